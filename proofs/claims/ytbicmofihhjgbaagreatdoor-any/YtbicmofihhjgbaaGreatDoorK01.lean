/- Part 2 of the proof: MdlT Blk CodC CodD CodQ CodR. -/
import Derived.Lib.AtoiErrMem
import Derived.Lib.ParseIntB
import Derived.Test.YtbicmofihhjgbaaGreatDoorShelf
import Derived.Test.YtbicmofihhjgbaaGreatDoorK00
set_option maxRecDepth 100000
set_option maxHeartbeats 8000000
namespace Go.Proofs.YtbicmofihhjgbaaGreatDoor
open Go.Proofs.Tryz
section
theorem zbN (s:ByteArray)(a:Nat)(ha:a<=s.size):(s.extract a s.size).size=s.size-a:=by rw[ByteArray.size_extract];omega
theorem zfd (s:ByteArray)(a i:Nat)(ha:a<=s.size):bt (s.extract a s.size) i=bt s (a+i):=by
 unfold bt;by_cases h:i<s.size-a
 . rw[dif_pos (by rw[zbN s a ha];exact h),dif_pos (by omega)];congr 1;rw[ByteArray.getElem_extract]
 . rw[dif_neg (by rw[zbN s a ha];exact h),dif_neg (by omega)]
theorem zlm (p:Nat->Bool)(s:ByteArray)(a:Nat)(ha:a<=s.size):∀f i,zc0 p (s.extract a s.size) f i+a=zc0 p s f (a+i):=by
 intro f;induction f with
 | zero=>intro i;show i+a=a+i;omega
 | succ f ih =>
   intro i
   show (if i<(s.extract a s.size).size/\p (bt (s.extract a s.size) i)=true then zc0 p (s.extract a s.size) f (i+1) else i)+a=(if a+i<s.size/\p (bt s (a+i))=true then zc0 p s f (a+i+1) else a+i);rw[zbN s a ha,zfd s a i ha];by_cases h:i<s.size-a/\p (bt s (a+i))=true
   . rw[if_pos h,if_pos ⟨by omega,h.2⟩,ih (i+1)];rfl
   . rw[if_neg h,if_neg (λh2=>h ⟨by omega,h2.2⟩)];omega
theorem zf3 (p:Nat->Bool)(s:ByteArray)(a:Nat)(ha:a<=s.size):zQ p (s.extract a s.size) 0+a=zQ p s a:=by unfold zQ;rw[zbN s a ha];have:=zlm p s a ha (s.size-a-0) 0;simpa using this
theorem zcL (s:ByteArray)(a n:Nat)(h:a+n<=s.size):(s.extract a s.size).extract 0 n=s.extract a (a+n):=by rw[ByteArray.extract_extract];congr 1;omega
def zdm:List UInt8->Bool×Nat->Bool×Nat
 | [],x=>x
 | c::r,x=>zdm r (if x.2 > (9223372036854775807-(c.toNat-48)) / 10 then (false,x.2) else (x.1,x.2*10+(c.toNat-48)))
theorem zlP:∀(l:List UInt8) (n:Nat),(zdm l (false,n)).1=false:=by
 intro l;induction l with
 | nil=>intro n;rfl
 | cons c r ih =>
   intro n
   show (zdm r (if n > (9223372036854775807-(c.toNat-48)) / 10 then (false,n) else (false,n*10+(c.toNat-48)))).1=false;split <;> exact ih _
def zfi (l:List UInt8):Prop:=∀c∈l,48<=c.toNat/\c.toNat<=57
theorem znD (M:Nat):∀(l:List UInt8) (acc:Nat),zfi l->Lib.parseUintM M acc l=.range∨∃u,Lib.parseUintM M acc l=.ok u/\acc<=u:=by
 intro l;induction l with
 | nil=>intro acc _;exact Or.inr ⟨acc,rfl,Nat.le_refl _⟩
 | cons c r ih =>
   intro acc h;have hc:=h c (by simp);have hr:zfi r:=λx hx=>h x (by simp[hx]);have e2:Lib.parseUintM M acc (c::r)=if 1844674407370955162<=acc then .range else if M<acc*10+(c.toNat-48) then .range else Lib.parseUintM M (acc*10+(c.toNat-48)) r:=(by rw[Lib.parseUintM,if_pos hc]);rw[e2];split
   . exact Or.inl rfl
   . split
     . exact Or.inl rfl
     . rcases ih (acc*10+(c.toNat-48)) hr with h1|⟨u,h1,h2⟩
       . exact Or.inl h1
       . exact Or.inr ⟨u,h1,by omega⟩
theorem zqR:∀(l:List UInt8) (acc:Nat),zfi l->acc<=9223372036854775807 ->
 ((zdm l (true,acc)).1=true->Lib.parseUintM 18446744073709551615 acc l=.ok (zdm l (true,acc)).2/\(zdm l (true,acc)).2<=9223372036854775807) /\
 ((zdm l (true,acc)).1=false->Lib.parseUintM 18446744073709551615 acc l=.range∨∃u,Lib.parseUintM 18446744073709551615 acc l=.ok u/\9223372036854775807<u):=by
 intro l;induction l with
 | nil=>intro acc _ ha;exact⟨λ_=>⟨rfl,ha⟩,λh=>by cases h⟩
 | cons c r ih =>
   intro acc h ha;have hc:=h c (by simp);have hr:zfi r:=λx hx=>h x (by simp[hx]);have e1:zdm (c::r) (true,acc)=zdm r (if acc > (9223372036854775807-(c.toNat-48)) / 10 then (false,acc) else (true,acc*10+(c.toNat-48))):=rfl;have e2:Lib.parseUintM 18446744073709551615 acc (c::r)=if 1844674407370955162<=acc then .range else if 18446744073709551615<acc*10+(c.toNat-48) then .range else Lib.parseUintM 18446744073709551615 (acc*10+(c.toNat-48)) r:=(by rw[Lib.parseUintM,if_pos hc]);rw[e1,e2];by_cases hov:acc > (9223372036854775807-(c.toNat-48)) / 10
   . rw[if_pos hov];refine⟨λh1=>?_,λ_=>?_⟩
     . rw[zlP] at h1;cases h1
     . split
       . exact Or.inl rfl
       . split
         . exact Or.inl rfl
         . rcases znD 18446744073709551615 r (acc*10+(c.toNat-48)) hr with h1|⟨u,h1,h2⟩
           . exact Or.inl h1
           . exact Or.inr ⟨u,h1,by omega⟩
   . rw[if_neg hov];have hb:acc*10+(c.toNat-48)<=9223372036854775807:=(by omega);rw[if_neg (by omega),if_neg (by omega)];exact ih _ hr hb
theorem zqC (l:List UInt8)(h:zfi l)(hne:l≠[]):Lib.parseIntB 64 l=if (zdm l (true,0)).1=true then .ok ((zdm l (true,0)).2:Int) else .range:=by
 obtain⟨c,r,rfl⟩:=List.exists_cons_of_ne_nil hne;have hc:=h c (by simp);have hp:=zqR (c::r) 0 h (by omega);have hu:Lib.parseUintB 64 (if c.toNat=43∨c.toNat=45 then r else c::r)=Lib.parseUintM 18446744073709551615 0 (c::r):=by rw[if_neg (by omega)];unfold Lib.parseUintB;rw[if_neg (by simp)]
 unfold Lib.parseIntB;simp only;rw[hu];cases hb:(zdm (c::r) (true,0)).1 with
 | true => obtain⟨h1,h2⟩:=hp.1 hb;rw[h1];simp only;rw[if_neg (by omega),if_neg (by omega),if_neg (by omega)];simp
 | false =>
   rw[if_neg (by simp)];rcases hp.2 hb with h1|⟨u,h1,h2⟩
   . rw[h1]
   . rw[h1];simp only;rw[if_pos ⟨by omega,by omega⟩]
def zcS (s:ByteArray)(i e:Nat):List UInt8:=(s.extract i e).data.toList
theorem zga (s:ByteArray)(i e:Nat)(hi:i<e)(he:e<=s.size):zcS s i e=s[i]'(by omega)::zcS s (i+1) e:=by unfold zcS;have hz:s.data.size=s.size:=rfl;rw[ByteArray.data_extract,ByteArray.data_extract,Array.toList_extract,Array.toList_extract,List.extract_eq_take_drop,List.extract_eq_take_drop];rw[List.drop_eq_getElem_cons (by rw[Array.length_toList,hz];omega),show e-i=(e-(i+1))+1 by omega,List.take_succ_cons];rfl
theorem zfX (s:ByteArray)(i:Nat):zcS s i i=[]:=by unfold zcS;rw[ByteArray.data_extract,Array.toList_extract,List.extract_eq_take_drop];simp
theorem zms (s:ByteArray):∀(f i:Nat) (x:Bool×Nat),f=s.size-i->zdt s f i x=zdm (zcS s i (zQ zT s i)) x/\zfi (zcS s i (zQ zT s i)):=by
 intro f;induction f with
 | zero => intro i x hf;rw[zjm (by omega),zfX];exact⟨rfl,λc hc=>by cases hc⟩
 | succ f ih =>
   intro i x hf;have hi:i<s.size:=(by omega);by_cases hd:zT (bt s i)=true
   . have hsp:=zd1 hi hd;have hle:i+1<=zQ zT s i:=(by rw[hsp];exact zdB _ _ _);have hle2:zQ zT s i<=s.size:=zcr _ _ _ (by omega);have hb:=ziM hi;have hc:=zga s i _ hle hle2;obtain⟨h1,h2⟩:=ih (i+1) (if x.2 > (9223372036854775807-(bt s i-48)) / 10 then (false,x.2) else (x.1,x.2*10+(bt s i-48))) (by omega);rw[<- hsp] at h1 h2;rw[hc];refine⟨?_,?_⟩
     . show (if i<s.size/\zT (bt s i)=true then _ else x)=zdm (zcS s (i+1) (zQ zT s i)) (if x.2 > (9223372036854775807-((s[i]).toNat-48)) / 10 then (false,x.2) else (x.1,x.2*10+((s[i]).toNat-48)));rw[if_pos ⟨hi,hd⟩,hb,h1]
     . intro c hc;rcases List.mem_cons.1 hc with h|h
       . subst h;rw[hb];simp[zT] at hd;exact hd
       . exact h2 c h
   . have hd':zT (bt s i)=false:=(by simpa using hd);rw[zif hd',zfX];refine⟨?_,λc hc=>by cases hc⟩
     show (if i<s.size/\zT (bt s i)=true then _ else x)=x;rw[if_neg (λh=>hd h.2)]
theorem zn1 (s:ByteArray)(a:Nat)(ha:a<s.size)(hd:zT (bt s a)=true):Lib.parseIntB 64 (s.extract a (zQ zT s a)).data.toList=if (zdt s (s.size-a) a (true,0)).1=true then .ok ((zdt s (s.size-a) a (true,0)).2:Int) else .range:=by
 obtain⟨h1,h2⟩:=zms s (s.size-a) a (true,0) rfl;have hle:a+1<=zQ zT s a:=by rw[zd1 ha hd];exact zdB _ _ _
 have hle2:zQ zT s a<=s.size:=zcr _ _ _ (by omega);rw[h1];refine zqC _ h2 ?_
 show zcS s a (zQ zT s a)≠[];rw[zga s a _ hle hle2];simp
end
section
open Go.RowKit
variable {b:Nat} {e:TypeId} {v0 v1 v2 v3 v4 v5:Value} {w:World}
theorem ze {o:Obj}(h:w.heap[b]?=some o):b<w.heap.size:=by
 rcases Nat.lt_or_ge b w.heap.size with h1|h1
 . exact h1
 . rw[Array.getElem?_eq_none h1] at h;cases h
theorem zu (h:w.heap[b]?=some (.cells #[v0] e (0,0))):w.cell? (xD b 0)=some v0/\(∀i,w.frozen? (xD b i)=false)/\b<w.heap.size :=
 ⟨by simp[World.cell?,h],λi=>by simp[World.frozen?,h],ze h⟩
theorem zp (h:w.heap[b]?=some (.cells #[v0,v1] e (0,0))):w.cell? (xD b 0)=some v0/\w.cell? (xD b 1)=some v1/\(∀i,w.frozen? (xD b i)=false)/\b<w.heap.size :=
 ⟨by simp[World.cell?,h],by simp[World.cell?,h],λi=>by simp[World.frozen?,h],ze h⟩
theorem zL (h:w.heap[b]?=some (.cells #[v0,v1,v2] e (0,0))):w.cell? (xD b 0)=some v0/\w.cell? (xD b 1)=some v1/\w.cell? (xD b 2)=some v2/\(∀i,w.frozen? (xD b i)=false)/\b<w.heap.size :=
 ⟨by simp[World.cell?,h],by simp[World.cell?,h],by simp[World.cell?,h],λi=>by simp[World.frozen?,h],ze h⟩
theorem zU (h:w.heap[b]?=some (.cells #[v0,v1,v2,v3] e (0,0))):w.cell? (xD b 0)=some v0/\w.cell? (xD b 1)=some v1/\w.cell? (xD b 2)=some v2/\w.cell? (xD b 3)=some v3/\(∀i,w.frozen? (xD b i)=false)/\b<w.heap.size :=
 ⟨by simp[World.cell?,h],by simp[World.cell?,h],by simp[World.cell?,h],by simp[World.cell?,h],λi=>by simp[World.frozen?,h],ze h⟩
theorem zcf (h:w.heap[b]?=some (.cells #[v0,v1,v2,v3,v4] e (0,0))):w.cell? (xD b 0)=some v0/\w.cell? (xD b 1)=some v1/\w.cell? (xD b 2)=some v2/\w.cell? (xD b 3)=some v3/\w.cell? (xD b 4)=some v4/\(∀i,w.frozen? (xD b i)=false)/\b<w.heap.size :=
 ⟨by simp[World.cell?,h],by simp[World.cell?,h],by simp[World.cell?,h],by simp[World.cell?,h],by simp[World.cell?,h],λi=>by simp[World.frozen?,h],ze h⟩
theorem zt (h:w.heap[b]?=some (.cells #[v0,v1,v2,v3,v4,v5] e (0,0))):w.cell? (xD b 0)=some v0/\w.cell? (xD b 1)=some v1/\w.cell? (xD b 2)=some v2/\w.cell? (xD b 3)=some v3/\w.cell? (xD b 4)=some v4/\w.cell? (xD b 5)=some v5/\(∀i,w.frozen? (xD b i)=false)/\b<w.heap.size :=
 ⟨by simp[World.cell?,h],by simp[World.cell?,h],by simp[World.cell?,h],by simp[World.cell?,h],by simp[World.cell?,h],by simp[World.cell?,h],λi=>by simp[World.frozen?,h],ze h⟩
theorem zbZ {v6:Value}(h:w.heap[b]?=some (.cells #[v0,v1,v2,v3,v4,v5,v6] e (0,0))):w.cell? (xD b 0)=some v0/\w.cell? (xD b 1)=some v1/\w.cell? (xD b 2)=some v2/\w.cell? (xD b 3)=some v3/\w.cell? (xD b 4)=some v4/\w.cell? (xD b 5)=some v5/\w.cell? (xD b 6)=some v6/\(∀i,w.frozen? (xD b i)=false)/\b<w.heap.size :=
 ⟨by simp[World.cell?,h],by simp[World.cell?,h],by simp[World.cell?,h],by simp[World.cell?,h],by simp[World.cell?,h],by simp[World.cell?,h],by simp[World.cell?,h],λi=>by simp[World.frozen?,h],ze h⟩
end
section
open Go.RowKit
variable {w w2:World}
theorem zoo {e:TypeId}(h:w2=w∨∃t,w2=Lib.bytesWorld w e t):xB w w2:=by
 rcases h with rfl|⟨t,rfl⟩
 . exact Below.refl _ _
 . exact Lib.bytesWorld_below _ _ _
theorem zeu {o:Obj}(h:Below (w.alloc o).heap.size (w.alloc o) w2):xB w w2 :=
 ⟨h.os,h.tape,h.output,Nat.le_trans (by simp) h.size,λk hk=>(h.block k (by simp;omega)).trans (Below.heap_alloc _ _ _ hk)⟩
theorem zb6 {fn:Func}{p:Tmp}(h:fn.results=#[.cell p 79]){tmps:Array Value}{b:Nat}(hp:tmps[p]?.getD undef=xP b){v0 v1 v2 v3:Value}(hh:xH w b #[v0,v1,v2,v3] 79):(results fn tmps).run prog w=.ok (.agg #[v0,v1,v2,v3]) w:=by obtain⟨c0,c1,c2,c3,_⟩:=zU hh;simp[results,h,hp,go_sem,c0,c1,c2,c3]
def zlt (r:ByteArray)(a:Nat):Value :=
 if (zdt r (r.size-0) 0 (true,0)).1=true then zaw 4 (r.extract 0 (zQ zT r 0)) a (zdt r (r.size-0) 0 (true,0)).2 else zaw 0 ⟨#[]⟩ a 0
theorem zl0 (S:Nat->Addr)(r:ByteArray)(hs:r.size<=1200)(h0:0<r.size)(hd:zT (bt r 0)=true)(a:Nat)(w:World)(hG:Gl S w) :
 xK 83 #[.string r,xI a] w λe w'=>e=.returned (zlt r a)/\xB w w':=by
 have h1:=zcr zT r 0 (Nat.zero_le _);have hP:=zn1 r 0 h0 hd;have HV:Hid (zlt r a=if (zdt r (r.size-0) 0 (true,0)).1=true then zaw 4 (r.extract 0 (zQ zT r 0)) a (zdt r (r.size-0) 0 (true,0)).2 else zaw 0 ⟨#[]⟩ a 0):=rfl;obtain⟨n,Hn⟩:∃n,zQ zT r 0=n:=⟨_,rfl⟩;generalize zdt r (r.size-0) 0 (true,0)=x at *;rw[Hn] at h1 hP HV;have hrg:w.cell? (xD 17 0)=some (.iface 324 (.pointer (some (S 12)))):=hG.range;have hgz:=hG.size;have hg17:17<w.heap.size:=Nat.lt_of_lt_of_le (by decide) hgz;have hsz:(r.extract 0 n).size<=281474976710656:=by rw[ByteArray.size_extract];omega
 cases hx:x.1 with
 | true => rw[hx,if_pos rfl] at hP HV;have HPi:=za (Tryz.strconv_ParseInt_10_at64_ok (r.extract 0 n) (by omega) x.2 hP (w.alloc (.cells #[xI 0,.string ⟨#[]⟩,xI 0,xI 0] 79)));go_enter func83,ntmps83;go_wp2_with (first|(go_at_call 147;refine HPi.o.mono ?_;rintro e w2 ⟨rfl,hw2⟩;have Hb2:=zoo hw2;have Hh2:=(Hb2.block w.heap.size (Nat.lt_of_lt_of_eq (Nat.lt_succ_self _) (by simp))).trans (zc w _);obtain⟨d0,d1,d2,d3,df,dz⟩:=zU Hh2)|(go_at_call 78;refine (zdv _ zT zg0 zcp r hs _).mono ?_;rintro e w' ⟨rfl,rfl⟩;rw[Hn]));refine bodyPost_ret (v:=zaw 4 (r.extract 0 n) a x.2) (zb6 rfl rfl (zb7 Hh2 _ _ _ _)) rfl ⟨by rw[HV.o],?_⟩;exact (((((zeu Hb2).setCell (Nat.le_refl _) _).setCell (Nat.le_refl _) _).setCell (Nat.le_refl _) _).setCell (Nat.le_refl _) _)
 | false => rw[hx,if_neg (by simp)] at hP HV;have HPi:=za (Tryz.strconv_ParseInt_10_at64_range (r.extract 0 n) hsz hP (.iface 324 (.pointer (some (S 12)))) (w.alloc (.cells #[xI 0,.string ⟨#[]⟩,xI 0,xI 0] 79)) ((World.cell?_alloc_lt _ _ _ hg17).trans hrg) (Or.inr ⟨_,_,rfl⟩));go_enter func83,ntmps83;go_wp2_with (first|(go_at_call 147;refine HPi.o.mono ?_;rintro e w2 ⟨N,rfl,_,_,Hb2⟩;have Hh2:=(Hb2.block w.heap.size (Nat.lt_of_lt_of_eq (Nat.lt_succ_self _) (by simp))).trans (zc w _);obtain⟨d0,d1,d2,d3,df,dz⟩:=zU Hh2)|(go_at_call 78;refine (zdv _ zT zg0 zcp r hs _).mono ?_;rintro e w' ⟨rfl,rfl⟩;rw[Hn]));refine bodyPost_ret (v:=zaw 0 ⟨#[]⟩ a 0) (zb6 rfl rfl (zb7 Hh2 _ _ _ _)) rfl ⟨by rw[HV.o],?_⟩;exact (((((zeu Hb2).setCell (Nat.le_refl _) _).setCell (Nat.le_refl _) _).setCell (Nat.le_refl _) _).setCell (Nat.le_refl _) _)
def ziQ (r:ByteArray)(a:Nat):Value :=
 if 2<=r.size/\((r.extract 0 2).toList==[45,62]||(r.extract 0 2).toList==[60,62]||(r.extract 0 2).toList==[60,61])=true then zaw 2 (r.extract 0 2) a 0
 else if zfe (bt r 0) then zaw 2 (r.extract 0 1) a 0 else zaw 0 ⟨#[]⟩ a 0
theorem zfA (s t:ByteArray)(ht:t.size=2)(hs:s.size<=1200)(w:World):xK 148 #[.string s,.string t] w λe w'=>e=.returned (.bool (decide (2<=s.size)&&(s.extract 0 2).toList==t.toList))/\w=w':=by
 go_enter func148,ntmps148;go_wp2;all_goals go_ret
 . rename_i h
   have:decide (2<=s.size)=true:=by simp;omega
   rw[this];exact⟨rfl,rfl⟩
 . rename_i h
   have:decide (2<=s.size)=false:=by simp;omega
   rw[this];exact⟨rfl,rfl⟩
theorem zpy:∀n,n<256->decide ((0:Int)<=Lib.indexByte [40,41,123,125,58,59,44,61,60,43,45,42,47,37] n.toUInt8)=zfe n:=by decide +kernel
theorem zi9 {s t:ByteArray}(h:s.toList=t.toList):s=t:=by rw[ByteArray.toList_eq,ByteArray.toList_eq] at h;exact ByteArray.ext (Array.toList_inj.1 h)
theorem ix3 (s0 s1 s2:ByteArray)(w:World):(Instr.index 261 (.agg #[.string s0,.string s1,.string s2]) (xI 0)).run prog w=.ok (.string s0) w/\(Instr.index 261 (.agg #[.string s0,.string s1,.string s2]) (xI 1)).run prog w=.ok (.string s1) w/\(Instr.index 261 (.agg #[.string s0,.string s1,.string s2]) (xI 2)).run prog w=.ok (.string s2) w:=⟨by kernel_rfl,by kernel_rfl,by kernel_rfl⟩
theorem zrm (r:ByteArray)(i:Nat):bt r i<256:=by
 unfold bt;split
 . exact UInt8.toNat_lt _
 . decide
theorem znT (r:ByteArray)(hs:r.size<=1200)(h0:0<r.size)(a:Nat)(w:World) :
 xK 84 #[.string r,xI a] w λe w'=>e=.returned (ziQ r a)/\xB w w':=by
 have hx0:=λw=>(ix3 ⟨#[45,62]⟩ ⟨#[60,62]⟩ ⟨#[60,61]⟩ w).1;have hx1:=λw=>(ix3 ⟨#[45,62]⟩ ⟨#[60,62]⟩ ⟨#[60,61]⟩ w).2.1;have hx2:=λw=>(ix3 ⟨#[45,62]⟩ ⟨#[60,62]⟩ ⟨#[60,61]⟩ w).2.2;have hb:=ziM h0;have hb256:=zrm r 0;have hsx:=zpy (bt r 0) hb256;have t1:(⟨#[45,62]⟩:ByteArray).toList=[45,62]:=by decide +kernel
 have t2:(⟨#[60,62]⟩:ByteArray).toList=[60,62]:=by decide +kernel
 have t3:(⟨#[60,61]⟩:ByteArray).toList=[60,61]:=by decide +kernel
 have HV:Hid (ziQ r a=if 2<=r.size/\((r.extract 0 2).toList==[45,62]||(r.extract 0 2).toList==[60,62]||(r.extract 0 2).toList==[60,61])=true then zaw 2 (r.extract 0 2) a 0 else if zfe (bt r 0) then zaw 2 (r.extract 0 1) a 0 else zaw 0 ⟨#[]⟩ a 0):=rfl;obtain⟨c,hc⟩:∃c,bt r 0=c:=⟨_,rfl⟩;rw[hc] at hb hsx HV;have Hsx:=za hsx;have T1:=za t1;have T2:=za t2;have T3:=za t3;clear hc hsx t1 t2 t3 hb256;go_enter func84,ntmps84;go_wp2_with fail;refine wp_loop_rounds 4 ?_;rw[rounds_succ];go_wp2_with (go_at_call 148;refine (zfA _ _ rfl hs _).mono ?_;rintro e w' ⟨rfl,rfl⟩;rw[T1.o])
 . rename_i h1
   refine bodyPost_ret (v:=zaw 2 ⟨#[45,62]⟩ a 0) (by simp[results,results84,go_sem,zaw]) rfl ⟨?_,(Below.refl _ _).alloc (Nat.le_refl _) _⟩;simp only[beq_iff_eq] at h1;rw[HV.o,if_pos ⟨h1.1,by simp[h1.2]⟩,zi9 (h1.2.trans T1.o.symm)]
 . rename_i h1
   rw[rounds_succ];go_wp2_with (go_at_call 148;refine (zfA _ _ rfl hs _).mono ?_;rintro e w' ⟨rfl,rfl⟩;rw[T2.o])
   . rename_i h2
     refine bodyPost_ret (v:=zaw 2 ⟨#[60,62]⟩ a 0) (by simp[results,results84,go_sem,zaw]) rfl ⟨?_,(Below.refl _ _).alloc (Nat.le_refl _) _⟩;simp only[beq_iff_eq] at h2;rw[HV.o,if_pos ⟨h2.1,by simp[h2.2]⟩,zi9 (h2.2.trans T2.o.symm)]
   . rename_i h2
     rw[rounds_succ];go_wp2_with (go_at_call 148;refine (zfA _ _ rfl hs _).mono ?_;rintro e w' ⟨rfl,rfl⟩;rw[T3.o])
     . rename_i h3
       refine bodyPost_ret (v:=zaw 2 ⟨#[60,61]⟩ a 0) (by simp[results,results84,go_sem,zaw]) rfl ⟨?_,(Below.refl _ _).alloc (Nat.le_refl _) _⟩;simp only[beq_iff_eq] at h3;rw[HV.o,if_pos ⟨h3.1,by simp[h3.2]⟩,zi9 (h3.2.trans T3.o.symm)]
     . rename_i h3
       have HN:Hid (¬(2<=r.size/\((r.extract 0 2).toList==[45,62]||(r.extract 0 2).toList==[60,62]||(r.extract 0 2).toList==[60,61])=true)):=by
        rintro⟨g1,g2⟩;simp only[Bool.or_eq_true] at g2;rcases g2 with (g2|g2)|g2
        . rw[g2] at h1;simp[g1] at h1
        . rw[g2] at h2;simp[g1] at h2
        . rw[g2] at h3;simp[g1] at h3
       have hv:=HV.o;rw[if_neg HN.o] at hv;have HV2:=za hv;clear h1 h2 h3 hv HV HN;rw[rounds_succ];go_wp2_with (go_at_call 149;refine (Tryz.strings_IndexByte _ _ _).mono ?_;rintro e w' ⟨rfl,rfl⟩)
       . rename_i h5
         have h6:zfe c=true:=(by rw[<- Hsx.o];exact decide_eq_true h5);refine bodyPost_ret (v:=zaw 2 (r.extract 0 1) a 0) (by simp[results,results84,go_sem,zaw]) rfl ⟨by rw[HV2.o,if_pos h6],(Below.refl _ _).alloc (Nat.le_refl _) _⟩
       . rename_i h5
         have h6:¬zfe c=true:=(by rw[<- Hsx.o];intro h7;exact absurd (of_decide_eq_true h7) (by first|exact h5|exact Int.not_le.2 h5));refine bodyPost_ret (v:=zaw 0 ⟨#[]⟩ a 0) (by simp[results,results84,go_sem,zaw]) rfl ⟨by rw[HV2.o,if_neg h6],(Below.refl _ _).alloc (Nat.le_refl _) _⟩
end
section
open Go.RowKit
def Tk.cval (src:ByteArray)(t:Tk):Value:=.agg #[xI (ck t),.string (cs src t),xI t.a,xI (cn t)]
theorem znL (s:ByteArray)(a:Nat)(ha:a<=s.size):zhy (s.extract a s.size) a=(zfg s a).cval s:=by
 have h1:=zf3 inW s a ha;have h2:=zcr inW s a ha;have h3:=zdB inW s a;obtain⟨n,hn⟩:∃n,zQ inW (s.extract a s.size) 0=n:=⟨_,rfl⟩;rw[hn] at h1;have hx:(s.extract a s.size).extract 0 n=s.extract a (zQ inW s a):=by rw[zcL s a n (by omega),<- h1];congr 1;omega
 unfold zhy zfg;simp only[hn,hx];have hz:(s.extract a (zQ inW s a)).size=zQ inW s a-a:=by rw[ByteArray.size_extract];omega
 rw[hz];cases hk:zcW (s.extract a (zQ inW s a)) with
 | true=>rfl
 | false =>
   by_cases hl:zQ inW s a-a<=12
   . have hl2:¬zQ inW s a-a > 12:=(by omega);simp[hl,hl2,Tk.cval,zaw,ck,cs,cn]
   . have hl2:zQ inW s a-a > 12:=(by omega);simp[hl,hl2,Tk.cval,zaw,ck,cs,cn]
theorem znr (s:ByteArray)(a:Nat)(ha:a<=s.size):∀f i x,zdt (s.extract a s.size) f i x=zdt s f (a+i) x:=by
 intro f;induction f with
 | zero=>intro i x;rfl
 | succ f ih =>
   intro i x
   show (if i<(s.extract a s.size).size/\zT (bt (s.extract a s.size) i)=true then _ else x)=(if a+i<s.size/\zT (bt s (a+i))=true then _ else x);rw[zbN s a ha,zfd s a i ha];by_cases h:i<s.size-a/\zT (bt s (a+i))=true
   . rw[if_pos h,if_pos (show a+i<s.size/\zT (bt s (a+i))=true from ⟨by omega,h.2⟩),ih (i+1)];rfl
   . rw[if_neg h,if_neg (show ¬(a+i<s.size/\zT (bt s (a+i))=true) from λh2=>h ⟨by omega,h2.2⟩)]
theorem zpa (s:ByteArray)(a:Nat)(ha:a<=s.size):zlt (s.extract a s.size) a=(zgc s a).cval s:=by
 have h1:=zf3 zT s a ha;have h2:=zcr zT s a ha;obtain⟨n,hn⟩:∃n,zQ zT (s.extract a s.size) 0=n:=⟨_,rfl⟩;rw[hn] at h1;have hx:(s.extract a s.size).extract 0 n=s.extract a (zQ zT s a):=by rw[zcL s a n (by omega),<- h1];congr 1;omega
 unfold zlt zgc;rw[znr s a ha,zbN s a ha];simp only[hn,hx,Nat.add_zero,Nat.sub_zero];cases hk:(zdt s (s.size-a) a (true,0)).1 with
 | true=>rfl
 | false=>rfl
theorem zod (s:ByteArray)(a:Nat)(ha:a<s.size):ziQ (s.extract a s.size) a=(zfh s a).cval s:=by
 unfold ziQ zfh;rw[zbN s a (by omega),zfd s a 0 (by omega)];have e1:(s.extract a s.size).extract 0 1=s.extract a (a+1):=zcL s a 1 (by omega);have hcond:(2<=s.size-a/\(((s.extract a s.size).extract 0 2).toList==[45,62]||((s.extract a s.size).extract 0 2).toList==[60,62]||((s.extract a s.size).extract 0 2).toList==[60,61])=true)=(a+2<=s.size/\((s.extract a (a+2)).toList==[45,62]||(s.extract a (a+2)).toList==[60,62]||(s.extract a (a+2)).toList==[60,61])=true):=by
  apply propext;by_cases h2:a+2<=s.size
  . rw[zcL s a 2 h2];constructor <;> (rintro⟨g1,g2⟩;exact⟨by omega,g2⟩)
  . constructor <;> (rintro⟨g1,_⟩;omega)
 by_cases hc:(a+2<=s.size/\((s.extract a (a+2)).toList==[45,62]||(s.extract a (a+2)).toList==[60,62]||(s.extract a (a+2)).toList==[60,61])=true)
 . rw[if_pos (hcond▸hc),if_pos hc,zcL s a 2 hc.1];rfl
 . rw[if_neg (hcond▸hc),if_neg hc,e1];simp only[Nat.add_zero];split <;> rfl
theorem zi0 (S:Nat->Addr)(s:ByteArray)(p:Nat)(w:World)(hs:s.size<=1200)(hp:p<=s.size)(hG:Gl S w):xK 43 #[.string s,xI p] w λe w'=>e=.returned ((zZ s p).cval s)/\xB w w':=by
 have hsz1:=zbN s p hp;have hsp:=zf3 zbY s p hp;have hle:=zdB zbY s p;have hle2:=zcr zbY s p hp;obtain⟨n,hn⟩:∃n,zQ zbY (s.extract p s.size) 0=n:=⟨_,rfl⟩;rw[hn] at hsp;have Hn:=za hn;have HSp:=za (zdv _ zbY zlA zkj (s.extract p s.size) (by omega));rw[hn] at HSp;have HN:Hid (zZ s p=if zQ zbY s p=s.size then ⟨0,zQ zbY s p,zQ zbY s p,⟨#[]⟩,0⟩ else if zeM (bt s (zQ zbY s p)) then zfg s (zQ zbY s p) else if zT (bt s (zQ zbY s p)) then zgc s (zQ zbY s p) else zfh s (zQ zbY s p)):=rfl;generalize zQ zbY s p=q at *;have HG:=za hG;have hpn:IntKind.i64.wrap ((p:Int)+(n:Int))=(q:Nat):=by rw[IntKind.wrap_i64];omega
 have hpn':(p:Int)+(n:Int)=(q:Nat):=by omega
 have hq1200:q<=1200:=by omega
 have hrz:(s.extract q s.size).size=s.size-q:=zbN s q hle2;clear hn hG hsz1;by_cases hq:q=s.size
 . have hem:(s.extract q s.size).toList.isEmpty=true:=by rw[List.isEmpty_iff,<- List.length_eq_zero_iff,zd7,hrz];omega
   rw[if_pos hq] at HN;have Hq:=za hq;clear hq;go_enter func43,ntmps43;go_wp2_with (go_at_call 78;refine (HSp.o _).mono ?_;rintro e w' ⟨rfl,rfl⟩);refine bodyPost_ret (v:=zaw 1 ⟨#[]⟩ q 0) (by simp[results,results43,go_sem,zaw]) rfl ⟨by rw[HN.o];rfl,(Below.refl _ _).alloc (Nat.le_refl _) _⟩
 . have hlt:q<s.size:=by omega
   have hem:(s.extract q s.size).toList.isEmpty=false:=(by rw[Bool.eq_false_iff];intro h;rw[List.isEmpty_iff,<- List.length_eq_zero_iff,zd7,hrz] at h;omega);have hr0:0<(s.extract q s.size).size:=(by omega);have hb0:=ziM hr0;rw[zfd s q 0 hle2,Nat.add_zero] at hb0;have Hb0:=za hb0;rw[if_neg hq] at HN;obtain⟨c,hc⟩:∃c,bt s q=c:=⟨_,rfl⟩;rw[hc] at hb0 HN;have Hc:=za hc;have hrs:(s.extract q s.size).size<=1200:=(by omega);have HWd:=za (znL s q hle2);have HDg:=za (zpa s q hle2);have HSg:=za (zod s q hlt);have HWc:=za (λw1=>znH (s.extract q s.size) hrs q w1);have HSc:=za (λw1=>znT (s.extract q s.size) hrs hr0 q w1);clear hc hq;cases hl:zeM c with
   | true => rw[hl,if_pos rfl] at HN;have Hl:=za hl;clear hl;go_enter func43,ntmps43;go_wp2_with (first|(go_at_call 78;refine (HSp.o _).mono ?_;rintro e w' ⟨rfl,rfl⟩)|(go_at_call 80;refine (zb2 c _).mono ?_;rintro e w' ⟨rfl,rfl⟩;rw[Hl.o]));refine (HWc.o _).mono ?_;rintro e w2 ⟨rfl,hb2⟩;rw[HWd.o];have hh2:=(hb2.block w.heap.size (Nat.lt_of_lt_of_eq (Nat.lt_succ_self _) (by simp))).trans (zc w _);obtain⟨d0,d1,d2,d3,df,dz⟩:=zU hh2;have Hh2:=za hh2;have Hb2:=za hb2;clear hb2 hh2;simp only[Tk.cval];go_wp2_with fail;refine bodyPost_ret (v:=(zZ s p).cval s) (by rw[HN.o];exact zb6 rfl rfl (zb7 Hh2.o _ _ _ _)) rfl ⟨rfl,?_⟩;exact (((((zeu Hb2.o).setCell (Nat.le_refl _) _).setCell (Nat.le_refl _) _).setCell (Nat.le_refl _) _).setCell (Nat.le_refl _) _)
   | false =>
     rw[hl,if_neg (by simp)] at HN;have Hl:=za hl;clear hl;cases hd:zT c with
     | true => rw[hd,if_pos rfl] at HN;have HDc:=za (λw1 h=>zl0 S (s.extract q s.size) hrs hr0 (by rw[zfd s q 0 hle2,Nat.add_zero,Hc.o];exact hd) q w1 h);have Hd:=za hd;have hG1:=HG.o.of (T:=λ_=>False) ((Fr.refl _ w).alloc (.cells #[xI 0,.string ⟨#[]⟩,xI 0,xI 0] 79)) (λ_ h=>h.elim);have HG1:=za hG1;clear hd hG1;go_enter func43,ntmps43;go_wp2_with (first|(go_at_call 78;refine (HSp.o _).mono ?_;rintro e w' ⟨rfl,rfl⟩)|(go_at_call 80;refine (zb2 c _).mono ?_;rintro e w' ⟨rfl,rfl⟩;rw[Hl.o])|(go_at_call 82;refine (zcp c _).mono ?_;rintro e w' ⟨rfl,rfl⟩;rw[Hd.o]));refine (HDc.o _ HG1.o).mono ?_;rintro e w2 ⟨rfl,hb2⟩;rw[HDg.o];have hh2:=(hb2.block w.heap.size (Nat.lt_of_lt_of_eq (Nat.lt_succ_self _) (by simp))).trans (zc w _);obtain⟨d0,d1,d2,d3,df,dz⟩:=zU hh2;have Hh2:=za hh2;have Hb2:=za hb2;clear hb2 hh2;simp only[Tk.cval];go_wp2_with fail;refine bodyPost_ret (v:=(zZ s p).cval s) (by rw[HN.o];exact zb6 rfl rfl (zb7 Hh2.o _ _ _ _)) rfl ⟨rfl,?_⟩;exact (((((zeu Hb2.o).setCell (Nat.le_refl _) _).setCell (Nat.le_refl _) _).setCell (Nat.le_refl _) _).setCell (Nat.le_refl _) _)
     | false => rw[hd,if_neg (by simp)] at HN;have Hd:=za hd;clear hd;go_enter func43,ntmps43;go_wp2_with (first|(go_at_call 78;refine (HSp.o _).mono ?_;rintro e w' ⟨rfl,rfl⟩)|(go_at_call 80;refine (zb2 c _).mono ?_;rintro e w' ⟨rfl,rfl⟩;rw[Hl.o])|(go_at_call 82;refine (zcp c _).mono ?_;rintro e w' ⟨rfl,rfl⟩;rw[Hd.o]));refine (HSc.o _).mono ?_;rintro e w2 ⟨rfl,hb2⟩;rw[HSg.o];have hh2:=(hb2.block w.heap.size (Nat.lt_of_lt_of_eq (Nat.lt_succ_self _) (by simp))).trans (zc w _);obtain⟨d0,d1,d2,d3,df,dz⟩:=zU hh2;have Hh2:=za hh2;have Hb2:=za hb2;clear hb2 hh2;simp only[Tk.cval];go_wp2_with fail;refine bodyPost_ret (v:=(zZ s p).cval s) (by rw[HN.o];exact zb6 rfl rfl (zb7 Hh2.o _ _ _ _)) rfl ⟨rfl,?_⟩;exact (((((zeu Hb2.o).setCell (Nat.le_refl _) _).setCell (Nat.le_refl _) _).setCell (Nat.le_refl _) _).setCell (Nat.le_refl _) _)
theorem zqT (S:Nat->Addr)(pb:Nat)(st:St)(s:ByteArray)(w:World)(hR:PL S w pb st):xK 85 #[xP pb,.string s] w λe w'=>e=.returned (.bool (ck st.t==2&&(cs st.src st.t).toList==s.toList))/\w=w':=by
 obtain⟨h0,h1,h2,h3,h4,h5,h6⟩:=hR.cells;clear hR;by_cases hk:ck st.t=2
 . have hk':((ck st.t:Int)==2)=true:=beq_iff_eq.2 (by omega);have H:Hid ((ck st.t==2)=true):=by unfold Hid;simp[hk]
   clear hk;go_enter func85,ntmps85;go_wp2;go_ret;exact⟨by rw[H.o];simp,rfl⟩
 . have hk':((ck st.t:Int)==2)=false:=beq_eq_false_iff_ne.2 (by omega);have H:Hid ((ck st.t==2)=false):=by unfold Hid;simp[hk]
   clear hk;go_enter func85,ntmps85;go_wp2;go_ret;exact⟨by rw[H.o];rfl,rfl⟩
theorem zi3 (S:Nat->Addr)(k:Nat)(a:Nat)(w:World):xK 42 #[.iface 324 (.pointer (some (S k))),xI a] w λe w'=>e=.returned (.agg #[.iface 324 (.pointer (some (S k))),xI a])/\xB w w':=by go_enter func42,ntmps42;go_wp2;exact bodyPost_ret (v:=.agg #[.iface 324 (.pointer (some (S k))),xI a]) (by simp[results,results42,go_sem]) rfl ⟨rfl,(Below.refl _ _).alloc (Nat.le_refl _) _⟩
theorem zc5 (S:Nat->Addr)(pb:Nat)(st:St)(e:Nat)(He:e≠0)(w:World)(HR:PL S w pb st):xK 87 #[xP pb,.iface 324 (.pointer (some (S e)))] w λe' w'=>e'=.returned (.tuple #[])/\PL S w' pb (st.fail e st.t.a)/\Fr (·=pb) w w':=by
 have hf:=HR.frozen;have hlt:=HR.lt;obtain⟨h0,h1,h2,h3,h4,h5,h6⟩:=HR.cells;by_cases hr:st.er=0
 . have HE:Hid (st.fail e st.t.a={ st with er:=e,at':=st.t.a,t:=⟨1,st.t.a,st.t.t,⟨#[]⟩,0⟩ }):=by unfold Hid St.fail;rw[if_pos hr]
   rw[show za2 S st.er st.at'=.nilIface by simp[za2,hr]] at h6;clear hr;go_enter func87,ntmps87;go_wp2_with (go_at_call 42;refine (zi3 S _ _ _).mono ?_;rintro e1 w1 ⟨rfl,Hb1⟩;obtain⟨hc1,hf1⟩:=zoV Hb1;have hz1:=Hb1.size);go_end0;refine⟨rfl,?_,?_⟩
   . have P:=((HR.below Hb1).setErr e st.t.a).setTok ⟨1,st.t.a,st.t.t,⟨#[]⟩,0⟩ (zl7 _ _ _);rw[show za2 S e st.t.a=.iface 71 (.agg #[sen S e,xI st.t.a]) by simp[za2,He]] at P;rw[HE.o];exact P
   . exact (((((((Fr.refl _ w).belowed Hb1).set1 _ _).set1 _ _).set1 _ _).set1 _ _).set1 _ _)
 . have HE:Hid (st.fail e st.t.a={ st with t:=⟨1,st.t.a,st.t.t,⟨#[]⟩,0⟩ }):=by unfold Hid St.fail;rw[if_neg hr]
   rw[show za2 S st.er st.at'=.iface 71 (.agg #[sen S st.er,xI st.at']) by simp[za2,hr]] at h6;clear hr;go_enter func87,ntmps87;go_wp2;go_end0;refine⟨rfl,?_,?_⟩
   . rw[HE.o];exact HR.setTok ⟨1,st.t.a,st.t.t,⟨#[]⟩,0⟩ (zl7 _ _ _)
   . exact ((((Fr.refl _ w).set1 _ _).set1 _ _).set1 _ _).set1 _ _
theorem zmj (S:Nat->Addr)(s:ByteArray)(pi:Int)(p:Nat)(hpi:pi=p)(w:World)(hs:s.size<=1200)(hp:p<=s.size)(hG:Gl S w):xK 43 #[.string s,xI pi] w λe w'=>e=.returned ((zZ s p).cval s)/\xB w w':=by subst hpi;exact zi0 S s p w hs hp hG
theorem zb9 (S:Nat->Addr)(pb:Nat)(st:St)(w:World)(hO:st.Ok)(hk:2<=st.t.k)(hR:PL S w pb st):xK 186 #[xP pb] w λe' w'=>e'=.returned (st.t.cval st.src)/\PL S w' pb { st with t:=zZ st.src st.t.t }/\Fr (·=pb) w w':=by
 have hf:=hR.frozen;have hlt:=hR.lt;have hne:¬w.heap.size=pb:=by omega
 have hne':¬pb=w.heap.size:=by omega
 obtain⟨h0,h1,h2,h3,h4,h5,h6⟩:=hR.cells;have g1:=hO.src;have g2:=hO.tt;have g3:=hO.ta;have hz:(cs st.src st.t).size=st.t.t-st.t.a:=by rw[zrl hR.tx,if_pos hk,ByteArray.size_extract];omega
 have hpi:IntKind.i64.wrap ((st.t.a:Int)+((cs st.src st.t).size:Int))=(st.t.t:Nat):=by rw[hz,IntKind.wrap_i64];omega
 have HZ:=za hpi;have hcz:(cs st.src st.t).size<=1200:=by omega
 have HR:=za hR;have HO:=za hO;clear hR hO hk hz hpi;generalize hcs:cs st.src st.t=C at *;go_enter func186,ntmps186;go_wp2_with fail;go_region_with (go_at_call 43;refine (zmj S _ _ st.t.t HZ.o _ HO.o.src HO.o.tt (((HR.o.alloc _).alloc _).drew.gl)).mono ?_;rintro e w1 ⟨rfl,hb1⟩;replace hb1:=zw hb1;have HL1:Hid (PL S w1 pb st):=((HR.o.alloc _).alloc _).below hb1;have HF1:Hid (Fr (·=pb) w w1):=(((Fr.refl _ _).alloc _).alloc _).belowed hb1;obtain⟨g0,g1,g2,g3,g4,g5,g6⟩:=HL1.o.cells;have gf:=HL1.o.frozen;have hlt1:=HL1.o.lt;have Hb1:=za hb1;obtain⟨hc1,hf1⟩:=zoV hb1;have hz1:=hb1.size;clear hb1;simp only[Tk.cval])
 all_goals go_wp2_with fail
 all_goals
  have hh:xH w1 w.heap.size #[xI 0,.string ⟨#[]⟩,xI 0,xI 0] 79:=(Hb1.o.block _ (by simp;omega)).trans ((Below.heap_alloc _ _ _ (by simp)).trans (zc _ _));refine bodyPost_ret (v:=st.t.cval st.src) (by unfold Tk.cval;rw[hcs];exact zb6 rfl rfl (zb7 (zr hne (zr hne (zr hne (zr hne hh)))) _ _ _ _)) rfl ⟨rfl,?_,?_⟩
  . generalize hT:zZ st.src st.t.t=T;have ht:=zkH st.src st.t.t;rw[hT] at ht
    (repeat (with_reducible refine PL.setOther ?_ hlt _ _));exact HL1.o.setTok T ht
  . (repeat (first|with_reducible refine Fr.setNew ?_ (Nat.le_refl _) _ _|with_reducible refine Fr.set1 ?_ _ _));exact HF1.o
end
end Go.Proofs.YtbicmofihhjgbaaGreatDoor
