/- Part 17 of the proof: CodD CodQ CodR CodS CodT CodU CodV. -/
import Derived.Test.YtmfkofhgdjechaaGreatDoorK15
set_option maxRecDepth 100000
set_option maxHeartbeats 8000000
namespace Go.Proofs.YtmfkofhgdjechaaGreatDoor
open Go.Proofs.Tryz
open Go.RowKit
section
def Tk.cval (src:ByteArray)(t:Tk):Value:=.agg #[xI (ck t),.string (cs src t),xI t.a,xI (cn t)]
theorem znL (s:ByteArray)(a:Nat)(ha:a<=s.size):zhy (s.extract a s.size) a=(zfg s a).cval s:=by
 have h1:=zf3 inW s a ha;have h2:=zcr inW s a ha;have h3:=zdB inW s a;obtain⟨n,hn⟩:∃n,zQ inW (s.extract a s.size) 0=n:=⟨_,rfl⟩;rw[hn] at h1;have hx:(s.extract a s.size).extract 0 n=s.extract a (zQ inW s a):=by rw[zcL s a n (by omega),<- h1];congr 1;omega
 unfold zhy zfg;simp only[hn,hx];have hz:(s.extract a (zQ inW s a)).size=zQ inW s a-a:=by rw[ByteArray.size_extract];omega
 rw[hz];cases hk:zcW (s.extract a (zQ inW s a)) with
 | true=>rfl
 | false =>
   by_cases hl:zQ inW s a-a<=12
   . have hl2:¬zQ inW s a-a > 12:=(by omega);simp[hl,hl2,Tk.cval,zaw,ck,cs,cn]
   . have hl2:zQ inW s a-a > 12:=(by omega);simp[hl,hl2,Tk.cval,zaw,ck,cs,cn]
theorem znr (s:ByteArray)(a:Nat)(ha:a<=s.size):∀f i x,zdt (s.extract a s.size) f i x=zdt s f (a+i) x:=by
 intro f;induction f with
 | zero=>intro i x;rfl
 | succ f ih =>
   intro i x
   show (if i<(s.extract a s.size).size/\zT (bt (s.extract a s.size) i)=true then _ else x)=(if a+i<s.size/\zT (bt s (a+i))=true then _ else x);rw[zbN s a ha,zfd s a i ha];by_cases h:i<s.size-a/\zT (bt s (a+i))=true
   . rw[if_pos h,if_pos (show a+i<s.size/\zT (bt s (a+i))=true from ⟨by omega,h.2⟩),ih (i+1)];rfl
   . rw[if_neg h,if_neg (show ¬(a+i<s.size/\zT (bt s (a+i))=true) from λh2=>h ⟨by omega,h2.2⟩)]
theorem zpa (s:ByteArray)(a:Nat)(ha:a<=s.size):zlt (s.extract a s.size) a=(zgc s a).cval s:=by
 have h1:=zf3 zT s a ha;have h2:=zcr zT s a ha;obtain⟨n,hn⟩:∃n,zQ zT (s.extract a s.size) 0=n:=⟨_,rfl⟩;rw[hn] at h1;have hx:(s.extract a s.size).extract 0 n=s.extract a (zQ zT s a):=by rw[zcL s a n (by omega),<- h1];congr 1;omega
 unfold zlt zgc;rw[znr s a ha,zbN s a ha];simp only[hn,hx,Nat.add_zero,Nat.sub_zero];cases hk:(zdt s (s.size-a) a (true,0)).1 with
 | true=>rfl
 | false=>rfl
theorem zod (s:ByteArray)(a:Nat)(ha:a<s.size):ziQ (s.extract a s.size) a=(zfh s a).cval s:=by
 unfold ziQ zfh;rw[zbN s a (by omega),zfd s a 0 (by omega)];have e1:(s.extract a s.size).extract 0 1=s.extract a (a+1):=zcL s a 1 (by omega);have hcond:(2<=s.size-a/\(((s.extract a s.size).extract 0 2).toList==[45,62]||((s.extract a s.size).extract 0 2).toList==[60,62]||((s.extract a s.size).extract 0 2).toList==[60,61])=true)=(a+2<=s.size/\((s.extract a (a+2)).toList==[45,62]||(s.extract a (a+2)).toList==[60,62]||(s.extract a (a+2)).toList==[60,61])=true):=by
  apply propext;by_cases h2:a+2<=s.size
  . rw[zcL s a 2 h2];constructor <;> (rintro⟨g1,g2⟩;exact⟨by omega,g2⟩)
  . constructor <;> (rintro⟨g1,_⟩;omega)
 by_cases hc:(a+2<=s.size/\((s.extract a (a+2)).toList==[45,62]||(s.extract a (a+2)).toList==[60,62]||(s.extract a (a+2)).toList==[60,61])=true)
 . rw[if_pos (hcond▸hc),if_pos hc,zcL s a 2 hc.1];rfl
 . rw[if_neg (hcond▸hc),if_neg hc,e1];simp only[Nat.add_zero];split <;> rfl
theorem zi0 (S:Nat->Addr)(s:ByteArray)(p:Nat)(w:World)(hs:s.size<=1200)(hp:p<=s.size)(hG:Gl S w):xK 32 #[.string s,xI p] w λe w'=>e=.returned ((zZ s p).cval s)/\xB w w':=by
 have hsz1:=zbN s p hp;have hsp:=zf3 zbY s p hp;have hle:=zdB zbY s p;have hle2:=zcr zbY s p hp;obtain⟨n,hn⟩:∃n,zQ zbY (s.extract p s.size) 0=n:=⟨_,rfl⟩;rw[hn] at hsp;have Hn:=za hn;have HSp:=za (zdv _ zbY zlA zkj (s.extract p s.size) (by omega));rw[hn] at HSp;have HN:Hid (zZ s p=if zQ zbY s p=s.size then ⟨0,zQ zbY s p,zQ zbY s p,⟨#[]⟩,0⟩ else if zeM (bt s (zQ zbY s p)) then zfg s (zQ zbY s p) else if zT (bt s (zQ zbY s p)) then zgc s (zQ zbY s p) else zfh s (zQ zbY s p)):=rfl;generalize zQ zbY s p=q at *;have HG:=za hG;have hpn:IntKind.i64.wrap ((p:Int)+(n:Int))=(q:Nat):=by rw[IntKind.wrap_i64];omega
 have hpn':(p:Int)+(n:Int)=(q:Nat):=by omega
 have hq1200:q<=1200:=by omega
 have hrz:(s.extract q s.size).size=s.size-q:=zbN s q hle2;clear hn hG hsz1;by_cases hq:q=s.size
 . have hem:(s.extract q s.size).toList.isEmpty=true:=by rw[List.isEmpty_iff,<- List.length_eq_zero_iff,zd7,hrz];omega
   rw[if_pos hq] at HN;have Hq:=za hq;clear hq;go_enter func32,ntmps32;go_wp2_with (go_at_call 66;refine (HSp.o _).mono ?_;rintro e w' ⟨rfl,rfl⟩);refine bodyPost_ret (v:=zaw 1 ⟨#[]⟩ q 0) (by simp[results,results32,go_sem,zaw]) rfl ⟨by rw[HN.o];rfl,(Below.refl _ _).alloc (Nat.le_refl _) _⟩
 . have hlt:q<s.size:=by omega
   have hem:(s.extract q s.size).toList.isEmpty=false:=(by rw[Bool.eq_false_iff];intro h;rw[List.isEmpty_iff,<- List.length_eq_zero_iff,zd7,hrz] at h;omega);have hr0:0<(s.extract q s.size).size:=(by omega);have hb0:=ziM hr0;rw[zfd s q 0 hle2,Nat.add_zero] at hb0;have Hb0:=za hb0;rw[if_neg hq] at HN;obtain⟨c,hc⟩:∃c,bt s q=c:=⟨_,rfl⟩;rw[hc] at hb0 HN;have Hc:=za hc;have hrs:(s.extract q s.size).size<=1200:=(by omega);have HWd:=za (znL s q hle2);have HDg:=za (zpa s q hle2);have HSg:=za (zod s q hlt);have HWc:=za (λw1=>znH (s.extract q s.size) hrs q w1);have HSc:=za (λw1=>znT (s.extract q s.size) hrs hr0 q w1);clear hc hq;cases hl:zeM c with
   | true => rw[hl,if_pos rfl] at HN;have Hl:=za hl;clear hl;go_enter func32,ntmps32;go_wp2_with (first|(go_at_call 66;refine (HSp.o _).mono ?_;rintro e w' ⟨rfl,rfl⟩)|(go_at_call 68;refine (zb2 c _).mono ?_;rintro e w' ⟨rfl,rfl⟩;rw[Hl.o]));refine (HWc.o _).mono ?_;rintro e w2 ⟨rfl,hb2⟩;rw[HWd.o];have hh2:=(hb2.block w.heap.size (Nat.lt_of_lt_of_eq (Nat.lt_succ_self _) (by simp))).trans (zc w _);obtain⟨d0,d1,d2,d3,df,dz⟩:=zU hh2;have Hh2:=za hh2;have Hb2:=za hb2;clear hb2 hh2;simp only[Tk.cval];go_wp2_with fail;refine bodyPost_ret (v:=(zZ s p).cval s) (by rw[HN.o];exact zb6 rfl rfl (zb7 Hh2.o _ _ _ _)) rfl ⟨rfl,?_⟩;exact (((((zeu Hb2.o).setCell (Nat.le_refl _) _).setCell (Nat.le_refl _) _).setCell (Nat.le_refl _) _).setCell (Nat.le_refl _) _)
   | false =>
     rw[hl,if_neg (by simp)] at HN;have Hl:=za hl;clear hl;cases hd:zT c with
     | true => rw[hd,if_pos rfl] at HN;have HDc:=za (λw1 h=>zl0 S (s.extract q s.size) hrs hr0 (by rw[zfd s q 0 hle2,Nat.add_zero,Hc.o];exact hd) q w1 h);have Hd:=za hd;have hG1:=HG.o.of (T:=λ_=>False) ((Fr.refl _ w).alloc (.cells #[xI 0,.string ⟨#[]⟩,xI 0,xI 0] 66)) (λ_ h=>h.elim);have HG1:=za hG1;clear hd hG1;go_enter func32,ntmps32;go_wp2_with (first|(go_at_call 66;refine (HSp.o _).mono ?_;rintro e w' ⟨rfl,rfl⟩)|(go_at_call 68;refine (zb2 c _).mono ?_;rintro e w' ⟨rfl,rfl⟩;rw[Hl.o])|(go_at_call 70;refine (zcp c _).mono ?_;rintro e w' ⟨rfl,rfl⟩;rw[Hd.o]));refine (HDc.o _ HG1.o).mono ?_;rintro e w2 ⟨rfl,hb2⟩;rw[HDg.o];have hh2:=(hb2.block w.heap.size (Nat.lt_of_lt_of_eq (Nat.lt_succ_self _) (by simp))).trans (zc w _);obtain⟨d0,d1,d2,d3,df,dz⟩:=zU hh2;have Hh2:=za hh2;have Hb2:=za hb2;clear hb2 hh2;simp only[Tk.cval];go_wp2_with fail;refine bodyPost_ret (v:=(zZ s p).cval s) (by rw[HN.o];exact zb6 rfl rfl (zb7 Hh2.o _ _ _ _)) rfl ⟨rfl,?_⟩;exact (((((zeu Hb2.o).setCell (Nat.le_refl _) _).setCell (Nat.le_refl _) _).setCell (Nat.le_refl _) _).setCell (Nat.le_refl _) _)
     | false => rw[hd,if_neg (by simp)] at HN;have Hd:=za hd;clear hd;go_enter func32,ntmps32;go_wp2_with (first|(go_at_call 66;refine (HSp.o _).mono ?_;rintro e w' ⟨rfl,rfl⟩)|(go_at_call 68;refine (zb2 c _).mono ?_;rintro e w' ⟨rfl,rfl⟩;rw[Hl.o])|(go_at_call 70;refine (zcp c _).mono ?_;rintro e w' ⟨rfl,rfl⟩;rw[Hd.o]));refine (HSc.o _).mono ?_;rintro e w2 ⟨rfl,hb2⟩;rw[HSg.o];have hh2:=(hb2.block w.heap.size (Nat.lt_of_lt_of_eq (Nat.lt_succ_self _) (by simp))).trans (zc w _);obtain⟨d0,d1,d2,d3,df,dz⟩:=zU hh2;have Hh2:=za hh2;have Hb2:=za hb2;clear hb2 hh2;simp only[Tk.cval];go_wp2_with fail;refine bodyPost_ret (v:=(zZ s p).cval s) (by rw[HN.o];exact zb6 rfl rfl (zb7 Hh2.o _ _ _ _)) rfl ⟨rfl,?_⟩;exact (((((zeu Hb2.o).setCell (Nat.le_refl _) _).setCell (Nat.le_refl _) _).setCell (Nat.le_refl _) _).setCell (Nat.le_refl _) _)
theorem zqT (S:Nat->Addr)(pb:Nat)(st:St)(s:ByteArray)(w:World)(hR:PL S w pb st):xK 73 #[xP pb,.string s] w λe w'=>e=.returned (.bool (ck st.t==2&&(cs st.src st.t).toList==s.toList))/\w=w':=by
 obtain⟨h0,h1,h2,h3,h4,h5,h6⟩:=hR.cells;clear hR;by_cases hk:ck st.t=2
 . have hk':((ck st.t:Int)==2)=true:=beq_iff_eq.2 (by omega);have H:Hid ((ck st.t==2)=true):=by unfold Hid;simp[hk]
   clear hk;go_enter func73,ntmps73;go_wp2;go_ret;exact⟨by rw[H.o];simp,rfl⟩
 . have hk':((ck st.t:Int)==2)=false:=beq_eq_false_iff_ne.2 (by omega);have H:Hid ((ck st.t==2)=false):=by unfold Hid;simp[hk]
   clear hk;go_enter func73,ntmps73;go_wp2;go_ret;exact⟨by rw[H.o];rfl,rfl⟩
theorem zi3 (S:Nat->Addr)(k:Nat)(a:Nat)(w:World):xK 31 #[.iface 399 (.pointer (some (S k))),xI a] w λe w'=>e=.returned (.agg #[.iface 399 (.pointer (some (S k))),xI a])/\xB w w':=by go_enter func31,ntmps31;go_wp2;exact bodyPost_ret (v:=.agg #[.iface 399 (.pointer (some (S k))),xI a]) (by simp[results,results31,go_sem]) rfl ⟨rfl,(Below.refl _ _).alloc (Nat.le_refl _) _⟩
theorem zc5 (S:Nat->Addr)(pb:Nat)(st:St)(e:Nat)(He:e≠0)(w:World)(HR:PL S w pb st):xK 75 #[xP pb,.iface 399 (.pointer (some (S e)))] w λe' w'=>e'=.returned (.tuple #[])/\PL S w' pb (st.fail e st.t.a)/\Fr (·=pb) w w':=by
 have hf:=HR.frozen;have hlt:=HR.lt;obtain⟨h0,h1,h2,h3,h4,h5,h6⟩:=HR.cells;by_cases hr:st.er=0
 . have HE:Hid (st.fail e st.t.a={ st with er:=e,at':=st.t.a,t:=⟨1,st.t.a,st.t.t,⟨#[]⟩,0⟩ }):=by unfold Hid St.fail;rw[if_pos hr]
   rw[show za2 S st.er st.at'=.nilIface by simp[za2,hr]] at h6;clear hr;go_enter func75,ntmps75;go_wp2_with (go_at_call 31;refine (zi3 S _ _ _).mono ?_;rintro e1 w1 ⟨rfl,Hb1⟩;obtain⟨hc1,hf1⟩:=zoV Hb1;have hz1:=Hb1.size);go_end0;refine⟨rfl,?_,?_⟩
   . have P:=((HR.below Hb1).setErr e st.t.a).setTok ⟨1,st.t.a,st.t.t,⟨#[]⟩,0⟩ (zl7 _ _ _);rw[show za2 S e st.t.a=.iface 58 (.agg #[sen S e,xI st.t.a]) by simp[za2,He]] at P;rw[HE.o];exact P
   . exact (((((((Fr.refl _ w).belowed Hb1).set1 _ _).set1 _ _).set1 _ _).set1 _ _).set1 _ _)
 . have HE:Hid (st.fail e st.t.a={ st with t:=⟨1,st.t.a,st.t.t,⟨#[]⟩,0⟩ }):=by unfold Hid St.fail;rw[if_neg hr]
   rw[show za2 S st.er st.at'=.iface 58 (.agg #[sen S st.er,xI st.at']) by simp[za2,hr]] at h6;clear hr;go_enter func75,ntmps75;go_wp2;go_end0;refine⟨rfl,?_,?_⟩
   . rw[HE.o];exact HR.setTok ⟨1,st.t.a,st.t.t,⟨#[]⟩,0⟩ (zl7 _ _ _)
   . exact ((((Fr.refl _ w).set1 _ _).set1 _ _).set1 _ _).set1 _ _
theorem zmj (S:Nat->Addr)(s:ByteArray)(pi:Int)(p:Nat)(hpi:pi=p)(w:World)(hs:s.size<=1200)(hp:p<=s.size)(hG:Gl S w):xK 32 #[.string s,xI pi] w λe w'=>e=.returned ((zZ s p).cval s)/\xB w w':=by subst hpi;exact zi0 S s p w hs hp hG
theorem zb9 (S:Nat->Addr)(pb:Nat)(st:St)(w:World)(hO:st.Ok)(hk:2<=st.t.k)(hR:PL S w pb st):xK 190 #[xP pb] w λe' w'=>e'=.returned (st.t.cval st.src)/\PL S w' pb { st with t:=zZ st.src st.t.t }/\Fr (·=pb) w w':=by
 have hf:=hR.frozen;have hlt:=hR.lt;have hne:¬w.heap.size=pb:=by omega
 have hne':¬pb=w.heap.size:=by omega
 obtain⟨h0,h1,h2,h3,h4,h5,h6⟩:=hR.cells;have g1:=hO.src;have g2:=hO.tt;have g3:=hO.ta;have hz:(cs st.src st.t).size=st.t.t-st.t.a:=by rw[zrl hR.tx,if_pos hk,ByteArray.size_extract];omega
 have hpi:IntKind.i64.wrap ((st.t.a:Int)+((cs st.src st.t).size:Int))=(st.t.t:Nat):=by rw[hz,IntKind.wrap_i64];omega
 have HZ:=za hpi;have hcz:(cs st.src st.t).size<=1200:=by omega
 have HR:=za hR;have HO:=za hO;clear hR hO hk hz hpi;generalize hcs:cs st.src st.t=C at *;go_enter func190,ntmps190;go_wp2_with fail;go_region_with (go_at_call 32;refine (zmj S _ _ st.t.t HZ.o _ HO.o.src HO.o.tt (((HR.o.alloc _).alloc _).drew.gl)).mono ?_;rintro e w1 ⟨rfl,hb1⟩;replace hb1:=zw hb1;have HL1:Hid (PL S w1 pb st):=((HR.o.alloc _).alloc _).below hb1;have HF1:Hid (Fr (·=pb) w w1):=(((Fr.refl _ _).alloc _).alloc _).belowed hb1;obtain⟨g0,g1,g2,g3,g4,g5,g6⟩:=HL1.o.cells;have gf:=HL1.o.frozen;have hlt1:=HL1.o.lt;have Hb1:=za hb1;obtain⟨hc1,hf1⟩:=zoV hb1;have hz1:=hb1.size;clear hb1;simp only[Tk.cval])
 all_goals go_wp2_with fail
 all_goals
  have hh:xH w1 w.heap.size #[xI 0,.string ⟨#[]⟩,xI 0,xI 0] 66:=(Hb1.o.block _ (by simp;omega)).trans ((Below.heap_alloc _ _ _ (by simp)).trans (zc _ _));refine bodyPost_ret (v:=st.t.cval st.src) (by unfold Tk.cval;rw[hcs];exact zb6 rfl rfl (zb7 (zr hne (zr hne (zr hne (zr hne hh)))) _ _ _ _)) rfl ⟨rfl,?_,?_⟩
  . generalize hT:zZ st.src st.t.t=T;have ht:=zkH st.src st.t.t;rw[hT] at ht
    (repeat (with_reducible refine PL.setOther ?_ hlt _ _));exact HL1.o.setTok T ht
  . (repeat (first|with_reducible refine Fr.setNew ?_ (Nat.le_refl _) _ _|with_reducible refine Fr.set1 ?_ _ _));exact HF1.o
end
section
variable {st:St}
theorem zaP (S:Nat->Addr)(pb:Nat)(st:St)(s:ByteArray)(l:List UInt8)(hl:s.toList=l)(w:World)(hk:st.t.k<=5)(hR:PL S w pb st):xK 73 #[xP pb,.string s] w λe w'=>e=.returned (.bool (st.atB l))/\w=w':=by subst hl;have:=zqT S pb st s w hR;rwa [zqP hk] at this
structure Bad (st:St):Prop where
 bad:st.er≠0->st.t.k=1
 ok:st.Ok
theorem Bad.er (h:Bad st)(hk:st.t.k≠1):st.er=0:=by
 by_cases he:st.er=0
 . exact he
 . exact absurd (h.bad he) hk
theorem Bad.step (h:Bad st):Bad st.step:=by
 refine⟨λhe=>?_,h.ok.step⟩;unfold St.step at he ⊢;split
 . rename_i h0;rw[if_pos h0] at he;exact absurd h0 he
 . rename_i h0;exact h.bad h0
theorem Bad.fail (h:Bad st){e:Nat}(he:e<=11):Bad (st.fail e st.t.a):=by refine⟨λ_=>?_,h.ok.fail he h.ok.ta_le⟩;unfold St.fail;split <;> rfl
theorem Bad.must (h:Bad st)(k:Nat)(l:List UInt8):Bad (st.must k l):=by
 unfold St.must;split
 . exact h.step
 . exact h.fail (by omega)
theorem Bad.name (h:Bad st):Bad st.name:=by
 unfold St.name;split
 . exact h.step
 . exact h.fail (by omega)
theorem Inv.toBad {p:Nat}(h:Inv p st):Bad st:=⟨h.bad,h.ok⟩
theorem zoY {l:List UInt8}(h:st.atB l=true):4<=st.t.k:=by unfold St.atB at h;simp only[Bool.and_eq_true,Bool.or_eq_true,beq_iff_eq] at h;omega
theorem zc8 (h:Bad st)(hk:st.t.k≠1):({ st with t:=zZ st.src st.t.t }:St)=st.step:=by unfold St.step;rw[if_pos (h.er hk)]
def St.skipM (st:St)(l:List UInt8):St:=if st.atB l=true then st.step else st
theorem zbg (S:Nat->Addr)(pb:Nat)(st:St)(s:ByteArray)(l:List UInt8)(hl:s.toList=l)(w:World)(HB:Bad st)(HR:PL S w pb st):xK 137 #[xP pb,.string s] w λe w'=>e=.returned (.bool (st.atB l))/\PL S w' pb (st.skipM l)/\Fr (·=pb) w w':=by
 have HA:=za (zaP S pb st s l hl w HB.ok.tk HR);clear hl;cases hb:st.atB l with
 | true => have HE:st.skipM l={ st with t:=zZ st.src st.t.t }:=(by unfold St.skipM;rw[if_pos hb,zc8 HB (by have:=zoY hb;omega)]);have Hk:=za (zoY hb);rw[hb] at HA;clear hb;go_enter func137,ntmps137;go_wp2_with (first|(go_at_call 73;refine HA.o.mono ?_;rintro e w' ⟨rfl,rfl⟩)|(go_at_call 190;refine (zb9 S pb st _ HB.ok (Nat.le_trans (by decide) Hk.o) HR).mono ?_;rintro e w1 ⟨rfl,HL1,HF1⟩));go_ret;exact⟨rfl,by rw[HE];exact HL1,HF1⟩
 | false => have HE:st.skipM l=st:=(by unfold St.skipM;rw[if_neg (by rw[hb];simp)]);rw[hb] at HA;clear hb;go_enter func137,ntmps137;go_wp2_with (go_at_call 73;refine HA.o.mono ?_;rintro e w' ⟨rfl,rfl⟩);go_ret;exact⟨rfl,by rw[HE];exact HR,Fr.refl _ _⟩
end
section
variable {l:List UInt8} {st:St}
def St.expM (st:St)(l:List UInt8):St:=if st.atB l=true then st.step else st.fail 2 st.t.a
theorem zan (hT:Tx st.src st.t)(hl:(zdX.any λx=>l==x)=false):st.expM l=st.must 4 l:=by unfold St.expM St.must;rw[zaB hT hl]
theorem ze6 (hT:Tx st.src st.t)(hl:(zdX.any λx=>l==x)=true):st.expM l=st.must 5 l:=by unfold St.expM St.must;rw[zar hT hl]
theorem Bad.skip (h:Bad st)(l:List UInt8):Bad (st.skipM l):=by
 unfold St.skipM;split
 . exact h.step
 . exact h
theorem zP (S:Nat->Addr)(pb:Nat)(st:St)(s:ByteArray)(l:List UInt8)(hl:s.toList=l)(w:World)(hB:Bad st)(hR:PL S w pb st):xK 134 #[xP pb,.string s] w λe w'=>e=.returned (xI st.t.a)/\PL S w' pb (st.expM l)/\Fr (·=pb) w w':=by
 have HA:=za (zbg S pb st s l hl w hB hR);obtain⟨h0,h1,h2,h3,h4,h5,h6⟩:=hR.cells;clear hl hR hB;cases hb:st.atB l with
 | true => have HE:st.expM l=st.skipM l:=(by unfold St.expM St.skipM;rw[if_pos hb,if_pos hb]);rw[hb] at HA;clear hb;go_enter func134,ntmps134;go_wp2_with (go_at_call 137;refine HA.o.mono ?_;rintro e w1 ⟨rfl,HL1,HF1⟩);go_ret;exact⟨rfl,by rw[HE];exact HL1,HF1⟩
 | false => have HE:st.expM l=st.fail 2 st.t.a:=(by unfold St.expM;rw[if_neg (by rw[hb];simp)]);have hS:st.skipM l=st:=(by unfold St.skipM;rw[if_neg (by rw[hb];simp)]);rw[hb,hS] at HA;clear hb hS;go_enter func134,ntmps134;go_wp2_with (first|(go_at_call 75;refine (zc5 S pb st 2 (by decide) _ HL1).mono ?_;rintro e w2 ⟨rfl,HL2,HF2⟩)|(go_at_call 137;refine HA.o.mono ?_;rintro e w1 ⟨rfl,HL1,HF1⟩;have hsyn:xC w1 8 0 (.iface 399 (.pointer (some (S 2)))):=HL1.gl.syn));go_ret;exact⟨rfl,by rw[HE];exact HL2,HF1.trans HF2⟩
theorem zfF {fn:Func}{p:Tmp}(h:fn.results=#[.cell p 144]){tmps:Array Value}{b:Nat}{w:World}(hp:tmps[p]?.getD undef=xP b){v0 v1:Value}(hh:xH w b #[v0,v1] 144):(results fn tmps).run prog w=.ok (.agg #[v0,v1]) w:=by obtain⟨c0,c1,_⟩:=zp hh;simp[results,h,hp,go_sem,c0,c1]
def zcc (st:St):Value:=if st.t.k=2 then .agg #[.string st.t.s,xI st.t.a] else .agg #[.string ⟨#[]⟩,xI 0]
theorem zaZ (S:Nat->Addr)(pb:Nat)(st:St)(w:World)(HB:Bad st)(HR:PL S w pb st):xK 135 #[xP pb] w λe w'=>e=.returned (zcc st)/\PL S w' pb st.name/\Fr (·=pb) w w':=by
 obtain⟨h0,h1,h2,h3,h4,h5,h6⟩:=HR.cells;have hlt:=HR.lt;have hne:¬w.heap.size=pb:=by omega
 by_cases Hk:st.t.k=2
 . have hk':ck st.t=3:=by simp[ck,Hk]
   have HE:st.name={ st with t:=zZ st.src st.t.t }:=(by unfold St.name;rw[if_pos Hk,zc8 HB (by omega)]);have HV:Hid (zcc st=.agg #[.string st.t.s,xI st.t.a]):=(by unfold Hid zcc;rw[if_pos Hk]);have HC:Hid (cs st.src st.t=st.t.s):=(by unfold Hid cs;simp[Hk]);rw[hk'] at h1;clear hk';go_enter func135,ntmps135;go_wp2_with (go_at_call 190;refine (zb9 S pb st _ HB.ok (Nat.le_of_eq Hk.symm) (HR.alloc _)).mono ?_;rintro e w1 ⟨rfl,HL1,HF1⟩;have Hh:xH w1 w.heap.size #[.string ⟨#[]⟩,xI 0] 144:=(HF1.block _ (Nat.lt_of_lt_of_eq (Nat.lt_succ_self _) (by simp)) hne).trans (zc _ _);obtain⟨d0,d1,df,dz⟩:=zp Hh;simp only[Tk.cval]);refine bodyPost_ret (v:=zcc st) (by rw[HV.o,<- HC.o];exact zfF rfl rfl ((Below.heap_alloc _ _ _ (ze (zh _ _ _ _ (zh _ _ _ _ Hh)))).trans (zh _ _ _ _ (zh _ _ _ _ Hh)))) rfl ⟨rfl,?_,?_⟩
   . rw[HE];exact ((HL1.setOther hlt _ _).setOther hlt _ _).alloc _
   . exact (((((Fr.refl _ w).alloc _).trans HF1).setNew (Nat.le_refl _) _ _).setNew (Nat.le_refl _) _ _).alloc _
 . have hk':((ck st.t:Int) != 3)=true:=by
    have:ck st.t≠3:=by unfold ck;(repeat' split) <;> first|decide|(exfalso;omega)
    simp;omega
   have HE:st.name=st.fail 2 st.t.a:=(by unfold St.name;rw[if_neg Hk]);have HV:Hid (zcc st=.agg #[.string ⟨#[]⟩,xI 0]):=(by unfold Hid zcc;rw[if_neg Hk]);have hsyn:xC w 8 0 (.iface 399 (.pointer (some (S 2)))):=HR.gl.syn;have hG:8<w.heap.size:=Nat.lt_of_lt_of_le (by decide) HR.gl.size;go_enter func135,ntmps135;go_wp2_with (go_at_call 75;refine (zc5 S pb st 2 (by decide) _ (HR.alloc _)).mono ?_;rintro e w1 ⟨rfl,HL1,HF1⟩;have Hh:xH w1 w.heap.size #[.string ⟨#[]⟩,xI 0] 144:=(HF1.block _ (Nat.lt_of_lt_of_eq (Nat.lt_succ_self _) (by simp)) hne).trans (zc _ _);obtain⟨d0,d1,df,dz⟩:=zp Hh);refine bodyPost_ret (v:=zcc st) (by rw[HV.o];exact zfF rfl rfl (zh _ _ _ _ (zh _ _ _ _ Hh))) rfl ⟨rfl,?_,?_⟩
   . rw[HE];exact (HL1.setOther hlt _ _).setOther hlt _ _
   . exact ((((Fr.refl _ w).alloc _).trans HF1).setNew (Nat.le_refl _) _ _).setNew (Nat.le_refl _) _ _
theorem zb8 (S:Nat->Addr)(pb:Nat)(st:St)(k:Nat)(w:World)(hR:PL S w pb st):xK 242 #[xP pb,xI k] w λe w'=>e=.returned (xP w.heap.size)/\w.alloc (.cells #[xI k,xI st.t.a,.string ⟨#[]⟩,xI 0,xI 0,.slice none 0 0] 216 (0,0))=w':=by obtain⟨h0,h1,h2,h3,h4,h5,h6⟩:=hR.cells;have hlt:=hR.lt;clear hR;go_enter func242,ntmps242;go_wp2;go_ret;exact⟨rfl,rfl⟩
end
section
theorem zm8 (S:Nat->Addr)(k:Nat)(s:ByteArray)(hk:zcY[k]?=some s)(w:World)(hG:Gl S w):xK 196 #[xI k] w λe w'=>e=.returned (.string s)/\w=w':=by
 have hc:=hG.words k s hk;have hl:k<24:=by
  rcases Nat.lt_or_ge k 24 with h|h
  . exact h
  . rw[List.getElem?_eq_none (by simpa [zcY] using h)] at hk;cases hk
 have hi:(0:Int)<=(k:Int)/\(k:Int)<24:=by omega
 go_enter func196,ntmps196;go_wp2;go_ret;exact⟨rfl,rfl⟩
def wd (k:Nat):ByteArray:=(zcY[k]?).getD ⟨#[]⟩
def opM (st:St):List Nat->Option Nat
 | []=>none
 | k::ks=>if st.atB (wd k).toList=true then some k else opM st ks
def opV:Option Nat->Value
 | some k=>.tuple #[xI k,.bool true]
 | none=>.tuple #[xI 0,.bool false]
theorem zbd (S:Nat->Addr)(pb:Nat)(st:St)(kb:Nat)(n:Nat)(ks:List Nat)(hn:n=ks.length)(hn4:ks.length<=100)(w:World)(hks:∀(i k:Nat),ks[i]?=some k->xC w kb i (xI k))(h24:∀k∈ks,k<24)(hk:st.t.k<=5)(hR:PL S w pb st):xK 289 #[xP pb,xS kb n n] w λe w'=>e=.returned (opV (opM st ks))/\w=w':=by
 subst hn;have HR:=za hR;have Hks:=za hks;have H24:=za h24;have hk5:=za hk;clear hR hks h24 hk;go_enter func289,ntmps289;go_wp2;go_loop [10] (λi=>∃j:Nat,j<=ks.length/\i=xI j/\Hid (opM st (ks.drop j)=opM st ks)) (λi=>ks.length-(intOf i).toNat)
 case atStart=>exact⟨0,Nat.zero_le _,rfl,rfl⟩
 case round =>
  obtain⟨j,hj,rfl,HS⟩:=hrel;by_cases hlt:j<ks.length
  . obtain⟨k,hkj⟩:∃k,ks[j]?=some k:=⟨ks[j],zsc hlt⟩;have hc:xC w kb j (xI k):=Hks.o j k hkj;have hk24:=H24.o k (List.mem_of_getElem? hkj);obtain⟨s,hs⟩:∃s,zcY[k]?=some s:=⟨zcY[k]'(by simpa [zcY] using hk24),by rw[zsc]⟩;have hw:wd k=s:=by unfold wd;rw[hs];rfl
    have hd:ks.drop j=k::ks.drop (j+1):=(by rw[List.getElem?_eq_some_iff] at hkj;obtain⟨h1,h2⟩:=hkj;rw[<- h2];exact List.drop_eq_getElem_cons h1);have HW:=za (zm8 S k s hs w HR.o.gl);have HA:=za (zaP S pb st s _ rfl w hk5.out HR.o);have hO:(if st.atB s.toList=true then some k else opM st (ks.drop (j+1)))=opM st ks:=(by rw[<- HS.o,hd,<- hw];rfl);clear HS hd hw hs hkj;cases hb:st.atB s.toList with
    | true => rw[hb,if_pos rfl] at hO;rw[hb] at HA;have HO:=za hO;clear hb hO;go_wp2_with (first|(go_at_call 196;refine HW.o.mono ?_;rintro e w' ⟨rfl,rfl⟩)|(go_at_call 73;refine HA.o.mono ?_;rintro e w' ⟨rfl,rfl⟩));refine bodyPost_ret (v:=opV (some k)) (by simp[results,results289,go_sem,opV]) rfl ⟨by rw[<- HO.o],rfl⟩
    | false =>
      rw[hb,if_neg (by simp)] at hO;rw[hb] at HA;have HO:=za hO;clear hb hO;go_wp2_with (first|(go_at_call 196;refine HW.o.mono ?_;rintro e w' ⟨rfl,rfl⟩)|(go_at_call 73;refine HA.o.mono ?_;rintro e w' ⟨rfl,rfl⟩));go_round
      case rel=>exact⟨j+1,by omega,by go_num,HO⟩
      case measure=>simp[intOf];omega
  . have hO:opM st ks=none:=by rw[<- HS.o,List.drop_of_length_le (by omega)];rfl
    have HO:=za hO;clear HS hO;go_wp2;refine bodyPost_ret (v:=opV none) (by simp[results,results289,go_sem,opV]) rfl ⟨by rw[HO.o],rfl⟩
end
section
variable {L:List Ex} {B x:Nat} {v:Value} {w w':World}
def zag (l:List UInt8)(n:Nat):Nat :=
 if l=[110,117,109,98,101,114] then 0 else if l=[98,111,111,108] then (if n=1 then 1 else 2) else if l=[118,97,114] then 3 else if l=[99,97,108,108] then 4
 else if l=[105,102] then 5 else if l=[109,101,114,103,101] then 6 else if l=[119,104,101,110] then 7 else if l=[119,104,101,110,111,116] then 8 else if l=[102,98,121] then 9
 else if l=[110,101,103] then 10 else if l=[110,111,116] then 11 else if l=[97,110,100] then 12 else if l=[111,114] then 13 else if l=[120,111,114] then 14
 else if l=[61] then 15 else if l=[60,62] then 16 else if l=[60] then 17 else if l=[60,61] then 18 else if l=[43] then 19 else if l=[45] then 20 else if l=[42] then 21 else if l=[47] then 22 else 23
def zbF (l:List UInt8)(n:Nat):Nat:=if l=[110,117,109,98,101,114] then n else 0
theorem zbK (l:List UInt8):zbF l 0=0:=by unfold zbF;split <;> rfl
inductive TR (w:World) (B:Nat) (L:List Ex):Nat->Value->Prop
 | mk (x:Nat) (ex:Ex) (b:Nat) (args:Value) (vs:List Value) (hx:L[x]?=some ex) (hB:B<=b)
    (hb:xH w b #[xI (zag ex.op.toList ex.n:Nat),xI ex.a,.string ex.s,xI ex.nm,xI (zbF ex.op.toList ex.n:Nat),args] 216)
    (ha:w.ownsRow B 159 1 args vs.length vs) (hl:vs.length=ex.ins.length)
    (hr:∀(i y:Nat) (v:Value),ex.ins[i]?=some y->vs[i]?=some v->TR w B L y v):TR w B L x (xP b)
theorem TR.kept (h:TR w B L x v)(hk:∀k,B<=k->k<w.heap.size->w'.heap[k]?=w.heap[k]?):TR w' B L x v:=by
 induction h with
 | mk x ex b args vs hx hB hb ha hl _ ih => exact TR.mk x ex b args vs hx hB ((hk b hB (ze hb)).trans hb) (zi ha (λk a c _=>hk k a c)) hl ih
theorem TR.fr (h:TR w B L x v){T:Nat->Prop}(hf:Fr T w w')(hT:∀k,B<=k->k<w.heap.size->¬T k):TR w' B L x v :=
 h.kept (λk a b=>hf.block k b (hT k a b))
theorem TR.more (h:TR w B L x v)(E:List Ex):TR w B (L++E) x v:=by
 induction h with
 | mk x ex b args vs hx hB hb ha hl _ ih =>
   refine TR.mk x ex b args vs ?_ hB hb ha hl ih;rw[List.getElem?_append_left]
   . exact hx
   . exact (List.getElem?_eq_some_iff.1 hx).1
theorem TR.down (h:TR w B L x v){B':Nat}(hB':B'<=B):TR w B' L x v:=by
 induction h with
 | mk x ex b args vs hx hB hb ha hl _ ih => exact TR.mk x ex b args vs hx (Nat.le_trans hB' hB) hb (zR ha hB') hl ih
def zaW (S:Nat->Addr)(pb B:Nat)(w:World)(st':St)(r:Nat)(e:Ending)(w':World):Prop :=
 ∃a:Option Addr,e=.returned (.pointer a)/\PL S w' pb st'/\Hid (st'.er=0->TR w' B st'.L r (.pointer a))/\Fr (·=pb) w w'
def zX (d:Nat)(f:FuncId)(M:Fn):Prop:=∀(S:Nat->Addr) (pb:Nat) (st:St) (p:Nat) (w:World),Inv p st->18<=st.op+d->PL S w pb st ->
 xK f #[xP pb] w (zaW S pb w.heap.size w (M st).1 (M st).2)
theorem PL.put {S:Nat->Addr}{pb:Nat}{st:St}(h:PL S w pb st)(e:Ex):PL S w pb (st.put e).1:=⟨h.tx,h.heap,h.gl,h.pb⟩
theorem TR.two {ex:Ex}{b g y z:Nat}{u:Value}(hB:B<=b)(hg:B<=g)
 (hb:xH w b #[xI (zag ex.op.toList ex.n:Nat),xI ex.a,.string ex.s,xI ex.nm,xI (zbF ex.op.toList ex.n:Nat),xS g 2 2] 216)
 (hgg:xH w g #[u,v] 159) (hi:ex.ins=[y,z]) (hu:TR w B L y u) (hv:TR w B L z v):TR w B (L++[ex]) L.length (xP b):=by
 refine TR.mk L.length ex b _ [u,v] (by simp) hB hb ⟨by simp,Or.inr ⟨g,2,#[u,v],rfl,hg,hgg,by simp,by decide,by simp,by simp⟩⟩ (by simp[hi]) ?_;intro i s t hs ht;rw[hi] at hs
 match i with
 | 0=>simp at hs ht;subst hs ht;exact hu.more _
 | 1=>simp at hs ht;subst hs ht;exact hv.more _
 | i+2=>simp at hs
end
end Go.Proofs.YtmfkofhgdjechaaGreatDoor
