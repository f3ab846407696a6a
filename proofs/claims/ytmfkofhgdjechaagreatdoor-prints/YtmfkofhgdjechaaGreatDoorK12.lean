/- Part 13 of the proof: PrA AppW PrB CpyA. -/
import Derived.Deep.CutBlock
import Derived.Deep.RegionHeld3
import Derived.Laws.CopyOwn
import Derived.Laws.IdiomStrings
import Derived.Lib.SliceRun
import Derived.Test.YtmfkofhgdjechaaGreatDoorK11
set_option maxRecDepth 100000
set_option maxHeartbeats 8000000
namespace Go.Proofs.YtmfkofhgdjechaaGreatDoor
open Go.Proofs.Tryz
open Go.RowKit
section
variable {n:Nat}
def zDO (v:Vr):Value:=.agg #[.string v.nm,xI v.a,.bool v.bl,.bool v.inn,.bool v.out,xI v.on,.string v.ck,xI v.ca,.bool v.nt,.bool v.tm]
theorem zCX (v:Vr)(hv:VrS v)(w:World):xK 149 #[zDO v] w (λe w'=>e=.returned (.string (zyJ v))/\xB w w'):=by
 obtain⟨h1,h2⟩:=hv;unfold zDO zyJ zzW;cases hb:v.bl <;> cases ht:v.tm <;> cases hn:v.nt;all_goals (go_enter func149,ntmps149;go_wp2_with fail)
 all_goals first|omega|(go_ret;exact⟨rfl,(Below.refl _ w).alloc (Nat.le_refl _) _⟩)
def zEM (w:World)(v:Value)(l:List ByteArray):Prop:=∃a cap,v=.slice a l.length cap/\l.length<=100000/\∀(k:Nat) (s:ByteArray),l[k]?=some s->s.size<=1000000000000/\∃g,a=some (xD g 0)/\w.cell? (xD g k)=some (.string s)
theorem zBw (b:ByteArray):∀(l:List ByteArray) (x:ByteArray),l≠[]->zyf b (l++[x])=zyf b l++b++x
 | [],_,h=>absurd rfl h
 | [y],x,_=>rfl
 | y::z::l,x,_=>by
   have ih:=zBw b (z::l) x (List.cons_ne_nil _ _)
   show y++b++zyf b ((z::l)++[x])=y++b++zyf b (z::l)++b++x;rw[ih];simp only[ByteArray.append_assoc]
theorem zy3 (b:ByteArray)(hb:b.size<=10):∀(l:List ByteArray),(∀s∈l,s.size<=1000000000000)->(zyf b l).size<=l.length*1000000000010
 | [],_=>Nat.zero_le _
 | [y],h=>by have:=h y (List.mem_cons_self ..);show y.size<=_;simp only[List.length_singleton];omega
 | y::z::l,h=>by
   have ih:=zy3 b hb (z::l) (λs hs=>h s (List.mem_cons_of_mem _ hs));have h1:=h y (List.mem_cons_self ..)
   show (y++b++zyf b (z::l)).size<=_;rw[ByteArray.size_append,ByteArray.size_append];simp only[List.length_cons] at ih ⊢;omega
theorem zzk {α:Type}{l:List α}{k:Nat}{x:α}(h:l[k]?=some x):l.take (k+1)=l.take k++[x]:=by rw[List.take_add_one,h];rfl
theorem zzA (v:Value)(l:List ByteArray)(b:ByteArray)(hb:b.size<=10)(w:World)(hv:zEM w v l):xK 150 #[v,.string b] w (λe w'=>e=.returned (.string (zyf b l))/\w=w'):=by
 obtain⟨a,cap,rfl,hl,hc⟩:=hv;have HC:=za hc;have HZ:=za (zy3 b hb);clear hc;go_enter func150,ntmps150;go_wp2_with fail;go_loop [5,6] (λs i=>∃k:Nat,k<=l.length/\i=xI k/\s=.string (zyf b (l.take k))) (λs i=>l.length-(intOf i).toNat)
 case atStart=>exact⟨0,Nat.zero_le _,rfl,rfl⟩
 case round =>
  obtain⟨k,hk,rfl,rfl⟩:=hrel;by_cases hlt:k<l.length
  . obtain⟨x,hx⟩:∃x,l[k]?=some x:=⟨l[k],zsc hlt⟩;obtain⟨hxs,g,rfl,hcell⟩:=HC.o k x hx;have hz:=HZ.o (l.take k) (λs hs=>by obtain⟨j,hj⟩:=List.mem_iff_getElem?.1 hs;exact (HC.o j s (by rw[List.getElem?_take] at hj;split at hj;exact hj;cases hj)).1);have hk':(l.take k).length=k:=by rw[List.length_take];omega
    rw[hk'] at hz;have hkl:(k:Int)<l.length:=(by omega);have H1:Hid (zyf b (l.take (k+1))=if k=0 then zyf b (l.take k)++x else zyf b (l.take k)++b++x):=by
     unfold Hid;rw[zzk hx];by_cases h0:k=0
     . subst h0;rw[if_pos rfl,List.take_zero,List.nil_append]
       show x=⟨#[]⟩++x;apply ByteArray.ext;simp[ByteArray.data_append]
     . rw[if_neg h0,zBw b _ x (λh=>by rw[h] at hk';simp at hk';omega)]
    generalize zyf b (l.take k)=J at *;by_cases h0:k=0
    . subst h0;have hk0:¬(0:Int)<((0:Nat):Int):=(by omega);go_wp2_with fail;go_round
      case measure=>simp[intOf];omega
      case rel=>exact⟨1,by omega,rfl,by rw[H1.o,if_pos rfl]⟩
    . have hk0:(0:Int)<(k:Int):=(by omega);go_wp2_with fail;go_round
      case measure=>simp[intOf];omega
      case rel=>exact⟨k+1,by omega,by simp,by rw[H1.o,if_neg h0]⟩
  . have:k=l.length:=by omega
    subst this;go_wp2_with fail;go_ret;exact⟨rfl,rfl⟩
theorem zBB (h:n<10):zzw n=⟨#[UInt8.ofNat (48+n)]⟩:=by unfold zzw Lib.itoa;rw[if_neg (by omega),Int.toNat_natCast,Lib.decDigits_one h]
theorem zCF (h:¬n<10):zzw n=zzw (n / 10)++⟨#[UInt8.ofNat (48+n % 10)]⟩:=by unfold zzw Lib.itoa;rw[if_neg (by omega),if_neg (by omega),Int.toNat_natCast,Int.toNat_natCast,Lib.decDigits,dif_neg h];apply ByteArray.ext;simp[ByteArray.data_append]
theorem zCg (W:World)(b:UInt8)(n:Int)(h:n=b.toNat):(convert 72 9 (xS W.heap.size 1 1)).run prog (W.alloc (.cells #[.int .u8 n] 5))=.ok (.string ⟨#[b]⟩) (W.alloc (.cells #[.int .u8 n] 5)):=by
 subst h;exact run_convert_bytes_back (P:=prog) _ 72 9 5 (xD W.heap.size 0) 1 [b] underlying72 underlying5 underlying9 (λj hj=>by
  obtain rfl:j=0:=by simp at hj;omega
  exact (zu (zc W (.cells #[.int .u8 (b.toNat:Int)] 5))).1)
theorem zBa:∀(f n:Nat),n<10 ^ (f+1)->(zzw n).size<=f+1
 | 0,n,h=>by rw[zBB (by simpa using h)];show 1<=1;omega
 | f+1,n,h=>by
   by_cases hn:n<10
   . rw[zBB hn];show 1<=f+2;omega
   . rw[zCF hn,ByteArray.size_append];have:=zBa f (n / 10) (by rw[Nat.pow_succ] at h;omega)
     show (zzw (n / 10)).size+1<=f+2;omega
theorem zEl:∀(f n:Nat),n<10 ^ (f+1)->f<=30->n<=9223372036854775807->∀w:World,xK 213 #[xI n] w (λe w'=>e=.returned (.string (zzw n))/\xB w w'):=by
 have hdig:Hid (∀n:Nat,(48+(n:Int) % 10)=((UInt8.ofNat (48+n % 10)).toNat:Int)):=λn=>by rw[UInt8.toNat_ofNat'];omega
 have small:∀n:Nat,n<10->∀w:World,xK 213 #[xI n] w (λe w'=>e=.returned (.string (zzw n))/\xB w w'):=by
  intro n hn w;have hcv:=zCg w (UInt8.ofNat (48+n % 10)) (48+(n:Int) % 10) (hdig.out n);have hn':(n:Int)<10:=by omega
  have HN:Hid (zzw n=⟨#[UInt8.ofNat (48+n % 10)]⟩):=by unfold Hid;rw[zBB hn,Nat.mod_eq_of_lt hn]
  generalize UInt8.ofNat (48+n % 10)=d at *;clear hn;go_enter func213,ntmps213;go_wp2_with fail;go_ret;refine⟨?_,(Below.refl _ w).alloc (Nat.le_refl _) _⟩;rw[HN.o];rfl
 intro f;induction f with
 | zero=>intro n h _ _ w;exact small n (by simpa using h) w
 | succ f ih =>
   intro n h hf hm w;by_cases hn:n<10
   . exact small n hn w
   . have h10:n / 10<10 ^ (f+1):=(by rw[Nat.pow_succ] at h;omega);have HI:=za (λW=>ih (n / 10) h10 (by omega) (by omega) W);have hz:=zBa f (n / 10) h10;have hcv:=zCg w (UInt8.ofNat (48+n % 10)) (48+(n:Int) % 10) (hdig.out n);have hn':¬(n:Int)<10:=(by omega);have HN:=za (zCF hn);have hq:wrap64 ((n:Int) / 10)=((n / 10:Nat):Int):=by
      have:((n / 10:Nat):Int)=(n:Int) / 10:=by omega
      rw[this];unfold wrap64;omega
     generalize n / 10=m at *;generalize UInt8.ofNat (48+n % 10)=d at *;clear hn h hm h10 small ih;go_enter func213,ntmps213;go_wp2_with fail;refine (HI.o _).mono ?_;rintro e w1 ⟨rfl,hB⟩;have HB:=za (((Below.refl _ w).alloc (Nat.le_refl _) (.cells #[.int .u8 (48+(n:Int) % 10)] 5)).trans (hB.mono (by rw[zsb];omega)));go_wp2_with fail;go_ret;exact⟨by rw[HN.o];rfl,HB.o⟩
end
section
variable {a:Act} {K:Act->World->Prop} {ops:Array Oper} {Q:Exit->Act->World->Prop} {o:Oper} {P:Program} {E:Prop} {w w':World}
theorem zbz (w:World){rest:List Oper}(hgd:o.guard=none)(s x:Operand)(t:TypeId)
 (ho:o.op=.call { callee:=.builtin .append,args:=#[s,x],argTypes:=#[t,t] })
 (base:Nat) (e:TypeId) (i:TypeInfo) (z:Value) (size bytes:Nat) (ht:P.underlying t=some (.slice e)) (hi:P.info? e=some i) (hz:i.zero=some z)
 (hsize:i.size=size) (hby:i.bytes=bytes) (hzs:z.cells.size=size) (hsz:0<size)
 (v:Value) (n:Nat) (xs:List Value) (hs:a.eval s=v) (hown:w.ownsRow base e size v n xs)
 (ad:Addr) (m c:Nat) (news:List Value) (hx:a.eval x=.slice (some ad) m c) (hl:news.length=m*size) (hnews:∀j u,news[j]?=some u->w.cell? (ad.add j)=some u) (h1:∀u∈news,u.oneCell'=true)
 (h63:n+m<=maxLen) (hbytes:(n+m)*bytes<=140737488355328) (hbase:base<=w.heap.size)
 (h:∀v' w',w'.ownsRow base e size v' (n+m) (xs++news)->w.grownBy w' v.ownBlock->(∀k,v'.ownBlock=some k->v.ownBlock=some k∨w.heap.size<=k)->wpList P ops Q rest (a.put o.dst v') w'):wpList P ops Q (o::rest) a w :=
 wpList_plain hgd λ_ hK=>zfG w s x t ho base e i z size bytes ht hi hz hsize hby hzs hsz v n xs hs hown ad m c news hx hl hnews h1 h63 hbytes hbase λv' w' h2 h3 h4=>hK _ _ (h v' w' h2 h3 h4)
theorem Fr.of_grown {row:Option Nat}(h:w.grownBy w' row):Fr (λk=>row=some k) w w':=⟨h.os,h.tape,h.output,h.size,λk hk hn=>h.block k hk (λe=>hn e.symm)⟩
theorem zbP {B n:Nat}{e:TypeId}{vs:Value}{xs:List Value}(h:w.ownsRow B e 1 vs n xs):∃x cp,vs=.slice x n cp:=by
 rcases h.2 with ⟨h1,h2⟩|⟨g,cap,cur,h1,_⟩
 . exact⟨none,0,by rw[h1,h2]⟩
 . exact⟨_,cap,h1⟩
theorem zf8 
 (hg:o.guard=none) (f:FuncId) (xs:Array Operand) (ats:Array TypeId) (ho:o.op=.call { callee:=.value (.func f),args:=xs,argTypes:=ats })
 (hcf:∀(args:Array Value) (w:World),(callFunc f args).run P w=.ok (.enter f args) w) (args:Array Value) (ha:#[]++xs.map a.eval++#[]=args) {R:Ending->World->Prop} (h:Calls P f args w R)
 (hR:∀e w',R e w'->∃v,e=.returned v/\K (a.put o.dst v) w'):if Region.wanted o (yielded ops a.tmps)=true then Oper.wp P o a w K Q else E:=by
 have hw:Region.wanted o (yielded ops a.tmps)=true:=by simp[Region.wanted,hg]
 rw[if_pos hw];obtain⟨dst,op,ty,pos,after,guard⟩:=o;simp only at ho hg;subst ho hg;unfold Oper.wp;rw[execOp_call_go,ha,hcf,Oper.upon_enter];refine h.mono ?_;intro e w' hr;obtain⟨v,rfl,hk⟩:=hR e w' hr;exact hk
theorem zbL 
 (hg:o.guard=none) (f:FuncId) (x:Operand) (t:TypeId) (ho:o.op=.call { callee:=.value (.func f),args:=#[x],argTypes:=#[t] })
 (hcf:∀(args:Array Value) (w:World),(callFunc f args).run P w=.ok (.enter f args) w) (v:Value) (hx:a.eval x=v) {R:Ending->World->Prop} (h:Calls P f #[v] w R)
 (hR:∀e w',R e w'->∃v,e=.returned v/\K (a.put o.dst v) w'):if Region.wanted o (yielded ops a.tmps)=true then Oper.wp P o a w K Q else E :=
 zf8 hg f #[x] #[t] ho hcf #[v] (by simp[hx]) h hR
theorem zde 
 (hg:o.guard=none) (f:FuncId) (x y:Operand) (t u:TypeId) (ho:o.op=.call { callee:=.value (.func f),args:=#[x,y],argTypes:=#[t,u] })
 (hcf:∀(args:Array Value) (w:World),(callFunc f args).run P w=.ok (.enter f args) w) (v v':Value) (hx:a.eval x=v) (hy:a.eval y=v') {R:Ending->World->Prop} (h:Calls P f #[v,v'] w R)
 (hR:∀e w',R e w'->∃v,e=.returned v/\K (a.put o.dst v) w'):if Region.wanted o (yielded ops a.tmps)=true then Oper.wp P o a w K Q else E :=
 zf8 hg f #[x,y] #[t,u] ho hcf #[v,v'] (by simp[hx,hy]) h hR
def zH (f:FuncId):Prop:=∀(args:Array Value) (w:World),(callFunc f args).run prog w=.ok (.enter f args) w
theorem Fr.undrew {T:Nat->Prop}(h:Fr T w.drew w'):Fr T w w':=⟨h.os,h.tape,h.output,h.size,h.block⟩
end
section
variable {xs:List Value} {B N cp g n:Nat} {e:TypeId} {v:Value} {W w:World}
def zCl (w:World)(N:Nat)(v:Value)(l:List Nat):Prop:=∃a cap,v=.slice a l.length cap/\l.length<=100000/\∀(k n:Nat),l[k]?=some n->∃g,a=some (xD g 0)/\g<N/\w.cell? (xD g k)=some (xI (n:Nat))
def zHh (w:World)(g x:Nat)(u:Value)(ex:Ex):Prop:=w.cell? (xD g (x*6))=some (.string ex.op)/\w.cell? (xD g (x*6+1))=some (xI ex.a)/\w.cell? (xD g (x*6+2))=some (xI ex.nm)/\w.cell? (xD g (x*6+3))=some u/\w.cell? (xD g (x*6+4))=some (.string ex.s)/\w.cell? (xD g (x*6+5))=some (xI ex.n)
def Txs (w:World)(N:Nat)(v:Value)(L:List Ex):Prop:=∃a cap,v=.slice a L.length cap/\L.length<=100000/\∀(x:Nat) (ex:Ex),L[x]?=some ex->∃g u,a=some (xD g 0)/\g<N/\zHh w g x u ex/\zCl w N u ex.ins
theorem zye {b i:Nat}(h:Below B w W)(hb:b<B)(hc:w.cell? (xD b i)=some v):W.cell? (xD b i)=some v:=(World.cell?_of_block (w:=w) (a:=(xD b i)) (h.block b hb)).trans hc
theorem zCl.bel {l:List Nat}(h:zCl w N v l)(hB:Below N w W):zCl W N v l:=by obtain⟨a,cap,h1,h2,h3⟩:=h;refine⟨a,cap,h1,h2,λk n hk=>?_⟩;obtain⟨g,e1,e2,e3⟩:=h3 k n hk;exact⟨g,e1,e2,zye hB e2 e3⟩
theorem Txs.bel {L:List Ex}(h:Txs w N v L)(hB:Below N w W):Txs W N v L:=by obtain⟨a,cap,h1,h2,h3⟩:=h;refine⟨a,cap,h1,h2,λx ex hx=>?_⟩;obtain⟨g,u,e1,e2,⟨c0,c1,c2,c3,c4,c5⟩,e4⟩:=h3 x ex hx;exact⟨g,u,e1,e2,⟨zye hB e2 c0,zye hB e2 c1,zye hB e2 c2,zye hB e2 c3,zye hB e2 c4,zye hB e2 c5⟩,e4.bel hB⟩
def zyC (L:List Ex)(y:Nat):Bool:=match L[y]? with
 | some e=>e.op.toList==[99,97,108,108]
 | none=>false
def zB9 (op:List UInt8):Nat :=
 if op=[110,117,109,98,101,114]∨op=[98,111,111,108]∨op=[118,97,114]∨op=[99,97,108,108] then 0
 else if op=[110,101,103]∨op=[110,111,116]∨op=[119,104,101,110]∨op=[119,104,101,110,111,116] then 1
 else if op=[105,102] then 3 else 2
inductive TxR (L:List Ex):Nat->ByteArray->Prop
 | mk (x:Nat) (ex:Ex) (bs:List ByteArray) (hx:L[x]?=some ex) (hl:bs.length=ex.ins.length) (hS:exS ex) (hA:zB9 ex.op.toList<=bs.length) (hM:ex.op.toList=[109,101,114,103,101]->bs.length=2/\∀(i y:Nat),ex.ins[i]?=some y->y<L.length) (hz:∀b∈bs,b.size<=1000000000000)
    (hr:∀(i y:Nat) (b:ByteArray),ex.ins[i]?=some y->bs[i]?=some b->TxR L y b):TxR L x (zyn ex.op ex.s ex.n (ex.ins.map (zyC L)) bs)
theorem Tryz.infoStrP:(prog.info? 9).map (λi=>(i.zero,i.size,i.bytes))=some (some (.string ⟨#[]⟩),1,16):=by kernel_rfl
theorem zG0 {s:ByteArray}:∀u∈[Value.string s],u.oneCell'=true:=by intro u hu;rw[List.mem_singleton.1 hu];rfl
theorem zA8 {ops:Array Oper}{rest:List Oper}{o:Oper}{a:Act}{Q:Exit->Act->World->Prop}(W:World)(hgd:o.guard=none)(s x:Operand)(ho:o.op=.call { callee:=.builtin .append,args:=#[s,x],argTypes:=#[79,79] })
 (B:Nat) (v:Value) (k:Nat) (xs:List Value) (y:ByteArray) (hs:a.eval s=v) (hown:W.ownsRow B 9 1 v k xs) (hx:a.eval x=xS W.heap.size 1 1) (mx:k+1<=100001) (hB:B<=W.heap.size)
 (h:∀g cap w',w'.ownsRow B 9 1 (xS g (k+1) cap) (k+1) (xs++[.string y])->Fr (λj=>v.ownBlock=some j) (W.alloc (.cells #[.string y] 9)) w'->(∀j,j=g->v.ownBlock=some j∨W.heap.size<j)->wpList prog ops Q rest (a.put o.dst (xS g (k+1) cap)) w') :
 wpList prog ops Q (o::rest) a (W.alloc (.cells #[.string y] 9)):=by
 obtain⟨i0,hi,hi0,hi1,hi2⟩:=info_parts Tryz.infoStrP;refine zbz _ hgd s x 79 ho B 9 i0 _ 1 16 underlying79 hi hi0 hi1 hi2 rfl (by decide) v k xs hs (zD hown _) (xD W.heap.size 0) 1 1 [.string y] hx rfl (zN (zc W _) rfl) zG0 (by unfold maxLen;omega) (by omega) (by simp;omega) ?_;intro v' w9 h9 hg hn;obtain⟨g9,cap9,rfl,_⟩:=zM h9 (by omega);refine h g9 cap9 w9 h9 (Fr.of_grown hg) (λj hj=>?_);rcases hn j (by subst hj;rfl) with h1|h1
 . exact Or.inl h1
 . rw[zsb] at h1;exact Or.inr h1
theorem zA7 {l:List ByteArray}(h:w.ownsRow B 9 1 v l.length (l.map .string))(hn:l.length<=100000)(hz:∀b∈l,b.size<=1000000000000):zEM w v l:=by
 by_cases h0:l.length=0
 . have:l=[]:=List.eq_nil_of_length_eq_zero h0;subst this;rcases h.2 with ⟨h2,_⟩|⟨g,cap,cur,h2,_⟩
   . exact⟨none,0,h2,by simp,λk s hk=>by simp at hk⟩
   . exact⟨_,cap,h2,by simp,λk s hk=>by simp at hk⟩
 . obtain⟨g,cap,rfl,_⟩:=zM h (by omega);refine⟨_,cap,rfl,hn,λk s hk=>⟨hz s (List.mem_of_getElem? hk),g,rfl,?_⟩⟩;have:=h.cells (g:=g) rfl k (.string s) (by simp[hk]);have e0:((xD g 0):Addr).add k=⟨g,k,none⟩:=by cases k <;> simp[Addr.add]
   rwa [e0] at this
theorem zEU {k:Nat}(h:w.ownsRow B e 1 (xS g n cp) n xs)(u:Value):(w.setCell (xD g k) u).ownsRow B e 1 (xS g n cp) n (xs.set k u):=by
 refine⟨by rw[List.length_set];exact h.1,?_⟩;rcases h.2 with ⟨e,_⟩|⟨g',cap,cur,e,hB,hb,h3,h4,h5,h6⟩
 . cases e
 . cases e;refine Or.inr ⟨g,cp,cur.setIfInBounds k u,rfl,hB,zh w g k u hb,h3,h4,by simpa using h5,?_⟩;rw[Array.toList_setIfInBounds,<- h6,Nat.mul_one,List.take_set]
theorem zEu (h:w.ownsRow B e 1 (xS g n cp) n xs)(i:Nat):w.frozen? (xD g i)=false:=by
 rcases h.2 with ⟨e,_⟩|⟨g',cap,cur,e,hB,hb,_⟩
 . cases e
 . cases e;simp[World.frozen?,hb]
theorem zCI {α:Type}{l:List α}(h:l.length=2):∃a b,l=[a,b]:=by
 match l,h with
 | [a,b],_=>exact⟨a,b,rfl⟩
end
section
variable {a:Addr} {B N b i j:Nat} {o1 o2:Obj} {u v:Value} {W w w' w1:World}
theorem zg (h:W.cell? a=some v):W.drew.cell? a=some v:=h
theorem zj (o:Obj)(h:W.cell? a=some v):(W.alloc o).cell? a=some v:=Lib.cell?_alloc_some o h
theorem zk {k:Nat}(hk:¬k=b)(h:W.cell? (xD k i)=some v):(W.setCell (xD b j) u).cell? (xD k i)=some v :=
 (World.cell?_of_block (w:=W) (Below.heap_setCell W _ u k hk)).trans h
theorem za0 (h:∃v,W.cell? (xD b i)=some v):(W.setCell (xD b i) u).cell? (xD b i)=some u:=by
 obtain⟨v,hv⟩:=h;unfold World.cell? at hv ⊢;simp only[World.setCell,Array.getElem?_modify] at hv ⊢;cases ho:W.heap[b]? with
 | none=>simp[ho] at hv
 | some o =>
   cases o with
   | cells c e f =>
     simp only[ho] at hv;have hi:i<c.size:=by
      rcases Nat.lt_or_ge i c.size with h|h
      . exact h
      . simp[Array.getElem?_eq_none h] at hv
     simp[hi]
   | _=>simp[ho] at hv
theorem zce (h:W.cell? (xD b i)=some v):∃v,(W.setCell (xD b j) u).cell? (xD b i)=some v:=by
 unfold World.cell? at h ⊢;simp only[World.setCell,Array.getElem?_modify] at h ⊢;cases ho:W.heap[b]? with
 | none=>simp[ho] at h
 | some o =>
   cases o with
   | cells c e f =>
     simp only[ho] at h;have hi:i<c.size:=by
      rcases Nat.lt_or_ge i c.size with h'|h'
      . exact h'
      . simp[Array.getElem?_eq_none h'] at h
     simp[hi]
   | _=>simp[ho] at h
theorem zd (h:Below B w W)(hc:w.cell? (xD b i)=some v)(hb:b<B):W.cell? (xD b i)=some v:=(World.cell?_of_block (w:=w) (h.block b hb)).trans hc
theorem zE (h:Below (w.alloc o1).heap.size (w.alloc o1) w1):xB w w1 :=
 ((Below.refl w.heap.size w).alloc (Nat.le_refl _) o1).trans (h.mono (by simp))
theorem zhh (h:Below ((w.alloc o1).alloc o2).heap.size ((w.alloc o1).alloc o2) w1):xB w w1:=zE (zE h)
theorem zg2 {o3:Obj}(h:Below (((w.alloc o1).alloc o2).alloc o3).heap.size (((w.alloc o1).alloc o2).alloc o3) w1):xB w w1:=zE (zhh h)
theorem zeW (hN:N<=w.heap.size)(o1:Obj):∀k,k<N->(w.alloc o1).heap[k]?=w.heap[k]?:=λk hk=>Below.heap_alloc _ _ _ (by omega)
theorem zfr (hN:N<=w.heap.size)(o1 o2:Obj):∀k,k<N->((w.alloc o1).alloc o2).heap[k]?=w.heap[k]?:=λk hk=>(Below.heap_alloc _ _ _ (by simp;omega)).trans (Below.heap_alloc _ _ _ (by omega))
theorem zot (hN:N<=w.heap.size)(o1 o2 o3:Obj):∀k,k<N->(((w.alloc o1).alloc o2).alloc o3).heap[k]?=w.heap[k]?:=λk hk=>(Below.heap_alloc _ _ _ (by simp;omega)).trans (zfr hN o1 o2 k hk)
theorem zq (w:World)(o1:Obj):xB w (w.alloc o1):=(Below.refl w.heap.size w).alloc (Nat.le_refl _) o1
theorem zaD (w:World)(o1 o2:Obj):xB w ((w.alloc o1).alloc o2):=zE (zq _ _)
theorem zcz (w:World)(o1 o2 o3:Obj):xB w (((w.alloc o1).alloc o2).alloc o3):=zE (zaD _ _ _)
theorem zo (h:Below B w W):Below B w W.drew:=⟨h.os,h.tape,h.output,h.size,h.block⟩
theorem zC (h:Below B w W)(hb:B<=b)(u:Value):Below B w (W.setCell (xD b i) u):=h.setCell hb u
def Old (N:Nat)(w w':World):Prop:=∀k,k<N->w'.heap[k]?=w.heap[k]?
theorem Old.refl (N:Nat)(w:World):Old N w w:=λ_ _=>rfl
theorem Old.trans {a b c:World}(h:Old N a b)(k:Old N b c):Old N a c:=λi hi=>(k i hi).trans (h i hi)
theorem Fr.old {S:Nat->Prop}(h:Fr S w w')(hN:N<=w.heap.size)(hS:∀k,S k->N<=k):Old N w w':=λk hk=>h.block k (by omega) (λhs=>by have:=hS k hs;omega)
theorem zm (h:Below B w w')(hN:N<=B):Old N w w':=λk hk=>h.block k (by omega)
theorem Old.mono {N':Nat}(h:Old N w w')(hN:N'<=N):Old N' w w':=λk hk=>h k (by omega)
end
end Go.Proofs.YtmfkofhgdjechaaGreatDoor
