/- Part 4 of the proof: RefI RefJ RefK RefL RefM. -/
import Derived.Deep.LoopGhost
import Derived.Test.YtmfkofhgdjechaaGreatDoorK02
set_option maxRecDepth 100000
set_option maxHeartbeats 8000000
namespace Go.Proofs.YtmfkofhgdjechaaGreatDoor
open Go.Proofs.Tryz
open Go.RowKit
section
variable {L:List Ex} {b base rb:Nat} {xs xs':Rw} {w w':World}
def zyK (rb:Nat)(F:Fx)(xs:Rw)(w:World)(st':St)(r:Nat)(e:Ending)(w':World):Prop :=
 ∃xs',e=.returned (xI r)/\zs w' rb F xs' st'/\zx8 w' (rb+1) xs' st'.L/\Ev rb xs xs' w w'
theorem zx8.fr (h:zx8 w (rb+1) xs L)(hF:Fr (·=rb) w w'):zx8 w' (rb+1) xs L :=
 h.kept (λk h1 h2=>hF.block k h2 (by omega))
theorem zx8.alloc (h:zx8 w base xs L)(o:Obj):zx8 (w.alloc o) base xs L:=h.kept (λk _ hk=>Below.heap_alloc w o k hk)
theorem zx8.setOwn (h:zx8 w (rb+1) xs L)(i:Nat)(v:Value):zx8 (w.setCell (xD rb i) v) (rb+1) xs L:=h.kept (λk h1 _=>Below.heap_setCell _ _ _ _ (by show k≠rb;omega))
theorem zx8.apart (h:zx8 w base xs L){c:Array Value}{e:TypeId}{f:Nat×Nat}(hb:w.heap[b]?=some (.cells c e f))(he:e≠190):xs.v.ownBlock≠some b:=by
 obtain⟨_,h2,_⟩:=h;intro hk;rcases h2.2 with ⟨h1,_⟩|⟨g,cap,cur,h1,_,h3,_⟩
 . rw[h1] at hk;cases hk
 . rw[h1] at hk;have e1:g=b:=by simpa [Value.ownBlock] using hk
   rw[e1,hb] at h3;injection h3 with h4
   injection h4 with _ h5
   exact he h5
theorem Ev.alloc (o:Obj)(h:Ev rb xs xs' (w.alloc o) w'):Ev rb xs xs' w w':=by
 obtain⟨h,E,hE1,hE2⟩:=h;refine⟨⟨⟨h.1.os,h.1.tape,h.1.output,?_,?_⟩,?_⟩,E,hE1,?_⟩
 . have:=h.1.size;simp at this;omega
 . intro k hk hn;exact (h.1.block k (by simp;omega) hn).trans (Below.heap_alloc w o k hk)
 . intro k hk;rcases h.2 k hk with h2|h2
   . exact Or.inl h2
   . simp at h2;exact Or.inr (by omega)
 . intro v hv k hk;have:=hE2 v hv k hk;simp at this;omega
theorem Ev.alloc_behind (h:Ev rb xs xs' w w')(o:Obj):Ev rb xs xs' w (w'.alloc o):=⟨⟨h.1.1.alloc o,h.1.2⟩,h.2⟩
theorem Ev.fr {w1 w2:World}(h:Ev rb xs xs' w w1)(k:Fr (·=rb) w1 w2):Ev rb xs xs' w w2:=h.trans (Ev.of_fr k)
theorem Ev.cell (h:Ev rb xs xs' w w')(hb:b<w.heap.size)(h1:b≠rb)(h2:xs.v.ownBlock≠some b):w'.heap[b]?=w.heap[b]? :=
 h.1.1.block b hb (λhs=>hs.elim h1 h2)
def zBx (rb:Nat)(F:Fx)(xs:Rw)(w:World)(st':St)(r:Nat)(iv:Value)(e:Ending)(w':World):Prop :=
 ∃v',e=.returned (xI r)/\zs w' rb F ⟨v',xs.ins++[iv]⟩ st'/\zx8 w' (rb+1) ⟨v',xs.ins++[iv]⟩ st'.L/\Ev0 rb xs ⟨v',xs.ins++[iv]⟩ w w'
theorem zBx.post {F:Fx}{xs0:Rw}{w0:World}{st':St}{r:Nat}{iv:Value}{e:Ending}(h:zBx rb F xs w st' r iv e w')(hE:Ev rb xs0 xs w0 w)(hiv:∀k,iv.ownBlock=some k->w0.heap.size<=k):zyK rb F xs0 w0 st' r e w':=by
 obtain⟨v',h1,h2,h3,h4⟩:=h;obtain⟨g1,E,g2,g3⟩:=hE;refine⟨_,h1,h2,h3,g1.trans h4,E++[iv],by simp[g2],?_⟩;intro v hv k hk;rcases List.mem_append.1 hv with hv|hv
 . exact g3 v hv k hk
 . simp at hv;subst hv;exact hiv k hk
theorem zzr (rb:Nat)(F:Fx)(xs:Rw)(st:St)(e:Ex)(iv:Value)(w:World)(vop:ByteArray)(va vnm:Int)(vs:ByteArray)(vn:Int)
 (h1:vop=e.op) (h2:va=e.a) (h3:vnm=e.nm) (h4:vs=e.s) (h5:vn=e.n)
 (hlen:st.L.length<=100000) (hR:zs w rb F xs st) (hX:zx8 w (rb+1) xs st.L) (hI:w.ownsRow (rb+1) 3 1 iv e.ins.length (zyp e.ins)) (h1c:iv.oneCell'=true) :
 xK 283 #[xP rb,.agg #[.string vop,xI va,xI vnm,iv,.string vs,xI vn]] w (zBx rb F xs w (st.put e).1 (st.put e).2 iv):=by
 subst h1 h2 h3 h4 h5;exact zGa rb F xs st e iv w hlen hR hX hI h1c
theorem zAy (rb:Nat)(F:Fx)(xs:Rw)(st:St)(p:Nat)(op:ByteArray)(ni:Int)(n:Nat)(hn:ni=n)(w:World)(hI:Inv p st)(hR:zs w rb F xs st)(hX:zx8 w (rb+1) xs st.L) :
 xK 314 #[xP rb,.string op,xI ni] w (zyK rb F xs w (zdP op n st).1 (zdP op n st).2):=by
 obtain⟨h0,h1,h2,h3,h4,h5,h6,h7,h8,h9,h10,h11,h12,h13,h14⟩:=hR.cells;have HR:=za hR;have HX:=za hX;have HI:=za hI;have HN:=za hn;clear hR hX hI hn;go_enter func314,ntmps314;go_wp2_with (go_at_call 147;refine (zyg rb F xs st _ HI.o.ok HR.o).mono ?_;rintro e w1 ⟨rfl,hL1,hF1⟩;have HL1:=za hL1;have HF1:=za hF1;clear hL1 hF1);refine (zzr rb F xs st.step ⟨op,st.t.a,0,[],sE,n⟩ _ _ _ _ _ _ _ rfl rfl rfl rfl HN.o (by rw[St.step_L];exact HI.o.len) HL1.o (by rw[St.step_L];exact HX.o.fr HF1.o) (World.ownsRow_nil _ _ _ _) rfl).mono ?_;intro e w2 hq;obtain⟨xs',rfl,q1,q2,q3⟩:=hq.post (Ev.of_fr HF1.o) (λk hk=>by cases hk);go_wp2_with fail;go_ret;exact⟨xs',rfl,q1,q2,q3⟩
theorem zzL (n k:Nat):((n:Int)==(k:Int))=(n==k):=by rw[Bool.eq_iff_iff];simp;omega
theorem zCN (x:List UInt8):x=[111,114]∨x=[120,111,114]∨x=[97,110,100]∨x=[43]∨x=[45]∨x=[42]∨x=[47]∨x=[37]∨(x≠[111,114]/\x≠[120,111,114]/\x≠[97,110,100]/\x≠[43]/\x≠[45]/\x≠[42]/\x≠[47]/\x≠[37]):=by by_cases h1:x=[111,114];simp[h1];by_cases h2:x=[120,111,114];simp[h2];by_cases h3:x=[97,110,100];simp[h3];by_cases h4:x=[43];simp[h4];by_cases h5:x=[45];simp[h5];by_cases h6:x=[42];simp[h6];by_cases h7:x=[47];simp[h7];by_cases h8:x=[37];simp[h8];simp[*]
theorem zBG (t:Tk)(n:Nat)(w:World):xK 303 #[.agg #[xI t.k,xI t.a,xI t.t,.string t.s,xI t.n],xI n] w λe w'=>e=.returned (.bool (zco t n))/\xB w w':=by
 by_cases hk:t.k≠4/\t.k≠5
 . have b1:((t.k:Int) != 4)=true:=by simp;omega
   have b2:((t.k:Int) != 5)=true:=(by simp;omega);have HE:=za (zdQ (n:=n) hk);clear hk;go_enter func303,ntmps303;go_wp2;go_ret;exact⟨by rw[HE.o];rfl,(Below.refl _ _).alloc (Nat.le_refl _) _⟩
 . have hk':t.k=4∨t.k=5:=by omega
   have HE:=za (zek (n:=n) hk');clear hk;have b12:((t.k:Int) != 4)=false∨(((t.k:Int) != 4)=true/\((t.k:Int) != 5)=false):=by
    rcases hk' with hk|hk
    . left;simp;omega
    . right;simp;omega
   clear hk';have hcs:=zCN t.s.toList;rcases b12 with b1|⟨b1,b2⟩
   all_goals
    rcases hcs with hx|hx|hx|hx|hx|hx|hx|hx|⟨x1,x2,x3,x4,x5,x6,x7,x8⟩
    all_goals first
     | (rw[hx] at HE
        go_enter func303,ntmps303;go_wp2;go_ret;exact⟨by rw[HE.o];simp[zds];try exact zzL n _,(Below.refl _ _).alloc (Nat.le_refl _) _⟩)
     | (have HE2:Hid (zco t n=false):=by (rw[HE.o];unfold zds;rw[if_neg (by simp[x1,x2]),if_neg x3,if_neg (by simp[x4,x5]),if_neg (by simp[x6,x7,x8])];rfl)
        have y1:(t.s.toList==[111,114])=false:=beq_eq_false_iff_ne.2 x1;have y2:(t.s.toList==[120,111,114])=false:=beq_eq_false_iff_ne.2 x2;have y3:(t.s.toList==[97,110,100])=false:=beq_eq_false_iff_ne.2 x3;have y4:(t.s.toList==[43])=false:=beq_eq_false_iff_ne.2 x4;have y5:(t.s.toList==[45])=false:=beq_eq_false_iff_ne.2 x5;have y6:(t.s.toList==[42])=false:=beq_eq_false_iff_ne.2 x6;have y7:(t.s.toList==[47])=false:=beq_eq_false_iff_ne.2 x7;have y8:(t.s.toList==[37])=false:=beq_eq_false_iff_ne.2 x8;clear x1 x2 x3 x4 x5 x6 x7 x8 HE;go_enter func303,ntmps303;go_wp2;go_ret;exact⟨by rw[HE2.o];rfl,(Below.refl _ _).alloc (Nat.le_refl _) _⟩)
end
section
variable {F:Fx} {rb:Nat} {xs xs0:Rw} {s st:St} {w w0:World}
def zyq (d:Nat)(f:FuncId)(M:Fn):Prop:=∀(rb:Nat) (F:Fx) (xs:Rw) (st:St) (p:Nat) (w:World),Inv p st->18<=st.op+d->zs w rb F xs st->zx8 w (rb+1) xs st.L ->
 xK f #[xP rb] w (zyK rb F xs w (M st).1 (M st).2)
theorem zC3 {base b:Nat}(hb:b=w.heap.size)(hbase:base<=b)(l:List Nat)(hl:l.length<=100000):(w.alloc (.cells (zyp l).toArray 3)).ownsRow base 3 1 (xS b l.length l.length) l.length (zyp l):=by subst hb;have h:=World.ownsRow_lit w (base:=base) (e:=3) (size:=1) (zyp l).toArray l.length hbase (by unfold maxLen;omega) (by simp[zyp]);simpa using h
theorem zs.leave (h:zs w rb F xs st)(ho:1<=st.op):zs (w.setCell (xD rb 7) (xI ((st.op:Int)-1))) rb F xs st.leave:=by
 have h1:=h.setOp (st.op-1);have e:((st.op-1:Nat):Int)=(st.op:Int)-1:=by omega
 rw[e] at h1;exact h1
theorem zya (rb:Nat)(F:Fx)(xs:Rw)(st:St)(ki:Int)(k:Nat)(hk:ki=k)(s:ByteArray)(l:List UInt8)(hl:s.toList=l)(w:World)(hR:zs w rb F xs st):xK 210 #[xP rb,xI ki,.string s] w λe w'=>e=.returned (.bool (st.is k l))/\w=w' :=
 (zDq rb F xs st ki k hk s l hl w hR).mono (λ_ _ h=>⟨h.1,h.2.symm⟩)
theorem zs.lt' (h:zs w rb F xs st)(i:Nat)(v:Value):rb+1<=w.heap.size/\w.heap.size=(w.setCell (xD rb i) v).heap.size:=⟨h.lt,by simp[World.setCell]⟩
theorem zzz (e:Ex)(arr:Array Value)(n:Nat)(harr:arr=(zyp e.ins).toArray)(hn:n=e.ins.length)(hn2:n<=100000)(vop:ByteArray)(va vnm:Int)(vs:ByteArray)(vn:Int)
 (h1:vop=e.op) (h2:va=e.a) (h3:vnm=e.nm) (h4:vs=e.s) (h5:vn=e.n) (ho:1<=s.op) (hlen:s.L.length<=100000)
 (hL:zs w rb F xs s) (hX:zx8 w (rb+1) xs s.L) (hE:Ev rb xs0 xs w0 w) :
 xK 283 #[xP rb,.agg #[.string vop,xI va,xI vnm,xS w.heap.size n n,.string vs,xI vn]] ((w.setCell (xD rb 7) (xI ((s.op:Int)-1))).alloc (.cells arr 3)) (zyK rb F xs0 w0 (s.leave.put e).1 (s.leave.put e).2):=by
 obtain⟨z1,z2⟩:=hL.lt' 7 (xI ((s.op:Int)-1));subst harr hn;refine (zzr rb F xs s.leave e _ _ vop va vnm vs vn h1 h2 h3 h4 h5 hlen ((hL.leave ho).alloc _) ((hX.setOwn _ _).alloc _) (zC3 z2 z1 e.ins hn2) rfl).mono ?_;intro e' w' hq;have h6:Fr (·=rb) w ((w.setCell (xD rb 7) (xI ((s.op:Int)-1))).alloc (.cells (zyp e.ins).toArray 3)):=((Fr.refl _ w).set1 _ _).alloc _;have hz:=hE.1.1.size;exact hq.post (hE.fr h6) (λk hk=>by simp[Value.ownBlock] at hk;omega)
theorem zAm (e:Ex)(arr:Array Value)(n:Nat)(harr:arr=(zyp e.ins).toArray)(hn:n=e.ins.length)(hn2:n<=100000)(vop:ByteArray)(va vnm:Int)(vs:ByteArray)(vn:Int)
 (h1:vop=e.op) (h2:va=e.a) (h3:vnm=e.nm) (h4:vs=e.s) (h5:vn=e.n) (hlen:s.L.length<=100000)
 (hL:zs w rb F xs s) (hX:zx8 w (rb+1) xs s.L) (hE:Ev rb xs0 xs w0 w) :
 xK 283 #[xP rb,.agg #[.string vop,xI va,xI vnm,xS w.heap.size n n,.string vs,xI vn]] (w.alloc (.cells arr 3)) (zyK rb F xs0 w0 (s.put e).1 (s.put e).2):=by
 subst harr hn;refine (zzr rb F xs s e _ _ vop va vnm vs vn h1 h2 h3 h4 h5 hlen (hL.alloc _) (hX.alloc _) (zC3 rfl hL.lt e.ins hn2) rfl).mono ?_;intro e' w' hq;have hz:=hE.1.1.size;exact hq.post (hE.alloc_behind _) (λk hk=>by simp[Value.ownBlock] at hk;omega)
theorem zDU {d:Nat}{ru smp:Fn}(hU:zyq d 307 ru)(gU:zv d ru)(hS:zyq (d+1) 309 smp):zyq (d+1) 307 (zdn ru smp):=by
 intro rb F xs st p w hI ho hR hX;have hi1:=zya rb F xs st 4 4 rfl ⟨#[45]⟩ [45] (by decide +kernel) w hR;have hi2:=zya rb F xs st 5 5 rfl ⟨#[110,111,116]⟩ [110,111,116] (by decide +kernel) w hR;obtain⟨h0,h1,h2,h3,h4,h5,h6,h7,h8,h9,h10,h11,h12,h13,h14⟩:=hR.cells;by_cases hc:(st.is 4 [45]||st.is 5 [110,111,116])=true
 . have he:st.er=0:=by
    rcases Bool.or_eq_true_iff.1 hc with h|h
    . exact hI.is_ok (by omega) h
    . exact hI.is_ok (by omega) h
   have hk:2<=st.t.k:=by
    rcases Bool.or_eq_true_iff.1 hc with h|h
    . have:=Inv.is_k h;omega
    . have:=Inv.is_k h;omega
   have e1:=Fwd.enter hI he hk;have g2:=gU st.enter (p+1) e1.inv (by rw[St.enter_op];omega);have hM:zdn ru smp st=(ru st.enter).1.leave.put ⟨if st.is 4 [45]=true then zlo else zk5,st.t.a,0,[(ru st.enter).2],sE,0⟩:=(by unfold zdn;rw[if_pos ⟨he,hc⟩]);rw[hM];have hop2:1<=(ru st.enter).1.op:=(by rw[g2.op,St.enter_op];omega);have hlen2:(ru st.enter).1.L.length<=100000:=g2.inv.len;have hop3:(ru st.enter).1.op<=17:=g2.inv.op1;have he':((st.er:Int) != 0)=false:=(by simp;omega);have HI:=za hI;have Hi1:=za hi1;have Hi2:=za hi2;have HR:=za hR;have HX:=za hX;have E1:=za e1;have HU:=za (hU rb F xs st.enter (p+1));clear hM he hi1 hi2 hR hX g2 e1 hI gU hU hS;generalize ru st.enter=x at *;cases hm:st.is 4 [45] with
   | true => go_enter func307,ntmps307;go_wp2_with fail;refine Hi1.o.mono ?_;rintro e w' ⟨rfl,rfl⟩;go_wp2_with fail;refine Hi2.o.mono ?_;rintro e w' ⟨rfl,rfl⟩;go_wp2_with fail;refine (zy9 rb F xs st _ HI.o.ok (by have:=HI.o.op1;omega) HR.o).mono ?_;rintro e w1 ⟨rfl,hL1,hF1⟩;have HL1:=za hL1;have HF1:=za hF1;clear hL1 hF1;go_wp2_with fail;refine (HU.o _ E1.o.inv (by rw[St.enter_op];omega) HL1.o (by rw[St.enter_L];exact HX.o.fr HF1.o)).mono ?_;rintro e w2 ⟨xs2,rfl,hL2,hX2,hE2⟩;obtain⟨q0,q1,q2,q3,q4,q5,q6,q7,q8,q9,q10,q11,q12,q13,q14⟩:=hL2.cells;have qf:=hL2.frozen;have HL2:=za hL2;have HX2:=za hX2;have HE2:=za hE2;clear hL2 hX2 hE2;go_wp2_with fail;refine (zzz ⟨zlo,st.t.a,0,[x.2],sE,0⟩ _ _ rfl rfl (by simp) _ _ _ _ _ rfl rfl rfl rfl rfl hop2 hlen2 HL2.o HX2.o ((Ev.of_fr HF1.o).trans HE2.o)).mono ?_;rintro e w3 ⟨xs3,rfl,k1,k2,k3⟩;go_wp2_with fail;go_ret;exact⟨xs3,rfl,k1,k2,k3⟩
   | false => have hn:st.is 5 [110,111,116]=true:=(by simpa [hm] using hc);go_enter func307,ntmps307;go_wp2_with fail;refine Hi1.o.mono ?_;rintro e w' ⟨rfl,rfl⟩;go_wp2_with fail;refine Hi2.o.mono ?_;rintro e w' ⟨rfl,rfl⟩;go_wp2_with fail;refine (zy9 rb F xs st _ HI.o.ok (by have:=HI.o.op1;omega) HR.o).mono ?_;rintro e w1 ⟨rfl,hL1,hF1⟩;have HL1:=za hL1;have HF1:=za hF1;clear hL1 hF1;go_wp2_with fail;refine (HU.o _ E1.o.inv (by rw[St.enter_op];omega) HL1.o (by rw[St.enter_L];exact HX.o.fr HF1.o)).mono ?_;rintro e w2 ⟨xs2,rfl,hL2,hX2,hE2⟩;obtain⟨q0,q1,q2,q3,q4,q5,q6,q7,q8,q9,q10,q11,q12,q13,q14⟩:=hL2.cells;have qf:=hL2.frozen;have HL2:=za hL2;have HX2:=za hX2;have HE2:=za hE2;clear hL2 hX2 hE2;go_wp2_with fail;refine (zzz ⟨zk5,st.t.a,0,[x.2],sE,0⟩ _ _ rfl rfl (by simp) _ _ _ _ _ rfl rfl rfl rfl rfl hop2 hlen2 HL2.o HX2.o ((Ev.of_fr HF1.o).trans HE2.o)).mono ?_;rintro e w3 ⟨xs3,rfl,k1,k2,k3⟩;go_wp2_with fail;go_ret;exact⟨xs3,rfl,k1,k2,k3⟩
 . have hb:st.is 4 [45]=false/\st.is 5 [110,111,116]=false:=by cases h1:st.is 4 [45] <;> cases h2:st.is 5 [110,111,116] <;> simp_all
   obtain⟨hb1,hb2⟩:=hb;have hM:zdn ru smp st=smp st:=(by unfold zdn;rw[if_neg (by rw[hb1,hb2];simp)]);rw[hM];have Hi1:=za hi1;have Hi2:=za hi2;have HS:=za (hS rb F xs st p w hI ho hR hX);clear hM hi1 hi2 hR hX hI gU hU hS hc;go_enter func307,ntmps307;go_wp2_with fail;refine Hi1.o.mono ?_;rintro e w' ⟨rfl,rfl⟩;go_wp2_with fail;refine Hi2.o.mono ?_;rintro e w' ⟨rfl,rfl⟩;go_wp2_with fail;refine HS.o.mono ?_;rintro e w3 ⟨xs3,rfl,k1,k2,k3⟩;go_wp2_with fail;go_ret;exact⟨xs3,rfl,k1,k2,k3⟩
end
section
variable {rx:Fn} {d:Nat}
theorem zET {eith:Fn}(hX':zyq d 260 rx)(gX:zv d rx)(hE:zyq (d+1) 284 eith)(gE:zv (d+1) eith):zyq (d+1) 260 (zgk rx eith):=by
 intro rb F xs st p w hI ho hR hX;have g1:=gE st p hI ho;have HE1:=za (hE rb F xs st p w hI ho hR hX);clear hR hX hE gE;by_cases hc:(eith st).1.er=0/\(eith st).1.is 5 [102,98,121]=true
 . obtain⟨he,hf⟩:=hc;have e2:=Fwd.enter g1.inv he (by have:=Inv.is_k hf;omega);have g3:=gX (eith st).1.enter (p+1) e2.inv (by rw[St.enter_op,g1.op];omega);have hM:zgk rx eith st=(rx (eith st).1.enter).1.leave.put ⟨zgW,(eith st).1.t.a,0,[(eith st).2,(rx (eith st).1.enter).2],sE,0⟩:=by unfold zgk;simp only;rw[if_pos ⟨he,hf⟩]
   rw[hM];have hop2:1<=(rx (eith st).1.enter).1.op:=(by rw[g3.op,St.enter_op];omega);have hop3:(rx (eith st).1.enter).1.op<=17:=g3.inv.op1;have hlen2:(rx (eith st).1.enter).1.L.length<=100000:=g3.inv.len;have hoo:18<=(eith st).1.enter.op+d:=(by rw[St.enter_op,g1.op];omega);have he':(((eith st).1.er:Int) != 0)=false:=(by simp;omega);have G1:=za g1.inv;have E2:=za e2;clear hM he g1 e2 g3 gX;generalize eith st=x at *;generalize hy:rx x.1.enter=y at *;have HY:=za hy;clear hy;go_enter func260,ntmps260;go_wp2_with fail;refine HE1.o.mono ?_;rintro e w1 ⟨xs1,rfl,hL1,hX1,hV1⟩;obtain⟨a0,a1,a2,a3,a4,a5,a6,a7,a8,a9,a10,a11,a12,a13,a14⟩:=hL1.cells;have HL1:=za hL1;have HX1:=za hX1;have HV1:=za hV1;clear hL1 hX1 hV1;go_wp2_with fail;refine (zya rb F xs1 x.1 5 5 rfl ⟨#[102,98,121]⟩ [102,98,121] (by decide +kernel) _ HL1.o).mono ?_;rintro e w' ⟨rfl,rfl⟩;go_wp2_with fail;refine (zy9 rb F xs1 x.1 _ G1.o.ok (by have:=G1.o.op1;omega) HL1.o).mono ?_;rintro e w2 ⟨rfl,hL2,hF2⟩;have HL2:=za hL2;have HF2:=za hF2;clear hL2 hF2;go_wp2_with fail;refine (hX' rb F xs1 x.1.enter (p+1) _ E2.o.inv hoo HL2.o (by rw[St.enter_L];exact HX1.o.fr HF2.o)).mono ?_;rw[HY.o];rintro e w3 ⟨xs3,rfl,hL3,hX3,hV3⟩;obtain⟨q0,q1,q2,q3,q4,q5,q6,q7,q8,q9,q10,q11,q12,q13,q14⟩:=hL3.cells;have qf:=hL3.frozen;have HL3:=za hL3;have HX3:=za hX3;have HV3:=za hV3;clear hL3 hX3 hV3;go_wp2_with fail;refine (zzz ⟨zgW,x.1.t.a,0,[x.2,y.2],sE,0⟩ _ _ rfl rfl (by simp) _ _ _ _ _ rfl rfl rfl rfl rfl hop2 hlen2 HL3.o HX3.o ((HV1.o.fr HF2.o).trans HV3.o)).mono ?_;rintro e w4 ⟨xs4,rfl,k1,k2,k3⟩;go_wp2_with fail;go_ret;exact⟨xs4,rfl,k1,k2,k3⟩
 . have hM:zgk rx eith st=eith st:=by unfold zgk;simp only;rw[if_neg hc]
   rw[hM];have hc':(eith st).1.is 5 [102,98,121]=false∨((eith st).1.is 5 [102,98,121]=true/\(((eith st).1.er:Int) != 0)=true):=by
    cases h:(eith st).1.is 5 [102,98,121] with
    | false=>exact Or.inl rfl
    | true=>exact Or.inr ⟨rfl,by have:¬(eith st).1.er=0:=λh2=>hc ⟨h2,h⟩;simp;omega⟩
   clear hM hc g1 gX hX';generalize eith st=x at *;rcases hc' with hc|⟨hc,he'⟩
   all_goals
    go_enter func260,ntmps260;go_wp2_with fail;refine HE1.o.mono ?_;rintro e w1 ⟨xs1,rfl,hL1,hX1,hV1⟩;obtain⟨a0,a1,a2,a3,a4,a5,a6,a7,a8,a9,a10,a11,a12,a13,a14⟩:=hL1.cells;have HL1:=za hL1;have HX1:=za hX1;have HV1:=za hV1;clear hL1 hX1 hV1;go_wp2_with fail;refine (zya rb F xs1 x.1 5 5 rfl ⟨#[102,98,121]⟩ [102,98,121] (by decide +kernel) _ HL1.o).mono ?_;rintro e w' ⟨rfl,rfl⟩;go_wp2_with fail;go_ret;exact⟨xs1,rfl,HL1.o,HX1.o,HV1.o⟩
theorem zDF (hX':zyq d 260 rx)(gX:zv d rx)(rb:Nat)(F:Fx)(xs:Rw)(st:St)(p:Nat)(w:World)(hI:Inv p st)(he:st.er=0)(hk:2<=st.t.k)(ho:18<=st.op+(d+1))(hR:zs w rb F xs st)(hX:zx8 w (rb+1) xs st.L) :
 xK 315 #[xP rb] w (zyK rb F xs w (zdx rx st).1 (zdx rx st).2):=by
 have e1:=Fwd.enter hI he hk;have o1:st.enter.op=st.op+1:=St.enter_op;have g2:=gX st.enter (p+1) e1.inv (by rw[o1];omega);have e3:=Fwd.must g2.inv 5 [116,104,101,110];have o3:((rx st.enter).1.must 5 [116,104,101,110]).op=st.op+1:=by rw[St.must_op,g2.op,o1]
 have g4:=gX _ (p+1) e3.inv (by rw[o3];omega);have e5:=Fwd.must g4.inv 5 [101,108,115,101];have o5:((rx ((rx st.enter).1.must 5 [116,104,101,110])).1.must 5 [101,108,115,101]).op=st.op+1:=by rw[St.must_op,g4.op,o3]
 have g6:=gX _ (p+1) e5.inv (by rw[o5];omega);have hM:zdx rx st=(rx ((rx ((rx st.enter).1.must 5 [116,104,101,110])).1.must 5 [101,108,115,101])).1.leave.put ⟨sIf,st.t.a,0,[(rx st.enter).2,(rx ((rx st.enter).1.must 5 [116,104,101,110])).2,(rx ((rx ((rx st.enter).1.must 5 [116,104,101,110])).1.must 5 [101,108,115,101])).2],sE,0⟩:=rfl;rw[hM];obtain⟨h0,h1,h2,h3,h4,h5,h6,h7,h8,h9,h10,h11,h12,h13,h14⟩:=hR.cells;have HR:=za hR;have HX:=za hX;have HI:=za hI;have E1:=za e1;have G2:=za g2.inv;have E3:=za e3;have G4:=za g4.inv;have E5:=za e5;clear hR hX hI hM he e1 g2 e3 g4 e5 gX;have hop2:1<=(rx ((rx ((rx st.enter).1.must 5 [116,104,101,110])).1.must 5 [101,108,115,101])).1.op:=by rw[g6.op,o5];omega
 have hop3:(rx ((rx ((rx st.enter).1.must 5 [116,104,101,110])).1.must 5 [101,108,115,101])).1.op<=17:=g6.inv.op1;have hlen2:(rx ((rx ((rx st.enter).1.must 5 [116,104,101,110])).1.must 5 [101,108,115,101])).1.L.length<=100000:=g6.inv.len;have oo1:18<=st.enter.op+d:=by omega
 have oo3:18<=((rx st.enter).1.must 5 [116,104,101,110]).op+d:=by omega
 have oo5:18<=((rx ((rx st.enter).1.must 5 [116,104,101,110])).1.must 5 [101,108,115,101]).op+d:=by omega
 clear o1 o3 o5 g6;generalize hx:rx st.enter=x at *;generalize hy:rx (x.1.must 5 [116,104,101,110])=y at *;generalize hz:rx (y.1.must 5 [101,108,115,101])=z at *;have HXX:=za hx;have HYY:=za hy;have HZZ:=za hz;clear hx hy hz;go_enter func315,ntmps315;go_wp2_with fail;refine (zy9 rb F xs st _ HI.o.ok (by have:=HI.o.op1;omega) HR.o).mono ?_;rintro e w1 ⟨rfl,hL1,hF1⟩;have HL1:=za hL1;have HF1:=za hF1;clear hL1 hF1;go_wp2_with fail;refine (hX' rb F xs st.enter (p+1) _ E1.o.inv oo1 HL1.o (by rw[St.enter_L];exact HX.o.fr HF1.o)).mono ?_;rw[HXX.o];rintro e w2 ⟨xs2,rfl,hL2,hX2,hV2⟩;have HL2:=za hL2;have HX2:=za hX2;have HV2:=za hV2;clear hL2 hX2 hV2;go_wp2_with fail;refine (zyc rb F xs2 x.1 5 5 rfl ⟨#[116,104,101,110]⟩ [116,104,101,110] (by decide +kernel) _ G2.o.ok HL2.o).mono ?_;rintro e w3 ⟨rfl,hL3,hF3⟩;have HL3:=za hL3;have HF3:=za hF3;clear hL3 hF3;go_wp2_with fail;refine (hX' rb F xs2 _ (p+1) _ E3.o.inv oo3 HL3.o (by rw[St.must_L];exact HX2.o.fr HF3.o)).mono ?_;rw[HYY.o];rintro e w4 ⟨xs4,rfl,hL4,hX4,hV4⟩;have HL4:=za hL4;have HX4:=za hX4;have HV4:=za hV4;clear hL4 hX4 hV4;go_wp2_with fail;refine (zyc rb F xs4 y.1 5 5 rfl ⟨#[101,108,115,101]⟩ [101,108,115,101] (by decide +kernel) _ G4.o.ok HL4.o).mono ?_;rintro e w5 ⟨rfl,hL5,hF5⟩;have HL5:=za hL5;have HF5:=za hF5;clear hL5 hF5;go_wp2_with fail;refine (hX' rb F xs4 _ (p+1) _ E5.o.inv oo5 HL5.o (by rw[St.must_L];exact HX4.o.fr HF5.o)).mono ?_;rw[HZZ.o];rintro e w6 ⟨xs6,rfl,hL6,hX6,hV6⟩;obtain⟨q0,q1,q2,q3,q4,q5,q6,q7,q8,q9,q10,q11,q12,q13,q14⟩:=hL6.cells;have qf:=hL6.frozen;have HL6:=za hL6;have HX6:=za hX6;have HV6:=za hV6;clear hL6 hX6 hV6;go_wp2_with fail;refine (zzz ⟨sIf,st.t.a,0,[x.2,y.2,z.2],sE,0⟩ _ _ rfl rfl (by simp) _ _ _ _ _ rfl rfl rfl rfl rfl hop2 hlen2 HL6.o HX6.o ((((Ev.of_fr HF1.o).trans (HV2.o.fr HF3.o)).trans (HV4.o.fr HF5.o)).trans HV6.o)).mono ?_;rintro e w7 ⟨xs7,rfl,k1,k2,k3⟩;go_wp2_with fail;go_ret;exact⟨xs7,rfl,k1,k2,k3⟩
end
section
variable {atm:Fn} {b d:Nat} {t:Tk} {w:World}
def z8 (t:Tk):Obj:=.cells #[xI t.k,xI t.a,xI t.t,.string t.s,xI t.n] 270 (0,0)
theorem zyj (h:w.heap[b]?=some (z8 t)):w.cell? (xD b 0)=some (xI t.k)/\w.cell? (xD b 1)=some (xI t.a)/\w.cell? (xD b 2)=some (xI t.t)/\w.cell? (xD b 3)=some (.string t.s)/\w.cell? (xD b 4)=some (xI t.n):=by simp[World.cell?,h,z8]
theorem zzH (h:w.heap[b]?=some (z8 t))(i:Nat):w.frozen? (xD b i)=false:=by simp[World.frozen?,h,z8]
theorem Ev.box {rb:Nat}{xs xs':Rw}{W w':World}(h:Ev rb xs xs' W w')(hB:W.heap[b]?=some (z8 t))(hb:b≠rb){L:List Ex}(hX:zx8 W (rb+1) xs L):w'.heap[b]?=some (z8 t):=by
 have hlt:b<W.heap.size:=by
  rcases Nat.lt_or_ge b W.heap.size with h|h
  . exact h
  . rw[Array.getElem?_eq_none h] at hB;cases hB
 rw[h.cell hlt hb (hX.apart hB (by decide)),hB]
theorem zFw (hA:zyq d 312 atm):zyq d 319 (zch atm):=by
 intro rb F xs st p w hI ho hR hX;obtain⟨h0,h1,h2,h3,h4,h5,h6,h7,h8,h9,h10,h11,h12,h13,h14⟩:=hR.cells;have hlt:=hR.lt;have n1:¬w.heap.size=rb:=by omega
 by_cases hc:st.er≠0∨st.t.k≠2
 . have hM:zch atm st=atm st:=by unfold zch;rw[if_pos hc]
   rw[hM];have hc':((st.er:Int) != 0)=true∨(((st.er:Int) != 0)=false/\((st.t.k:Int) != 2)=true):=by
    by_cases he:st.er=0
    . right;refine⟨by simp;omega,?_⟩;have:st.t.k≠2:=by rcases hc with h|h;omega;exact h
      simp;omega
    . left;simp;omega
   have HR:=za hR;have HX:=za hX;have HI:=za hI;clear hR hX hI hM hc;rcases hc' with he'|⟨he',hk'⟩
   all_goals
    go_enter func319,ntmps319;go_wp2_with fail;refine (hA rb F xs st p _ HI.o ho (HR.o.alloc _) (HX.o.alloc _)).mono ?_;rintro e w3 ⟨xs3,rfl,k1,k2,k3⟩;go_wp2_with fail;go_ret;exact⟨xs3,rfl,k1,k2,k3.alloc _⟩
 . have he:st.er=0:=by omega
   have hk:st.t.k=2:=(by omega);have hM:zch atm st=st.step.put ⟨zfR,st.t.a,st.t.a,[],st.t.s,0⟩:=(by unfold zch;rw[if_neg hc];rfl);rw[hM];have he':((st.er:Int) != 0)=false:=(by simp;omega);have hk':((st.t.k:Int) != 2)=false:=(by simp;omega);have HR:=za hR;have HX:=za hX;have HI:=za hI;have z1:w.heap.size<w.heap.size+1:=(by omega);clear hR hX hI hM hc he hk;go_enter func319,ntmps319;go_wp2_with fail;refine (zyg rb F xs st _ HI.o.ok (HR.o.alloc _)).mono ?_;rintro e w1 ⟨rfl,hL1,hF1⟩;obtain⟨b0,b1,b2,b3,b4⟩:=zyj (t:=st.t) ((hF1.block w.heap.size (by simp) n1).trans (zc w _));have HL1:=za hL1;have HF1:=za hF1;clear hL1 hF1;go_wp2_with fail;refine (zzr rb F xs st.step ⟨zfR,st.t.a,st.t.a,[],st.t.s,0⟩ _ _ _ _ _ _ _ rfl rfl rfl rfl rfl (by rw[St.step_L];exact HI.o.len) HL1.o (by rw[St.step_L];exact (HX.o.alloc _).fr HF1.o) (World.ownsRow_nil _ _ _ _) rfl).mono ?_;intro e w3 hq;obtain⟨xs3,rfl,k1,k2,k3⟩:=hq.post (Ev.of_fr HF1.o) (λk hk=>by cases hk);go_wp2_with fail;go_ret;exact⟨xs3,rfl,k1,k2,k3.alloc _⟩
theorem zEF (hS:zyq d 319 (zch atm))(gS:zv d (zch atm))(rb:Nat)(F:Fx)(xs:Rw)(st:St)(p:Nat)(w:World)(hI:Inv p st)(he:st.er=0)(hk:2<=st.t.k)(ho:18<=st.op+(d+1))(hR:zs w rb F xs st)(hX:zx8 w (rb+1) xs st.L) :
 xK 316 #[xP rb] w (zyK rb F xs w (zeE atm st).1 (zeE atm st).2):=by
 have e1:=Fwd.enter hI he hk;have e2:=Fwd.name e1.inv;have o2:st.enter.name.op=st.op+1:=(St.name_op _).trans St.enter_op;have g3:=gS st.enter.name (p+1) e2.inv (by rw[o2];omega);have o3:(zch atm st.enter.name).1.op=st.op+1:=g3.op.trans o2;have g4:=gS (zch atm st.enter.name).1 (p+1) g3.inv (by rw[o3];omega);have hM:zeE atm st=(zch atm (zch atm st.enter.name).1).1.leave.put ⟨zep,st.t.a,st.enter.t.a,[(zch atm st.enter.name).2,(zch atm (zch atm st.enter.name).1).2],st.enter.t.s,0⟩:=rfl;rw[hM];obtain⟨h0,h1,h2,h3,h4,h5,h6,h7,h8,h9,h10,h11,h12,h13,h14⟩:=hR.cells;have hop2:1<=(zch atm (zch atm st.enter.name).1).1.op:=by rw[g4.op,o3];omega
 have hop3:(zch atm (zch atm st.enter.name).1).1.op<=17:=g4.inv.op1;have hlen2:(zch atm (zch atm st.enter.name).1).1.L.length<=100000:=g4.inv.len;have oo2:18<=st.enter.name.op+d:=by omega
 have oo3:18<=(zch atm st.enter.name).1.op+d:=by omega
 have HR:=za hR;have HX:=za hX;have HI:=za hI;have E1:=za e1;have E2:=za e2;have G3:=za g3.inv;clear hR hX hI hM he e1 e2 g3 g4 gS o2 o3;generalize hx:zch atm st.enter.name=x at *;generalize hy:zch atm x.1=y at *;have HXX:=za hx;have HYY:=za hy;clear hx hy;go_enter func316,ntmps316;go_wp2_with fail;refine (zy9 rb F xs st _ HI.o.ok (by have:=HI.o.op1;omega) HR.o).mono ?_;rintro e w1 ⟨rfl,hL1,hF1⟩;have HL1:=za hL1;have HF1:=za hF1;clear hL1 hF1;go_wp2_with fail;refine (zyr rb F xs st.enter _ E1.o.inv.ok HL1.o).mono ?_;rintro e w2 ⟨rfl,hL2,hF2⟩;have hlt2:=hL2.lt;have n2:¬w2.heap.size=rb:=by omega
 have n3:¬rb=w2.heap.size:=by omega
 have HL2:=za hL2;have HF2:=za hF2;clear hL2 hF2;go_wp2_with fail;have hX2:zx8 (w2.alloc (z8 st.enter.t)) (rb+1) xs st.enter.name.L:=by rw[St.name_L,St.enter_L];exact ((HX.o.fr HF1.o).fr HF2.o).alloc _
 have HX2:=za hX2;clear hX2;refine (hS rb F xs st.enter.name (p+1) (w2.alloc (z8 st.enter.t)) E2.o.inv oo2 (HL2.o.alloc _) HX2.o).mono ?_;rw[HXX.o];rintro e w3 ⟨xs3,rfl,hL3,hX3,hV3⟩;have hB3:=hV3.box (zc w2 _) n2 HX2.o;have HB3:=za hB3;clear hB3;have HL3:=za hL3;have HX3:=za hX3;have HV3:=za hV3;clear hL3 hX3 hV3;go_wp2_with fail;refine (hS rb F xs3 x.1 (p+1) _ G3.o oo3 HL3.o HX3.o).mono ?_;rw[HYY.o];rintro e w4 ⟨xs4,rfl,hL4,hX4,hV4⟩;have hB4:=hV4.box HB3.o n2 HX3.o;obtain⟨b0,b1,b2,b3,b4⟩:=zyj hB4;obtain⟨q0,q1,q2,q3,q4,q5,q6,q7,q8,q9,q10,q11,q12,q13,q14⟩:=hL4.cells;have qf:=hL4.frozen;clear hB4;have HL4:=za hL4;have HX4:=za hX4;have HV4:=za hV4;clear hL4 hX4 hV4;go_wp2_with fail;refine (zzz ⟨zep,st.t.a,st.enter.t.a,[x.2,y.2],st.enter.t.s,0⟩ _ _ rfl rfl (by simp) _ _ _ _ _ rfl rfl rfl rfl rfl hop2 hlen2 HL4.o HX4.o ((((Ev.of_fr HF1.o).fr HF2.o).trans (HV3.o.alloc _)).trans HV4.o)).mono ?_;rintro e w7 ⟨xs7,rfl,k1,k2,k3⟩;go_wp2_with fail;go_ret;exact⟨xs7,rfl,k1,k2,k3⟩
end
section
variable {xs:Rw} {w:World}
def zzx (d:Nat)(f:FuncId)(n:Nat)(M:Fn):Prop:=∀(rb:Nat) (F:Fx) (xs:Rw) (st:St) (p:Nat) (w:World),Inv p st->18<=st.op+d->zs w rb F xs st->zx8 w (rb+1) xs st.L ->
 xK f #[xP rb,xI n] w (zyK rb F xs w (M st).1 (M st).2)
theorem zx8.below {w':World}{base:Nat}{L:List Ex}(h:zx8 w base xs L)(hb:xB w w'):zx8 w' base xs L:=h.kept (λk _ hk=>hb.block k hk)
theorem Ev.below {rb:Nat}{xs':Rw}{w1 w2:World}(h:Ev rb xs xs' w w1)(hb:xB w1 w2):Ev rb xs xs' w w2:=h.fr ((Fr.refl _ w1).belowed hb)
theorem zAR {d:Nat}{part:Fn}(lv:Nat)(hP:zzx d 302 lv part)(gP:zv d part):zzx d 297 lv (zcT lv part):=by
 intro rb F xs st p w hI ho hR hX;have g1:=gP st p hI ho;have H1:=za (hP rb F xs st p w hI ho hR hX);have hM:zcT lv part st=zdq lv part 1300 (part st):=rfl;rw[hM];have G1:=za g1.inv;have N1:=za g1.num;have O1:Hid (18<=(part st).1.op+d):=by unfold Hid;rw[g1.op];exact ho
 clear hR hX hM g1;generalize part st=x0 at *;obtain⟨R,hRes⟩:∃R,zdq lv part 1300 x0=R:=⟨_,rfl⟩;rw[hRes];have HRes:=za hRes;clear hRes;go_enter func297,ntmps297;go_wp2_with fail;refine H1.o.mono ?_;rintro e w1 ⟨xs1,rfl,hL1,hX1,hV1⟩;have HL1:=za hL1;have HX1:=za hX1;have HV1:=za hV1;clear hL1 hX1 hV1;go_wp2_with fail;go_loopg [5] 1300 (λk l wr=>∃(x:St×Nat) (xs':Rw),l=xI x.2/\Hid (zdq lv part k x=R)/\rem x.1<k/\Hid (Inv p x.1)/\Hid (18<=x.1.op+d)/\Hid (x.1.er=0->x.2<x.1.L.length)/\Hid (zs wr rb F xs' x.1)/\Hid (zx8 wr (rb+1) xs' x.1.L)/\Hid (Ev rb xs xs' w wr));case atStart => refine⟨x0,xs1,rfl,HRes.o,?_,G1.o,O1.o,N1.o,HL1.o,HX1.o,HV1.o⟩;unfold rem;split <;> omega
 case round =>
  obtain⟨x,xs2,rfl,HF,hrem,HI2,HO2,HN2,HL2,HX2,HV2⟩:=hrel;obtain⟨a0,a1,a2,a3,a4,a5,a6,a7,a8,a9,a10,a11,a12,a13,a14⟩:=HL2.o.cells;have hlt2:=HL2.o.lt;obtain⟨f,rfl⟩:∃f,gk=f+1:=⟨gk-1,by omega⟩;by_cases he:x.1.er=0
  . have he':((x.1.er:Int)==0)=true:=beq_iff_eq.2 (by omega);have HE:=za he;cases hlv:zco x.1.t lv with
    | true =>
      have HLV:=za hlv;have e3:=Fwd.use HI2.o he (zgS hlv);have g4:=gP x.1.step (p+1) e3.inv (by rw[St.step_op];exact HO2.o);have HF2:Hid (zdq lv part f ((part x.1.step).1.put ⟨x.1.t.s,x.1.t.a,0,[x.2,(part x.1.step).2],sE,0⟩)=R):=by
       have h:=HF.o;unfold Hid;rw[<- h]
       show _=(if x.1.er=0/\zco x.1.t lv=true then _ else x);rw[if_pos ⟨he,hlv⟩]
      have hlen4:(part x.1.step).1.L.length<=100000:=g4.inv.len;have hput:Hid (Inv p ((part x.1.step).1.put ⟨x.1.t.s,x.1.t.a,0,[x.2,(part x.1.step).2],sE,0⟩).1):=(Fwd.put g4.inv _).inv;have hop:Hid (18<=((part x.1.step).1.put ⟨x.1.t.s,x.1.t.a,0,[x.2,(part x.1.step).2],sE,0⟩).1.op+d):=(by unfold Hid;show 18<=(part x.1.step).1.op+d;rw[g4.op,St.step_op];exact HO2.o);have hrem':Hid (rem ((part x.1.step).1.put ⟨x.1.t.s,x.1.t.a,0,[x.2,(part x.1.step).2],sE,0⟩).1<f):=by
       unfold Hid rem
       show (if (part x.1.step).1.er=0 then 1201-(part x.1.step).1.t.a else 0)<f;have h1:rem x.1=1201-x.1.t.a:=(by unfold rem;rw[if_pos he]);have h2:=g4.ta;have h3:x.1.t.a+1<=x.1.step.t.a:=(by have:=HI2.o.tok (zgS hlv);rw[St.step_ok he];have hf:=zV x.1.src x.1.t.t HI2.o.ok.tt;simp only;omega);have h4:=g4.inv.ok.ta_le;have h5:=HI2.o.ok.ta_le;split <;> omega
      have E3:=za e3;clear he hlv e3 g4 HF;generalize hy:part x.1.step=y at *;have HY:=za hy;clear hy;go_wp2_with fail;refine (zBG x.1.t lv _).mono ?_;rintro e w3 ⟨rfl,hb3⟩;have HL3:=za (HL2.o.below hb3);have HX3:=za (HX2.o.below hb3);have HV3:=za (HV2.o.below hb3);obtain⟨b0,b1,b2,b3,b4,b5,b6,b7,b8,b9,b10,b11,b12,b13,b14⟩:=HL3.o.cells;have n3:¬w3.heap.size=rb:=(by have:=HL3.o.lt;omega);have hlv:=HLV.o;clear hb3;go_wp2_with fail;refine (zyg rb F xs2 x.1 (w3.alloc (z8 x.1.t)) HI2.o.ok (HL3.o.alloc _)).mono ?_;rintro e w4 ⟨rfl,hL4,hF4⟩;have hB4:=(hF4.block w3.heap.size (by simp) n3).trans (zc w3 (z8 x.1.t));have HB4:=za hB4;clear hB4;have HL4:=za hL4;have HF4:=za hF4;clear hL4 hF4;go_wp2_with fail;have hX4:zx8 w4 (rb+1) xs2 x.1.step.L:=(by rw[St.step_L];exact (HX3.o.alloc _).fr HF4.o);have HX4:=za hX4;clear hX4;refine (hP rb F xs2 x.1.step (p+1) _ E3.o.inv (by rw[St.step_op];exact HO2.o) HL4.o HX4.o).mono ?_;rw[HY.o];rintro e w5 ⟨xs5,rfl,hL5,hX5,hV5⟩;have hB5:=hV5.box HB4.o n3 HX4.o;obtain⟨t0,t1,t2,t3,t4⟩:=zyj hB5;clear hB5;have HL5:=za hL5;have HX5:=za hX5;have HV5:=za hV5;clear hL5 hX5 hV5;go_wp2_with fail;refine (zAm ⟨x.1.t.s,x.1.t.a,0,[x.2,y.2],sE,0⟩ _ _ rfl rfl (by simp) _ _ _ _ _ rfl rfl rfl rfl rfl hlen4 HL5.o HX5.o ((HV3.o.trans ((Ev.of_fr HF4.o).alloc _)).trans HV5.o)).mono ?_;rintro e w6 ⟨xs6,rfl,k1,k2,k3⟩;have K1:=za k1;have K2:=za k2;have K3:=za k3;clear k1 k2 k3;go_wp2_with fail;go_roundg f;case measure=>omega
      case rel=>exact⟨_,xs6,rfl,HF2.o,hrem'.out,hput,hop,za (λ_=>zgp _ _),K1,K2,K3⟩
    | false =>
      have HF2:Hid (R=x):=by
       have h:=HF.o;unfold Hid;rw[<- h]
       show (if x.1.er=0/\zco x.1.t lv=true then _ else x)=x;rw[if_neg (by rw[hlv];simp)]
      clear he HF;go_wp2_with fail;refine (zBG x.1.t lv _).mono ?_;rintro e w3 ⟨rfl,hb3⟩;have HL3:=za (HL2.o.below hb3);have HX3:=za (HX2.o.below hb3);have HV3:=za (HV2.o.below hb3);clear hb3;go_wp2_with fail;go_ret;rw[HF2.o];exact⟨xs2,rfl,HL3.o,HX3.o,HV3.o⟩
  . have he':((x.1.er:Int)==0)=false:=beq_eq_false_iff_ne.2 (by omega);have HF2:Hid (R=x):=by
     have h:=HF.o;unfold Hid;rw[<- h]
     show (if x.1.er=0/\zco x.1.t lv=true then _ else x)=x;rw[if_neg (by simp[he])]
    clear he HF;go_wp2_with fail;go_ret;rw[HF2.o];exact⟨xs2,rfl,HL2.o,HX2.o,HV2.o⟩
end
end Go.Proofs.YtmfkofhgdjechaaGreatDoor
