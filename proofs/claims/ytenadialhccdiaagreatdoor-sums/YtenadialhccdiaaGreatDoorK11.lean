/- Part 12. -/
import Derived.Test.YtenadialhccdiaaGreatDoorK10
set_option maxRecDepth 100000
set_option maxHeartbeats 8000000
namespace Go.Proofs.YtenadialhccdiaaGreatDoor
open Go.Proofs.Tryz
open Go.RowKit
section
variable {N b1 b2 bb kd lb sb:Nat} {S:Xs} {st:Xo} {c:Sc} {askv ev nmv nv:Xv} {w w':Xw}
attribute [local go_sem ↓] Go.wp_at_zero Go.wp_at_succ
theorem zS {W:Xw}{b i:Nat}{v:Xv}(h:Fr (RT lb bb) w W)(hc:w.cell? (xD b i)=some v)(h1:¬b=lb)(h2:¬b=bb):W.cell? (xD b i)=some v:=by
 have hlt:b<w.heap.size:=by
  rcases Nat.lt_or_ge b w.heap.size with h|h
  . exact h
  simp[World.cell?,Array.getElem?_eq_none h] at hc
 exact (zWS (w:=w) (h.block b hlt (λe=>by rcases e with e|e;exact h1 e;exact h2 e))).trans hc
structure zas (S:Xs) (kd lb bb sb:Nat) (nmv askv:Xv) (N:Nat) (c:Sc) (ev nv:Xv) (b1 b2:Nat) (st:Xo) (w:Xw):Prop where
 rp:RpI S kd lb bb sb nmv askv st w
 sc:ScV w N c ev nv
 x1:w.heap[b1]?=some (.cells #[ev,nv] 188 (0,0))
 x2:w.heap[b2]?=some (.cells #[zam lb bb sb] 186 (0,0))
 d1:¬b1=lb
 d2:¬b1=bb
 d3:¬b2=lb
 d4:¬b2=bb
 l1:N<=lb
 l2:N<=bb
 hN:N<=w.heap.size
theorem zas.keep (h:zas S kd lb bb sb nmv askv N c ev nv b1 b2 st w)(hB:xB w w'):zas S kd lb bb sb nmv askv N c ev nv b1 b2 st w' :=
 ⟨h.rp.keep hB,h.sc.old (zm hB h.hN),(hB.block _ (ze h.x1)).trans h.x1,(hB.block _ (ze h.x2)).trans h.x2,h.d1,h.d2,h.d3,h.d4,h.l1,h.l2,zMO h.hN hB.size⟩
theorem zas.told {st':Xo}(h:zas S kd lb bb sb nmv askv N c ev nv b1 b2 st w)(hr:RpI S kd lb bb sb nmv askv st' w')(hf:Fr (RT lb bb) w w'):zas S kd lb bb sb nmv askv N c ev nv b1 b2 st' w':=by
 have hn:∀{b},¬b=lb->¬b=bb->¬RT lb bb b:=λh1 h2 e=>by rcases e with e|e;exact h1 e;exact h2 e
 exact⟨hr,h.sc.old (hf.old h.hN (λk e=>by rcases e with e|e;exact e▸h.l1;exact e▸h.l2)),(hf.block _ (ze h.x1) (hn h.d1 h.d2)).trans h.x1,(hf.block _ (ze h.x2) (hn h.d3 h.d4)).trans h.x2,h.d1,h.d2,h.d3,h.d4,h.l1,h.l2,zMO h.hN hf.size⟩
theorem zas.old (h:zas S kd lb bb sb nmv askv N c ev nv b1 b2 st w)(hf:Fr (RT lb bb) w w'):Old N w w':=hf.old h.hN (λk e=>by rcases e with e|e;exact e▸h.l1;exact e▸h.l2)
theorem zy {T:Xj}(h:xB w w'):Fr T w w':=Fr.of_below h
theorem zqK:zH 99:=λ_ _=>by kernel_rfl
theorem zqp:zH 93:=λ_ _=>by kernel_rfl
theorem zlV (S:Xs)(kd lb bb sb:Nat)(nmv askv:Xv)(N:Nat)(c:Sc)(hc:zbr c)(ev nv:Xv)(b1 b2:Nat)(hroot:∀q∈c.nd.eqs,zdg c q.r)(l1:N<=lb)(l2:N<=bb) :
 zjB N (RT lb bb) 99 #[xP b1,xP b2] (zdg c) c.nd (λst _ t=>(zbQ c t).foldl rep st) (zas S kd lb bb sb nmv askv N c ev nv b1 b2) where
 enters:=zqK
 hT:=λk e=>by rcases e with e|e;exact e▸l1;exact e▸l2
 keep:=λs w w' h hB=>h.keep hB
 sub:=λt u h hu=>h.sub hu
 root:=hroot
 call:=by
  intro q lv rv t v st w hq hE hT hW hN hI hO;have HI:=za hI;have HTT:=za hT;obtain⟨xe,cpe,nb,rfl,rfl,hnb⟩:=hI.sc.shape;obtain⟨b,args,vs,rfl,hb,hblk,_⟩:=hT.ptr;have hbz:=ze hblk;have HBk:=za hblk;obtain⟨xl,cl,rfl⟩:=zB hE.own;obtain⟨rb,_,_,rfl,_⟩:=hE.tt.ptr;obtain⟨o1,o2,o3⟩:=hO _ (zey za5 _);have z1:=ze hI.x1;have z2:=ze hI.x2;have d1:=hI.d1;have d2:=hI.d2;have d3:=hI.d3;have d4:=hI.d4;have hblb:¬b=lb:=by omega
  have hbbb:¬b=bb:=by omega
  have HSm:=za (λW (hB:xB w W)=>zj3 W (hT.old (zm hB hN)));have HOp:=za (λW (hB:Old N w W) (hz:N<=W.heap.size) (hs:ScV W N c (xE xe c cpe) (xP nb))=>ziU hc t (xP b) W (HTT.o.old hB) hs hz hO)
  show Calls prog _ #[.agg #[.slice xl q.ns.length cl,xI q.a,xP rb],xP b,xP b1,xP b2] w _;have hstart:∀o,zas S kd lb bb sb nmv askv N c (xE xe c cpe) (xP nb) b1 b2 st (w.alloc o)/\xB w (w.alloc o):=λo=>⟨HI.o.keep (zq w o),zq w o⟩;have Hst:=za hstart;cases hsm:zci t.k with
  | false =>
    have HT:Hid (∀st:Xo,(zbQ c t).foldl rep st=(if c.operands t=true then [] else [t.a]).foldl rep st):=by
     intro st;unfold zbQ;have:(zaJ t.k&&t.k != 3&&c.decl t.s != 1)=false:=by unfold zci at hsm;rw[hsm];rfl
     rw[this];rfl
    have HT:=za (HT.o st);go_enter func99,ntmps99;go_upto_region 1 with fail;refine zn (λW=>zas S kd lb bb sb nmv askv N c (xE xe c cpe) (xP nb) b1 b2 st W/\xB w W) (Hst.o _) ?_;rintro W ⟨hIW,hBW⟩;obtain⟨s0,s1,sf,sz⟩:=zp hIW.x1;obtain⟨p0,pf,pz⟩:=zu hIW.x2;obtain⟨m0,m1,m2,m3,m4,m5,mf,mz⟩:=zt ((hBW.block b hbz).trans HBk.o);have HIW:=za hIW;have HBW:=za hBW;have HQ:=za (λqn=>zaX (HSm.o (W.drewN qn) (zI hBW qn)));rw[hsm] at HQ;go_quiet ((go_at_call 100;exact HQ.o _));go_upto_region 3 with fail;refine zn (λW2=>zas S kd lb bb sb nmv askv N c (xE xe c cpe) (xP nb) b1 b2 st W2/\Fr (RT lb bb) w W2) ⟨HIW.o.keep (zI (zWQ _ _) _),zy (zI HBW.o _)⟩ ?_;rintro W2 ⟨hI2,hF2⟩;obtain⟨s0,s1,sf,sz⟩:=zp hI2.x1;obtain⟨p0,pf,pz⟩:=zu hI2.x2;have hO2:=HI.o.old hF2;obtain⟨m0,m1,m2,m3,m4,m5,mf,mz⟩:=zt ((hO2 b hb).trans HBk.o);have HI2:=za hI2;have HF2:=za hF2;have HD:=za (HOp.o W2 hO2 hI2.hN hI2.sc);cases hop:c.operands t with
    | true => rw[hop] at HD HT;go_wp2_with (go_at_call 101;refine HD.o.mono ?_;rintro e w5 ⟨rfl,hB5⟩;have HB5:=za hB5);go_ret;refine⟨rfl,?_,HF2.o.trans (zy HB5.o)⟩;rw[HT.o];exact HI2.o.keep HB5.o
    | false =>
      rw[hop] at HD HT;go_upto_region 4 with (go_at_call 101;refine HD.o.mono ?_;rintro e w5 ⟨rfl,hB5⟩;have HB5:=za hB5);have g1:=zd HB5.o p0 pz;have g2:=zd HB5.o m1 mz;have HTell:=za (zaa S kd lb bb sb nmv askv st t.a w5.drew ((HI2.o.keep HB5.o).rp.keep (zo (zWQ _ _))));unfold zam at g1
      go_region_held3 (λw'=>w'.cell? (xD b2 0)=some (.func (.func 110) #[] #[xP lb,xP bb,xP sb])/\w'.cell? (xD b 1)=some (xI t.a))
       (first|(with_reducible (refine⟨?_,?_⟩ <;> repeat (first|assumption|refine zg ?_|refine zS HFt.o ?_ (by omega) (by omega))))|go_keep)
       (first
         | (go_at_call 110;refine (HTell.o).mono ?_;rintro e w6 ⟨rfl,hRt,hFt'⟩;have HRt:=za hRt;have HFt:=za hFt'.undrew))
      go_wp2_with fail;go_ret;refine⟨rfl,?_,(HF2.o.trans (zy HB5.o)).trans HFt.o⟩;rw[HT.o];exact (HI2.o.keep HB5.o).told HRt.o HFt.o
  | true =>
    have hhas:c.has t.s=true:=o1 (by unfold zci at hsm;simp at hsm;exact hsm.1);by_cases hdc:c.decl t.s=1
    . have HT:Hid (∀st:Xo,(zbQ c t).foldl rep st=(if c.operands t=true then [] else [t.a]).foldl rep st):=by
       intro st;unfold zbQ;have:(zaJ t.k&&t.k != 3&&c.decl t.s != 1)=false:=by rw[hdc];simp
       rw[this];rfl
      have HT:=za (HT.o st);have hdc':((c.decl t.s:Int) != 1)=false:=(by simp[hdc]);go_enter func99,ntmps99;go_upto_region 1 with fail;refine zn (λW=>zas S kd lb bb sb nmv askv N c (xE xe c cpe) (xP nb) b1 b2 st W/\xB w W) (Hst.o _) ?_;rintro W ⟨hIW,hBW⟩;obtain⟨s0,s1,sf,sz⟩:=zp hIW.x1;obtain⟨p0,pf,pz⟩:=zu hIW.x2;obtain⟨m0,m1,m2,m3,m4,m5,mf,mz⟩:=zt ((hBW.block b hbz).trans HBk.o);have HIW:=za hIW;have HBW:=za hBW;have HQ:=za (HSm.o W.drew (zo hBW));rw[hsm] at HQ;have HD:=za (zbD t.s (t.nm:Int) W.drew (hIW.sc.old (λ_ _=>rfl)) (by show N<=W.heap.size;exact hIW.hN) hhas)
      go_region_held3 (λw'=>w'.cell? (xD b1 0)=some (xE xe c cpe)/\w'.cell? (xD b1 1)=some (xP nb)/\w'.cell? (xD b 2)=some (.string t.s)/\w'.cell? (xD b 3)=some (xI t.nm))
       (first|(with_reducible (refine⟨?_,?_,?_,?_⟩ <;> repeat (first|assumption|refine zg ?_|refine zj _ ?_|refine zk (by omega) ?_|refine zd HB1.o ?_ (by first|omega|(rw[zsb];omega)))))|go_keep)
       (first
         | (go_at_call 97;refine HD.o.mono ?_;rintro e w1 ⟨rfl,hB1⟩;have HB1:=za (zw hB1))
         | (go_at_call 100;refine HQ.o.mono ?_;rintro e w1 ⟨rfl,rfl⟩))
      go_upto_region 3 with fail;refine zn (λW2=>zas S kd lb bb sb nmv askv N c (xE xe c cpe) (xP nb) b1 b2 st W2/\Fr (RT lb bb) w W2) ⟨HIW.o.keep HB1.o,zy (HBW.o.trans (HB1.o.mono HBW.o.size))⟩ ?_;rintro W2 ⟨hI2,hF2⟩;obtain⟨s0,s1,sf,sz⟩:=zp hI2.x1;obtain⟨p0,pf,pz⟩:=zu hI2.x2;have hO2:=HI.o.old hF2;obtain⟨m0,m1,m2,m3,m4,m5,mf,mz⟩:=zt ((hO2 b hb).trans HBk.o);have HI2:=za hI2;have HF2:=za hF2;have HD:=za (HOp.o W2 hO2 hI2.hN hI2.sc);cases hop:c.operands t with
      | true => rw[hop] at HD HT;go_wp2_with (go_at_call 101;refine HD.o.mono ?_;rintro e w5 ⟨rfl,hB5⟩;have HB5:=za hB5);go_ret;refine⟨rfl,?_,HF2.o.trans (zy HB5.o)⟩;rw[HT.o];exact HI2.o.keep HB5.o
      | false =>
        rw[hop] at HD HT;go_upto_region 4 with (go_at_call 101;refine HD.o.mono ?_;rintro e w5 ⟨rfl,hB5⟩;have HB5:=za hB5);have g1:=zd HB5.o p0 pz;have g2:=zd HB5.o m1 mz;have HTell:=za (zaa S kd lb bb sb nmv askv st t.a w5.drew ((HI2.o.keep HB5.o).rp.keep (zo (zWQ _ _))));unfold zam at g1
        go_region_held3 (λw'=>w'.cell? (xD b2 0)=some (.func (.func 110) #[] #[xP lb,xP bb,xP sb])/\w'.cell? (xD b 1)=some (xI t.a))
         (first|(with_reducible (refine⟨?_,?_⟩ <;> repeat (first|assumption|refine zg ?_|refine zS HFt.o ?_ (by omega) (by omega))))|go_keep)
         (first
           | (go_at_call 110;refine (HTell.o).mono ?_;rintro e w6 ⟨rfl,hRt,hFt'⟩;have HRt:=za hRt;have HFt:=za hFt'.undrew))
        go_wp2_with fail;go_ret;refine⟨rfl,?_,(HF2.o.trans (zy HB5.o)).trans HFt.o⟩;rw[HT.o];exact (HI2.o.keep HB5.o).told HRt.o HFt.o
    have HT:Hid (∀st:Xo,(zbQ c t).foldl rep st=(if c.operands t=true then [] else [t.a]).foldl rep (rep st t.nm)):=by
     intro st;unfold zbQ;have:(zaJ t.k&&t.k != 3&&c.decl t.s != 1)=true:=by unfold zci at hsm;rw[hsm];simp[hdc]
     rw[this];rfl
    have HT:=za (HT.o st);have hdc':((c.decl t.s:Int) != 1)=true:=(by simp;omega);go_enter func99,ntmps99;go_upto_region 1 with fail;refine zn (λW=>zas S kd lb bb sb nmv askv N c (xE xe c cpe) (xP nb) b1 b2 st W/\xB w W) (Hst.o _) ?_;rintro W ⟨hIW,hBW⟩;obtain⟨s0,s1,sf,sz⟩:=zp hIW.x1;obtain⟨p0,pf,pz⟩:=zu hIW.x2;obtain⟨m0,m1,m2,m3,m4,m5,mf,mz⟩:=zt ((hBW.block b hbz).trans HBk.o);have HIW:=za hIW;have HBW:=za hBW;have HQ:=za (HSm.o W.drew (zo hBW));rw[hsm] at HQ;have HD:=za (zbD t.s (t.nm:Int) W.drew (hIW.sc.old (λ_ _=>rfl)) (by show N<=W.heap.size;exact hIW.hN) hhas)
    go_region_held3 (λw'=>w'.cell? (xD b1 0)=some (xE xe c cpe)/\w'.cell? (xD b1 1)=some (xP nb)/\w'.cell? (xD b 2)=some (.string t.s)/\w'.cell? (xD b 3)=some (xI t.nm))
     (first|(with_reducible (refine⟨?_,?_,?_,?_⟩ <;> repeat (first|assumption|refine zg ?_|refine zj _ ?_|refine zk (by omega) ?_|refine zd HB1.o ?_ (by first|omega|(rw[zsb];omega)))))|go_keep)
     (first
       | (go_at_call 97;refine HD.o.mono ?_;rintro e w1 ⟨rfl,hB1⟩;have HB1:=za (zw hB1))
       | (go_at_call 100;refine HQ.o.mono ?_;rintro e w1 ⟨rfl,rfl⟩))
    go_upto_region 2 with fail;have g1:=zd HB1.o p0 pz;have g2:=zd HB1.o m3 mz;have HTell:=za (zaa S kd lb bb sb nmv askv st t.nm w1.drew ((HIW.o.keep HB1.o).rp.keep (zo (zWQ _ _))));unfold zam at g1
    go_region_held3 (λw'=>w'.cell? (xD b2 0)=some (.func (.func 110) #[] #[xP lb,xP bb,xP sb])/\w'.cell? (xD b 3)=some (xI t.nm))
     (first|(with_reducible (refine⟨?_,?_⟩ <;> repeat (first|assumption|refine zg ?_|refine zS HFt.o ?_ (by omega) (by omega))))|go_keep)
     (first
       | (go_at_call 110;refine (HTell.o).mono ?_;rintro e w2 ⟨rfl,hRt,hFt'⟩;have HRt:=za hRt;have HFt:=za hFt'.undrew))
    go_upto_region 3 with fail;refine zn (λW2=>zas S kd lb bb sb nmv askv N c (xE xe c cpe) (xP nb) b1 b2 (rep st t.nm) W2/\Fr (RT lb bb) w W2) ⟨(HIW.o.keep HB1.o).told HRt.o HFt.o,(zy (HBW.o.trans (HB1.o.mono HBW.o.size))).trans HFt.o⟩ ?_;rintro W2 ⟨hI2,hF2⟩;obtain⟨s0,s1,sf,sz⟩:=zp hI2.x1;obtain⟨p0,pf,pz⟩:=zu hI2.x2;have hO2:=HI.o.old hF2;obtain⟨m0,m1,m2,m3,m4,m5,mf,mz⟩:=zt ((hO2 b hb).trans HBk.o);have HI2:=za hI2;have HF2:=za hF2;have HD:=za (HOp.o W2 hO2 hI2.hN hI2.sc);cases hop:c.operands t with
    | true => rw[hop] at HD HT;go_wp2_with (go_at_call 101;refine HD.o.mono ?_;rintro e w5 ⟨rfl,hB5⟩;have HB5:=za hB5);go_ret;refine⟨rfl,?_,HF2.o.trans (zy HB5.o)⟩;rw[HT.o];exact HI2.o.keep HB5.o
    | false =>
      rw[hop] at HD HT;go_upto_region 4 with (go_at_call 101;refine HD.o.mono ?_;rintro e w5 ⟨rfl,hB5⟩;have HB5:=za hB5);have g1:=zd HB5.o p0 pz;have g2:=zd HB5.o m1 mz;have HTell:=za (zaa S kd lb bb sb nmv askv (rep st t.nm) t.a w5.drew ((HI2.o.keep HB5.o).rp.keep (zo (zWQ _ _))));unfold zam at g1
      go_region_held3 (λw'=>w'.cell? (xD b2 0)=some (.func (.func 110) #[] #[xP lb,xP bb,xP sb])/\w'.cell? (xD b 1)=some (xI t.a))
       (first|(with_reducible (refine⟨?_,?_⟩ <;> repeat (first|assumption|refine zg ?_|refine zS HFt.o ?_ (by omega) (by omega))))|go_keep)
       (first
         | (go_at_call 110;refine (HTell.o).mono ?_;rintro e w6 ⟨rfl,hRt,hFt'⟩;have HRt:=za hRt;have HFt:=za hFt'.undrew))
      go_wp2_with fail;go_ret;refine⟨rfl,?_,(HF2.o.trans (zy HB5.o)).trans HFt.o⟩;rw[HT.o];exact (HI2.o.keep HB5.o).told HRt.o HFt.o
end
section
variable {k:Nat}
attribute [local go_sem ↓] Go.wp_at_zero Go.wp_at_succ
theorem zhm (c:Sc):∀(a b:List Vr),zau c (a++b)=zau c a++zau c b:=by
 intro a;induction a with
 | nil=>intro b;rfl
 | cons v a ih=>intro b;rw[List.cons_append,zau,zau,ih,zMQ]
theorem zeq {α:Type}{l:List α}{v:α}(h:l[k]?=some v):l.take (k+1)=l.take k++[v]:=by obtain⟨h1,h2⟩:=zMJ.1 h;rw[List.take_succ_eq_append_getElem h1,h2]
structure zfw (c:Sc):Prop where
 root:∀q∈c.nd.eqs,zdg c q.r
 ck:∀v∈c.nd.vars,zaA v≠0->c.has v.ck=true
 left:∀q∈c.nd.eqs,∀s∈q.ns,c.has s=true
 many:∀q∈c.nd.eqs,2<=q.ns.length->∃d,c.called q.r.s=some d/\d.nd.outs=q.ns.length
theorem zmH {N:Nat}{c:Sc}{ev nv:Xv}(hc:zbr c)(hn:zfw c)(q:Qn)(hq:q∈c.nd.eqs)(lv rv:Xv)(w:Xw)(hE:EqV w N q lv rv)(h:ScV w N c ev nv)(hN:N<=w.heap.size) :
 xK 98 #[.agg #[ev,nv],.agg #[lv,xI q.a,rv]] w (λe w'=>e=.returned (.bool (c.holds q))/\xB w w'):=by
 obtain⟨e1,e2,e3,e4⟩:=hc.nd.eqs q hq;by_cases h1:q.ns.length=1
 . exact zlF hc q lv rv w hE h hN (hn.root q hq) (hn.left q hq) e1 h1
 obtain⟨d,hd,hdo⟩:=hn.many q hq (by omega);exact zk0 hc q lv rv w hE h hN (hn.left q hq) e1 (by omega) hd hdo
theorem zik {α:Type}{l:List α}{v:α}(f:α->List Nat)(h:l[k]?=some v)(st:Xo):((l.take (k+1)).flatMap f).foldl rep st=(f v).foldl rep (((l.take k).flatMap f).foldl rep st):=by rw[zeq h,List.flatMap_append,zMP];simp
theorem zh9 {α:Type}(f:α->List Nat):∀(l:List α) (st:Xo),l.foldl (λst x=>(f x).foldl rep st) st=(l.flatMap f).foldl rep st:=by
 intro l;induction l with
 | nil=>intro st;rfl
 | cons a l ih=>intro st;rw[List.foldl_cons,List.flatMap_cons,zMP,ih]
theorem zjH (S:Xs)(kd lb bb sb:Nat)(nmv askv:Xv)(N:Nat)(c:Sc)(hc:zbr c)(hn:zfw c)(ev nv:Xv)(st:Xo)(w:Xw)(hR:RpI S kd lb bb sb nmv askv st w)(h:ScV w N c ev nv)(hN:N<=w.heap.size)(l1:N<=lb)(l2:N<=bb) :
 xK 47 #[.agg #[ev,nv],zam lb bb sb] w (λe w'=>e=.returned (.tuple #[])/\RpI S kd lb bb sb nmv askv (c.typesL.foldl rep st) w'/\Fr (RT lb bb) w w'):=by
 obtain⟨xe,cpe,nb,rfl,rfl,hnb⟩:=h.shape;have hzl:=ze hR.l;have hzb:=ze hR.b;have hA0:∀o1 o2,((w.alloc o1).alloc o2).heap[w.heap.size]?=some o1/\((w.alloc o1).alloc o2).heap[w.heap.size+1]?=some o2:=λo1 o2=>al2 w o1 o2
 have hAs:zas S kd lb bb sb nmv askv N c (xE xe c cpe) (xP nb) w.heap.size (w.heap.size+1) st ((w.alloc (.cells #[xE xe c cpe,xP nb] 188)).alloc (.cells #[zam lb bb sb] 186)) :=
  ⟨hR.keep (zaD w _ _),h.old (zfr hN _ _),(hA0 _ _).1,(hA0 _ _).2,by omega,by omega,by omega,by omega,l1,l2,by simp;omega⟩
 have HAs:=za hAs;obtain⟨nb',vs,qv,xs,e9,HNt⟩:=h.nd;cases e9;obtain⟨xv,cpv,rfl⟩:=zB HNt.vown;obtain⟨xq,cpq,rfl⟩:=zB HNt.own;have hfew:=HNt.few;have h16:c.nd.eqs.length<=9223372036854775807:=by
  rcases HNt.own.2 with ⟨_,h⟩|⟨g,cap,cur,hv,_,_,h3,h4,_⟩
  . omega
  unfold maxLen at h4;omega
 have HTy:Hid (c.typesL.foldl rep st=((c.nd.eqs.flatMap λq=>(zaV za5 q.r).flatMap (zbQ c))).foldl rep ((c.nd.eqs.flatMap λq=>if c.holds q=true then [] else [q.a]).foldl rep ((zau c c.nd.vars).foldl rep st))):=by unfold Hid Sc.typesL;rw[zMP,zMP]
 have hst0:(zau c (c.nd.vars.take 0)).foldl rep st=st:=rfl;have HFr0:=za (zy (T:=RT lb bb) (zaD w (.cells #[xE xe c cpe,xP nb] 188) (.cells #[zam lb bb sb] 186)));unfold zam at HAs HFr0 ⊢;go_enter func47,ntmps47;go_upto_region 1 with fail;refine zn (λW=>zas S kd lb bb sb nmv askv N c (xE xe c cpe) (xP nb) w.heap.size (w.heap.size+1) st W/\Fr (RT lb bb) w W) ⟨HAs.o,HFr0.o⟩ ?_;rintro W ⟨hIW,hFW⟩;have HIW:=za hIW;have HFW:=za hFW;obtain⟨s0,s1,sf,sz⟩:=zp hIW.x1;have hOW:=hFW.old hN (λk e=>by rcases e with e|e;exact e▸l1;exact e▸l2);obtain⟨m0,m1,m2,m3,m4,m5,mf,mz⟩:=zt ((hOW nb HNt.lo).trans HNt.blk);have Hst0:=za hst0;go_wp2_with fail;go_loopg [15] (c.nd.vars.length+1) (λj i wr=>∃k:Nat,k+j=c.nd.vars.length+1/\k<=c.nd.vars.length/\i=xI k/\Hid (zas S kd lb bb sb nmv askv N c (xE xe c cpe) (xP nb) w.heap.size (w.heap.size+1) ((zau c (c.nd.vars.take k)).foldl rep st) wr)/\Hid (Fr (RT lb bb) w wr));case atStart=>exact⟨0,by omega,zMN _,rfl,HIW.o,HFW.o⟩
 case round =>
  obtain⟨k,hkj,hk,rfl,HIk,HFk⟩:=hrel;have hOk:=HFk.o.old hN (λk e=>by rcases e with e|e;exact e▸l1;exact e▸l2);obtain⟨p0,p1,pf,pz⟩:=zp HIk.o.x1;obtain⟨q0,qf,qz⟩:=zu HIk.o.x2;unfold zam at q0;have hNr:=HIk.o.hN;by_cases hlt:k<c.nd.vars.length
  . obtain⟨v,hv⟩:∃v,c.nd.vars[k]?=some v:=⟨_,zsc hlt⟩;obtain⟨g,rfl,c0,c1,c2,c3,c4,c5,c6⟩:=zaM (HNt.old hOk).vown hv;have hgN:=HNt.vlo g rfl;have hT1:zau c (c.nd.vars.take (k+1))=zau c (c.nd.vars.take k)++((if (zaA v != 0&&c.decl v.ck != 1)=true then [v.on] else [])++[]):=by rw[zeq hv,zhm];rfl
    have hpz1:w.heap.size<wr.heap.size+1:=(by omega);have hqz1:w.heap.size+1<wr.heap.size+1:=(by omega);by_cases hsg:zaA v=0
    . have hsg':((zaA v:Int) != 0)=false:=(by simp[hsg]);have HT:Hid (∀s:Xo,(zau c (c.nd.vars.take (k+1))).foldl rep s=(zau c (c.nd.vars.take k)).foldl rep s):=(by intro s;rw[hT1];simp[hsg]);have HT:=za (HT.o st);generalize zaA v=sg at *;go_wp2_with fail;go_roundg (gk-1);case measure=>omega
      refine⟨k+1,by omega,by omega,by go_num,?_,HFk.o.alloc _⟩;rw[HT.o];exact HIk.o.keep (zq wr _)
    have hsg':((zaA v:Int) != 0)=true:=(by simp;omega);have hhas:=hn.ck v (zML hv) hsg;have HD:=za (λo=>zbD v.ck (v.ca:Int) (wr.alloc o) (HIk.o.keep (zq wr o)).sc (by simp;omega) hhas);by_cases hdc:c.decl v.ck=1
    . have HT:Hid (∀s:Xo,(zau c (c.nd.vars.take (k+1))).foldl rep s=(zau c (c.nd.vars.take k)).foldl rep s):=(by intro s;rw[hT1];simp[hdc]);have HT:=za (HT.o st);have hdc':((c.decl v.ck:Int) != 1)=false:=(by simp[hdc]);generalize zaA v=sg at *;generalize c.decl v.ck=dc at *;go_wp2_with (go_at_call 97;refine (HD.o _).mono ?_;rintro e w1 ⟨rfl,hB1⟩;have HB1:=za (zE hB1));go_roundg (gk-1);case measure=>omega
      refine⟨k+1,by omega,by omega,by go_num,?_,HFk.o.trans (zy HB1.o)⟩;rw[HT.o];exact HIk.o.keep HB1.o
    have HT:Hid (∀s:Xo,(zau c (c.nd.vars.take (k+1))).foldl rep s=rep ((zau c (c.nd.vars.take k)).foldl rep s) v.on):=(by intro s;rw[hT1,zMP];simp[hdc,hsg]);have HT:=za (HT.o st);have hdc':((c.decl v.ck:Int) != 1)=true:=(by simp;omega);generalize zaA v=sg at *;generalize c.decl v.ck=dc at *
    go_wp2_with (first
     | (go_at_call 110;refine HTell.o.mono ?_;rintro e w2 ⟨rfl,HRt,HFt⟩)
     | (go_at_call 97;refine (HD.o _).mono ?_;rintro e w1 ⟨rfl,hB1⟩;obtain⟨x0,x1,x2,x3,x4,x5,x6,xf,xz⟩:=zbZ ((hB1.block wr.heap.size (by simp)).trans (zc wr _));have HB1:=za (zE hB1);have g0:=zd HB1.o q0 qz;have HTell:=za (zaa S kd lb bb sb nmv askv _ v.on w1 (HIk.o.keep HB1.o).rp)))
    go_roundg (gk-1);case measure=>omega
    refine⟨k+1,by omega,by omega,by go_num,?_,(HFk.o.trans (zy HB1.o)).trans HFt⟩;rw[HT.o];exact (HIk.o.keep HB1.o).told HRt HFt
  have ek:k=c.nd.vars.length:=by omega
  subst ek;rw[List.take_length] at HIk;obtain⟨st1,hst1⟩:∃st1,(zau c c.nd.vars).foldl rep st=st1:=⟨_,rfl⟩;rw[hst1] at HIk HTy;obtain⟨n0,n1,n2,n3,n4,n5,nf,nz⟩:=zt ((hOk nb HNt.lo).trans HNt.blk);go_wp2_with fail;go_loopg [44] (c.nd.eqs.length+1) (λj i ws=>∃k:Nat,k+j=c.nd.eqs.length+1/\k<=c.nd.eqs.length/\i=xI k/\Hid (zas S kd lb bb sb nmv askv N c (xE xe c cpe) (xP nb) w.heap.size (w.heap.size+1) (((c.nd.eqs.take k).flatMap λq=>if c.holds q=true then [] else [q.a]).foldl rep st1) ws)/\Hid (Fr (RT lb bb) w ws));case atStart=>exact⟨0,by omega,zMN _,rfl,HIk.o,HFk.o⟩
  case round =>
   obtain⟨k,hkj,hk,rfl,HIk,HFk⟩:=hrel;have hOk:=HFk.o.old hN (λk e=>by rcases e with e|e;exact e▸l1;exact e▸l2);obtain⟨p0,p1,pf,pz⟩:=zp HIk.o.x1;obtain⟨q0,qf,qz⟩:=zu HIk.o.x2;unfold zam at q0;have hNr:=HIk.o.hN;by_cases hlt:k<c.nd.eqs.length
   . obtain⟨q,hq⟩:∃q,c.nd.eqs[k]?=some q:=⟨_,zsc hlt⟩;have hN2:=HNt.old hOk;obtain⟨g,lv,rv,rfl,c0,c1,c2,HEq⟩:=zcd hN2.own hN2.eqs hq rfl;obtain⟨rb,_,_,rfl,_⟩:=HEq.tt.ptr;obtain⟨xl,cl,rfl⟩:=zB HEq.own;have hgN:=HNt.elo g rfl;have HD:=za (λo=>zmH hc hn q (zML hq) _ _ (wr.alloc o) (HEq.old (zeW hNr o)) (HIk.o.keep (zq wr o)).sc (by simp;omega));have HFl:=za (zik (λq=>if c.holds q=true then [] else [q.a]) hq st1);have hpz1:w.heap.size<wr.heap.size+1:=(by omega);have hqz1:w.heap.size+1<wr.heap.size+1:=(by omega);cases hho:c.holds q with
     | true =>
       simp only[hho] at HFl;rw[hho] at HD;go_wp2_with (go_at_call 98;refine (HD.o _).mono ?_;rintro e w1 ⟨rfl,hB1⟩;have HB1:=za (zE hB1));go_roundg (gk-1);case measure=>omega
       refine⟨k+1,by omega,by omega,by go_num,?_,HFk.o.trans (zy HB1.o)⟩;rw[HFl.o];exact HIk.o.keep HB1.o
     | false =>
       simp only[hho] at HFl;rw[hho] at HD
       go_wp2_with (first
        | (go_at_call 110;refine HTell.o.mono ?_;rintro e w2 ⟨rfl,HRt,HFt⟩)
        | (go_at_call 98;refine (HD.o _).mono ?_;rintro e w1 ⟨rfl,hB1⟩;obtain⟨x0,x1,x2,xf,xz⟩:=zL ((hB1.block wr.heap.size (by simp)).trans (zc wr _));have HB1:=za (zE hB1);have g0:=zd HB1.o q0 qz;have HTell:=za (zaa S kd lb bb sb nmv askv _ q.a w1 (HIk.o.keep HB1.o).rp)))
       go_roundg (gk-1);case measure=>omega
       refine⟨k+1,by omega,by omega,by go_num,?_,(HFk.o.trans (zy HB1.o)).trans HFt⟩;rw[HFl.o];exact (HIk.o.keep HB1.o).told HRt HFt
   have ek:k=c.nd.eqs.length:=(by omega);subst ek;rw[List.take_length] at HIk;have hV:=zlV S kd lb bb sb nmv askv N c hc (xE xe c cpe) (xP nb) w.heap.size (w.heap.size+1) hn.root l1 l2;have HWk:=za (zfN hV nb _ _ xs _ wr (HNt.old hOk) hNr (λk e=>by have:=HFk.o.size;rcases e with e|e <;> omega) HIk.o);have hmf:∀(fn:Go.Fn) (first cap:Xa) (w:Xw),(Instr.makeFunc fn first cap).run prog w=.ok (.func fn first cap) w:=λ_ _ _ _=>rfl;go_wp2_with (go_at_call 92;refine HWk.o.mono ?_;rintro e w1 ⟨rfl,HI1,HF1⟩);go_end0;refine⟨rfl,?_,HFk.o.trans HF1⟩;rw[HTy.o];have:=HI1.rp;simp only[zh9] at this;exact this
end
section
attribute [local go_sem ↓] Go.wp_at_zero Go.wp_at_succ
theorem zkL (S:Xs)(kd lb bb sb:Nat)(nmv askv:Xv)(N:Nat)(c:Sc)(h6:c.er.length<=6)(ev nv:Xv)(b1 b2:Nat)(l1:N<=lb)(l2:N<=bb) :
 zjB N (RT lb bb) 93 #[xP b1,xP b2] (λ_=>True) c.nd (λst q t=>(zaL c q t).foldl rep st) (zas S kd lb bb sb nmv askv N c ev nv b1 b2) where
 enters:=zqp
 hT:=λk e=>by rcases e with e|e;exact e▸l1;exact e▸l2
 keep:=λs w w' h hB=>h.keep hB
 sub:=λt u h hu=>trivial
 root:=λ_ _=>trivial
 call:=by
  intro q lv rv t v st w hq hE hT hW hN hI hO;have HI:=za hI;have HTT:=za hT;have HEq:=za hE;have HWi:=za hW;obtain⟨xe,cpe,nb,rfl,rfl,hnb⟩:=hI.sc.shape;obtain⟨b,args,vs,rfl,hb,hblk,_⟩:=hT.ptr;have hbz:=ze hblk;have HBk:=za hblk;obtain⟨xl,cl,rfl⟩:=zB hE.own;obtain⟨rb,_,_,rfl,_⟩:=hE.tt.ptr;have z1:=ze hI.x1;have z2:=ze hI.x2;have zl:=ze hI.rp.l;have zb:=ze hI.rp.b;have d1:=hI.d1;have d2:=hI.d2;have d3:=hI.d3;have d4:=hI.d4;have hblb:¬b=lb:=by omega
  have hbbb:¬b=bb:=by omega
  have HNv:=za (λW (hB:xB w W)=>zf2 W (hT.old (zm hB hN)));have HUs:=za (λW (hB:Old N w W)=>znj W (HEq.o.old hB) (HTT.o.old hB) HWi.o);have HFi:=za (λW (hB:Old N w W) (hz:N<=W.heap.size) (hs:ScV W N c (xE xe c cpe) (xP nb))=>znK (zda q t) W hs hz h6 (HTT.o.old hB));have hne1:¬w.heap.size=lb:=by omega
  have hne2:¬w.heap.size=bb:=by omega
  show Calls prog _ #[.agg #[.slice xl q.ns.length cl,xI q.a,xP rb],xP b,xP b1,xP b2] w _;have hstart:zas S kd lb bb sb nmv askv N c (xE xe c cpe) (xP nb) b1 b2 st (w.alloc (.cells #[.slice xl q.ns.length cl,xI q.a,xP rb] 158)):=HI.o.keep (zq w _);have Hst:=za hstart;by_cases hk4:t.k=4
  . have hsm:zaJ t.k=false:=by rw[hk4];rfl
    rw[hk4] at HBk;cases hfit:c.fits t (zda q t) with
    | true =>
      have HT:Hid ((zaL c q t).foldl rep st=st):=(by unfold Hid zaL;rw[hsm,hfit];simp);go_enter func93,ntmps93;go_upto_region 1 with fail;refine zn (λW=>zas S kd lb bb sb nmv askv N c (xE xe c cpe) (xP nb) b1 b2 st W/\xB w W/\xH W w.heap.size #[.slice xl q.ns.length cl,xI q.a,xP rb] 158) ⟨Hst.o,zq w _,zc w _⟩ ?_;rintro W ⟨hIW,hBW,hQW⟩;obtain⟨s0,s1,sf,sz⟩:=zp hIW.x1;obtain⟨p0,pf,pz⟩:=zu hIW.x2;obtain⟨m0,m1,m2,m3,m4,m5,mf,mz⟩:=zt ((hBW.block b hbz).trans HBk.o);have HIW:=za hIW;have HBW:=za hBW;have HQW:=za hQW;have hqz:=ze hQW;have HQ:=za (λqn=>zaX (HNv.o (W.drewN qn) (zI hBW qn)));rw[hsm] at HQ;go_quiet ((go_at_call 94;exact HQ.o _));go_upto_region 3 with fail;refine zn (λW2=>zas S kd lb bb sb nmv askv N c (xE xe c cpe) (xP nb) b1 b2 st W2/\Fr (RT lb bb) w W2/\xH W2 w.heap.size #[.slice xl q.ns.length cl,xI q.a,xP rb] 158) ⟨HIW.o.keep (zI (zWQ _ _) _),zy (zI HBW.o _),HQW.o⟩ ?_;rintro W2 ⟨hI2,hF2,hQ2⟩;obtain⟨s0,s1,sf,sz⟩:=zp hI2.x1;obtain⟨p0,pf,pz⟩:=zu hI2.x2;obtain⟨r0,r1,r2,rf,rz⟩:=zL hQ2;have hO2:=HI.o.old hF2;obtain⟨m0,m1,m2,m3,m4,m5,mf,mz⟩:=zt ((hO2 b hb).trans HBk.o);have HI2:=za hI2;have HF2:=za hF2;have HU:=za (HUs.o W2.drew hO2);have hNW2:=hI2.hN;have m0':xC W2 b 0 (xI 4):=m0
      go_region_held3 (λw'=>w'.cell? (xD b1 0)=some (xE xe c cpe)/\w'.cell? (xD b1 1)=some (xP nb)/\w'.cell? (xD w.heap.size 0)=some (.slice xl q.ns.length cl)/\w'.cell? (xD w.heap.size 1)=some (xI q.a)/\w'.cell? (xD w.heap.size 2)=some (xP rb)/\w'.cell? (xD b 0)=some (xI 4))
       (first|(with_reducible (refine⟨?_,?_,?_,?_,?_,?_⟩ <;> repeat (first|assumption|refine zg ?_|refine zj _ ?_|refine zk (by omega) ?_|refine zd HB2.o ?_ (by first|omega|(rw[zsb];omega))|refine zd HB1.o ?_ (by first|omega|(rw[zsb];omega)))))|go_keep)
       (first
         | (go_at_call 95;refine HD2.o.mono ?_;rintro e w5 ⟨rfl,hB2⟩;have HB2:=za hB2)
         | (go_at_call 96;refine HU.o.mono ?_;rintro e w4 ⟨rfl,hB1⟩;have HB1:=za (zw hB1);(have hzw1:W2.heap.size<=w4.heap.size:=hB1.size);have HD2:=za (HFi.o w4 (hO2.trans (zm HB1.o hNW2)) (by omega) (HI2.o.keep HB1.o).sc);rw[hfit] at HD2))
      go_wp2_with fail;go_ret;refine⟨rfl,?_,HF2.o.trans (zy (HB1.o.trans (HB2.o.mono (by have:=HB1.o.size;omega))))⟩;rw[HT.o];exact HI2.o.keep (HB1.o.trans (HB2.o.mono (by have:=HB1.o.size;omega)))
    | false =>
      have HT:Hid ((zaL c q t).foldl rep st=rep st t.nm):=(by unfold Hid zaL;rw[hsm,hfit,hk4];rfl);go_enter func93,ntmps93;go_upto_region 1 with fail;refine zn (λW=>zas S kd lb bb sb nmv askv N c (xE xe c cpe) (xP nb) b1 b2 st W/\xB w W/\xH W w.heap.size #[.slice xl q.ns.length cl,xI q.a,xP rb] 158) ⟨Hst.o,zq w _,zc w _⟩ ?_;rintro W ⟨hIW,hBW,hQW⟩;obtain⟨s0,s1,sf,sz⟩:=zp hIW.x1;obtain⟨p0,pf,pz⟩:=zu hIW.x2;obtain⟨m0,m1,m2,m3,m4,m5,mf,mz⟩:=zt ((hBW.block b hbz).trans HBk.o);have HIW:=za hIW;have HBW:=za hBW;have HQW:=za hQW;have hqz:=ze hQW;have HQ:=za (λqn=>zaX (HNv.o (W.drewN qn) (zI hBW qn)));rw[hsm] at HQ;go_quiet ((go_at_call 94;exact HQ.o _));go_upto_region 3 with fail;refine zn (λW2=>zas S kd lb bb sb nmv askv N c (xE xe c cpe) (xP nb) b1 b2 st W2/\Fr (RT lb bb) w W2/\xH W2 w.heap.size #[.slice xl q.ns.length cl,xI q.a,xP rb] 158) ⟨HIW.o.keep (zI (zWQ _ _) _),zy (zI HBW.o _),HQW.o⟩ ?_;rintro W2 ⟨hI2,hF2,hQ2⟩;obtain⟨s0,s1,sf,sz⟩:=zp hI2.x1;obtain⟨p0,pf,pz⟩:=zu hI2.x2;obtain⟨r0,r1,r2,rf,rz⟩:=zL hQ2;have hO2:=HI.o.old hF2;obtain⟨m0,m1,m2,m3,m4,m5,mf,mz⟩:=zt ((hO2 b hb).trans HBk.o);have HI2:=za hI2;have HF2:=za hF2;have HU:=za (HUs.o W2.drew hO2);have hNW2:=hI2.hN;have m0':xC W2 b 0 (xI 4):=m0
      go_region_held3 (λw'=>w'.cell? (xD b1 0)=some (xE xe c cpe)/\w'.cell? (xD b1 1)=some (xP nb)/\w'.cell? (xD w.heap.size 0)=some (.slice xl q.ns.length cl)/\w'.cell? (xD w.heap.size 1)=some (xI q.a)/\w'.cell? (xD w.heap.size 2)=some (xP rb)/\w'.cell? (xD b 0)=some (xI 4))
       (first|(with_reducible (refine⟨?_,?_,?_,?_,?_,?_⟩ <;> repeat (first|assumption|refine zg ?_|refine zj _ ?_|refine zk (by omega) ?_|refine zd HB2.o ?_ (by first|omega|(rw[zsb];omega))|refine zd HB1.o ?_ (by first|omega|(rw[zsb];omega)))))|go_keep)
       (first
         | (go_at_call 95;refine HD2.o.mono ?_;rintro e w5 ⟨rfl,hB2⟩;have HB2:=za hB2)
         | (go_at_call 96;refine HU.o.mono ?_;rintro e w4 ⟨rfl,hB1⟩;have HB1:=za (zw hB1);(have hzw1:W2.heap.size<=w4.heap.size:=hB1.size);have HD2:=za (HFi.o w4 (hO2.trans (zm HB1.o hNW2)) (by omega) (HI2.o.keep HB1.o).sc);rw[hfit] at HD2))
      go_upto_region 4 with fail;have HB3:=za (HB1.o.trans (HB2.o.mono (by have:=HB1.o.size;omega)));have g1:=zd HB3.o p0 pz;have g2:=zd HB3.o m3 mz;have HTell:=za (zaa S kd lb bb sb nmv askv st t.nm w5.drew ((HI2.o.keep HB3.o).rp.keep (zo (zWQ _ _))));unfold zam at g1
      go_region_held3 (λw'=>w'.cell? (xD b2 0)=some (.func (.func 110) #[] #[xP lb,xP bb,xP sb])/\w'.cell? (xD b 3)=some (xI t.nm))
       (first|(with_reducible (refine⟨?_,?_⟩ <;> repeat (first|assumption|refine zg ?_|refine zS HFt.o ?_ (by omega) (by omega))))|go_keep)
       (first
         | (go_at_call 110;refine (HTell.o).mono ?_;rintro e w6 ⟨rfl,hRt,hFt'⟩;have HRt:=za hRt;have HFt:=za hFt'.undrew))
      go_wp2_with fail;go_ret;refine⟨rfl,?_,(HF2.o.trans (zy HB3.o)).trans HFt.o⟩;rw[HT.o];exact (HI2.o.keep HB3.o).told HRt.o HFt.o
  have hk4':((t.k:Int)==4)=false:=by simp;omega
  have hk4b:(t.k==4)=false:=by simp[hk4]
  cases hsm:zaJ t.k with
  | false => have HT:Hid ((zaL c q t).foldl rep st=st):=(by unfold Hid zaL;rw[hsm,hk4b];rfl);go_enter func93,ntmps93;go_upto_region 1 with fail;refine zn (λW=>zas S kd lb bb sb nmv askv N c (xE xe c cpe) (xP nb) b1 b2 st W/\xB w W/\xH W w.heap.size #[.slice xl q.ns.length cl,xI q.a,xP rb] 158) ⟨Hst.o,zq w _,zc w _⟩ ?_;rintro W ⟨hIW,hBW,hQW⟩;obtain⟨s0,s1,sf,sz⟩:=zp hIW.x1;obtain⟨p0,pf,pz⟩:=zu hIW.x2;obtain⟨m0,m1,m2,m3,m4,m5,mf,mz⟩:=zt ((hBW.block b hbz).trans HBk.o);have HIW:=za hIW;have HBW:=za hBW;have HQW:=za hQW;have hqz:=ze hQW;have HQ:=za (λqn=>zaX (HNv.o (W.drewN qn) (zI hBW qn)));rw[hsm] at HQ;go_quiet ((go_at_call 94;exact HQ.o _));go_upto_region 3 with fail;refine zn (λW2=>zas S kd lb bb sb nmv askv N c (xE xe c cpe) (xP nb) b1 b2 st W2/\Fr (RT lb bb) w W2/\xH W2 w.heap.size #[.slice xl q.ns.length cl,xI q.a,xP rb] 158) ⟨HIW.o.keep (zI (zWQ _ _) _),zy (zI HBW.o _),HQW.o⟩ ?_;rintro W2 ⟨hI2,hF2,hQ2⟩;obtain⟨s0,s1,sf,sz⟩:=zp hI2.x1;obtain⟨p0,pf,pz⟩:=zu hI2.x2;obtain⟨r0,r1,r2,rf,rz⟩:=zL hQ2;have hO2:=HI.o.old hF2;obtain⟨m0,m1,m2,m3,m4,m5,mf,mz⟩:=zt ((hO2 b hb).trans HBk.o);have HI2:=za hI2;have HF2:=za hF2;go_quiet (fail);go_wp2_with fail;go_ret;refine⟨rfl,?_,HF2.o.trans (zy (zI (zWQ _ _) _))⟩;rw[HT.o];exact HI2.o.keep (zI (zWQ _ _) _)
  | true =>
    cases hhas:c.has t.s with
    | true =>
      have HT:Hid ((zaL c q t).foldl rep st=st):=(by unfold Hid zaL;rw[hsm,hk4b,hhas];rfl);go_enter func93,ntmps93;go_upto_region 1 with fail;refine zn (λW=>zas S kd lb bb sb nmv askv N c (xE xe c cpe) (xP nb) b1 b2 st W/\xB w W/\xH W w.heap.size #[.slice xl q.ns.length cl,xI q.a,xP rb] 158) ⟨Hst.o,zq w _,zc w _⟩ ?_;rintro W ⟨hIW,hBW,hQW⟩;obtain⟨s0,s1,sf,sz⟩:=zp hIW.x1;obtain⟨p0,pf,pz⟩:=zu hIW.x2;obtain⟨m0,m1,m2,m3,m4,m5,mf,mz⟩:=zt ((hBW.block b hbz).trans HBk.o);have HIW:=za hIW;have HBW:=za hBW;have HQW:=za hQW;have hqz:=ze hQW;have HQ:=za (HNv.o W.drew (zo hBW));rw[hsm] at HQ;have HD:=za (zgt t.s (t.nm:Int) W.drew (hIW.sc.old (λ_ _=>rfl)) (by show N<=W.heap.size;exact hIW.hN));have hhas':(c.nd.find t.s).isSome=true:=hhas;rw[hhas'] at HD
      go_region_held3 (λw'=>w'.cell? (xD b1 0)=some (xE xe c cpe)/\w'.cell? (xD b1 1)=some (xP nb)/\w'.cell? (xD b 2)=some (.string t.s)/\w'.cell? (xD b 3)=some (xI t.nm))
       (first|(with_reducible (refine⟨?_,?_,?_,?_⟩ <;> repeat (first|assumption|refine zg ?_|refine zj _ ?_|refine zk (by omega) ?_|refine zd HB1.o ?_ (by first|omega|(rw[zsb];omega)))))|go_keep)
       (first
         | (go_at_call 91;refine HD.o.mono ?_;rintro e w1 ⟨rfl,hB1⟩;have HB1:=za (zw hB1))
         | (go_at_call 94;refine HQ.o.mono ?_;rintro e w1 ⟨rfl,rfl⟩))
      go_upto_region 3 with fail;refine zn (λW2=>zas S kd lb bb sb nmv askv N c (xE xe c cpe) (xP nb) b1 b2 st W2/\Fr (RT lb bb) w W2/\xH W2 w.heap.size #[.slice xl q.ns.length cl,xI q.a,xP rb] 158) ⟨HIW.o.keep HB1.o,zy (HBW.o.trans (HB1.o.mono HBW.o.size)),(HB1.o.block _ hqz).trans HQW.o⟩ ?_;rintro W2 ⟨hI2,hF2,hQ2⟩;obtain⟨s0,s1,sf,sz⟩:=zp hI2.x1;obtain⟨p0,pf,pz⟩:=zu hI2.x2;obtain⟨r0,r1,r2,rf,rz⟩:=zL hQ2;have hO2:=HI.o.old hF2;obtain⟨m0,m1,m2,m3,m4,m5,mf,mz⟩:=zt ((hO2 b hb).trans HBk.o);have HI2:=za hI2;have HF2:=za hF2;go_quiet (fail);go_wp2_with fail;go_ret;refine⟨rfl,?_,HF2.o.trans (zy (zI (zWQ _ _) _))⟩;rw[HT.o];exact HI2.o.keep (zI (zWQ _ _) _)
    | false =>
      have HT:Hid ((zaL c q t).foldl rep st=rep st t.nm):=(by unfold Hid zaL;rw[hsm,hk4b,hhas];rfl);go_enter func93,ntmps93;go_upto_region 1 with fail;refine zn (λW=>zas S kd lb bb sb nmv askv N c (xE xe c cpe) (xP nb) b1 b2 st W/\xB w W/\xH W w.heap.size #[.slice xl q.ns.length cl,xI q.a,xP rb] 158) ⟨Hst.o,zq w _,zc w _⟩ ?_;rintro W ⟨hIW,hBW,hQW⟩;obtain⟨s0,s1,sf,sz⟩:=zp hIW.x1;obtain⟨p0,pf,pz⟩:=zu hIW.x2;obtain⟨m0,m1,m2,m3,m4,m5,mf,mz⟩:=zt ((hBW.block b hbz).trans HBk.o);have HIW:=za hIW;have HBW:=za hBW;have HQW:=za hQW;have hqz:=ze hQW;have HQ:=za (HNv.o W.drew (zo hBW));rw[hsm] at HQ;have HD:=za (zgt t.s (t.nm:Int) W.drew (hIW.sc.old (λ_ _=>rfl)) (by show N<=W.heap.size;exact hIW.hN));have hhas':(c.nd.find t.s).isSome=false:=hhas;rw[hhas'] at HD
      go_region_held3 (λw'=>w'.cell? (xD b1 0)=some (xE xe c cpe)/\w'.cell? (xD b1 1)=some (xP nb)/\w'.cell? (xD b 2)=some (.string t.s)/\w'.cell? (xD b 3)=some (xI t.nm))
       (first|(with_reducible (refine⟨?_,?_,?_,?_⟩ <;> repeat (first|assumption|refine zg ?_|refine zj _ ?_|refine zk (by omega) ?_|refine zd HB1.o ?_ (by first|omega|(rw[zsb];omega)))))|go_keep)
       (first
         | (go_at_call 91;refine HD.o.mono ?_;rintro e w1 ⟨rfl,hB1⟩;have HB1:=za (zw hB1))
         | (go_at_call 94;refine HQ.o.mono ?_;rintro e w1 ⟨rfl,rfl⟩))
      go_upto_region 2 with fail;have g1:=zd HB1.o p0 pz;have g2:=zd HB1.o m3 mz;have HTell:=za (zaa S kd lb bb sb nmv askv st t.nm w1.drew ((HIW.o.keep HB1.o).rp.keep (zo (zWQ _ _))));unfold zam at g1
      go_region_held3 (λw'=>w'.cell? (xD b2 0)=some (.func (.func 110) #[] #[xP lb,xP bb,xP sb])/\w'.cell? (xD b 3)=some (xI t.nm))
       (first|(with_reducible (refine⟨?_,?_⟩ <;> repeat (first|assumption|refine zg ?_|refine zS HFt.o ?_ (by omega) (by omega))))|go_keep)
       (first
         | (go_at_call 110;refine (HTell.o).mono ?_;rintro e w2 ⟨rfl,hRt,hFt'⟩;have HRt:=za hRt;have HFt:=za hFt'.undrew))
      go_upto_region 3 with fail;refine zn (λW2=>zas S kd lb bb sb nmv askv N c (xE xe c cpe) (xP nb) b1 b2 (rep st t.nm) W2/\Fr (RT lb bb) w W2/\xH W2 w.heap.size #[.slice xl q.ns.length cl,xI q.a,xP rb] 158) ⟨(HIW.o.keep HB1.o).told HRt.o HFt.o,(zy (HBW.o.trans (HB1.o.mono HBW.o.size))).trans HFt.o,(HFt.o.block _ (by have:=HB1.o.size;omega) (λe=>by rcases e with e|e;exact hne1 e;exact hne2 e)).trans ((HB1.o.block _ hqz).trans HQW.o)⟩ ?_;rintro W2 ⟨hI2,hF2,hQ2⟩;obtain⟨s0,s1,sf,sz⟩:=zp hI2.x1;obtain⟨p0,pf,pz⟩:=zu hI2.x2;obtain⟨r0,r1,r2,rf,rz⟩:=zL hQ2;have hO2:=HI.o.old hF2;obtain⟨m0,m1,m2,m3,m4,m5,mf,mz⟩:=zt ((hO2 b hb).trans HBk.o);have HI2:=za hI2;have HF2:=za hF2;go_quiet (fail);go_wp2_with fail;go_ret;refine⟨rfl,?_,HF2.o.trans (zy (zI (zWQ _ _) _))⟩;rw[HT.o];exact HI2.o.keep (zI (zWQ _ _) _)
end
end Go.Proofs.YtenadialhccdiaaGreatDoor
