/- Part 11. -/
import Derived.Test.YtcnelakggnfnhaaGreatDoorK09
set_option maxRecDepth 100000
set_option maxHeartbeats 8000000
namespace Go.Proofs.YtcnelakggnfnhaaGreatDoor
open Go.Proofs.Tryz
open Go.RowKit
section
variable {j:List Tm} {N l n:Nat} {w:Xw}
attribute [local go_sem ↓] Go.wp_at_zero Go.wp_at_succ
theorem hn.cut {a:Xp}(h:hn w N j (.slice a n l)){k:Nat}(z:k<=j.length):hn w N (j.take k) (.slice a k l):=by
 obtain⟨x,f,m,y,p,q⟩:=h.ex;cases m;have v:(j.take k).length=k:=by simp;omega
 refine⟨a,l,by rw[v],by omega,p,λc=>?_⟩;have d:j≠[]:=by intro e;subst e;simp at c
 obtain⟨g,o,r,s,t⟩:=q d;refine⟨g,o,r,s,λi u b=>t i u ?_⟩;rw[List.getElem?_take] at b;split at b
 . exact b
 cases b
theorem nA {f:FuncId}{a:Xa}{v:Xv}(h:xK f a (w.drewN n) (λe b=>e=.returned v/\w.drewN n=b)):xK f a (w.drewN n) (λe b=>e=.returned v/\∃m,b=w.drewN m):=h.mono λ_ _ h=>⟨h.1,n,h.2.symm⟩
theorem hn.rest {t:Tm}{g o:Nat}(h:hn w N (t::j) (.slice (some (xD g o)) n l)):hn w N j (.slice (some (xD g (o+1))) j.length (l-1)):=by obtain⟨v,a,b,c,y,d⟩:=h.ex;cases b;simp only[bJ] at c;refine⟨_,l-1,rfl,by omega,by omega,λr=>?_⟩;obtain⟨x,z,e,f,k⟩:=d (by simp);cases e;refine⟨g,o+1,rfl,f,λi u q=>?_⟩;obtain⟨s,m,p⟩:=k (i+1) u (by simpa using q);exact⟨s,by rw[show o+1+i=o+(i+1) by omega];exact m,p⟩
theorem Hi {c:Sc}{ev nv:Xv}(hc:eU c)(t:Tm)(v:Xv)(w:Xw)(bb:TT w N t v)(x:br w N c ev nv)(Y:N<=w.heap.size)(bl:gN c t) :
 xK 108 #[.agg #[ev,nv],v] w (λe z=>e=.returned (.bool (c.operands t))/\xB w z):=by
 obtain⟨b,bC,vs,rfl,cd,ar,aL,aA,bk,bA⟩:=bb.ptr;have bq:=yp aL aA bk bA;obtain⟨xa,m,rfl⟩:=zB aL;obtain⟨J,y,I,rfl,rfl,b2⟩:=x.shape;have E:=ze ar;obtain⟨o1,o2,o3⟩:=bl _ (nL b8 _);obtain⟨k,a,s,nm,n,j⟩:=t;have R:vs.length=j.length:=aA;have Q:w.heap[b]?=some (.cells #[xI k,xI a,.string s,xI nm,xI n,.slice xa j.length m] 211 (0,0)):=by rw[<- R];exact ar
 have D:=za Q;have T:hn w N j (.slice xa j.length m):=by rw[<- R];exact bq
 have B:∀u∈j,gN c u:=λu hu=>bl.sub hu;simp only[Tm.k,Tm.s,Tm.ts] at o1 o2 o3;have b0:=yI o3;obtain⟨h0,h1,h2,h3,h4,h5,hf,hz⟩:=zt Q;have b1:j.length<=m/\m<=9223372036854775807:=by obtain⟨_,_,e,h2,h3,_⟩:=T.ex;cases e;exact⟨h2,h3⟩
 have G:∀W,xB w W->br W N c (xE J c y) (xP I):=λW h=>x.am (zm h Y);have Z:(k=10∨k=17∨k=18∨k=19∨k=20∨k=21∨k=22∨k=23)∨(k=11∨k=12∨k=13∨k=14)∨(k=15∨k=16∨k=6)∨k=5∨k=9∨k=4∨(k=0∨k=1∨k=2∨k=3∨k=7∨k=8):=by omega
 rcases Z with hk|hk|hk|rfl|rfl|rfl|hk
 . rcases hk with rfl|rfl|rfl|rfl|rfl|rfl|rfl|rfl
   all_goals
    go_enter func108,ntmps108;go_upto_region 10 with fail;refine zn (λW=>(xH W w.heap.size #[xE J c y,xP I] 201)/\xB w W) ⟨zc w _,zq w _⟩ ?_;rintro W ⟨H,h⟩;obtain⟨a6,s1,a9,sz⟩:=zp H;obtain⟨m0,m1,m2,m3,m4,m5,a4,a5⟩:=zt ((h.block b E).trans D.o);have C:=h.size;have aV:=za (rZ hc 0 j (.slice xa j.length m) W.drew (T.am (zm (zo h) Y)) (G W.drew (zo h)) (by show N<=W.heap.size;omega) B)
    go_region_held3 (λz=>z.cell? (xD w.heap.size 0)=some (xE J c y)/\z.cell? (xD w.heap.size 1)=some (xP I)/\z.cell? (xD b 5)=some (.slice xa j.length m))
     (first|(with_reducible (refine⟨?_,?_,?_⟩ <;> repeat (first|assumption|refine zg ?_|refine zj _ ?_|refine zk (by omega) ?_|refine zd p.o ?_ (by first|omega|(rw[au];omega)))))|go_keep)
     (first
       | (go_at_call 157;refine aV.o.mono ?_;rintro e w1 ⟨rfl,A⟩;have p:=za (zw A)))
    all_goals go_wp2_with fail
    all_goals go_ret
    all_goals exact⟨by rfl,h.trans (p.o.mono (by omega))⟩
 . rcases hk with rfl|rfl|rfl|rfl
   all_goals
    go_enter func108,ntmps108;go_upto_region 15 with fail;refine zn (λW=>(xH W w.heap.size #[xE J c y,xP I] 201)/\xB w W) ⟨zc w _,zq w _⟩ ?_;rintro W ⟨H,h⟩;obtain⟨a6,s1,a9,sz⟩:=zp H;obtain⟨m0,m1,m2,m3,m4,m5,a4,a5⟩:=zt ((h.block b E).trans D.o);have C:=h.size;have aV:=za (rZ hc 1 j (.slice xa j.length m) W.drew (T.am (zm (zo h) Y)) (G W.drew (zo h)) (by show N<=W.heap.size;omega) B)
    go_region_held3 (λz=>z.cell? (xD w.heap.size 0)=some (xE J c y)/\z.cell? (xD w.heap.size 1)=some (xP I)/\z.cell? (xD b 5)=some (.slice xa j.length m))
     (first|(with_reducible (refine⟨?_,?_,?_⟩ <;> repeat (first|assumption|refine zg ?_|refine zj _ ?_|refine zk (by omega) ?_|refine zd p.o ?_ (by first|omega|(rw[au];omega)))))|go_keep)
     (first
       | (go_at_call 157;refine aV.o.mono ?_;rintro e w1 ⟨rfl,A⟩;have p:=za (zw A)))
    all_goals go_wp2_with fail
    all_goals go_ret
    all_goals exact⟨by rfl,h.trans (p.o.mono (by omega))⟩
 . rcases hk with rfl|rfl|rfl
   all_goals
    obtain⟨t1,t2,f,rfl⟩:∃t1 t2 f,j=t1::t2::f:=by
     rcases j with _|⟨t1,_|⟨t2,f⟩⟩
     . simp[dJ] at o3
     . simp[dJ] at o3
     exact⟨t1,t2,f,rfl⟩
    go_enter func108,ntmps108;go_upto_region 19 with fail;refine zn (λW=>W.heap[w.heap.size]?=some (.cells #[xE J c y,xP I] 201 (0,0))/\xB w W) ⟨zc w _,zq w _⟩ ?_;rintro W ⟨H,h⟩;obtain⟨a6,s1,a9,sz⟩:=zp H;obtain⟨m0,m1,m2,m3,m4,m5,a4,a5⟩:=zt ((h.block b E).trans D.o);have C:=h.size;have aV:=za (rE hc t1 t2 f (.slice xa (t1::t2::f).length m) W.drew (T.am (zm (zo h) Y)) (G W.drew (zo h)) (by show N<=W.heap.size;omega) (B t1 (by simp)) (B t2 (by simp)));generalize bg:(t1::t2::f).length=nn at *
    go_region_held3 (λz=>z.cell? (xD w.heap.size 0)=some (xE J c y)/\z.cell? (xD w.heap.size 1)=some (xP I)/\z.cell? (xD b 5)=some (.slice xa nn m))
     (first|(with_reducible (refine⟨?_,?_,?_⟩ <;> repeat (first|assumption|refine zg ?_|refine zj _ ?_|refine zk (by omega) ?_|refine zd p.o ?_ (by first|omega|(rw[au];omega)))))|go_keep)
     (first
       | (go_at_call 158;refine aV.o.mono ?_;rintro e w1 ⟨rfl,A⟩;have p:=za (zw A)))
    all_goals go_wp2_with fail
    all_goals go_ret
    all_goals exact⟨by rfl,h.trans (p.o.mono (by omega))⟩
 . obtain⟨t1,t2,t3,f,rfl⟩:∃t1 t2 t3 f,j=t1::t2::t3::f:=by
    rcases j with _|⟨t1,_|⟨t2,_|⟨t3,f⟩⟩⟩
    . simp[dJ] at o3
    . simp[dJ] at o3
    . simp[dJ] at o3
    exact⟨t1,t2,t3,f,rfl⟩
   obtain⟨b4,bo,bp,_,_,a3⟩:=T.ex;cases bp;obtain⟨g,o,rfl,bx,_⟩:=a3 (by simp);have M:aa (c.operands (.mk 5 a s nm n (t1::t2::t3::f))=(aam c 1 [t1]&&gp c (t2::t3::f))):=rfl;have bY:=za T.rest;have bL:=za (T.cut (k:=1) (by simp));have V:=za (λW (h:xB w W)=>rZ hc 1 [t1] (.slice (some (xD g o)) 1 m) W (bL.o.am (zm h Y)) (G W h) (by have:=h.size;omega) (λu hu=>B u (by simp at hu;simp[hu])));have U:=za (λW (h:xB w W)=>rE hc t2 t3 f (.slice (some (xD g (o+1))) (t2::t3::f).length (m-1)) W (bY.o.am (zm h Y)) (G W h) (by have:=h.size;omega) (B t2 (by simp)) (B t3 (by simp)));have bB:(t2::t3::f).length=(t1::t2::t3::f).length-1:=(by simp);rw[bB] at U;have n3:3<=(t1::t2::t3::f).length:=(by simp);generalize bg:(t1::t2::t3::f).length=nn at *;have b3:(1:Int)<=(nn:Int):=(by omega);have ce:(1:Int)<=(m:Int):=(by omega);have cg:¬(m=1):=(by omega);have ch:¬((m:Int)=1):=(by omega);have cb:((xD g o):Addr).add 1=⟨g,o+1,none⟩:=(by simp[Addr.add]);cases P:aam c 1 [t1] with
   | true =>
     rw[P] at M V;go_enter func108,ntmps108;go_upto_region 21 with fail;refine zn (λW=>(xH W w.heap.size #[xE J c y,xP I] 201)/\xB w W) ⟨zc w _,zq w _⟩ ?_;rintro W ⟨H,h⟩;obtain⟨a6,s1,a9,sz⟩:=zp H;obtain⟨m0,m1,m2,m3,m4,m5,a4,a5⟩:=zt ((h.block b E).trans D.o);have C:=h.size;have F:=za (V.o W.drew (zo h))
     go_region_held3 (λz=>z.cell? (xD w.heap.size 0)=some (xE J c y)/\z.cell? (xD w.heap.size 1)=some (xP I)/\z.cell? (xD b 5)=some (.slice (some (xD g o)) nn m))
      (first|(with_reducible (refine⟨?_,?_,?_⟩ <;> repeat (first|assumption|refine zg ?_|refine zj _ ?_|refine zk (by omega) ?_|refine zd L.o ?_ (by first|omega|(rw[au];omega))|refine zd p.o ?_ (by first|omega|(rw[au];omega)))))|go_keep)
      (first
        | (go_at_call 158;refine a0.o.mono ?_;rintro e w2 ⟨rfl,a1⟩;have L:=za a1)
        | (go_at_call 157;refine F.o.mono ?_;rintro e w1 ⟨rfl,A⟩;have p:=za (zw A);(have bK:W.heap.size<=w1.heap.size:=A.size);have a0:=za (U.o w1 (h.trans (p.o.mono C)))))
     all_goals go_wp2_with fail
     all_goals go_ret
     all_goals exact⟨by rw[M.o];rfl,(h.trans (p.o.mono C)).trans (L.o.mono (by omega))⟩
   | false =>
     rw[P] at M V;go_enter func108,ntmps108;go_upto_region 21 with fail;refine zn (λW=>(xH W w.heap.size #[xE J c y,xP I] 201)/\xB w W) ⟨zc w _,zq w _⟩ ?_;rintro W ⟨H,h⟩;obtain⟨a6,s1,a9,sz⟩:=zp H;obtain⟨m0,m1,m2,m3,m4,m5,a4,a5⟩:=zt ((h.block b E).trans D.o);have C:=h.size;have F:=za (V.o W.drew (zo h));refine wp_region_noPanic ?_;refine wp_region_held_drew (S:=(λz=>z.cell? (xD w.heap.size 0)=some (xE J c y)/\z.cell? (xD w.heap.size 1)=some (xP I)/\z.cell? (xD b 5)=some (.slice (some (xD g o)) nn m))) (by kernel_rfl) ?_ (λO=>?_)
     . (try dsimp only);(first|(with_reducible (refine⟨?_,?_,?_⟩ <;> repeat (first|assumption|refine zg ?_|refine zj _ ?_|refine zk (by omega) ?_|refine zd p.o ?_ (by first|omega|(rw[au];omega)))))|go_keep)
     refine aR 0 rfl (v:=?v1) (ao ⟨by rfl,?h1⟩) ?_;case h1=>(intro w r;(try dsimp only at r);go_simp;try with_reducible rfl)
     try simp only[Act.put,aD]
     refine aR 1 rfl (v:=?v2) (ao ⟨by rfl,?h2⟩) ?_;case h2=>(intro w r;(try dsimp only at r);go_simp;try with_reducible rfl)
     try simp only[Act.put,aD]
     refine aR 2 rfl (v:=?v3) (ao ⟨by rfl,?h3⟩) ?_;case h3=>(intro w r;(try dsimp only at r);go_simp;try with_reducible rfl)
     try simp only[Act.put,aD]
     refine aR 3 rfl (v:=?v4) (ao ⟨by rfl,?h4⟩) ?_;case h4=>(intro w r;(try dsimp only at r);go_simp;try with_reducible rfl)
     try simp only[Act.put,aD]
     refine aR 4 rfl (v:=?v5) (ao ⟨by rfl,?h5⟩) ?_;case h5=>(intro w r;(try dsimp only at r);go_simp;try with_reducible rfl)
     try simp only[Act.put,aD]
     refine aR 5 rfl (v:=?v6) (ao ⟨by rfl,?h6⟩) ?_;case h6=>(intro w r;(try dsimp only at r);go_simp;try with_reducible rfl)
     try simp only[Act.put,aD]
     refine wpAnyH_ready (rs:=[6]) (by kernel_rfl) (by simp) ?_;refine AllReadyH.cons rfl (λK hK=>?_) ?_;go_simp;first|go_at_K|(((go_at_call 157;refine F.o.mono ?_;rintro e w1 ⟨rfl,A⟩;have p:=za (zw A)));first|go_at_K|go_wp2_with fail)
     refine hK.out _ _ ?_ (λh9=>?_)
     . (try dsimp only);(first|(with_reducible (refine⟨?_,?_,?_⟩ <;> repeat (first|assumption|refine zg ?_|refine zj _ ?_|refine zk (by omega) ?_|refine zd p.o ?_ (by first|omega|(rw[au];omega)))))|go_keep)
     clear hK K O;have O:=h9;try simp only[Act.put,aD]
     refine aR 7 rfl (v:=?v7) (ao ⟨by rfl,?h7⟩) ?_;case h7=>(intro w r;(try dsimp only at r);go_simp;try with_reducible rfl)
     try simp only[Act.put,aD]
     refine O1 (i:=8) (v:=undef) rfl (by kernel_rfl) (λ_ _ _ x=>x) (ap ⟨by rfl,rfl⟩) (by assumption) ?_;try simp only[Act.put,aD]
     refine O1 (i:=9) (v:=undef) rfl (by kernel_rfl) (λ_ _ _ x=>x) (ap ⟨by rfl,rfl⟩) (by assumption) ?_;try simp only[Act.put,aD]
     refine O1 (i:=10) (v:=undef) rfl (by kernel_rfl) (λ_ _ _ x=>x) (ap ⟨by rfl,rfl⟩) (by assumption) ?_;try simp only[Act.put,aD]
     refine O1 (i:=11) (v:=undef) rfl (by kernel_rfl) (λ_ _ _ x=>x) (ap ⟨by rfl,rfl⟩) (by assumption) ?_;try simp only[Act.put,aD]
     refine O1 (i:=12) (v:=undef) rfl (by kernel_rfl) (λ_ _ _ x=>x) (ap ⟨by rfl,rfl⟩) (by assumption) ?_;try simp only[Act.put,aD]
     refine O1 (i:=13) (v:=undef) rfl (by kernel_rfl) (λ_ _ _ x=>x) (ap ⟨by rfl,rfl⟩) (by assumption) ?_;try simp only[Act.put,aD]
     refine O1 (i:=14) (v:=undef) rfl (by kernel_rfl) (λ_ _ _ x=>x) (ap ⟨by rfl,rfl⟩) (by assumption) ?_;try simp only[Act.put,aD]
     refine aR 15 rfl (v:=?v8) (ao ⟨by rfl,?h8⟩) ?_;case h8=>(intro w r;(try dsimp only at r);go_simp;try with_reducible rfl)
     try simp only[Act.put,aD]
     refine aR 16 rfl (v:=?v9) (ao ⟨by rfl,?h9⟩) ?_;case h9=>(intro w r;(try dsimp only at r);go_simp;try with_reducible rfl)
     try simp only[Act.put,aD]
     refine wpAnyH_done (by kernel_rfl) ?_ _;rotate_left;exact AllReadyH.nil;all_goals refine NoPanic.normal ?_
     all_goals go_wp2_with fail
     all_goals go_ret
     all_goals exact⟨by rw[M.o];rfl,h.trans (p.o.mono C)⟩
 . obtain⟨t1,t2,f,rfl⟩:∃t1 t2 f,j=t1::t2::f:=by
    rcases j with _|⟨t1,_|⟨t2,f⟩⟩
    . simp[dJ] at o3
    . simp[dJ] at o3
    exact⟨t1,t2,f,rfl⟩
   obtain⟨b4,bo,bp,_,_,a3⟩:=T.ex;cases bp;obtain⟨g,o,rfl,bx,bt⟩:=a3 (by simp);obtain⟨ub,a2,bs⟩:=bt 0 t1 rfl;rw[Nat.add_zero] at a2;have M:aa (c.operands (.mk 9 a s nm n (t1::t2::f))=(gq t1&&gp c (t1::t2::f))):=rfl;have X:=za (λW (h:xB w W)=>IK W (bs.am (zm h Y)) ((B t1 (by simp)) t1 (nL b8 _)).2.2);have U:=za (λW (h:xB w W)=>rE hc t1 t2 f (.slice (some (xD g o)) (t1::t2::f).length m) W (T.am (zm h Y)) (G W h) (by have:=h.size;omega) (B t1 (by simp)) (B t2 (by simp)));have n3:0<(t1::t2::f).length:=(by simp);generalize bg:(t1::t2::f).length=nn at *;have b3:(0:Int)<(nn:Int):=(by omega);have ca:((xD g o):Addr).add 0=⟨g,o,none⟩:=(by simp[Addr.add]);cases P:gq t1 with
   | true =>
     rw[P] at M X;go_enter func108,ntmps108;go_upto_region 23 with fail;refine zn (λW=>(xH W w.heap.size #[xE J c y,xP I] 201)/\xB w W) ⟨zc w _,zq w _⟩ ?_;rintro W ⟨H,h⟩;obtain⟨a6,s1,a9,sz⟩:=zp H;obtain⟨m0,m1,m2,m3,m4,m5,a4,a5⟩:=zt ((h.block b E).trans D.o);have C:=h.size;have be:=zd h a2 (by omega);have F:=za (X.o W.drew (zo h));have a0:=za (U.o W.drew (zo h))
     go_region_held3 (λz=>z.cell? (xD w.heap.size 0)=some (xE J c y)/\z.cell? (xD w.heap.size 1)=some (xP I)/\z.cell? (xD b 5)=some (.slice (some (xD g o)) nn m)/\z.cell? (xD g o)=some (xP ub))
      (first|(with_reducible (refine⟨?_,?_,?_,?_⟩ <;> repeat (first|assumption|refine zg ?_|refine zj _ ?_|refine zk (by omega) ?_|refine zd L.o ?_ (by first|omega|(rw[au];omega)))))|go_keep)
      (first
        | (go_at_call 158;refine a0.o.mono ?_;rintro e w2 ⟨rfl,a1⟩;have L:=za (zw a1))
        | (go_at_call 159;refine F.o.mono ?_;rintro e w1 ⟨rfl,rfl⟩))
     all_goals go_wp2_with fail
     all_goals go_ret
     all_goals exact⟨by rw[M.o];rfl,h.trans (L.o.mono (by omega))⟩
   | false =>
     rw[P] at M X;go_enter func108,ntmps108;go_upto_region 23 with fail;refine zn (λW=>(xH W w.heap.size #[xE J c y,xP I] 201)/\xB w W) ⟨zc w _,zq w _⟩ ?_;rintro W ⟨H,h⟩;obtain⟨a6,s1,a9,sz⟩:=zp H;obtain⟨m0,m1,m2,m3,m4,m5,a4,a5⟩:=zt ((h.block b E).trans D.o);have C:=h.size;have be:=zd h a2 (by omega);have F:=za (λq=>nA (X.o (W.drewN q) (zI h q)));go_quiet ((go_at_call 159;exact F.o _));all_goals go_wp2_with fail
     all_goals go_ret
     all_goals exact⟨by rw[M.o];rfl,zI h _⟩
 . obtain⟨d,bE,bv⟩:=o2 rfl;have M:aa (c.operands (.mk 4 a s nm n j)=gF c j d.nd.ak):=by
    unfold aa Sc.operands
    show (match c.called s with|none=>true|some d=>gF c j d.nd.ak)=_;rw[bE]
   go_enter func108,ntmps108;go_upto_region 25 with fail;refine zn (λW=>(xH W w.heap.size #[xE J c y,xP I] 201)/\xB w W) ⟨zc w _,zq w _⟩ ?_;rintro W ⟨H,h⟩;obtain⟨a6,s1,a9,sz⟩:=zp H;obtain⟨m0,m1,m2,m3,m4,m5,a4,a5⟩:=zt ((h.block b E).trans D.o);have C:=h.size;have aV:=za (Iq hc (.mk 4 a s nm n j) (xP b) W (bb.am (zm h Y)) (G W h) (by omega) bl bE bv);go_wp2_with (go_at_call 160;refine aV.o.mono ?_;rintro e w1 ⟨rfl,A⟩;have p:=za A);go_ret;exact⟨by rw[M.o];rfl,h.trans (p.o.mono (by omega))⟩
 rcases hk with rfl|rfl|rfl|rfl|rfl|rfl
 all_goals
  go_enter func108,ntmps108;go_wp2_with fail;go_ret;exact⟨rfl,zq _ _⟩
end
section
variable {s:Xb} {f:Xl} {N k:Nat} {c:Sc} {m r:Xv}
attribute [local go_sem ↓] Go.wp_at_zero Go.wp_at_succ
theorem K3:∀(f:Xl) (d:Xn) (k:Nat) (s:Xb) (p:Nat),f[k]?=some s->d[k]?=some p->(gg f d)[k*2]?=some (.string s)/\(gg f d)[k*2+1]?=some (xI p):=by
 intro f;induction f with
 | nil=>intro d k s p h;simp at h
 | cons a f l =>
   intro d k s p g e;cases d with
   | nil=>simp at e
   | cons b d =>
     cases k with
     | zero=>simp at g e;subst g e;exact⟨rfl,rfl⟩
     | succ k => obtain⟨i,j⟩:=l d k s p (by simpa using g) (by simpa using e);rw[show (k+1)*2=k*2+1+1 by omega];exact⟨by simpa [gg] using i,by simpa [gg] using j⟩
theorem kG {w:Xw}{n o:Nat}{a:Xp}{b:Xn}(h:w.ownsRow 0 78 2 (.slice a n o) n (gg f b)){p:Nat}(i:f[k]?=some s)(v:b[k]?=some p)(y:n=f.length) :
 ∃g,a=some (xD g 0)/\w.cell? (xD g (k*2))=some (.string s)/\w.cell? (xD g (k*2+1))=some (xI p):=by
 have u:=(aB.1 i).1;obtain⟨g,l,x,_⟩:=zM h (by omega);cases x;obtain⟨q,t⟩:=K3 f b k s p i v;have e:=h.cells (g:=g) rfl;have d:∀j,((xD g 0):Addr).add j=⟨g,j,none⟩:=λj=>by cases j <;> simp[Addr.add]
 refine⟨g,rfl,?_,?_⟩
 . have:=e _ _ q;rwa [d] at this
 have:=e _ _ t;rwa [d] at this
theorem GO {a:List Vr}{v:Vr}(h:f[k]?=some s)(i:a[k]?=some v):gE c (f.drop k) (a.drop k)=if (c.decl s != dt v)=true then false else gE c (f.drop (k+1)) (a.drop (k+1)):=by obtain⟨b,d⟩:=aB.1 h;obtain⟨e,g⟩:=aB.1 i;rw[dE b,dE e,d,g];rfl
theorem mO (w:Xw)(a b:Obj):((w.alloc a).alloc b).heap[w.heap.size]?=some a/\((w.alloc a).alloc b).heap[w.heap.size+1]?=some b:=by refine⟨(mm _ _ _ (by simp)).trans (zc w a),?_⟩;have:=zc (w.alloc a) b;rwa [au] at this
theorem Im (hc:eU c)(q:Qn)(S T:Xv)(w:Xw)(HEq:aak w N q S T)(o:br w N c m r)(M:N<=w.heap.size)(O:gN c q.r)(P:∀s∈q.ns,c.has s=true)(F:q.ns.length=q.ps.length)(B:q.ns.length=1) :
 xK 105 #[.agg #[m,r],.agg #[S,xI q.a,T]] w (λe d=>e=.returned (.bool (c.holds q))/\xB w d):=by
 obtain⟨s,b⟩:∃s,q.ns[0]?=some s:=⟨_,av (by omega)⟩;obtain⟨p,Q⟩:∃p,q.ps[0]?=some p:=⟨_,av (by omega)⟩;obtain⟨bg,L,rfl⟩:=zB HEq.own;obtain⟨g,rfl,J,K⟩:=kG HEq.own b Q rfl;have aA:=HEq.lo g rfl;obtain⟨H,_,_,rfl,aV,_⟩:=HEq.tt.ptr;obtain⟨I,i,G,rfl,rfl,aL⟩:=o.shape;have v:=P s (aM b);have X:aa (c.holds q=(c.decl s==MO c q.r)):=by
  unfold aa Sc.holds;cases E:q.ns with
  | nil=>rw[E] at b;simp at b
  | cons x l =>
    cases l with
    | nil=>rw[E] at b;simp at b;subst b;rfl
    | cons y l=>rw[E] at B;simp at B
 have t:∀W,xB w W->br W N c (xE I c i) (xP G):=λW a=>o.am (zm a M);have V:=za (λW (a:xB w W)=>me s (p:Int) W (t W a) (by have:=a.size;omega) v);have Y:=za (λW (a:xB w W)=>nD hc q.r (xP H) W (HEq.tt.am (zm a M)) (t W a) (by have:=a.size;omega) O);rw[Nat.zero_mul,Nat.zero_add] at K;rw[Nat.zero_mul] at J;have l1:((q.ns.length:Int)==1)=true:=by simp[B]
 have a4:(0:Int)<(q.ns.length:Int):=by omega
 have a0:0<q.ns.length:=by omega
 clear O P F b Q v B;generalize c.decl s=a2 at *;generalize MO c q.r=a3 at *;go_enter func105,ntmps105;go_upto_region 2 with fail;refine zn (λW=>(xH W w.heap.size #[xE I c i,xP G] 201/\xH W (w.heap.size+1) #[xS g q.ns.length L,xI q.a,xP H] 159)/\xB w W) ⟨mO w _ _,cT w _ _⟩ ?_;rintro W ⟨⟨b,z⟩,a⟩;obtain⟨be,s1,a1,sz⟩:=zp b;obtain⟨a5,a6,a9,rf,bb⟩:=zL z;have A:=a.size;have Z:=zd a J (by omega);have ar:=zd a K (by omega);have C:=za (V.o W.drew (zo a));clear b z a1 rf
 go_region_held3 (λd=>d.cell? (xD w.heap.size 0)=some (xE I c i)/\d.cell? (xD w.heap.size 1)=some (xP G)/\d.cell? (xD (w.heap.size+1) 0)=some (xS g q.ns.length L)/\d.cell? (xD (w.heap.size+1) 2)=some (xP H)/\d.cell? (xD g 0)=some (.string s)/\d.cell? (xD g 1)=some (xI p))
  (first|(with_reducible (refine⟨?_,?_,?_,?_,?_,?_⟩ <;> repeat (first|assumption|refine zg ?_|refine zj _ ?_|refine zk (by omega) ?_|refine zd n.o ?_ (by first|omega|(rw[au];omega))|refine zd h.o ?_ (by first|omega|(rw[au];omega)))))|go_keep)
  (first
    | (go_at_call 156;refine D.o.mono ?_;rintro e w2 ⟨rfl,u⟩;have n:=za u;clear u)
    | (go_at_call 104;refine C.o.mono ?_;rintro e U ⟨rfl,j⟩;have h:=za (zw j);(have R:W.heap.size<=U.heap.size:=j.size);have D:=za (Y.o U (a.trans (h.o.mono A)));clear j))
 all_goals go_wp2_with fail
 all_goals go_ret
 all_goals exact⟨by rw[X.o];exact yw a2 a3,(a.trans (h.o.mono A)).trans (n.o.mono (by omega))⟩
theorem HV {d:Sc}(hc:eU c)(q:Qn)(lv rv:Xv)(w:Xw)(bl:aak w N q lv rv)(h:br w N c m r)(hN:N<=w.heap.size)(hh:∀s∈q.ns,c.has s=true)(a5:q.ns.length=q.ps.length)(h2:2<=q.ns.length)(bo:c.called q.r.s=some d)(bC:d.nd.aG=q.ns.length) :
 xK 105 #[.agg #[m,r],.agg #[lv,xI q.a,rv]] w (λe t=>e=.returned (.bool (c.holds q))/\xB w t):=by
 have HEq:=za bl;obtain⟨ck,S,rfl⟩:=zB bl.own;obtain⟨Z,_,_,rfl,dc,B,_⟩:=bl.tt.ptr;have b2:=ze B;have bx:=za B;have X:=(hc.called bo).1.nd;have bE:=X.io;have ct:=X.ah;have c3:=X.bO;have bA:=za h;obtain⟨K,u,J,rfl,rfl,da⟩:=h.shape;have co:aa (c.holds q=gE c q.ns d.nd.results):=by
  unfold aa Sc.holds;cases cv:q.ns with
  | nil=>rw[cv] at h2;simp at h2
  | cons x l =>
    cases l with
    | nil=>rw[cv] at h2;simp at h2
    | cons y l=>simp only[bo]
 have R:∀W,xB w W->br W N c (xE K c u) (xP J):=λW L=>bA.o.am (zm L hN);have cE:=za hh;have bv:=za a5;have l1:((q.ns.length:Int)==1)=false:=by simp;omega
 have dq:d.nd.aG<=q.ns.length:=by omega
 have ds:q.ns.length<=d.nd.aG:=by omega
 clear bl h hh B a5 bC;go_enter func105,ntmps105;go_upto_region 3 with fail;refine zn (λW=>(xH W w.heap.size #[xE K c u,xP J] 201/\xH W (w.heap.size+1) #[.slice ck q.ns.length S,xI q.a,xP Z] 159)/\xB w W) ⟨mO w _ _,cT w _ _⟩ ?_;rintro W ⟨⟨b3,Y⟩,L⟩;obtain⟨dM,s1,dP,sz⟩:=zp b3;obtain⟨dz,dH,dL,rf,cA⟩:=zL Y;have cn:=za L;have dk:=L.size;obtain⟨m0,m1,m2,m3,m4,m5,dl,er⟩:=zt ((L.block Z b2).trans bx.o);have aL:=za (ji q.r.s (q.r.nm:Int) W.drew (R W.drew (zo L)) (by show N<=W.heap.size;omega) hc.bO bo);have aV:=za (λo=>ji q.r.s (q.r.nm:Int) (W.alloc o).drew (R _ (zo (L.alloc (by omega) o))) (by show N<=(W.alloc o).heap.size;simp;omega) hc.bO bo);have cs:=za b3;have a0:=za Y;clear b3 Y L dP rf m0 m1 m4 m5 dl
 go_region_held3 (λt=>t.cell? (xD w.heap.size 0)=some (xE K c u)/\t.cell? (xD w.heap.size 1)=some (xP J)/\t.cell? (xD (w.heap.size+1) 2)=some (xP Z)/\t.cell? (xD Z 2)=some (.string q.r.s)/\t.cell? (xD Z 3)=some (xI q.r.nm))
  (first|(with_reducible (refine⟨?_,?_,?_,?_,?_⟩ <;> repeat (first|assumption|refine zg ?_|refine zj _ ?_|refine zk (by omega) ?_|refine zd a.o ?_ (by first|omega|(rw[au];omega)))))|go_keep)
  (first
    | (go_at_call 96;refine aL.o.mono ?_;rintro e w1 ⟨x2,T,n2,rfl,F,b⟩;have a:=za (zw b);have n:=za F;clear b F)
    | (go_at_call 96;refine (aV.o _).mono ?_;rintro e w1 ⟨x2,T,n2,rfl,F,b⟩;have a:=za (zw b);have n:=za F;obtain⟨eE,bp,eF,eG⟩:=zp ((a.o.block W.heap.size (by rw[au];omega)).trans (zc W _));clear b F))
 all_goals go_upto_region 4 with fail
 refine zn (λC=>ki w N d w1.heap.size n2 x2 T C/\(xH C w.heap.size #[xE K c u,xP J] 201/\xH C (w.heap.size+1) #[.slice ck q.ns.length S,xI q.a,xP Z] 159)) ⟨su cn.o a.o n.o hN,(mm _ _ _ (by have:=a.o.size;omega)).trans ((a.o.block _ sz).trans cs.o),(mm _ _ _ (by have:=a.o.size;omega)).trans ((a.o.block _ cA).trans a0.o)⟩ ?_;rotate_left;refine zn (λC=>ki w N d W.heap.size n2 x2 T C/\(xH C w.heap.size #[xE K c u,xP J] 201/\xH C (w.heap.size+1) #[.slice ck q.ns.length S,xI q.a,xP Z] 159)) ⟨ss cn.o a.o n.o hN,(zr (by omega) rfl).trans ((zr (by omega) rfl).trans ((a.o.block _ (by rw[au];omega)).trans ((mm _ _ _ sz).trans cs.o))),(zr (by omega) rfl).trans ((zr (by omega) rfl).trans ((a.o.block _ (by rw[au];omega)).trans ((mm _ _ _ cA).trans a0.o)))⟩ ?_
 all_goals
  rintro C ⟨a1,a6,P⟩;obtain⟨t0,t1,ex,tz⟩:=zp a1.box;have cB:=za a1;obtain⟨p0,du,es,cz⟩:=zp a6;obtain⟨e0,e1,ea,eb,cR⟩:=zL P;have ca:=a1.aH.size;obtain⟨dp,dV,dw,dY,ar,H⟩:=a1.sc.nd;cases ar;have c9:=H.lo;have bt:=za H;have cK:=za (rk C H bE (by omega));clear a1 a6 P H dM s1 dz dH dL m2 m3 a n aL aV;go_wp2_with (go_at_call 75;refine cK.o.mono ?_;rintro e w3 ⟨g9,cO,ar,rfl,U⟩;subst ar;have aA:=za U;have di:=U.size;clear U);have bb:d.nd.results.length=d.nd.aG:=by unfold ay.results;simp;omega
  have bB:=za bb;have a2:gE c (q.ns.drop 0) (d.nd.results.drop 0)=gE c q.ns d.nd.results:=rfl;have bs:=za a2;clear bb a2;go_loopg [39] (d.nd.aG+1) (λj i wr=>∃k:Nat,k+j=d.nd.aG+1/\k<=d.nd.aG/\i=xI k/\aa (gE c (q.ns.drop k) (d.nd.results.drop k)=gE c q.ns d.nd.results)/\aa (xB C wr));case atStart=>exact⟨0,by omega,aE _,rfl,bs.o,aA.o⟩
  case round =>
   obtain⟨k,c6,em,rfl,bg,A⟩:=hrel;have D:xB w wr:=cB.o.aH.trans (A.o.mono ca);have bq:=za D;have b4:=A.o.size;by_cases bK:k<d.nd.aG
   . obtain⟨s,I⟩:∃s,q.ns[k]?=some s:=⟨_,av (by omega)⟩;obtain⟨p,a4⟩:∃p,q.ps[k]?=some p:=⟨_,av (by have:=bv.o;omega)⟩;obtain⟨v,G⟩:∃v,d.nd.results[k]?=some v:=⟨_,av (by have:=bB.o;omega)⟩;have be:d.nd.ak[d.nd.ah+k]?=some v:=(by unfold ay.results at G;rw[List.getElem?_take_of_lt bK,List.getElem?_drop] at G;exact G);have O:=bt.o.am (zm A.o (by omega:N<=C.heap.size));obtain⟨ek,ar,z0,cl,c2,z3,z4,z5,cm⟩:=hj O.bZ be;simp only[Option.some.injEq,Addr.mk.injEq,and_true] at ar;subst ar;have M:(d.nd.ah+k)*7=d.nd.ah*7+k*7:=(by omega);rw[M] at z0 cl c2 z3 z4 z5 cm;have V:=HEq.o.am (zm D hN);obtain⟨g,rfl,c0,c1⟩:=kG V.own I a4 rfl;have c4:=V.lo g rfl;have b0:=zd A.o p0 cz;have b1:=zd A.o du cz;have f0:=zd A.o e0 cR;have a3:=cE.o s (aM I);have bk:=za (λo=>me s (p:Int) (wr.alloc o).drew (R _ (zo (D.alloc (by omega) o))) (by show N<=(wr.alloc o).heap.size;simp;omega) a3);have E:=GO (c:=c) I G;rw[bg.o] at E;have a9:dt v=dv v:=rfl;rw[a9] at E;have c5:g<wr.heap.size:=(by omega);have k0:(0:Int)<=(k:Int):=(by omega);have eq:(k:Int)<(q.ns.length:Int):=(by omega);clear bg I a4 G be O V a9 M a3 D aA;generalize c.decl s=bp at *;by_cases bL:bp=dv v
     . have bY:((bp:Int) != (dv v:Int))=false:=(by simp[bL]);rw[ae (by simp[bL])] at E;have n:=za E;clear E;go_upto_region 7 with fail;refine zn (λz=>(z.cell? (xD w.heap.size 0)=some (xE K c u)/\z.cell? (xD w.heap.size 1)=some (xP J)/\z.cell? (xD (w.heap.size+1) 0)=some (xS g q.ns.length S)/\z.cell? (xD g (k*2))=some (.string s)/\z.cell? (xD g (k*2+1))=some (xI p)/\z.cell? (xD wr.heap.size 2)=some (xI (dv v:Nat)))/\∃o,z=wr.alloc o) ⟨⟨zj _ b0,zj _ b1,zj _ f0,zj _ c0,zj _ c1,by simp⟩,_,rfl⟩ ?_;rintro z ⟨⟨w0,cb,cd,ce,cg,ch⟩,o,rfl⟩;have Q:=za (bk.o o);clear bk z0 cl z3 z4 z5 cm b0 b1 f0 c0 c1 c2
       go_region_held3 (λt=>t.cell? (xD w.heap.size 0)=some (xE K c u)/\t.cell? (xD w.heap.size 1)=some (xP J)/\t.cell? (xD (w.heap.size+1) 0)=some (xS g q.ns.length S)/\t.cell? (xD g (k*2))=some (.string s)/\t.cell? (xD g (k*2+1))=some (xI p)/\t.cell? (xD wr.heap.size 2)=some (xI (dv v:Nat)))
        (first|(with_reducible (refine⟨?_,?_,?_,?_,?_,?_⟩ <;> repeat (first|assumption|refine zg ?_|refine zd a.o ?_ (by rw[au];omega))))|go_keep)
        (first
          | (go_at_call 104;refine Q.o.mono ?_;rintro e w8 ⟨rfl,b⟩;have a:=za (zw b);clear b))
       all_goals go_wp2_with fail
       all_goals
        go_roundg (gk-1);case measure=>omega
        exact⟨k+1,by omega,by omega,by go_num,n.o.symm,A.o.trans ((zE a.o).mono b4)⟩
     have bY:((bp:Int) != (dv v:Int))=true:=(by simp;omega);rw[ag (by simp[bL])] at E;have n:=za E;clear E;go_upto_region 7 with fail;refine zn (λz=>(z.cell? (xD w.heap.size 0)=some (xE K c u)/\z.cell? (xD w.heap.size 1)=some (xP J)/\z.cell? (xD (w.heap.size+1) 0)=some (xS g q.ns.length S)/\z.cell? (xD g (k*2))=some (.string s)/\z.cell? (xD g (k*2+1))=some (xI p)/\z.cell? (xD wr.heap.size 2)=some (xI (dv v:Nat)))/\∃o,z=wr.alloc o) ⟨⟨zj _ b0,zj _ b1,zj _ f0,zj _ c0,zj _ c1,by simp⟩,_,rfl⟩ ?_;rintro z ⟨⟨w0,cb,cd,ce,cg,ch⟩,o,rfl⟩;have Q:=za (bk.o o);clear bk z0 cl z3 z4 z5 cm b0 b1 f0 c0 c1 c2
     go_region_held3 (λt=>t.cell? (xD w.heap.size 0)=some (xE K c u)/\t.cell? (xD w.heap.size 1)=some (xP J)/\t.cell? (xD (w.heap.size+1) 0)=some (xS g q.ns.length S)/\t.cell? (xD g (k*2))=some (.string s)/\t.cell? (xD g (k*2+1))=some (xI p)/\t.cell? (xD wr.heap.size 2)=some (xI (dv v:Nat)))
      (first|(with_reducible (refine⟨?_,?_,?_,?_,?_,?_⟩ <;> repeat (first|assumption|refine zg ?_|refine zd a.o ?_ (by rw[au];omega))))|go_keep)
      (first
        | (go_at_call 104;refine Q.o.mono ?_;rintro e w8 ⟨rfl,b⟩;have a:=za (zw b);clear b))
     all_goals go_wp2_with fail
     all_goals go_ret
     all_goals exact⟨by rw[co.o,n.o];rfl,bq.o.trans ((zE a.o).mono (by omega))⟩
   have E:gE c q.ns d.nd.results=true:=(by rw[<- bg.o,List.drop_of_length_le (by omega)];cases d.nd.results.drop k <;> rfl);have n:=za E;clear bg E;go_wp2_with fail;go_ret;exact⟨by rw[co.o,n.o];rfl,D⟩
end
section
variable {S:Xs}
theorem ahQ:zH 141:=λ_ _=>by kernel_rfl
theorem ahP {lb B N f h:Nat}{n W:Xw}{a:Xv}{v:Xl}(d:aQ lb B n a W v)(H:N<=lb)(q:Qn)(z A:Xv)(j:aak n N q z A)(J:q.ns.length=q.ps.length)
 (k:Bx lb B (.cells #[z,xI q.a,A] 159 (0,0)) f h n a) (i:Nat) (s:Xb) (t:q.ns[i]?=some s) (K:(v++[s]).length<=10000000000) :
 xK 141 (#[xI i]++#[xP f,xP h]) W (ey lb B n a (v++[s])):=by
 have u:=(aB.1 t).1;obtain⟨p,y⟩:∃p,q.ps[i]?=some p:=⟨_,av (by omega)⟩;obtain⟨X,x,rfl⟩:=zB j.own;obtain⟨g,rfl,C,_⟩:=kG j.own t y rfl;have l:=j.lo g rfl;have c:aa (∀(b:Xw) (m:Xl),aQ lb B n a b m->xC b f 0 (xP lb)/\xC b h 0 (xS g q.ns.length x)/\xC b g (i*2) (.string s)):=λb m o=>⟨(zu (k.at o).1).1,(zL (k.at o).2).1,(iP (o.am H) l).trans C⟩;obtain⟨U,P,Q⟩:=c.o _ _ d;have O:h<W.heap.size:=ze (k.at d).2;have M:f<W.heap.size:=ze (k.at d).1;have I:g<W.heap.size:=by have:=d.size;have:=(j.own.lt g rfl).2;omega
 obtain⟨L,r⟩:∃L,q.ns.length=L:=⟨_,rfl⟩;have F:L<=9223372036854775807:=by
  rw[<- r];rcases j.own.2 with ⟨_,d⟩|⟨g,D,E,T,_,_,R,G,_⟩
  . omega
  unfold maxLen at G;omega
 rw[r] at P u c;clear j k t y C l r J
 show Calls prog _ #[xI i,xP f,xP h] W _;go_enter func141,ntmps141;go_region_held3 (λb=>b.cell? (xD f 0)=some (xP lb)/\b.cell? (xD h 0)=some (xS g L x)/\b.cell? (xD g (i*2))=some (.string s)) (first|go_keep|exact c.o _ _ w) (first|(go_at_call 76;refine (pO d [s] 1 rfl K _ rfl).mono ?_;rintro e V ⟨rfl,w⟩));all_goals first|go_end0|refine ab (results_none rfl _ _ _) rfl ?_
 all_goals exact⟨rfl,w⟩
def Qw (S:Xs)(q:Qn):Prop:=∀(lb B N:Nat) (b W:Xw) (a:Xv) (c:Xl) (d e:Xv),aQ lb B b a W c->N<=lb->21<=N->Kn S b->aak b N q d e->(c++gT q).length<=10000000000->xK 82 #[xP lb,.agg #[d,xI q.a,e]] W (ey lb B b a (c++gT q))
theorem EH (q:Qn)(Q:q.ns.length=q.ps.length)(d:q.ns.length=1)(P:ke S q.r):Qw S q:=by
 intro lb B N w0 W bl ts U Y h G E o z R;obtain⟨Z,y,k,b⟩:=h.boxes (.cells #[U,xI q.a,Y] 159);obtain⟨j,f⟩:∃j,j=(W.alloc (.cells #[xP lb] 179)).alloc (.cells #[U,xI q.a,Y] 159):=⟨_,rfl⟩;have n:Kn S j:=f▸o.ln ((h.alloc _).alloc _) (by omega);have r:bV N w0 j:=f▸((h.alloc _).alloc _).am G;rw[<- f] at y k b;have c:=z.am r;obtain⟨X,_,_,rfl,_⟩:=c.tt.ptr;obtain⟨bs,C,rfl⟩:=zB c.own;obtain⟨s,I⟩:∃s,q.ns[0]?=some s:=⟨_,av (by omega)⟩;obtain⟨p,T⟩:∃p,q.ps[0]?=some p:=⟨_,av (by omega)⟩;obtain⟨g,rfl,A,_⟩:=kG c.own I T rfl;have A:xC j g 0 (.string s):=by simpa using A
 have H:=c.lo g rfl;have a:aa (∀(i:Xw) (v:Xl),aQ lb B j Z i v->xC i W.heap.size 0 (xP lb)/\xC i (W.heap.size+1) 0 (xS g q.ns.length C)/\xC i g 0 (.string s)/\xC i (W.heap.size+1) 2 (xP X)):=λi v w=>⟨(zu (k.at w).1).1,(zL (k.at w).2).1,(iP (w.am G) H).trans A,(zL (k.at w).2).2.2.1⟩;obtain⟨p0,V,c0,be⟩:=a.o _ _ y;have a5:W.heap.size+1<j.heap.size:=by rw[f];simp only[au];omega
 have a6:g<j.heap.size:=(c.own.lt g rfl).2;have a4:q.ns.length<=10000000000:=by omega
 have t:(W.alloc (.cells #[xP lb] 179)).alloc (.cells #[xS g q.ns.length C,xI q.a,xP X] 159)=j:=f.symm;have ar:=za y;have m:=za R;have a3:=za c;have bo:=za k;have a2:=za n;have a0:=za b;have a1:=za P;have J:=za I;have bp:=za Q;clear h o z y k b n r c P R f A I T Q;have K:q.ns=[s]:=by
  have:=J.o
  match z:q.ns,d with
  | [x],_=>rw[z] at this;simp at this;rw[this]
 have L:gT q=[s]++([⟨#[61]⟩]++(ob q.r++[⟨#[59]⟩])):=by unfold gT;rw[ag d,K]
 rw[L] at m ⊢;rw[d] at V a t ⊢;clear L K d J;go_enter func82,ntmps82;go_upto_region 1 with fail;clear t;go_upto_region 2 with fail;go_region_held3 (λi=>i.cell? (xD W.heap.size 0)=some (xP lb)/\i.cell? (xD (W.heap.size+1) 0)=some (xS g 1 C)/\i.cell? (xD g 0)=some (.string s)) (first|go_keep|exact⟨(a.o _ _ l.o).1,(a.o _ _ l.o).2.1,(a.o _ _ l.o).2.2.1⟩) (first|(go_at_call 76;refine (pO ar.o [s] 1 rfl (by have:=m.o;simp only[aP,bJ,cw] at this ⊢;omega) _ rfl).mono ?_;rintro e w1 ⟨rfl,M⟩;have l:=za M;clear M));obtain⟨a9,_,_,bg⟩:=a.o _ _ l.o;clear p0 V c0 be;have u:=trivial;go_wp2_with (clear u;go_at_call 76;refine (fY l.o [⟨#[61]⟩] 1 rfl (by have:=m.o;simp only[aP,bJ,cw] at this ⊢;omega) _ rfl).mono ?_);rintro e w2 ⟨rfl,D⟩;obtain⟨bb,_,_,bk⟩:=a.o _ _ D;have aA:=za D;clear D a9 bg;have u:=trivial;go_wp2_with (clear u;go_at_call 142;refine (a1.o lb B N j Z _ _ _ G E a3.o.tt a2.o aA.o (by have:=m.o;simp only[aP,bJ,cw] at this ⊢;omega)).mono ?_);rintro e w3 ⟨rfl,F⟩;obtain⟨p3,_,_,bq⟩:=a.o _ _ F;have aL:=za F;clear F bb bk;have u:=trivial;go_wp2_with (clear u;go_at_call 76;refine (fY aL.o [⟨#[59]⟩] 1 rfl (by have:=m.o;simp only[aP,bJ,cw] at this ⊢;omega) _ rfl).mono ?_;rintro e w4 ⟨rfl,O⟩;have aV:=za O;clear O);first|go_end0|refine ab (results_none rfl _ _ _) rfl ?_
 exact⟨rfl,a0.o _ _ (by simpa [bw] using aV.o)⟩
theorem ahF (q:Qn)(Y:q.ns.length=q.ps.length)(I:1<=q.ns.length)(V:ke S q.r):Qw S q:=by
 by_cases d:q.ns.length=1
 . exact EH q Y d V
 intro lb B N w0 W aV ts lv rv h J R A a2 Z;obtain⟨G,K,r,a⟩:=h.boxes (.cells #[lv,xI q.a,rv] 159);obtain⟨j,f⟩:∃j,j=(W.alloc (.cells #[xP lb] 179)).alloc (.cells #[lv,xI q.a,rv] 159):=⟨_,rfl⟩;have z:Kn S j:=f▸A.ln ((h.alloc _).alloc _) (by omega);have D:bV N w0 j:=f▸((h.alloc _).alloc _).am J;rw[<- f] at K r a;have c:=a2.am D;obtain⟨a3,_,_,rfl,_⟩:=c.tt.ptr;obtain⟨b0,cl,rfl⟩:=zB c.own;obtain⟨s,aA⟩:∃s,q.ns[0]?=some s:=⟨_,av (by omega)⟩;obtain⟨p,a1⟩:∃p,q.ps[0]?=some p:=⟨_,av (by omega)⟩;obtain⟨g,rfl,L,_⟩:=kG c.own aA a1 rfl;have L:xC j g 0 (.string s):=by simpa using L
 have X:=c.lo g rfl;have k:aa (∀(t:Xw) (F:Xl),aQ lb B j G t F->xC t W.heap.size 0 (xP lb)/\xC t (W.heap.size+1) 0 (xS g q.ns.length cl)/\xC t g 0 (.string s)/\xC t (W.heap.size+1) 2 (xP a3)):=λt F o=>⟨(zu (r.at o).1).1,(zL (r.at o).2).1,(iP (o.am J) X).trans L,(zL (r.at o).2).2.2.1⟩;obtain⟨p0,q0,c0,bE⟩:=k.o _ _ K;have bt:W.heap.size+1<j.heap.size:=by rw[f];simp only[au];omega
 have bv:g<j.heap.size:=(c.own.lt g rfl).2;have P:q.ns.length<=10000000000:=by
  have:=Z;simp only[gT,aP] at this;rw[ae d] at this;unfold gS at this;simp only[aP] at this;have e:∀(l:Xl) (b:Bool),l.length<=(eA b (l.map (λs=>[s]))).length:=by
   intro l;induction l with
   | nil=>intro b;simp
   | cons x l bA=>intro b;have:=bA true;simp only[List.map_cons,eA,aP,bJ];omega
  have:=e q.ns false;omega
 have aL:(W.alloc (.cells #[xP lb] 179)).alloc (.cells #[xS g q.ns.length cl,xI q.a,xP a3] 159)=j:=f.symm;have a5:=za K;have n:=za Z;have a0:=za c;have bo:=za r;have bl:=za z;have bg:=za a;have bk:=za V;have bq:=za aA;have bp:=za Y;clear h A a2 K r a z D c V Z f L aA a1 Y;have M:gT q=gS (q.ns.map (λs=>[s]))++([⟨#[61]⟩]++(ob q.r++[⟨#[59]⟩])):=by unfold gT;rw[ae d]
 rw[M] at n;have v:=za M;have C:aa (∀H,aQ lb B j G H ts->xK 77 #[xP lb,xI q.ns.length,.func (.func 141) #[] #[xP W.heap.size,xP (W.heap.size+1)]] H (ey lb B j G (ts++gS (q.ns.map (λs=>[s]))))):=by
  intro H o;have:=y2 (lb:=lb) (B:=B) (w0:=j) (tv0:=G) 141 #[xP W.heap.size,xP (W.heap.size+1)] ahQ (q.ns.map (λs=>[s])) (λi u hu bs a4 O E=>?_) H ts o (by have:=n.o;simp only[aP,bJ,cw] at this ⊢;omega) (by simpa using P)
  . rw[List.length_map] at this;exact this
  rw[List.getElem?_map,Option.map_eq_some_iff] at hu;obtain⟨x,hx,rfl⟩:=hu;exact ahP O J q _ _ a0.o bp.o bo.o i x hx E
 have bx:∀(fn:Go.Fn) (first y:Xa) (w:Xw),(Instr.makeFunc fn first y).run prog w=.ok (.func fn first y) w:=λ_ _ _ _=>rfl;obtain⟨T,hT⟩:∃T,gS (q.ns.map (λs=>[s]))=T:=⟨_,rfl⟩;rw[hT] at C n v;have ar:¬((q.ns.length:Int)=1):=by omega
 clear M d bq hT;go_enter func82,ntmps82;go_upto_region 1 with fail;clear aL;have m:=trivial;go_wp2_with (clear m;go_at_call 77;refine (C.out _ a5.o).mono ?_);rintro e w1 ⟨rfl,I⟩;obtain⟨bB,_,_,bK⟩:=k.o _ _ I;have a6:=za I;clear I p0 q0 c0 bE;have m:=trivial;go_wp2_with (clear m;go_at_call 76;refine (fY a6.o [⟨#[61]⟩] 1 rfl (by have:=n.o;simp only[aP,bJ,cw] at this ⊢;omega) _ rfl).mono ?_);rintro e w2 ⟨rfl,Q⟩;obtain⟨bC,_,_,bL⟩:=k.o _ _ Q;have a9:=za Q;clear Q bB bK;have m:=trivial;go_wp2_with (clear m;go_at_call 142;refine (bk.o lb B N j G _ _ _ J R a0.o.tt bl.o a9.o (by have:=n.o;simp only[aP,bJ,cw] at this ⊢;omega)).mono ?_);rintro e w3 ⟨rfl,U⟩;obtain⟨p3,_,_,bY⟩:=k.o _ _ U;have bb:=za U;clear U bC bL;have m:=trivial;go_wp2_with (clear m;go_at_call 76;refine (fY bb.o [⟨#[59]⟩] 1 rfl (by have:=n.o;simp only[aP,bJ,cw] at this ⊢;omega) _ rfl).mono ?_;rintro e w4 ⟨rfl,h4⟩;have be:=za h4;clear h4);first|go_end0|refine ab (results_none rfl _ _ _) rfl ?_
 exact⟨rfl,bg.o _ _ (by rw[v.o];simpa [bw] using be.o)⟩
end
end Go.Proofs.YtcnelakggnfnhaaGreatDoor
