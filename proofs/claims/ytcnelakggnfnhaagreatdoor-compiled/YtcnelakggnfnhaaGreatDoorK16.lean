/- Part 17. -/
import Derived.Test.YtcnelakggnfnhaaGreatDoorK13
import Derived.Test.YtcnelakggnfnhaaGreatDoorK15
set_option maxRecDepth 100000
set_option maxHeartbeats 8000000
namespace Go.Proofs.YtcnelakggnfnhaaGreatDoor
open Go.Proofs.Tryz
open Go.RowKit
section
variable {L:List (Nat×Nat)} {N f m a t:Nat} {c:Sc} {n r:Xv} {w u:Xw}
attribute [local go_sem ↓] Go.wp_at_zero Go.wp_at_succ
structure hC (N:Nat) (c:Sc) (n r:Xv) (a m t f:Nat) (L:List (Nat×Nat)) (w:Xw):Prop where
 lk:dN w a L
 sc:br w N c n r
 ck:dF w c f
 x1:w.heap[m]?=some (.cells #[.map (some a)] 224 (0,0))
 x3:w.heap[t]?=some (.cells #[n,r] 73 (0,0))
 d1:¬m=a
 d2:¬f=a
 d3:¬t=a
 l:N<=a
 hN:N<=w.heap.size
theorem hC.aq (h:hC N c n r a m t f L w)(b:xB w u):hC N c n r a m t f L u :=
 ⟨h.lk.aq b,h.sc.am (zm b h.hN),h.ck.aq b,(b.block _ (ze h.x1)).trans h.x1,(b.block _ (ze h.x3)).trans h.x3,h.d1,h.d2,h.d3,h.l,aJ h.hN b.size⟩
theorem hC.put {d:List (Nat×Nat)}(h:hC N c n r a m t f L w)(g:dN u a d)(b:Fr (·=a) w u):hC N c n r a m t f d u :=
 ⟨g,h.sc.am (b.am h.hN (λ_ e=>e▸h.l)),h.ck.gh (b.block _ h.ck.lt h.d2),(b.block _ (ze h.x1) h.d1).trans h.x1,(b.block _ (ze h.x3) h.d3).trans h.x3,h.d1,h.d2,h.d3,h.l,aJ h.hN b.size⟩
theorem hC.on (h:hC N c n r a m t f L w){i b:Nat}(e:xH w b #[xI (i:Int)] 3)(d:¬b=a):jC N c n r i a m b t L w :=
 ⟨h.lk,h.sc,h.x1,e,h.x3,h.d1,d,h.d3,h.l,h.hN⟩
theorem G0 (hc:eU c)(w:Xw)(l:br w N c n r)(hN:N<=w.heap.size) :
 xK 113 #[.agg #[n,r]] w (λe u=>∃a,e=.returned (.map (some a))/\w.heap.size<=a/\dN u a c.hI/\xB w u):=by
 obtain⟨aL,C,nb,rfl,rfl,dl⟩:=l.shape;obtain⟨dz,vs,eq,xs,c2,B⟩:=l.nd;cases c2;obtain⟨es,cR,rfl⟩:=zB B.bZ;obtain⟨er,cO,rfl⟩:=zB B.own;have c3:c.nd.eqs.length<=9223372036854775807:=by
  rcases B.own.2 with ⟨_,l⟩|⟨g,K,b1,hv,_,_,h3,h4,_⟩
  . omega
  unfold maxLen at h4;omega
 have di:=@run_makeMap prog;have dc:∀(fn:Go.Fn) (first K:Xa) (w:Xw),(Instr.makeFunc fn first K).run prog w=.ok (.func fn first K) w:=λ_ _ _ _=>rfl;have aV:=za (λo1 o2 o3=>xf (((w.alloc o1).alloc o2).alloc o3) (l.am (yR hN o1 o2 o3)) (by rw[au,au,au];omega));have HEq:=za hc.nd.eqs;go_enter func113,ntmps113;go_upto_region 3 with (go_at_call 55;refine (aV.o _ _ _).mono ?_;rintro e O ⟨f,rfl,bg,ca,b3⟩;have bt:=za ca;have A:=za b3);rw[au,au,au] at bg;refine zn (λW=>hC N c (xE aL c C) (xP nb) (w.heap.size+1) (w.heap.size+1+1) w.heap.size f [] W/\xB w W) ⟨⟨⟨[],⟨#[],0,(A.o.block _ (by simp)).trans (iu w _ _ _).2.1,rfl⟩,λp=>by simp[db],λk v l=>by simp[db] at l⟩,l.am (zm (QQ A.o) hN),bt.o,(A.o.block _ (by simp)).trans (iu w _ _ _).2.2,(A.o.block _ (by simp;omega)).trans (iu w _ _ _).1,by omega,by omega,by omega,by omega,by have:=(QQ A.o).size;omega⟩,QQ A.o⟩ ?_;rintro W ⟨H,D⟩;obtain⟨m0,m1,m2,m3,m4,m5,ea,eb⟩:=zt ((D.block nb (by omega)).trans B.aC);obtain⟨dL,s1,dM,sz⟩:=zp H.x3;have h:=za H;have d:=za D;go_wp2_with fail;go_loopg [20] (c.nd.eqs.length+1) (λj i wr=>∃(k:Nat) (V:List (Nat×Nat)),k+j=c.nd.eqs.length+1/\k<=c.nd.eqs.length/\i=xI k/\aa (hC N c (xE aL c C) (xP nb) (w.heap.size+1) (w.heap.size+1+1) w.heap.size f V wr)/\aa (c.hI=V++(c.nd.eqs.drop k).flatMap (λq=>q.ns.flatMap (fG c q)))/\aa (xB w wr));case atStart=>exact⟨0,[],by omega,aE _,rfl,h.o,rfl,d.o⟩
 case round =>
  obtain⟨k,V,da,dV,rfl,a1,bv,bq⟩:=hrel;have hO:=zm bq.o hN;by_cases ck:k<c.nd.eqs.length
  . obtain⟨ar,rfl⟩:∃ar,ar=wr:=⟨_,rfl⟩;obtain⟨b2,rfl⟩:∃g,g=gk:=⟨_,rfl⟩;obtain⟨q,cm⟩:∃q,c.nd.eqs[k]?=some q:=⟨_,av ck⟩;have bb:=B.am hO;obtain⟨g,lv,rv,rfl,c0,c1,dP,a0⟩:=lj bb.own bb.eqs cm rfl;obtain⟨aA,_,_,rfl,_⟩:=a0.tt.ptr;obtain⟨bs,cl,rfl⟩:=zB a0.own;have c6:=B.ko g rfl;have bL:=za (HEq.o q (aM cm)).1;have c5:=a1.o.hN;have c4:q.ns.length<=9223372036854775807:=by
     rcases a0.own.2 with ⟨_,l⟩|⟨g,K,b1,hv,_,_,h3,h4,_⟩
     . omega
     unfold maxLen at h4;omega
    have cA:aa (c.hI=(V++q.ns.flatMap (fG c q))++(c.nd.eqs.drop (k+1)).flatMap (λq=>q.ns.flatMap (fG c q))):=(by obtain⟨h1,h2⟩:=aB.1 cm;unfold aa;rw[bv.o,dE h1,List.flatMap_cons,h2,bw]);have bE:=za (a1.o.aq (zq ar (.cells #[.slice bs q.ns.length cl,xI q.a,xP aA] 159)));have bY:=za (jh bq.o (an _) (.cells #[.slice bs q.ns.length cl,xI q.a,xP aA] 159));have bK:=za (zc ar (.cells #[.slice bs q.ns.length cl,xI q.a,xP aA] 159));go_wp2_with fail;go_loopg [27] (q.ns.length+1) (λj i wr=>∃(E:Nat) (J:List (Nat×Nat)),E+j=q.ns.length+1/\E<=q.ns.length/\i=xI E/\aa (hC N c (xE aL c C) (xP nb) (w.heap.size+1) (w.heap.size+1+1) w.heap.size f J wr)/\aa (V++q.ns.flatMap (fG c q)=J++(q.ns.drop E).flatMap (fG c q))/\aa (xB w wr)/\aa (xH wr ar.heap.size #[.slice bs q.ns.length cl,xI q.a,xP aA] 159));case atStart=>exact⟨0,V,by omega,aE _,rfl,bE.o,rfl,bY.o,bK.o⟩
    case round =>
     obtain⟨E,J,cs,c9,rfl,z,R,F,I⟩:=hrel;by_cases bk:E<q.ns.length
     . obtain⟨s,ct⟩:∃s,q.ns[E]?=some s:=⟨_,av bk⟩;obtain⟨p,dp⟩:∃p,q.ps[E]?=some p:=⟨_,av (by have:=bL.o;omega)⟩;have ce:bV N ar wr:=λb m=>(zm F.o hN b m).trans (zm bq.o hN b m).symm;have S:=a0.am ce;obtain⟨gl,rfl,c0,c1⟩:=kG S.own ct dp rfl;have co:=a0.lo gl rfl;have be:=z.o.hN;have a4:aa (V++q.ns.flatMap (fG c q)=(J++fG c q s)++(q.ns.drop (E+1)).flatMap (fG c q)):=(by obtain⟨h1,h2⟩:=aB.1 ct;unfold aa;rw[R.o,dE h1,List.flatMap_cons,h2,bw]);obtain⟨dL,s1,dM,sz⟩:=zp z.o.x3;have dk:=z.o.lk.lt;have Z:=ze I.o;have bx:=za (hW s (p:Int) (wr.alloc (.cells #[.string s,xI p] 78)) (z.o.aq (zq wr _)).sc (z.o.aq (zq wr _)).hN)
       go_upto_region 11 with (first
        | (go_at_call 60;refine (bB.o _).mono ?_;rintro e w2 ⟨rfl,a9⟩;have Q:=za (zE a9);have a6:=za ((a9.block _ (by simp)).trans (zc O _)))
        | (go_at_call 61;refine bx.o.mono ?_;rintro e O ⟨rfl,b4⟩;have P:=za (zE b4);have cn:=P.o.size;have a2:=za (z.o.aq P.o);have bB:=za (λo=>jW (c.idx s) (O.alloc o) (a2.o.aq (zq O o)).ck)))
       have dq:=Q.o.size;have bl:=F.o.size;refine zn (λW=>hC N c (xE aL c C) (xP nb) (w.heap.size+1) (w.heap.size+1+1) w.heap.size f J W/\xB wr W/\xH W O.heap.size #[xI (c.idx s:Nat)] 3/\xH W w2.heap.size #[xI ((c.of (c.idx s)).1:Nat),xI ((c.of (c.idx s)).2:Nat)] 162) ⟨(a2.o.aq Q.o).aq (zq w2 _),jh (P.o.trans (Q.o.mono cn)) (an _) _,(mm _ _ _ (by have:=ze a6.o;omega)).trans a6.o,zc w2 _⟩ ?_;rintro W ⟨H,D,U,ch⟩;obtain⟨k0,dY,kf,kz⟩:=zp ch;obtain⟨i0,du,dw⟩:=zu U;obtain⟨cB,cE,cK⟩:=zu H.x1;obtain⟨q0,em,q2,qf,cv⟩:=zL ((D.block _ Z).trans I.o);have ds:=D.size;have Y:¬O.heap.size=w.heap.size+1:=(by omega);have M:¬ar.heap.size=w.heap.size+1:=(by have:=a1.o.lk.lt;omega);have jK:¬w.heap.size+1+1=w.heap.size+1:=(by omega);have h:=za H;have d:=za D;have a5:=za (λ(L3:List (Nat×Nat)) (b0:Xw) (X:jC N c (xE aL c C) (xP nb) (c.idx s) (w.heap.size+1) (w.heap.size+1+1) O.heap.size w.heap.size L3 b0) (cg:TT b0 N q.r (xP aA))=>xN (Jd N c (xE aL c C) (xP nb) (c.idx s) (w.heap.size+1) (w.heap.size+1+1) O.heap.size w.heap.size X.l) q.r (xP aA) L3 b0 cg X.hN X trivial);by_cases bo:(c.of (c.idx s)).2=0
       . have bp:((c.of (c.idx s)).2:Int)=0:=(by omega);have bA:aa (fG c q s=(bh gH q.r).flatMap (j0 c (c.idx s))):=(by unfold aa fG;simp only[bo,ag,List.nil_append]);have bC:=za (a5.o J W (h.o.on U Y) (S.tt.am (zm d.o be)));go_wp2_with (go_at_call 154;refine bC.o.mono ?_;rintro e w5 ⟨rfl,T,y⟩);go_roundg (gk-1);case measure=>omega
         have G:=T.lk;rw[xO,<- bA.o] at G;exact⟨E+1,J++fG c q s,by omega,by omega,by go_num,h.o.put G y,a4.o,jj (F.o.trans (d.o.mono bl)) y (by omega),(y.block _ cv M).trans ((d.o.block _ Z).trans I.o)⟩
       have bp:¬((c.of (c.idx s)).2:Int)=0:=(by omega);have bA:aa (fG c q s=[(c.idx s,(c.of (c.idx s)).1)]++(bh gH q.r).flatMap (j0 c (c.idx s))):=(by unfold aa fG;simp only[bo,ae,not_false_eq_true]);have cz:=za (rX (c.idx s) (c.of (c.idx s)).1 W h.o.lk)
       go_wp2_with (first
        | (go_at_call 154;refine (a5.o _ w4 (a3.o.on ((x.block _ dw Y).trans U) Y) (S.tt.am ((zm d.o be).trans (x.am h.o.hN (λ_ e=>e▸h.o.l))))).mono ?_;rintro e w5 ⟨rfl,T,y⟩)
        | (go_at_call 164;refine cz.o.mono ?_;rintro e w4 ⟨rfl,cd,x⟩;have a3:=za (h.o.put cd x);have dH:=rM x q2 M))
       go_roundg (gk-1);case measure=>omega
       have G:=T.lk;rw[xO,bw,<- bA.o] at G;exact⟨E+1,J++fG c q s,by omega,by omega,by go_num,a3.o.put G y,a4.o,jj (jj (F.o.trans (d.o.mono bl)) x (by omega)) y (by omega),(y.block _ (by have:=x.size;omega) M).trans ((x.block _ cv M).trans ((d.o.block _ Z).trans I.o))⟩
     have ek:E=q.ns.length:=(by omega);subst ek;rw[List.drop_length,List.flatMap_nil,List.append_nil] at R;go_wp2_with fail;go_roundg (b2-1);case measure=>omega
     refine⟨k+1,J,by omega,by omega,by go_num,z.o,?_,F.o⟩;rw[<- R.o];exact cA.o
  have ek:k=c.nd.eqs.length:=by omega
  subst ek;rw[List.drop_length,List.flatMap_nil,List.append_nil] at bv;obtain⟨cB,cE,cK⟩:=zu a1.o.x1;go_wp2_with fail;go_ret;refine⟨_,rfl,by omega,?_,bq.o⟩;rw[bv.o];exact a1.o.lk
end
section
variable {L:List (Nat×Nat)} {N v f l lb s g:Nat} {S:Xs} {r:Xo} {c:Sc} {p t q u:Xv} {w x:Xw}
attribute [local go_sem ↓] Go.wp_at_zero Go.wp_at_succ
structure kO (S:Xs) (l lb f g:Nat) (q p:Xv) (N:Nat) (c:Sc) (t u:Xv) (v s:Nat) (L:List (Nat×Nat)) (r:Xo) (w:Xw):Prop where
 rp:Fx S l lb f g q p r w
 sc:br w N c t u
 lk:dN w s L
 x1:w.heap[v]?=some (.cells #[t,u] 201 (0,0))
 d:∀b,b=v∨b=s->¬b=lb/\¬b=f
 l1:N<=lb
 l2:N<=f
 hN:N<=w.heap.size
theorem kO.aq (h:kO S l lb f g q p N c t u v s L r w)(a:xB w x):kO S l lb f g q p N c t u v s L r x :=
 ⟨h.rp.aq a,h.sc.am (zm a h.hN),h.lk.aq a,(a.block _ (ze h.x1)).trans h.x1,h.d,h.l1,h.l2,aJ h.hN a.size⟩
theorem kO.aX {a:Xo}(h:kO S l lb f g q p N c t u v s L r w)(m:Fx S l lb f g q p a x)(d:Fr (RT lb f) w x):kO S l lb f g q p N c t u v s L a x:=by
 have j:∀{b},(b=v∨b=s)->¬RT lb f b:=λi e=>by rcases e with e|e;exact (h.d _ i).1 e;exact (h.d _ i).2 e
 exact⟨m,h.sc.am (d.am h.hN (λk e=>by rcases e with e|e;exact e▸h.l1;exact e▸h.l2)),h.lk.gh (d.block _ h.lk.lt (j (by simp))),(d.block _ (ze h.x1) (j (by simp))).trans h.x1,h.d,h.l1,h.l2,aJ h.hN d.size⟩
theorem JM (a:Nat)(L:List (Nat×Nat))(n m:Nat):kQ a L n (m+1)=(if (n-(m+1),n-(m+1))∈L then [a] else [])++kQ a L n m:=rfl
theorem Hb (S:Xs)(l lb f g:Nat)(q p:Xv)(N:Nat)(c:Sc)(hc:eU c)(t u:Xv)(r:Xo)(w:Xw)(hR:Fx S l lb f g q p r w)(y:br w N c t u)(hN:N<=w.heap.size)(l1:N<=lb)(l2:N<=f) :
 xK 46 #[.agg #[t,u],bT lb f g] w (λe x=>e=.returned (.tuple #[])/\Fx S l lb f g q p (c.gb.foldl aj r) x/\Fr (RT lb f) w x):=by
 obtain⟨a6,E,K,rfl,rfl,bp⟩:=y.shape;have bs:=ze hR.l;have bq:=ze hR.b;have a9:=za hR;obtain⟨bt,vs,bx,xs,bk,h⟩:=y.nd;cases bk;obtain⟨bB,bg,rfl⟩:=zB h.bZ;obtain⟨bA,be,rfl⟩:=zB h.own;have a1:=h.bO;have Y:=za (λo=>G0 hc (w.alloc o) (y.am (OJ hN o)) (by rw[au];omega));unfold bT;go_enter func46,ntmps46;go_upto_region 2 with (go_at_call 113;refine (Y.o _).mono ?_;rintro e w1 ⟨s,rfl,aL,aA,F⟩;have X:=za aA;have J:=za ((F.block _ (by simp)).trans (zc w _));have C:=za (zE F));rw[au] at aL;obtain⟨m0,m1,m2,m3,m4,m5,a2,a3⟩:=zt ((C.o.block K (by omega)).trans h.aC);obtain⟨a4,s1,a5,sz⟩:=zp J.out;have T:=za (HY c.nd.ak.length (by omega) w1 X.o);go_upto_region 3 with (go_at_call 114;refine T.o.mono ?_;rintro e w2 ⟨rfl,ar,G⟩;have V:=za ar;have n:=za G;have a:=za (jj C.o G (by omega)));refine zn (λW=>kO S l lb f g q p N c (xE a6 c E) (xP K) w.heap.size s (jm c.nd.ak.length c.hI) r W/\Fr (RT lb f) w W) ⟨⟨a9.o.aq a.o,y.am (zm a.o hN),V.o,(n.o.block _ sz (by omega)).trans J.out,λb e=>by rcases e with e|e <;> exact⟨by omega,by omega⟩,l1,l2,by have:=a.o.size;omega⟩,zy a.o⟩ ?_;rintro W ⟨I,H⟩;obtain⟨m0,m1,m2,m3,m4,m5,a2,a3⟩:=zt ((H.block K (by omega) (λe=>by rcases e with e|e <;> omega)).trans h.aC);obtain⟨a4,s1,a5,sz⟩:=zp I.x1;have U:=za I;have R:=za H;go_wp2_with fail;go_loopg [25] (c.nd.ak.length+1) (λj i wr=>∃(k:Nat) (d:Xo),k+j=c.nd.ak.length+1/\k<=c.nd.ak.length/\i=xI k/\aa (kO S l lb f g q p N c (xE a6 c E) (xP K) w.heap.size s (jm c.nd.ak.length c.hI) d wr)/\aa (c.gb.foldl aj r=(kQ c.nd.a (jm c.nd.ak.length c.hI) c.nd.ak.length (j-1)).foldl aj d)/\aa (Fr (RT lb f) w wr));case atStart=>exact⟨0,r,by omega,aE _,rfl,U.o,rfl,R.o⟩
 case round =>
  obtain⟨k,d,bl,bv,rfl,O,aV,Q⟩:=hrel;by_cases bo:k<c.nd.ak.length
  . obtain⟨m,rfl⟩:∃m,gk=m+1+1:=⟨gk-1-1,by omega⟩;have a0:=aV.o;rw[show m+1+1-1=m+1 from rfl,JM,show c.nd.ak.length-(m+1)=k by omega,bc] at a0;have B:=za a0;have M:=za (pc k k wr O.o.lk);by_cases P:(k,k)∈jm c.nd.ak.length c.hI
    . rw[ag P] at B;rw[decide_eq_true P] at M
      go_wp2_with (first
       | (go_at_call 117;refine (eg S l lb f g q p d c.nd.a _ A.o.rp).mono ?_;rintro e w3 ⟨rfl,Z,D⟩)
       | (go_at_call 115;refine M.o.mono ?_;rintro e w2 ⟨rfl,z⟩;have A:=za (O.o.aq z);have n:=za (Q.o.trans (zy z));obtain⟨a4,s1,a5,sz⟩:=zp A.o.x1;obtain⟨m0,m1,m2,m3,m4,m5,a2,a3⟩:=zt ((n.o.block K (by omega) (λe=>by rcases e with e|e <;> omega)).trans h.aC)))
      go_roundg (m+1);case measure=>omega
      exact⟨k+1,aj d c.nd.a,by omega,by omega,by go_num,A.o.aX Z D,B.o,n.o.trans D⟩
    rw[ae P] at B;rw[decide_eq_false P] at M;go_wp2_with (go_at_call 115;refine M.o.mono ?_;rintro e w2 ⟨rfl,z⟩;have a:=za z);go_roundg (m+1);case measure=>omega
    exact⟨k+1,d,by omega,by omega,by go_num,O.o.aq a.o,B.o,Q.o.trans (zy a.o)⟩
  have ek:k=c.nd.ak.length:=by omega
  subst ek;have:gk=1:=by omega
  subst this;have B:aa (c.gb.foldl aj r=d):=aV.o;go_wp2_with fail;first|go_end0|refine ab (results_none rfl _ _ _) rfl ?_
  refine⟨rfl,?_,Q.o⟩;rw[B.o];exact O.o.rp
end
section
variable {s:Int} {m:List (ByteArray×Nat)} {b a c:Nat} {w w':Xw}
attribute [local go_sem ↓] Go.wp_at_zero Go.wp_at_succ
def gM (w:Xw)(b:Nat)(m:List (ByteArray×Nat)):Prop :=
 ∃l:List (ByteArray×Value),fb w b Value.string l/\∀s,(db s l).getD (xI 0)=xI (fa s m:Nat)
theorem gM.gh (h:gM w b m)(f:w'.heap[b]?=w.heap[b]?):gM w' b m:=by obtain⟨l,d,e⟩:=h;exact⟨l,d.of f,e⟩
theorem gM.lt (h:gM w b m):b<w.heap.size:=by obtain⟨l,d,_⟩:=h;exact d.lt
theorem gM.aq (h:gM w b m)(d:xB w w'):gM w' b m:=h.gh (d.block _ h.lt)
theorem Tryz.GR (w:Xw):(zeroValue 3).run prog w=.ok (xI 0) w:=by kernel_rfl
theorem yf (h:gM w b m)(s:Xb) :
 (Instr.lookup 227 (.map (some b)) (.string s) false).run prog w=.ok (xI (fa s m:Nat)) w:=by
 obtain⟨l,d,e⟩:=h;refine (rN Tryz.th underlying227 Tryz.GR d s false).trans ?_;rw[<- e s];rfl
theorem KK (h:gM w b m)(s:Xb)(n:Nat) :
 ∃w',(Instr.mapUpdate 227 (.map (some b)) (.string s) (xI (n:Int))).run prog w=.ok () w'/\gM w' b ((s,n)::m)/\Fr (·=b) w w':=by
 obtain⟨l,g,i⟩:=h;obtain⟨w',r,j,f⟩:=pq Tryz.th underlying227 g s (xI (n:Int));refine⟨w',r,⟨_,j,λd=>?_⟩,f⟩;rw[rJ,fa];by_cases e:s=d
 . rw[ag e,ag e];rfl
 rw[ae e,ae e];exact i d
def hX (m:List (ByteArray×Nat))(s:Int)(t:Tm):Int:=if t.k=9∨t.k=4 then wrap64 (s+(fE m t:Nat)) else s
structure kh (a c b:Nat) (m:List (ByteArray×Nat)) (s:Int) (w:Xw):Prop where
 x1:w.heap[a]?=some (.cells #[xI s] 3 (0,0))
 x2:w.heap[c]?=some (.cells #[.map (some b)] 227 (0,0))
 cm:gM w b m
 d1:¬c=a
 d2:¬b=a
theorem kh.aq (h:kh a c b m s w)(d:xB w w'):kh a c b m s w' :=
 ⟨(d.block _ (ze h.x1)).trans h.x1,(d.block _ (ze h.x2)).trans h.x2,h.cm.aq d,h.d1,h.d2⟩
theorem kh.put (h:kh a c b m s w)(d:Int):kh a c b m d (w.setCell (xD a 0) (xI d)) :=
 ⟨r2 h.x1 _,zr h.d1 h.x2,h.cm.gh (zr h.d2 rfl),h.d1,h.d2⟩
theorem K1:zH 166:=λ_ _=>by kernel_rfl
theorem IG (N:Nat)(n:ay)(a c b:Nat)(m:List (ByteArray×Nat))(E:∀s,fa s m<=61)(y:N<=a) :
 nX N (·=a) 166 #[xP a,xP c] (λ_=>True) n (λs _ t=>hX m s t) (kh a c b m) where
 enters:=K1
 hT:=λ_ e=>e▸y
 aq:=λs w w' h O=>h.aq O
 sub:=λ_ _ _ _=>trivial
 root:=λ_ _=>trivial
 call:=by
  intro q lv rv t v s w _ x hT _ hN d _;obtain⟨bt,C,vs,rfl,P,g,_⟩:=hT.ptr;obtain⟨ar,J,rfl⟩:=zB x.own;obtain⟨Z,_,_,rfl,_⟩:=x.tt.ptr;have z:=za (λo=>d.aq (zq w o));obtain⟨u,S,F,T,U,V,X,Y⟩:=zt g;obtain⟨A,B,D⟩:=zu d.x1;obtain⟨G,H,I⟩:=zu d.x2;have aA:=d.d1;have Q:¬bt=a:=by omega
  have p:=λo=>yf (d.aq (zq w o)).cm t.s;have L:=E t.s;clear hT g x E
  show Calls prog _ #[.agg #[.slice ar q.ns.length J,xI q.a,xP Z],xP bt,xP a,xP c] w _;by_cases i:t.k=9
  . have k:aa (hX m s t=wrap64 (s+1)):=by unfold aa hX fE;rw[ag (ao i),ag i];rfl
    have r:w.cell? (xD bt 0)=some (xI 9):=(by rw[u,i];rfl);clear i u;go_enter func166,ntmps166;go_wp2_with fail;go_ret;rw[k.o];exact⟨rfl,(d.put _).aq (zq _ _),(Fr.aY (Fr.refl _ w) _ _).alloc _⟩
  by_cases l:t.k=4
  . have k:aa (hX m s t=wrap64 (s+(1+(fa t.s m:Nat)))):=by unfold aa hX fE;rw[ag (ap l),ae i,ag l];rfl
    have r:w.cell? (xD bt 0)=some (xI 4):=(by rw[u,l];rfl);have R:wrap64 (1+(fa t.s m:Int))=1+(fa t.s m:Int):=(by unfold wrap64;omega);clear i l u;go_enter func166,ntmps166;go_upto_region 5 with fail;refine zn (λW=>kh a c b m s W/\xB w W) ⟨z.o _,zq w _⟩ ?_;rintro W ⟨f,j⟩;clear A B D G H I p;obtain⟨A,B,D⟩:=zu f.x1;obtain⟨G,H,I⟩:=zu f.x2;have aL:=zd j F Y;have p:(Instr.lookup 227 (.map (some b)) (.string t.s) false).run prog W.drew=.ok (xI (fa t.s m:Nat)) W.drew:=yf (w:=W.drew) (f.cm.gh (w':=W.drew) rfl) t.s;clear r S F T U V X;go_region;go_wp2_with fail;go_ret;rw[k.o];exact⟨rfl,(f.put _).aq (zo (yS _ _)),(Fr.aY (zy j) _ _).trans (zy (zo (yS _ _)))⟩
  have k:aa (hX m s t=s):=by unfold aa hX;rw[ae (by omega)]
  have M:¬(t.k:Int)=9:=by omega
  have K:¬(t.k:Int)=4:=by omega
  clear i l;go_enter func166,ntmps166;go_wp2_with fail;go_ret;rw[k.o];exact⟨rfl,z.o _,zy (zq w _)⟩
end
end Go.Proofs.YtcnelakggnfnhaaGreatDoor
