/- Part 14. -/
import Derived.Test.YtcnelakggnfnhaaGreatDoorK12
set_option maxRecDepth 100000
set_option maxHeartbeats 8000000
namespace Go.Proofs.YtcnelakggnfnhaaGreatDoor
open Go.Proofs.Tryz
section
open Go.RowKit
attribute [local go_sem ↓] Go.wp_at_zero Go.wp_at_succ
theorem G2 (c:Sc):∀(a b:List Vr) (i:Nat),dQ c (a++b) i=dQ c a i++dQ c b (i+a.length):=by
 intro a;induction a with
 | nil=>intro b i;rfl
 | cons v a d=>intro b i;rw[List.cons_append,dQ,dQ,d,bJ,show i+1+a.length=i+(a.length+1) by omega];simp only[bw]
theorem GW (c:Sc):∀(a d:Xl) (b e:Xn),a.length=b.length->z7 c (a++d) (b++e)=z7 c a b++z7 c d e:=by
 intro a;induction a with
 | nil=>intro d b e h;cases b with
   | nil=>rfl
   | cons _ _=>simp at h
 | cons s a f=>intro d b e h;cases b with
   | nil=>simp at h
   | cons p b=>rw[List.cons_append,List.cons_append,z7,z7,f _ _ _ (by simpa using h),bw]
theorem G5 {c:Sc}{a:Xl}{b:Xn}{k:Nat}{s:Xb}{p:Nat}(e:a[k]?=some s)(d:b[k]?=some p):z7 c (a.take (k+1)) (b.take (k+1))=z7 c (a.take k) (b.take k)++((if (!c.has s||decide (c.idx s<c.nd.ah))=true then [p] else [])++[]):=by have f:=(aB.1 e).1;have g:=(aB.1 d).1;rw[kN e,kN d,GW c _ _ _ _ (by simp;omega)];rfl
theorem Hl (S:Xs)(Z lb t M:Nat)(u f:Xv)(N:Nat)(c:Sc)(h6:c.er.length<=6)(dP:∀q∈c.nd.eqs,q.ns.length=q.ps.length)(fj nv:Xv)(st:Xo)(w:Xw)(hR:Fx S Z lb t M u f st w)(h:br w N c fj nv)(hN:N<=w.heap.size)(l1:N<=lb)(l2:N<=t) :
 xK 42 #[.agg #[fj,nv],bT lb t M] w (λe y=>e=.returned (.tuple #[])/\Fx S Z lb t M u f (c.cG.foldl aj st) y/\Fr (RT lb t) w y):=by
 obtain⟨U,r,z,rfl,rfl,gU⟩:=h.shape;have gW:=ze hR.l;have gV:=ze hR.b;have cz:∀o1 o2,((w.alloc o1).alloc o2).heap[w.heap.size]?=some o1/\((w.alloc o1).alloc o2).heap[w.heap.size+1]?=some o2:=λo1 o2=>mO w o1 o2
 have c6:b5 S Z lb t M u f N c (xE U c r) (xP z) w.heap.size (w.heap.size+1) st ((w.alloc (.cells #[xE U c r,xP z] 201)).alloc (.cells #[bT lb t M] 199)) :=
  ⟨hR.aq (cT w _ _),h.am (j8 hN _ _),(cz _ _).1,(cz _ _).2,by omega,by omega,by omega,by omega,l1,l2,by simp;omega⟩
 have cl:=za c6;obtain⟨g3,vs,he,xs,gn,a1⟩:=h.nd;cases gn;obtain⟨hg,gm,rfl⟩:=zB a1.bZ;obtain⟨hf,gl,rfl⟩:=zB a1.own;have B:=za a1;have fk:=a1.bO;have eO:=za dP;have gt:c.nd.eqs.length<=9223372036854775807:=by
  rcases a1.own.2 with ⟨_,h⟩|⟨g,bK,eS,hv,_,_,h3,h4,_⟩
  . omega
  unfold maxLen at h4;omega
 have cv:aa (c.cG.foldl aj st=((c.nd.eqs.flatMap λq=>(bh b8 q.r).flatMap (fF c q))).foldl aj ((c.nd.eqs.flatMap λq=>z7 c q.ns q.ps).foldl aj ((dQ c c.nd.ak 0).foldl aj ((if (c.called c.nd.nm).isSome=true then [c.nd.a] else []).foldl aj st)))):=by unfold aa Sc.cG;rw[bc,bc,bc]
 have a6:=za (zy (T:=RT lb t) (cT w (.cells #[xE U c r,xP z] 201) (.cells #[bT lb t M] 199)));clear hR h cz c6 a1 dP;unfold bT at cl a6 ⊢;go_enter func42,ntmps42;go_upto_block 0 with fail;refine zn (λW=>b5 S Z lb t M u f N c (xE U c r) (xP z) w.heap.size (w.heap.size+1) st W/\Fr (RT lb t) w W) ⟨cl.o,a6.o⟩ ?_;rintro W ⟨aA,cA⟩;have bb:=za aA;have a5:=za cA;obtain⟨cg,s1,ch,sz⟩:=zp aA.x1;obtain⟨p0,bv,cd⟩:=zu aA.x2;have dk:=cA.am hN (λk e=>by rcases e with e|e;exact e▸l1;exact e▸l2);obtain⟨m0,m1,m2,m3,m4,m5,b2,cO⟩:=zt ((dk z B.o.lo).trans B.o.aC);have cK:=aA.hN;have bo:=aA.sc.am (w':=W.drew) (λ_ _=>rfl);have bp:=λo=>aA.sc.am (w':=(W.alloc o).drew) (OJ cK o);clear aA cA dk cl a6;go_cut [5] (λx wx=>x=.bool (c.called c.nd.nm).isSome/\aa (b5 S Z lb t M u f N c (xE U c r) (xP z) w.heap.size (w.heap.size+1) st wx)/\aa (Fr (RT lb t) w wx));case first =>
  cases F:c.called c.nd.nm with
  | none =>
    have cm:=za (o5 c.nd.nm (c.nd.a:Int) W.drew bo cK h6 F);have cn:=za (λo=>o5 c.nd.nm (c.nd.a:Int) (W.alloc o).drew (bp o) (by show N<=(W.alloc o).heap.size;simp;omega) h6 F);have Y:=za F;clear bo bp F m2 m3 m4 m5 b2 ch bv
    go_region_held3 (λy=>y.cell? (xD w.heap.size 0)=some (xE U c r)/\y.cell? (xD w.heap.size 1)=some (xP z)/\y.cell? (xD z 0)=some (.string c.nd.nm)/\y.cell? (xD z 1)=some (xI c.nd.a))
     (first|(with_reducible (refine⟨?_,?_,?_,?_⟩ <;> repeat (first|assumption|refine zg ?_|refine zj _ ?_|refine zk (by omega) ?_|refine zd a.o ?_ (by first|omega|(rw[au];omega)))))|go_keep)
     (first
       | (go_at_call 96;refine cm.o.mono ?_;rintro e w1 ⟨rfl,b⟩;have a:=za (zw b);clear b)
       | (go_at_call 96;refine (cn.o _).mono ?_;rintro e w1 ⟨rfl,b⟩;have a:=za (zw b);obtain⟨eE,cR,fS,c0⟩:=zp ((a.o.block W.heap.size (by rw[au];omega)).trans (zc W _));clear b))
    . go_wp2_with fail;go_meet;exact⟨by rw[Y.o];rfl,(bb.o.aq a.o).aq (zq _ _),(a5.o.trans (zy a.o)).alloc _⟩
    go_wp2_with fail;go_meet;exact⟨by rw[Y.o];rfl,bb.o.aq (zC (zC (zE a.o) (an _) _) (an _) _),a5.o.trans (zy (zC (zC (zE a.o) (an _) _) (an _) _))⟩
  | some d =>
    have cm:=za (ji c.nd.nm (c.nd.a:Int) W.drew bo cK h6 F);have cn:=za (λo=>ji c.nd.nm (c.nd.a:Int) (W.alloc o).drew (bp o) (by show N<=(W.alloc o).heap.size;simp;omega) h6 F);have Y:=za F;clear bo bp F m2 m3 m4 m5 b2 ch bv
    go_region_held3 (λy=>y.cell? (xD w.heap.size 0)=some (xE U c r)/\y.cell? (xD w.heap.size 1)=some (xP z)/\y.cell? (xD z 0)=some (.string c.nd.nm)/\y.cell? (xD z 1)=some (xI c.nd.a))
     (first|(with_reducible (refine⟨?_,?_,?_,?_⟩ <;> repeat (first|assumption|refine zg ?_|refine zj _ ?_|refine zk (by omega) ?_|refine zd a.o ?_ (by first|omega|(rw[au];omega)))))|go_keep)
     (first
       | (go_at_call 96;refine cm.o.mono ?_;rintro e w1 ⟨x2,eR,n2,rfl,eZ,b⟩;have a:=za (zw b);clear b)
       | (go_at_call 96;refine (cn.o _).mono ?_;rintro e w1 ⟨x2,eR,n2,rfl,eZ,b⟩;have a:=za (zw b);obtain⟨eE,cR,fS,c0⟩:=zp ((a.o.block W.heap.size (by rw[au];omega)).trans (zc W _));clear b))
    . go_wp2_with fail;go_meet;exact⟨by rw[Y.o];rfl,(bb.o.aq a.o).aq (zq _ _),(a5.o.trans (zy a.o)).alloc _⟩
    go_wp2_with fail;go_meet;exact⟨by rw[Y.o];rfl,bb.o.aq (zC (zC (zE a.o) (an _) _) (an _) _),a5.o.trans (zy (zC (zC (zE a.o) (an _) _) (an _) _))⟩
 case rest =>
  obtain⟨rfl,aV,bB⟩:=hcut;obtain⟨O,bq⟩:∃O,(if (c.called c.nd.nm).isSome=true then [c.nd.a] else []).foldl aj st=O:=⟨_,rfl⟩;have bk:=za bq;rw[bq] at cv;generalize e0:(c.called c.nd.nm).isSome=g8 at *;clear e0;clear bq bo bp cg s1 p0 bv m0 m1 m2 m3 m4 m5 b2 cO ch sz cd bb a5;have dl:=bB.o.am hN (λk e=>by rcases e with e|e;exact e▸l1;exact e▸l2);obtain⟨cg,s1,ch,sz⟩:=zp aV.o.x1;obtain⟨p0,bv,cd⟩:=zu aV.o.x2;obtain⟨m0,m1,m2,m3,m4,m5,b2,cO⟩:=zt ((dl z B.o.lo).trans B.o.aC);unfold bT at p0;have fz:¬z=lb:=by omega
  have fu:¬z=t:=by omega
  have fB:¬w.heap.size=lb:=by omega
  have fA:¬w.heap.size=t:=by omega
  have e3:¬w.heap.size+1=lb:=by omega
  have e1:¬w.heap.size+1=t:=by omega
  clear dl;go_upto_if 26 with fail;go_cut [] (λwy=>aa (b5 S Z lb t M u f N c (xE U c r) (xP z) w.heap.size (w.heap.size+1) O wy)/\aa (Fr (RT lb t) w wy));case first =>
   cases g8 with
   | false => go_wp2_with fail;go_meet;rw[<- bk.o];exact⟨aV.o,bB.o⟩
   | true =>
     have l:=za (eg S Z lb t M u f st c.nd.a wc.drew (aV.o.rp.aq (zo (yS _ _))));go_upto_region 3 with fail
     go_region_held3 (λy=>y.cell? (xD w.heap.size 1)=some (xP z)/\y.cell? (xD (w.heap.size+1) 0)=some (.func (.func 117) #[] #[xP lb,xP t,xP M])/\y.cell? (xD z 1)=some (xI c.nd.a))
      (first|(with_reducible (refine⟨?_,?_,?_⟩ <;> repeat (first|assumption|refine zg ?_|refine zS A.o ?_ (by omega) (by omega))))|go_keep)
      (first
        | (go_at_call 117;refine (l.o).mono ?_;rintro e w2 ⟨rfl,D,b4⟩;have Q:=za D;have A:=za b4.cQ;clear D b4))
     go_wp2_with fail;go_meet;rw[<- bk.o];exact⟨aV.o.aX Q.o A.o,bB.o.trans A.o⟩
  case rest =>
   obtain⟨ct,co⟩:=hcut;clear bk cg s1 ch sz p0 bv cd m0 m1 m2 m3 m4 m5 b2 cO aV bB;have dp:=co.o.am hN (λk e=>by rcases e with e|e;exact e▸l1;exact e▸l2);obtain⟨cg,s1,ch,sz⟩:=zp ct.o.x1;obtain⟨m0,m1,m2,m3,m4,m5,b2,cO⟩:=zt ((dp z B.o.lo).trans B.o.aC);clear dp;go_wp2_with fail;go_loopg [43] (c.nd.ak.length+1) (λj i wr=>∃k:Nat,k+j=c.nd.ak.length+1/\k<=c.nd.ak.length/\i=xI k/\aa (b5 S Z lb t M u f N c (xE U c r) (xP z) w.heap.size (w.heap.size+1) ((dQ c (c.nd.ak.take k) 0).foldl aj O) wr)/\aa (Fr (RT lb t) w wr));case atStart=>exact⟨0,by omega,aE _,rfl,ct.o,co.o⟩
   case round =>
    clear ct co cg s1 ch sz m0 m1 m2 m3 m4 m5 b2 cO;obtain⟨k,dL,fr,rfl,n,G⟩:=hrel;have J:=G.o.am hN (λk e=>by rcases e with e|e;exact e▸l1;exact e▸l2);obtain⟨p0,eq,bv,cd⟩:=zp n.o.x1;obtain⟨q0,qf,ce⟩:=zu n.o.x2;unfold bT at q0;have bL:=n.o.hN;by_cases b1:k<c.nd.ak.length
    . obtain⟨v,hv⟩:∃v,c.nd.ak[k]?=some v:=⟨_,av b1⟩;obtain⟨g,rfl,es,ev,eQ,ga,gc,gd,ge⟩:=hj (B.o.am J).bZ hv;have eW:=B.o.jc g rfl;have L:dQ c (c.nd.ak.take (k+1)) 0=dQ c (c.nd.ak.take k) 0++((if (c.nd.find v.nm).getD 0<k then [v.a] else [])++(if (ba v != 0&&!c.has v.ck)=true then [v.ca] else [])++[]):=by
       rw[kN hv,G2];have:0+(c.nd.ak.take k).length=k:=by simp;omega
       rw[this];rfl
      have bC:=za (λo=>rK v.nm (wr.alloc o) ((B.o.am J).am (OJ bL o)));have dV:w.heap.size<wr.heap.size+1:=(by omega);have ea:w.heap.size+1<wr.heap.size+1:=(by omega);obtain⟨ff,dw⟩:∃ff,c.nd.find v.nm=ff:=⟨_,rfl⟩;rw[dw] at bC L;obtain⟨ar,bs⟩:∃ar,(if ff.getD 0<k then [v.a] else []).foldl aj ((dQ c (c.nd.ak.take k) 0).foldl aj O)=ar:=⟨_,rfl⟩;have a3:aa ((dQ c (c.nd.ak.take (k+1)) 0).foldl aj O=(if (ba v != 0&&!c.has v.ck)=true then [v.ca] else []).foldl aj ar):=(by unfold aa;rw[L,bc,bc,bc,bs];rfl);have aL:=za bs;have eF:∀W:Xw,xB wr W->True:=λ_ _=>trivial;clear L dw bs J eF;unfold pF at bC;go_upto_if 60 with (go_at_call 97;refine (bC.o _).mono ?_;rintro e w1 ⟨rfl,b⟩;(have du:=(b.block wr.heap.size (by simp)).trans (zc wr _));have bx:=za du;have a:=za (zE b);clear b du);go_cut [] (λwy=>aa (b5 S Z lb t M u f N c (xE U c r) (xP z) w.heap.size (w.heap.size+1) ar wy)/\aa (Fr (RT lb t) w wy)/\aa (xH wy wr.heap.size #[.string v.nm,xI v.a,xI (dv v:Nat),xI (ba v:Nat),xI v.on,.string v.ck,xI v.ca] 95));case first =>
       by_cases bY:ff.getD 0<k
       . have dz:((ff.getD 0:Nat):Int)<(k:Int):=(by omega);rw[ag bY] at aL;obtain⟨x0,x1,x2,x3,x4,x5,fD,g9,fg⟩:=eK bx.o;have g0:=zd a.o q0 ce;have l:=za (eg S Z lb t M u f _ v.a w1 (n.o.aq a.o).rp);clear bY;generalize ff.getD 0=go at *;go_wp2_with (go_at_call 117;refine l.o.mono ?_;rintro e w2 ⟨rfl,D,I⟩;have Q:=za D;have A:=za I;clear D I);go_meet;rw[<- aL.o];exact⟨(n.o.aq a.o).aX Q.o A.o,(G.o.trans (zy a.o)).trans A.o,(A.o.block _ fg (λe=>by rcases e with e|e <;> omega)).trans bx.o⟩
       have dz:¬((ff.getD 0:Nat):Int)<(k:Int):=(by omega);rw[ae bY] at aL;clear bY;generalize ff.getD 0=go at *;go_wp2_with fail;go_meet;rw[<- aL.o];exact⟨n.o.aq a.o,G.o.trans (zy a.o),bx.o⟩
      case rest =>
       obtain⟨X,cs,eG⟩:=hcut;clear p0 eq bv cd q0 qf ce es ev eQ ga gc gd ge bx a bC;obtain⟨p0,eq,bv,cd⟩:=zp X.o.x1;obtain⟨q0,qf,ce⟩:=zu X.o.x2;unfold bT at q0;obtain⟨x0,x1,x2,x3,x4,x5,fD,g9,fg⟩:=eK eG.o;by_cases a2:ba v=0
       . have eb:((ba v:Int) != 0)=false:=(by simp[a2]);have bg:aa ((dQ c (c.nd.ak.take (k+1)) 0).foldl aj O=ar):=(by unfold aa;rw[a3.o];simp[a2]);clear a2 a3 hv;generalize ba v=sg at *;go_wp2_with fail;go_roundg (gk-1);case measure=>omega
         refine⟨k+1,by omega,by omega,by go_num,?_,cs.o⟩;rw[bg.o];exact X.o
       have eb:((ba v:Int) != 0)=true:=(by simp;omega);have er:=za (pv v.ck (v.ca:Int) wc X.o.sc X.o.hN);cases C:c.has v.ck with
       | true =>
         have m:(c.nd.find v.ck).isSome=true:=C;rw[m] at er;have bg:aa ((dQ c (c.nd.ak.take (k+1)) 0).foldl aj O=ar):=(by unfold aa;rw[a3.o,C];simp);clear a2 a3 hv C m;generalize ba v=sg at *;go_wp2_with (go_at_call 98;refine er.o.mono ?_;rintro e w1 ⟨rfl,b⟩;have a:=za b;clear b);go_roundg (gk-1);case measure=>omega
         refine⟨k+1,by omega,by omega,by go_num,?_,cs.o.trans (zy a.o)⟩;rw[bg.o];exact X.o.aq a.o
       | false =>
         have m:(c.nd.find v.ck).isSome=false:=C;rw[m] at er;have bg:aa ((dQ c (c.nd.ak.take (k+1)) 0).foldl aj O=aj ar v.ca):=(by unfold aa;rw[a3.o,C];simp[a2]);clear a2 a3 hv C m;generalize ba v=sg at *
         go_wp2_with (first
          | (go_at_call 117;refine l.o.mono ?_;rintro e w2 ⟨rfl,D,I⟩;have Q:=za D;have A:=za I;clear D I)
          | (go_at_call 98;refine er.o.mono ?_;rintro e w1 ⟨rfl,b⟩;have a:=za b;have g0:=zd a.o q0 ce;have hc:=zd a.o fD fg;have l:=za (eg S Z lb t M u f ar v.ca w1 (X.o.aq a.o).rp);clear b))
         go_roundg (gk-1);case measure=>omega
         refine⟨k+1,by omega,by omega,by go_num,?_,(cs.o.trans (zy a.o)).trans A.o⟩;rw[bg.o];exact (X.o.aq a.o).aX Q.o A.o
    have ek:k=c.nd.ak.length:=(by omega);subst ek;rw[List.take_length] at n;obtain⟨bt,ca⟩:∃bt,(dQ c c.nd.ak 0).foldl aj O=bt:=⟨_,rfl⟩;rw[ca] at n cv;obtain⟨n0,n1,n2,n3,n4,n5,nf,nz⟩:=zt ((J z B.o.lo).trans B.o.aC);clear ca J q0 qf;go_wp2_with fail;go_loopg [92] (c.nd.eqs.length+1) (λj i wr=>∃k:Nat,k+j=c.nd.eqs.length+1/\k<=c.nd.eqs.length/\i=xI k/\aa (b5 S Z lb t M u f N c (xE U c r) (xP z) w.heap.size (w.heap.size+1) (((c.nd.eqs.take k).flatMap λq=>z7 c q.ns q.ps).foldl aj bt) wr)/\aa (Fr (RT lb t) w wr));case atStart=>exact⟨0,by omega,aE _,rfl,n.o,G.o⟩
    case round =>
     clear n G n0 n1 n2 n3 n4 n5 nf nz p0 eq bv cd dL fr b1;obtain⟨k,dL,fr,rfl,n,G⟩:=hrel;have J:=G.o.am hN (λk e=>by rcases e with e|e;exact e▸l1;exact e▸l2);obtain⟨p0,eq,bv,cd⟩:=zp n.o.x1;obtain⟨q0,qf,ce⟩:=zu n.o.x2;unfold bT at q0;have bL:=n.o.hN;by_cases b1:k<c.nd.eqs.length
     . obtain⟨ck,rfl⟩:∃ck,ck=wr:=⟨_,rfl⟩;obtain⟨eT,rfl⟩:∃g,g=gk:=⟨_,rfl⟩;obtain⟨q,ex⟩:∃q,c.nd.eqs[k]?=some q:=⟨_,av b1⟩;have cE:=B.o.am J;obtain⟨g,lv,rv,rfl,es,ev,eQ,c9⟩:=lj cE.own cE.eqs ex rfl;obtain⟨fC,_,_,rfl,_⟩:=c9.tt.ptr;obtain⟨fP,fh,rfl⟩:=zB c9.own;have eW:=B.o.ko g rfl;have HEq:=za c9;have dY:=eO.o q (aM ex);have c4:=za dY;have c1:=za (xU (λq=>z7 c q.ns q.ps) ex bt);obtain⟨P,cb⟩:∃P,((c.nd.eqs.take k).flatMap λq=>z7 c q.ns q.ps).foldl aj bt=P:=⟨_,rfl⟩;rw[cb] at c1 n;have gw:q.ns.length<=9223372036854775807:=by
        rcases c9.own.2 with ⟨_,h⟩|⟨g,bK,eS,hv,_,_,h3,h4,_⟩
        . omega
        unfold maxLen at h4;omega
       have dV:w.heap.size<ck.heap.size+1:=(by omega);have ea:w.heap.size+1<ck.heap.size+1:=(by omega);have c5:=za (zy (T:=RT lb t) (zq ck (.cells #[.slice fP q.ns.length fh,xI q.a,xP fC] 159)));have c3:=za (n.o.aq (zq ck (.cells #[.slice fP q.ns.length fh,xI q.a,xP fC] 159)));clear cE c9 ex cb dY J;go_wp2_with fail;go_loopg [99] (q.ns.length+1) (λj i wr=>∃E:Nat,E+j=q.ns.length+1/\E<=q.ns.length/\i=xI E/\aa (b5 S Z lb t M u f N c (xE U c r) (xP z) w.heap.size (w.heap.size+1) ((z7 c (q.ns.take E) (q.ps.take E)).foldl aj P) wr)/\aa (Fr (RT lb t) ck wr));case atStart=>exact⟨0,by omega,aE _,rfl,c3.o,c5.o⟩
       case round =>
        clear c3 c5 es ev eQ q0 qf p0 eq;obtain⟨E,ft,gz,rfl,a0,bE⟩:=hrel;obtain⟨e5,e7,g4,g5⟩:=zp a0.o.x1;obtain⟨fd,g6,g7⟩:=zu a0.o.x2;have gx:=a0.o.hN;have gX:=bE.o.size;by_cases dM:E<q.ns.length
        . obtain⟨s,eY⟩:∃s,q.ns[E]?=some s:=⟨_,av dM⟩;obtain⟨p,eX⟩:∃p,q.ps[E]?=some p:=⟨_,av (by have:=c4.o;omega)⟩;have dq:=bE.o.am bL (λk e=>by rcases e with e|e;exact e▸l1;exact e▸l2);obtain⟨gs,rfl,es,ev⟩:=kG (HEq.o.am dq).own eY eX rfl;have fl:=HEq.o.lo gs rfl;have L:=G5 (c:=c) eY eX;have gZ:(0:Int)<=(E:Int):=(by omega);have g2:(E:Int)<(q.ns.length:Int):=(by omega);clear dq eY eX;go_upto_region 19 with fail;refine zn (λb3=>aa (b5 S Z lb t M u f N c (xE U c r) (xP z) w.heap.size (w.heap.size+1) ((z7 c (q.ns.take E) (q.ps.take E)).foldl aj P) b3)/\aa (Fr (RT lb t) ck b3)/\xH b3 wr.heap.size #[.string s,xI p] 78) ⟨a0.o.aq (zq wr _),bE.o.alloc _,zc wr _⟩ ?_;rintro b3 ⟨H,bA,ds⟩;obtain⟨cg,s1,ch,sz⟩:=zp H.o.x1;obtain⟨q0,qf,ce⟩:=zu H.o.x2;unfold bT at q0;obtain⟨eE,cR,fS,c0⟩:=zp ds;have di:=(G.o.trans bA.o).am hN (λk e=>by rcases e with e|e;exact e▸l1;exact e▸l2);obtain⟨m0,m1,m2,m3,m4,m5,b2,cO⟩:=zt ((di z B.o.lo).trans B.o.aC);have eV:=H.o.hN;have a9:=za (pv s (p:Int) b3.drew (H.o.sc.am (λ_ _=>rfl)) eV);have c2:=za (λW (hB:xB b3 W)=>hW s (p:Int) W (H.o.aq hB).sc (H.o.aq hB).hN);clear ds di e5 e7 fd m0 m1 m2 m4 m5 b2;cases C:c.has s with
          | false =>
            have m:(c.nd.find s).isSome=false:=C;rw[m] at a9;have a3:aa ((z7 c (q.ns.take (E+1)) (q.ps.take (E+1))).foldl aj P=aj ((z7 c (q.ns.take E) (q.ps.take E)).foldl aj P) p):=(by unfold aa;rw[L,bc,C];rfl);clear C m L;refine wp_region_held_drew (S:=(λy=>y.cell? (xD w.heap.size 0)=some (xE U c r)/\y.cell? (xD w.heap.size 1)=some (xP z)/\y.cell? (xD wr.heap.size 0)=some (.string s)/\y.cell? (xD wr.heap.size 1)=some (xI p))) (by kernel_rfl) ⟨zg cg,zg s1,zg eE,zg cR⟩ (λcB=>?_);refine wpAnyH_take (i:=0) (v:=.agg #[xE U c r,xP z]) rfl (by kernel_rfl) (by kernel_rfl) (by kernel_rfl) (λ_ _ _ h=>h) (ao ⟨by rfl,?_⟩) (by assumption) ?_
            . (intro w9 R;(try dsimp only at R);go_simp)
            try simp only[Act.put,aD]
            refine wpAnyH_take (i:=1) (v:=.agg #[.string s,xI p]) rfl (by kernel_rfl) (by kernel_rfl) (by kernel_rfl) (λ_ _ _ h=>h) (ao ⟨by rfl,?_⟩) (by assumption) ?_
            . (intro w9 R;(try dsimp only at R);go_simp)
            try simp only[Act.put,aD]
            refine wpAnyH_ready (rs:=[2]) (by kernel_rfl) (by simp) ?_;refine AllReadyH.cons rfl (λK hK=>?_) AllReadyH.nil;go_simp;go_at_call 98;refine a9.o.mono ?_;rintro e w1 ⟨rfl,b⟩;have a:=za (zw b);clear b;go_wp2_with fail;refine hK.out _ _ ⟨zd a.o cg sz,zd a.o s1 sz,zd a.o eE c0,zd a.o cR c0⟩ (λcB=>?_);clear hK K;try simp only[Act.put,aD]
            refine wpAnyH_take (i:=3) (v:=.bool true) rfl (by kernel_rfl) (by kernel_rfl) (by kernel_rfl) (λ_ _ _ h=>h) (ao ⟨by rfl,?_⟩) (by assumption) ?_
            . (intro w9 R;(try dsimp only at R);go_simp)
            try simp only[Act.put,aD]
            refine wpAnyH_take (i:=4) (v:=.bool true) rfl (by kernel_rfl) (by kernel_rfl) (by kernel_rfl) (λ_ _ _ h=>h) (ao ⟨by rfl,?_⟩) (by assumption) ?_
            . (intro w9 R;(try dsimp only at R);go_simp)
            try simp only[Act.put,aD]
            refine wpAnyH_take (i:=5) (v:=undef) rfl (by kernel_rfl) (by kernel_rfl) (by kernel_rfl) (λ_ _ _ h=>h) (ap ⟨by rfl,rfl⟩) (by assumption) ?_;try simp only[Act.put,aD]
            refine wpAnyH_take (i:=6) (v:=undef) rfl (by kernel_rfl) (by kernel_rfl) (by kernel_rfl) (λ_ _ _ h=>h) (ap ⟨by rfl,rfl⟩) (by assumption) ?_;try simp only[Act.put,aD]
            refine wpAnyH_take (i:=7) (v:=undef) rfl (by kernel_rfl) (by kernel_rfl) (by kernel_rfl) (λ_ _ _ h=>h) (ap ⟨by rfl,rfl⟩) (by assumption) ?_;try simp only[Act.put,aD]
            refine wpAnyH_take (i:=8) (v:=undef) rfl (by kernel_rfl) (by kernel_rfl) (by kernel_rfl) (λ_ _ _ h=>h) (ap ⟨by rfl,rfl⟩) (by assumption) ?_;try simp only[Act.put,aD]
            refine wpAnyH_take (i:=9) (v:=undef) rfl (by kernel_rfl) (by kernel_rfl) (by kernel_rfl) (λ_ _ _ h=>h) (ap ⟨by rfl,rfl⟩) (by assumption) ?_;try simp only[Act.put,aD]
            refine wpAnyH_take (i:=10) (v:=undef) rfl (by kernel_rfl) (by kernel_rfl) (by kernel_rfl) (λ_ _ _ h=>h) (ap ⟨by rfl,rfl⟩) (by assumption) ?_;try simp only[Act.put,aD]
            refine wpAnyH_take (i:=11) (v:=undef) rfl (by kernel_rfl) (by kernel_rfl) (by kernel_rfl) (λ_ _ _ h=>h) (ap ⟨by rfl,rfl⟩) (by assumption) ?_;try simp only[Act.put,aD]
            refine wpAnyH_take (i:=12) (v:=undef) rfl (by kernel_rfl) (by kernel_rfl) (by kernel_rfl) (λ_ _ _ h=>h) (ap ⟨by rfl,rfl⟩) (by assumption) ?_;try simp only[Act.put,aD]
            refine wpAnyH_take (i:=13) (v:=undef) rfl (by kernel_rfl) (by kernel_rfl) (by kernel_rfl) (λ_ _ _ h=>h) (ap ⟨by rfl,rfl⟩) (by assumption) ?_;try simp only[Act.put,aD]
            refine wpAnyH_take (i:=14) (v:=undef) rfl (by kernel_rfl) (by kernel_rfl) (by kernel_rfl) (λ_ _ _ h=>h) (ap ⟨by rfl,rfl⟩) (by assumption) ?_;try simp only[Act.put,aD]
            refine wpAnyH_take (i:=15) (v:=undef) rfl (by kernel_rfl) (by kernel_rfl) (by kernel_rfl) (λ_ _ _ h=>h) (ap ⟨by rfl,rfl⟩) (by assumption) ?_;try simp only[Act.put,aD]
            refine wpAnyH_take (i:=16) (v:=.bool true) rfl (by kernel_rfl) (by kernel_rfl) (by kernel_rfl) (λ_ _ _ h=>h) (ao ⟨by rfl,?_⟩) (by assumption) ?_
            . (intro w9 R;(try dsimp only at R);go_simp)
            try simp only[Act.put,aD]
            refine wpAnyH_done (by kernel_rfl) ?_ _
            all_goals
             have g0:=zd a.o q0 ce;have g1:=zd a.o cR c0;have l:=za (eg S Z lb t M u f _ p w1 (H.o.aq a.o).rp);go_wp2_with (go_at_call 117;refine l.o.mono ?_;rintro e w2 ⟨rfl,D,I⟩;have Q:=za D;have A:=za I;clear D I);go_roundg (gk-1);case measure=>omega
             refine⟨E+1,by omega,by omega,by go_num,?_,(bA.o.trans (zy a.o)).trans A.o⟩;rw[a3.o];exact (H.o.aq a.o).aX Q.o A.o
          | true =>
            have m:(c.nd.find s).isSome=true:=C;rw[m] at a9;by_cases b0:c.idx s<c.nd.ah
            . have dH:((c.idx s:Nat):Int)<(c.nd.ah:Int):=(by omega);have a3:aa ((z7 c (q.ns.take (E+1)) (q.ps.take (E+1))).foldl aj P=aj ((z7 c (q.ns.take E) (q.ps.take E)).foldl aj P) p):=(by unfold aa;rw[L,bc,C];simp[b0]);clear C m L b0;generalize c.idx s=gY at *
              go_region_held3 (λy=>y.cell? (xD w.heap.size 0)=some (xE U c r)/\y.cell? (xD w.heap.size 1)=some (xP z)/\y.cell? (xD wr.heap.size 0)=some (.string s)/\y.cell? (xD wr.heap.size 1)=some (xI p)/\y.cell? (xD z 3)=some (xI c.nd.ah))
               (first|(with_reducible (refine⟨?_,?_,?_,?_,?_⟩ <;> repeat (first|assumption|refine zg ?_|refine zj _ ?_|refine zk (by omega) ?_|refine zd a4.o ?_ (by first|omega|(rw[au];omega))|refine zd a.o ?_ (by first|omega|(rw[au];omega)))))|go_keep)
               (first
                 | (go_at_call 61;refine be.o.mono ?_;rintro e w2 ⟨rfl,bl⟩;have a4:=za bl;clear bl)
                 | (go_at_call 98;refine a9.o.mono ?_;rintro e w1 ⟨rfl,b⟩;have a:=za (zw b);(have em:b3.heap.size<=w1.heap.size:=b.size);have be:=za (c2.o w1 a.o);clear b))
              all_goals
               have V:=za (a.o.trans (a4.o.mono a.o.size));have g0:=zd V.o q0 ce;have g1:=zd V.o cR c0;have l:=za (eg S Z lb t M u f _ p w2 (H.o.aq V.o).rp);go_wp2_with (go_at_call 117;refine l.o.mono ?_;rintro e w4 ⟨rfl,D,I⟩;have Q:=za D;have A:=za I;clear D I);go_roundg (gk-1);case measure=>omega
               refine⟨E+1,by omega,by omega,by go_num,?_,(bA.o.trans (zy V.o)).trans A.o⟩;rw[a3.o];exact (H.o.aq V.o).aX Q.o A.o
            have dH:¬((c.idx s:Nat):Int)<(c.nd.ah:Int):=(by omega);have a3:aa ((z7 c (q.ns.take (E+1)) (q.ps.take (E+1))).foldl aj P=(z7 c (q.ns.take E) (q.ps.take E)).foldl aj P):=(by unfold aa;rw[L,bc,C];simp[b0]);clear C m L b0;generalize c.idx s=gY at *
            go_region_held3 (λy=>y.cell? (xD w.heap.size 0)=some (xE U c r)/\y.cell? (xD w.heap.size 1)=some (xP z)/\y.cell? (xD wr.heap.size 0)=some (.string s)/\y.cell? (xD wr.heap.size 1)=some (xI p)/\y.cell? (xD z 3)=some (xI c.nd.ah))
             (first|(with_reducible (refine⟨?_,?_,?_,?_,?_⟩ <;> repeat (first|assumption|refine zg ?_|refine zj _ ?_|refine zk (by omega) ?_|refine zd a4.o ?_ (by first|omega|(rw[au];omega))|refine zd a.o ?_ (by first|omega|(rw[au];omega)))))|go_keep)
             (first
               | (go_at_call 61;refine be.o.mono ?_;rintro e w2 ⟨rfl,bl⟩;have a4:=za bl;clear bl)
               | (go_at_call 98;refine a9.o.mono ?_;rintro e w1 ⟨rfl,b⟩;have a:=za (zw b);(have em:b3.heap.size<=w1.heap.size:=b.size);have be:=za (c2.o w1 a.o);clear b))
            all_goals
             have V:=za (a.o.trans (a4.o.mono a.o.size));go_wp2_with fail;go_roundg (gk-1);case measure=>omega
             refine⟨E+1,by omega,by omega,by go_num,?_,bA.o.trans (zy V.o)⟩;rw[a3.o];exact H.o.aq V.o
        have ek:E=q.ns.length:=(by omega);subst ek;rw[List.take_length,c4.o,List.take_length] at a0;go_wp2_with fail;go_roundg (eT-1);case measure=>omega
        refine⟨k+1,by omega,by omega,by go_num,?_,G.o.trans bE.o⟩;rw[c1.o];exact a0.o
     have ek:k=c.nd.eqs.length:=(by omega);subst ek;rw[List.take_length] at n;have hV:=HZ S Z lb t M u f N c h6 (xE U c r) (xP z) w.heap.size (w.heap.size+1) l1 l2;have eP:=za (rD hV z _ _ xs _ wr (B.o.am J) bL (λk e=>by have:=G.o.size;rcases e with e|e <;> omega) n.o);have gC:∀(fn:Go.Fn) (first bK:Xa) (w:Xw),(Instr.makeFunc fn first bK).run prog w=.ok (.func fn first bK) w:=λ_ _ _ _=>rfl;clear hV J q0 qf;go_wp2_with (go_at_call 99;refine eP.o.mono ?_;rintro e w1 ⟨rfl,dc,da⟩;have eN:=za dc;have eL:=za da;clear dc da);first|go_end0|refine ab (results_none rfl _ _ _) rfl ?_
     refine⟨rfl,?_,G.o.trans eL.o⟩;rw[cv.o];have:=eN.o.rp;simp only[xx] at this;exact this
end
section
open Go.RowKit
variable {a:List ay} {k:Nat} {n:ay}
attribute [local go_sem ↓] Go.wp_at_zero Go.wp_at_succ
def sp (S:Xs)(j lb g h:Nat)(d b:Xv)(N:Nat)(f:FuncId)(L:Sc->List Nat)(c:Sc):Prop :=
 ∀(i l:Xv) (m:Xo) (w:Xw),Fx S j lb g h d b m w->br w N c i l->N<=w.heap.size ->
  xK f #[.agg #[i,l],bT lb g h] w (λe o=>e=.returned (.tuple #[])/\Fx S j lb g h d b ((L c).foldl aj m) o/\Fr (RT lb g) w o)
def PP (a:List ay)(k:Nat):List Sc:=(List.range k).filterMap λi=>(a[i]?).map λn=>⟨a.take i,n⟩
theorem H0 (h:a[k]?=some n):PP a (k+1)=PP a k++[⟨a.take k,n⟩]:=by unfold PP;rw[List.range_succ,List.filterMap_append];simp[h]
theorem J8 (h:a[k]?=some n):(⟨a.take k,n⟩:Sc)∈kd a:=by unfold kd;rw[List.mem_filterMap];exact⟨k,List.mem_range.2 (aB.1 h).1,by rw[h];rfl⟩
theorem J1 (S:Xs)(B lb g y:Nat)(h b:Xv)(N:Nat)(f:FuncId)(v:zH f)(L:Sc->List Nat)(a:List ay)(V:∀c∈kd a,sp S B lb g y h b N f L c)(U:Xv)(m:Nat)(e:Xy)(z:Xo)(w:Xw)(X:Fx S B lb g y h b z w)(Q:PT w N a U)(hN:N<=w.heap.size)(l1:N<=lb)(l2:N<=g)(r:w.heap[m]?=some (.cells #[.func (.func f) #[] #[]] e (0,0)))(d1:¬m=lb)(d2:¬m=g) :
 xK 95 #[U,bT lb g y,xP m] w (λe C=>e=.returned (.tuple #[])/\Fx S B lb g y h b (((kd a).flatMap L).foldl aj z) C/\Fr (RT lb g) w C):=by
 have v:∀(l:Xa) (w:Xw),(callFunc f l).run prog w=.ok (.enter f l) w:=v;have W:=za Q;have u:=ze r;obtain⟨a4,a5,xs,rfl,aL,T,K⟩:=Q;have h6:=K.bO;obtain⟨x,a3,rfl,aA,a0,J⟩:=K.ne;obtain⟨p0,a9,bb⟩:=zu T;clear J K T;unfold bT;go_enter func95,ntmps95;go_wp2_with fail;go_loopg [11] (a.length+1) (λj i wr=>∃k:Nat,k+j=a.length+1/\k<=a.length/\i=xI k/\aa (Fx S B lb g y h b (((PP a k).flatMap L).foldl aj z) wr)/\aa (Fr (RT lb g) w wr));case atStart=>exact⟨0,by omega,aE _,rfl,X,Fr.refl _ _⟩
 case round =>
  obtain⟨k,aV,a6,rfl,O,p⟩:=hrel;clear p0;by_cases M:k<a.length
  . obtain⟨n,A⟩:∃n,a[k]?=some n:=⟨_,av M⟩;have P:=p.o.am hN (λk e=>by rcases e with e|e;exact e▸l1;exact e▸l2);have hz:=p.o.size;have t:N<=wr.heap.size:=by omega
    have F:=za (G1 k n wr.drew ((W.o.am P).am (λ_ _=>rfl)) t A);have o:=V _ (J8 A);unfold sp bT at o;have R:=H0 A;have Y:aa (((PP a (k+1)).flatMap L).foldl aj z=(L ⟨a.take k,n⟩).foldl aj (((PP a k).flatMap L).foldl aj z)):=(by unfold aa;rw[R,List.flatMap_append,bc];simp);obtain⟨G,a2,H⟩:=zu ((p.o.block m u (λe=>by rcases e with e|e <;> omega)).trans r);generalize hc:(⟨a.take k,n⟩:Sc)=c at *;clear R A P hc;go_wp2_with fail
    go_region_held3 (λC=>C.cell? (xD m 0)=some (.func (.func f) #[] #[]))
     (first
       | exact zg G
       | exact zd d.o G H
       | exact Z)
     (first
       | (refine (o _ _ _ w1 (O.o.aq d.o) E I).mono ?_;rintro e w2 ⟨rfl,D,q⟩;have Z:=(Z6 (q.block m (dD H d.o.size) (λe=>by rcases e with e|e <;> omega))).trans (zd d.o G H))
       | (go_at_call 26;refine F.o.mono ?_;rintro e w1 ⟨x1,ar,a1,rfl,E,s⟩;have d:=za (zw s);have I:=aJ t d.o.size;clear s))
    go_wp2_with fail;go_roundg (gk-1);case measure=>omega
    refine⟨k+1,by omega,by omega,by go_num,?_,(p.o.trans (zy d.o)).trans q⟩;rw[Y.o];exact D
  have ek:k=a.length:=by omega
  subst ek;go_wp2_with fail;first|go_end0|refine ab (results_none rfl _ _ _) rfl ?_
  exact⟨rfl,O.o,p.o⟩
end
section
open Go.RowKit
attribute [local go_sem ↓] Go.wp_at_zero Go.wp_at_succ
theorem Hz (f:FuncId)(w:Xw) :
 xK 41 #[.func (.func f) #[] #[]] w (λe c=>e=.returned (.func (.func 95) #[] #[xP w.heap.size])/\∃t,c=w.alloc (.cells #[.func (.func f) #[] #[]] t (0,0))):=by
 have b:∀(fn:Go.Fn) (first a:Xa) (w:Xw),(Instr.makeFunc fn first a).run prog w=.ok (.func fn first a) w:=λ_ _ _ _=>rfl;go_enter func41,ntmps41;go_wp2_with fail;go_ret;exact⟨rfl,_,rfl⟩
def Ls (S:Xs)(g lb c f:Nat)(b a:Xv)(F:FuncId)(d:Xa)(i:Xv)(l:Xn)(w:Xw):Prop :=
 Fx S g lb c f b a none w->xK F (#[i,bT lb c f]++d) w (λe h=>e=.returned (.tuple #[])/\Fx S g lb c f b a (l.foldl aj none) h/\Fr (RT lb c) w h)
theorem yu (S:Xs)(g:Nat)(n:Xb)(F:FuncId)(j:zH F)(a:Xa)(t:Nat)(l:Xn)(w:Xw)
 (u:∀W,xB w W->Ls S g (w.heap.size+1) (w.heap.size+1+1) w.heap.size (.string n) (.func (.func F) #[] a) F a (xP t) l W) :
 xK 48 #[.agg #[.string n,aW S g,.func (.func F) #[] a],xP t] w (λe q=>e=.returned (gI S g (zO l))/\xB w q):=by
 have j:∀(d:Xa) (w:Xw),(callFunc F d).run prog w=.ok (.enter F d) w:=j;have y:∀(fn:Go.Fn) (first a:Xa) (w:Xw),(Instr.makeFunc fn first a).run prog w=.ok (.func fn first a) w:=λ_ _ _ _=>rfl;have f:=mg w (.cells #[.string n,.iface 316 (.pointer (some (S g))),.func (.func F) #[] a] 131 (0,0)) (.cells #[.nilIface] 39 (0,0)) (.cells #[xI 0] 3 (0,0));have c:=iu w (.cells #[.string n,.iface 316 (.pointer (some (S g))),.func (.func F) #[] a] 131 (0,0)) (.cells #[.nilIface] 39 (0,0)) (.cells #[xI 0] 3 (0,0));have i:Fx S g (w.heap.size+1) (w.heap.size+1+1) w.heap.size (.string n) (.func (.func F) #[] a) none _:=⟨c.2.1,c.2.2,c.1,by omega,by omega,by omega⟩;have r:=u _ f i;unfold bT at r;have s:=za r;have b:=za f;clear u r f c i;unfold aW;go_enter func48,ntmps48;go_wp2_with fail;refine s.o.mono ?_;rintro e q ⟨rfl,v,hF⟩;have h:aa (xB w q):=⟨hF.os.trans b.o.os,hF.tape.trans b.o.tape,hF.output.trans b.o.output,aJ b.o.size hF.size,λk x=>(hF.block k (dD x b.o.size) (λe=>by rcases e with e|e <;> omega)).trans (b.o.block k x)⟩;obtain⟨m,z,A⟩:=zu v.l;clear v hF s b;change q.cell? _=some (gI S g (zO l)) at m;cases o:zO l with
 | none => rw[o] at m;unfold gI at m;go_wp2_with fail;go_ret;exact⟨by rw[o];rfl,h.o⟩
 | some p => rw[o] at m;unfold gI aW at m;go_wp2_with fail;go_ret;exact⟨by rw[o];rfl,h.o⟩
end
section
variable {c:Sc} {u:Tm} {g:Tm->Bool}
theorem HP:∀{a:List Tm},u∈cN g a->∃t∈a,u∈bh g t:=by
 intro a;induction a with
 | nil=>intro h;rw[cN] at h;cases h
 | cons x a e =>
   intro h;rw[cN] at h;rcases bj.1 h with h|h
   . exact⟨x,Mx,h⟩
   obtain⟨t,b,d⟩:=e h;exact⟨t,cS _ b,d⟩
theorem Wf.BP {t:Tm}(h:Wf t)(hu:u∈bh g t):Wf u:=by
 induction h generalizing u with
 | mk k a s i n j h e f =>
   rw[bh] at hu;rcases cC.1 hu with rfl|hu
   . exact Wf.mk k a s i n j h e
   split at hu
   . obtain⟨t,b,d⟩:=HP hu;exact f t b d
   cases hu
theorem HQ:∀{l:List Vr} {i:Nat},dQ c l i=[]->∀v∈l,ba v≠0->c.has v.ck=true:=by
 intro l;induction l with
 | nil=>intro i _ v hv;cases hv
 | cons x l e =>
   intro i h v hv b;rw[dQ,ec,ec] at h;rcases cC.1 hv with rfl|hv
   . have a:=h.1.2;cases d:c.has v.ck with
     | true=>rfl
     | false=>rw[d] at a;simp[b] at a
   exact e h.2 v hv b
theorem xM:∀{a:Xl} {b:Xn},a.length=b.length->z7 c a b=[]->∀s∈a,c.has s=true/\¬c.idx s<c.nd.ah:=by
 intro a;induction a with
 | nil=>intro b _ _ s hs;cases hs
 | cons x a j =>
   intro b e h s hs;cases b with
   | nil=>simp at e
   | cons p b =>
     rw[z7,ec] at h;rcases cC.1 hs with rfl|hs
     . have d:=h.1;constructor
       . cases f:c.has s with
         | true=>rfl
         | false=>rw[f] at d;simp at d
       intro i;rw[decide_eq_true i] at d;simp at d
     exact j (by simpa using e) h.2 s hs
theorem mw {α:Type}{f:α->List Nat}{l:List α}(h:l.flatMap f=[]):∀x∈l,f x=[]:=List.flatMap_eq_nil_iff.1 h
theorem Qd (j:eU c)(h:c.cG=[]):ka c:=by
 unfold Sc.cG at h;rw[ec,ec,ec] at h;obtain⟨⟨⟨_,t⟩,v⟩,w⟩:=h;have m:∀q∈c.nd.eqs,∀u∈bh b8 q.r,(NA u.k=true->c.has u.s=true)/\(u.k=4->∃d,c.called u.s=some d/\d.nd.ah=u.ts.length/\d.nd.aG=hp q u):=by
  intro q a u f;have e:=mw (mw w q a) u f;unfold fF at e;rw[ec] at e;refine⟨λz=>?_,λk=>?_⟩
  . cases y:c.has u.s with
    | true=>rfl
    | false=>have:=e.1;rw[y,z] at this;simp at this
  have l:=e.2;cases b:c.fits u (hp q u) with
  | false=>rw[b,k] at l;simp at l
  | true =>
    unfold Sc.fits at b;split at b
    . cases b
    rename_i d x
    simp only[Bool.and_eq_true,beq_iff_eq] at b;exact⟨d,x,b.1,b.2⟩
 refine⟨λq a u f=>?_,HQ t,λq a s A=>(xM (j.nd.eqs q a).1 (mw v q a) s A).1,λq a h=>?_⟩
 . obtain⟨n,o⟩:=m q a u f;exact⟨n,λk=>by obtain⟨d,i,p,_⟩:=o k;exact⟨d,i,p⟩,((j.nd.eqs q a).2.2.1.BP f).ar⟩
 obtain⟨d,i,_,r⟩:=(m q a q.r (nL _ _)).2 ((j.nd.eqs q a).2.2.2 h);refine⟨d,i,?_⟩;rw[r];unfold hp;rw[ag rfl]
end
section
open Go.RowKit
theorem Tryz.s5:(prog.info? 4).map (λi=>(i.zero,i.size,i.bytes))=some (some (.bool false),1,1):=by kernel_rfl
def cZ (l:Xk):List Value:=l.map .bool
theorem yg (n:Nat)(h:n<=3145728)(w:Xw):(Instr.makeSlice 57 (xI (n:Int)) (xI (n:Int))).run prog w=.ok (xS w.heap.size n n) (w.alloc (.cells (cZ (List.replicate n false)).toArray 4)):=by
 obtain⟨e,d,a,b,c⟩:=info_parts Tryz.s5;have:=run_make (P:=prog) w 57 4 e _ underlying57 d a .i64 .i64 (n:Int) (n:Int) (by omega) (by omega) (by rw[c];omega) (by omega);refine this.trans ?_;rw[b];simp only[Int.toNat_natCast,Nat.mul_one];refine congrArg (λx=>Result.ok (xS w.heap.size n n) (w.alloc (.cells x 4))) ?_;unfold madeCells;apply Array.ext
 . simp[cZ]
 intro j f g;simp[cZ,Value.cells,Nat.mod_one]
theorem j4 {w:Xw}{b k:Nat}{d:Xk}{e:Xy}{x:Bool}(h:w.heap[b]?=some (.cells (cZ d).toArray e (0,0)))(a:d[k]?=some x):w.cell? (xD b k)=some (.bool x):=by simp[World.cell?,h,cZ,a]
end
section
open Go.RowKit
variable {d:Xk} {N z t f m lb l:Nat} {S:Xs} {u:Xo} {c:Sc} {n x r y:Xv} {w A:Xw}
attribute [local go_sem ↓] Go.wp_at_zero Go.wp_at_succ
theorem HM (c:Sc)(a:Xn)(d:Xk):ee c [] a d=([],d):=by cases a <;> rfl
structure ho (S:Xs) (m lb f l:Nat) (r n:Xv) (N:Nat) (c:Sc) (x y:Xv) (z t:Nat) (d:Xk) (u:Xo) (w:Xw):Prop where
 rp:Fx S m lb f l r n u w
 sc:br w N c x y
 x1:w.heap[z]?=some (.cells #[x,y] 201 (0,0))
 x2:w.heap[t]?=some (.cells (cZ d).toArray 4 (0,0))
 d1:¬z=lb
 d2:¬z=f
 d3:¬t=lb
 d4:¬t=f
 d5:¬z=t
 d6:¬t=l
 l1:N<=lb
 l2:N<=f
 l3:N<=t
 hN:N<=w.heap.size
theorem ho.aq (h:ho S m lb f l r n N c x y z t d u w)(a:xB w A):ho S m lb f l r n N c x y z t d u A :=
 ⟨h.rp.aq a,h.sc.am (zm a h.hN),(a.block _ (ze h.x1)).trans h.x1,(a.block _ (ze h.x2)).trans h.x2,h.d1,h.d2,h.d3,h.d4,h.d5,h.d6,h.l1,h.l2,h.l3,aJ h.hN a.size⟩
theorem ho.aX {a:Xo}(h:ho S m lb f l r n N c x y z t d u w)(p:Fx S m lb f l r n a A)(b:Fr (RT lb f) w A):ho S m lb f l r n N c x y z t d a A:=by have g:=h.d1;have i:=h.d2;have j:=h.d3;have o:=h.d4;have q:=h.l1;have s:=h.l2;exact⟨p,h.sc.am (b.am h.hN (λk e=>by rcases e with e|e;exact e▸q;exact e▸s)),(b.block _ (ze h.x1) (λe=>by rcases e with e|e;exact g e;exact i e)).trans h.x1,(b.block _ (ze h.x2) (λe=>by rcases e with e|e;exact j e;exact o e)).trans h.x2,h.d1,h.d2,h.d3,h.d4,h.d5,h.d6,h.l1,h.l2,h.l3,aJ h.hN b.size⟩
theorem HU (d:Xk)(i:Nat)(b:Bool):(cZ d).toArray.setIfInBounds i (.bool b)=(cZ (d.set i b)).toArray:=by unfold cZ;rw[List.map_set];simp
theorem ho.put (h:ho S m lb f l r n N c x y z t d u w)(i:Nat)(b:Bool):ho S m lb f l r n N c x y z t (d.set i b) u (w.setCell (xD t i) (.bool b)):=by
 have j:=h.l3;have a:∀k,¬k=t->(w.setCell (xD t i) (.bool b)).heap[k]?=w.heap[k]?:=λk a=>Below.heap_setCell w _ _ k a;refine⟨⟨(a _ λe=>h.d3 e.symm).trans h.rp.l,(a _ λe=>h.d4 e.symm).trans h.rp.b,(a _ λe=>h.d6 e.symm).trans h.rp.s,h.rp.n1,h.rp.n2,h.rp.n3⟩,h.sc.am (λk g=>a k (by omega)),(a _ h.d5).trans h.x1,?_,h.d1,h.d2,h.d3,h.d4,h.d5,h.d6,h.l1,h.l2,h.l3,?_⟩
 . rw[zh _ _ _ _ h.x2,HU]
 have:=h.hN;simpa using this
theorem Ko {s:Xb}(h:c.has s=true):c.idx s<c.nd.ak.length:=by unfold Sc.has at h;unfold Sc.idx;obtain⟨j,a⟩:=Option.isSome_iff_exists.1 h;rw[a];have:=(kP a).2.1;simpa using this
theorem GX (S:Xs)(m lb f l:Nat)(r n:Xv)(N:Nat)(c:Sc)(hc:eU c)(dk:ka c)(x y:Xv)(u:Xo)(w:Xw)(hR:Fx S m lb f l r n u w)(h:br w N c x y)(hN:N<=w.heap.size)(l1:N<=lb)(l2:N<=f) :
 xK 45 #[.agg #[x,y],bT lb f l] w (λe A=>e=.returned (.tuple #[])/\Fx S m lb f l r n (c.fy.foldl aj u) A/\Fr (RT lb f) w A):=by
 obtain⟨a9,M,V,rfl,rfl,dl⟩:=h.shape;have du:=ze hR.l;have ds:=ze hR.b;have dw:=ze hR.s;have a2:∀o1 o2,((w.alloc o1).alloc o2).heap[w.heap.size]?=some o1/\((w.alloc o1).alloc o2).heap[w.heap.size+1]?=some o2:=λo1 o2=>mO w o1 o2
 have bq:ho S m lb f l r n N c (xE a9 c M) (xP V) w.heap.size (w.heap.size+1) (List.replicate c.nd.ak.length false) u ((w.alloc (.cells #[xE a9 c M,xP V] 201)).alloc (.cells (cZ (List.replicate c.nd.ak.length false)).toArray 4)) :=
  ⟨hR.aq (cT w _ _),h.am (j8 hN _ _),(a2 _ _).1,(a2 _ _).2,by omega,by omega,by omega,by omega,by omega,by omega,l1,l2,by omega,by simp;omega⟩
 have be:=za bq;obtain⟨dL,vs,eq,xs,c4,I⟩:=h.nd;cases c4;obtain⟨es,c3,rfl⟩:=zB I.bZ;obtain⟨er,cR,rfl⟩:=zB I.own;obtain⟨m0,m1,m2,m3,m4,m5,dz,dH⟩:=zt I.aC;have F:=za I;have cz:=I.bO;have c5:c.nd.eqs.length<=9223372036854775807:=by
  rcases I.own.2 with ⟨_,h⟩|⟨g,ch,ck,hv,_,_,h3,h4,_⟩
  . omega
  unfold maxLen at h4;omega
 have mk:=yg c.nd.ak.length (by omega);have aV:=za (zy (T:=RT lb f) (cT w (.cells #[xE a9 c M,xP V] 201) (.cells (cZ (List.replicate c.nd.ak.length false)).toArray 4)));have dq:V<w.heap.size:=by omega
 clear hR h a2 bq I;unfold bT;go_enter func45,ntmps45;go_wp2_with fail;go_loopg [27] (c.nd.eqs.length+1) (λj i wr=>∃(k:Nat) (d:Xk) (D:Xo),k+j=c.nd.eqs.length+1/\k<=c.nd.eqs.length/\i=xI k/\aa (ho S m lb f l r n N c (xE a9 c M) (xP V) w.heap.size (w.heap.size+1) d D wr)/\aa (d.length=c.nd.ak.length)/\aa ((fW c c.nd.eqs (List.replicate c.nd.ak.length false)).1.foldl aj u=(fW c (c.nd.eqs.drop k) d).1.foldl aj D/\(fW c c.nd.eqs (List.replicate c.nd.ak.length false)).2=(fW c (c.nd.eqs.drop k) d).2)/\aa (Fr (RT lb f) w wr));case atStart=>exact⟨0,_,u,by omega,aE _,rfl,be.o,List.length_replicate,⟨rfl,rfl⟩,aV.o⟩
 case round =>
  clear be aV m0 m1 m2 m3 m4 m5 dz dH mk;obtain⟨k,d,D,bE,cB,rfl,J,a1,X,Q⟩:=hrel;have hO:=Q.o.am hN (λk e=>by rcases e with e|e;exact e▸l1;exact e▸l2);by_cases aL:k<c.nd.eqs.length
  . obtain⟨b4,rfl⟩:∃b4,b4=wr:=⟨_,rfl⟩;obtain⟨cl,rfl⟩:∃g,g=gk:=⟨_,rfl⟩;obtain⟨q,b0⟩:∃q,c.nd.eqs[k]?=some q:=⟨_,av aL⟩;have a3:=F.o.am hO;obtain⟨g,lv,rv,rfl,c0,c1,c2,bx⟩:=lj a3.own a3.eqs b0 rfl;obtain⟨cK,_,_,rfl,_⟩:=bx.tt.ptr;obtain⟨cO,cv,rfl⟩:=zB bx.own;have cm:=F.o.ko g rfl;have HEq:=za bx;have a5:=aM b0;have bL:=(hc.nd.eqs q a5).1;have cg:=za bL;have cb:=za (dk.left q a5);have c9:=J.o.hN;have bv:fW c (c.nd.eqs.drop k) d=((ee c q.ns q.ps d).1++(fW c (c.nd.eqs.drop (k+1)) (ee c q.ns q.ps d).2).1,(fW c (c.nd.eqs.drop (k+1)) (ee c q.ns q.ps d).2).2):=by obtain⟨h1,h2⟩:=aB.1 b0;rw[dE h1,fW,h2]
    have ca:=za bv;have c6:q.ns.length<=9223372036854775807:=by
     rcases bx.own.2 with ⟨_,h⟩|⟨g,ch,ck,hv,_,_,h3,h4,_⟩
     . omega
     unfold maxLen at h4;omega
    have bl:=za (J.o.aq (zq b4 (.cells #[.slice cO q.ns.length cv,xI q.a,xP cK] 159)));have bo:=za (Q.o.alloc (.cells #[.slice cO q.ns.length cv,xI q.a,xP cK] 159));clear a3 bx b0 bL hO bv a5;go_wp2_with fail;go_loopg [34] (q.ns.length+1) (λj i wr=>∃(C:Nat) (d2:Xk) (B:Xo),C+j=q.ns.length+1/\C<=q.ns.length/\i=xI C/\aa (ho S m lb f l r n N c (xE a9 c M) (xP V) w.heap.size (w.heap.size+1) d2 B wr)/\aa (d2.length=c.nd.ak.length)/\aa ((ee c q.ns q.ps d).1.foldl aj D=(ee c (q.ns.drop C) (q.ps.drop C) d2).1.foldl aj B/\(ee c q.ns q.ps d).2=(ee c (q.ns.drop C) (q.ps.drop C) d2).2)/\aa (Fr (RT lb f) w wr));case atStart=>exact⟨0,d,D,by omega,aE _,rfl,bl.o,a1.o,⟨rfl,rfl⟩,bo.o⟩
    case round =>
     clear bl bo c0 c1 c2;obtain⟨C,d2,B,cE,di,rfl,G,K,Y,Z⟩:=hrel;by_cases bK:C<q.ns.length
     . obtain⟨s,b3⟩:∃s,q.ns[C]?=some s:=⟨_,av bK⟩;obtain⟨p,co⟩:∃p,q.ps[C]?=some p:=⟨_,av (by have:=cg.o;omega)⟩;have bA:=Z.o.am hN (λk e=>by rcases e with e|e;exact e▸l1;exact e▸l2);have bB:bV N b4 wr:=λb a6=>(bA b a6).trans ((Q.o.am hN (λk e=>by rcases e with e|e;exact e▸l1;exact e▸l2)) b a6).symm;obtain⟨gl,rfl,c0,c1⟩:=kG (HEq.o.am bB).own b3 co rfl;have cA:=HEq.o.lo gl rfl;have da:=G.o.hN;have cn:=cb.o s (aM b3);have dc:=Ko cn;obtain⟨b,a6⟩:∃b,d2[c.idx s]?=some b:=⟨_,av (by have:=K.o;omega)⟩;have bg:=za (hW s (p:Int) (wr.alloc (.cells #[.string s,xI p] 78)) (G.o.aq (zq wr _)).sc (G.o.aq (zq wr _)).hN);obtain⟨cs,s1,ct,sz⟩:=zp G.o.x1;have bt:ee c (q.ns.drop C) (q.ps.drop C) d2=((if b=true then [p] else [])++(ee c (q.ns.drop (C+1)) (q.ps.drop (C+1)) (d2.set (c.idx s) true)).1,(ee c (q.ns.drop (C+1)) (q.ps.drop (C+1)) (d2.set (c.idx s) true)).2):=(by obtain⟨h1,h2⟩:=aB.1 b3;obtain⟨h3,h4⟩:=aB.1 co;rw[dE h1,dE h3,ee,h2,h4];rw[show d2.getD (c.idx s) false=b by rw[List.getD_eq_getElem?_getD,a6];rfl]);have bY:aa ((ee c q.ns q.ps d).1.foldl aj D=(ee c (q.ns.drop (C+1)) (q.ps.drop (C+1)) (d2.set (c.idx s) true)).1.foldl aj ((if b=true then [p] else []).foldl aj B)/\(ee c q.ns q.ps d).2=(ee c (q.ns.drop (C+1)) (q.ps.drop (C+1)) (d2.set (c.idx s) true)).2):=(by have a:=Y.o;rw[bt,bc] at a;exact a);have i0:(0:Int)<=(c.idx s:Int):=(by omega);have i1:(c.idx s:Int)<(c.nd.ak.length:Int):=(by omega);have ce:=za a6;clear bA bB b3 co a6 bt Y;cases b with
       | false =>
         go_wp2_with (go_at_call 61;refine bg.o.mono ?_;rintro e w1 ⟨rfl,H⟩;have W:=za H;have E:=za (G.o.aq (zE H));have e0:=j4 E.o.x2 ce.o;have em:=lh E.o.x2 (c.idx s);have e3:=ze E.o.x2;clear H);go_roundg (gk-1);case measure=>omega
         exact⟨C+1,d2.set (c.idx s) true,B,by omega,by omega,by go_num,E.o.put _ _,by unfold aa;rw[List.length_set];exact K.o,bY.o,(Z.o.gA (zE W.o)).aO (by omega) _ _⟩
       | true =>
         go_wp2_with (first
          | (go_at_call 117;refine (eg S m lb f l r n B p _ E.o.rp).mono ?_;rintro e w2 ⟨rfl,U,O⟩;have aA:=za (E.o.aX U O);have ar:=za O;have f0:=j4 aA.o.x2 ce.o;have f2:=lh aA.o.x2 (c.idx s);have f3:=ze aA.o.x2;clear U O)
          | (go_at_call 61;refine bg.o.mono ?_;rintro e w1 ⟨rfl,H⟩;have W:=za H;have E:=za (G.o.aq (zE H));have e0:=j4 E.o.x2 ce.o;have e1:xC w1 wr.heap.size 1 (xI p):=zd W.o (zp (zc wr _)).2.1 (by simp);clear H))
         go_roundg (gk-1);case measure=>omega
         exact⟨C+1,d2.set (c.idx s) true,aj B p,by omega,by omega,by go_num,aA.o.put _ _,by unfold aa;rw[List.length_set];exact K.o,bY.o,((Z.o.gA (zE W.o)).trans ar.o).aO (by omega) _ _⟩
     have ek:C=q.ns.length:=(by omega);subst ek;rw[List.drop_length,HM] at Y;go_wp2_with fail;go_roundg (cl-1);case measure=>omega
     refine⟨k+1,d2,B,by omega,by omega,by go_num,G.o,K.o,?_,Z.o⟩;have a:=X.o;have b:=Y.o;rw[ca.o,b.2] at a;refine⟨a.1.trans ?_,a.2⟩;rw[bc,b.1];rfl
  have ek:k=c.nd.eqs.length:=by omega
  subst ek;rw[List.drop_length,fW] at X;obtain⟨R,bs⟩:=X.o;have bY:aa (c.fy.foldl aj u=(hk c.nd.ah d c.nd.ak 0).foldl aj D):=by unfold aa Sc.fy;simp only[bc];rw[R,bs];rfl
  clear X R bs;obtain⟨cs,s1,ct,sz⟩:=zp J.o.x1;obtain⟨n0,n1,n2,n3,n4,n5,nf,nz⟩:=zt ((hO V F.o.lo).trans F.o.aC);clear hO;go_wp2_with fail;go_loopg [62] (c.nd.ak.length+1) (λj i wr=>∃(k:Nat) (B:Xo),k+j=c.nd.ak.length+1/\k<=c.nd.ak.length/\i=xI k/\aa (ho S m lb f l r n N c (xE a9 c M) (xP V) w.heap.size (w.heap.size+1) d B wr)/\aa ((hk c.nd.ah d c.nd.ak 0).foldl aj D=(hk c.nd.ah d (c.nd.ak.drop k) k).foldl aj B)/\aa (Fr (RT lb f) w wr));case atStart=>exact⟨0,D,by omega,aE _,rfl,J.o,rfl,Q.o⟩
  case round =>
   clear J Q cs s1 ct sz n0 n1 n2 n3 n4 n5 nf nz bE cB aL;obtain⟨k,B,bE,cB,rfl,J,X,Q⟩:=hrel;have hO:=Q.o.am hN (λk e=>by rcases e with e|e;exact e▸l1;exact e▸l2);by_cases aL:k<c.nd.ak.length
   . obtain⟨v,hv⟩:∃v,c.nd.ak[k]?=some v:=⟨_,av aL⟩;obtain⟨g,rfl,c0,c1,c2,dV,dY,ea,eb⟩:=hj (F.o.am hO).bZ hv;have cm:=F.o.jc g rfl;obtain⟨bk,a4⟩:∃bk,d[k]?=some bk:=⟨_,av (by have:=a1.o;omega)⟩;have R:hk c.nd.ah d (c.nd.ak.drop k) k=(if (decide (c.nd.ah<=k)&&!bk)=true then [v.a] else [])++hk c.nd.ah d (c.nd.ak.drop (k+1)) (k+1):=(by obtain⟨h1,h2⟩:=aB.1 hv;rw[dE h1,hk,h2];rw[show d.getD k false=bk by rw[List.getD_eq_getElem?_getD,a4];rfl]);have L:aa ((hk c.nd.ah d c.nd.ak 0).foldl aj D=(hk c.nd.ah d (c.nd.ak.drop (k+1)) (k+1)).foldl aj ((if (decide (c.nd.ah<=k)&&!bk)=true then [v.a] else []).foldl aj B)):=(by unfold aa;rw[X.o,R,bc]);obtain⟨cs,s1,ct,sz⟩:=zp J.o.x1;obtain⟨n0,n1,n2,n3,n4,n5,nf,nz⟩:=zt ((hO V F.o.lo).trans F.o.aC);have dM:xC wr (w.heap.size+1) k (.bool bk):=j4 J.o.x2 a4;have dP:=ze J.o.x2;have dp:V<wr.heap.size:=(by omega);have bp:d.length=c.nd.ak.length:=a1.o;have i0:(0:Int)<=(k:Int):=(by omega);have i1:(k:Int)<(c.nd.ak.length:Int):=(by omega);have a0:=za (λo=>eg S m lb f l r n B v.a (wr.alloc o) (J.o.rp.aq (zq wr o)));clear R X hO bp a4 hv n0 n1 n2 n4 n5;by_cases P:c.nd.ah<=k
     . have bC:(c.nd.ah:Int)<=(k:Int):=(by omega);cases bk with
       | true =>
         simp only[P,decide_true,Bool.not_true,Bool.and_false] at L;clear P;go_wp2_with fail;go_roundg (gk-1);case measure=>omega
         exact⟨k+1,B,by omega,by omega,by go_num,J.o.aq (zq wr _),L.o,Q.o.alloc _⟩
       | false =>
         simp only[P,decide_true,Bool.not_false,Bool.and_true] at L;clear P;go_wp2_with (go_at_call 117;refine (a0.o _).mono ?_;rintro e w2 ⟨rfl,U,O⟩;have cd:=za U;have ar:=za O;clear U O);go_roundg (gk-1);case measure=>omega
         exact⟨k+1,aj B v.a,by omega,by omega,by go_num,(J.o.aq (zq wr _)).aX cd.o ar.o,L.o,(Q.o.alloc _).trans ar.o⟩
     have bC:¬(c.nd.ah:Int)<=(k:Int):=(by omega);simp only[P,decide_false,Bool.false_and] at L;clear P;go_wp2_with fail;go_roundg (gk-1);case measure=>omega
     exact⟨k+1,B,by omega,by omega,by go_num,J.o.aq (zq wr _),L.o,Q.o.alloc _⟩
   have ek:k=c.nd.ak.length:=(by omega);subst ek;rw[List.drop_length,hk] at X;clear hO;go_wp2_with fail;first|go_end0|refine ab (results_none rfl _ _ _) rfl ?_
   refine⟨rfl,?_,Q.o⟩;rw[bY.o,X.o];exact J.o.rp
end
end Go.Proofs.YtcnelakggnfnhaaGreatDoor
