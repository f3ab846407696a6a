/- Part 19 of the proof. -/
import Derived.Test.YtbicmofihhjgbaaGreatDoorK14
import Derived.Test.YtbicmofihhjgbaaGreatDoorK17
set_option maxRecDepth 100000
set_option maxHeartbeats 8000000
namespace Go.Proofs.YtbicmofihhjgbaaGreatDoor
open Go.Proofs.Tryz
section
open Go.RowKit
attribute [local go_sem ↓] Go.wp_at_zero Go.wp_at_succ
theorem G2 (c:Sc):∀(a b:List Vr) (i:Nat),dQ c (a++b) i=dQ c a i++dQ c b (i+a.length):=by
 intro a;induction a with
 | nil=>intro b i;rfl
 | cons v a d=>intro b i;rw[List.cons_append,dQ,dQ,d,bJ,show i+1+a.length=i+(a.length+1) by omega];simp only[bw]
theorem GW (c:Sc):∀(a d:Xl) (b e:Xn),a.length=b.length->z7 c (a++d) (b++e)=z7 c a b++z7 c d e:=by
 intro a;induction a with
 | nil=>intro d b e h;cases b with
   | nil=>rfl
   | cons _ _=>simp at h
 | cons s a f=>intro d b e h;cases b with
   | nil=>simp at h
   | cons p b=>rw[List.cons_append,List.cons_append,z7,z7,f _ _ _ (by simpa using h),bw]
theorem G5 {c:Sc}{a:Xl}{b:Xn}{k:Nat}{s:Xb}{p:Nat}(e:a[k]?=some s)(d:b[k]?=some p):z7 c (a.take (k+1)) (b.take (k+1))=z7 c (a.take k) (b.take k)++((if (!c.has s||decide (c.idx s<c.nd.ah))=true then [p] else [])++[]):=by have f:=(aB.1 e).1;have g:=(aB.1 d).1;rw[kN e,kN d,GW c _ _ _ _ (by simp;omega)];rfl
theorem Hl (S:Xs)(Z lb t M:Nat)(u f:Xv)(N:Nat)(c:Sc)(h6:c.er.length<=6)(dM:∀q∈c.nd.eqs,q.ns.length=q.ps.length)(ft nv:Xv)(st:Xo)(w:Xw)(hR:Fx S Z lb t M u f st w)(h:br w N c ft nv)(hN:N<=w.heap.size)(l1:N<=lb)(l2:N<=t) :
 xK 66 #[.agg #[ft,nv],bT lb t M] w (λe y=>e=.returned (.tuple #[])/\Fx S Z lb t M u f (c.cG.foldl aj st) y/\Fr (RT lb t) w y):=by
 obtain⟨U,r,z,rfl,rfl,gX⟩:=h.shape;have gZ:=ze hR.l;have gY:=ze hR.b;have cv:∀o1 o2,((w.alloc o1).alloc o2).heap[w.heap.size]?=some o1/\((w.alloc o1).alloc o2).heap[w.heap.size+1]?=some o2:=λo1 o2=>mO w o1 o2
 have c5:b5 S Z lb t M u f N c (xE U c r) (xP z) w.heap.size (w.heap.size+1) st ((w.alloc (.cells #[xE U c r,xP z] 216)).alloc (.cells #[bT lb t M] 214)) :=
  ⟨hR.aq (cT w _ _),h.am (j8 hN _ _),(cv _ _).1,(cv _ _).2,by omega,by omega,by omega,by omega,l1,l2,by simp;omega⟩
 have ck:=za c5;obtain⟨g6,hi,hh,xs,gt,a0⟩:=h.nd;cases gt;obtain⟨hu,gs,rfl⟩:=zB a0.bZ;obtain⟨hm,go,rfl⟩:=zB a0.own;have B:=za a0;have fu:=a0.bO;have eQ:=za dM;have gz:c.nd.eqs.length<=9223372036854775807:=by
  rcases a0.own.2 with ⟨_,h⟩|⟨g,bE,eX,hv,_,_,h3,h4,_⟩
  . omega
  unfold maxLen at h4;omega
 have ct:aa (c.cG.foldl aj st=((c.nd.eqs.flatMap λq=>(bh b8 q.r).flatMap (fF c q))).foldl aj ((c.nd.eqs.flatMap λq=>z7 c q.ns q.ps).foldl aj ((dQ c c.nd.ak 0).foldl aj ((if (c.called c.nd.nm).isSome=true then [c.nd.a] else []).foldl aj st)))):=by unfold aa Sc.cG;rw[bc,bc,bc]
 have a5:=za (zy (T:=RT lb t) (cT w (.cells #[xE U c r,xP z] 216) (.cells #[bT lb t M] 214)));clear hR h cv c5 a0 dM;unfold bT at ck a5 ⊢;go_enter func66,ntmps66;go_upto_block 0 with fail;refine zn (λW=>b5 S Z lb t M u f N c (xE U c r) (xP z) w.heap.size (w.heap.size+1) st W/\Fr (RT lb t) w W) ⟨ck.o,a5.o⟩ ?_;rintro W ⟨ar,cz⟩;have a9:=za ar;have a4:=za cz;obtain⟨ce,s1,cg,sz⟩:=zp ar.x1;obtain⟨p0,bt,cb⟩:=zu ar.x2;have di:=cz.am hN (λk e=>by rcases e with e|e;exact e▸l1;exact e▸l2);obtain⟨m0,m1,m2,m3,m4,m5,b1,cK⟩:=zt ((di z B.o.lo).trans B.o.aC);have cE:=ar.hN;have bl:=ar.sc.am (w':=W.drew) (λ_ _=>rfl);have bo:=λo=>ar.sc.am (w':=(W.alloc o).drew) (OJ cE o);clear ar cz di ck a5;go_cut [5] (λx wx=>x=.bool (c.called c.nd.nm).isSome/\aa (b5 S Z lb t M u f N c (xE U c r) (xP z) w.heap.size (w.heap.size+1) st wx)/\aa (Fr (RT lb t) w wx));case first =>
  cases F:c.called c.nd.nm with
  | none =>
    have cl:=za (o5 c.nd.nm (c.nd.a:Int) W.drew bl cE h6 F);have cm:=za (λo=>o5 c.nd.nm (c.nd.a:Int) (W.alloc o).drew (bo o) (by show N<=(W.alloc o).heap.size;simp;omega) h6 F);have Y:=za F;clear bl bo F m2 m3 m4 m5 b1 cg bt
    go_region_held3 (λy=>y.cell? (xD w.heap.size 0)=some (xE U c r)/\y.cell? (xD w.heap.size 1)=some (xP z)/\y.cell? (xD z 0)=some (.string c.nd.nm)/\y.cell? (xD z 1)=some (xI c.nd.a))
     (first|(with_reducible (refine⟨?_,?_,?_,?_⟩ <;> repeat (first|assumption|refine zg ?_|refine zj _ ?_|refine zk (by omega) ?_|refine zd a.o ?_ (by first|omega|(rw[au];omega)))))|go_keep)
     (first
       | (go_at_call 119;refine cl.o.mono ?_;rintro e w1 ⟨rfl,b⟩;have a:=za (zw b);clear b)
       | (go_at_call 119;refine (cm.o _).mono ?_;rintro e w1 ⟨rfl,b⟩;have a:=za (zw b);obtain⟨ex,cO,gd,cR⟩:=zp ((a.o.block W.heap.size (by rw[au];omega)).trans (zc W _));clear b))
    . go_wp2_with fail;go_meet;exact⟨by rw[Y.o];rfl,(a9.o.aq a.o).aq (zq _ _),(a4.o.trans (zy a.o)).alloc _⟩
    go_wp2_with fail;go_meet;exact⟨by rw[Y.o];rfl,a9.o.aq (zC (zC (zE a.o) (an _) _) (an _) _),a4.o.trans (zy (zC (zC (zE a.o) (an _) _) (an _) _))⟩
  | some d =>
    have cl:=za (ji c.nd.nm (c.nd.a:Int) W.drew bl cE h6 F);have cm:=za (λo=>ji c.nd.nm (c.nd.a:Int) (W.alloc o).drew (bo o) (by show N<=(W.alloc o).heap.size;simp;omega) h6 F);have Y:=za F;clear bl bo F m2 m3 m4 m5 b1 cg bt
    go_region_held3 (λy=>y.cell? (xD w.heap.size 0)=some (xE U c r)/\y.cell? (xD w.heap.size 1)=some (xP z)/\y.cell? (xD z 0)=some (.string c.nd.nm)/\y.cell? (xD z 1)=some (xI c.nd.a))
     (first|(with_reducible (refine⟨?_,?_,?_,?_⟩ <;> repeat (first|assumption|refine zg ?_|refine zj _ ?_|refine zk (by omega) ?_|refine zd a.o ?_ (by first|omega|(rw[au];omega)))))|go_keep)
     (first
       | (go_at_call 119;refine cl.o.mono ?_;rintro e w1 ⟨x2,eW,n2,rfl,e5,b⟩;have a:=za (zw b);clear b)
       | (go_at_call 119;refine (cm.o _).mono ?_;rintro e w1 ⟨x2,eW,n2,rfl,e5,b⟩;have a:=za (zw b);obtain⟨ex,cO,gd,cR⟩:=zp ((a.o.block W.heap.size (by rw[au];omega)).trans (zc W _));clear b))
    . go_wp2_with fail;go_meet;exact⟨by rw[Y.o];rfl,(a9.o.aq a.o).aq (zq _ _),(a4.o.trans (zy a.o)).alloc _⟩
    go_wp2_with fail;go_meet;exact⟨by rw[Y.o];rfl,a9.o.aq (zC (zC (zE a.o) (an _) _) (an _) _),a4.o.trans (zy (zC (zC (zE a.o) (an _) _) (an _) _))⟩
 case rest =>
  obtain⟨rfl,aL,bA⟩:=hcut;obtain⟨O,bp⟩:∃O,(if (c.called c.nd.nm).isSome=true then [c.nd.a] else []).foldl aj st=O:=⟨_,rfl⟩;have bg:=za bp;rw[bp] at ct;generalize e7:(c.called c.nd.nm).isSome=he at *;clear e7;clear bp bl bo ce s1 p0 bt m0 m1 m2 m3 m4 m5 b1 cK cg sz cb a9 a4;have dk:=bA.o.am hN (λk e=>by rcases e with e|e;exact e▸l1;exact e▸l2);obtain⟨ce,s1,cg,sz⟩:=zp aL.o.x1;obtain⟨p0,bt,cb⟩:=zu aL.o.x2;obtain⟨m0,m1,m2,m3,m4,m5,b1,cK⟩:=zt ((dk z B.o.lo).trans B.o.aC);unfold bT at p0;have fD:¬z=lb:=by omega
  have fC:¬z=t:=by omega
  have fS:¬w.heap.size=lb:=by omega
  have fP:¬w.heap.size=t:=by omega
  have fg:¬w.heap.size+1=lb:=by omega
  have fd:¬w.heap.size+1=t:=by omega
  clear dk;go_upto_if 26 with fail;go_cut [] (λwy=>aa (b5 S Z lb t M u f N c (xE U c r) (xP z) w.heap.size (w.heap.size+1) O wy)/\aa (Fr (RT lb t) w wy));case first =>
   cases he with
   | false => go_wp2_with fail;go_meet;rw[<- bg.o];exact⟨aL.o,bA.o⟩
   | true =>
     have l:=za (eg S Z lb t M u f st c.nd.a wc.drew (aL.o.rp.aq (zo (Below.refl _ _))));go_upto_region 3 with fail
     go_region_held3 (λy=>y.cell? (xD w.heap.size 1)=some (xP z)/\y.cell? (xD (w.heap.size+1) 0)=some (.func (.func 140) #[] #[xP lb,xP t,xP M])/\y.cell? (xD z 1)=some (xI c.nd.a))
      (first|(with_reducible (refine⟨?_,?_,?_⟩ <;> repeat (first|assumption|refine zg ?_|refine zS A.o ?_ (by omega) (by omega))))|go_keep)
      (first
        | (go_at_call 140;refine (l.o).mono ?_;rintro e w2 ⟨rfl,D,b3⟩;have Q:=za D;have A:=za b3.cQ;clear D b3))
     go_wp2_with fail;go_meet;rw[<- bg.o];exact⟨aL.o.aX Q.o A.o,bA.o.trans A.o⟩
  case rest =>
   obtain⟨cs,cn⟩:=hcut;clear bg ce s1 cg sz p0 bt cb m0 m1 m2 m3 m4 m5 b1 cK aL bA;have dl:=cn.o.am hN (λk e=>by rcases e with e|e;exact e▸l1;exact e▸l2);obtain⟨ce,s1,cg,sz⟩:=zp cs.o.x1;obtain⟨m0,m1,m2,m3,m4,m5,b1,cK⟩:=zt ((dl z B.o.lo).trans B.o.aC);clear dl;go_wp2_with fail;go_loopg [43] (c.nd.ak.length+1) (λj i wr=>∃k:Nat,k+j=c.nd.ak.length+1/\k<=c.nd.ak.length/\i=xI k/\aa (b5 S Z lb t M u f N c (xE U c r) (xP z) w.heap.size (w.heap.size+1) ((dQ c (c.nd.ak.take k) 0).foldl aj O) wr)/\aa (Fr (RT lb t) w wr));case atStart=>exact⟨0,by omega,aE _,rfl,cs.o,cn.o⟩
   case round =>
    clear cs cn ce s1 cg sz m0 m1 m2 m3 m4 m5 b1 cK;obtain⟨k,dH,fA,rfl,n,G⟩:=hrel;have J:=G.o.am hN (λk e=>by rcases e with e|e;exact e▸l1;exact e▸l2);obtain⟨p0,em,bt,cb⟩:=zp n.o.x1;obtain⟨q0,qf,cd⟩:=zu n.o.x2;unfold bT at q0;have bK:=n.o.hN;by_cases b0:k<c.nd.ak.length
    . obtain⟨v,hv⟩:∃v,c.nd.ak[k]?=some v:=⟨_,av b0⟩;obtain⟨g,rfl,er,es,eS,ge,gl,gm,gn⟩:=hj (B.o.am J).bZ hv;have e0:=B.o.jc g rfl;have L:dQ c (c.nd.ak.take (k+1)) 0=dQ c (c.nd.ak.take k) 0++((if (c.nd.find v.nm).getD 0<k then [v.a] else [])++(if (ba v != 0&&!c.has v.ck)=true then [v.ca] else [])++[]):=by
       rw[kN hv,G2];have:0+(c.nd.ak.take k).length=k:=by simp;omega
       rw[this];rfl
      have bB:=za (λo=>rK v.nm (wr.alloc o) ((B.o.am J).am (OJ bK o)));have dP:w.heap.size<wr.heap.size+1:=(by omega);have dY:w.heap.size+1<wr.heap.size+1:=(by omega);obtain⟨ff,du⟩:∃ff,c.nd.find v.nm=ff:=⟨_,rfl⟩;rw[du] at bB L;obtain⟨ab,bq⟩:∃ab,(if ff.getD 0<k then [v.a] else []).foldl aj ((dQ c (c.nd.ak.take k) 0).foldl aj O)=ab:=⟨_,rfl⟩;have a2:aa ((dQ c (c.nd.ak.take (k+1)) 0).foldl aj O=(if (ba v != 0&&!c.has v.ck)=true then [v.ca] else []).foldl aj ab):=(by unfold aa;rw[L,bc,bc,bc,bq];rfl);have aA:=za bq;have eE:∀W:Xw,xB wr W->True:=λ_ _=>trivial;clear L du bq J eE;unfold pF at bB;go_upto_if 60 with (go_at_call 120;refine (bB.o _).mono ?_;rintro e w1 ⟨rfl,b⟩;(have ds:=(b.block wr.heap.size (by simp)).trans (zc wr _));have bv:=za ds;have a:=za (zE b);clear b ds);go_cut [] (λwy=>aa (b5 S Z lb t M u f N c (xE U c r) (xP z) w.heap.size (w.heap.size+1) ab wy)/\aa (Fr (RT lb t) w wy)/\aa (xH wy wr.heap.size #[.string v.nm,xI v.a,xI (dv v:Nat),xI (ba v:Nat),xI v.on,.string v.ck,xI v.ca] 134));case first =>
       by_cases bL:ff.getD 0<k
       . have dw:((ff.getD 0:Nat):Int)<(k:Int):=(by omega);rw[ag bL] at aA;obtain⟨x0,x1,x2,x3,x4,x5,ga,hf,fl⟩:=eK bv.o;have g0:=zd a.o q0 cd;have l:=za (eg S Z lb t M u f _ v.a w1 (n.o.aq a.o).rp);clear bL;generalize ff.getD 0=gw at *;go_wp2_with (go_at_call 140;refine l.o.mono ?_;rintro e w2 ⟨rfl,D,I⟩;have Q:=za D;have A:=za I;clear D I);go_meet;rw[<- aA.o];exact⟨(n.o.aq a.o).aX Q.o A.o,(G.o.trans (zy a.o)).trans A.o,(A.o.block _ fl (λe=>by rcases e with e|e <;> omega)).trans bv.o⟩
       have dw:¬((ff.getD 0:Nat):Int)<(k:Int):=(by omega);rw[ae bL] at aA;clear bL;generalize ff.getD 0=gw at *;go_wp2_with fail;go_meet;rw[<- aA.o];exact⟨n.o.aq a.o,G.o.trans (zy a.o),bv.o⟩
      case rest =>
       obtain⟨X,co,eF⟩:=hcut;clear p0 em bt cb q0 qf cd er es eS ge gl gm gn bv a bB;obtain⟨p0,em,bt,cb⟩:=zp X.o.x1;obtain⟨q0,qf,cd⟩:=zu X.o.x2;unfold bT at q0;obtain⟨x0,x1,x2,x3,x4,x5,ga,hf,fl⟩:=eK eF.o;by_cases a1:ba v=0
       . have ea:((ba v:Int) != 0)=false:=(by simp[a1]);have be:aa ((dQ c (c.nd.ak.take (k+1)) 0).foldl aj O=ab):=(by unfold aa;rw[a2.o];simp[a1]);clear a1 a2 hv;generalize ba v=sg at *;go_wp2_with fail;go_roundg (gk-1);case measure=>omega
         refine⟨k+1,by omega,by omega,by go_num,?_,co.o⟩;rw[be.o];exact X.o
       have ea:((ba v:Int) != 0)=true:=(by simp;omega);have eq:=za (pv v.ck (v.ca:Int) wc X.o.sc X.o.hN);cases C:c.has v.ck with
       | true =>
         have m:(c.nd.find v.ck).isSome=true:=C;rw[m] at eq;have be:aa ((dQ c (c.nd.ak.take (k+1)) 0).foldl aj O=ab):=(by unfold aa;rw[a2.o,C];simp);clear a1 a2 hv C m;generalize ba v=sg at *;go_wp2_with (go_at_call 121;refine eq.o.mono ?_;rintro e w1 ⟨rfl,b⟩;have a:=za b;clear b);go_roundg (gk-1);case measure=>omega
         refine⟨k+1,by omega,by omega,by go_num,?_,co.o.trans (zy a.o)⟩;rw[be.o];exact X.o.aq a.o
       | false =>
         have m:(c.nd.find v.ck).isSome=false:=C;rw[m] at eq;have be:aa ((dQ c (c.nd.ak.take (k+1)) 0).foldl aj O=aj ab v.ca):=(by unfold aa;rw[a2.o,C];simp[a1]);clear a1 a2 hv C m;generalize ba v=sg at *
         go_wp2_with (first
          | (go_at_call 140;refine l.o.mono ?_;rintro e w2 ⟨rfl,D,I⟩;have Q:=za D;have A:=za I;clear D I)
          | (go_at_call 121;refine eq.o.mono ?_;rintro e w1 ⟨rfl,b⟩;have a:=za b;have g0:=zd a.o q0 cd;have hg:=zd a.o ga fl;have l:=za (eg S Z lb t M u f ab v.ca w1 (X.o.aq a.o).rp);clear b))
         go_roundg (gk-1);case measure=>omega
         refine⟨k+1,by omega,by omega,by go_num,?_,(co.o.trans (zy a.o)).trans A.o⟩;rw[be.o];exact (X.o.aq a.o).aX Q.o A.o
    have ek:k=c.nd.ak.length:=(by omega);subst ek;rw[List.take_length] at n;obtain⟨bs,b4⟩:∃bs,(dQ c c.nd.ak 0).foldl aj O=bs:=⟨_,rfl⟩;rw[b4] at n ct;obtain⟨n0,n1,n2,n3,n4,n5,nf,nz⟩:=zt ((J z B.o.lo).trans B.o.aC);clear b4 J q0 qf;go_wp2_with fail;go_loopg [92] (c.nd.eqs.length+1) (λj i wr=>∃k:Nat,k+j=c.nd.eqs.length+1/\k<=c.nd.eqs.length/\i=xI k/\aa (b5 S Z lb t M u f N c (xE U c r) (xP z) w.heap.size (w.heap.size+1) (((c.nd.eqs.take k).flatMap λq=>z7 c q.ns q.ps).foldl aj bs) wr)/\aa (Fr (RT lb t) w wr));case atStart=>exact⟨0,by omega,aE _,rfl,n.o,G.o⟩
    case round =>
     clear n G n0 n1 n2 n3 n4 n5 nf nz p0 em bt cb dH fA b0;obtain⟨k,dH,fA,rfl,n,G⟩:=hrel;have J:=G.o.am hN (λk e=>by rcases e with e|e;exact e▸l1;exact e▸l2);obtain⟨p0,em,bt,cb⟩:=zp n.o.x1;obtain⟨q0,qf,cd⟩:=zu n.o.x2;unfold bT at q0;have bK:=n.o.hN;by_cases b0:k<c.nd.eqs.length
     . obtain⟨ch,rfl⟩:∃ch,ch=wr:=⟨_,rfl⟩;obtain⟨eY,rfl⟩:∃g,g=gk:=⟨_,rfl⟩;obtain⟨q,ev⟩:∃q,c.nd.eqs[k]?=some q:=⟨_,av b0⟩;have cB:=B.o.am J;obtain⟨g,lv,rv,rfl,er,es,eS,c6⟩:=lj cB.own cB.eqs ev rfl;obtain⟨rb,_,_,rfl,_⟩:=c6.tt.ptr;obtain⟨gc,fr,rfl⟩:=zB c6.own;have e0:=B.o.ko g rfl;have HEq:=za c6;have dV:=eQ.o q (aM ev);have c3:=za dV;have c0:=za (xU (λq=>z7 c q.ns q.ps) ev bs);obtain⟨P,ca⟩:∃P,((c.nd.eqs.take k).flatMap λq=>z7 c q.ns q.ps).foldl aj bs=P:=⟨_,rfl⟩;rw[ca] at c0 n;have gC:q.ns.length<=9223372036854775807:=by
        rcases c6.own.2 with ⟨_,h⟩|⟨g,bE,eX,hv,_,_,h3,h4,_⟩
        . omega
        unfold maxLen at h4;omega
       have dP:w.heap.size<ch.heap.size+1:=(by omega);have dY:w.heap.size+1<ch.heap.size+1:=(by omega);have c4:=za (zy (T:=RT lb t) (zq ch (.cells #[.slice gc q.ns.length fr,xI q.a,xP rb] 184)));have c2:=za (n.o.aq (zq ch (.cells #[.slice gc q.ns.length fr,xI q.a,xP rb] 184)));clear cB c6 ev ca dV J;go_wp2_with fail;go_loopg [99] (q.ns.length+1) (λj i wr=>∃E:Nat,E+j=q.ns.length+1/\E<=q.ns.length/\i=xI E/\aa (b5 S Z lb t M u f N c (xE U c r) (xP z) w.heap.size (w.heap.size+1) ((z7 c (q.ns.take E) (q.ps.take E)).foldl aj P) wr)/\aa (Fr (RT lb t) ch wr));case atStart=>exact⟨0,by omega,aE _,rfl,c2.o,c4.o⟩
       case round =>
        clear c2 c4 er es eS q0 qf p0 em;obtain⟨E,fB,gV,rfl,aV,bC⟩:=hrel;obtain⟨fh,fj,g7,g8⟩:=zp aV.o.x1;obtain⟨fk,g9,hc⟩:=zu aV.o.x2;have gU:=aV.o.hN;have g2:=bC.o.size;by_cases dL:E<q.ns.length
        . obtain⟨s,e3⟩:∃s,q.ns[E]?=some s:=⟨_,av dL⟩;obtain⟨p,e1⟩:∃p,q.ps[E]?=some p:=⟨_,av (by have:=c3.o;omega)⟩;have dp:=bC.o.am bK (λk e=>by rcases e with e|e;exact e▸l1;exact e▸l2);obtain⟨gx,rfl,er,es⟩:=kG (HEq.o.am dp).own e3 e1 rfl;have fz:=HEq.o.lo gx rfl;have L:=G5 (c:=c) e3 e1;have g4:(0:Int)<=(E:Int):=(by omega);have g5:(E:Int)<(q.ns.length:Int):=(by omega);clear dp e3 e1;go_upto_region 19 with fail;refine zn (λb2=>aa (b5 S Z lb t M u f N c (xE U c r) (xP z) w.heap.size (w.heap.size+1) ((z7 c (q.ns.take E) (q.ps.take E)).foldl aj P) b2)/\aa (Fr (RT lb t) ch b2)/\xH b2 wr.heap.size #[.string s,xI p] 117) ⟨aV.o.aq (zq wr _),bC.o.alloc _,zc wr _⟩ ?_;rintro b2 ⟨H,bx,dq⟩;obtain⟨ce,s1,cg,sz⟩:=zp H.o.x1;obtain⟨q0,qf,cd⟩:=zu H.o.x2;unfold bT at q0;obtain⟨ex,cO,gd,cR⟩:=zp dq;have dc:=(G.o.trans bx.o).am hN (λk e=>by rcases e with e|e;exact e▸l1;exact e▸l2);obtain⟨m0,m1,m2,m3,m4,m5,b1,cK⟩:=zt ((dc z B.o.lo).trans B.o.aC);have eZ:=H.o.hN;have a6:=za (pv s (p:Int) b2.drew (H.o.sc.am (λ_ _=>rfl)) eZ);have c1:=za (λW (hB:xB b2 W)=>hW s (p:Int) W (H.o.aq hB).sc (H.o.aq hB).hN);clear dq dc fh fj fk m0 m1 m2 m4 m5 b1;cases C:c.has s with
          | false =>
            have m:(c.nd.find s).isSome=false:=C;rw[m] at a6;have a2:aa ((z7 c (q.ns.take (E+1)) (q.ps.take (E+1))).foldl aj P=aj ((z7 c (q.ns.take E) (q.ps.take E)).foldl aj P) p):=(by unfold aa;rw[L,bc,C];rfl);clear C m L;refine wp_region_held_drew (S:=(λy=>y.cell? (xD w.heap.size 0)=some (xE U c r)/\y.cell? (xD w.heap.size 1)=some (xP z)/\y.cell? (xD wr.heap.size 0)=some (.string s)/\y.cell? (xD wr.heap.size 1)=some (xI p))) (by kernel_rfl) ⟨zg ce,zg s1,zg ex,zg cO⟩ (λcA=>?_);refine wpAnyH_take (i:=0) (v:=.agg #[xE U c r,xP z]) rfl (by kernel_rfl) (by kernel_rfl) (by kernel_rfl) (λ_ _ _ h=>h) (ao ⟨by rfl,?_⟩) (by assumption) ?_
            . (intro w9 R;(try dsimp only at R);go_simp)
            try simp only[Act.put,aD]
            refine wpAnyH_take (i:=1) (v:=.agg #[.string s,xI p]) rfl (by kernel_rfl) (by kernel_rfl) (by kernel_rfl) (λ_ _ _ h=>h) (ao ⟨by rfl,?_⟩) (by assumption) ?_
            . (intro w9 R;(try dsimp only at R);go_simp)
            try simp only[Act.put,aD]
            refine wpAnyH_ready (rs:=[2]) (by kernel_rfl) (by simp) ?_;refine AllReadyH.cons rfl (λK hK=>?_) AllReadyH.nil;go_simp;go_at_call 121;refine a6.o.mono ?_;rintro e w1 ⟨rfl,b⟩;have a:=za (zw b);clear b;go_wp2_with fail;refine hK.out _ _ ⟨zd a.o ce sz,zd a.o s1 sz,zd a.o ex cR,zd a.o cO cR⟩ (λcA=>?_);clear hK K;try simp only[Act.put,aD]
            refine wpAnyH_take (i:=3) (v:=.bool true) rfl (by kernel_rfl) (by kernel_rfl) (by kernel_rfl) (λ_ _ _ h=>h) (ao ⟨by rfl,?_⟩) (by assumption) ?_
            . (intro w9 R;(try dsimp only at R);go_simp)
            try simp only[Act.put,aD]
            refine wpAnyH_take (i:=4) (v:=.bool true) rfl (by kernel_rfl) (by kernel_rfl) (by kernel_rfl) (λ_ _ _ h=>h) (ao ⟨by rfl,?_⟩) (by assumption) ?_
            . (intro w9 R;(try dsimp only at R);go_simp)
            try simp only[Act.put,aD]
            refine wpAnyH_take (i:=5) (v:=undef) rfl (by kernel_rfl) (by kernel_rfl) (by kernel_rfl) (λ_ _ _ h=>h) (ap ⟨by rfl,rfl⟩) (by assumption) ?_;try simp only[Act.put,aD]
            refine wpAnyH_take (i:=6) (v:=undef) rfl (by kernel_rfl) (by kernel_rfl) (by kernel_rfl) (λ_ _ _ h=>h) (ap ⟨by rfl,rfl⟩) (by assumption) ?_;try simp only[Act.put,aD]
            refine wpAnyH_take (i:=7) (v:=undef) rfl (by kernel_rfl) (by kernel_rfl) (by kernel_rfl) (λ_ _ _ h=>h) (ap ⟨by rfl,rfl⟩) (by assumption) ?_;try simp only[Act.put,aD]
            refine wpAnyH_take (i:=8) (v:=undef) rfl (by kernel_rfl) (by kernel_rfl) (by kernel_rfl) (λ_ _ _ h=>h) (ap ⟨by rfl,rfl⟩) (by assumption) ?_;try simp only[Act.put,aD]
            refine wpAnyH_take (i:=9) (v:=undef) rfl (by kernel_rfl) (by kernel_rfl) (by kernel_rfl) (λ_ _ _ h=>h) (ap ⟨by rfl,rfl⟩) (by assumption) ?_;try simp only[Act.put,aD]
            refine wpAnyH_take (i:=10) (v:=undef) rfl (by kernel_rfl) (by kernel_rfl) (by kernel_rfl) (λ_ _ _ h=>h) (ap ⟨by rfl,rfl⟩) (by assumption) ?_;try simp only[Act.put,aD]
            refine wpAnyH_take (i:=11) (v:=undef) rfl (by kernel_rfl) (by kernel_rfl) (by kernel_rfl) (λ_ _ _ h=>h) (ap ⟨by rfl,rfl⟩) (by assumption) ?_;try simp only[Act.put,aD]
            refine wpAnyH_take (i:=12) (v:=undef) rfl (by kernel_rfl) (by kernel_rfl) (by kernel_rfl) (λ_ _ _ h=>h) (ap ⟨by rfl,rfl⟩) (by assumption) ?_;try simp only[Act.put,aD]
            refine wpAnyH_take (i:=13) (v:=undef) rfl (by kernel_rfl) (by kernel_rfl) (by kernel_rfl) (λ_ _ _ h=>h) (ap ⟨by rfl,rfl⟩) (by assumption) ?_;try simp only[Act.put,aD]
            refine wpAnyH_take (i:=14) (v:=undef) rfl (by kernel_rfl) (by kernel_rfl) (by kernel_rfl) (λ_ _ _ h=>h) (ap ⟨by rfl,rfl⟩) (by assumption) ?_;try simp only[Act.put,aD]
            refine wpAnyH_take (i:=15) (v:=undef) rfl (by kernel_rfl) (by kernel_rfl) (by kernel_rfl) (λ_ _ _ h=>h) (ap ⟨by rfl,rfl⟩) (by assumption) ?_;try simp only[Act.put,aD]
            refine wpAnyH_take (i:=16) (v:=.bool true) rfl (by kernel_rfl) (by kernel_rfl) (by kernel_rfl) (λ_ _ _ h=>h) (ao ⟨by rfl,?_⟩) (by assumption) ?_
            . (intro w9 R;(try dsimp only at R);go_simp)
            try simp only[Act.put,aD]
            refine wpAnyH_done (by kernel_rfl) ?_ _
            all_goals
             have g0:=zd a.o q0 cd;have g1:=zd a.o cO cR;have l:=za (eg S Z lb t M u f _ p w1 (H.o.aq a.o).rp);go_wp2_with (go_at_call 140;refine l.o.mono ?_;rintro e w2 ⟨rfl,D,I⟩;have Q:=za D;have A:=za I;clear D I);go_roundg (gk-1);case measure=>omega
             refine⟨E+1,by omega,by omega,by go_num,?_,(bx.o.trans (zy a.o)).trans A.o⟩;rw[a2.o];exact (H.o.aq a.o).aX Q.o A.o
          | true =>
            have m:(c.nd.find s).isSome=true:=C;rw[m] at a6;by_cases bY:c.idx s<c.nd.ah
            . have dz:((c.idx s:Nat):Int)<(c.nd.ah:Int):=(by omega);have a2:aa ((z7 c (q.ns.take (E+1)) (q.ps.take (E+1))).foldl aj P=aj ((z7 c (q.ns.take E) (q.ps.take E)).foldl aj P) p):=(by unfold aa;rw[L,bc,C];simp[bY]);clear C m L bY;generalize c.idx s=g3 at *
              go_region_held3 (λy=>y.cell? (xD w.heap.size 0)=some (xE U c r)/\y.cell? (xD w.heap.size 1)=some (xP z)/\y.cell? (xD wr.heap.size 0)=some (.string s)/\y.cell? (xD wr.heap.size 1)=some (xI p)/\y.cell? (xD z 3)=some (xI c.nd.ah))
               (first|(with_reducible (refine⟨?_,?_,?_,?_,?_⟩ <;> repeat (first|assumption|refine zg ?_|refine zj _ ?_|refine zk (by omega) ?_|refine zd a3.o ?_ (by first|omega|(rw[au];omega))|refine zd a.o ?_ (by first|omega|(rw[au];omega)))))|go_keep)
               (first
                 | (go_at_call 105;refine bb.o.mono ?_;rintro e w2 ⟨rfl,bk⟩;have a3:=za bk;clear bk)
                 | (go_at_call 121;refine a6.o.mono ?_;rintro e w1 ⟨rfl,b⟩;have a:=za (zw b);(have eb:b2.heap.size<=w1.heap.size:=b.size);have bb:=za (c1.o w1 a.o);clear b))
              all_goals
               have V:=za (a.o.trans (a3.o.mono a.o.size));have g0:=zd V.o q0 cd;have g1:=zd V.o cO cR;have l:=za (eg S Z lb t M u f _ p w2 (H.o.aq V.o).rp);go_wp2_with (go_at_call 140;refine l.o.mono ?_;rintro e w4 ⟨rfl,D,I⟩;have Q:=za D;have A:=za I;clear D I);go_roundg (gk-1);case measure=>omega
               refine⟨E+1,by omega,by omega,by go_num,?_,(bx.o.trans (zy V.o)).trans A.o⟩;rw[a2.o];exact (H.o.aq V.o).aX Q.o A.o
            have dz:¬((c.idx s:Nat):Int)<(c.nd.ah:Int):=(by omega);have a2:aa ((z7 c (q.ns.take (E+1)) (q.ps.take (E+1))).foldl aj P=(z7 c (q.ns.take E) (q.ps.take E)).foldl aj P):=(by unfold aa;rw[L,bc,C];simp[bY]);clear C m L bY;generalize c.idx s=g3 at *
            go_region_held3 (λy=>y.cell? (xD w.heap.size 0)=some (xE U c r)/\y.cell? (xD w.heap.size 1)=some (xP z)/\y.cell? (xD wr.heap.size 0)=some (.string s)/\y.cell? (xD wr.heap.size 1)=some (xI p)/\y.cell? (xD z 3)=some (xI c.nd.ah))
             (first|(with_reducible (refine⟨?_,?_,?_,?_,?_⟩ <;> repeat (first|assumption|refine zg ?_|refine zj _ ?_|refine zk (by omega) ?_|refine zd a3.o ?_ (by first|omega|(rw[au];omega))|refine zd a.o ?_ (by first|omega|(rw[au];omega)))))|go_keep)
             (first
               | (go_at_call 105;refine bb.o.mono ?_;rintro e w2 ⟨rfl,bk⟩;have a3:=za bk;clear bk)
               | (go_at_call 121;refine a6.o.mono ?_;rintro e w1 ⟨rfl,b⟩;have a:=za (zw b);(have eb:b2.heap.size<=w1.heap.size:=b.size);have bb:=za (c1.o w1 a.o);clear b))
            all_goals
             have V:=za (a.o.trans (a3.o.mono a.o.size));go_wp2_with fail;go_roundg (gk-1);case measure=>omega
             refine⟨E+1,by omega,by omega,by go_num,?_,bx.o.trans (zy V.o)⟩;rw[a2.o];exact H.o.aq V.o
        have ek:E=q.ns.length:=(by omega);subst ek;rw[List.take_length,c3.o,List.take_length] at aV;go_wp2_with fail;go_roundg (eY-1);case measure=>omega
        refine⟨k+1,by omega,by omega,by go_num,?_,G.o.trans bC.o⟩;rw[c0.o];exact aV.o
     have ek:k=c.nd.eqs.length:=(by omega);subst ek;rw[List.take_length] at n;have hV:=HZ S Z lb t M u f N c h6 (xE U c r) (xP z) w.heap.size (w.heap.size+1) l1 l2;have eR:=za (rD hV z _ _ xs _ wr (B.o.am J) bK (λk e=>by have:=G.o.size;rcases e with e|e <;> omega) n.o);have gW:∀(fn:Go.Fn) (first bE:Xa) (w:Xw),(Instr.makeFunc fn first bE).run prog w=.ok (.func fn first bE) w:=λ_ _ _ _=>rfl;clear hV J q0 qf;go_wp2_with (go_at_call 122;refine eR.o.mono ?_;rintro e w1 ⟨rfl,da,c9⟩;have eN:=za da;have eG:=za c9;clear da c9);first|go_end0|refine bodyPost_ret (results_none rfl _ _ _) rfl ?_
     refine⟨rfl,?_,G.o.trans eG.o⟩;rw[ct.o];have:=eN.o.rp;simp only[xx] at this;exact this
end
section
open Go.RowKit
variable {a:List ay} {k:Nat} {n:ay}
attribute [local go_sem ↓] Go.wp_at_zero Go.wp_at_succ
def sp (S:Xs)(j lb g h:Nat)(d b:Xv)(N:Nat)(f:FuncId)(L:Sc->List Nat)(c:Sc):Prop :=
 ∀(i l:Xv) (m:Xo) (w:Xw),Fx S j lb g h d b m w->br w N c i l->N<=w.heap.size ->
  xK f #[.agg #[i,l],bT lb g h] w (λe o=>e=.returned (.tuple #[])/\Fx S j lb g h d b ((L c).foldl aj m) o/\Fr (RT lb g) w o)
def PP (a:List ay)(k:Nat):List Sc:=(List.range k).filterMap λi=>(a[i]?).map λn=>⟨a.take i,n⟩
theorem H0 (h:a[k]?=some n):PP a (k+1)=PP a k++[⟨a.take k,n⟩]:=by unfold PP;rw[List.range_succ,List.filterMap_append];simp[h]
theorem J8 (h:a[k]?=some n):(⟨a.take k,n⟩:Sc)∈kd a:=by unfold kd;rw[List.mem_filterMap];exact⟨k,List.mem_range.2 (aB.1 h).1,by rw[h];rfl⟩
theorem J1 (S:Xs)(B lb g y:Nat)(h b:Xv)(N:Nat)(f:FuncId)(v:zH f)(L:Sc->List Nat)(a:List ay)(V:∀c∈kd a,sp S B lb g y h b N f L c)(U:Xv)(m:Nat)(e:Xy)(z:Xo)(w:Xw)(X:Fx S B lb g y h b z w)(Q:PT w N a U)(hN:N<=w.heap.size)(l1:N<=lb)(l2:N<=g)(r:w.heap[m]?=some (.cells #[.func (.func f) #[] #[]] e (0,0)))(d1:¬m=lb)(d2:¬m=g) :
 xK 118 #[U,bT lb g y,xP m] w (λe C=>e=.returned (.tuple #[])/\Fx S B lb g y h b (((kd a).flatMap L).foldl aj z) C/\Fr (RT lb g) w C):=by
 have v:∀(l:Xa) (w:Xw),(callFunc f l).run prog w=.ok (.enter f l) w:=v;have W:=za Q;have u:=ze r;obtain⟨a3,a4,xs,rfl,aA,T,K⟩:=Q;have h6:=K.bO;obtain⟨x,a2,rfl,ar,aV,J⟩:=K.ne;obtain⟨p0,a6,a9⟩:=zu T;clear J K T;unfold bT;go_enter func118,ntmps118;go_wp2_with fail;go_loopg [11] (a.length+1) (λj i wr=>∃k:Nat,k+j=a.length+1/\k<=a.length/\i=xI k/\aa (Fx S B lb g y h b (((PP a k).flatMap L).foldl aj z) wr)/\aa (Fr (RT lb g) w wr));case atStart=>exact⟨0,by omega,aE _,rfl,X,Fr.refl _ _⟩
 case round =>
  obtain⟨k,aL,a5,rfl,O,p⟩:=hrel;clear p0;by_cases M:k<a.length
  . obtain⟨n,A⟩:∃n,a[k]?=some n:=⟨_,av M⟩;have P:=p.o.am hN (λk e=>by rcases e with e|e;exact e▸l1;exact e▸l2);have hz:=p.o.size;have t:N<=wr.heap.size:=by omega
    have F:=za (G1 k n wr.drew ((W.o.am P).am (λ_ _=>rfl)) t A);have o:=V _ (J8 A);unfold sp bT at o;have R:=H0 A;have Y:aa (((PP a (k+1)).flatMap L).foldl aj z=(L ⟨a.take k,n⟩).foldl aj (((PP a k).flatMap L).foldl aj z)):=(by unfold aa;rw[R,List.flatMap_append,bc];simp);obtain⟨G,a1,H⟩:=zu ((p.o.block m u (λe=>by rcases e with e|e <;> omega)).trans r);generalize hc:(⟨a.take k,n⟩:Sc)=c at *;clear R A P hc;go_wp2_with fail
    go_region_held3 (λC=>C.cell? (xD m 0)=some (.func (.func f) #[] #[]))
     (first
       | exact zg G
       | exact zd d.o G H
       | exact Z)
     (first
       | (refine (o _ _ _ w1 (O.o.aq d.o) E I).mono ?_;rintro e w2 ⟨rfl,D,q⟩;have Z:=(World.cell?_of_block (q.block m (dD H d.o.size) (λe=>by rcases e with e|e <;> omega))).trans (zd d.o G H))
       | (go_at_call 55;refine F.o.mono ?_;rintro e w1 ⟨x1,ab,a0,rfl,E,s⟩;have d:=za (zw s);have I:=aJ t d.o.size;clear s))
    go_wp2_with fail;go_roundg (gk-1);case measure=>omega
    refine⟨k+1,by omega,by omega,by go_num,?_,(p.o.trans (zy d.o)).trans q⟩;rw[Y.o];exact D
  have ek:k=a.length:=by omega
  subst ek;go_wp2_with fail;first|go_end0|refine bodyPost_ret (results_none rfl _ _ _) rfl ?_
  exact⟨rfl,O.o,p.o⟩
end
section
open Go.RowKit
attribute [local go_sem ↓] Go.wp_at_zero Go.wp_at_succ
theorem Hz (f:FuncId)(w:Xw) :
 xK 65 #[.func (.func f) #[] #[]] w (λe c=>e=.returned (.func (.func 118) #[] #[xP w.heap.size])/\∃t,c=w.alloc (.cells #[.func (.func f) #[] #[]] t (0,0))):=by
 have b:∀(fn:Go.Fn) (first a:Xa) (w:Xw),(Instr.makeFunc fn first a).run prog w=.ok (.func fn first a) w:=λ_ _ _ _=>rfl;go_enter func65,ntmps65;go_wp2_with fail;go_ret;exact⟨rfl,_,rfl⟩
def Ls (S:Xs)(g lb c f:Nat)(b a:Xv)(F:FuncId)(d:Xa)(i:Xv)(l:Xn)(w:Xw):Prop :=
 Fx S g lb c f b a none w->xK F (#[i,bT lb c f]++d) w (λe h=>e=.returned (.tuple #[])/\Fx S g lb c f b a (l.foldl aj none) h/\Fr (RT lb c) w h)
theorem yu (S:Xs)(g:Nat)(n:Xb)(F:FuncId)(j:zH F)(a:Xa)(t:Nat)(l:Xn)(w:Xw)
 (u:∀W,xB w W->Ls S g (w.heap.size+1) (w.heap.size+1+1) w.heap.size (.string n) (.func (.func F) #[] a) F a (xP t) l W) :
 xK 72 #[.agg #[.string n,aW S g,.func (.func F) #[] a],xP t] w (λe q=>e=.returned (gI S g (zO l))/\xB w q):=by
 have j:∀(d:Xa) (w:Xw),(callFunc F d).run prog w=.ok (.enter F d) w:=j;have y:∀(fn:Go.Fn) (first a:Xa) (w:Xw),(Instr.makeFunc fn first a).run prog w=.ok (.func fn first a) w:=λ_ _ _ _=>rfl;have f:=mg w (.cells #[.string n,.iface 324 (.pointer (some (S g))),.func (.func F) #[] a] 153 (0,0)) (.cells #[.nilIface] 53 (0,0)) (.cells #[xI 0] 3 (0,0));have c:=iu w (.cells #[.string n,.iface 324 (.pointer (some (S g))),.func (.func F) #[] a] 153 (0,0)) (.cells #[.nilIface] 53 (0,0)) (.cells #[xI 0] 3 (0,0));have i:Fx S g (w.heap.size+1) (w.heap.size+1+1) w.heap.size (.string n) (.func (.func F) #[] a) none _:=⟨c.2.1,c.2.2,c.1,by omega,by omega,by omega⟩;have r:=u _ f i;unfold bT at r;have s:=za r;have b:=za f;clear u r f c i;unfold aW;go_enter func72,ntmps72;go_wp2_with fail;refine s.o.mono ?_;rintro e q ⟨rfl,v,hF⟩;have h:aa (xB w q):=⟨hF.os.trans b.o.os,hF.tape.trans b.o.tape,hF.output.trans b.o.output,aJ b.o.size hF.size,λk x=>(hF.block k (dD x b.o.size) (λe=>by rcases e with e|e <;> omega)).trans (b.o.block k x)⟩;obtain⟨m,z,A⟩:=zu v.l;clear v hF s b;change q.cell? _=some (gI S g (zO l)) at m;cases o:zO l with
 | none => rw[o] at m;unfold gI at m;go_wp2_with fail;go_ret;exact⟨by rw[o];rfl,h.o⟩
 | some p => rw[o] at m;unfold gI aW at m;go_wp2_with fail;go_ret;exact⟨by rw[o];rfl,h.o⟩
end
section
variable {c:Sc} {u:Tm} {g:Tm->Bool}
theorem HP:∀{a:List Tm},u∈cN g a->∃t∈a,u∈bh g t:=by
 intro a;induction a with
 | nil=>intro h;rw[cN] at h;cases h
 | cons x a e =>
   intro h;rw[cN] at h;rcases bj.1 h with h|h
   . exact⟨x,Mx,h⟩
   obtain⟨t,b,d⟩:=e h;exact⟨t,cS _ b,d⟩
theorem Wf.BP {t:Tm}(h:Wf t)(hu:u∈bh g t):Wf u:=by
 induction h generalizing u with
 | mk k a s i n j h e f =>
   rw[bh] at hu;rcases cC.1 hu with rfl|hu
   . exact Wf.mk k a s i n j h e
   split at hu
   . obtain⟨t,b,d⟩:=HP hu;exact f t b d
   cases hu
theorem HQ:∀{l:List Vr} {i:Nat},dQ c l i=[]->∀v∈l,ba v≠0->c.has v.ck=true:=by
 intro l;induction l with
 | nil=>intro i _ v hv;cases hv
 | cons x l e =>
   intro i h v hv b;rw[dQ,ec,ec] at h;rcases cC.1 hv with rfl|hv
   . have a:=h.1.2;cases d:c.has v.ck with
     | true=>rfl
     | false=>rw[d] at a;simp[b] at a
   exact e h.2 v hv b
theorem xM:∀{a:Xl} {b:Xn},a.length=b.length->z7 c a b=[]->∀s∈a,c.has s=true/\¬c.idx s<c.nd.ah:=by
 intro a;induction a with
 | nil=>intro b _ _ s hs;cases hs
 | cons x a j =>
   intro b e h s hs;cases b with
   | nil=>simp at e
   | cons p b =>
     rw[z7,ec] at h;rcases cC.1 hs with rfl|hs
     . have d:=h.1;constructor
       . cases f:c.has s with
         | true=>rfl
         | false=>rw[f] at d;simp at d
       intro i;rw[decide_eq_true i] at d;simp at d
     exact j (by simpa using e) h.2 s hs
theorem mw {α:Type}{f:α->List Nat}{l:List α}(h:l.flatMap f=[]):∀x∈l,f x=[]:=List.flatMap_eq_nil_iff.1 h
theorem Qd (j:eU c)(h:c.cG=[]):ka c:=by
 unfold Sc.cG at h;rw[ec,ec,ec] at h;obtain⟨⟨⟨_,t⟩,v⟩,w⟩:=h;have m:∀q∈c.nd.eqs,∀u∈bh b8 q.r,(NA u.k=true->c.has u.s=true)/\(u.k=4->∃d,c.called u.s=some d/\d.nd.ah=u.ts.length/\d.nd.aG=hp q u):=by
  intro q a u f;have e:=mw (mw w q a) u f;unfold fF at e;rw[ec] at e;refine⟨λz=>?_,λk=>?_⟩
  . cases y:c.has u.s with
    | true=>rfl
    | false=>have:=e.1;rw[y,z] at this;simp at this
  have l:=e.2;cases b:c.fits u (hp q u) with
  | false=>rw[b,k] at l;simp at l
  | true =>
    unfold Sc.fits at b;split at b
    . cases b
    rename_i d x
    simp only[Bool.and_eq_true,beq_iff_eq] at b;exact⟨d,x,b.1,b.2⟩
 refine⟨λq a u f=>?_,HQ t,λq a s A=>(xM (j.nd.eqs q a).1 (mw v q a) s A).1,λq a h=>?_⟩
 . obtain⟨n,o⟩:=m q a u f;exact⟨n,λk=>by obtain⟨d,i,p,_⟩:=o k;exact⟨d,i,p⟩,((j.nd.eqs q a).2.2.1.BP f).ar⟩
 obtain⟨d,i,_,r⟩:=(m q a q.r (nL _ _)).2 ((j.nd.eqs q a).2.2.2 h);refine⟨d,i,?_⟩;rw[r];unfold hp;rw[ag rfl]
end
section
open Go.RowKit
theorem Tryz.s5:(prog.info? 4).map (λi=>(i.zero,i.size,i.bytes))=some (some (.bool false),1,1):=by kernel_rfl
def cZ (l:Xk):List Value:=l.map .bool
theorem yg (n:Nat)(h:n<=3145728)(w:Xw):(Instr.makeSlice 100 (xI (n:Int)) (xI (n:Int))).run prog w=.ok (xS w.heap.size n n) (w.alloc (.cells (cZ (List.replicate n false)).toArray 4)):=by
 obtain⟨e,d,a,b,c⟩:=info_parts Tryz.s5;have:=run_make (P:=prog) w 100 4 e _ underlying100 d a .i64 .i64 (n:Int) (n:Int) (by omega) (by omega) (by rw[c];omega) (by omega);refine this.trans ?_;rw[b];simp only[Int.toNat_natCast,Nat.mul_one];refine congrArg (λx=>Result.ok (xS w.heap.size n n) (w.alloc (.cells x 4))) ?_;unfold madeCells;apply Array.ext
 . simp[cZ]
 intro j f g;simp[cZ,Value.cells,Nat.mod_one]
theorem j4 {w:Xw}{b k:Nat}{d:Xk}{e:Xy}{x:Bool}(h:w.heap[b]?=some (.cells (cZ d).toArray e (0,0)))(a:d[k]?=some x):w.cell? (xD b k)=some (.bool x):=by simp[World.cell?,h,cZ,a]
end
section
open Go.RowKit
variable {d:Xk} {N z t f m lb l:Nat} {S:Xs} {u:Xo} {c:Sc} {n x r y:Xv} {w A:Xw}
attribute [local go_sem ↓] Go.wp_at_zero Go.wp_at_succ
theorem HM (c:Sc)(a:Xn)(d:Xk):ee c [] a d=([],d):=by cases a <;> rfl
structure ho (S:Xs) (m lb f l:Nat) (r n:Xv) (N:Nat) (c:Sc) (x y:Xv) (z t:Nat) (d:Xk) (u:Xo) (w:Xw):Prop where
 rp:Fx S m lb f l r n u w
 sc:br w N c x y
 x1:w.heap[z]?=some (.cells #[x,y] 216 (0,0))
 x2:w.heap[t]?=some (.cells (cZ d).toArray 4 (0,0))
 d1:¬z=lb
 d2:¬z=f
 d3:¬t=lb
 d4:¬t=f
 d5:¬z=t
 d6:¬t=l
 l1:N<=lb
 l2:N<=f
 l3:N<=t
 hN:N<=w.heap.size
theorem ho.aq (h:ho S m lb f l r n N c x y z t d u w)(a:xB w A):ho S m lb f l r n N c x y z t d u A :=
 ⟨h.rp.aq a,h.sc.am (zm a h.hN),(a.block _ (ze h.x1)).trans h.x1,(a.block _ (ze h.x2)).trans h.x2,h.d1,h.d2,h.d3,h.d4,h.d5,h.d6,h.l1,h.l2,h.l3,aJ h.hN a.size⟩
theorem ho.aX {a:Xo}(h:ho S m lb f l r n N c x y z t d u w)(p:Fx S m lb f l r n a A)(b:Fr (RT lb f) w A):ho S m lb f l r n N c x y z t d a A:=by have g:=h.d1;have i:=h.d2;have j:=h.d3;have o:=h.d4;have q:=h.l1;have s:=h.l2;exact⟨p,h.sc.am (b.am h.hN (λk e=>by rcases e with e|e;exact e▸q;exact e▸s)),(b.block _ (ze h.x1) (λe=>by rcases e with e|e;exact g e;exact i e)).trans h.x1,(b.block _ (ze h.x2) (λe=>by rcases e with e|e;exact j e;exact o e)).trans h.x2,h.d1,h.d2,h.d3,h.d4,h.d5,h.d6,h.l1,h.l2,h.l3,aJ h.hN b.size⟩
theorem HU (d:Xk)(i:Nat)(b:Bool):(cZ d).toArray.setIfInBounds i (.bool b)=(cZ (d.set i b)).toArray:=by unfold cZ;rw[List.map_set];simp
theorem ho.put (h:ho S m lb f l r n N c x y z t d u w)(i:Nat)(b:Bool):ho S m lb f l r n N c x y z t (d.set i b) u (w.setCell (xD t i) (.bool b)):=by
 have j:=h.l3;have a:∀k,¬k=t->(w.setCell (xD t i) (.bool b)).heap[k]?=w.heap[k]?:=λk a=>Below.heap_setCell w _ _ k a;refine⟨⟨(a _ λe=>h.d3 e.symm).trans h.rp.l,(a _ λe=>h.d4 e.symm).trans h.rp.b,(a _ λe=>h.d6 e.symm).trans h.rp.s,h.rp.n1,h.rp.n2,h.rp.n3⟩,h.sc.am (λk g=>a k (by omega)),(a _ h.d5).trans h.x1,?_,h.d1,h.d2,h.d3,h.d4,h.d5,h.d6,h.l1,h.l2,h.l3,?_⟩
 . rw[zh _ _ _ _ h.x2,HU]
 have:=h.hN;simpa using this
theorem Ko {s:Xb}(h:c.has s=true):c.idx s<c.nd.ak.length:=by unfold Sc.has at h;unfold Sc.idx;obtain⟨j,a⟩:=Option.isSome_iff_exists.1 h;rw[a];have:=(kP a).2.1;simpa using this
theorem GX (S:Xs)(m lb f l:Nat)(r n:Xv)(N:Nat)(c:Sc)(hc:eU c)(dc:ka c)(x y:Xv)(u:Xo)(w:Xw)(hR:Fx S m lb f l r n u w)(h:br w N c x y)(hN:N<=w.heap.size)(l1:N<=lb)(l2:N<=f) :
 xK 69 #[.agg #[x,y],bT lb f l] w (λe A=>e=.returned (.tuple #[])/\Fx S m lb f l r n (c.fy.foldl aj u) A/\Fr (RT lb f) w A):=by
 obtain⟨a6,M,V,rfl,rfl,di⟩:=h.shape;have dq:=ze hR.l;have dp:=ze hR.b;have ds:=ze hR.s;have a1:∀o1 o2,((w.alloc o1).alloc o2).heap[w.heap.size]?=some o1/\((w.alloc o1).alloc o2).heap[w.heap.size+1]?=some o2:=λo1 o2=>mO w o1 o2
 have bp:ho S m lb f l r n N c (xE a6 c M) (xP V) w.heap.size (w.heap.size+1) (List.replicate c.nd.ak.length false) u ((w.alloc (.cells #[xE a6 c M,xP V] 216)).alloc (.cells (cZ (List.replicate c.nd.ak.length false)).toArray 4)) :=
  ⟨hR.aq (cT w _ _),h.am (j8 hN _ _),(a1 _ _).1,(a1 _ _).2,by omega,by omega,by omega,by omega,by omega,by omega,l1,l2,by omega,by simp;omega⟩
 have a9:=za bp;obtain⟨dz,em,eb,xs,cR,I⟩:=h.nd;cases cR;obtain⟨er,cO,rfl⟩:=zB I.bZ;obtain⟨eq,cK,rfl⟩:=zB I.own;obtain⟨m0,m1,m2,m3,m4,m5,du,dw⟩:=zt I.aC;have F:=za I;have cv:=I.bO;have c3:c.nd.eqs.length<=9223372036854775807:=by
  rcases I.own.2 with ⟨_,h⟩|⟨g,cg,ch,hv,_,_,h3,h4,_⟩
  . omega
  unfold maxLen at h4;omega
 have mk:=yg c.nd.ak.length (by omega);have aL:=za (zy (T:=RT lb f) (cT w (.cells #[xE a6 c M,xP V] 216) (.cells (cZ (List.replicate c.nd.ak.length false)).toArray 4)));have dl:V<w.heap.size:=by omega
 clear hR h a1 bp I;unfold bT;go_enter func69,ntmps69;go_wp2_with fail;go_loopg [27] (c.nd.eqs.length+1) (λj i wr=>∃(k:Nat) (d:Xk) (D:Xo),k+j=c.nd.eqs.length+1/\k<=c.nd.eqs.length/\i=xI k/\aa (ho S m lb f l r n N c (xE a6 c M) (xP V) w.heap.size (w.heap.size+1) d D wr)/\aa (d.length=c.nd.ak.length)/\aa ((fW c c.nd.eqs (List.replicate c.nd.ak.length false)).1.foldl aj u=(fW c (c.nd.eqs.drop k) d).1.foldl aj D/\(fW c c.nd.eqs (List.replicate c.nd.ak.length false)).2=(fW c (c.nd.eqs.drop k) d).2)/\aa (Fr (RT lb f) w wr));case atStart=>exact⟨0,_,u,by omega,aE _,rfl,a9.o,List.length_replicate,⟨rfl,rfl⟩,aL.o⟩
 case round =>
  clear a9 aL m0 m1 m2 m3 m4 m5 du dw mk;obtain⟨k,d,D,bC,cA,rfl,J,a0,X,Q⟩:=hrel;have hO:=Q.o.am hN (λk e=>by rcases e with e|e;exact e▸l1;exact e▸l2);by_cases aA:k<c.nd.eqs.length
  . obtain⟨b3,rfl⟩:∃b3,b3=wr:=⟨_,rfl⟩;obtain⟨ck,rfl⟩:∃g,g=gk:=⟨_,rfl⟩;obtain⟨q,bY⟩:∃q,c.nd.eqs[k]?=some q:=⟨_,av aA⟩;have a2:=F.o.am hO;obtain⟨g,lv,rv,rfl,c0,c1,c2,bv⟩:=lj a2.own a2.eqs bY rfl;obtain⟨rb,_,_,rfl,_⟩:=bv.tt.ptr;obtain⟨cE,ct,rfl⟩:=zB bv.own;have cl:=F.o.ko g rfl;have HEq:=za bv;have a4:=aM bY;have bK:=(hc.nd.eqs q a4).1;have ce:=za bK;have ca:=za (dc.left q a4);have c5:=J.o.hN;have bt:fW c (c.nd.eqs.drop k) d=((ee c q.ns q.ps d).1++(fW c (c.nd.eqs.drop (k+1)) (ee c q.ns q.ps d).2).1,(fW c (c.nd.eqs.drop (k+1)) (ee c q.ns q.ps d).2).2):=by obtain⟨h1,h2⟩:=aB.1 bY;rw[dE h1,fW,h2]
    have b4:=za bt;have c4:q.ns.length<=9223372036854775807:=by
     rcases bv.own.2 with ⟨_,h⟩|⟨g,cg,ch,hv,_,_,h3,h4,_⟩
     . omega
     unfold maxLen at h4;omega
    have bg:=za (J.o.aq (zq b3 (.cells #[.slice cE q.ns.length ct,xI q.a,xP rb] 184)));have bl:=za (Q.o.alloc (.cells #[.slice cE q.ns.length ct,xI q.a,xP rb] 184));clear a2 bv bY bK hO bt a4;go_wp2_with fail;go_loopg [34] (q.ns.length+1) (λj i wr=>∃(C:Nat) (d2:Xk) (B:Xo),C+j=q.ns.length+1/\C<=q.ns.length/\i=xI C/\aa (ho S m lb f l r n N c (xE a6 c M) (xP V) w.heap.size (w.heap.size+1) d2 B wr)/\aa (d2.length=c.nd.ak.length)/\aa ((ee c q.ns q.ps d).1.foldl aj D=(ee c (q.ns.drop C) (q.ps.drop C) d2).1.foldl aj B/\(ee c q.ns q.ps d).2=(ee c (q.ns.drop C) (q.ps.drop C) d2).2)/\aa (Fr (RT lb f) w wr));case atStart=>exact⟨0,d,D,by omega,aE _,rfl,bg.o,a0.o,⟨rfl,rfl⟩,bl.o⟩
    case round =>
     clear bg bl c0 c1 c2;obtain⟨C,d2,B,cB,da,rfl,G,K,Y,Z⟩:=hrel;by_cases bE:C<q.ns.length
     . obtain⟨s,b0⟩:∃s,q.ns[C]?=some s:=⟨_,av bE⟩;obtain⟨p,cn⟩:∃p,q.ps[C]?=some p:=⟨_,av (by have:=ce.o;omega)⟩;have bx:=Z.o.am hN (λk e=>by rcases e with e|e;exact e▸l1;exact e▸l2);have bA:bV N b3 wr:=λb a5=>(bx b a5).trans ((Q.o.am hN (λk e=>by rcases e with e|e;exact e▸l1;exact e▸l2)) b a5).symm;obtain⟨gl,rfl,c0,c1⟩:=kG (HEq.o.am bA).own b0 cn rfl;have cz:=HEq.o.lo gl rfl;have c6:=G.o.hN;have cm:=ca.o s (aM b0);have c9:=Ko cm;obtain⟨b,a5⟩:∃b,d2[c.idx s]?=some b:=⟨_,av (by have:=K.o;omega)⟩;have be:=za (hW s (p:Int) (wr.alloc (.cells #[.string s,xI p] 117)) (G.o.aq (zq wr _)).sc (G.o.aq (zq wr _)).hN);obtain⟨co,s1,cs,sz⟩:=zp G.o.x1;have bs:ee c (q.ns.drop C) (q.ps.drop C) d2=((if b=true then [p] else [])++(ee c (q.ns.drop (C+1)) (q.ps.drop (C+1)) (d2.set (c.idx s) true)).1,(ee c (q.ns.drop (C+1)) (q.ps.drop (C+1)) (d2.set (c.idx s) true)).2):=(by obtain⟨h1,h2⟩:=aB.1 b0;obtain⟨h3,h4⟩:=aB.1 cn;rw[dE h1,dE h3,ee,h2,h4];rw[show d2.getD (c.idx s) false=b by rw[List.getD_eq_getElem?_getD,a5];rfl]);have bL:aa ((ee c q.ns q.ps d).1.foldl aj D=(ee c (q.ns.drop (C+1)) (q.ps.drop (C+1)) (d2.set (c.idx s) true)).1.foldl aj ((if b=true then [p] else []).foldl aj B)/\(ee c q.ns q.ps d).2=(ee c (q.ns.drop (C+1)) (q.ps.drop (C+1)) (d2.set (c.idx s) true)).2):=(by have a:=Y.o;rw[bs,bc] at a;exact a);have i0:(0:Int)<=(c.idx s:Int):=(by omega);have i1:(c.idx s:Int)<(c.nd.ak.length:Int):=(by omega);have cd:=za a5;clear bx bA b0 cn a5 bs Y;cases b with
       | false =>
         go_wp2_with (go_at_call 105;refine be.o.mono ?_;rintro e w1 ⟨rfl,H⟩;have W:=za H;have E:=za (G.o.aq (zE H));have e0:=j4 E.o.x2 cd.o;have ea:=lh E.o.x2 (c.idx s);have e3:=ze E.o.x2;clear H);go_roundg (gk-1);case measure=>omega
         exact⟨C+1,d2.set (c.idx s) true,B,by omega,by omega,by go_num,E.o.put _ _,by unfold aa;rw[List.length_set];exact K.o,bL.o,(Z.o.gA (zE W.o)).aO (by omega) _ _⟩
       | true =>
         go_wp2_with (first
          | (go_at_call 140;refine (eg S m lb f l r n B p _ E.o.rp).mono ?_;rintro e w2 ⟨rfl,U,O⟩;have ar:=za (E.o.aX U O);have ab:=za O;have f0:=j4 ar.o.x2 cd.o;have f2:=lh ar.o.x2 (c.idx s);have f3:=ze ar.o.x2;clear U O)
          | (go_at_call 105;refine be.o.mono ?_;rintro e w1 ⟨rfl,H⟩;have W:=za H;have E:=za (G.o.aq (zE H));have e0:=j4 E.o.x2 cd.o;have e1:xC w1 wr.heap.size 1 (xI p):=zd W.o (zp (zc wr _)).2.1 (by simp);clear H))
         go_roundg (gk-1);case measure=>omega
         exact⟨C+1,d2.set (c.idx s) true,aj B p,by omega,by omega,by go_num,ar.o.put _ _,by unfold aa;rw[List.length_set];exact K.o,bL.o,((Z.o.gA (zE W.o)).trans ab.o).aO (by omega) _ _⟩
     have ek:C=q.ns.length:=(by omega);subst ek;rw[List.drop_length,HM] at Y;go_wp2_with fail;go_roundg (ck-1);case measure=>omega
     refine⟨k+1,d2,B,by omega,by omega,by go_num,G.o,K.o,?_,Z.o⟩;have a:=X.o;have b:=Y.o;rw[b4.o,b.2] at a;refine⟨a.1.trans ?_,a.2⟩;rw[bc,b.1];rfl
  have ek:k=c.nd.eqs.length:=by omega
  subst ek;rw[List.drop_length,fW] at X;obtain⟨R,bq⟩:=X.o;have bL:aa (c.fy.foldl aj u=(hk c.nd.ah d c.nd.ak 0).foldl aj D):=by unfold aa Sc.fy;simp only[bc];rw[R,bq];rfl
  clear X R bq;obtain⟨co,s1,cs,sz⟩:=zp J.o.x1;obtain⟨n0,n1,n2,n3,n4,n5,nf,nz⟩:=zt ((hO V F.o.lo).trans F.o.aC);clear hO;go_wp2_with fail;go_loopg [62] (c.nd.ak.length+1) (λj i wr=>∃(k:Nat) (B:Xo),k+j=c.nd.ak.length+1/\k<=c.nd.ak.length/\i=xI k/\aa (ho S m lb f l r n N c (xE a6 c M) (xP V) w.heap.size (w.heap.size+1) d B wr)/\aa ((hk c.nd.ah d c.nd.ak 0).foldl aj D=(hk c.nd.ah d (c.nd.ak.drop k) k).foldl aj B)/\aa (Fr (RT lb f) w wr));case atStart=>exact⟨0,D,by omega,aE _,rfl,J.o,rfl,Q.o⟩
  case round =>
   clear J Q co s1 cs sz n0 n1 n2 n3 n4 n5 nf nz bC cA aA;obtain⟨k,B,bC,cA,rfl,J,X,Q⟩:=hrel;have hO:=Q.o.am hN (λk e=>by rcases e with e|e;exact e▸l1;exact e▸l2);by_cases aA:k<c.nd.ak.length
   . obtain⟨v,hv⟩:∃v,c.nd.ak[k]?=some v:=⟨_,av aA⟩;obtain⟨g,rfl,c0,c1,c2,dM,dP,dV,dY⟩:=hj (F.o.am hO).bZ hv;have cl:=F.o.jc g rfl;obtain⟨bk,a3⟩:∃bk,d[k]?=some bk:=⟨_,av (by have:=a0.o;omega)⟩;have R:hk c.nd.ah d (c.nd.ak.drop k) k=(if (decide (c.nd.ah<=k)&&!bk)=true then [v.a] else [])++hk c.nd.ah d (c.nd.ak.drop (k+1)) (k+1):=(by obtain⟨h1,h2⟩:=aB.1 hv;rw[dE h1,hk,h2];rw[show d.getD k false=bk by rw[List.getD_eq_getElem?_getD,a3];rfl]);have L:aa ((hk c.nd.ah d c.nd.ak 0).foldl aj D=(hk c.nd.ah d (c.nd.ak.drop (k+1)) (k+1)).foldl aj ((if (decide (c.nd.ah<=k)&&!bk)=true then [v.a] else []).foldl aj B)):=(by unfold aa;rw[X.o,R,bc]);obtain⟨co,s1,cs,sz⟩:=zp J.o.x1;obtain⟨n0,n1,n2,n3,n4,n5,nf,nz⟩:=zt ((hO V F.o.lo).trans F.o.aC);have dH:xC wr (w.heap.size+1) k (.bool bk):=j4 J.o.x2 a3;have dL:=ze J.o.x2;have dk:V<wr.heap.size:=(by omega);have bo:d.length=c.nd.ak.length:=a0.o;have i0:(0:Int)<=(k:Int):=(by omega);have i1:(k:Int)<(c.nd.ak.length:Int):=(by omega);have aV:=za (λo=>eg S m lb f l r n B v.a (wr.alloc o) (J.o.rp.aq (zq wr o)));clear R X hO bo a3 hv n0 n1 n2 n4 n5;by_cases P:c.nd.ah<=k
     . have bB:(c.nd.ah:Int)<=(k:Int):=(by omega);cases bk with
       | true =>
         simp only[P,decide_true,Bool.not_true,Bool.and_false] at L;clear P;go_wp2_with fail;go_roundg (gk-1);case measure=>omega
         exact⟨k+1,B,by omega,by omega,by go_num,J.o.aq (zq wr _),L.o,Q.o.alloc _⟩
       | false =>
         simp only[P,decide_true,Bool.not_false,Bool.and_true] at L;clear P;go_wp2_with (go_at_call 140;refine (aV.o _).mono ?_;rintro e w2 ⟨rfl,U,O⟩;have cb:=za U;have ab:=za O;clear U O);go_roundg (gk-1);case measure=>omega
         exact⟨k+1,aj B v.a,by omega,by omega,by go_num,(J.o.aq (zq wr _)).aX cb.o ab.o,L.o,(Q.o.alloc _).trans ab.o⟩
     have bB:¬(c.nd.ah:Int)<=(k:Int):=(by omega);simp only[P,decide_false,Bool.false_and] at L;clear P;go_wp2_with fail;go_roundg (gk-1);case measure=>omega
     exact⟨k+1,B,by omega,by omega,by go_num,J.o.aq (zq wr _),L.o,Q.o.alloc _⟩
   have ek:k=c.nd.ak.length:=(by omega);subst ek;rw[List.drop_length,hk] at X;clear hO;go_wp2_with fail;first|go_end0|refine bodyPost_ret (results_none rfl _ _ _) rfl ?_
   refine⟨rfl,?_,Q.o⟩;rw[bL.o,X.o];exact J.o.rp
end
section
open Go.RowKit
variable {K:Cd} {N f:Nat} {c:Sc}
attribute [local go_sem ↓] Go.wp_at_zero Go.wp_at_succ
def Pq (k:Nat):Nat:=if k=5 then 5 else k-3
def M9 (w:Xw):Prop:=∀k,(k=5∨10<=k)->k<=23->w.cell? (xD 13 k)=some (.int .u8 (Pq k:Nat))
theorem M9.am {w w':Xw}(h:M9 w)(g:bV N w w')(e:21<=N):M9 w':=λk b d=>(World.cell?_of_block (w:=w) (a:=(xD 13 k)) (g 13 (dD (show 13<21 by decide) e))).trans (h k b d)
def NK (a:Sc->Nat->Cd->Cd)(c:Sc)(f e:Nat)(K:Cd)(t:Tm)(k:Nat×Nat):Cd :=
 match c.called t.s with
 | none=>K
 | some d =>
   let b:=f+c.nd.ak.length+1
   (a d b ((K.fv ((List.range t.ts.length).reverse.map λi=>(2,((b+i:Nat):Int)))).fv (z8 c f e k))).fv ((List.range d.nd.aG).map λi=>(1,((b+(d.nd.ah+i):Nat):Int)))
def zs (b:Sc->Nat->Cd->Cd)(c:Sc)(f d:Nat)(s:Cd×List Lt)(t:Tm)(k:Nat×Nat):Cd×List Lt :=
 if t.k<=2 then (s.1.add 0 (MI t),s.2)
 else if t.k=3 then (s.1.add 1 ((f+c.idx t.s:Nat):Int),s.2)
 else if t.k=7∨t.k=8 then s
 else if t.k=6 then (s.1.add 6 ((f+c.idx t.s:Nat):Int),s.2)
 else if t.k=9 then ((s.1.cell (N1 t.ts)).add 3 s.1.cells.length,s.2++(match t.ts with|_::a::_=>[⟨s.1.cells.length,a,k⟩]|_=>[]))
 else if t.k=4 then (NK b c f d s.1 t k,s.2)
 else (s.1.add (Pq t.k) 0,s.2)
def qv (K:Cd):Prop:=K.row.length<=1000000/\K.cells.length<=1000000
def Nn (s:Cd×List Lt):Prop:=qv s.1/\s.2.length<=1000000
theorem O8 (c:Sc)(s:Xb):c.idx s<=c.nd.ak.length:=by
 unfold Sc.idx;cases h:c.nd.find s with
 | none=>simp
 | some j=>have:=(kP h).2.1;simp;omega
theorem NX {a:Nat}{x:Int}(h:qv (K.add a x)):qv K:=by unfold qv Cd.add at h;simp at h;exact⟨by omega,h.2⟩
theorem On {l:List (Nat×Int)}(h:qv (K.fv l)):qv K:=by unfold qv Cd.fv at h;simp at h;exact⟨by omega,h.2⟩
theorem RO {e:Sc->Nat->Cd->Cd}(i:∀d b K,qv (e d b K)->qv K){g:Nat}(s:Cd×List Lt)(t:Tm)(k:Nat×Nat)(h:Nn (zs e c f g s t k)):Nn s:=by
 unfold zs at h;split at h
 . exact⟨NX h.1,h.2⟩
 split at h
 . exact⟨NX h.1,h.2⟩
 split at h
 . exact h
 split at h
 . exact⟨NX h.1,h.2⟩
 split at h
 . have a:=NX h.1;refine⟨⟨a.1,?_⟩,?_⟩
   . have:=a.2;unfold Cd.cell at this;simp at this;omega
   have:=h.2;simp at this;omega
 split at h
 . refine⟨?_,h.2⟩;have a:=h.1;unfold NK at a;split at a
   . exact a
   exact On (On (i _ _ _ (On a)))
 exact⟨NX h.1,h.2⟩
theorem V7 {B L G y S:Nat}{Z nv lv:Xv}(d:Sc->Nat->Cd->Cd)(q:Nat)(T:21<=N)(a0:f<=100000)(t:Tm)(r:Wf t)(v:Xv)(k:Nat×Nat)(s:Cd×List Lt)(w:Xw)(a3:TT w N t v)(H:WL N B L G y S f c Z nv lv s.1 s.2 w)(ar:M9 w)(_hbd:Nn (zs d c f q s t k))(F:Nn s)
 (R:t.k=4->∀W,WL N B L G y S f c Z nv lv s.1 s.2 W->TT W N t v->M9 W->xK 198 #[xP L,xP y,v,hG k] W (λe Y=>e=.returned (.tuple #[])/\(∃I,WL N B L G y S f c Z nv I (NK d c f q s.1 t k) s.2 Y)/\FT (CT G y) W Y)) :
 xK 166 #[xP L,xP y,v,hG k] w (λe Y=>e=.returned (.tuple #[])/\(∃I,WL N B L G y S f c Z nv I (zs d c f q s t k).1 (zs d c f q s t k).2 Y)/\FT (CT G y) w Y):=by
 obtain⟨bk,aA,nb,rfl,rfl,bg⟩:=H.wi.qi.sc.shape;have a6:c.nd.ak.length<=16:=by obtain⟨_,_,_,_,_,a1⟩:=H.wi.qi.sc.nd;exact a1.bO
 have a9:=O8 c t.s;obtain⟨b,a5,bs,rfl,be,ab,_⟩:=a3.ptr;have o:=za (CX.new H (.cells #[xI (k.1:Nat),xI (k.2:Nat)] 198));have m:s.1.row.length<=1000000:=F.1.1;have U:s.1.cells.length<=1000000:=F.1.2;have V:s.2.length<=1000000:=F.2;have bb:=H.wi.qi.hN;obtain⟨a4,h⟩:∃a4,zs d c f q s t k=a4:=⟨_,rfl⟩;rw[h];unfold hG;go_enter func166,ntmps166;go_upto_region 1 with fail;refine zn (λW=>CX N B L G y S f c (xE bk c aA) (xP nb) w w.heap.size (.cells #[xI (k.1:Nat),xI (k.2:Nat)] 198) lv s.1 s.2 W) o.o ?_;intro W aV;have hO:=aV.am H;obtain⟨x,m1,m2,m3,m4,m5,bp,bq⟩:=zt ((hO b be).trans ab);obtain⟨z0,bt,bv,bx⟩:=zp aV.bx;have u:=za (a3.am hO);have z:=za (ar.am hO T);have o:=za aV;by_cases g:t.k=0
 . have n:aa (zs d c f q s t k=(s.1.add 0 (MI t),s.2)):=by unfold aa zs;rw[ag (by omega)]
   have p:W.cell? (xD b 0)=some (xI 0):=(by rw[x,g];rfl)
   go_wp2_with (first
    | (go_at_call 56;refine (o.o.add 0 (MI t) m).mono ?_;rintro e J ⟨rfl,i⟩;have a:=za i)
    | (go_at_call 196;refine (QL t r _ _ u.o).mono ?_;rintro e w2 ⟨rfl,rfl⟩))
   first|go_end0|refine bodyPost_ret (results_none rfl _ _ _) rfl ?_
   rw[<- h,n.o];exact⟨rfl,⟨_,a.o.wl⟩,a.o.ft⟩
 have h0:=g;by_cases g:t.k=1
 . have n:aa (zs d c f q s t k=(s.1.add 0 (MI t),s.2)):=by unfold aa zs;rw[ag (by omega)]
   have p:W.cell? (xD b 0)=some (xI 1):=(by rw[x,g];rfl)
   go_wp2_with (first
    | (go_at_call 56;refine (o.o.add 0 (MI t) m).mono ?_;rintro e J ⟨rfl,i⟩;have a:=za i)
    | (go_at_call 196;refine (QL t r _ _ u.o).mono ?_;rintro e w2 ⟨rfl,rfl⟩))
   first|go_end0|refine bodyPost_ret (results_none rfl _ _ _) rfl ?_
   rw[<- h,n.o];exact⟨rfl,⟨_,a.o.wl⟩,a.o.ft⟩
 have h1:=g;by_cases g:t.k=2
 . have n:aa (zs d c f q s t k=(s.1.add 0 (MI t),s.2)):=by unfold aa zs;rw[ag (by omega)]
   have p:W.cell? (xD b 0)=some (xI 2):=(by rw[x,g];rfl)
   go_wp2_with (first
    | (go_at_call 56;refine (o.o.add 0 (MI t) m).mono ?_;rintro e J ⟨rfl,i⟩;have a:=za i)
    | (go_at_call 196;refine (QL t r _ _ u.o).mono ?_;rintro e w2 ⟨rfl,rfl⟩))
   first|go_end0|refine bodyPost_ret (results_none rfl _ _ _) rfl ?_
   rw[<- h,n.o];exact⟨rfl,⟨_,a.o.wl⟩,a.o.ft⟩
 have h2:=g;by_cases g:t.k=3
 . have n:aa (zs d c f q s t k=(s.1.add 1 ((f+c.idx t.s:Nat):Int),s.2)):=by unfold aa zs;rw[ae (by omega),ag g]
   have p:W.cell? (xD b 0)=some (xI 3):=(by rw[x,g];rfl)
   go_wp2_with (first
    | (go_at_call 56;refine (A.o.add 1 ((f+c.idx t.s:Nat):Int) m).mono ?_;rintro e J ⟨rfl,i⟩;have a:=za i)
    | (go_at_call 107;refine (RE t.s (t.nm:Int) _ o.o.wl.wi.qi (by omega) (by omega)).mono ?_;rintro e w2 ⟨rfl,C⟩;have A:=za (o.o.aq C)))
   first|go_end0|refine bodyPost_ret (results_none rfl _ _ _) rfl ?_
   rw[<- h,n.o];exact⟨rfl,⟨_,a.o.wl⟩,a.o.ft⟩
 have h3:=g;by_cases g:t.k=6
 . have n:aa (zs d c f q s t k=(s.1.add 6 ((f+c.idx t.s:Nat):Int),s.2)):=by unfold aa zs;rw[ae (by omega),ae (by omega),ae (by omega),ag g]
   have p:W.cell? (xD b 0)=some (xI 6):=(by rw[x,g];rfl)
   go_wp2_with (first
    | (go_at_call 56;refine (A.o.add 6 ((f+c.idx t.s:Nat):Int) m).mono ?_;rintro e J ⟨rfl,i⟩;have a:=za i)
    | (go_at_call 107;refine (RE t.s (t.nm:Int) _ o.o.wl.wi.qi (by omega) (by omega)).mono ?_;rintro e w2 ⟨rfl,C⟩;have A:=za (o.o.aq C)))
   first|go_end0|refine bodyPost_ret (results_none rfl _ _ _) rfl ?_
   rw[<- h,n.o];exact⟨rfl,⟨_,a.o.wl⟩,a.o.ft⟩
 have h6:=g;by_cases g:t.k=7
 . have n:aa (zs d c f q s t k=s):=by unfold aa zs;rw[ae (by omega),ae (by omega),ag (by omega)]
   have p:W.cell? (xD b 0)=some (xI 7):=(by rw[x,g];rfl);go_wp2_with fail;first|go_end0|refine bodyPost_ret (results_none rfl _ _ _) rfl ?_
   rw[<- h,n.o];exact⟨rfl,⟨_,o.o.wl⟩,o.o.ft⟩
 have h7:=g;by_cases g:t.k=8
 . have n:aa (zs d c f q s t k=s):=by unfold aa zs;rw[ae (by omega),ae (by omega),ag (by omega)]
   have p:W.cell? (xD b 0)=some (xI 8):=(by rw[x,g];rfl);go_wp2_with fail;first|go_end0|refine bodyPost_ret (results_none rfl _ _ _) rfl ?_
   rw[<- h,n.o];exact⟨rfl,⟨_,o.o.wl⟩,o.o.ft⟩
 have h8:=g;by_cases g:t.k=9
 . have j:=r.ar;rw[g] at j;obtain⟨M,O,X⟩:∃M O,t.ts=[M,O]:=by
    rcases hx:t.ts with _|⟨M,_|⟨O,_|⟨bl,l⟩⟩⟩
    . rw[hx] at j;simp[dJ] at j
    . rw[hx] at j;simp[dJ] at j
    . exact⟨M,O,rfl⟩
    rw[hx] at j;simp[dJ] at j
   have n:aa (zs d c f q s t k=((s.1.cell (MI M)).add 3 s.1.cells.length,s.2++[⟨s.1.cells.length,O,k⟩])):=(by unfold aa zs;rw[ae (by omega),ae (by omega),ae (by omega),ae (by omega),ag g,X,N1]);have Q:=za (VJ t M O X r (xP b) k s.1 s.2 W u.o o.o.wl m U V);unfold hG at Q;have p:W.cell? (xD b 0)=some (xI 9):=(by rw[x,g];rfl);go_wp2_with (go_at_call 197;refine Q.o.mono ?_;rintro e J ⟨rfl,⟨a2,E⟩,D⟩;have a:=za (o.o.PX E D));first|go_end0|refine bodyPost_ret (results_none rfl _ _ _) rfl ?_
   rw[<- h,n.o];exact⟨rfl,⟨_,a.o.wl⟩,a.o.ft⟩
 have h9:=g;by_cases g:t.k=4
 . have n:aa (zs d c f q s t k=(NK d c f q s.1 t k,s.2)):=by unfold aa zs;rw[ae (by omega),ae (by omega),ae (by omega),ae (by omega),ae (by omega),ag g]
   have P:=za (R g W o.o.wl u.o z.o);unfold hG at P;have p:W.cell? (xD b 0)=some (xI 4):=(by rw[x,g];rfl);go_wp2_with (go_at_call 198;refine P.o.mono ?_;rintro e J ⟨rfl,⟨a2,E⟩,D⟩;have a:=za (o.o.PX E D));first|go_end0|refine bodyPost_ret (results_none rfl _ _ _) rfl ?_
   rw[<- h,n.o];exact⟨rfl,⟨_,a.o.wl⟩,a.o.ft⟩
 have h4:=g;have n:aa (zs d c f q s t k=(s.1.add (Pq t.k) 0,s.2)):=by unfold aa zs;rw[ae (by omega),ae (by omega),ae (by omega),ae (by omega),ae (by omega),ae (by omega)]
 have aL:t.k<=23:=by
  have j:=r.ar;unfold dJ at j;rcases Nat.lt_or_ge 23 t.k with H|H
  . rw[ae (by omega),ae (by omega),ae (by omega),ae (by omega),ae (by omega),ae (by omega),ae (by omega),ae (by omega)] at j;cases j
  exact H
 have bo:=z.o t.k (by omega) aL;have g0:¬(t.k:Int)=0:=by omega
 have g1:¬(t.k:Int)=1:=by omega
 have g2:¬(t.k:Int)=2:=by omega
 have g3:¬(t.k:Int)=3:=by omega
 have g4:¬(t.k:Int)=4:=by omega
 have g6:¬(t.k:Int)=6:=by omega
 have g7:¬(t.k:Int)=7:=by omega
 have g8:¬(t.k:Int)=8:=by omega
 have g9:¬(t.k:Int)=9:=by omega
 have i0:(0:Int)<=(t.k:Int):=by omega
 have i1:(t.k:Int)<24:=by omega
 go_wp2_with (go_at_call 56;refine (o.o.add (Pq t.k) 0 m).mono ?_;rintro e J ⟨rfl,i⟩;have a:=za i);first|go_end0|refine bodyPost_ret (results_none rfl _ _ _) rfl ?_
 rw[<- h,n.o];exact⟨rfl,⟨_,a.o.wl⟩,a.o.ft⟩
end
end Go.Proofs.YtbicmofihhjgbaaGreatDoor
