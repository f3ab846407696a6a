/- Part 21 of the proof. -/
import Derived.Test.YtmfkofhgdjechaaGreatDoorK19
set_option maxRecDepth 100000
set_option maxHeartbeats 8000000
namespace Go.Proofs.YtmfkofhgdjechaaGreatDoor
open Go.Proofs.Tryz
open Go.RowKit
section
attribute [local go_sem ↓] Go.wp_at_zero Go.wp_at_succ
theorem G2 (c:Sc):∀(a b:List Vr) (i:Nat),dQ c (a++b) i=dQ c a i++dQ c b (i+a.length):=by
 intro a;induction a with
 | nil=>intro b i;rfl
 | cons v a d=>intro b i;rw[List.cons_append,dQ,dQ,d,bJ,show i+1+a.length=i+(a.length+1) by omega];simp only[bw]
theorem GW (c:Sc):∀(a d:Xl) (b e:Xn),a.length=b.length->z7 c (a++d) (b++e)=z7 c a b++z7 c d e:=by
 intro a;induction a with
 | nil=>intro d b e h;cases b with
   | nil=>rfl
   | cons _ _=>simp at h
 | cons s a f=>intro d b e h;cases b with
   | nil=>simp at h
   | cons p b=>rw[List.cons_append,List.cons_append,z7,z7,f _ _ _ (by simpa using h),bw]
theorem G5 {c:Sc}{a:Xl}{b:Xn}{k:Nat}{s:Xb}{p:Nat}(e:a[k]?=some s)(d:b[k]?=some p):z7 c (a.take (k+1)) (b.take (k+1))=z7 c (a.take k) (b.take k)++((if (!c.has s||decide (c.idx s<c.nd.ah))=true then [p] else [])++[]):=by have f:=(aB.1 e).1;have g:=(aB.1 d).1;rw[kN e,kN d,GW c _ _ _ _ (by simp;omega)];rfl
theorem Hl (S:Xs)(kd u t O:Nat)(y f:Xv)(N:Nat)(c:Sc)(h6:c.er.length<=6)(iR:∀q∈c.nd.eqs,q.ns.length=q.ps.length)(of pr:Xv)(st:Xo)(w:Xw)(lb:cl S kd u t O y f st w)(h:br w N c of pr)(hN:N<=w.heap.size)(l1:N<=u)(l2:N<=t) :
 xK 54 #[.agg #[of,pr],bT u t O] w (λe z=>e=.returned (.tuple #[])/\cl S kd u t O y f (c.cG.foldl aj st) z/\Fr (RT u t) w z):=by
 obtain⟨V,r,A,rfl,rfl,tk⟩:=h.shape;have tn:=ze lb.l;have tm:=ze lb.b;have go:∀i5 i6,((w.alloc i5).alloc i6).heap[w.heap.size]?=some i5/\((w.alloc i5).alloc i6).heap[w.heap.size+1]?=some i6:=λi5 i6=>mO w i5 i6
 have hw:b5 S kd u t O y f N c (xE V c r) (xP A) w.heap.size (w.heap.size+1) st ((w.alloc (.cells #[xE V c r,xP A] 205)).alloc (.cells #[bT u t O] 200)) :=
  ⟨lb.aq (cT w _ _),h.am (j8 hN _ _),(go _ _).1,(go _ _).2,by omega,by omega,by omega,by omega,l1,l2,by simp;omega⟩
 have fr:=za hw;obtain⟨vG,zh,xC,xs,rx,a5⟩:=h.nd;cases rx;obtain⟨zr,rt,rfl⟩:=zB a5.bZ;obtain⟨zm,rp,rfl⟩:=zB a5.own;have C:=za a5;have os:=a5.bO;have l3:=za iR;have sh:c.nd.eqs.length<=9223372036854775807:=by
  rcases a5.own.2 with ⟨_,h⟩|⟨g,c2,mk,hv,_,_,sE,m7,_⟩
  . omega
  unfold maxLen at m7;omega
 have gl:aa (c.cG.foldl aj st=((c.nd.eqs.flatMap λq=>(bh b8 q.r).flatMap (fF c q))).foldl aj ((c.nd.eqs.flatMap λq=>z7 c q.ns q.ps).foldl aj ((dQ c c.nd.ab 0).foldl aj ((if (c.called c.nd.nm).isSome=true then [c.nd.a] else []).foldl aj st)))):=by unfold aa Sc.cG;rw[bc,bc,bc]
 have bp:=za (zy (T:=RT u t) (cT w (.cells #[xE V c r,xP A] 205) (.cells #[bT u t O] 200)));clear lb h go hw a5 iR;unfold bT at fr bp ⊢;go_enter func54,ntmps54;go_upto_block 0 with fail;refine zn (λW=>b5 S kd u t O y f N c (xE V c r) (xP A) w.heap.size (w.heap.size+1) st W/\Fr (RT u t) w W) ⟨fr.o,bp.o⟩ ?_;rintro W ⟨ar,gs⟩;have bt:=za ar;have bl:=za gs;obtain⟨ev,s1,ex,fd⟩:=zp ar.x1;obtain⟨ck,cm,er⟩:=zu ar.x2;have h1:=gs.am hN (λk e=>by rcases e with e|e;exact e▸l1;exact e▸l2);obtain⟨m0,m1,m2,m3,m4,m5,dn,g3⟩:=zt ((h1 A C.o.lo).trans C.o.aC);have g1:=ar.hN;have b1:=ar.sc.am (w':=W.drew) (λ_ _=>rfl);have b2:=λo=>ar.sc.am (w':=(W.alloc o).drew) (mm g1 o);clear ar gs h1 fr bp;go_cut [5] (λx ps=>x=.bool (c.called c.nd.nm).isSome/\aa (b5 S kd u t O y f N c (xE V c r) (xP A) w.heap.size (w.heap.size+1) st ps)/\aa (Fr (RT u t) w ps));case first =>
  cases G:c.called c.nd.nm with
  | none =>
    have fv:=za (o5 c.nd.nm (c.nd.a:Int) W.drew b1 g1 h6 G);have fx:=za (λo=>o5 c.nd.nm (c.nd.a:Int) (W.alloc o).drew (b2 o) (by show N<=(W.alloc o).heap.size;simp;omega) h6 G);have Z:=za G;clear b1 b2 G m2 m3 m4 m5 dn ex cm
    go_region_held3 (λz=>z.cell? (xD w.heap.size 0)=some (xE V c r)/\z.cell? (xD w.heap.size 1)=some (xP A)/\z.cell? (xD A 0)=some (.string c.nd.nm)/\z.cell? (xD A 1)=some (xI c.nd.a))
     (first|(with_reducible (refine⟨?_,?_,?_,?_⟩ <;> repeat (first|assumption|refine zg ?_|refine zj _ ?_|refine zk (by omega) ?_|refine zd a.o ?_ (by first|omega|(rw[au];omega)))))|go_keep)
     (first
       | (go_at_call 100;refine fv.o.mono ?_;rintro e al ⟨rfl,b⟩;have a:=za (zw b);clear b)
       | (go_at_call 100;refine (fx.o _).mono ?_;rintro e al ⟨rfl,b⟩;have a:=za (zw b);obtain⟨ln,g6,qs,g7⟩:=zp ((a.o.block W.heap.size (by rw[au];omega)).trans (zc W _));clear b))
    . go_wp2_with fail;go_meet;exact⟨by rw[Z.o];rfl,(bt.o.aq a.o).aq (zq _ _),(bl.o.trans (zy a.o)).alloc _⟩
    go_wp2_with fail;go_meet;exact⟨by rw[Z.o];rfl,bt.o.aq (zC (zC (zE a.o) (an _) _) (an _) _),bl.o.trans (zy (zC (zC (zE a.o) (an _) _) (an _) _))⟩
  | some d =>
    have fv:=za (ji c.nd.nm (c.nd.a:Int) W.drew b1 g1 h6 G);have fx:=za (λo=>ji c.nd.nm (c.nd.a:Int) (W.alloc o).drew (b2 o) (by show N<=(W.alloc o).heap.size;simp;omega) h6 G);have Z:=za G;clear b1 b2 G m2 m3 m4 m5 dn ex cm
    go_region_held3 (λz=>z.cell? (xD w.heap.size 0)=some (xE V c r)/\z.cell? (xD w.heap.size 1)=some (xP A)/\z.cell? (xD A 0)=some (.string c.nd.nm)/\z.cell? (xD A 1)=some (xI c.nd.a))
     (first|(with_reducible (refine⟨?_,?_,?_,?_⟩ <;> repeat (first|assumption|refine zg ?_|refine zj _ ?_|refine zk (by omega) ?_|refine zd a.o ?_ (by first|omega|(rw[au];omega)))))|go_keep)
     (first
       | (go_at_call 100;refine fv.o.mono ?_;rintro e al ⟨x2,md,n2,rfl,nd,b⟩;have a:=za (zw b);clear b)
       | (go_at_call 100;refine (fx.o _).mono ?_;rintro e al ⟨x2,md,n2,rfl,nd,b⟩;have a:=za (zw b);obtain⟨ln,g6,qs,g7⟩:=zp ((a.o.block W.heap.size (by rw[au];omega)).trans (zc W _));clear b))
    . go_wp2_with fail;go_meet;exact⟨by rw[Z.o];rfl,(bt.o.aq a.o).aq (zq _ _),(bl.o.trans (zy a.o)).alloc _⟩
    go_wp2_with fail;go_meet;exact⟨by rw[Z.o];rfl,bt.o.aq (zC (zC (zE a.o) (an _) _) (an _) _),bl.o.trans (zy (zC (zC (zE a.o) (an _) _) (an _) _))⟩
 case rest =>
  obtain⟨rfl,a3,cv⟩:=hcut;obtain⟨P,b3⟩:∃P,(if (c.called c.nd.nm).isSome=true then [c.nd.a] else []).foldl aj st=P:=⟨_,rfl⟩;have bL:=za b3;rw[b3] at gl;generalize ne:(c.called c.nd.nm).isSome=wd at *;clear ne;clear b3 b1 b2 ev s1 ck cm m0 m1 m2 m3 m4 m5 dn g3 ex fd er bt bl;have h2:=cv.o.am hN (λk e=>by rcases e with e|e;exact e▸l1;exact e▸l2);obtain⟨ev,s1,ex,fd⟩:=zp a3.o.x1;obtain⟨ck,cm,er⟩:=zu a3.o.x2;obtain⟨m0,m1,m2,m3,m4,m5,dn,g3⟩:=zt ((h2 A C.o.lo).trans C.o.aC);unfold bT at ck;have pl:¬A=u:=by omega
  have pe:¬A=t:=by omega
  have pp:¬w.heap.size=u:=by omega
  have po:¬w.heap.size=t:=by omega
  have no:¬w.heap.size+1=u:=by omega
  have nm:¬w.heap.size+1=t:=by omega
  clear h2;go_upto_if 26 with fail;go_cut [] (λg5=>aa (b5 S kd u t O y f N c (xE V c r) (xP A) w.heap.size (w.heap.size+1) P g5)/\aa (Fr (RT u t) w g5));case first =>
   cases wd with
   | false => go_wp2_with fail;go_meet;rw[<- bL.o];exact⟨a3.o,cv.o⟩
   | true =>
     have l:=za (eg S kd u t O y f st c.nd.a wc.drew (a3.o.rp.aq (zo (Below.refl _ _))));go_upto_region 3 with fail
     go_region_held3 (λz=>z.cell? (xD w.heap.size 1)=some (xP A)/\z.cell? (xD (w.heap.size+1) 0)=some (.func (.func 124) #[] #[xP u,xP t,xP O])/\z.cell? (xD A 1)=some (xI c.nd.a))
      (first|(with_reducible (refine⟨?_,?_,?_⟩ <;> repeat (first|assumption|refine zg ?_|refine zS B.o ?_ (by omega) (by omega))))|go_keep)
      (first
        | (go_at_call 124;refine (l.o).mono ?_;rintro e g4 ⟨rfl,E,eb⟩;have R:=za E;have B:=za eb.cQ;clear E eb))
     go_wp2_with fail;go_meet;rw[<- bL.o];exact⟨a3.o.aX R.o B.o,cv.o.trans B.o⟩
  case rest =>
   obtain⟨ge,fV⟩:=hcut;clear bL ev s1 ex fd ck cm er m0 m1 m2 m3 m4 m5 dn g3 a3 cv;have h3:=fV.o.am hN (λk e=>by rcases e with e|e;exact e▸l1;exact e▸l2);obtain⟨ev,s1,ex,fd⟩:=zp ge.o.x1;obtain⟨m0,m1,m2,m3,m4,m5,dn,g3⟩:=zt ((h3 A C.o.lo).trans C.o.aC);clear h3;go_wp2_with fail;go_loopg [43] (c.nd.ab.length+1) (λj i wr=>∃k:Nat,k+j=c.nd.ab.length+1/\k<=c.nd.ab.length/\i=xI k/\aa (b5 S kd u t O y f N c (xE V c r) (xP A) w.heap.size (w.heap.size+1) ((dQ c (c.nd.ab.take k) 0).foldl aj P) wr)/\aa (Fr (RT u t) w wr));case atStart=>exact⟨0,by omega,aE _,rfl,ge.o,fV.o⟩
   case round =>
    clear ge fV ev s1 ex fd m0 m1 m2 m3 m4 m5 dn g3;obtain⟨k,ip,o8,rfl,n,H⟩:=hrel;have L:=H.o.am hN (λk e=>by rcases e with e|e;exact e▸l1;exact e▸l2);obtain⟨ck,i7,cm,er⟩:=zp n.o.x1;obtain⟨a0,g2,es⟩:=zu n.o.x2;unfold bT at a0;have c3:=n.o.hN;by_cases c9:k<c.nd.ab.length
    . obtain⟨v,hv⟩:∃v,c.nd.ab[k]?=some v:=⟨_,av c9⟩;obtain⟨g,rfl,i9,kw,l6,qv,rd,rg,ro⟩:=hj (C.o.am L).bZ hv;have m9:=C.o.jc g rfl;have M:dQ c (c.nd.ab.take (k+1)) 0=dQ c (c.nd.ab.take k) 0++((if (c.nd.find v.nm).getD 0<k then [v.a] else [])++(if (ba v != 0&&!c.has v.ck)=true then [v.ca] else [])++[]):=by
       rw[kN hv,G2];have:0+(c.nd.ab.take k).length=k:=by simp;omega
       rw[this];rfl
      have c0:=za (λo=>rK v.nm (wr.alloc o) ((C.o.am L).am (mm c3 o)));have i0:w.heap.size<wr.heap.size+1:=(by omega);have i2:w.heap.size+1<wr.heap.size+1:=(by omega);obtain⟨ds,h8⟩:∃ds,c.nd.find v.nm=ds:=⟨_,rfl⟩;rw[h8] at c0 M;obtain⟨ak,b4⟩:∃ak,(if ds.getD 0<k then [v.a] else []).foldl aj ((dQ c (c.nd.ab.take k) 0).foldl aj P)=ak:=⟨_,rfl⟩;have be:aa ((dQ c (c.nd.ab.take (k+1)) 0).foldl aj P=(if (ba v != 0&&!c.has v.ck)=true then [v.ca] else []).foldl aj ak):=(by unfold aa;rw[M,bc,bc,bc,b4];rfl);have a2:=za b4;have lo:∀W:Xw,xB wr W->True:=λ_ _=>trivial;clear M h8 b4 L lo;unfold pF at c0;go_upto_if 60 with (go_at_call 101;refine (c0.o _).mono ?_;rintro e al ⟨rfl,b⟩;(have h7:=(b.block wr.heap.size (by simp)).trans (zc wr _));have cn:=za h7;have a:=za (zE b);clear b h7);go_cut [] (λg5=>aa (b5 S kd u t O y f N c (xE V c r) (xP A) w.heap.size (w.heap.size+1) ak g5)/\aa (Fr (RT u t) w g5)/\aa (xH g5 wr.heap.size #[.string v.nm,xI v.a,xI (dv v:Nat),xI (ba v:Nat),xI v.on,.string v.ck,xI v.ca] 156));case first =>
       by_cases c4:ds.getD 0<k
       . have h9:((ds.getD 0:Nat):Int)<(k:Int):=(by omega);rw[ag c4] at a2;obtain⟨x0,x1,x2,x3,wf,wn,pt,wp,n1⟩:=eK cn.o;have mp:=zd a.o a0 es;have l:=za (eg S kd u t O y f _ v.a al (n.o.aq a.o).rp);clear c4;generalize ds.getD 0=ry at *;go_wp2_with (go_at_call 124;refine l.o.mono ?_;rintro e g4 ⟨rfl,E,J⟩;have R:=za E;have B:=za J;clear E J);go_meet;rw[<- a2.o];exact⟨(n.o.aq a.o).aX R.o B.o,(H.o.trans (zy a.o)).trans B.o,(B.o.block _ n1 (λe=>by rcases e with e|e <;> omega)).trans cn.o⟩
       have h9:¬((ds.getD 0:Nat):Int)<(k:Int):=(by omega);rw[ae c4] at a2;clear c4;generalize ds.getD 0=ry at *;go_wp2_with fail;go_meet;rw[<- a2.o];exact⟨n.o.aq a.o,H.o.trans (zy a.o),cn.o⟩
      case rest =>
       obtain⟨Y,gc,ls⟩:=hcut;clear ck i7 cm er a0 g2 es i9 kw l6 qv rd rg ro cn a c0;obtain⟨ck,i7,cm,er⟩:=zp Y.o.x1;obtain⟨a0,g2,es⟩:=zu Y.o.x2;unfold bT at a0;obtain⟨x0,x1,x2,x3,wf,wn,pt,wp,n1⟩:=eK ls.o;by_cases a9:ba v=0
       . have i3:((ba v:Int) != 0)=false:=(by simp[a9]);have bE:aa ((dQ c (c.nd.ab.take (k+1)) 0).foldl aj P=ak):=(by unfold aa;rw[be.o];simp[a9]);clear a9 be hv;generalize ba v=sg at *;go_wp2_with fail;go_roundg (gk-1);case measure=>omega
         refine⟨k+1,by omega,by omega,by go_num,?_,gc.o⟩;rw[bE.o];exact Y.o
       have i3:((ba v:Int) != 0)=true:=(by simp;omega);have i8:=za (pv v.ck (v.ca:Int) wc Y.o.sc Y.o.hN);cases D:c.has v.ck with
       | true =>
         have m:(c.nd.find v.ck).isSome=true:=D;rw[m] at i8;have bE:aa ((dQ c (c.nd.ab.take (k+1)) 0).foldl aj P=ak):=(by unfold aa;rw[be.o,D];simp);clear a9 be hv D m;generalize ba v=sg at *;go_wp2_with (go_at_call 102;refine i8.o.mono ?_;rintro e al ⟨rfl,b⟩;have a:=za b;clear b);go_roundg (gk-1);case measure=>omega
         refine⟨k+1,by omega,by omega,by go_num,?_,gc.o.trans (zy a.o)⟩;rw[bE.o];exact Y.o.aq a.o
       | false =>
         have m:(c.nd.find v.ck).isSome=false:=D;rw[m] at i8;have bE:aa ((dQ c (c.nd.ab.take (k+1)) 0).foldl aj P=aj ak v.ca):=(by unfold aa;rw[be.o,D];simp[a9]);clear a9 be hv D m;generalize ba v=sg at *
         go_wp2_with (first
          | (go_at_call 124;refine l.o.mono ?_;rintro e g4 ⟨rfl,E,J⟩;have R:=za E;have B:=za J;clear E J)
          | (go_at_call 102;refine i8.o.mono ?_;rintro e al ⟨rfl,b⟩;have a:=za b;have mp:=zd a.o a0 es;have w0:=zd a.o pt n1;have l:=za (eg S kd u t O y f ak v.ca al (Y.o.aq a.o).rp);clear b))
         go_roundg (gk-1);case measure=>omega
         refine⟨k+1,by omega,by omega,by go_num,?_,(gc.o.trans (zy a.o)).trans B.o⟩;rw[bE.o];exact (Y.o.aq a.o).aX R.o B.o
    have hu:k=c.nd.ab.length:=(by omega);subst hu;rw[List.take_length] at n;obtain⟨ca,em⟩:∃ca,(dQ c c.nd.ab 0).foldl aj P=ca:=⟨_,rfl⟩;rw[em] at n gl;obtain⟨un,up,n2,vs,vv,vz,v0,v2⟩:=zt ((L A C.o.lo).trans C.o.aC);clear em L a0 g2;go_wp2_with fail;go_loopg [92] (c.nd.eqs.length+1) (λj i wr=>∃k:Nat,k+j=c.nd.eqs.length+1/\k<=c.nd.eqs.length/\i=xI k/\aa (b5 S kd u t O y f N c (xE V c r) (xP A) w.heap.size (w.heap.size+1) (((c.nd.eqs.take k).flatMap λq=>z7 c q.ns q.ps).foldl aj ca) wr)/\aa (Fr (RT u t) w wr));case atStart=>exact⟨0,by omega,aE _,rfl,n.o,H.o⟩
    case round =>
     clear n H un up n2 vs vv vz v0 v2 ck i7 cm er ip o8 c9;obtain⟨k,ip,o8,rfl,n,H⟩:=hrel;have L:=H.o.am hN (λk e=>by rcases e with e|e;exact e▸l1;exact e▸l2);obtain⟨ck,i7,cm,er⟩:=zp n.o.x1;obtain⟨a0,g2,es⟩:=zu n.o.x2;unfold bT at a0;have c3:=n.o.hN;by_cases c9:k<c.nd.eqs.length
     . obtain⟨fq,rfl⟩:∃fq,fq=wr:=⟨_,rfl⟩;obtain⟨m6,rfl⟩:∃g,g=gk:=⟨_,rfl⟩;obtain⟨q,le⟩:∃q,c.nd.eqs[k]?=some q:=⟨_,av c9⟩;have g0:=C.o.am L;obtain⟨g,xv,xS,rfl,i9,kw,l6,hQ⟩:=lj g0.own g0.eqs le rfl;obtain⟨rb,_,_,rfl,_⟩:=hQ.tt.ptr;obtain⟨qr,n3,rfl⟩:=zB hQ.own;have m9:=C.o.ko g rfl;have HEq:=za hQ;have i1:=l3.o q (aM le);have hg:=za i1;have g8:=za (xU (λq=>z7 c q.ns q.ps) le ca);obtain⟨Q,eq⟩:∃Q,((c.nd.eqs.take k).flatMap λq=>z7 c q.ns q.ps).foldl aj ca=Q:=⟨_,rfl⟩;rw[eq] at g8 n;have sn:q.ns.length<=9223372036854775807:=by
        rcases hQ.own.2 with ⟨_,h⟩|⟨g,c2,mk,hv,_,_,sE,m7,_⟩
        . omega
        unfold maxLen at m7;omega
       have i0:w.heap.size<fq.heap.size+1:=(by omega);have i2:w.heap.size+1<fq.heap.size+1:=(by omega);have hm:=za (zy (T:=RT u t) (zq fq (.cells #[.slice qr q.ns.length n3,xI q.a,xP rb] 161)));have he:=za (n.o.aq (zq fq (.cells #[.slice qr q.ns.length n3,xI q.a,xP rb] 161)));clear g0 hQ le eq i1 L;go_wp2_with fail;go_loopg [99] (q.ns.length+1) (λj i wr=>∃F:Nat,F+j=q.ns.length+1/\F<=q.ns.length/\i=xI F/\aa (b5 S kd u t O y f N c (xE V c r) (xP A) w.heap.size (w.heap.size+1) ((z7 c (q.ns.take F) (q.ps.take F)).foldl aj Q) wr)/\aa (Fr (RT u t) fq wr));case atStart=>exact⟨0,by omega,aE _,rfl,he.o,hm.o⟩
       case round =>
        clear he hm i9 kw l6 a0 g2 ck i7;obtain⟨F,pb,ta,rfl,a4,c1⟩:=hrel;obtain⟨ns,nt,v3,v4⟩:=zp a4.o.x1;obtain⟨nx,v5,v9⟩:=zu a4.o.x2;have s2:=a4.o.hN;have tr:=c1.o.size;by_cases it:F<q.ns.length
        . obtain⟨s,nb⟩:∃s,q.ns[F]?=some s:=⟨_,av it⟩;obtain⟨p,na⟩:∃p,q.ps[F]?=some p:=⟨_,av (by have:=hg.o;omega)⟩;have h4:=c1.o.am c3 (λk e=>by rcases e with e|e;exact e▸l1;exact e▸l2);obtain⟨sc,rfl,i9,kw⟩:=kG (HEq.o.am h4).own nb na rfl;have o7:=HEq.o.lo sc rfl;have M:=G5 (c:=c) nb na;have tt:(0:Int)<=(F:Int):=(by omega);have tx:(F:Int)<(q.ns.length:Int):=(by omega);clear h4 nb na;go_upto_region 19 with fail;refine zn (λW3=>aa (b5 S kd u t O y f N c (xE V c r) (xP A) w.heap.size (w.heap.size+1) ((z7 c (q.ns.take F) (q.ps.take F)).foldl aj Q) W3)/\aa (Fr (RT u t) fq W3)/\xH W3 wr.heap.size #[.string s,xI p] 144) ⟨a4.o.aq (zq wr _),c1.o.alloc _,zc wr _⟩ ?_;rintro W3 ⟨I,cs,h5⟩;obtain⟨ev,s1,ex,fd⟩:=zp I.o.x1;obtain⟨a0,g2,es⟩:=zu I.o.x2;unfold bT at a0;obtain⟨ln,g6,qs,g7⟩:=zp h5;have h0:=(H.o.trans cs.o).am hN (λk e=>by rcases e with e|e;exact e▸l1;exact e▸l2);obtain⟨m0,m1,m2,m3,m4,m5,dn,g3⟩:=zt ((h0 A C.o.lo).trans C.o.aC);have m8:=I.o.hN;have bs:=za (pv s (p:Int) W3.drew (I.o.sc.am (λ_ _=>rfl)) m8);have g9:=za (λW (ok:xB W3 W)=>hW s (p:Int) W (I.o.aq ok).sc (I.o.aq ok).hN);clear h5 h0 ns nt nx m0 m1 m2 m4 m5 dn;cases D:c.has s with
          | false =>
            have m:(c.nd.find s).isSome=false:=D;rw[m] at bs;have be:aa ((z7 c (q.ns.take (F+1)) (q.ps.take (F+1))).foldl aj Q=aj ((z7 c (q.ns.take F) (q.ps.take F)).foldl aj Q) p):=(by unfold aa;rw[M,bc,D];rfl);clear D m M;refine wp_region_held_drew (S:=(λz=>z.cell? (xD w.heap.size 0)=some (xE V c r)/\z.cell? (xD w.heap.size 1)=some (xP A)/\z.cell? (xD wr.heap.size 0)=some (.string s)/\z.cell? (xD wr.heap.size 1)=some (xI p))) (by kernel_rfl) ⟨zg ev,zg s1,zg ln,zg g6⟩ (λgt=>?_);refine wpAnyH_take (i:=0) (v:=.agg #[xE V c r,xP A]) rfl (by kernel_rfl) (by kernel_rfl) (by kernel_rfl) (λ_ _ _ h=>h) (ao ⟨by rfl,?_⟩) (by assumption) ?_
            . (intro lk U;(try dsimp only at U);go_simp)
            try simp only[Act.put,aD]
            refine wpAnyH_take (i:=1) (v:=.agg #[.string s,xI p]) rfl (by kernel_rfl) (by kernel_rfl) (by kernel_rfl) (λ_ _ _ h=>h) (ao ⟨by rfl,?_⟩) (by assumption) ?_
            . (intro lk U;(try dsimp only at U);go_simp)
            try simp only[Act.put,aD]
            refine wpAnyH_ready (rs:=[2]) (by kernel_rfl) (by simp) ?_;refine AllReadyH.cons rfl (λK op=>?_) AllReadyH.nil;go_simp;go_at_call 102;refine bs.o.mono ?_;rintro e al ⟨rfl,b⟩;have a:=za (zw b);clear b;go_wp2_with fail;refine op.out _ _ ⟨zd a.o ev fd,zd a.o s1 fd,zd a.o ln g7,zd a.o g6 g7⟩ (λgt=>?_);clear op K;try simp only[Act.put,aD]
            refine wpAnyH_take (i:=3) (v:=.bool true) rfl (by kernel_rfl) (by kernel_rfl) (by kernel_rfl) (λ_ _ _ h=>h) (ao ⟨by rfl,?_⟩) (by assumption) ?_
            . (intro lk U;(try dsimp only at U);go_simp)
            try simp only[Act.put,aD]
            refine wpAnyH_take (i:=4) (v:=.bool true) rfl (by kernel_rfl) (by kernel_rfl) (by kernel_rfl) (λ_ _ _ h=>h) (ao ⟨by rfl,?_⟩) (by assumption) ?_
            . (intro lk U;(try dsimp only at U);go_simp)
            try simp only[Act.put,aD]
            refine wpAnyH_take (i:=5) (v:=undef) rfl (by kernel_rfl) (by kernel_rfl) (by kernel_rfl) (λ_ _ _ h=>h) (ap ⟨by rfl,rfl⟩) (by assumption) ?_;try simp only[Act.put,aD]
            refine wpAnyH_take (i:=6) (v:=undef) rfl (by kernel_rfl) (by kernel_rfl) (by kernel_rfl) (λ_ _ _ h=>h) (ap ⟨by rfl,rfl⟩) (by assumption) ?_;try simp only[Act.put,aD]
            refine wpAnyH_take (i:=7) (v:=undef) rfl (by kernel_rfl) (by kernel_rfl) (by kernel_rfl) (λ_ _ _ h=>h) (ap ⟨by rfl,rfl⟩) (by assumption) ?_;try simp only[Act.put,aD]
            refine wpAnyH_take (i:=8) (v:=undef) rfl (by kernel_rfl) (by kernel_rfl) (by kernel_rfl) (λ_ _ _ h=>h) (ap ⟨by rfl,rfl⟩) (by assumption) ?_;try simp only[Act.put,aD]
            refine wpAnyH_take (i:=9) (v:=undef) rfl (by kernel_rfl) (by kernel_rfl) (by kernel_rfl) (λ_ _ _ h=>h) (ap ⟨by rfl,rfl⟩) (by assumption) ?_;try simp only[Act.put,aD]
            refine wpAnyH_take (i:=10) (v:=undef) rfl (by kernel_rfl) (by kernel_rfl) (by kernel_rfl) (λ_ _ _ h=>h) (ap ⟨by rfl,rfl⟩) (by assumption) ?_;try simp only[Act.put,aD]
            refine wpAnyH_take (i:=11) (v:=undef) rfl (by kernel_rfl) (by kernel_rfl) (by kernel_rfl) (λ_ _ _ h=>h) (ap ⟨by rfl,rfl⟩) (by assumption) ?_;try simp only[Act.put,aD]
            refine wpAnyH_take (i:=12) (v:=undef) rfl (by kernel_rfl) (by kernel_rfl) (by kernel_rfl) (λ_ _ _ h=>h) (ap ⟨by rfl,rfl⟩) (by assumption) ?_;try simp only[Act.put,aD]
            refine wpAnyH_take (i:=13) (v:=undef) rfl (by kernel_rfl) (by kernel_rfl) (by kernel_rfl) (λ_ _ _ h=>h) (ap ⟨by rfl,rfl⟩) (by assumption) ?_;try simp only[Act.put,aD]
            refine wpAnyH_take (i:=14) (v:=undef) rfl (by kernel_rfl) (by kernel_rfl) (by kernel_rfl) (λ_ _ _ h=>h) (ap ⟨by rfl,rfl⟩) (by assumption) ?_;try simp only[Act.put,aD]
            refine wpAnyH_take (i:=15) (v:=undef) rfl (by kernel_rfl) (by kernel_rfl) (by kernel_rfl) (λ_ _ _ h=>h) (ap ⟨by rfl,rfl⟩) (by assumption) ?_;try simp only[Act.put,aD]
            refine wpAnyH_take (i:=16) (v:=.bool true) rfl (by kernel_rfl) (by kernel_rfl) (by kernel_rfl) (λ_ _ _ h=>h) (ao ⟨by rfl,?_⟩) (by assumption) ?_
            . (intro lk U;(try dsimp only at U);go_simp)
            try simp only[Act.put,aD]
            refine wpAnyH_done (by kernel_rfl) ?_ _
            all_goals
             have mp:=zd a.o a0 es;have rL:=zd a.o g6 g7;have l:=za (eg S kd u t O y f _ p al (I.o.aq a.o).rp);go_wp2_with (go_at_call 124;refine l.o.mono ?_;rintro e g4 ⟨rfl,E,J⟩;have R:=za E;have B:=za J;clear E J);go_roundg (gk-1);case measure=>omega
             refine⟨F+1,by omega,by omega,by go_num,?_,(cs.o.trans (zy a.o)).trans B.o⟩;rw[be.o];exact (I.o.aq a.o).aX R.o B.o
          | true =>
            have m:(c.nd.find s).isSome=true:=D;rw[m] at bs;by_cases c5:c.idx s<c.nd.ah
            . have io:((c.idx s:Nat):Int)<(c.nd.ah:Int):=(by omega);have be:aa ((z7 c (q.ns.take (F+1)) (q.ps.take (F+1))).foldl aj Q=aj ((z7 c (q.ns.take F) (q.ps.take F)).foldl aj Q) p):=(by unfold aa;rw[M,bc,D];simp[c5]);clear D m M c5;generalize c.idx s=ts at *
              go_region_held3 (λz=>z.cell? (xD w.heap.size 0)=some (xE V c r)/\z.cell? (xD w.heap.size 1)=some (xP A)/\z.cell? (xD wr.heap.size 0)=some (.string s)/\z.cell? (xD wr.heap.size 1)=some (xI p)/\z.cell? (xD A 3)=some (xI c.nd.ah))
               (first|(with_reducible (refine⟨?_,?_,?_,?_,?_⟩ <;> repeat (first|assumption|refine zg ?_|refine zj _ ?_|refine zk (by omega) ?_|refine zd bk.o ?_ (by first|omega|(rw[au];omega))|refine zd a.o ?_ (by first|omega|(rw[au];omega)))))|go_keep)
               (first
                 | (go_at_call 103;refine bx.o.mono ?_;rintro e g4 ⟨rfl,b0⟩;have bk:=za b0;clear b0)
                 | (go_at_call 102;refine bs.o.mono ?_;rintro e al ⟨rfl,b⟩;have a:=za (zw b);(have i4:W3.heap.size<=al.heap.size:=b.size);have bx:=za (g9.o al a.o);clear b))
              all_goals
               have X:=za (a.o.trans (bk.o.mono a.o.size));have mp:=zd X.o a0 es;have rL:=zd X.o g6 g7;have l:=za (eg S kd u t O y f _ p g4 (I.o.aq X.o).rp);go_wp2_with (go_at_call 124;refine l.o.mono ?_;rintro e zi ⟨rfl,E,J⟩;have R:=za E;have B:=za J;clear E J);go_roundg (gk-1);case measure=>omega
               refine⟨F+1,by omega,by omega,by go_num,?_,(cs.o.trans (zy X.o)).trans B.o⟩;rw[be.o];exact (I.o.aq X.o).aX R.o B.o
            have io:¬((c.idx s:Nat):Int)<(c.nd.ah:Int):=(by omega);have be:aa ((z7 c (q.ns.take (F+1)) (q.ps.take (F+1))).foldl aj Q=(z7 c (q.ns.take F) (q.ps.take F)).foldl aj Q):=(by unfold aa;rw[M,bc,D];simp[c5]);clear D m M c5;generalize c.idx s=ts at *
            go_region_held3 (λz=>z.cell? (xD w.heap.size 0)=some (xE V c r)/\z.cell? (xD w.heap.size 1)=some (xP A)/\z.cell? (xD wr.heap.size 0)=some (.string s)/\z.cell? (xD wr.heap.size 1)=some (xI p)/\z.cell? (xD A 3)=some (xI c.nd.ah))
             (first|(with_reducible (refine⟨?_,?_,?_,?_,?_⟩ <;> repeat (first|assumption|refine zg ?_|refine zj _ ?_|refine zk (by omega) ?_|refine zd bk.o ?_ (by first|omega|(rw[au];omega))|refine zd a.o ?_ (by first|omega|(rw[au];omega)))))|go_keep)
             (first
               | (go_at_call 103;refine bx.o.mono ?_;rintro e g4 ⟨rfl,b0⟩;have bk:=za b0;clear b0)
               | (go_at_call 102;refine bs.o.mono ?_;rintro e al ⟨rfl,b⟩;have a:=za (zw b);(have i4:W3.heap.size<=al.heap.size:=b.size);have bx:=za (g9.o al a.o);clear b))
            all_goals
             have X:=za (a.o.trans (bk.o.mono a.o.size));go_wp2_with fail;go_roundg (gk-1);case measure=>omega
             refine⟨F+1,by omega,by omega,by go_num,?_,cs.o.trans (zy X.o)⟩;rw[be.o];exact I.o.aq X.o
        have hu:F=q.ns.length:=(by omega);subst hu;rw[List.take_length,hg.o,List.take_length] at a4;go_wp2_with fail;go_roundg (m6-1);case measure=>omega
        refine⟨k+1,by omega,by omega,by go_num,?_,H.o.trans c1.o⟩;rw[g8.o];exact a4.o
     have hu:k=c.nd.eqs.length:=(by omega);subst hu;rw[List.take_length] at n;have or:=HZ S kd u t O y f N c h6 (xE V c r) (xP A) w.heap.size (w.heap.size+1) l1 l2;have l5:=za (rD or A _ _ xs _ wr (C.o.am L) c3 (λk e=>by have:=H.o.size;rcases e with e|e <;> omega) n.o);have te:∀(fn:Go.Fn) (first c2:Xa) (w:Xw),(Instr.makeFunc fn first c2).run prog w=.ok (.func fn first c2) w:=λ_ _ _ _=>rfl;clear or L a0 g2;go_wp2_with (go_at_call 104;refine l5.o.mono ?_;rintro e al ⟨rfl,hT,hR⟩;have lv:=za hT;have lt:=za hR;clear hT hR);first|go_end0|refine bodyPost_ret (results_none rfl _ _ _) rfl ?_
     refine⟨rfl,?_,H.o.trans lt.o⟩;rw[gl.o];have:=lv.o.rp;simp only[xx] at this;exact this
end
section
variable {a:List ay} {k:Nat} {n:ay}
attribute [local go_sem ↓] Go.wp_at_zero Go.wp_at_succ
def sp (S:Xs)(l h g i:Nat)(d b:Xv)(N:Nat)(f:FuncId)(L:Sc->List Nat)(c:Sc):Prop :=
 ∀(j m:Xv) (o:Xo) (w:Xw),cl S l h g i d b o w->br w N c j m->N<=w.heap.size ->
  xK f #[.agg #[j,m],bT h g i] w (λe p=>e=.returned (.tuple #[])/\cl S l h g i d b ((L c).foldl aj o) p/\Fr (RT h g) w p)
def mx (a:List ay)(k:Nat):List Sc:=(List.range k).filterMap λi=>(a[i]?).map λn=>⟨a.take i,n⟩
theorem H0 (h:a[k]?=some n):mx a (k+1)=mx a k++[⟨a.take k,n⟩]:=by unfold mx;rw[List.range_succ,List.filterMap_append];simp[h]
theorem J8 (h:a[k]?=some n):(⟨a.take k,n⟩:Sc)∈bB a:=by unfold bB;rw[List.mem_filterMap];exact⟨k,List.mem_range.2 (aB.1 h).1,by rw[h];rfl⟩
theorem J1 (S:Xs)(C h g z:Nat)(l b:Xv)(N:Nat)(f:FuncId)(y:zH f)(L:Sc->List Nat)(a:List ay)(W:∀c∈bB a,sp S C h g z l b N f L c)(V:Xv)(o:Nat)(e:Xy)(A:Xo)(w:Xw)(Y:cl S C h g z l b A w)(R:PT w N a V)(hN:N<=w.heap.size)(l1:N<=h)(l2:N<=g)(s:w.heap[o]?=some (.cells #[.func (.func f) #[] #[]] e (0,0)))(d1:¬o=h)(d2:¬o=g) :
 xK 98 #[V,bT h g z,xP o] w (λe D=>e=.returned (.tuple #[])/\cl S C h g z l b (((bB a).flatMap L).foldl aj A) D/\Fr (RT h g) w D):=by
 have y:∀(m:Xa) (w:Xw),(callFunc f m).run prog w=.ok (.enter f m) w:=y;have X:=za R;have v:=ze s;obtain⟨bp,bs,xs,rfl,a2,U,M⟩:=R;have h6:=M.bO;obtain⟨x,bl,rfl,a0,a4,K⟩:=M.ne;obtain⟨a9,bE,bL⟩:=zu U;clear K M U;unfold bT;go_enter func98,ntmps98;go_wp2_with fail;go_loopg [11] (a.length+1) (λj i wr=>∃k:Nat,k+j=a.length+1/\k<=a.length/\i=xI k/\aa (cl S C h g z l b (((mx a k).flatMap L).foldl aj A) wr)/\aa (Fr (RT h g) w wr));case atStart=>exact⟨0,by omega,aE _,rfl,Y,Fr.refl _ _⟩
 case round =>
  obtain⟨k,a3,bt,rfl,P,q⟩:=hrel;clear a9;by_cases O:k<a.length
  . obtain⟨n,B⟩:∃n,a[k]?=some n:=⟨_,av O⟩;have Q:=q.o.am hN (λk e=>by rcases e with e|e;exact e▸l1;exact e▸l2);have bx:=q.o.size;have u:N<=wr.heap.size:=by omega
    have G:=za (G1 k n wr.drew ((X.o.am Q).am (λ_ _=>rfl)) u B);have p:=W _ (J8 B);unfold sp bT at p;have T:=H0 B;have Z:aa (((mx a (k+1)).flatMap L).foldl aj A=(L ⟨a.take k,n⟩).foldl aj (((mx a k).flatMap L).foldl aj A)):=(by unfold aa;rw[T,List.flatMap_append,bc];simp);obtain⟨H,bk,I⟩:=zu ((q.o.block o v (λe=>by rcases e with e|e <;> omega)).trans s);generalize ar:(⟨a.take k,n⟩:Sc)=c at *;clear T B Q ar;go_wp2_with fail
    go_region_held3 (λD=>D.cell? (xD o 0)=some (.func (.func f) #[] #[]))
     (first
       | exact zg H
       | exact zd d.o H I
       | exact b0)
     (first
       | (refine (p _ _ _ be (P.o.aq d.o) F J).mono ?_;rintro e b1 ⟨rfl,E,r⟩;have b0:=(World.cell?_of_block (r.block o (dD I d.o.size) (λe=>by rcases e with e|e <;> omega))).trans (zd d.o H I))
       | (go_at_call 99;refine G.o.mono ?_;rintro e be ⟨x1,ak,a5,rfl,F,t⟩;have d:=za (zw t);have J:=aJ u d.o.size;clear t))
    go_wp2_with fail;go_roundg (gk-1);case measure=>omega
    refine⟨k+1,by omega,by omega,by go_num,?_,(q.o.trans (zy d.o)).trans r⟩;rw[Z.o];exact E
  have al:k=a.length:=by omega
  subst al;go_wp2_with fail;first|go_end0|refine bodyPost_ret (results_none rfl _ _ _) rfl ?_
  exact⟨rfl,P.o,q.o⟩
end
section
attribute [local go_sem ↓] Go.wp_at_zero Go.wp_at_succ
theorem Hz (f:FuncId)(w:Xw) :
 xK 53 #[.func (.func f) #[] #[]] w (λe c=>e=.returned (.func (.func 98) #[] #[xP w.heap.size])/\∃t,c=w.alloc (.cells #[.func (.func f) #[] #[]] t (0,0))):=by
 have b:∀(fn:Go.Fn) (first a:Xa) (w:Xw),(Instr.makeFunc fn first a).run prog w=.ok (.func fn first a) w:=λ_ _ _ _=>rfl;go_enter func53,ntmps53;go_wp2_with fail;go_ret;exact⟨rfl,_,rfl⟩
def Ls (S:Xs)(h d c g:Nat)(b a:Xv)(F:FuncId)(f:Xa)(j:Xv)(l:Xn)(w:Xw):Prop :=
 cl S h d c g b a none w->xK F (#[j,bT d c g]++f) w (λe i=>e=.returned (.tuple #[])/\cl S h d c g b a (l.foldl aj none) i/\Fr (RT d c) w i)
theorem yu (S:Xs)(g:Nat)(nm:Xb)(F:FuncId)(j:zH F)(a:Xa)(s:Nat)(l:Xn)(w:Xw)
 (t:∀W,xB w W->Ls S g (w.heap.size+1) (w.heap.size+1+1) w.heap.size (.string nm) (.func (.func F) #[] a) F a (xP s) l W) :
 xK 60 #[.agg #[.string nm,aW S g,.func (.func F) #[] a],xP s] w (λe o=>e=.returned (gI S g (zO l))/\xB w o):=by
 have j:∀(d:Xa) (w:Xw),(callFunc F d).run prog w=.ok (.enter F d) w:=j;have x:∀(fn:Go.Fn) (first a:Xa) (w:Xw),(Instr.makeFunc fn first a).run prog w=.ok (.func fn first a) w:=λ_ _ _ _=>rfl;have f:=mg w (.cells #[.string nm,.iface 399 (.pointer (some (S g))),.func (.func F) #[] a] 117 (0,0)) (.cells #[.nilIface] 42 (0,0)) (.cells #[xI 0] 3 (0,0));have c:=iu w (.cells #[.string nm,.iface 399 (.pointer (some (S g))),.func (.func F) #[] a] 117 (0,0)) (.cells #[.nilIface] 42 (0,0)) (.cells #[xI 0] 3 (0,0));have i:cl S g (w.heap.size+1) (w.heap.size+1+1) w.heap.size (.string nm) (.func (.func F) #[] a) none _:=⟨c.2.1,c.2.2,c.1,by omega,by omega,by omega⟩;have q:=t _ f i;unfold bT at q;have r:=za q;have b:=za f;clear t q f c i;unfold aW;go_enter func60,ntmps60;go_wp2_with fail;refine r.o.mono ?_;rintro e o ⟨rfl,u,hF⟩;have h:aa (xB w o):=⟨hF.os.trans b.o.os,hF.tape.trans b.o.tape,hF.output.trans b.o.output,aJ b.o.size hF.size,λk v=>(hF.block k (dD v b.o.size) (λe=>by rcases e with e|e <;> omega)).trans (b.o.block k v)⟩;obtain⟨m,y,z⟩:=zu u.l;clear u hF r b;change o.cell? _=some (gI S g (zO l)) at m;cases n:zO l with
 | none => rw[n] at m;unfold gI at m;go_wp2_with fail;go_ret;exact⟨by rw[n];rfl,h.o⟩
 | some p => rw[n] at m;unfold gI aW at m;go_wp2_with fail;go_ret;exact⟨by rw[n];rfl,h.o⟩
end
section
theorem Tryz.s5:(prog.info? 4).map (λi=>(i.zero,i.size,i.bytes))=some (some (.bool false),1,1):=by kernel_rfl
def cZ (l:Xk):List Value:=l.map .bool
theorem yg (n:Nat)(h:n<=3145728)(w:Xw):(Instr.makeSlice 174 (xI (n:Int)) (xI (n:Int))).run prog w=.ok (xS w.heap.size n n) (w.alloc (.cells (cZ (List.replicate n false)).toArray 4)):=by
 obtain⟨e,d,a,b,c⟩:=info_parts Tryz.s5;have:=run_make (P:=prog) w 174 4 e _ underlying174 d a .i64 .i64 (n:Int) (n:Int) (by omega) (by omega) (by rw[c];omega) (by omega);refine this.trans ?_;rw[b];simp only[Int.toNat_natCast,Nat.mul_one];refine congrArg (λx=>Result.ok (xS w.heap.size n n) (w.alloc (.cells x 4))) ?_;unfold madeCells;apply Array.ext
 . simp[cZ]
 intro j f g;simp[cZ,Value.cells,Nat.mod_one]
theorem j4 {w:Xw}{b k:Nat}{d:Xk}{e:Xy}{x:Bool}(h:w.heap[b]?=some (.cells (cZ d).toArray e (0,0)))(a:d[k]?=some x):w.cell? (xD b k)=some (.bool x):=by simp[World.cell?,h,cZ,a]
end
section
variable {d:Xk} {N A u f n l m:Nat} {S:Xs} {x:Xo} {c:Sc} {r y t z:Xv} {w B:Xw}
attribute [local go_sem ↓] Go.wp_at_zero Go.wp_at_succ
theorem HM (c:Sc)(a:Xn)(d:Xk):ee c [] a d=([],d):=by cases a <;> rfl
structure ho (S:Xs) (n l f m:Nat) (t r:Xv) (N:Nat) (c:Sc) (y z:Xv) (A u:Nat) (d:Xk) (x:Xo) (w:Xw):Prop where
 rp:cl S n l f m t r x w
 sc:br w N c y z
 x1:w.heap[A]?=some (.cells #[y,z] 205 (0,0))
 x2:w.heap[u]?=some (.cells (cZ d).toArray 4 (0,0))
 d1:¬A=l
 d2:¬A=f
 d3:¬u=l
 d4:¬u=f
 d5:¬A=u
 d6:¬u=m
 l1:N<=l
 l2:N<=f
 l3:N<=u
 hN:N<=w.heap.size
theorem ho.aq (h:ho S n l f m t r N c y z A u d x w)(a:xB w B):ho S n l f m t r N c y z A u d x B :=
 ⟨h.rp.aq a,h.sc.am (zm a h.hN),(a.block _ (ze h.x1)).trans h.x1,(a.block _ (ze h.x2)).trans h.x2,h.d1,h.d2,h.d3,h.d4,h.d5,h.d6,h.l1,h.l2,h.l3,aJ h.hN a.size⟩
theorem ho.aX {a:Xo}(h:ho S n l f m t r N c y z A u d x w)(p:cl S n l f m t r a B)(b:Fr (RT l f) w B):ho S n l f m t r N c y z A u d a B:=by have g:=h.d1;have i:=h.d2;have j:=h.d3;have o:=h.d4;have q:=h.l1;have s:=h.l2;exact⟨p,h.sc.am (b.am h.hN (λk e=>by rcases e with e|e;exact e▸q;exact e▸s)),(b.block _ (ze h.x1) (λe=>by rcases e with e|e;exact g e;exact i e)).trans h.x1,(b.block _ (ze h.x2) (λe=>by rcases e with e|e;exact j e;exact o e)).trans h.x2,h.d1,h.d2,h.d3,h.d4,h.d5,h.d6,h.l1,h.l2,h.l3,aJ h.hN b.size⟩
theorem HU (d:Xk)(i:Nat)(b:Bool):(cZ d).toArray.setIfInBounds i (.bool b)=(cZ (d.set i b)).toArray:=by unfold cZ;rw[List.map_set];simp
theorem ho.put (h:ho S n l f m t r N c y z A u d x w)(i:Nat)(b:Bool):ho S n l f m t r N c y z A u (d.set i b) x (w.setCell (xD u i) (.bool b)):=by
 have j:=h.l3;have a:∀k,¬k=u->(w.setCell (xD u i) (.bool b)).heap[k]?=w.heap[k]?:=λk a=>Below.heap_setCell w _ _ k a;refine⟨⟨(a _ λe=>h.d3 e.symm).trans h.rp.l,(a _ λe=>h.d4 e.symm).trans h.rp.b,(a _ λe=>h.d6 e.symm).trans h.rp.s,h.rp.n1,h.rp.n2,h.rp.n3⟩,h.sc.am (λk g=>a k (by omega)),(a _ h.d5).trans h.x1,?_,h.d1,h.d2,h.d3,h.d4,h.d5,h.d6,h.l1,h.l2,h.l3,?_⟩
 . rw[zh _ _ _ _ h.x2,HU]
 have:=h.hN;simpa using this
theorem Ko {s:Xb}(h:c.has s=true):c.idx s<c.nd.ab.length:=by unfold Sc.has at h;unfold Sc.idx;obtain⟨j,a⟩:=Option.isSome_iff_exists.1 h;rw[a];have:=(kP a).2.1;simpa using this
theorem GX (S:Xs)(n l f m:Nat)(t r:Xv)(N:Nat)(c:Sc)(h9:eU c)(it:ka c)(y z:Xv)(x:Xo)(w:Xw)(hR:cl S n l f m t r x w)(h:br w N c y z)(hN:N<=w.heap.size)(l1:N<=l)(l2:N<=f) :
 xK 57 #[.agg #[y,z],bT l f m] w (λe B=>e=.returned (.tuple #[])/\cl S n l f m t r (c.fy.foldl aj x) B/\Fr (RT l f) w B):=by
 obtain⟨bt,O,W,rfl,rfl,iR⟩:=h.shape;have i3:=ze hR.l;have i2:=ze hR.b;have i4:=ze hR.s;have a9:∀c5 c9,((w.alloc c5).alloc c9).heap[w.heap.size]?=some c5/\((w.alloc c5).alloc c9).heap[w.heap.size+1]?=some c9:=λc5 c9=>mO w c5 c9
 have ca:ho S n l f m t r N c (xE bt c O) (xP W) w.heap.size (w.heap.size+1) (List.replicate c.nd.ab.length false) x ((w.alloc (.cells #[xE bt c O,xP W] 205)).alloc (.cells (cZ (List.replicate c.nd.ab.length false)).toArray 4)) :=
  ⟨hR.aq (cT w _ _),h.am (j8 hN _ _),(a9 _ _).1,(a9 _ _).2,by omega,by omega,by omega,by omega,by omega,by omega,l1,l2,by omega,by simp;omega⟩
 have bx:=za ca;obtain⟨i9,vs,qv,xs,hT,J⟩:=h.nd;cases hT;obtain⟨xv,hw,rfl⟩:=zB J.bZ;obtain⟨mp,hu,rfl⟩:=zB J.own;obtain⟨m0,m1,m2,m3,m4,m5,i7,i8⟩:=zt J.aC;have G:=za J;have g5:=J.bO;have h5:c.nd.eqs.length<=9223372036854775807:=by
  rcases J.own.2 with ⟨_,h⟩|⟨g,fv,fx,hv,_,_,h3,h4,_⟩
  . omega
  unfold maxLen at h4;omega
 have mk:=yg c.nd.ab.length (by omega);have a3:=za (zy (T:=RT l f) (cT w (.cells #[xE bt c O,xP W] 205) (.cells (cZ (List.replicate c.nd.ab.length false)).toArray 4)));have i1:W<w.heap.size:=by omega
 clear hR h a9 ca J;unfold bT;go_enter func57,ntmps57;go_wp2_with fail;go_loopg [27] (c.nd.eqs.length+1) (λj i wr=>∃(k:Nat) (d:Xk) (E:Xo),k+j=c.nd.eqs.length+1/\k<=c.nd.eqs.length/\i=xI k/\aa (ho S n l f m t r N c (xE bt c O) (xP W) w.heap.size (w.heap.size+1) d E wr)/\aa (d.length=c.nd.ab.length)/\aa ((fW c c.nd.eqs (List.replicate c.nd.ab.length false)).1.foldl aj x=(fW c (c.nd.eqs.drop k) d).1.foldl aj E/\(fW c c.nd.eqs (List.replicate c.nd.ab.length false)).2=(fW c (c.nd.eqs.drop k) d).2)/\aa (Fr (RT l f) w wr));case atStart=>exact⟨0,_,x,by omega,aE _,rfl,bx.o,List.length_replicate,⟨rfl,rfl⟩,a3.o⟩
 case round =>
  clear bx a3 m0 m1 m2 m3 m4 m5 i7 i8 mk;obtain⟨k,d,E,c2,g7,rfl,K,a5,Y,R⟩:=hrel;have a0:=R.o.am hN (λk e=>by rcases e with e|e;exact e▸l1;exact e▸l2);by_cases a2:k<c.nd.eqs.length
  . obtain⟨em,rfl⟩:∃em,em=wr:=⟨_,rfl⟩;obtain⟨fV,rfl⟩:∃g,g=gk:=⟨_,rfl⟩;obtain⟨q,ds⟩:∃q,c.nd.eqs[k]?=some q:=⟨_,av a2⟩;have be:=G.o.am a0;obtain⟨g,l6,md,rfl,fq,fr,g3,cs⟩:=lj be.own be.eqs ds rfl;obtain⟨rb,_,_,rfl,_⟩:=cs.tt.ptr;obtain⟨hm,g4,rfl⟩:=zB cs.own;have gc:=G.o.ko g rfl;have HEq:=za cs;have bp:=aM ds;have c4:=(h9.nd.eqs q bp).1;have fd:=za c4;have er:=za (it.left q bp);have h7:=K.o.hN;have cn:fW c (c.nd.eqs.drop k) d=((ee c q.ns q.ps d).1++(fW c (c.nd.eqs.drop (k+1)) (ee c q.ns q.ps d).2).1,(fW c (c.nd.eqs.drop (k+1)) (ee c q.ns q.ps d).2).2):=by obtain⟨h1,h2⟩:=aB.1 ds;rw[dE h1,fW,h2]
    have eq:=za cn;have h6:q.ns.length<=9223372036854775807:=by
     rcases cs.own.2 with ⟨_,h⟩|⟨g,fv,fx,hv,_,_,h3,h4,_⟩
     . omega
     unfold maxLen at h4;omega
    have bL:=za (K.o.aq (zq em (.cells #[.slice hm q.ns.length g4,xI q.a,xP rb] 161)));have b0:=za (R.o.alloc (.cells #[.slice hm q.ns.length g4,xI q.a,xP rb] 161));clear be cs ds c4 a0 cn bp;go_wp2_with fail;go_loopg [34] (q.ns.length+1) (λj i wr=>∃(D:Nat) (d2:Xk) (C:Xo),D+j=q.ns.length+1/\D<=q.ns.length/\i=xI D/\aa (ho S n l f m t r N c (xE bt c O) (xP W) w.heap.size (w.heap.size+1) d2 C wr)/\aa (d2.length=c.nd.ab.length)/\aa ((ee c q.ns q.ps d).1.foldl aj E=(ee c (q.ns.drop D) (q.ps.drop D) d2).1.foldl aj C/\(ee c q.ns q.ps d).2=(ee c (q.ns.drop D) (q.ps.drop D) d2).2)/\aa (Fr (RT l f) w wr));case atStart=>exact⟨0,d,E,by omega,aE _,rfl,bL.o,a5.o,⟨rfl,rfl⟩,b0.o⟩
    case round =>
     clear bL b0 fq fr g3;obtain⟨D,d2,C,g8,ip,rfl,H,L,Z,ak⟩:=hrel;by_cases c3:D<q.ns.length
     . obtain⟨s,eb⟩:∃s,q.ns[D]?=some s:=⟨_,av c3⟩;obtain⟨p,gl⟩:∃p,q.ps[D]?=some p:=⟨_,av (by have:=fd.o;omega)⟩;have cv:=ak.o.am hN (λk e=>by rcases e with e|e;exact e▸l1;exact e▸l2);have c0:bV N em wr:=λb bs=>(cv b bs).trans ((R.o.am hN (λk e=>by rcases e with e|e;exact e▸l1;exact e▸l2)) b bs).symm;obtain⟨h0,rfl,fq,fr⟩:=kG (HEq.o.am c0).own eb gl rfl;have g6:=HEq.o.lo h0 rfl;have h8:=H.o.hN;have ge:=er.o s (aM eb);have io:=Ko ge;obtain⟨b,bs⟩:∃b,d2[c.idx s]?=some b:=⟨_,av (by have:=L.o;omega)⟩;have bE:=za (hW s (p:Int) (wr.alloc (.cells #[.string s,xI p] 144)) (H.o.aq (zq wr _)).sc (H.o.aq (zq wr _)).hN);obtain⟨g0,s1,g1,g2⟩:=zp H.o.x1;have cm:ee c (q.ns.drop D) (q.ps.drop D) d2=((if b=true then [p] else [])++(ee c (q.ns.drop (D+1)) (q.ps.drop (D+1)) (d2.set (c.idx s) true)).1,(ee c (q.ns.drop (D+1)) (q.ps.drop (D+1)) (d2.set (c.idx s) true)).2):=(by obtain⟨h1,h2⟩:=aB.1 eb;obtain⟨h3,h4⟩:=aB.1 gl;rw[dE h1,dE h3,ee,h2,h4];rw[show d2.getD (c.idx s) false=b by rw[List.getD_eq_getElem?_getD,bs];rfl]);have dn:aa ((ee c q.ns q.ps d).1.foldl aj E=(ee c (q.ns.drop (D+1)) (q.ps.drop (D+1)) (d2.set (c.idx s) true)).1.foldl aj ((if b=true then [p] else []).foldl aj C)/\(ee c q.ns q.ps d).2=(ee c (q.ns.drop (D+1)) (q.ps.drop (D+1)) (d2.set (c.idx s) true)).2):=(by have a:=Z.o;rw[cm,bc] at a;exact a);have i5:(0:Int)<=(c.idx s:Int):=(by omega);have i6:(c.idx s:Int)<(c.nd.ab.length:Int):=(by omega);have ex:=za bs;clear cv c0 eb gl bs cm Z;cases b with
       | false =>
         go_wp2_with (go_at_call 103;refine bE.o.mono ?_;rintro e hg ⟨rfl,I⟩;have X:=za I;have F:=za (H.o.aq (zE I));have hQ:=j4 F.o.x2 ex.o;have l3:=lh F.o.x2 (c.idx s);have l5:=ze F.o.x2;clear I);go_roundg (gk-1);case measure=>omega
         exact⟨D+1,d2.set (c.idx s) true,C,by omega,by omega,by go_num,F.o.put _ _,by unfold aa;rw[List.length_set];exact L.o,dn.o,(ak.o.gA (zE X.o)).aO (by omega) _ _⟩
       | true =>
         go_wp2_with (first
          | (go_at_call 124;refine (eg S n l f m t r C p _ F.o.rp).mono ?_;rintro e kw ⟨rfl,V,P⟩;have ar:=za (F.o.aX V P);have al:=za P;have f0:=j4 ar.o.x2 ex.o;have f2:=lh ar.o.x2 (c.idx s);have f3:=ze ar.o.x2;clear V P)
          | (go_at_call 103;refine bE.o.mono ?_;rintro e hg ⟨rfl,I⟩;have X:=za I;have F:=za (H.o.aq (zE I));have hQ:=j4 F.o.x2 ex.o;have lv:xC hg wr.heap.size 1 (xI p):=zd X.o (zp (zc wr _)).2.1 (by simp);clear I))
         go_roundg (gk-1);case measure=>omega
         exact⟨D+1,d2.set (c.idx s) true,aj C p,by omega,by omega,by go_num,ar.o.put _ _,by unfold aa;rw[List.length_set];exact L.o,dn.o,((ak.o.gA (zE X.o)).trans al.o).aO (by omega) _ _⟩
     have b4:D=q.ns.length:=(by omega);subst b4;rw[List.drop_length,HM] at Z;go_wp2_with fail;go_roundg (fV-1);case measure=>omega
     refine⟨k+1,d2,C,by omega,by omega,by go_num,H.o,L.o,?_,ak.o⟩;have a:=Y.o;have b:=Z.o;rw[eq.o,b.2] at a;refine⟨a.1.trans ?_,a.2⟩;rw[bc,b.1];rfl
  have b4:k=c.nd.eqs.length:=by omega
  subst b4;rw[List.drop_length,fW] at Y;obtain⟨U,ck⟩:=Y.o;have dn:aa (c.fy.foldl aj x=(hk c.nd.ah d c.nd.ab 0).foldl aj E):=by unfold aa Sc.fy;simp only[bc];rw[U,ck];rfl
  clear Y U ck;obtain⟨g0,s1,g1,g2⟩:=zp K.o.x1;obtain⟨go,n1,n2,n3,gs,gt,g9,he⟩:=zt ((a0 W G.o.lo).trans G.o.aC);clear a0;go_wp2_with fail;go_loopg [62] (c.nd.ab.length+1) (λj i wr=>∃(k:Nat) (C:Xo),k+j=c.nd.ab.length+1/\k<=c.nd.ab.length/\i=xI k/\aa (ho S n l f m t r N c (xE bt c O) (xP W) w.heap.size (w.heap.size+1) d C wr)/\aa ((hk c.nd.ah d c.nd.ab 0).foldl aj E=(hk c.nd.ah d (c.nd.ab.drop k) k).foldl aj C)/\aa (Fr (RT l f) w wr));case atStart=>exact⟨0,E,by omega,aE _,rfl,K.o,rfl,R.o⟩
  case round =>
   clear K R g0 s1 g1 g2 go n1 n2 n3 gs gt g9 he c2 g7 a2;obtain⟨k,C,c2,g7,rfl,K,Y,R⟩:=hrel;have a0:=R.o.am hN (λk e=>by rcases e with e|e;exact e▸l1;exact e▸l2);by_cases a2:k<c.nd.ab.length
   . obtain⟨v,hv⟩:∃v,c.nd.ab[k]?=some v:=⟨_,av a2⟩;obtain⟨g,rfl,fq,fr,g3,ln,lo,ls,lt⟩:=hj (G.o.am a0).bZ hv;have gc:=G.o.jc g rfl;obtain⟨bk,bl⟩:∃bk,d[k]?=some bk:=⟨_,av (by have:=a5.o;omega)⟩;have U:hk c.nd.ah d (c.nd.ab.drop k) k=(if (decide (c.nd.ah<=k)&&!bk)=true then [v.a] else [])++hk c.nd.ah d (c.nd.ab.drop (k+1)) (k+1):=(by obtain⟨h1,h2⟩:=aB.1 hv;rw[dE h1,hk,h2];rw[show d.getD k false=bk by rw[List.getD_eq_getElem?_getD,bl];rfl]);have M:aa ((hk c.nd.ah d c.nd.ab 0).foldl aj E=(hk c.nd.ah d (c.nd.ab.drop (k+1)) (k+1)).foldl aj ((if (decide (c.nd.ah<=k)&&!bk)=true then [v.a] else []).foldl aj C)):=(by unfold aa;rw[Y.o,U,bc]);obtain⟨g0,s1,g1,g2⟩:=zp K.o.x1;obtain⟨go,n1,n2,n3,gs,gt,g9,he⟩:=zt ((a0 W G.o.lo).trans G.o.aC);have le:xC wr (w.heap.size+1) k (.bool bk):=j4 K.o.x2 bl;have lk:=ze K.o.x2;have i0:W<wr.heap.size:=(by omega);have b3:d.length=c.nd.ab.length:=a5.o;have i5:(0:Int)<=(k:Int):=(by omega);have i6:(k:Int)<(c.nd.ab.length:Int):=(by omega);have a4:=za (λo=>eg S n l f m t r C v.a (wr.alloc o) (K.o.rp.aq (zq wr o)));clear U Y a0 b3 bl hv go n1 n2 gs gt;by_cases Q:c.nd.ah<=k
     . have c1:(c.nd.ah:Int)<=(k:Int):=(by omega);cases bk with
       | true =>
         simp only[Q,decide_true,Bool.not_true,Bool.and_false] at M;clear Q;go_wp2_with fail;go_roundg (gk-1);case measure=>omega
         exact⟨k+1,C,by omega,by omega,by go_num,K.o.aq (zq wr _),M.o,R.o.alloc _⟩
       | false =>
         simp only[Q,decide_true,Bool.not_false,Bool.and_true] at M;clear Q;go_wp2_with (go_at_call 124;refine (a4.o _).mono ?_;rintro e kw ⟨rfl,V,P⟩;have es:=za V;have al:=za P;clear V P);go_roundg (gk-1);case measure=>omega
         exact⟨k+1,aj C v.a,by omega,by omega,by go_num,(K.o.aq (zq wr _)).aX es.o al.o,M.o,(R.o.alloc _).trans al.o⟩
     have c1:¬(c.nd.ah:Int)<=(k:Int):=(by omega);simp only[Q,decide_false,Bool.false_and] at M;clear Q;go_wp2_with fail;go_roundg (gk-1);case measure=>omega
     exact⟨k+1,C,by omega,by omega,by go_num,K.o.aq (zq wr _),M.o,R.o.alloc _⟩
   have b4:k=c.nd.ab.length:=(by omega);subst b4;rw[List.drop_length,hk] at Y;clear a0;go_wp2_with fail;first|go_end0|refine bodyPost_ret (results_none rfl _ _ _) rfl ?_
   refine⟨rfl,?_,R.o⟩;rw[dn.o,Y.o];exact K.o.rp
end
end Go.Proofs.YtmfkofhgdjechaaGreatDoor
