/- Part 16. -/
import Derived.Test.YtcnelakggnfnhaaGreatDoorK14
set_option maxRecDepth 100000
set_option maxHeartbeats 8000000
namespace Go.Proofs.YtcnelakggnfnhaaGreatDoor
open Go.Proofs.Tryz
open Go.RowKit
section
variable {N D a m k r lb f:Nat} {S:Xs} {A:Xo} {c:Sc} {t B u C:Xv} {w w':Xw}
attribute [local go_sem ↓] Go.wp_at_zero Go.wp_at_succ
structure e2 (S:Xs) (r lb a f:Nat) (u t:Xv) (N:Nat) (c:Sc) (B C:Xv) (D m:Nat) (A:Xo) (w:Xw):Prop where
 rp:Fx S r lb a f u t A w
 sc:br w N c B C
 ck:dF w c m
 x1:w.heap[D]?=some (.cells #[B,C] 201 (0,0))
 d:∀b,b=D∨b=m->¬b=lb/\¬b=a
 l1:N<=lb
 l2:N<=a
 hN:N<=w.heap.size
theorem e2.aq (h:e2 S r lb a f u t N c B C D m A w)(b:xB w w'):e2 S r lb a f u t N c B C D m A w' :=
 ⟨h.rp.aq b,h.sc.am (zm b h.hN),h.ck.aq b,(b.block _ (ze h.x1)).trans h.x1,h.d,h.l1,h.l2,aJ h.hN b.size⟩
theorem e2.aX {d:Xo}(h:e2 S r lb a f u t N c B C D m A w)(l:Fx S r lb a f u t d w')(g:Fr (RT lb a) w w'):e2 S r lb a f u t N c B C D m d w':=by
 have j:∀{b},(b=D∨b=m)->¬RT lb a b:=λi e=>by rcases e with e|e;exact (h.d _ i).1 e;exact (h.d _ i).2 e
 exact⟨l,h.sc.am (g.am h.hN (λk e=>by rcases e with e|e;exact e▸h.l1;exact e▸h.l2)),h.ck.gh (g.block _ h.ck.lt (j (by simp))),(g.block _ (ze h.x1) (j (by simp))).trans h.x1,h.d,h.l1,h.l2,aJ h.hN g.size⟩
theorem e2.am (h:e2 S r lb a f u t N c B C D m A w)(b:Fr (RT lb a) w w'):bV N w w':=b.am h.hN (λk e=>by rcases e with e|e;exact e▸h.l1;exact e▸h.l2)
theorem e2.on (h:e2 S r lb a f u t N c B C D m A w)(g:xB w w'){z:Nat}(n:w.heap.size<=z)
 (i:xH w' z #[B,C] 201) (j:xH w' (z+1) #[.map (some m)] 84) (l:xH w' (z+1+1) #[bT lb a f] 199) :
 iq S r lb a f u t N c B C m z (z+1) (z+1+1) A w':=by
 have d:=h.aq g;have o:=ze h.rp.l;have p:=ze h.rp.b;refine⟨d.rp,d.sc,d.ck,i,j,l,λb e=>?_,h.l1,h.l2,d.hN⟩;rcases e with e|e|e|e
 . subst e;exact⟨by omega,by omega⟩
 . subst e;exact⟨by omega,by omega⟩
 . subst e;exact⟨by omega,by omega⟩
 subst e;exact h.d _ (ap rfl)
theorem G4 {l:List Vr}{v:Vr}(h:l[k]?=some v):hZ c (l.drop k) k=(if c.jF k=true then [v.a] else [])++hZ c (l.drop (k+1)) (k+1):=by obtain⟨b,d⟩:=aB.1 h;rw[dE b,hZ,d]
theorem GU {q:Nat×Nat}{b:Xl}{d:Xn}{s:Xb}{p:Nat}(l:b[k]?=some s)(j:d[k]?=some p):fU c q (b.drop k) (d.drop k)=(if c.of (c.idx s)=q then [] else [p])++fU c q (b.drop (k+1)) (d.drop (k+1)):=by obtain⟨e,g⟩:=aB.1 l;obtain⟨h,i⟩:=aB.1 j;rw[dE e,dE h,fU,g,i]
theorem G3 (c:Sc)(q:Nat×Nat)(b:Xn):fU c q [] b=[]:=by cases b <;> rfl
theorem Jk (d n e b:Nat)(o:n=e+1)(p:n<=b):∃i g,(∀w,(Instr.slice 156 (xS d n b) (some (xI 1)) none none).run prog w=.ok (.slice i e g) w)/\(0<e->i=some ⟨d,2,none⟩):=by
 refine⟨if b=1 then some (xD d 0) else some (xD d 2),b-1,λw=>?_,λh=>ae (by omega)⟩;have l:(1:Int)<=(n:Int):=by omega
 have j:n-1=e:=by omega
 by_cases h:b=1
 . simp[Instr.slice,Instr.sliceBounds,Instr.sliceBound,run_underlying underlying156,asIntOf,l,h,j]
 simp[Instr.slice,Instr.sliceBounds,Instr.sliceBound,run_underlying underlying156,asIntOf,l,h,j,Addr.add]
theorem IL (m lb a f:Nat)(w:Xw)(g:Xp)(n b:Nat)(d:Nat) :
 xK 111 #[.agg #[.slice g n b,xP d],.map (some m),.func (.func 117) #[] #[xP lb,xP a,xP f]] w.drew (λe w'=>e=.returned (.func (.func 162) #[] #[xP (w.heap.size+1),xP w.heap.size,xP (w.heap.size+1+1)])/\xB w w'/\w'.heap[w.heap.size]?=some (.cells #[.slice g n b,xP d] 201 (0,0))/\w'.heap[w.heap.size+1]?=some (.cells #[.map (some m)] 84 (0,0))/\w'.heap[w.heap.size+1+1]?=some (.cells #[bT lb a f] 199 (0,0))):=by
 refine (Jh (.slice g n b) (xP d) m lb a f w.drew g n b d rfl rfl).mono ?_;rintro e w' ⟨h,i,j,l,o,p⟩;exact⟨h,zw i,j,l,o⟩
theorem Hn (S:Xs)(r lb a f:Nat)(u t:Xv)(N:Nat)(c:Sc)(hc:eU c)(B C:Xv)(A:Xo)(w:Xw)(hR:Fx S r lb a f u t A w)(h:br w N c B C)(hN:N<=w.heap.size)(l1:N<=lb)(l2:N<=a) :
 xK 44 #[.agg #[B,C],bT lb a f] w (λe w'=>e=.returned (.tuple #[])/\Fx S r lb a f u t (c.e4.foldl aj A) w'/\Fr (RT lb a) w w'):=by
 obtain⟨a2,G,nb,rfl,rfl,gW⟩:=h.shape;have g1:=ze hR.l;have g0:=ze hR.b;have fk:=za hR;have ex:=za h;obtain⟨g2,vs,hf,xs,eT,bl⟩:=h.nd;cases eT;obtain⟨hi,gn,rfl⟩:=zB bl.bZ;obtain⟨hh,gm,rfl⟩:=zB bl.own;have a4:=za bl;have ft:=bl.bO;have gs:c.nd.eqs.length<=9223372036854775807:=by
  rcases bl.own.2 with ⟨_,h⟩|⟨g,dc,di,hv,_,_,h3,h4,_⟩
  . omega
  unfold maxLen at h4;omega
 have bY:=za (λo=>xf (w.alloc o) (h.am (OJ hN o)) (by rw[au];omega));have HEq:=za hc.nd.eqs;clear hR h bl hc;unfold bT;go_enter func44,ntmps44;go_upto_region 2 with (go_at_call 55;refine (bY.o _).mono ?_;rintro e w1 ⟨m,rfl,dz,dl,z⟩;have c2:=za dl;have E:=za z;clear dl z);refine zn (λW=>e2 S r lb a f u t N c (xE a2 c G) (xP nb) w.heap.size m A W/\Fr (RT lb a) w W) ⟨⟨fk.o.aq (zE E.o),ex.o.am (zm (zE E.o) hN),c2.o,(E.o.block _ (by simp)).trans (zc w _),λb e=>by rw[au] at dz;rcases e with e|e <;> exact⟨by omega,by omega⟩,l1,l2,by have:=(zE E.o).size;omega⟩,zy (zE E.o)⟩ ?_;rintro W ⟨d,H⟩;have eX:=d.am (Fr.refl _ _);obtain⟨m0,m1,m2,m3,m4,m5,ff,fg⟩:=zt ((H.block nb (by omega) (λe=>by rcases e with e|e <;> omega)).trans a4.o.aC);obtain⟨b2,s1,b3,sz⟩:=zp d.x1;have F:=za d;have R:=za H;clear d H eX E c2 bY fk;go_wp2_with fail;go_loopg [22] (c.nd.ak.length+1) (λj i wr=>∃(k:Nat) (Y:Xo),k+j=c.nd.ak.length+1/\k<=c.nd.ak.length/\i=xI k/\aa (e2 S r lb a f u t N c (xE a2 c G) (xP nb) w.heap.size m Y wr)/\aa ((hZ c c.nd.ak 0).foldl aj A=(hZ c (c.nd.ak.drop k) k).foldl aj Y)/\aa (Fr (RT lb a) w wr));case atStart=>exact⟨0,A,by omega,aE _,rfl,F.o,rfl,R.o⟩
 case round =>
  clear F R b2 s1 b3 sz m0 m1 m2 m3 m4 m5 ff fg;obtain⟨k,Y,dL,fA,rfl,be,bv,bx⟩:=hrel;have hO:=bx.o.am hN (λk e=>by rcases e with e|e;exact e▸l1;exact e▸l2);by_cases bK:k<c.nd.ak.length
  . obtain⟨v,hv⟩:∃v,c.nd.ak[k]?=some v:=⟨_,av bK⟩;obtain⟨g,rfl,eP,eQ,eR,g7,g8,g9,he⟩:=hj (a4.o.am hO).bZ hv;have eZ:=a4.o.jc g rfl;have ds:=be.o.hN;have cR:aa ((hZ c c.nd.ak 0).foldl aj A=(hZ c (c.nd.ak.drop (k+1)) (k+1)).foldl aj ((if c.jF k=true then [v.a] else []).foldl aj Y)):=by unfold aa;rw[bv.o,G4 hv,bc]
    have bA:=za (λo=>Ha k (wr.alloc o) (be.o.aq (zq wr o)).ck (by omega));clear bv hv hO;cases bE:c.jF k with
    | false =>
      rw[bE] at cR bA;clear bE;go_wp2_with (go_at_call 109;refine (bA.o _).mono ?_;rintro e w2 ⟨rfl,l⟩;have I:=za (zE l);clear l);go_roundg (gk-1);case measure=>omega
      exact⟨k+1,Y,by omega,by omega,by go_num,be.o.aq I.o,cR.o,bx.o.trans (zy I.o)⟩
    | true =>
      rw[bE] at cR bA;clear bE
      go_wp2_with (first
       | (go_at_call 117;refine (eg S r lb a f u t Y v.a _ c5.o.rp).mono ?_;rintro e w3 ⟨rfl,a0,aL⟩;have bp:=za a0;have P:=za aL;clear a0 aL)
       | (go_at_call 109;refine (bA.o _).mono ?_;rintro e w2 ⟨rfl,l⟩;have c5:=za (be.o.aq (zE l));have x1:=zd l (eK (zc wr _)).2.1 (by simp);have I:=za (zE l);clear l))
      go_roundg (gk-1);case measure=>omega
      exact⟨k+1,aj Y v.a,by omega,by omega,by go_num,c5.o.aX bp.o P.o,cR.o,(bx.o.trans (zy I.o)).trans P.o⟩
  have ek:k=c.nd.ak.length:=by omega
  subst ek;rw[List.drop_length,hZ] at bv;have c3:aa (c.e4.foldl aj A=(c.nd.eqs.flatMap (mr c)).foldl aj Y):=by unfold aa Sc.e4;rw[bc,bv.o];rfl
  clear bv;obtain⟨m0,m1,m2,m3,m4,m5,ff,fg⟩:=zt ((hO nb a4.o.lo).trans a4.o.aC);obtain⟨b2,s1,b3,sz⟩:=zp be.o.x1;clear hO;go_wp2_with fail;go_loopg [43] (c.nd.eqs.length+1) (λj i wr=>∃(k:Nat) (a1:Xo),k+j=c.nd.eqs.length+1/\k<=c.nd.eqs.length/\i=xI k/\aa (e2 S r lb a f u t N c (xE a2 c G) (xP nb) w.heap.size m a1 wr)/\aa (c.e4.foldl aj A=((c.nd.eqs.drop k).flatMap (mr c)).foldl aj a1)/\aa (Fr (RT lb a) w wr));case atStart=>exact⟨0,Y,by omega,aE _,rfl,be.o,c3.o,bx.o⟩
  case round =>
   clear be bx c3 b2 s1 b3 sz m0 m1 m2 m3 m4 m5 ff fg dL fA bK;obtain⟨k,a1,dL,fA,rfl,be,bv,bx⟩:=hrel;have hO:=bx.o.am hN (λk e=>by rcases e with e|e;exact e▸l1;exact e▸l2);by_cases bK:k<c.nd.eqs.length
   . obtain⟨a9,rfl⟩:∃a9,a9=wr:=⟨_,rfl⟩;obtain⟨eV,rfl⟩:∃g,g=gk:=⟨_,rfl⟩;obtain⟨q,eb⟩:∃q,c.nd.eqs[k]?=some q:=⟨_,av bK⟩;have co:=a4.o.am hO;obtain⟨g,lv,rv,rfl,eP,eQ,eR,cn⟩:=lj co.own co.eqs eb rfl;obtain⟨cO,_,_,rfl,_⟩:=cn.tt.ptr;obtain⟨hg,cl,rfl⟩:=zB cn.own;have eZ:=a4.o.ko g rfl;have em:=za cn;obtain⟨bs,a6,_⟩:=HEq.o q (aM eb);have eW:q.ns.length<=9223372036854775807:=by
      rcases cn.own.2 with ⟨_,h⟩|⟨g,dc,di,hv,_,_,h3,h4,_⟩
      . omega
      unfold maxLen at h4;omega
     obtain⟨s,c1,bt⟩:∃s c1,q.ns=s::c1:=by
      cases hx:q.ns with
      | nil=>rw[hx] at a6;simp at a6
      | cons s c1=>exact⟨s,c1,rfl⟩
     obtain⟨p,pp,bL⟩:∃p pp,q.ps=p::pp:=by
      cases hx:q.ps with
      | nil=>rw[hx] at bs;simp at bs;rw[bs] at a6;simp at a6
      | cons s c1=>exact⟨s,c1,rfl⟩
     have eY:q.ns.length<=cl/\cl<=9223372036854775807:=by
      rcases cn.own.2 with ⟨h0,h⟩|⟨g,dc,di,hv,_,_,h3,h4,_⟩
      . omega
      cases hv;unfold maxLen at h4;omega
     obtain⟨b0,dH⟩:=eY;have i1:(1:Int)<=(q.ns.length:Int):=(by omega);have i2:(q.ns.length:Int)<=(cl:Int):=(by omega);have i3:(1:Int)<=(cl:Int):=(by omega);obtain⟨gl,rfl,n0,n1⟩:=kG cn.own (k:=0) (s:=s) (p:=p) (by rw[bt];rfl) (by rw[bL];rfl) rfl;have fu:=em.o.lo gl rfl;have gw:=be.o.hN;obtain⟨O,cv⟩:∃O,c.of (c.idx s)=O:=⟨_,rfl⟩;have cR:aa (c.e4.foldl aj A=((c.nd.eqs.drop (k+1)).flatMap (mr c)).foldl aj ((fQ c q.r O).foldl aj ((fU c O (q.ns.drop 1) (q.ps.drop 1)).foldl aj a1))):=(by unfold aa;obtain⟨h1,h2⟩:=aB.1 eb;rw[bv.o,dE h1,List.flatMap_cons,h2,bc];congr 1;unfold mr;rw[bt,bL];simp only[List.headD_cons,List.tail_cons,List.drop_one];rw[cv,bc]);have ch:=za (be.o.aq (zq a9 (.cells #[xS gl q.ns.length cl,xI q.a,xP cO] 159)));have cm:=za (bx.o.alloc (.cells #[xS gl q.ns.length cl,xI q.a,xP cO] 159));have cz:1<=q.ns.length:=a6;have e3:(0:Int)<(q.ns.length:Int):=(by omega);have e7:0<q.ns.length:=a6;have e5:¬q.ns=[]:=(by rw[bt];simp);have gd:=za bt;have gc:=za bL;have eN:=za bs;have eL:=za cv;clear co cn eb bv hO bt bL bs cv a6;go_upto_region 11 with fail;go_cut [9,43] from 43 to 88 (λx y wx=>∃bk,x=xP bk/\y=xI k/\a9.heap.size<bk/\aa (e2 S r lb a f u t N c (xE a2 c G) (xP nb) w.heap.size m a1 wx)/\aa (Fr (RT lb a) w wx)/\aa (xH wx a9.heap.size #[xS gl q.ns.length cl,xI q.a,xP cO] 159)/\aa (xH wx bk #[xI (O.1:Nat),xI (O.2:Nat)] 162))
     case first =>
      refine zn (λW=>e2 S r lb a f u t N c (xE a2 c G) (xP nb) w.heap.size m a1 W/\Fr (RT lb a) w W/\xH W a9.heap.size #[xS gl q.ns.length cl,xI q.a,xP cO] 159/\xC W gl 0 (.string s)/\xC W gl 1 (xI p)) ⟨ch.o,cm.o,zc a9 _,zj _ n0,zj _ n1⟩ ?_;rintro W ⟨d,H,ct,eO,da⟩;obtain⟨b2,s1,b3,sz⟩:=zp d.x1;obtain⟨q0,fh,q2,qf,c0⟩:=zL ct;have fz:gl<W.heap.size:=(by have:=d.hN;omega);have U:=za (λW' (hB:xB W W')=>hW s (p:Int) W' (d.aq hB).sc (d.aq hB).hN);have T:=za (λW' (hB:xB W W')=>jW (c.idx s) W' (d.aq hB).ck);rw[eL.o] at T;have F:=za d;have R:=za H;have c6:=za ct;clear d H ct ch cm n0 n1 eP eQ eR
      go_region_held3 (λw'=>w'.cell? (xD w.heap.size 0)=some (xE a2 c G)/\w'.cell? (xD w.heap.size 1)=some (xP nb)/\w'.cell? (xD a9.heap.size 0)=some (xS gl q.ns.length cl)/\w'.cell? (xD gl 0)=some (.string s)/\w'.cell? (xD gl 1)=some (xI p))
       (first|(with_reducible (refine⟨?_,?_,?_,?_,?_⟩ <;> repeat (first|assumption|refine zg ?_|refine zj _ ?_|refine zk (by omega) ?_|refine zd K.o ?_ (by first|omega|(rw[au];omega))|refine zd J.o ?_ (by first|omega|(rw[au];omega)))))|go_keep)
       (first
         | (go_at_call 60;refine (T.o _ (by first|exact J.o|exact jh J.o (an _) _)).mono ?_;rintro e w2 ⟨rfl,l⟩;have I:=za l;(first|(have V:xH w2 W.heap.size #[xI 0,xI 0] 162:=(l.block _ g5).trans eG.o;have c9:=za V;obtain⟨t0,t1,g4,tz⟩:=zp V;clear V)|(have V:xH w2 w1.heap.size #[xI 0,xI 0] 162:=(l.block w1.heap.size (by simp)).trans (zc w1 _);have c9:=za V;obtain⟨t0,t1,g4,tz⟩:=zp V;clear V)|skip);(first|have K:=za (J.o.trans (l.mono J.o.size))|have K:=za (J.o.trans ((zE l).mono J.o.size)));have fP:=K.o.size;clear l)
         | (go_at_call 61;refine (U.o _ (by first|exact zo (yS _ _)|exact jh (zo (yS _ _)) (an _) _)).mono ?_;rintro e w1 ⟨rfl,z⟩;have E:=za z;(first|(have X:xH w1 W.heap.size #[xI 0,xI 0] 162:=(z.block W.heap.size (by simp)).trans (zc W.drew _);have eG:=za X;obtain⟨hm,fj,hu,g5⟩:=zp X;clear X;have J:=za (zw (zE z)))|have J:=za (zw z));have fD:=J.o.size;clear z))
      all_goals go_wp2_with fail
      all_goals go_meet
      . exact⟨_,rfl,rfl,by omega,F.o.aq (jh K.o (an _) _),R.o.trans (zy (jh K.o (an _) _)),((jh K.o (an _) _).block _ c0).trans c6.o,zc w2 _⟩
      iterate 2
       . exact⟨_,rfl,rfl,by omega,F.o.aq (zC (zC K.o (by omega) _) (by omega) _),R.o.trans (zy (zC (zC K.o (by omega) _) (by omega) _)),zr (by omega) (zr (by omega) ((K.o.block _ c0).trans c6.o)),pa c9.o _ _⟩
     case rest =>
      obtain⟨bk,rfl,rfl,gx,U,c4,cg,ce⟩:=hcut;clear ch cm n0 n1 eP eQ eR;obtain⟨q0,fh,q2,qf,c0⟩:=zL cg.o;obtain⟨nl,cA⟩:∃nl,q.ns.length=nl+1:=⟨q.ns.length-1,by omega⟩;obtain⟨g6,ge,gY,du⟩:=Jk gl q.ns.length nl cl cA b0;have gt:nl<=9223372036854775807:=(by omega);have ck:=za cA;have es:=za du;have dV:a9.heap.size<wc.heap.size:=c0;have dM:=ze ce.o;have dP:lb<a9.heap.size/\a<a9.heap.size:=⟨ze be.o.rp.l,ze be.o.rp.b⟩;obtain⟨gV,gz⟩:=dP;clear cA du b0 dH i1 i2 i3 eW cz;go_wp2_with fail;go_loopg [60] (nl+1) (λj i wr=>∃(Z:Nat) (Q:Xo),Z+j=nl+1/\Z<=nl/\i=xI Z/\aa (e2 S r lb a f u t N c (xE a2 c G) (xP nb) w.heap.size m Q wr)/\aa ((fU c O (q.ns.drop 1) (q.ps.drop 1)).foldl aj a1=(fU c O (q.ns.drop (1+Z)) (q.ps.drop (1+Z))).foldl aj Q)/\aa (Fr (RT lb a) w wr)/\aa (xH wr a9.heap.size #[xS gl q.ns.length cl,xI q.a,xP cO] 159)/\aa (xH wr bk #[xI (O.1:Nat),xI (O.2:Nat)] 162));case atStart=>exact⟨0,a1,by omega,aE _,rfl,U.o,rfl,c4.o,cg.o,ce.o⟩
      case round =>
       clear U c4 cg ce q0 fh q2 qf c0 dV dM;obtain⟨Z,Q,fB,gU,rfl,a3,bB,bo,aA,L⟩:=hrel;have gX:=ze aA.o;have gC:=ze L.o;have ds:=a3.o.hN;have cs:bV N w wr:=bo.o.am hN (λk e=>by rcases e with e|e;exact e▸l1;exact e▸l2);have bC:bV N a9 wr:=λb fr=>(cs b fr).trans ((bx.o.am hN (λk e=>by rcases e with e|e;exact e▸l1;exact e▸l2)) b fr).symm;by_cases fC:Z<nl
       . obtain⟨s',cE⟩:∃s,q.ns[1+Z]?=some s:=⟨_,av (by have:=ck.o;omega)⟩;obtain⟨p',cB⟩:∃p,q.ps[1+Z]?=some p:=⟨_,av (by have:=ck.o;have:=eN.o;omega)⟩;obtain⟨go,eT,d0,d1⟩:=kG (em.o.am bC).own cE cB rfl;cases eT;rw[show (1+Z)*2=2+Z*2 by omega] at d0 d1;obtain rfl:=es.o (by omega);obtain⟨o,ea⟩:∃o,c.of (c.idx s')=o:=⟨_,rfl⟩;have bg:=za bB.o;rw[GU cE cB,bc,show 1+Z+1=1+(Z+1) by omega,ea] at bg;clear bB cs bC cE cB;by_cases e0:o=O
         . rw[ag e0] at bg;have dk:(o.1:Int)=(O.1:Int):=(by rw[e0]);have eS:(o.2:Int)=(O.2:Int):=(by rw[e0]);clear e0;go_upto_region 15 with fail;refine zn (λW=>e2 S r lb a f u t N c (xE a2 c G) (xP nb) w.heap.size m Q W/\Fr (RT lb a) w W/\xB wr W/\xH W wr.heap.size #[.string s',xI p'] 78) ⟨a3.o.aq (zq wr _),bo.o.alloc _,zq wr _,zc wr _⟩ ?_;rintro W ⟨d,H,M,aV⟩;obtain⟨b2,s1,b3,sz⟩:=zp d.x1;obtain⟨eO,da,fl,dY⟩:=zp aV;obtain⟨k0,cK,kf,kz⟩:=zp ((M.block _ (ze L.o)).trans L.o);have U:=za (hW s' (p':Int) W.drew (d.sc.am (λ_ _=>rfl)) d.hN);have F:=za d;have R:=za H;have ar:=za M;have dw:=M.size;clear d H M aV
           go_region_held3 (λw'=>w'.cell? (xD w.heap.size 0)=some (xE a2 c G)/\w'.cell? (xD w.heap.size 1)=some (xP nb)/\w'.cell? (xD wr.heap.size 0)=some (.string s')/\w'.cell? (xD wr.heap.size 1)=some (xI p')/\w'.cell? (xD bk 0)=some (xI (O.1:Nat))/\w'.cell? (xD bk 1)=some (xI (O.2:Nat)))
            (first|(with_reducible (refine⟨?_,?_,?_,?_,?_,?_⟩ <;> repeat (first|assumption|refine zg ?_|refine zj _ ?_|refine zk (by omega) ?_|refine zd I.o ?_ (by first|omega|(rw[au];omega))|refine zd E.o ?_ (by first|omega|(rw[au];omega)))))|go_keep)
            (first
              | (go_at_call 60;refine T.o.mono ?_;rintro e w2 ⟨rfl,l⟩;have I:=za l;have V:w1.heap.size<=w2.heap.size:=l.size;clear l)
              | (go_at_call 61;refine U.o.mono ?_;rintro e w1 ⟨rfl,z⟩;have E:=za (zw z);have X:W.heap.size<=w1.heap.size:=z.size;have T:=za (jW (c.idx s') w1 (F.o.ck.aq E.o));(rw[ea] at T);clear z))
           have n:=za (E.o.trans (I.o.mono X));go_wp2_with fail;go_roundg (gk-1);case measure=>omega
           exact⟨Z+1,Q,by omega,by omega,by go_num,F.o.aq n.o,bg.o,R.o.trans (zy n.o),(n.o.block _ (by omega)).trans ((ar.o.block _ (ze aA.o)).trans aA.o),(n.o.block _ kz).trans ((ar.o.block _ (ze L.o)).trans L.o)⟩
         rw[ae e0] at bg;by_cases e1:o.1=O.1
         . have dk:(o.1:Int)=(O.1:Int):=(by omega);have eS:¬(o.2:Int)=(O.2:Int):=λe=>e0 (Prod.ext e1 (by omega));clear e0 e1;go_upto_region 15 with fail;refine zn (λW=>e2 S r lb a f u t N c (xE a2 c G) (xP nb) w.heap.size m Q W/\Fr (RT lb a) w W/\xB wr W/\xH W wr.heap.size #[.string s',xI p'] 78) ⟨a3.o.aq (zq wr _),bo.o.alloc _,zq wr _,zc wr _⟩ ?_;rintro W ⟨d,H,M,aV⟩;obtain⟨b2,s1,b3,sz⟩:=zp d.x1;obtain⟨eO,da,fl,dY⟩:=zp aV;obtain⟨k0,cK,kf,kz⟩:=zp ((M.block _ (ze L.o)).trans L.o);have U:=za (hW s' (p':Int) W.drew (d.sc.am (λ_ _=>rfl)) d.hN);have F:=za d;have R:=za H;have ar:=za M;have dw:=M.size;clear d H M aV
           go_region_held3 (λw'=>w'.cell? (xD w.heap.size 0)=some (xE a2 c G)/\w'.cell? (xD w.heap.size 1)=some (xP nb)/\w'.cell? (xD wr.heap.size 0)=some (.string s')/\w'.cell? (xD wr.heap.size 1)=some (xI p')/\w'.cell? (xD bk 0)=some (xI (O.1:Nat))/\w'.cell? (xD bk 1)=some (xI (O.2:Nat)))
            (first|(with_reducible (refine⟨?_,?_,?_,?_,?_,?_⟩ <;> repeat (first|assumption|refine zg ?_|refine zj _ ?_|refine zk (by omega) ?_|refine zd I.o ?_ (by first|omega|(rw[au];omega))|refine zd E.o ?_ (by first|omega|(rw[au];omega)))))|go_keep)
            (first
              | (go_at_call 60;refine T.o.mono ?_;rintro e w2 ⟨rfl,l⟩;have I:=za l;have V:w1.heap.size<=w2.heap.size:=l.size;clear l)
              | (go_at_call 61;refine U.o.mono ?_;rintro e w1 ⟨rfl,z⟩;have E:=za (zw z);have X:W.heap.size<=w1.heap.size:=z.size;have T:=za (jW (c.idx s') w1 (F.o.ck.aq E.o));(rw[ea] at T);clear z))
           have n:=za (E.o.trans (I.o.mono X));have g3:=zd n.o da dY;have a5:=za (eg S r lb a f u t Q p' w2 (F.o.aq n.o).rp);have fd:=n.o.size;go_wp2_with (go_at_call 117;refine a5.o.mono ?_;rintro e w6 ⟨rfl,a0,aL⟩;have bp:=za a0;have P:=za aL;clear a0 aL);go_roundg (gk-1);case measure=>omega
           exact⟨Z+1,aj Q p',by omega,by omega,by go_num,(F.o.aq n.o).aX bp.o P.o,bg.o,(R.o.trans (zy n.o)).trans P.o,(P.o.block _ (by omega) (λe=>by rcases e with e|e <;> omega)).trans ((n.o.block _ (by omega)).trans ((ar.o.block _ (ze aA.o)).trans aA.o)),(P.o.block _ (by omega) (λe=>by rcases e with e|e <;> omega)).trans ((n.o.block _ kz).trans ((ar.o.block _ (ze L.o)).trans L.o))⟩
         have dk:¬(o.1:Int)=(O.1:Int):=(by omega);clear e0 e1;go_upto_region 15 with fail;refine zn (λW=>e2 S r lb a f u t N c (xE a2 c G) (xP nb) w.heap.size m Q W/\Fr (RT lb a) w W/\xB wr W/\xH W wr.heap.size #[.string s',xI p'] 78) ⟨a3.o.aq (zq wr _),bo.o.alloc _,zq wr _,zc wr _⟩ ?_;rintro W ⟨d,H,M,aV⟩;obtain⟨b2,s1,b3,sz⟩:=zp d.x1;obtain⟨eO,da,fl,dY⟩:=zp aV;obtain⟨k0,cK,kf,kz⟩:=zp ((M.block _ (ze L.o)).trans L.o);have U:=za (hW s' (p':Int) W.drew (d.sc.am (λ_ _=>rfl)) d.hN);have F:=za d;have R:=za H;have ar:=za M;have dw:=M.size;clear d H M aV
         go_region_held3 (λw'=>w'.cell? (xD w.heap.size 0)=some (xE a2 c G)/\w'.cell? (xD w.heap.size 1)=some (xP nb)/\w'.cell? (xD wr.heap.size 0)=some (.string s')/\w'.cell? (xD wr.heap.size 1)=some (xI p')/\w'.cell? (xD bk 0)=some (xI (O.1:Nat))/\w'.cell? (xD bk 1)=some (xI (O.2:Nat)))
          (first|(with_reducible (refine⟨?_,?_,?_,?_,?_,?_⟩ <;> repeat (first|assumption|refine zg ?_|refine zj _ ?_|refine zk (by omega) ?_|refine zd I.o ?_ (by first|omega|(rw[au];omega))|refine zd E.o ?_ (by first|omega|(rw[au];omega)))))|go_keep)
          (first
            | (go_at_call 60;refine T.o.mono ?_;rintro e w2 ⟨rfl,l⟩;have I:=za l;have V:w1.heap.size<=w2.heap.size:=l.size;clear l)
            | (go_at_call 61;refine U.o.mono ?_;rintro e w1 ⟨rfl,z⟩;have E:=za (zw z);have X:W.heap.size<=w1.heap.size:=z.size;have T:=za (jW (c.idx s') w1 (F.o.ck.aq E.o));(rw[ea] at T);clear z))
         have n:=za (E.o.trans (I.o.mono X));have g3:=zd n.o da dY;have a5:=za (eg S r lb a f u t Q p' w2 (F.o.aq n.o).rp);have fd:=n.o.size;go_wp2_with (go_at_call 117;refine a5.o.mono ?_;rintro e w6 ⟨rfl,a0,aL⟩;have bp:=za a0;have P:=za aL;clear a0 aL);go_roundg (gk-1);case measure=>omega
         exact⟨Z+1,aj Q p',by omega,by omega,by go_num,(F.o.aq n.o).aX bp.o P.o,bg.o,(R.o.trans (zy n.o)).trans P.o,(P.o.block _ (by omega) (λe=>by rcases e with e|e <;> omega)).trans ((n.o.block _ (by omega)).trans ((ar.o.block _ (ze aA.o)).trans aA.o)),(P.o.block _ (by omega) (λe=>by rcases e with e|e <;> omega)).trans ((n.o.block _ kz).trans ((ar.o.block _ (ze L.o)).trans L.o))⟩
       have ek:Z=nl:=(by omega);subst ek;rw[show q.ns.drop (1+Z)=[] from List.drop_of_length_le (by have:=ck.o;omega),G3] at bB;obtain⟨b2,s1,b3,sz⟩:=zp a3.o.x1;obtain⟨q0,fh,q2,qf,c0⟩:=zL aA.o;obtain⟨k0,cK,kf,kz⟩:=zp L.o;have er:=za (IL m lb a f wr a2 c.er.length G nb);have eE:=za ((em.o.am bC).tt);clear cs bC;go_upto_region 18 with fail
       go_region_held3 (λw'=>w'.cell? (xD w.heap.size 0)=some (xE a2 c G)/\w'.cell? (xD w.heap.size 1)=some (xP nb)/\w'.cell? (xD a9.heap.size 2)=some (xP cO)/\w'.cell? (xD bk 0)=some (xI (O.1:Nat))/\w'.cell? (xD bk 1)=some (xI (O.2:Nat)))
        (first|(with_reducible (refine⟨?_,?_,?_,?_,?_⟩ <;> repeat (first|assumption|refine zg ?_|refine zS cd.o ?_ (by omega) (by omega)|refine zd b4.o ?_ (by omega))))|go_keep)
        (first
          | (go_at_call 110;refine eF.o.mono ?_;rintro e w6 ⟨rfl,dq,dp⟩;have eq:=za dq.rp;have cd:=za dp.fr;clear dq dp)
          | (go_at_call 111;refine er.o.mono ?_;rintro e w5 ⟨rfl,bq,fj,fS,ga⟩;have b4:=za bq;have ca:=za (a3.o.on bq (an _) fj fS ga);have gZ:wr.heap.size<=w5.heap.size:=bq.size;have eF:=za (HA (KN S r lb a f u t N c (xE a2 c G) (xP nb) m wr.heap.size (wr.heap.size+1) (wr.heap.size+1+1)) q.r O (xP cO) Q w5 (eE.o.am (zm bq ds)) (by omega) ca.o.sc ca.o.ck ca.o trivial trivial);(rw[J4] at eF);(unfold hG at eF);clear bq fj fS ga))
       go_wp2_with fail;go_roundg (eV-1);case measure=>omega
       refine⟨k+1,_,by omega,by omega,by go_num,(a3.o.aq b4.o).aX eq.o cd.o,?_,(bo.o.trans (zy b4.o)).trans cd.o⟩;rw[cR.o,bB.o];rfl
   have ek:k=c.nd.eqs.length:=(by omega);subst ek;rw[List.drop_length,List.flatMap_nil] at bv;clear hO;go_wp2_with fail;first|go_end0|refine ab (results_none rfl _ _ _) rfl ?_
   refine⟨rfl,?_,bx.o⟩;rw[bv.o];exact be.o.rp
end
section
variable {L:List (Nat×Nat)} {b:Nat} {w w':Xw}
attribute [local go_sem ↓] Go.wp_at_zero Go.wp_at_succ
def dN (w:Xw)(b:Nat)(L:List (Nat×Nat)):Prop :=
 ∃l:List ((Int×Int)×Value),fb w b pr l/\(∀p:Nat×Nat,(db (eD p) l).isSome=true↔p∈L)/\(∀k v,db k l=some v->v=.agg #[])
theorem dN.gh (h:dN w b L)(e:w'.heap[b]?=w.heap[b]?):dN w' b L:=by obtain⟨l,a,c,d⟩:=h;exact⟨l,a.of e,c,d⟩
theorem dN.lt (h:dN w b L):b<w.heap.size:=by obtain⟨l,a,_⟩:=h;exact a.lt
theorem dN.aq (h:dN w b L)(a:xB w w'):dN w' b L:=h.gh (a.block _ h.lt)
theorem Kd {p q:Nat×Nat}(h:eD p=eD q):p=q:=by simp only[eD,Prod.mk.injEq] at h;exact Prod.ext (by omega) (by omega)
theorem KJ (h:dN w b L)(p:Nat×Nat) :
 ∃w',(Instr.mapUpdate 224 (.map (some b)) (.agg #[xI (p.1:Nat),xI (p.2:Nat)]) (.agg #[])).run prog w=.ok () w'/\dN w' b (L++[p])/\Fr (·=b) w w':=by
 obtain⟨l,c,d,g⟩:=h;obtain⟨w',r,m,f⟩:=pq Tryz.tg underlying224 c (eD p) (.agg #[]);refine⟨w',r,⟨_,m,λq=>?_,λk v a=>?_⟩,f⟩
 . rw[rJ,bj];by_cases e:eD p=eD q
   . rw[ag e];simp[Kd e]
   rw[ae e,d q];refine⟨ao,λh=>h.resolve_right (λh=>e ?_)⟩;rw[cu.1 h]
 rw[rJ] at a;split at a
 . exact (Option.some.inj a).symm
 exact g k v a
theorem Tryz.GS (w:Xw):(zeroValue 273).run prog w=.ok (.agg #[]) w:=by kernel_rfl
theorem KZ (h:dN w b L)(p:Nat×Nat) :
 (Instr.lookup 224 (.map (some b)) (.agg #[xI (p.1:Nat),xI (p.2:Nat)]) true).run prog w=.ok (.tuple #[.agg #[],.bool (decide (p∈L))]) w:=by
 obtain⟨l,d,e,f⟩:=h;refine (rN Tryz.tg underlying224 Tryz.GS d (eD p) true).trans ?_;rw[ag rfl];have a:(db (eD p) l).getD (.agg #[])=.agg #[]:=by
  cases g:db (eD p) l with
  | none=>rfl
  | some v=>exact f _ _ g
 have c:(db (eD p) l).isSome=decide (p∈L):=by rw[Bool.eq_iff_iff,e p];simp
 rw[a,c]
theorem rX (i j:Nat)(w:Xw)(h:dN w b L) :
 xK 164 #[.map (some b),xI (i:Int),xI (j:Int)] w (λe w'=>e=.returned (.tuple #[])/\dN w' b (L++[(i,j)])/\Fr (·=b) w w'):=by
 obtain⟨f,d,c,a⟩:=KJ h (i,j);simp only at d;go_enter func164,ntmps164;go_wp2_with fail;first|go_end0|refine ab (results_none rfl _ _ _) rfl ?_
 exact⟨rfl,c,a⟩
theorem pc (i j:Nat)(w:Xw)(h:dN w b L) :
 xK 115 #[.map (some b),xI (i:Int),xI (j:Int)] w (λe w'=>e=.returned (.bool (decide ((i,j)∈L)))/\xB w w'):=by
 have a:=KZ h (i,j);simp only at a;go_enter func115,ntmps115;go_wp2_with fail;go_ret;exact⟨rfl,zq w _⟩
theorem Hv (a c n m:Nat)(L:List (Nat×Nat)):iE a c n (m+1) L=iE a c n m (if (c,a)∈L/\(a,n-(m+1))∈L then L++[(c,n-(m+1))] else L):=rfl
theorem Hm (a n m:Nat)(L:List (Nat×Nat)):iD a n (m+1) L=iD a n m (iE a (n-(m+1)) n n L):=rfl
theorem Hu (n m:Nat)(L:List (Nat×Nat)):kK n (m+1) L=kK n m (iD (n-(m+1)) n n L):=rfl
theorem pu {a:Xw}(h:xB w a):Fr (·=b) w a:=Fr.Mo h
theorem HY (n:Nat)(aL:n<=1000)(w:Xw)(V:dN w b L) :
 xK 114 #[.map (some b),xI (n:Int)] w (λe w'=>e=.returned (.tuple #[])/\dN w' b (jm n L)/\Fr (·=b) w w'):=by
 go_enter func114,ntmps114;go_wp2_with fail;go_loopg [8] (n+1) (λj i wr=>∃(k:Nat) (s:List (Nat×Nat)),k+j=n+1/\k<=n/\i=xI k/\aa (dN wr b s)/\aa (jm n L=kK n (j-1) s)/\aa (Fr (·=b) w wr));case atStart=>exact⟨0,L,by omega,aE _,rfl,V,rfl,Fr.refl _ _⟩
 case round =>
  obtain⟨k,s,Z,aA,rfl,C,v,z⟩:=hrel;by_cases ar:k<n
  . obtain⟨w1,rfl⟩:∃M,M=wr:=⟨_,rfl⟩;obtain⟨E,rfl⟩:∃g,g=gk:=⟨_,rfl⟩;go_wp2_with fail;go_loopg [12] (n+1) (λj i wr=>∃(d:Nat) (r:List (Nat×Nat)),d+j=n+1/\d<=n/\i=xI d/\aa (dN wr b r)/\aa (iD k n n s=iD k n (j-1) r)/\aa (Fr (·=b) w wr));case atStart=>exact⟨0,s,by omega,aE _,rfl,C.o,rfl,z.o⟩
    case round =>
     obtain⟨d,r,O,X,rfl,D,x,A⟩:=hrel;by_cases Q:d<n
     . obtain⟨w2,rfl⟩:∃M,M=wr:=⟨_,rfl⟩;obtain⟨F,rfl⟩:∃g,g=gk:=⟨_,rfl⟩;go_wp2_with fail;go_loopg [16] (n+1) (λj i wr=>∃(f:Nat) (p:List (Nat×Nat)),f+j=n+1/\f<=n/\i=xI f/\aa (dN wr b p)/\aa (iE k d n n r=iE k d n (j-1) p)/\aa (Fr (·=b) w wr));case atStart=>exact⟨0,r,by omega,aE _,rfl,D.o,rfl,A.o⟩
       case round =>
        obtain⟨f,p,P,Y,rfl,h,y,q⟩:=hrel;by_cases R:f<n
        . obtain⟨m,rfl⟩:∃m,gk=m+1+1:=⟨gk-1-1,by omega⟩;have N:=y.o;rw[show m+1+1-1=m+1 from rfl,Hv,show n-(m+1)=f by omega] at N;have l:=za N;have B:=za (pc d k wr h.o);by_cases G:(d,k)∈p
          . rw[decide_eq_true G] at B;by_cases H:(k,f)∈p
            . rw[ag ⟨G,H⟩] at l;have u:=za (λW (K:xB wr W)=>pc k f W (h.o.aq K));rw[decide_eq_true H] at u
              go_wp2_with (first
               | (go_at_call 164;refine U.o.mono ?_;rintro e w5 ⟨rfl,J,I⟩)
               | (go_at_call 115;refine (u.o _ c).mono ?_;rintro e T ⟨rfl,t⟩;have o:=za (c.trans (t.mono c.size));have U:=za (rX d f T (h.o.aq o.o)))
               | (go_at_call 115;refine B.o.mono ?_;rintro e S ⟨rfl,c⟩))
              go_roundg (m+1);case measure=>omega
              exact⟨f+1,p++[(d,f)],by omega,by omega,by go_num,J,l.o,(q.o.trans (pu o.o)).trans I⟩
            rw[ae (λe=>H e.2)] at l;have u:=za (λW (K:xB wr W)=>pc k f W (h.o.aq K));rw[decide_eq_false H] at u
            go_wp2_with (first
             | (go_at_call 115;refine (u.o _ c).mono ?_;rintro e T ⟨rfl,t⟩;have o:=za (c.trans (t.mono c.size)))
             | (go_at_call 115;refine B.o.mono ?_;rintro e S ⟨rfl,c⟩))
            go_roundg (m+1);case measure=>omega
            exact⟨f+1,p,by omega,by omega,by go_num,h.o.aq o.o,l.o,q.o.trans (pu o.o)⟩
          rw[ae (λe=>G e.1)] at l;rw[decide_eq_false G] at B;go_wp2_with (go_at_call 115;refine B.o.mono ?_;rintro e S ⟨rfl,c⟩);go_roundg (m+1);case measure=>omega
          exact⟨f+1,p,by omega,by omega,by go_num,h.o.aq c,l.o,q.o.trans (pu c)⟩
        have:f=n:=by omega
        subst this;have:gk=1:=by omega
        subst this;have l:aa (iE k d f f r=p):=y.o;go_wp2_with fail;go_roundg (F-1);case measure=>omega
        refine⟨d+1,p,by omega,by omega,by go_num,h.o,?_,q.o⟩;have a:=x.o;rw[show F-1=(F-1-1)+1 by omega,Hm,show f-(F-1-1+1)=d by omega,l.o] at a;exact a
     have:d=n:=by omega
     subst this;have:gk=1:=by omega
     subst this;have l:aa (iD k d d s=r):=x.o;go_wp2_with fail;go_roundg (E-1);case measure=>omega
     refine⟨k+1,r,by omega,by omega,by go_num,D.o,?_,A.o⟩;have a:=v.o;rw[show E-1=(E-1-1)+1 by omega,Hu,show d-(E-1-1+1)=k by omega,l.o] at a;exact a
  have:k=n:=by omega
  subst this;have:gk=1:=by omega
  subst this;have l:aa (jm k L=s):=v.o;go_wp2_with fail;first|go_end0|refine ab (results_none rfl _ _ _) rfl ?_
  exact⟨rfl,by rw[l.o];exact C.o,z.o⟩
end
section
variable {L:List (Nat×Nat)} {N n i o d j:Nat} {c:Sc} {p q:Xv} {w g:Xw}
attribute [local go_sem ↓] Go.wp_at_zero Go.wp_at_succ
structure jC (N:Nat) (c:Sc) (p q:Xv) (i d n o j:Nat) (L:List (Nat×Nat)) (w:Xw):Prop where
 lk:dN w d L
 sc:br w N c p q
 x1:w.heap[n]?=some (.cells #[.map (some d)] 224 (0,0))
 x2:w.heap[o]?=some (.cells #[xI (i:Int)] 3 (0,0))
 x3:w.heap[j]?=some (.cells #[p,q] 73 (0,0))
 d1:¬n=d
 d2:¬o=d
 d3:¬j=d
 l:N<=d
 hN:N<=w.heap.size
theorem jC.aq (h:jC N c p q i d n o j L w)(a:xB w g):jC N c p q i d n o j L g :=
 ⟨h.lk.aq a,h.sc.am (zm a h.hN),(a.block _ (ze h.x1)).trans h.x1,(a.block _ (ze h.x2)).trans h.x2,(a.block _ (ze h.x3)).trans h.x3,h.d1,h.d2,h.d3,h.l,aJ h.hN a.size⟩
theorem jC.put {b:List (Nat×Nat)}(h:jC N c p q i d n o j L w)(f:dN g d b)(a:Fr (·=d) w g):jC N c p q i d n o j b g :=
 ⟨f,h.sc.am (a.am h.hN (λ_ e=>e▸h.l)),(a.block _ (ze h.x1) h.d1).trans h.x1,(a.block _ (ze h.x2) h.d2).trans h.x2,(a.block _ (ze h.x3) h.d3).trans h.x3,h.d1,h.d2,h.d3,h.l,aJ h.hN a.size⟩
theorem rM {m:Nat}{W:Xw}{b:Nat}{v:Xv}(h:Fr (·=m) w W)(e:w.cell? (xD b i)=some v)(f:¬b=m):W.cell? (xD b i)=some v:=by
 have a:b<w.heap.size:=by
  rcases Nat.lt_or_ge b w.heap.size with h|h
  . exact h
  simp[World.cell?,Array.getElem?_eq_none h] at e
 exact (Z6 (w:=w) (h.block b a f)).trans e
theorem KA:zH 165:=λ_ _=>by kernel_rfl
theorem Jd (N:Nat)(c:Sc)(p q:Xv)(i d n o j:Nat)(G:N<=d) :
 p4 N (·=d) 165 #[xP n,xP o,xP j] (λ_ _=>True) gH (λL t=>L++j0 c i t) (jC N c p q i d n o j) where
 enters:=KA
 hT:=λk e=>e▸G
 aq:=λs w g h K=>h.aq K
 sub:=λ_ _ _ _ _ _=>trivial
 call:=by
  intro t v L w hT M f _;obtain⟨V,D,T,rfl,rfl,P⟩:=f.sc.shape;have m:=za (rq w hT);obtain⟨b,H,vs,rfl,O,z,_⟩:=hT.ptr;obtain⟨I,m1,m2,m3,m4,m5,aA,S⟩:=zt z;obtain⟨W,X,Y⟩:=zu f.x1;obtain⟨Z,Q,ar⟩:=zu f.x2;obtain⟨aV,s1,a0,sz⟩:=zp f.x3;have d1:=f.d1;have d2:=f.d2;have d3:=f.d3;have F:¬b=d:=by omega
  have B:=za (hW t.s (t.nm:Int) w.drew (f.sc.am (λ_ _=>rfl)) M)
  show Calls prog _ #[xP b,xP n,xP o,xP j] w _;cases a:NA t.k with
  | true =>
    have y:¬t.k=9:=(by intro e;rw[e] at a;cases a);have A:aa (j0 c i t=[(i,c.idx t.s)]):=(by unfold aa j0;rw[ag a]);have x:aa (gH t=true):=(by unfold aa gH;simp[y]);rw[a] at m;have u:¬(t.k:Int)=9:=(by omega);go_enter func165,ntmps165;go_upto_region 2 with (go_at_call 101;refine m.o.mono ?_;rintro e g ⟨rfl,rfl⟩)
    go_region_held3 (λg=>g.cell? (xD n 0)=some (.map (some d))/\g.cell? (xD o 0)=some (xI (i:Int))/\g.cell? (xD j 0)=some (xE V c D)/\g.cell? (xD j 1)=some (xP T)/\g.cell? (xD b 2)=some (.string t.s)/\g.cell? (xD b 3)=some (xI t.nm))
     (first|(with_reducible (refine⟨?_,?_,?_,?_,?_,?_⟩ <;> repeat (first|assumption|refine zg ?_|refine rM r ?_ (by omega)|refine zd l.o ?_ (by omega))))|go_keep)
     (first
       | (go_at_call 164;refine J.o.mono ?_;rintro e w2 ⟨rfl,C,r⟩;have aL:=rM r (zd l.o I S) F)
       | (go_at_call 61;refine B.o.mono ?_;rintro e U ⟨rfl,E⟩;have l:=za (zw E);have J:=za (rX i (c.idx t.s) U (f.lk.aq l.o))))
    go_wp2_with fail;go_ret;rw[A.o,x.o];exact⟨by simp[u],(f.aq l.o).put C r,(pu l.o).trans r⟩
  | false =>
    have A:aa (j0 c i t=[]):=(by unfold aa j0;rw[a];rfl);rw[a] at m;by_cases y:t.k=9
    . have x:aa (gH t=false):=(by unfold aa gH;simp[y]);have R:w.cell? (xD b 0)=some (xI 9):=(by rw[I,y];rfl);go_enter func165,ntmps165;go_wp2_with (go_at_call 101;refine m.o.mono ?_;rintro e g ⟨rfl,rfl⟩);go_ret;rw[A.o,x.o,List.append_nil];exact⟨rfl,f,Fr.refl _ _⟩
    have x:aa (gH t=true):=(by unfold aa gH;simp[y]);have u:¬(t.k:Int)=9:=(by omega);go_enter func165,ntmps165;go_wp2_with (go_at_call 101;refine m.o.mono ?_;rintro e g ⟨rfl,rfl⟩);go_ret;rw[A.o,x.o,List.append_nil];exact⟨by simp[u],f,Fr.refl _ _⟩
theorem xO {α β:Type}(f:α->List β):∀(l:List α) (L:List β),l.foldl (λL t=>L++f t) L=L++l.flatMap f:=by
 intro l;induction l with
 | nil=>intro L;simp
 | cons a l b=>intro L;rw[List.foldl_cons,b,List.flatMap_cons,bw]
end
end Go.Proofs.YtcnelakggnfnhaaGreatDoor
