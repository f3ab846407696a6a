/- Part 28 of the proof. -/
import Derived.Test.YtbicmofihhjgbaaGreatDoorK26
set_option maxRecDepth 100000
set_option maxHeartbeats 8000000
namespace Go.Proofs.YtbicmofihhjgbaaGreatDoor
open Go.Proofs.Tryz
section
open Go.RowKit
variable {N D a m k r lb f:Nat} {S:Xs} {A:Xo} {c:Sc} {t B u C:Xv} {w w':Xw}
attribute [local go_sem ↓] Go.wp_at_zero Go.wp_at_succ
structure e2 (S:Xs) (r lb a f:Nat) (u t:Xv) (N:Nat) (c:Sc) (B C:Xv) (D m:Nat) (A:Xo) (w:Xw):Prop where
 rp:Fx S r lb a f u t A w
 sc:br w N c B C
 ck:dF w c m
 x1:w.heap[D]?=some (.cells #[B,C] 216 (0,0))
 d:∀b,b=D∨b=m->¬b=lb/\¬b=a
 l1:N<=lb
 l2:N<=a
 hN:N<=w.heap.size
theorem e2.aq (h:e2 S r lb a f u t N c B C D m A w)(b:xB w w'):e2 S r lb a f u t N c B C D m A w' :=
 ⟨h.rp.aq b,h.sc.am (zm b h.hN),h.ck.aq b,(b.block _ (ze h.x1)).trans h.x1,h.d,h.l1,h.l2,aJ h.hN b.size⟩
theorem e2.aX {d:Xo}(h:e2 S r lb a f u t N c B C D m A w)(l:Fx S r lb a f u t d w')(g:Fr (RT lb a) w w'):e2 S r lb a f u t N c B C D m d w':=by
 have j:∀{b},(b=D∨b=m)->¬RT lb a b:=λi e=>by rcases e with e|e;exact (h.d _ i).1 e;exact (h.d _ i).2 e
 exact⟨l,h.sc.am (g.am h.hN (λk e=>by rcases e with e|e;exact e▸h.l1;exact e▸h.l2)),h.ck.gh (g.block _ h.ck.lt (j (by simp))),(g.block _ (ze h.x1) (j (by simp))).trans h.x1,h.d,h.l1,h.l2,aJ h.hN g.size⟩
theorem e2.am (h:e2 S r lb a f u t N c B C D m A w)(b:Fr (RT lb a) w w'):bV N w w':=b.am h.hN (λk e=>by rcases e with e|e;exact e▸h.l1;exact e▸h.l2)
theorem e2.on (h:e2 S r lb a f u t N c B C D m A w)(g:xB w w'){z:Nat}(n:w.heap.size<=z)
 (i:xH w' z #[B,C] 216) (j:xH w' (z+1) #[.map (some m)] 123) (l:xH w' (z+1+1) #[bT lb a f] 214) :
 iq S r lb a f u t N c B C m z (z+1) (z+1+1) A w':=by
 have d:=h.aq g;have o:=ze h.rp.l;have p:=ze h.rp.b;refine⟨d.rp,d.sc,d.ck,i,j,l,λb e=>?_,h.l1,h.l2,d.hN⟩;rcases e with e|e|e|e
 . subst e;exact⟨by omega,by omega⟩
 . subst e;exact⟨by omega,by omega⟩
 . subst e;exact⟨by omega,by omega⟩
 subst e;exact h.d _ (ap rfl)
theorem G4 {l:List Vr}{v:Vr}(h:l[k]?=some v):hZ c (l.drop k) k=(if c.jF k=true then [v.a] else [])++hZ c (l.drop (k+1)) (k+1):=by obtain⟨b,d⟩:=aB.1 h;rw[dE b,hZ,d]
theorem GU {q:Nat×Nat}{b:Xl}{d:Xn}{s:Xb}{p:Nat}(l:b[k]?=some s)(j:d[k]?=some p):fU c q (b.drop k) (d.drop k)=(if c.of (c.idx s)=q then [] else [p])++fU c q (b.drop (k+1)) (d.drop (k+1)):=by obtain⟨e,g⟩:=aB.1 l;obtain⟨h,i⟩:=aB.1 j;rw[dE e,dE h,fU,g,i]
theorem G3 (c:Sc)(q:Nat×Nat)(b:Xn):fU c q [] b=[]:=by cases b <;> rfl
theorem Jk (d n e b:Nat)(o:n=e+1)(p:n<=b):∃i g,(∀w,(Instr.slice 181 (xS d n b) (some (xI 1)) none none).run prog w=.ok (.slice i e g) w)/\(0<e->i=some ⟨d,2,none⟩):=by
 refine⟨if b=1 then some (xD d 0) else some (xD d 2),b-1,λw=>?_,λh=>ae (by omega)⟩;have l:(1:Int)<=(n:Int):=by omega
 have j:n-1=e:=by omega
 by_cases h:b=1
 . simp[Instr.slice,Instr.sliceBounds,Instr.sliceBound,run_underlying underlying181,asIntOf,l,h,j]
 simp[Instr.slice,Instr.sliceBounds,Instr.sliceBound,run_underlying underlying181,asIntOf,l,h,j,Addr.add]
theorem IL (m lb a f:Nat)(w:Xw)(g:Xp)(n b:Nat)(d:Nat) :
 xK 134 #[.agg #[.slice g n b,xP d],.map (some m),.func (.func 140) #[] #[xP lb,xP a,xP f]] w.drew (λe w'=>e=.returned (.func (.func 177) #[] #[xP (w.heap.size+1),xP w.heap.size,xP (w.heap.size+1+1)])/\xB w w'/\w'.heap[w.heap.size]?=some (.cells #[.slice g n b,xP d] 216 (0,0))/\w'.heap[w.heap.size+1]?=some (.cells #[.map (some m)] 123 (0,0))/\w'.heap[w.heap.size+1+1]?=some (.cells #[bT lb a f] 214 (0,0))):=by
 refine (Jh (.slice g n b) (xP d) m lb a f w.drew g n b d rfl rfl).mono ?_;rintro e w' ⟨h,i,j,l,o,p⟩;exact⟨h,zw i,j,l,o⟩
theorem Hn (S:Xs)(r lb a f:Nat)(u t:Xv)(N:Nat)(c:Sc)(hc:eU c)(B C:Xv)(A:Xo)(w:Xw)(hR:Fx S r lb a f u t A w)(h:br w N c B C)(hN:N<=w.heap.size)(l1:N<=lb)(l2:N<=a) :
 xK 68 #[.agg #[B,C],bT lb a f] w (λe w'=>e=.returned (.tuple #[])/\Fx S r lb a f u t (c.e4.foldl aj A) w'/\Fr (RT lb a) w w'):=by
 obtain⟨a1,G,nb,rfl,rfl,gZ⟩:=h.shape;have g4:=ze hR.l;have g3:=ze hR.b;have ft:=za hR;have er:=za h;obtain⟨g5,hm,hi,xs,eX,bg⟩:=h.nd;cases eX;obtain⟨hy,gt,rfl⟩:=zB bg.bZ;obtain⟨hw,gs,rfl⟩:=zB bg.own;have a3:=za bg;have fA:=bg.bO;have gx:c.nd.eqs.length<=9223372036854775807:=by
  rcases bg.own.2 with ⟨_,h⟩|⟨g,c9,da,hv,_,_,h3,h4,_⟩
  . omega
  unfold maxLen at h4;omega
 have bL:=za (λo=>xf (w.alloc o) (h.am (OJ hN o)) (by rw[au];omega));have HEq:=za hc.nd.eqs;clear hR h bg hc;unfold bT;go_enter func68,ntmps68;go_upto_region 2 with (go_at_call 99;refine (bL.o _).mono ?_;rintro e w1 ⟨m,rfl,du,di,z⟩;have c0:=za di;have E:=za z;clear di z);refine zn (λW=>e2 S r lb a f u t N c (xE a1 c G) (xP nb) w.heap.size m A W/\Fr (RT lb a) w W) ⟨⟨ft.o.aq (zE E.o),er.o.am (zm (zE E.o) hN),c0.o,(E.o.block _ (by simp)).trans (zc w _),λb e=>by rw[au] at du;rcases e with e|e <;> exact⟨by omega,by omega⟩,l1,l2,by have:=(zE E.o).size;omega⟩,zy (zE E.o)⟩ ?_;rintro W ⟨d,H⟩;have e3:=d.am (Fr.refl _ _);obtain⟨m0,m1,m2,m3,m4,m5,fj,fk⟩:=zt ((H.block nb (by omega) (λe=>by rcases e with e|e <;> omega)).trans a3.o.aC);obtain⟨b0,s1,b2,sz⟩:=zp d.x1;have F:=za d;have R:=za H;clear d H e3 E c0 bL ft;go_wp2_with fail;go_loopg [22] (c.nd.ak.length+1) (λj i wr=>∃(k:Nat) (Y:Xo),k+j=c.nd.ak.length+1/\k<=c.nd.ak.length/\i=xI k/\aa (e2 S r lb a f u t N c (xE a1 c G) (xP nb) w.heap.size m Y wr)/\aa ((hZ c c.nd.ak 0).foldl aj A=(hZ c (c.nd.ak.drop k) k).foldl aj Y)/\aa (Fr (RT lb a) w wr));case atStart=>exact⟨0,A,by omega,aE _,rfl,F.o,rfl,R.o⟩
 case round =>
  clear F R b0 s1 b2 sz m0 m1 m2 m3 m4 m5 fj fk;obtain⟨k,Y,dz,fD,rfl,a9,bt,bv⟩:=hrel;have hO:=bv.o.am hN (λk e=>by rcases e with e|e;exact e▸l1;exact e▸l2);by_cases bE:k<c.nd.ak.length
  . obtain⟨v,hv⟩:∃v,c.nd.ak[k]?=some v:=⟨_,av bE⟩;obtain⟨g,rfl,eQ,eR,eS,he,hf,hg,hh⟩:=hj (a3.o.am hO).bZ hv;have e7:=a3.o.jc g rfl;have dp:=a9.o.hN;have cK:aa ((hZ c c.nd.ak 0).foldl aj A=(hZ c (c.nd.ak.drop (k+1)) (k+1)).foldl aj ((if c.jF k=true then [v.a] else []).foldl aj Y)):=by unfold aa;rw[bt.o,G4 hv,bc]
    have bx:=za (λo=>Ha k (wr.alloc o) (a9.o.aq (zq wr o)).ck (by omega));clear bt hv hO;cases bC:c.jF k with
    | false =>
      rw[bC] at cK bx;clear bC;go_wp2_with (go_at_call 132;refine (bx.o _).mono ?_;rintro e w2 ⟨rfl,l⟩;have I:=za (zE l);clear l);go_roundg (gk-1);case measure=>omega
      exact⟨k+1,Y,by omega,by omega,by go_num,a9.o.aq I.o,cK.o,bv.o.trans (zy I.o)⟩
    | true =>
      rw[bC] at cK bx;clear bC
      go_wp2_with (first
       | (go_at_call 140;refine (eg S r lb a f u t Y v.a _ c3.o.rp).mono ?_;rintro e w3 ⟨rfl,aV,aA⟩;have bo:=za aV;have P:=za aA;clear aV aA)
       | (go_at_call 132;refine (bx.o _).mono ?_;rintro e w2 ⟨rfl,l⟩;have c3:=za (a9.o.aq (zE l));have x1:=zd l (eK (zc wr _)).2.1 (by simp);have I:=za (zE l);clear l))
      go_roundg (gk-1);case measure=>omega
      exact⟨k+1,aj Y v.a,by omega,by omega,by go_num,c3.o.aX bo.o P.o,cK.o,(bv.o.trans (zy I.o)).trans P.o⟩
  have ek:k=c.nd.ak.length:=by omega
  subst ek;rw[List.drop_length,hZ] at bt;have c1:aa (c.e4.foldl aj A=(c.nd.eqs.flatMap (mr c)).foldl aj Y):=by unfold aa Sc.e4;rw[bc,bt.o];rfl
  clear bt;obtain⟨m0,m1,m2,m3,m4,m5,fj,fk⟩:=zt ((hO nb a3.o.lo).trans a3.o.aC);obtain⟨b0,s1,b2,sz⟩:=zp a9.o.x1;clear hO;go_wp2_with fail;go_loopg [43] (c.nd.eqs.length+1) (λj i wr=>∃(k:Nat) (a0:Xo),k+j=c.nd.eqs.length+1/\k<=c.nd.eqs.length/\i=xI k/\aa (e2 S r lb a f u t N c (xE a1 c G) (xP nb) w.heap.size m a0 wr)/\aa (c.e4.foldl aj A=((c.nd.eqs.drop k).flatMap (mr c)).foldl aj a0)/\aa (Fr (RT lb a) w wr));case atStart=>exact⟨0,Y,by omega,aE _,rfl,a9.o,c1.o,bv.o⟩
  case round =>
   clear a9 bv c1 b0 s1 b2 sz m0 m1 m2 m3 m4 m5 fj fk dz fD bE;obtain⟨k,a0,dz,fD,rfl,a9,bt,bv⟩:=hrel;have hO:=bv.o.am hN (λk e=>by rcases e with e|e;exact e▸l1;exact e▸l2);by_cases bE:k<c.nd.eqs.length
   . obtain⟨a6,rfl⟩:∃a6,a6=wr:=⟨_,rfl⟩;obtain⟨eY,rfl⟩:∃g,g=gk:=⟨_,rfl⟩;obtain⟨q,dY⟩:∃q,c.nd.eqs[k]?=some q:=⟨_,av bE⟩;have cn:=a3.o.am hO;obtain⟨g,lv,rv,rfl,eQ,eR,eS,cm⟩:=lj cn.own cn.eqs dY rfl;obtain⟨rb,_,_,rfl,_⟩:=cm.tt.ptr;obtain⟨hu,cl,rfl⟩:=zB cm.own;have e7:=a3.o.ko g rfl;have ea:=za cm;obtain⟨bq,a5,_⟩:=HEq.o q (aM dY);have eZ:q.ns.length<=9223372036854775807:=by
      rcases cm.own.2 with ⟨_,h⟩|⟨g,c9,da,hv,_,_,h3,h4,_⟩
      . omega
      unfold maxLen at h4;omega
     obtain⟨s,cR,bs⟩:∃s cR,q.ns=s::cR:=by
      cases hx:q.ns with
      | nil=>rw[hx] at a5;simp at a5
      | cons s cR=>exact⟨s,cR,rfl⟩
     obtain⟨p,pp,bK⟩:∃p pp,q.ps=p::pp:=by
      cases hx:q.ps with
      | nil=>rw[hx] at bq;simp at bq;rw[bq] at a5;simp at a5
      | cons s cR=>exact⟨s,cR,rfl⟩
     have e5:q.ns.length<=cl/\cl<=9223372036854775807:=by
      rcases cm.own.2 with ⟨h0,h⟩|⟨g,c9,da,hv,_,_,h3,h4,_⟩
      . omega
      cases hv;unfold maxLen at h4;omega
     obtain⟨bY,dw⟩:=e5;have i1:(1:Int)<=(q.ns.length:Int):=(by omega);have i2:(q.ns.length:Int)<=(cl:Int):=(by omega);have i3:(1:Int)<=(cl:Int):=(by omega);obtain⟨gl,rfl,n0,n1⟩:=kG cm.own (k:=0) (s:=s) (p:=p) (by rw[bs];rfl) (by rw[bK];rfl) rfl;have fB:=ea.o.lo gl rfl;have gC:=a9.o.hN;obtain⟨O,ct⟩:∃O,c.of (c.idx s)=O:=⟨_,rfl⟩;have cK:aa (c.e4.foldl aj A=((c.nd.eqs.drop (k+1)).flatMap (mr c)).foldl aj ((fQ c q.r O).foldl aj ((fU c O (q.ns.drop 1) (q.ps.drop 1)).foldl aj a0))):=(by unfold aa;obtain⟨h1,h2⟩:=aB.1 dY;rw[bt.o,dE h1,List.flatMap_cons,h2,bc];congr 1;unfold mr;rw[bs,bK];simp only[List.headD_cons,List.tail_cons,List.drop_one];rw[ct,bc]);have cg:=za (a9.o.aq (zq a6 (.cells #[xS gl q.ns.length cl,xI q.a,xP rb] 184)));have ck:=za (bv.o.alloc (.cells #[xS gl q.ns.length cl,xI q.a,xP rb] 184));have cv:1<=q.ns.length:=a5;have fd:(0:Int)<(q.ns.length:Int):=(by omega);have fg:0<q.ns.length:=a5;have ff:¬q.ns=[]:=(by rw[bs];simp);have gn:=za bs;have gm:=za bK;have eG:=za bq;have eF:=za ct;clear cn cm dY bt hO bs bK bq ct a5;go_upto_region 11 with fail;go_cut [9,43] from 43 to 88 (λx y wx=>∃bk,x=xP bk/\y=xI k/\a6.heap.size<bk/\aa (e2 S r lb a f u t N c (xE a1 c G) (xP nb) w.heap.size m a0 wx)/\aa (Fr (RT lb a) w wx)/\aa (xH wx a6.heap.size #[xS gl q.ns.length cl,xI q.a,xP rb] 184)/\aa (xH wx bk #[xI (O.1:Nat),xI (O.2:Nat)] 198))
     case first =>
      refine zn (λW=>e2 S r lb a f u t N c (xE a1 c G) (xP nb) w.heap.size m a0 W/\Fr (RT lb a) w W/\xH W a6.heap.size #[xS gl q.ns.length cl,xI q.a,xP rb] 184/\xC W gl 0 (.string s)/\xC W gl 1 (xI p)) ⟨cg.o,ck.o,zc a6 _,zj _ n0,zj _ n1⟩ ?_;rintro W ⟨d,H,cs,eN,c6⟩;obtain⟨b0,s1,b2,sz⟩:=zp d.x1;obtain⟨q0,fl,q2,qf,cO⟩:=zL cs;have fC:gl<W.heap.size:=(by have:=d.hN;omega);have U:=za (λW' (hB:xB W W')=>hW s (p:Int) W' (d.aq hB).sc (d.aq hB).hN);have T:=za (λW' (hB:xB W W')=>jW (c.idx s) W' (d.aq hB).ck);rw[eF.o] at T;have F:=za d;have R:=za H;have c4:=za cs;clear d H cs cg ck n0 n1 eQ eR eS
      go_region_held3 (λw'=>w'.cell? (xD w.heap.size 0)=some (xE a1 c G)/\w'.cell? (xD w.heap.size 1)=some (xP nb)/\w'.cell? (xD a6.heap.size 0)=some (xS gl q.ns.length cl)/\w'.cell? (xD gl 0)=some (.string s)/\w'.cell? (xD gl 1)=some (xI p))
       (first|(with_reducible (refine⟨?_,?_,?_,?_,?_⟩ <;> repeat (first|assumption|refine zg ?_|refine zj _ ?_|refine zk (by omega) ?_|refine zd K.o ?_ (by first|omega|(rw[au];omega))|refine zd J.o ?_ (by first|omega|(rw[au];omega)))))|go_keep)
       (first
         | (go_at_call 104;refine (T.o _ (by first|exact J.o|exact jh J.o (an _) _)).mono ?_;rintro e w2 ⟨rfl,l⟩;have I:=za l;(first|(have V:xH w2 W.heap.size #[xI 0,xI 0] 198:=(l.block _ g8).trans eE.o;have c5:=za V;obtain⟨t0,t1,g7,tz⟩:=zp V;clear V)|(have V:xH w2 w1.heap.size #[xI 0,xI 0] 198:=(l.block w1.heap.size (by simp)).trans (zc w1 _);have c5:=za V;obtain⟨t0,t1,g7,tz⟩:=zp V;clear V)|skip);(first|have K:=za (J.o.trans (l.mono J.o.size))|have K:=za (J.o.trans ((zE l).mono J.o.size)));have gc:=K.o.size;clear l)
         | (go_at_call 105;refine (U.o _ (by first|exact zo (Below.refl _ _)|exact jh (zo (Below.refl _ _)) (an _) _)).mono ?_;rintro e w1 ⟨rfl,z⟩;have E:=za z;(first|(have X:xH w1 W.heap.size #[xI 0,xI 0] 198:=(z.block W.heap.size (by simp)).trans (zc W.drew _);have eE:=za X;obtain⟨hz,fr,hD,g8⟩:=zp X;clear X;have J:=za (zw (zE z)))|have J:=za (zw z));have ga:=J.o.size;clear z))
      all_goals go_wp2_with fail
      all_goals go_meet
      . exact⟨_,rfl,rfl,by omega,F.o.aq (jh K.o (an _) _),R.o.trans (zy (jh K.o (an _) _)),((jh K.o (an _) _).block _ cO).trans c4.o,zc w2 _⟩
      iterate 2
       . exact⟨_,rfl,rfl,by omega,F.o.aq (zC (zC K.o (by omega) _) (by omega) _),R.o.trans (zy (zC (zC K.o (by omega) _) (by omega) _)),zr (by omega) (zr (by omega) ((K.o.block _ cO).trans c4.o)),pa c5.o _ _⟩
     case rest =>
      obtain⟨bk,rfl,rfl,gU,U,c2,ce,cd⟩:=hcut;clear cg ck n0 n1 eQ eR eS;obtain⟨q0,fl,q2,qf,cO⟩:=zL ce.o;obtain⟨nl,cz⟩:∃nl,q.ns.length=nl+1:=⟨q.ns.length-1,by omega⟩;obtain⟨g9,go,g1,dq⟩:=Jk gl q.ns.length nl cl cz bY;have gz:nl<=9223372036854775807:=(by omega);have ch:=za cz;have eq:=za dq;have dM:a6.heap.size<wc.heap.size:=cO;have dH:=ze cd.o;have dL:lb<a6.heap.size/\a<a6.heap.size:=⟨ze a9.o.rp.l,ze a9.o.rp.b⟩;obtain⟨gY,gV⟩:=dL;clear cz dq bY dw i1 i2 i3 eZ cv;go_wp2_with fail;go_loopg [60] (nl+1) (λj i wr=>∃(Z:Nat) (Q:Xo),Z+j=nl+1/\Z<=nl/\i=xI Z/\aa (e2 S r lb a f u t N c (xE a1 c G) (xP nb) w.heap.size m Q wr)/\aa ((fU c O (q.ns.drop 1) (q.ps.drop 1)).foldl aj a0=(fU c O (q.ns.drop (1+Z)) (q.ps.drop (1+Z))).foldl aj Q)/\aa (Fr (RT lb a) w wr)/\aa (xH wr a6.heap.size #[xS gl q.ns.length cl,xI q.a,xP rb] 184)/\aa (xH wr bk #[xI (O.1:Nat),xI (O.2:Nat)] 198));case atStart=>exact⟨0,a0,by omega,aE _,rfl,U.o,rfl,c2.o,ce.o,cd.o⟩
      case round =>
       clear U c2 ce cd q0 fl q2 qf cO dM dH;obtain⟨Z,Q,fP,gX,rfl,a2,bA,bl,ar,L⟩:=hrel;have g0:=ze ar.o;have gW:=ze L.o;have dp:=a2.o.hN;have co:bV N w wr:=bl.o.am hN (λk e=>by rcases e with e|e;exact e▸l1;exact e▸l2);have bB:bV N a6 wr:=λb fz=>(co b fz).trans ((bv.o.am hN (λk e=>by rcases e with e|e;exact e▸l1;exact e▸l2)) b fz).symm;by_cases fS:Z<nl
       . obtain⟨s',cB⟩:∃s,q.ns[1+Z]?=some s:=⟨_,av (by have:=ch.o;omega)⟩;obtain⟨p',cA⟩:∃p,q.ps[1+Z]?=some p:=⟨_,av (by have:=ch.o;have:=eG.o;omega)⟩;obtain⟨gw,eX,d0,d1⟩:=kG (ea.o.am bB).own cB cA rfl;cases eX;rw[show (1+Z)*2=2+Z*2 by omega] at d0 d1;obtain rfl:=eq.o (by omega);obtain⟨o,dV⟩:∃o,c.of (c.idx s')=o:=⟨_,rfl⟩;have be:=za bA.o;rw[GU cB cA,bc,show 1+Z+1=1+(Z+1) by omega,dV] at be;clear bA co bB cB cA;by_cases e0:o=O
         . rw[ag e0] at be;have dc:(o.1:Int)=(O.1:Int):=(by rw[e0]);have eW:(o.2:Int)=(O.2:Int):=(by rw[e0]);clear e0;go_upto_region 15 with fail;refine zn (λW=>e2 S r lb a f u t N c (xE a1 c G) (xP nb) w.heap.size m Q W/\Fr (RT lb a) w W/\xB wr W/\xH W wr.heap.size #[.string s',xI p'] 117) ⟨a2.o.aq (zq wr _),bl.o.alloc _,zq wr _,zc wr _⟩ ?_;rintro W ⟨d,H,M,aL⟩;obtain⟨b0,s1,b2,sz⟩:=zp d.x1;obtain⟨eN,c6,fu,dP⟩:=zp aL;obtain⟨k0,cE,kf,kz⟩:=zp ((M.block _ (ze L.o)).trans L.o);have U:=za (hW s' (p':Int) W.drew (d.sc.am (λ_ _=>rfl)) d.hN);have F:=za d;have R:=za H;have ab:=za M;have ds:=M.size;clear d H M aL
           go_region_held3 (λw'=>w'.cell? (xD w.heap.size 0)=some (xE a1 c G)/\w'.cell? (xD w.heap.size 1)=some (xP nb)/\w'.cell? (xD wr.heap.size 0)=some (.string s')/\w'.cell? (xD wr.heap.size 1)=some (xI p')/\w'.cell? (xD bk 0)=some (xI (O.1:Nat))/\w'.cell? (xD bk 1)=some (xI (O.2:Nat)))
            (first|(with_reducible (refine⟨?_,?_,?_,?_,?_,?_⟩ <;> repeat (first|assumption|refine zg ?_|refine zj _ ?_|refine zk (by omega) ?_|refine zd I.o ?_ (by first|omega|(rw[au];omega))|refine zd E.o ?_ (by first|omega|(rw[au];omega)))))|go_keep)
            (first
              | (go_at_call 104;refine T.o.mono ?_;rintro e w2 ⟨rfl,l⟩;have I:=za l;have V:w1.heap.size<=w2.heap.size:=l.size;clear l)
              | (go_at_call 105;refine U.o.mono ?_;rintro e w1 ⟨rfl,z⟩;have E:=za (zw z);have X:W.heap.size<=w1.heap.size:=z.size;have T:=za (jW (c.idx s') w1 (F.o.ck.aq E.o));(rw[dV] at T);clear z))
           have n:=za (E.o.trans (I.o.mono X));go_wp2_with fail;go_roundg (gk-1);case measure=>omega
           exact⟨Z+1,Q,by omega,by omega,by go_num,F.o.aq n.o,be.o,R.o.trans (zy n.o),(n.o.block _ (by omega)).trans ((ab.o.block _ (ze ar.o)).trans ar.o),(n.o.block _ kz).trans ((ab.o.block _ (ze L.o)).trans L.o)⟩
         rw[ae e0] at be;by_cases e1:o.1=O.1
         . have dc:(o.1:Int)=(O.1:Int):=(by omega);have eW:¬(o.2:Int)=(O.2:Int):=λe=>e0 (Prod.ext e1 (by omega));clear e0 e1;go_upto_region 15 with fail;refine zn (λW=>e2 S r lb a f u t N c (xE a1 c G) (xP nb) w.heap.size m Q W/\Fr (RT lb a) w W/\xB wr W/\xH W wr.heap.size #[.string s',xI p'] 117) ⟨a2.o.aq (zq wr _),bl.o.alloc _,zq wr _,zc wr _⟩ ?_;rintro W ⟨d,H,M,aL⟩;obtain⟨b0,s1,b2,sz⟩:=zp d.x1;obtain⟨eN,c6,fu,dP⟩:=zp aL;obtain⟨k0,cE,kf,kz⟩:=zp ((M.block _ (ze L.o)).trans L.o);have U:=za (hW s' (p':Int) W.drew (d.sc.am (λ_ _=>rfl)) d.hN);have F:=za d;have R:=za H;have ab:=za M;have ds:=M.size;clear d H M aL
           go_region_held3 (λw'=>w'.cell? (xD w.heap.size 0)=some (xE a1 c G)/\w'.cell? (xD w.heap.size 1)=some (xP nb)/\w'.cell? (xD wr.heap.size 0)=some (.string s')/\w'.cell? (xD wr.heap.size 1)=some (xI p')/\w'.cell? (xD bk 0)=some (xI (O.1:Nat))/\w'.cell? (xD bk 1)=some (xI (O.2:Nat)))
            (first|(with_reducible (refine⟨?_,?_,?_,?_,?_,?_⟩ <;> repeat (first|assumption|refine zg ?_|refine zj _ ?_|refine zk (by omega) ?_|refine zd I.o ?_ (by first|omega|(rw[au];omega))|refine zd E.o ?_ (by first|omega|(rw[au];omega)))))|go_keep)
            (first
              | (go_at_call 104;refine T.o.mono ?_;rintro e w2 ⟨rfl,l⟩;have I:=za l;have V:w1.heap.size<=w2.heap.size:=l.size;clear l)
              | (go_at_call 105;refine U.o.mono ?_;rintro e w1 ⟨rfl,z⟩;have E:=za (zw z);have X:W.heap.size<=w1.heap.size:=z.size;have T:=za (jW (c.idx s') w1 (F.o.ck.aq E.o));(rw[dV] at T);clear z))
           have n:=za (E.o.trans (I.o.mono X));have g6:=zd n.o c6 dP;have a4:=za (eg S r lb a f u t Q p' w2 (F.o.aq n.o).rp);have fh:=n.o.size;go_wp2_with (go_at_call 140;refine a4.o.mono ?_;rintro e w6 ⟨rfl,aV,aA⟩;have bo:=za aV;have P:=za aA;clear aV aA);go_roundg (gk-1);case measure=>omega
           exact⟨Z+1,aj Q p',by omega,by omega,by go_num,(F.o.aq n.o).aX bo.o P.o,be.o,(R.o.trans (zy n.o)).trans P.o,(P.o.block _ (by omega) (λe=>by rcases e with e|e <;> omega)).trans ((n.o.block _ (by omega)).trans ((ab.o.block _ (ze ar.o)).trans ar.o)),(P.o.block _ (by omega) (λe=>by rcases e with e|e <;> omega)).trans ((n.o.block _ kz).trans ((ab.o.block _ (ze L.o)).trans L.o))⟩
         have dc:¬(o.1:Int)=(O.1:Int):=(by omega);clear e0 e1;go_upto_region 15 with fail;refine zn (λW=>e2 S r lb a f u t N c (xE a1 c G) (xP nb) w.heap.size m Q W/\Fr (RT lb a) w W/\xB wr W/\xH W wr.heap.size #[.string s',xI p'] 117) ⟨a2.o.aq (zq wr _),bl.o.alloc _,zq wr _,zc wr _⟩ ?_;rintro W ⟨d,H,M,aL⟩;obtain⟨b0,s1,b2,sz⟩:=zp d.x1;obtain⟨eN,c6,fu,dP⟩:=zp aL;obtain⟨k0,cE,kf,kz⟩:=zp ((M.block _ (ze L.o)).trans L.o);have U:=za (hW s' (p':Int) W.drew (d.sc.am (λ_ _=>rfl)) d.hN);have F:=za d;have R:=za H;have ab:=za M;have ds:=M.size;clear d H M aL
         go_region_held3 (λw'=>w'.cell? (xD w.heap.size 0)=some (xE a1 c G)/\w'.cell? (xD w.heap.size 1)=some (xP nb)/\w'.cell? (xD wr.heap.size 0)=some (.string s')/\w'.cell? (xD wr.heap.size 1)=some (xI p')/\w'.cell? (xD bk 0)=some (xI (O.1:Nat))/\w'.cell? (xD bk 1)=some (xI (O.2:Nat)))
          (first|(with_reducible (refine⟨?_,?_,?_,?_,?_,?_⟩ <;> repeat (first|assumption|refine zg ?_|refine zj _ ?_|refine zk (by omega) ?_|refine zd I.o ?_ (by first|omega|(rw[au];omega))|refine zd E.o ?_ (by first|omega|(rw[au];omega)))))|go_keep)
          (first
            | (go_at_call 104;refine T.o.mono ?_;rintro e w2 ⟨rfl,l⟩;have I:=za l;have V:w1.heap.size<=w2.heap.size:=l.size;clear l)
            | (go_at_call 105;refine U.o.mono ?_;rintro e w1 ⟨rfl,z⟩;have E:=za (zw z);have X:W.heap.size<=w1.heap.size:=z.size;have T:=za (jW (c.idx s') w1 (F.o.ck.aq E.o));(rw[dV] at T);clear z))
         have n:=za (E.o.trans (I.o.mono X));have g6:=zd n.o c6 dP;have a4:=za (eg S r lb a f u t Q p' w2 (F.o.aq n.o).rp);have fh:=n.o.size;go_wp2_with (go_at_call 140;refine a4.o.mono ?_;rintro e w6 ⟨rfl,aV,aA⟩;have bo:=za aV;have P:=za aA;clear aV aA);go_roundg (gk-1);case measure=>omega
         exact⟨Z+1,aj Q p',by omega,by omega,by go_num,(F.o.aq n.o).aX bo.o P.o,be.o,(R.o.trans (zy n.o)).trans P.o,(P.o.block _ (by omega) (λe=>by rcases e with e|e <;> omega)).trans ((n.o.block _ (by omega)).trans ((ab.o.block _ (ze ar.o)).trans ar.o)),(P.o.block _ (by omega) (λe=>by rcases e with e|e <;> omega)).trans ((n.o.block _ kz).trans ((ab.o.block _ (ze L.o)).trans L.o))⟩
       have ek:Z=nl:=(by omega);subst ek;rw[show q.ns.drop (1+Z)=[] from List.drop_of_length_le (by have:=ch.o;omega),G3] at bA;obtain⟨b0,s1,b2,sz⟩:=zp a2.o.x1;obtain⟨q0,fl,q2,qf,cO⟩:=zL ar.o;obtain⟨k0,cE,kf,kz⟩:=zp L.o;have em:=za (IL m lb a f wr a1 c.er.length G nb);have es:=za ((ea.o.am bB).tt);clear co bB;go_upto_region 18 with fail
       go_region_held3 (λw'=>w'.cell? (xD w.heap.size 0)=some (xE a1 c G)/\w'.cell? (xD w.heap.size 1)=some (xP nb)/\w'.cell? (xD a6.heap.size 2)=some (xP rb)/\w'.cell? (xD bk 0)=some (xI (O.1:Nat))/\w'.cell? (xD bk 1)=some (xI (O.2:Nat)))
        (first|(with_reducible (refine⟨?_,?_,?_,?_,?_⟩ <;> repeat (first|assumption|refine zg ?_|refine zS ca.o ?_ (by omega) (by omega)|refine zd b3.o ?_ (by omega))))|go_keep)
        (first
          | (go_at_call 133;refine ex.o.mono ?_;rintro e w6 ⟨rfl,dl,dk⟩;have eb:=za dl.rp;have ca:=za dk.fr;clear dl dk)
          | (go_at_call 134;refine em.o.mono ?_;rintro e w5 ⟨rfl,bp,fr,gd,ge⟩;have b3:=za bp;have b4:=za (a2.o.on bp (an _) fr gd ge);have g2:wr.heap.size<=w5.heap.size:=bp.size;have ex:=za (HA (KN S r lb a f u t N c (xE a1 c G) (xP nb) m wr.heap.size (wr.heap.size+1) (wr.heap.size+1+1)) q.r O (xP rb) Q w5 (es.o.am (zm bp dp)) (by omega) b4.o.sc b4.o.ck b4.o trivial trivial);(rw[J4] at ex);(unfold hG at ex);clear bp fr gd ge))
       go_wp2_with fail;go_roundg (eY-1);case measure=>omega
       refine⟨k+1,_,by omega,by omega,by go_num,(a2.o.aq b3.o).aX eb.o ca.o,?_,(bl.o.trans (zy b3.o)).trans ca.o⟩;rw[cK.o,bA.o];rfl
   have ek:k=c.nd.eqs.length:=(by omega);subst ek;rw[List.drop_length,List.flatMap_nil] at bt;clear hO;go_wp2_with fail;first|go_end0|refine bodyPost_ret (results_none rfl _ _ _) rfl ?_
   refine⟨rfl,?_,bv.o⟩;rw[bt.o];exact a9.o.rp
end
section
open Go.RowKit
variable {L:List (Nat×Nat)} {N v f l lb s g:Nat} {S:Xs} {r:Xo} {c:Sc} {p t q u:Xv} {w x:Xw}
attribute [local go_sem ↓] Go.wp_at_zero Go.wp_at_succ
structure kO (S:Xs) (l lb f g:Nat) (q p:Xv) (N:Nat) (c:Sc) (t u:Xv) (v s:Nat) (L:List (Nat×Nat)) (r:Xo) (w:Xw):Prop where
 rp:Fx S l lb f g q p r w
 sc:br w N c t u
 lk:dN w s L
 x1:w.heap[v]?=some (.cells #[t,u] 216 (0,0))
 d:∀b,b=v∨b=s->¬b=lb/\¬b=f
 l1:N<=lb
 l2:N<=f
 hN:N<=w.heap.size
theorem kO.aq (h:kO S l lb f g q p N c t u v s L r w)(a:xB w x):kO S l lb f g q p N c t u v s L r x :=
 ⟨h.rp.aq a,h.sc.am (zm a h.hN),h.lk.aq a,(a.block _ (ze h.x1)).trans h.x1,h.d,h.l1,h.l2,aJ h.hN a.size⟩
theorem kO.aX {a:Xo}(h:kO S l lb f g q p N c t u v s L r w)(m:Fx S l lb f g q p a x)(d:Fr (RT lb f) w x):kO S l lb f g q p N c t u v s L a x:=by
 have j:∀{b},(b=v∨b=s)->¬RT lb f b:=λi e=>by rcases e with e|e;exact (h.d _ i).1 e;exact (h.d _ i).2 e
 exact⟨m,h.sc.am (d.am h.hN (λk e=>by rcases e with e|e;exact e▸h.l1;exact e▸h.l2)),h.lk.gh (d.block _ h.lk.lt (j (by simp))),(d.block _ (ze h.x1) (j (by simp))).trans h.x1,h.d,h.l1,h.l2,aJ h.hN d.size⟩
theorem JM (a:Nat)(L:List (Nat×Nat))(n m:Nat):kQ a L n (m+1)=(if (n-(m+1),n-(m+1))∈L then [a] else [])++kQ a L n m:=rfl
theorem Hb (S:Xs)(l lb f g:Nat)(q p:Xv)(N:Nat)(c:Sc)(hc:eU c)(t u:Xv)(r:Xo)(w:Xw)(hR:Fx S l lb f g q p r w)(y:br w N c t u)(hN:N<=w.heap.size)(l1:N<=lb)(l2:N<=f) :
 xK 70 #[.agg #[t,u],bT lb f g] w (λe x=>e=.returned (.tuple #[])/\Fx S l lb f g q p (c.gb.foldl aj r) x/\Fr (RT lb f) w x):=by
 obtain⟨a5,E,K,rfl,rfl,bo⟩:=y.shape;have bq:=ze hR.l;have bp:=ze hR.b;have a6:=za hR;obtain⟨bs,bx,bv,xs,bg,h⟩:=y.nd;cases bg;obtain⟨bB,be,rfl⟩:=zB h.bZ;obtain⟨bA,a9,rfl⟩:=zB h.own;have a0:=h.bO;have Y:=za (λo=>G0 hc (w.alloc o) (y.am (OJ hN o)) (by rw[au];omega));unfold bT;go_enter func70,ntmps70;go_upto_region 2 with (go_at_call 136;refine (Y.o _).mono ?_;rintro e w1 ⟨s,rfl,aA,ar,F⟩;have X:=za ar;have J:=za ((F.block _ (by simp)).trans (zc w _));have C:=za (zE F));rw[au] at aA;obtain⟨m0,m1,m2,m3,m4,m5,a1,a2⟩:=zt ((C.o.block K (by omega)).trans h.aC);obtain⟨a3,s1,a4,sz⟩:=zp J.out;have T:=za (HY c.nd.ak.length (by omega) w1 X.o);go_upto_region 3 with (go_at_call 137;refine T.o.mono ?_;rintro e w2 ⟨rfl,ab,G⟩;have V:=za ab;have n:=za G;have a:=za (jj C.o G (by omega)));refine zn (λW=>kO S l lb f g q p N c (xE a5 c E) (xP K) w.heap.size s (jm c.nd.ak.length c.hI) r W/\Fr (RT lb f) w W) ⟨⟨a6.o.aq a.o,y.am (zm a.o hN),V.o,(n.o.block _ sz (by omega)).trans J.out,λb e=>by rcases e with e|e <;> exact⟨by omega,by omega⟩,l1,l2,by have:=a.o.size;omega⟩,zy a.o⟩ ?_;rintro W ⟨I,H⟩;obtain⟨m0,m1,m2,m3,m4,m5,a1,a2⟩:=zt ((H.block K (by omega) (λe=>by rcases e with e|e <;> omega)).trans h.aC);obtain⟨a3,s1,a4,sz⟩:=zp I.x1;have U:=za I;have R:=za H;go_wp2_with fail;go_loopg [25] (c.nd.ak.length+1) (λj i wr=>∃(k:Nat) (d:Xo),k+j=c.nd.ak.length+1/\k<=c.nd.ak.length/\i=xI k/\aa (kO S l lb f g q p N c (xE a5 c E) (xP K) w.heap.size s (jm c.nd.ak.length c.hI) d wr)/\aa (c.gb.foldl aj r=(kQ c.nd.a (jm c.nd.ak.length c.hI) c.nd.ak.length (j-1)).foldl aj d)/\aa (Fr (RT lb f) w wr));case atStart=>exact⟨0,r,by omega,aE _,rfl,U.o,rfl,R.o⟩
 case round =>
  obtain⟨k,d,bk,bt,rfl,O,aL,Q⟩:=hrel;by_cases bl:k<c.nd.ak.length
  . obtain⟨m,rfl⟩:∃m,gk=m+1+1:=⟨gk-1-1,by omega⟩;have aV:=aL.o;rw[show m+1+1-1=m+1 from rfl,JM,show c.nd.ak.length-(m+1)=k by omega,bc] at aV;have B:=za aV;have M:=za (pc k k wr O.o.lk);by_cases P:(k,k)∈jm c.nd.ak.length c.hI
    . rw[ag P] at B;rw[decide_eq_true P] at M
      go_wp2_with (first
       | (go_at_call 140;refine (eg S l lb f g q p d c.nd.a _ A.o.rp).mono ?_;rintro e w3 ⟨rfl,Z,D⟩)
       | (go_at_call 138;refine M.o.mono ?_;rintro e w2 ⟨rfl,z⟩;have A:=za (O.o.aq z);have n:=za (Q.o.trans (zy z));obtain⟨a3,s1,a4,sz⟩:=zp A.o.x1;obtain⟨m0,m1,m2,m3,m4,m5,a1,a2⟩:=zt ((n.o.block K (by omega) (λe=>by rcases e with e|e <;> omega)).trans h.aC)))
      go_roundg (m+1);case measure=>omega
      exact⟨k+1,aj d c.nd.a,by omega,by omega,by go_num,A.o.aX Z D,B.o,n.o.trans D⟩
    rw[ae P] at B;rw[decide_eq_false P] at M;go_wp2_with (go_at_call 138;refine M.o.mono ?_;rintro e w2 ⟨rfl,z⟩;have a:=za z);go_roundg (m+1);case measure=>omega
    exact⟨k+1,d,by omega,by omega,by go_num,O.o.aq a.o,B.o,Q.o.trans (zy a.o)⟩
  have ek:k=c.nd.ak.length:=by omega
  subst ek;have:gk=1:=by omega
  subst this;have B:aa (c.gb.foldl aj r=d):=aL.o;go_wp2_with fail;first|go_end0|refine bodyPost_ret (results_none rfl _ _ _) rfl ?_
  refine⟨rfl,?_,Q.o⟩;rw[B.o];exact O.o.rp
end
section
open Go.RowKit
variable {s:Int} {m:List (ByteArray×Nat)} {b a c:Nat} {w w':Xw}
attribute [local go_sem ↓] Go.wp_at_zero Go.wp_at_succ
def gM (w:Xw)(b:Nat)(m:List (ByteArray×Nat)):Prop :=
 ∃l:List (ByteArray×Value),fb w b Value.string l/\∀s,(db s l).getD (xI 0)=xI (fa s m:Nat)
theorem gM.gh (h:gM w b m)(f:w'.heap[b]?=w.heap[b]?):gM w' b m:=by obtain⟨l,d,e⟩:=h;exact⟨l,d.of f,e⟩
theorem gM.lt (h:gM w b m):b<w.heap.size:=by obtain⟨l,d,_⟩:=h;exact d.lt
theorem gM.aq (h:gM w b m)(d:xB w w'):gM w' b m:=h.gh (d.block _ h.lt)
theorem Tryz.GR (w:Xw):(zeroValue 3).run prog w=.ok (xI 0) w:=by kernel_rfl
theorem yf (h:gM w b m)(s:Xb) :
 (Instr.lookup 242 (.map (some b)) (.string s) false).run prog w=.ok (xI (fa s m:Nat)) w:=by
 obtain⟨l,d,e⟩:=h;refine (rN Tryz.th underlying242 Tryz.GR d s false).trans ?_;rw[<- e s];rfl
theorem KK (h:gM w b m)(s:Xb)(n:Nat) :
 ∃w',(Instr.mapUpdate 242 (.map (some b)) (.string s) (xI (n:Int))).run prog w=.ok () w'/\gM w' b ((s,n)::m)/\Fr (·=b) w w':=by
 obtain⟨l,g,i⟩:=h;obtain⟨w',r,j,f⟩:=pq Tryz.th underlying242 g s (xI (n:Int));refine⟨w',r,⟨_,j,λd=>?_⟩,f⟩;rw[rJ,fa];by_cases e:s=d
 . rw[ag e,ag e];rfl
 rw[ae e,ae e];exact i d
def hX (m:List (ByteArray×Nat))(s:Int)(t:Tm):Int:=if t.k=9∨t.k=4 then wrap64 (s+(fE m t:Nat)) else s
structure kh (a c b:Nat) (m:List (ByteArray×Nat)) (s:Int) (w:Xw):Prop where
 x1:w.heap[a]?=some (.cells #[xI s] 3 (0,0))
 x2:w.heap[c]?=some (.cells #[.map (some b)] 242 (0,0))
 cm:gM w b m
 d1:¬c=a
 d2:¬b=a
theorem kh.aq (h:kh a c b m s w)(d:xB w w'):kh a c b m s w' :=
 ⟨(d.block _ (ze h.x1)).trans h.x1,(d.block _ (ze h.x2)).trans h.x2,h.cm.aq d,h.d1,h.d2⟩
theorem kh.put (h:kh a c b m s w)(d:Int):kh a c b m d (w.setCell (xD a 0) (xI d)) :=
 ⟨r2 h.x1 _,zr h.d1 h.x2,h.cm.gh (zr h.d2 rfl),h.d1,h.d2⟩
theorem K1:zH 181:=λ_ _=>by kernel_rfl
theorem IG (N:Nat)(n:ay)(a c b:Nat)(m:List (ByteArray×Nat))(E:∀s,fa s m<=61)(y:N<=a) :
 nX N (·=a) 181 #[xP a,xP c] (λ_=>True) n (λs _ t=>hX m s t) (kh a c b m) where
 enters:=K1
 hT:=λ_ e=>e▸y
 aq:=λs w w' h O=>h.aq O
 sub:=λ_ _ _ _=>trivial
 root:=λ_ _=>trivial
 call:=by
  intro q lv rv t v s w _ x hT _ hN d _;obtain⟨bt,C,aL,rfl,P,g,_⟩:=hT.ptr;obtain⟨ab,J,rfl⟩:=zB x.own;obtain⟨Z,_,_,rfl,_⟩:=x.tt.ptr;have z:=za (λo=>d.aq (zq w o));obtain⟨u,S,F,T,U,V,X,Y⟩:=zt g;obtain⟨A,B,D⟩:=zu d.x1;obtain⟨G,H,I⟩:=zu d.x2;have ar:=d.d1;have Q:¬bt=a:=by omega
  have p:=λo=>yf (d.aq (zq w o)).cm t.s;have L:=E t.s;clear hT g x E
  show Calls prog _ #[.agg #[.slice ab q.ns.length J,xI q.a,xP Z],xP bt,xP a,xP c] w _;by_cases i:t.k=9
  . have k:aa (hX m s t=wrap64 (s+1)):=by unfold aa hX fE;rw[ag (ao i),ag i];rfl
    have r:w.cell? (xD bt 0)=some (xI 9):=(by rw[u,i];rfl);clear i u;go_enter func181,ntmps181;go_wp2_with fail;go_ret;rw[k.o];exact⟨rfl,(d.put _).aq (zq _ _),(Fr.aY (Fr.refl _ w) _ _).alloc _⟩
  by_cases l:t.k=4
  . have k:aa (hX m s t=wrap64 (s+(1+(fa t.s m:Nat)))):=by unfold aa hX fE;rw[ag (ap l),ae i,ag l];rfl
    have r:w.cell? (xD bt 0)=some (xI 4):=(by rw[u,l];rfl);have R:wrap64 (1+(fa t.s m:Int))=1+(fa t.s m:Int):=(by unfold wrap64;omega);clear i l u;go_enter func181,ntmps181;go_upto_region 5 with fail;refine zn (λW=>kh a c b m s W/\xB w W) ⟨z.o _,zq w _⟩ ?_;rintro W ⟨f,j⟩;clear A B D G H I p;obtain⟨A,B,D⟩:=zu f.x1;obtain⟨G,H,I⟩:=zu f.x2;have aA:=zd j F Y;have p:(Instr.lookup 242 (.map (some b)) (.string t.s) false).run prog W.drew=.ok (xI (fa t.s m:Nat)) W.drew:=yf (w:=W.drew) (f.cm.gh (w':=W.drew) rfl) t.s;clear r S F T U V X;go_region;go_wp2_with fail;go_ret;rw[k.o];exact⟨rfl,(f.put _).aq (zo (Below.refl _ _)),(Fr.aY (zy j) _ _).trans (zy (zo (Below.refl _ _)))⟩
  have k:aa (hX m s t=s):=by unfold aa hX;rw[ae (by omega)]
  have M:¬(t.k:Int)=9:=by omega
  have K:¬(t.k:Int)=4:=by omega
  clear i l;go_enter func181,ntmps181;go_wp2_with fail;go_ret;rw[k.o];exact⟨rfl,z.o _,zy (zq w _)⟩
end
section
def ay.Nh (n:ay):List Tm:=n.eqs.flatMap λq=>bh b8 q.r
end
end Go.Proofs.YtbicmofihhjgbaaGreatDoor
