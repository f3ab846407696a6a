/- Part 26 of the proof. -/
import Derived.Test.YtbicmofihhjgbaaGreatDoorK24
set_option maxRecDepth 100000
set_option maxHeartbeats 8000000
namespace Go.Proofs.YtbicmofihhjgbaaGreatDoor
open Go.Proofs.Tryz
open Go.RowKit Go.Shelf
section
variable {N a g f:Nat} {c:Sc} {p l q:Xv}
attribute [local go_sem ↓] Go.wp_at_zero Go.wp_at_succ
theorem Ng.setAt {v:Xv}{w:Xw}{b:Nat}(h:Ng N f g a c p q l w)(e:¬f=b)(i:¬g=b)(m:N<=b):Ng N f g a c p q l (w.setCell (xD b 0) v):=by have d:∀k,¬k=b->(w.setCell (xD b 0) v).heap[k]?=w.heap[k]?:=λk d=>zr d rfl;exact⟨(d _ e).trans h.aC,h.sc.am (λk j=>d k (by omega)),h.ck.gh (d _ i),by have:=h.hN;simpa using this⟩
theorem Wj {B ar kb:Nat}{d:Sc}(hc:eU c)(O:Sc->Nat->Cd->Cd)(fu:Nat)(dl:21<=N)(e3:a<=100000)(t:Tm)(k:Nat×Nat)(J:c.called t.s=some d)(dH:Oe c fu k)
 (dw:∀d b K,qv (O d b K)->qv K)
 (a5:∀s u c6 eb K W,WL N B ar kb s u (a+c.nd.ak.length+1) d c6 eb (.slice none 0 0) K [] W->M9 W->qv (O d (a+c.nd.ak.length+1) K)->xK 57 #[xP ar,xP s] W (λe E=>e=.returned (.tuple #[])/\(∃T,WL N B ar kb s u (a+c.nd.ak.length+1) d c6 eb T (O d (a+c.nd.ak.length+1) K) [] E)/\FT (CT kb s) W E))
 (K:Cd) (ls:List Lt) (v:Xv) (w:Xw) (h:WL N B ar kb f g a c p q l K ls w) (hT:TT w N t v) (dL:M9 w) (a6:qv (NK O c a fu K t k)) :
 xK 198 #[xP ar,xP f,v,hG k] w (λe E=>e=.returned (.tuple #[])/\(∃T,WL N B ar kb f g a c p q T (NK O c a fu K t k) ls E)/\FT (CT kb f) w E):=by
 obtain⟨ek,bt,nb,rfl,rfl,hu⟩:=h.wi.qi.sc.shape;obtain⟨b,args,cs,rfl,ii,bE,be,bK,dV,ff⟩:=hT.ptr;obtain⟨xa,eZ,rfl⟩:=O6 be;obtain⟨H,ck⟩:∃H,a+c.nd.ak.length+1=H:=⟨_,rfl⟩;have bb:NK O c a fu K t k=(O d H ((K.fv ((List.range cs.length).reverse.map λi=>(2,((H+i:Nat):Int)))).fv (z8 c a fu k))).fv ((List.range d.nd.aG).map λi=>(1,((H+(d.nd.ah+i):Nat):Int))):=by unfold NK;rw[J];simp only[ck,bK]
 rw[ck] at a5;rw[bb] at a6 ⊢;have fS:c.nd.ak.length<=16:=by obtain⟨_,_,_,_,_,S⟩:=h.wi.qi.sc.nd;exact S.bO
 have bB:H<=1000000:=by omega
 obtain⟨bk,e7⟩:=hc.called J;have g7:=bk.nd.io;have g5:=bk.nd.bO;obtain⟨ct,bx⟩:∃ct,K.fv ((List.range cs.length).reverse.map λi=>(2,((H+i:Nat):Int)))=ct:=⟨_,rfl⟩;obtain⟨cv,P⟩:∃cv,ct.fv (z8 c a fu k)=cv:=⟨_,rfl⟩;obtain⟨bs,bA⟩:∃bs,O d H cv=bs:=⟨_,rfl⟩;rw[bx,P,bA] at a6 ⊢;have a9:qv bs:=On a6;have bC:qv cv:=dw d H cv (by rw[bA];exact a9);have he:bs.row.length+d.nd.aG<=1000000:=by have:=a6.1;rw[Cd.ON] at this;simpa using this
 have fh:ct.row.length+(z8 c a fu k).length<=1000000:=by have:=bC.1;rw[<- P,Cd.ON] at this;exact this
 have fg:K.row.length+cs.length<=1000000:=by
  have h9:ct.row.length<=1000000:=by omega
  rw[<- bx,Cd.ON] at h9;simpa using h9
 have cE:=za a5;have eG:=za bx;have eN:=za P;have c0:=za bA;have c3:=za a9;have eR:=za dH;have A:=za h;have hR:=za hT;have eS:=za dL;have c4:=za be;have cB:=za bE;have cg:=h.wi.qi.hN;have h6:=hc.bO;unfold hG;clear bb a6 bC a9 dV bK a5 bx P bA dH h hT dL be bE bk e7;refine callsIn_wide.1 (callsIn_of_wp_marks (F:=Fence.wide) (n:=9) func198 rfl trivial (wpIn_wide.2 ?_) rfl);simp only[ntmps198,List.size_toArray,bJ,cw,Nat.reduceAdd,Nat.reduceSub,Array.replicate_succ,Array.replicate_zero,List.push_toArray,List.append_toArray,List.nil_append,List.cons_append];obtain⟨fD,ch⟩:∃fD,bodyPostM Fence.wide 9 prog Tryz.f198 (λe E=>e=.returned (.tuple #[])/\(∃T,WL N B ar kb f g a c (xE ek c bt) (xP nb) T (bs.fv ((List.range d.nd.aG).map λi=>(1,((H+(d.nd.ah+i):Nat):Int)))) ls E)/\FT (CT kb f) w E)=fD:=⟨_,rfl⟩;rw[ch];have eQ:=za ch;clear ch;go_upto_region 1 with fail;refine zn (λW=>(xB w W)/\W.heap.size=w.heap.size+2/\W.heap[w.heap.size]?=some (.cells #[xP ar] 193 (0,0))/\W.heap[w.heap.size+1]?=some (.cells #[xI (k.1:Nat),xI (k.2:Nat)] 198 (0,0))) ⟨cT w _ _,by simp,(mh w _ _).1,(mh w _ _).2⟩ ?_;rintro W ⟨hB,du,cn,co⟩;have gz:=za hB;have eW:=za cn;have eX:=za co;have ds:w.heap.size+2<=W.heap.size:=by omega
 have gU:=za du;clear du;have fj:=ze A.o.wi.qi.aC;have dz:b<w.heap.size:=by omega
 go_cut [8,9] from 13 to 24 (λx y wx=>∃kU x2 L n2,x=xP kU/\y=.bool true/\W.heap.size<=kU/\aa (br wx N d (xE x2 d L) (xP n2))/\aa (xB W wx)/\aa (xH wx kU #[xE x2 d L,xP n2] 114))
 case first =>
  obtain⟨m0,m1,m2,m3,m4,fr,ft⟩:=bz ((hB.block _ fj).trans A.o.wi.qi.aC);obtain⟨h0,h1,h2,h3,h4,h5,hf,hz⟩:=zt ((hB.block b dz).trans cB.o);have hO:=zm hB cg;have e1:N<=W.heap.size:=by omega
  have ex:=za (ji t.s (t.nm:Int) W.drew (A.o.wi.qi.sc.am (w':=W.drew) hO) e1 h6 J);have eE:=za (λo=>ji t.s (t.nm:Int) (W.alloc o).drew (A.o.wi.qi.sc.am (w':=(W.alloc o).drew) (hO.trans (λk ga=>Below.heap_alloc _ _ _ (by omega)))) (by show N<=(W.alloc o).heap.size;simp;omega) h6 J);clear hB cn co m2 m3 m4 h0 h1 h4 h5 J
  go_region_held3 (λE=>E.cell? (xD f 0)=some (xE ek c bt)/\E.cell? (xD f 1)=some (xP nb)/\E.cell? (xD b 2)=some (.string t.s)/\E.cell? (xD b 3)=some (xI t.nm))
   (first|(with_reducible (refine⟨?_,?_,?_,?_⟩ <;> repeat (first|assumption|refine zg ?_|refine zj _ ?_|refine zk (by omega) ?_|refine zd M.o ?_ (by first|omega|(rw[au];omega)))))|go_keep)
   (first
     | (go_at_call 119;refine ex.o.mono ?_;rintro e w1 ⟨x2,L,n2,rfl,bg,a4⟩;have M:=za (zw a4);have a2:=za bg;clear a4 bg)
     | (go_at_call 119;refine (eE.o _).mono ?_;rintro e w1 ⟨x2,L,n2,rfl,bg,a4⟩;have M:=za (zw a4);have a2:=za bg;obtain⟨em,gx,eq,er⟩:=zp ((M.o.block W.heap.size (by rw[au];omega)).trans (zc W _));clear a4 bg))
  all_goals go_wp2_with fail
  all_goals go_meet
  . have h1:=M.o.size;exact⟨_,_,_,_,rfl,rfl,h1,a2.o.am (λk ga=>Below.heap_alloc _ _ _ (by omega)),M.o.alloc h1 _,zc w1 _⟩
  have h1:=M.o.size;rw[au] at h1;have g0:=(M.o.block W.heap.size (by rw[au];omega)).trans (zc W _);refine⟨_,_,_,_,rfl,rfl,an _,a2.o.am (λk ga=>?_),zC (zC (zE M.o) (an _) _) (an _) _,zh _ _ _ _ (zh _ _ _ _ g0)⟩;exact (zr (by omega) rfl).trans (zr (by omega) rfl)
 case rest =>
  obtain⟨kU,x2,L,n2,rfl,rfl,hJ,a2,aL,b3⟩:=hcut;obtain⟨V,rfl⟩:∃V,V=wc:=⟨_,rfl⟩;have hx:w.heap.size+2<=V.heap.size:=aJ ds aL.o.size;have gZ:=aL.o.size;have cz:=za (gz.o.trans (aL.o.mono (by omega)));clear hB cn co J;go_upto_region 2 with fail;go_cut [10] from 25 to 28 (λx wx=>∃U s u,x=xP U/\V.heap.size<=U/\V.heap.size<=s/\V.heap.size<=u/\¬s=u/\aa (Ng N s u H d (xE x2 d L) (xP n2) (.slice none 0 0) wx)/\aa (xB V wx)/\aa (xH wx U #[xP s] 111))
  case first =>
   obtain⟨hU,hV,h7,h8⟩:=zp b3.o;have dp:N<=V.heap.size:=(by omega);have b0:=za (λ(W':Xw) (bv:xB V W')=>S7 W' ((A.o.wi.qi.aq cz.o).aq bv) (by omega));rw[ck] at b0;have b2:=za (λ(W':Xw) (bv:xB V W')=>SO H W' (a2.o.am (zm bv dp)) (aJ dp bv.size))
   go_region_held3 (λE=>E.cell? (xD kU 0)=some (xE x2 d L)/\E.cell? (xD kU 1)=some (xP n2))
    (first|(with_reducible (refine⟨?_,?_⟩ <;> repeat (first|assumption|refine zg ?_|refine zj _ ?_|refine zk (by omega) ?_|refine zd G.o ?_ (by omega)|refine zd z.o ?_ (by omega))))|go_keep)
    (first
      | (go_at_call 100;refine (b0.o _ (by exact zo (Below.refl _ _))).mono ?_;rintro e w3 ⟨rfl,Z⟩;have z:=za (zw Z);clear Z)
      | (go_at_call 100;refine (b0.o _ (by exact zo (zq V _))).mono ?_;rintro e w3 ⟨rfl,Z⟩;have a3:=za (((zw Z).block V.heap.size (by rw[au];omega)).trans (zc V _));have z:=za (zE (zw Z));clear Z)
      | (go_at_call 54;refine (b2.o _ (z.o.alloc z.o.size _)).mono ?_;rintro e w4 ⟨s,u,rfl,g1,g2,g3,Q,I⟩;(rw[au] at g1 g2);have a1:=za Q;have c2:=za ((I.block w3.heap.size (by rw[au];omega)).trans (zc w3 _));have G:=za (z.o.trans ((zE I).mono z.o.size));obtain⟨em,eq,er⟩:=zu c2.o;have gd:=z.o.size;have ge:=G.o.size;clear I Q)
      | (revert a3;intro a3;go_at_call 54;refine (b2.o _ z.o).mono ?_;rintro e w4 ⟨s,u,rfl,g1,g2,g3,Q,I⟩;have a1:=za Q;have G:=za (z.o.trans (I.mono z.o.size));have c2:=za ((I.block _ (ze a3.o)).trans a3.o);obtain⟨em,eq,er⟩:=zu c2.o;have gd:=z.o.size;have ge:=G.o.size;clear I Q)
      | (go_at_call 54;refine (b2.o _ z.o).mono ?_;rintro e w4 ⟨s,u,rfl,g1,g2,g3,Q,I⟩;have a1:=za Q;have G:=za (z.o.trans (I.mono z.o.size));have gd:=z.o.size;have ge:=G.o.size;clear I Q))
   all_goals go_wp2_with fail
   all_goals go_meet
   . exact⟨_,s,u,rfl,by omega,by omega,by omega,g3,a1.o.aq (zq w4 _),G.o.alloc G.o.size _,zc w4 _⟩
   . exact⟨_,s,u,rfl,by omega,by omega,by omega,g3,a1.o.setAt (by omega) (by omega) (by omega),zC G.o (by omega) _,zh _ _ _ _ c2.o⟩
   have hy:=ze a3.o;exact⟨_,s,u,rfl,by omega,by omega,by omega,g3,a1.o.setAt (by omega) (by omega) (by omega),zC G.o (by omega) _,zh _ _ _ _ c2.o⟩
  case rest =>
   obtain⟨U,s,u,rfl,hK,hv,g4,dM,gC,aV,eY⟩:=hcut;obtain⟨X,rfl⟩:∃X,X=wc:=⟨_,rfl⟩;have R:xB w X:=cz.o.trans (aV.o.mono (by omega));have gX:=aV.o.size;have C:∀x,w.heap.size<=x->¬CT kb f X x:=λx il e=>by have:=(A.o.lt _ (A.o.tk R _ e)).2.1;omega
   have ea:=ze b3.o
   have dc:MY N B ar kb f g a s u H c d (xE ek c bt) (xP nb) l (xE x2 d L) (xP n2) (.slice none 0 0) K ls k w.heap.size kU U w X :=
    ⟨A.o.aq R,gC.o,FT.below R (A.o.tk R),(aV.o.block _ (by omega)).trans ((aL.o.block _ (by omega)).trans eW.o),(aV.o.block _ (by omega)).trans ((aL.o.block _ (by omega)).trans eX.o),(aV.o.block _ ea).trans b3.o,eY.o,C _ (by omega),C _ (by omega),C _ (by omega),C _ (by omega),C _ (by omega),C _ (by omega)⟩
   have dY:¬s=ar:=(by obtain⟨_,_,_,gW⟩:=A.o.wi.kw;have:=ze gW.wr;omega);have dq:N<=s:=(by omega);have e5:¬g=s:=(by have:=A.o.wi.qi.ck.lt;omega);have bp:=za dc;have cA:=za R;obtain⟨h0,h1,h2,h3,h4,h5,hf,hz⟩:=zt ((R.block b dz).trans cB.o);have c9:cs.length<=1000000:=(by omega);clear dc R C h0 h1 h2 h3 h4;go_wp2_with (go_at_call 212;refine (W4 _ _ _ _).mono ?_;rintro e w6 ⟨rfl,rfl⟩);refine VS (Bs:=X.heap.size) (xa:=xa) (cl:=eZ) cs bB c9 fg w _ (bp.o.aq (zq X _)) (by simp) (λe=>by have:=(bp.o.wl.lt _ (bp.o.wl.tk (zq X _) _ e)).2.1;omega) (zu (zc X _)).1 (λj g8=>?_) ?_
   . obtain⟨y,hy⟩:∃y,cs[j]?=some y:=⟨_,av g8⟩;obtain⟨g',rfl,cm⟩:=nB c4.o hy;have hg:=ff g' rfl;refine⟨g',rfl,hg,?_⟩;rw[hy];exact zj _ (zd cA.o cm (by omega))
   intro D fP hD ab di;rw[WU H cs c9,eG.o] at ab;have e0:w.heap.size<=D:=(by rw[au] at hD;have:=cA.o.size;omega);have bl:=za ab;have cK:aa (NS w.heap.size fP [{ target:=.collected D,args:=#[] }]):=.cons D [] e0 di (λ_ h=>by simp at h) .nil;obtain⟨x0,gt,gw⟩:=zu ab.x1;obtain⟨em,gx,eq,er⟩:=zp ab.x2;have bq:=za (SR (by omega) fu k ct fP eR.o ab.wl.wi fh);rw[eN.o] at bq;unfold hG at bq;clear ab di h5 hf hz
   go_wp2_with (first
    | (go_at_call 108
       refine bq.o.mono ?_;rintro e w7 ⟨rfl,ce,ca⟩;have Y:=za (bl.o.Om ce ca);have cO:=za (cK.o.others (bl.o.wl.others (bl.o.wl.N6 ce ca).2));obtain⟨hM,hN,sz⟩:=zu Y.o.x1;obtain⟨go,rf,gs⟩:=zu Y.o.x4;have b1:=za (Ng.inner Y.o dM dY dq);have bY:=za (cE.o s u _ _ cv w7 b1.o (eS.o.am (Y.o.ft.am cg (λk e=>(A.o.lt k e).1)) dl) (by rw[c0.o];exact c3.o));rw[c0.o] at bY;clear ce ca x0 gt gw em gx eq er)
    | (go_at_call 57
       refine bY.o.mono ?_;rintro e w8 ⟨rfl,⟨fl,dk⟩,cd⟩;have bo:=za (Y.o.body dM dY dq (by omega) e5 dk cd);have cR:=za (cO.o.others (b1.o.others cd));obtain⟨nn,fA,fz,fB,c5,S⟩:=bo.o.qi.sc.nd;cases c5;obtain⟨m0,m1,m2,m3,m4,m5,fr,ft⟩:=zt S.aC;obtain⟨p0,gl,gm,gn⟩:=zp bo.o.x3;clear dk cd S m0 m1 m2 m3 m5 hM hN sz go rf gs))
   go_loopg [53] (d.nd.aG+1) (λj i wr=>∃m:Nat,m+j=d.nd.aG+1/\m<=d.nd.aG/\i=xI m/\aa (MY N B ar kb f g a s u H c d (xE ek c bt) (xP nb) l (xE x2 d L) (xP n2) fl (bs.fv ((List.range m).map λi=>(1,((H+(d.nd.ah+i):Nat):Int)))) ls k w.heap.size kU U w wr)/\aa (NS w.heap.size wr [{ target:=.collected D,args:=#[] }]));case atStart=>exact⟨0,by omega,aE _,rfl,by rw[List.range_zero,List.map_nil,Cd.Rc];exact bo.o,cR.o⟩
   case round =>
    clear bo cR Y cO bl cK b1 bY bq bp m4 fr ft p0 gl gm gn;obtain⟨m,hi,ij,rfl,aA,fC⟩:=hrel;by_cases hh:m<d.nd.aG
    . obtain⟨nn,fA,fz,fB,c5,S⟩:=aA.o.qi.sc.nd;cases c5;obtain⟨m0,m1,m2,m3,m4,m5,fr,ft⟩:=zt S.aC;obtain⟨x0,gt,gw⟩:=zu aA.o.x1;obtain⟨p0,gl,gm,gn⟩:=zp aA.o.x3;obtain⟨go,rf,gs⟩:=zu aA.o.x4;have i1:(m:Int)<(d.nd.aG:Int):=(by omega);have dP:(bs.fv ((List.range m).map λi=>(1,((H+(d.nd.ah+i):Nat):Int)))).row.length<=1000000:=(by rw[Cd.ON];simp;omega);have c1:=za (λ(W':Xw) (hB:xB wr W')=>Qb (d.nd.ah+m) W' (aA.o.aq hB).qi bB (by omega));rw[show ((d.nd.ah+m:Nat):Int)=(d.nd.ah:Int)+(m:Int) by omega] at c1;have es:=za (λ(W':Xw) (hB:xB wr W')=>O5 B ar kb _ 1 ((H+(d.nd.ah+m):Nat):Int) W' (aA.o.aq hB).wl.wi.kw dP);clear S m0 m1 m2 m4 m5 p0 dP;go_upto_region 11 with fail;have g9:¬CT kb f wr w.heap.size:=aA.o.n1;have g6:d.nd.ah<=16:=(by omega);have hm:m<=16:=(by omega);have hw:IntKind.i64.wrap ((d.nd.ah:Int)+(m:Int))=(d.nd.ah:Int)+(m:Int):=(by rw[IntKind.wrap_i64];omega)
      go_region_held3 (λE=>E.cell? (xD w.heap.size 0)=some (xP ar)/\E.cell? (xD U 0)=some (xP s)/\E.cell? (xD kU 1)=some (xP n2)/\E.cell? (xD n2 3)=some (xI d.nd.ah))
       (first|(with_reducible (refine⟨?_,?_,?_,?_⟩ <;> repeat (first|assumption|refine zg ?_)))|go_keep)
       (first
         | (go_at_call 56;refine (es.o _ (by exact zo (Below.refl _ _))).mono ?_;rintro e w2 ⟨rfl,P,b4⟩;have a0:=za ((aA.o.aq (zo (Below.refl _ _))).Om P b4);have eF:=za (fC.o.others ((Qa (zo (Below.refl _ _))).trans ((aA.o.aq (zo (Below.refl _ _))).wl.others ((aA.o.aq (zo (Below.refl _ _))).wl.N6 P b4).2)));have q0:=(zu a0.o.x1).1;have im:=(zu a0.o.x4).1;have q2:=(zp a0.o.x3).2.1;obtain⟨_,_,_,_,c5,bL⟩:=a0.o.qi.sc.nd;cases c5;have q3:=(zt bL.aC).2.2.2.1;clear P b4 bL)
         | (go_at_call 161;refine (c1.o _ (by exact zo (Below.refl _ _))).mono ?_;rintro e w1 ⟨rfl,rfl⟩))
      all_goals go_wp2_with fail
      all_goals go_roundg (gk-1)
      case measure=>omega
      refine⟨m+1,by omega,by omega,by go_num,?_,eF.o⟩;have da:=a0.o;have e:(bs.fv ((List.range m).map λi=>(1,((H+(d.nd.ah+i):Nat):Int)))).add 1 ((H+(d.nd.ah+m):Nat):Int)=bs.fv ((List.range (m+1)).map λi=>(1,((H+(d.nd.ah+i):Nat):Int))):=(by simp[Cd.add,Cd.fv,List.range_succ]);rw[e] at da;exact da
    have gV:m=d.nd.aG:=(by omega);subst gV;go_wp2_with fail;rw[<- eQ.o];refine SM (B0:=w.heap.size) ?_ (λW=>results_none rfl _ _ _) _ wr fC.o ⟨rfl,⟨_,aA.o.wl⟩,aA.o.ft⟩;rintro W D o hD gY ⟨_,⟨T,fk⟩,fd⟩;have gc:M4 w.heap.size W (W.putObj D o):=M4.of (grownBy_putObj' W D o) (λr e=>by cases e;exact⟨hD,_,gY,rfl⟩);have h2:=fk.sc gc A.o.wi.qi.ck.lt cg;exact⟨rfl,⟨T,h2.1⟩,fd.sc gc (λk e=>(h2.2 k).1 e) rfl rfl rfl⟩
end
section
mutual
def N5:Tm->Nat
 | .mk k _ _ _ _ a=>(if k=9 then 1 else 0)+OY a
def OY:List Tm->Nat
 | []=>0
 | t::l=>N5 t+OY l
end
def MJ:List Lt->Nat
 | []=>0
 | l::a=>1+N5 l.next+MJ a
theorem RB (a b:List Lt):MJ (a++b)=MJ a+MJ b:=by
 induction a with
 | nil=>simp[MJ]
 | cons x a c=>rw[List.cons_append,MJ,MJ,c];omega
structure Ps (c:Sc) (fu:Nat) (P:Tm->Nat×Nat->Prop):Prop where
 wf:∀t k,P t k->Wf t
 ch:∀t k,P t k->Oe c fu k
 T0:∀t k,P t k->t.k=4->∃d,c.called t.s=some d
 sub:∀t k i u,P t k->gH t=true->t.ts[i]?=some u->P u (c.operand t i k)
 k2:∀t k x u l,P t k->t.k=9->t.ts=x::u::l->P u k
theorem Ya (b:Sc->Nat->Cd->Cd)(c:Sc)(a d:Nat)(s:Cd×List Lt)(t:Tm)(k:Nat×Nat)(h:¬t.k=9):(zs b c a d s t k).2=s.2:=by
 unfold zs;rw[ae h];split
 . rfl
 split
 . rfl
 split
 . rfl
 split
 . rfl
 split
 . rfl
 rfl
theorem XB (d:Sc->Nat->Cd->Cd)(c:Sc)(b e:Nat)(s:Cd×List Lt)(t:Tm)(k:Nat×Nat)(h:t.k=9):(zs d c b e s t k).2=s.2++(match t.ts with|_::a::_=>[⟨s.1.cells.length,a,k⟩]|_=>[]):=by unfold zs;rw[ae (by omega),ae (by omega),ae (by omega),ae (by omega),ag h];rfl
theorem Te {bod:Sc->Nat->Cd->Cd}{c:Sc}{base o:Nat}{P:Tm->Nat×Nat->Prop}(B:Ps c o P):∀(t:Tm) (k:Nat×Nat) (s:Cd×List Lt),P t k->∃b,(My bod c base o s t k).2=s.2++b/\MJ b<=N5 t/\∀m∈b,P m.next m.clock:=by
 intro t;induction t using Tm.ind with
 | h x a f n p e D =>
   intro k s h;unfold My;rw[gK];by_cases q:x=9
   . have v:¬gH (.mk x a f n p e)=true:=(by unfold gH;simp[Tm.k,q]);rw[ae v,XB bod c base o s (.mk x a f n p e) k q];clear D;rw[N5,ag q];cases e with
     | nil=>exact⟨[],rfl,aE _,λm d=>by simp at d⟩
     | cons y l =>
       cases l with
       | nil=>exact⟨[],rfl,aE _,λm d=>by simp at d⟩
       | cons u l => refine⟨[⟨s.1.cells.length,u,k⟩],rfl,by simp[MJ,OY];omega,λm d=>?_⟩;rw[cu.1 d];exact B.k2 _ k y u l h q rfl
   have v:gH (.mk x a f n p e)=true:=(by unfold gH;simp[Tm.k,q]);rw[ag v,Ya bod c base o _ (.mk x a f n p e) k q,N5,ae q,Nat.zero_add];have H:∀(l:List Tm) (i:Nat) (g:Cd×List Lt),(∀j u,l[j]?=some u->u∈e/\P u (c.operand (.mk x a f n p e) (i+j) k))->∃b,(gu c (λt _=>gH t) (λs _ _=>s) (zs bod c base o) (.mk x a f n p e) k l i g).2=g.2++b/\MJ b<=OY l/\∀m∈b,P m.next m.clock:=by
    intro l;induction l with
    | nil=>intro i g _;exact⟨[],by rw[gu,List.append_nil],by simp[MJ],λm d=>by simp at d⟩
    | cons u l A => intro i g C;rw[gu];obtain⟨d,z⟩:=C 0 u rfl;obtain⟨E,F,M,J⟩:=D u d _ g z;have w:(gK c (λt _=>gH t) (λs _ _=>s) (zs bod c base o) u (c.operand (.mk x a f n p e) i k) g).2=g.2++E:=F;obtain⟨I,G,N,K⟩:=A (i+1) (gK c (λt _=>gH t) (λs _ _=>s) (zs bod c base o) u (c.operand (.mk x a f n p e) i k) g) (λj L r=>by have:=C (j+1) L r;rwa [show i+(j+1)=i+1+j by omega] at this);refine⟨E++I,?_,by rw[RB,OY];omega,λm d=>(bj.1 d).elim (J m) (K m)⟩;rw[G,w,bw]
   exact H e 0 s (λj u r=>⟨aM r,by rw[Nat.zero_add];exact B.sub _ k j u h v r⟩)
end
section
variable {base a:Nat} {c:Sc} {bod:Sc->Nat->Cd->Cd} {P:Tm->Nat×Nat->Prop}
theorem XM (f:∀d b K,qv (bod d b K)->qv K)(s:Cd×List Lt)(t:Tm)(k:Nat×Nat)(h:qv (zs bod c base a s t k).1):qv s.1:=by
 unfold zs at h;split at h
 . exact NX h
 split at h
 . exact NX h
 split at h
 . exact h
 split at h
 . exact NX h
 split at h
 . have e:=NX h;refine⟨e.1,?_⟩;have:=e.2;unfold Cd.cell at this;simp at this;omega
 split at h
 . unfold NK at h;split at h
   . exact h
   exact On (On (f _ _ _ (On h)))
 exact NX h
theorem RI (e:∀d b K,qv (bod d b K)->qv K){s:Cd×List Lt}{t:Tm}{k:Nat×Nat}(h:qv (My bod c base a s t k).1):qv s.1:=G9 (Bd:=λs:Cd×List Lt=>qv s.1) (λ_ _ _ h=>h) (λs t k h=>XM e s t k h) t k s h
theorem RH (f:∀d b K,qv (bod d b K)->qv K):∀(g:Nat) (s:Cd×List Lt),qv (NI bod c base a g s)->qv s.1:=by
 intro g;induction g with
 | zero=>intro s h;exact h
 | succ g i =>
   rintro⟨K,j⟩ h;rw[NI] at h;cases j with
   | nil=>exact h
   | cons m r => have e:=i _ h;exact On (RI f (NX e))
theorem S8:∀(b:List Lt),b.length<=MJ b:=by
 intro b;induction b with
 | nil=>simp[MJ]
 | cons l b d=>rw[MJ,bJ];omega
theorem W8 (w:∀d b K,qv (bod d b K)->qv K)(v:Ps c a P):∀(g:Nat) (s:Cd×List Lt),g<=1000000->MJ s.2<=g->(∀m∈s.2,P m.next m.clock)->qv (NI bod c base a g s)->OU P bod c base a g s:=by
 intro g;induction g with
 | zero =>
   rintro⟨K,q⟩ _ h _ _;cases q with
   | nil=>rfl
   | cons m r=>simp only[MJ] at h;omega
 | succ g y =>
   rintro⟨K,q⟩ z h k f;cases q with
   | nil=>rw[OU];trivial
   | cons m r =>
     rw[NI] at f;rw[OU];simp only at f ⊢;simp only[MJ] at h;obtain⟨u,e,A,x⟩:=Te (bod:=bod) (base:=base) v m.next m.clock (K.fv (z8 c base a m.clock),r) (k m (Mx ..));have j:=NX (RH w _ _ f);have l:=RI w j;have i:=l.1;rw[Cd.ON] at i;have n:MJ (My bod c base a (K.fv (z8 c base a m.clock),r) m.next m.clock).2<=g:=(by rw[e,RB];show MJ r+_<=_;omega);refine⟨i,⟨j,?_⟩,k m (Mx ..),v.ch _ _ (k m (Mx ..)),y _ (by omega) n ?_ f⟩
     . have:=S8 (My bod c base a (K.fv (z8 c base a m.clock),r) m.next m.clock).2;omega
     intro t o;have p:t∈r++u:=(by rw[<- e];exact o);rcases bj.1 p with h1|h1
     . exact k t (cS _ h1)
     exact x t h1
def OZ:List Qn->Nat
 | []=>0
 | q::l=>N5 q.r+OZ l
theorem XV (n:Ps c a P):∀(l:List Qn) (s:Cd×List Lt),(∀q∈l,P q.r (c.of (c.idx (q.ns.headD ⟨#[]⟩))))->(∀m∈s.2,P m.next m.clock)->MJ (ME bod c base a l s).2<=MJ s.2+OZ l/\∀m∈(ME bod c base a l s).2,P m.next m.clock:=by
 intro l;induction l with
 | nil=>intro s _ f;exact⟨by rw[ME,OZ];omega,f⟩
 | cons q l r =>
   intro s g f;rw[ME];obtain⟨b,e,u,p⟩:=Te (bod:=bod) (base:=base) n q.r _ s (g q (Mx ..));obtain⟨i,j⟩:=r ((My bod c base a s q.r (c.of (c.idx (q.ns.headD ⟨#[]⟩)))).1.fv (Ny c base (MS (NJ q.ns q.ps) q.ns.length q.ns.length)),(My bod c base a s q.r (c.of (c.idx (q.ns.headD ⟨#[]⟩)))).2) (λt h=>g t (cS _ h)) (λm o=>by
    have d:m∈s.2++b:=(by rw[<- e];exact o);exact (bj.1 d).elim (f m) (p m))
   refine⟨?_,j⟩;have k:MJ (My bod c base a s q.r (c.of (c.idx (q.ns.headD ⟨#[]⟩)))).2=MJ s.2+MJ b:=(by rw[e,RB]);simp only[OZ];simp only[k] at i;omega
def MQ (a d:Nat):Nat->Sc->Nat->Cd->Cd
 | 0,_,_,K=>K
 | f+1,c,b,K=>NI (MQ a d f) c b a d (ME (MQ a d f) c b a (Mr c) ((K.NR (b+c.nd.ak.length+1)).add 2 ((b+c.nd.ak.length:Nat):Int),[]))
theorem XP (e:∀d b K,qv (bod d b K)->qv K):∀(l:List Qn) (s:Cd×List Lt),qv (ME bod c base a l s).1->qv s.1:=by
 intro l;induction l with
 | nil=>intro s h;exact h
 | cons q l f => intro s h;rw[ME] at h;exact RI e (On (f _ h))
theorem Tc (a e:Nat):∀(f:Nat) (d:Sc) (b:Nat) (K:Cd),qv (MQ a e f d b K)->qv K:=by
 intro f;induction f with
 | zero=>intro d b K h;exact h
 | succ f g => intro d b K h;rw[MQ] at h;exact NX (XP g _ _ (RH g _ _ h))
structure Gd (a gas:Nat) (c:Sc) (P:Tm->Nat×Nat->Prop):Prop where
 ok:eU c
 bO:c.nd.eqs.length<=1000000
 pt:Ps c a P
 eqs:∀q∈c.nd.eqs,P q.r (c.of (c.idx (q.ns.headD ⟨#[]⟩)))
 T6:OZ (Mr c)<=gas
def Pr (a b:Nat):Nat->Sc->Prop
 | 0,_=>False
 | f+1,c=>(∃P,Gd a b c P)/\∀s d,c.called s=some d->Pr a b f d
theorem V8 {N B T M:Nat}(a b:Nat)(u:b<=1000000)(j:21<=N):∀(f:Nat) (c:Sc),Pr a b f c->∀(base:Nat),base+17*f<=100000->∀(z C:Nat) (E Q:Xv) (K:Cd) (W:Xw),WL N B T M z C base c E Q (.slice none 0 0) K [] W->M9 W->qv (MQ a b f c base K) ->
 xK 57 #[xP T,xP z] W (λe X=>e=.returned (.tuple #[])/\(∃O,WL N B T M z C base c E Q O (MQ a b f c base K) [] X)/\FT (CT M z) W X):=by
 intro f;induction f with
 | zero=>intro c h;exact h.elim
 | succ f a0 => rintro c ⟨⟨P,g⟩,aA⟩ base J z C E Q K W h L i;rw[MQ] at i ⊢;have A:=Tc a b f;have G:∀q∈Mr c,P q.r (c.of (c.idx (q.ns.headD ⟨#[]⟩))):=λq aV=>g.eqs q (RN c q aV);obtain⟨h1,h2⟩:=XV (bod:=MQ a b f) (base:=base) g.pt (Mr c) ((K.NR (base+c.nd.ak.length+1)).add 2 ((base+c.nd.ak.length:Nat):Int),[]) G (λm hm=>by simp at hm);have h3:=g.T6;have aL:MJ (ME (MQ a b f) c base a (Mr c) ((K.NR (base+c.nd.ak.length+1)).add 2 ((base+c.nd.ak.length:Nat):Int),[])).2<=b:=(by refine aJ h1 ?_;simp only[MJ];omega);have ar:=RH A _ _ i;have V:=S8 (ME (MQ a b f) c base a (Mr c) ((K.NR (base+c.nd.ak.length+1)).add 2 ((base+c.nd.ak.length:Nat):Int),[])).2;have U:c.nd.ak.length<=16:=g.ok.nd.bO;refine WZ g.ok g.bO (MQ a b f) a b P j (by omega) g.pt.wf g.pt.sub A ?_ K W h L (Tc a b (f+1) c base K (by rw[MQ];exact i)).1 g.eqs (W8 A g.pt b _ u aL h2 i) ⟨ar,by omega⟩;intro t k o w s lv Z v I hT x l;obtain⟨d,n⟩:=g.pt.T0 t k o w;have r:zs (MQ a b f) c base a s t k=(NK (MQ a b f) c base a s.1 t k,s.2):=(by unfold zs;rw[ae (by omega),ae (by omega),ae (by omega),ae (by omega),ae (by omega),ag w]);rw[r] at l;exact Wj g.ok (MQ a b f) a j (by omega) t k n (g.pt.ch t k o) A (λS D F R Y ab H y p=>a0 d (aA t.s d n) (base+c.nd.ak.length+1) (by omega) S D F R Y ab H y p) s.1 s.2 v Z I hT x l.1
end
end Go.Proofs.YtbicmofihhjgbaaGreatDoor
