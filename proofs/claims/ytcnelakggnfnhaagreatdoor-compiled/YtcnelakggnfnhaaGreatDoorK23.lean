/- Part 24. -/
import Derived.Test.YtcnelakggnfnhaaGreatDoorK22
set_option maxRecDepth 100000
set_option maxHeartbeats 8000000
namespace Go.Proofs.YtcnelakggnfnhaaGreatDoor
open Go.Proofs.Tryz
open Go.RowKit Go.Shelf
section
variable {N a g f:Nat} {c:Sc} {p l q:Xv}
attribute [local go_sem ↓] Go.wp_at_zero Go.wp_at_succ
theorem Ng.setAt {v:Xv}{w:Xw}{b:Nat}(h:Ng N f g a c p q l w)(e:¬f=b)(i:¬g=b)(m:N<=b):Ng N f g a c p q l (w.setCell (xD b 0) v):=by have d:∀k,¬k=b->(w.setCell (xD b 0) v).heap[k]?=w.heap[k]?:=λk d=>zr d rfl;exact⟨(d _ e).trans h.aC,h.sc.am (λk j=>d k (by omega)),h.ck.gh (d _ i),by have:=h.hN;simpa using this⟩
theorem Wj {B aA kb:Nat}{d:Sc}(hc:eU c)(O:Sc->Nat->Cd->Cd)(fu:Nat)(dl:21<=N)(eX:a<=100000)(t:Tm)(k:Nat×Nat)(J:c.called t.s=some d)(dH:Oe c fu k)
 (dw:∀d b K,qv (O d b K)->qv K)
 (a6:∀s u c6 eb K W,WL N B aA kb s u (a+c.nd.ak.length+1) d c6 eb (.slice none 0 0) K [] W->M9 W->qv (O d (a+c.nd.ak.length+1) K)->xK 28 #[xP aA,xP s] W (λe E=>e=.returned (.tuple #[])/\(∃T,WL N B aA kb s u (a+c.nd.ak.length+1) d c6 eb T (O d (a+c.nd.ak.length+1) K) [] E)/\FT (CT kb s) W E))
 (K:Cd) (ls:List Lt) (v:Xv) (w:Xw) (h:WL N B aA kb f g a c p q l K ls w) (hT:TT w N t v) (dL:M9 w) (a9:qv (NK O c a fu K t k)) :
 xK 169 #[xP aA,xP f,v,hG k] w (λe E=>e=.returned (.tuple #[])/\(∃T,WL N B aA kb f g a c p q T (NK O c a fu K t k) ls E)/\FT (CT kb f) w E):=by
 obtain⟨ek,bv,nb,rfl,rfl,g9⟩:=h.wi.qi.sc.shape;obtain⟨b,args,vs,rfl,hR,bK,bg,bL,dV,e1⟩:=hT.ptr;obtain⟨xa,eT,rfl⟩:=O6 bg;obtain⟨H,cm⟩:∃H,a+c.nd.ak.length+1=H:=⟨_,rfl⟩;have be:NK O c a fu K t k=(O d H ((K.fv ((List.range vs.length).reverse.map λi=>(2,((H+i:Nat):Int)))).fv (z8 c a fu k))).fv ((List.range d.nd.aG).map λi=>(1,((H+(d.nd.ah+i):Nat):Int))):=by unfold NK;rw[J];simp only[cm,bL]
 rw[cm] at a6;rw[be] at a9 ⊢;have fA:c.nd.ak.length<=16:=by obtain⟨_,_,_,_,_,S⟩:=h.wi.qi.sc.nd;exact S.bO
 have bC:H<=1000000:=by omega
 obtain⟨bl,eZ⟩:=hc.called J;have gZ:=bl.nd.io;have gX:=bl.nd.bO;obtain⟨ct,bA⟩:∃ct,K.fv ((List.range vs.length).reverse.map λi=>(2,((H+i:Nat):Int)))=ct:=⟨_,rfl⟩;obtain⟨cv,P⟩:∃cv,ct.fv (z8 c a fu k)=cv:=⟨_,rfl⟩;obtain⟨bt,bB⟩:∃bt,O d H cv=bt:=⟨_,rfl⟩;rw[bA,P,bB] at a9 ⊢;have bb:qv bt:=On a9;have bE:qv cv:=dw d H cv (by rw[bB];exact bb);have g5:bt.row.length+d.nd.aG<=1000000:=by have:=a9.1;rw[Cd.ON] at this;simpa using this
 have e5:ct.row.length+(z8 c a fu k).length<=1000000:=by have:=bE.1;rw[<- P,Cd.ON] at this;exact this
 have e3:K.row.length+vs.length<=1000000:=by
  have h9:ct.row.length<=1000000:=by omega
  rw[<- bA,Cd.ON] at h9;simpa using h9
 have cE:=za a6;have eG:=za bA;have eL:=za P;have c0:=za bB;have c3:=za bb;have eO:=za dH;have A:=za h;have hx:=za hT;have eP:=za dL;have c4:=za bg;have cB:=za bK;have ch:=h.wi.qi.hN;have h6:=hc.bO;unfold hG;clear be a9 bE bb dV bL a6 bA P bB dH h hT dL bg bK bl eZ;refine callsIn_wide.1 (callsIn_of_wp_marks (F:=Fence.wide) (n:=9) func169 rfl trivial (wpIn_wide.2 ?_) rfl);simp only[ntmps169,List.size_toArray,bJ,cw,Nat.reduceAdd,Nat.reduceSub,Array.replicate_succ,Array.replicate_zero,List.push_toArray,List.append_toArray,List.nil_append,List.cons_append];obtain⟨ft,ck⟩:∃ft,bodyPostM Fence.wide 9 prog Tryz.f169 (λe E=>e=.returned (.tuple #[])/\(∃T,WL N B aA kb f g a c (xE ek c bv) (xP nb) T (bt.fv ((List.range d.nd.aG).map λi=>(1,((H+(d.nd.ah+i):Nat):Int)))) ls E)/\FT (CT kb f) w E)=ft:=⟨_,rfl⟩;rw[ck];have eN:=za ck;clear ck;go_upto_region 1 with fail;refine zn (λW=>(xB w W)/\W.heap.size=w.heap.size+2/\W.heap[w.heap.size]?=some (.cells #[xP aA] 152 (0,0))/\W.heap[w.heap.size+1]?=some (.cells #[xI (k.1:Nat),xI (k.2:Nat)] 162 (0,0))) ⟨cT w _ _,by simp,(mh w _ _).1,(mh w _ _).2⟩ ?_;rintro W ⟨hB,du,co,cs⟩;have go:=za hB;have eQ:=za co;have eR:=za cs;have ds:w.heap.size+2<=W.heap.size:=by omega
 have gt:=za du;clear du;have e7:=ze A.o.wi.qi.aC;have dz:b<w.heap.size:=by omega
 go_cut [8,9] from 13 to 24 (λx y wx=>∃kU x2 L n2,x=xP kU/\y=.bool true/\W.heap.size<=kU/\aa (br wx N d (xE x2 d L) (xP n2))/\aa (xB W wx)/\aa (xH wx kU #[xE x2 d L,xP n2] 73))
 case first =>
  obtain⟨m0,m1,m2,m3,m4,fg,fh⟩:=bz ((hB.block _ e7).trans A.o.wi.qi.aC);obtain⟨h0,h1,h2,h3,h4,h5,hf,hz⟩:=zt ((hB.block b dz).trans cB.o);have hO:=zm hB ch;have eW:N<=W.heap.size:=by omega
  have ex:=za (ji t.s (t.nm:Int) W.drew (A.o.wi.qi.sc.am (w':=W.drew) hO) eW h6 J);have eE:=za (λo=>ji t.s (t.nm:Int) (W.alloc o).drew (A.o.wi.qi.sc.am (w':=(W.alloc o).drew) (hO.trans (λk fB=>mm _ _ _ (by omega)))) (by show N<=(W.alloc o).heap.size;simp;omega) h6 J);clear hB co cs m2 m3 m4 h0 h1 h4 h5 J
  go_region_held3 (λE=>E.cell? (xD f 0)=some (xE ek c bv)/\E.cell? (xD f 1)=some (xP nb)/\E.cell? (xD b 2)=some (.string t.s)/\E.cell? (xD b 3)=some (xI t.nm))
   (first|(with_reducible (refine⟨?_,?_,?_,?_⟩ <;> repeat (first|assumption|refine zg ?_|refine zj _ ?_|refine zk (by omega) ?_|refine zd M.o ?_ (by first|omega|(rw[au];omega)))))|go_keep)
   (first
     | (go_at_call 96;refine ex.o.mono ?_;rintro e w1 ⟨x2,L,n2,rfl,bk,a5⟩;have M:=za (zw a5);have a3:=za bk;clear a5 bk)
     | (go_at_call 96;refine (eE.o _).mono ?_;rintro e w1 ⟨x2,L,n2,rfl,bk,a5⟩;have M:=za (zw a5);have a3:=za bk;obtain⟨em,gn,eq,er⟩:=zp ((M.o.block W.heap.size (by rw[au];omega)).trans (zc W _));clear a5 bk))
  all_goals go_wp2_with fail
  all_goals go_meet
  . have h1:=M.o.size;exact⟨_,_,_,_,rfl,rfl,h1,a3.o.am (λk fB=>mm _ _ _ (by omega)),M.o.alloc h1 _,zc w1 _⟩
  have h1:=M.o.size;rw[au] at h1;have gV:=(M.o.block W.heap.size (by rw[au];omega)).trans (zc W _);refine⟨_,_,_,_,rfl,rfl,an _,a3.o.am (λk fB=>?_),zC (zC (zE M.o) (an _) _) (an _) _,zh _ _ _ _ (zh _ _ _ _ gV)⟩;exact (zr (by omega) rfl).trans (zr (by omega) rfl)
 case rest =>
  obtain⟨kU,x2,L,n2,rfl,rfl,hm,a3,aV,b4⟩:=hcut;obtain⟨V,rfl⟩:∃V,V=wc:=⟨_,rfl⟩;have hi:w.heap.size+2<=V.heap.size:=aJ ds aV.o.size;have gU:=aV.o.size;have cz:=za (go.o.trans (aV.o.mono (by omega)));clear hB co cs J;go_upto_region 2 with fail;go_cut [10] from 25 to 28 (λx wx=>∃U s u,x=xP U/\V.heap.size<=U/\V.heap.size<=s/\V.heap.size<=u/\¬s=u/\aa (Ng N s u H d (xE x2 d L) (xP n2) (.slice none 0 0) wx)/\aa (xB V wx)/\aa (xH wx U #[xP s] 68))
  case first =>
   obtain⟨hJ,hK,hM,hN⟩:=zp b4.o;have dp:N<=V.heap.size:=(by omega);have b1:=za (λ(W':Xw) (bx:xB V W')=>S7 W' ((A.o.wi.qi.aq cz.o).aq bx) (by omega));rw[cm] at b1;have b3:=za (λ(W':Xw) (bx:xB V W')=>SO H W' (a3.o.am (zm bx dp)) (aJ dp bx.size))
   go_region_held3 (λE=>E.cell? (xD kU 0)=some (xE x2 d L)/\E.cell? (xD kU 1)=some (xP n2))
    (first|(with_reducible (refine⟨?_,?_⟩ <;> repeat (first|assumption|refine zg ?_|refine zj _ ?_|refine zk (by omega) ?_|refine zd G.o ?_ (by omega)|refine zd z.o ?_ (by omega))))|go_keep)
    (first
      | (go_at_call 56;refine (b1.o _ (by exact zo (yS _ _))).mono ?_;rintro e w3 ⟨rfl,Z⟩;have z:=za (zw Z);clear Z)
      | (go_at_call 56;refine (b1.o _ (by exact zo (zq V _))).mono ?_;rintro e w3 ⟨rfl,Z⟩;have a4:=za (((zw Z).block V.heap.size (by rw[au];omega)).trans (zc V _));have z:=za (zE (zw Z));clear Z)
      | (go_at_call 25;refine (b3.o _ (z.o.alloc z.o.size _)).mono ?_;rintro e w4 ⟨s,u,rfl,g1,g2,g3,Q,I⟩;(rw[au] at g1 g2);have a2:=za Q;have c2:=za ((I.block w3.heap.size (by rw[au];omega)).trans (zc w3 _));have G:=za (z.o.trans ((zE I).mono z.o.size));obtain⟨em,eq,er⟩:=zu c2.o;have fD:=z.o.size;have fP:=G.o.size;clear I Q)
      | (revert a4;intro a4;go_at_call 25;refine (b3.o _ z.o).mono ?_;rintro e w4 ⟨s,u,rfl,g1,g2,g3,Q,I⟩;have a2:=za Q;have G:=za (z.o.trans (I.mono z.o.size));have c2:=za ((I.block _ (ze a4.o)).trans a4.o);obtain⟨em,eq,er⟩:=zu c2.o;have fD:=z.o.size;have fP:=G.o.size;clear I Q)
      | (go_at_call 25;refine (b3.o _ z.o).mono ?_;rintro e w4 ⟨s,u,rfl,g1,g2,g3,Q,I⟩;have a2:=za Q;have G:=za (z.o.trans (I.mono z.o.size));have fD:=z.o.size;have fP:=G.o.size;clear I Q))
   all_goals go_wp2_with fail
   all_goals go_meet
   . exact⟨_,s,u,rfl,by omega,by omega,by omega,g3,a2.o.aq (zq w4 _),G.o.alloc G.o.size _,zc w4 _⟩
   . exact⟨_,s,u,rfl,by omega,by omega,by omega,g3,a2.o.setAt (by omega) (by omega) (by omega),zC G.o (by omega) _,zh _ _ _ _ c2.o⟩
   have hy:=ze a4.o;exact⟨_,s,u,rfl,by omega,by omega,by omega,g3,a2.o.setAt (by omega) (by omega) (by omega),zC G.o (by omega) _,zh _ _ _ _ c2.o⟩
  case rest =>
   obtain⟨U,s,u,rfl,hu,he,gW,dM,gs,a0,eS⟩:=hcut;obtain⟨X,rfl⟩:∃X,X=wc:=⟨_,rfl⟩;have R:xB w X:=cz.o.trans (a0.o.mono (by omega));have gz:=a0.o.size;have C:∀x,w.heap.size<=x->¬CT kb f X x:=λx hV e=>by have:=(A.o.lt _ (A.o.tk R _ e)).2.1;omega
   have ea:=ze b4.o
   have dc:MY N B aA kb f g a s u H c d (xE ek c bv) (xP nb) l (xE x2 d L) (xP n2) (.slice none 0 0) K ls k w.heap.size kU U w X :=
    ⟨A.o.aq R,gs.o,FT.below R (A.o.tk R),(a0.o.block _ (by omega)).trans ((aV.o.block _ (by omega)).trans eQ.o),(a0.o.block _ (by omega)).trans ((aV.o.block _ (by omega)).trans eR.o),(a0.o.block _ ea).trans b4.o,eS.o,C _ (by omega),C _ (by omega),C _ (by omega),C _ (by omega),C _ (by omega),C _ (by omega)⟩
   have dY:¬s=aA:=(by obtain⟨_,_,_,gx⟩:=A.o.wi.kw;have:=ze gx.wr;omega);have dq:N<=s:=(by omega);have eY:¬g=s:=(by have:=A.o.wi.qi.ck.lt;omega);have bq:=za dc;have cA:=za R;obtain⟨h0,h1,h2,h3,h4,h5,hf,hz⟩:=zt ((R.block b dz).trans cB.o);have c9:vs.length<=1000000:=(by omega);clear dc R C h0 h1 h2 h3 h4;go_wp2_with (go_at_call 185;refine (W4 _ _ _ _).mono ?_;rintro e w6 ⟨rfl,rfl⟩);refine VS (Bs:=X.heap.size) (xa:=xa) (cl:=eT) vs bC c9 e3 w _ (bq.o.aq (zq X _)) (by simp) (λe=>by have:=(bq.o.wl.lt _ (bq.o.wl.tk (zq X _) _ e)).2.1;omega) (zu (zc X _)).1 (λj g0=>?_) ?_
   . obtain⟨y,hy⟩:∃y,vs[j]?=some y:=⟨_,av g0⟩;obtain⟨g',rfl,cn⟩:=nB c4.o hy;have hg:=e1 g' rfl;refine⟨g',rfl,hg,?_⟩;rw[hy];exact zj _ (zd cA.o cn (by omega))
   intro D fz hD ar di;rw[WU H vs c9,eG.o] at ar;have eV:w.heap.size<=D:=(by rw[au] at hD;have:=cA.o.size;omega);have bo:=za ar;have cK:aa (NS w.heap.size fz [{ target:=.collected D,args:=#[] }]):=.cons D [] eV di (λ_ h=>by simp at h) .nil;obtain⟨x0,gl,gm⟩:=zu ar.x1;obtain⟨em,gn,eq,er⟩:=zp ar.x2;have bs:=za (SR (by omega) fu k ct fz eO.o ar.wl.wi e5);rw[eL.o] at bs;unfold hG at bs;clear ar di h5 hf hz
   go_wp2_with (first
    | (go_at_call 64
       refine bs.o.mono ?_;rintro e w7 ⟨rfl,cg,cd⟩;have Y:=za (bo.o.Om cg cd);have cO:=za (cK.o.others (bo.o.wl.others (bo.o.wl.N6 cg cd).2));obtain⟨hv,hw,sz⟩:=zu Y.o.x1;obtain⟨gd,rf,ge⟩:=zu Y.o.x4;have b2:=za (Ng.inner Y.o dM dY dq);have b0:=za (cE.o s u _ _ cv w7 b2.o (eP.o.am (Y.o.ft.am ch (λk e=>(A.o.lt k e).1)) dl) (by rw[c0.o];exact c3.o));rw[c0.o] at b0;clear cg cd x0 gl gm em gn eq er)
    | (go_at_call 28
       refine b0.o.mono ?_;rintro e w8 ⟨rfl,⟨ff,dk⟩,ce⟩;have bp:=za (Y.o.body dM dY dq (by omega) eY dk ce);have cR:=za (cO.o.others (b2.o.others ce));obtain⟨nn,fk,fj,fl,c5,S⟩:=bp.o.qi.sc.nd;cases c5;obtain⟨m0,m1,m2,m3,m4,m5,fg,fh⟩:=zt S.aC;obtain⟨p0,fS,ga,gc⟩:=zp bp.o.x3;clear dk ce S m0 m1 m2 m3 m5 hv hw sz gd rf ge))
   go_loopg [53] (d.nd.aG+1) (λj i wr=>∃m:Nat,m+j=d.nd.aG+1/\m<=d.nd.aG/\i=xI m/\aa (MY N B aA kb f g a s u H c d (xE ek c bv) (xP nb) l (xE x2 d L) (xP n2) ff (bt.fv ((List.range m).map λi=>(1,((H+(d.nd.ah+i):Nat):Int)))) ls k w.heap.size kU U w wr)/\aa (NS w.heap.size wr [{ target:=.collected D,args:=#[] }]));case atStart=>exact⟨0,by omega,aE _,rfl,by rw[List.range_zero,List.map_nil,Cd.Rc];exact bp.o,cR.o⟩
   case round =>
    clear bp cR Y cO bo cK b2 b0 bs bq m4 fg fh p0 fS ga gc;obtain⟨m,g7,hU,rfl,aL,fr⟩:=hrel;by_cases g6:m<d.nd.aG
    . obtain⟨nn,fk,fj,fl,c5,S⟩:=aL.o.qi.sc.nd;cases c5;obtain⟨m0,m1,m2,m3,m4,m5,fg,fh⟩:=zt S.aC;obtain⟨x0,gl,gm⟩:=zu aL.o.x1;obtain⟨p0,fS,ga,gc⟩:=zp aL.o.x3;obtain⟨gd,rf,ge⟩:=zu aL.o.x4;have i1:(m:Int)<(d.nd.aG:Int):=(by omega);have dP:(bt.fv ((List.range m).map λi=>(1,((H+(d.nd.ah+i):Nat):Int)))).row.length<=1000000:=(by rw[Cd.ON];simp;omega);have c1:=za (λ(W':Xw) (hB:xB wr W')=>Qb (d.nd.ah+m) W' (aL.o.aq hB).qi bC (by omega));rw[show ((d.nd.ah+m:Nat):Int)=(d.nd.ah:Int)+(m:Int) by omega] at c1;have es:=za (λ(W':Xw) (hB:xB wr W')=>O5 B aA kb _ 1 ((H+(d.nd.ah+m):Nat):Int) W' (aL.o.aq hB).wl.wi.kw dP);clear S m0 m1 m2 m4 m5 p0 dP;go_upto_region 11 with fail;have g4:¬CT kb f wr w.heap.size:=aL.o.n1;have gY:d.nd.ah<=16:=(by omega);have g8:m<=16:=(by omega);have hh:IntKind.i64.wrap ((d.nd.ah:Int)+(m:Int))=(d.nd.ah:Int)+(m:Int):=(by rw[IntKind.wrap_i64];omega)
      go_region_held3 (λE=>E.cell? (xD w.heap.size 0)=some (xP aA)/\E.cell? (xD U 0)=some (xP s)/\E.cell? (xD kU 1)=some (xP n2)/\E.cell? (xD n2 3)=some (xI d.nd.ah))
       (first|(with_reducible (refine⟨?_,?_,?_,?_⟩ <;> repeat (first|assumption|refine zg ?_)))|go_keep)
       (first
         | (go_at_call 27;refine (es.o _ (by exact zo (yS _ _))).mono ?_;rintro e w2 ⟨rfl,P,ca⟩;have a1:=za ((aL.o.aq (zo (yS _ _))).Om P ca);have eF:=za (fr.o.others ((Qa (zo (yS _ _))).trans ((aL.o.aq (zo (yS _ _))).wl.others ((aL.o.aq (zo (yS _ _))).wl.N6 P ca).2)));have q0:=(zu a1.o.x1).1;have h7:=(zu a1.o.x4).1;have q2:=(zp a1.o.x3).2.1;obtain⟨_,_,_,_,c5,bY⟩:=a1.o.qi.sc.nd;cases c5;have q3:=(zt bY.aC).2.2.2.1;clear P ca bY)
         | (go_at_call 122;refine (c1.o _ (by exact zo (yS _ _))).mono ?_;rintro e w1 ⟨rfl,rfl⟩))
      all_goals go_wp2_with fail
      all_goals go_roundg (gk-1)
      case measure=>omega
      refine⟨m+1,by omega,by omega,by go_num,?_,eF.o⟩;have da:=a1.o;have e:(bt.fv ((List.range m).map λi=>(1,((H+(d.nd.ah+i):Nat):Int)))).add 1 ((H+(d.nd.ah+m):Nat):Int)=bt.fv ((List.range (m+1)).map λi=>(1,((H+(d.nd.ah+i):Nat):Int))):=(by simp[Cd.add,Cd.fv,List.range_succ]);rw[e] at da;exact da
    have gw:m=d.nd.aG:=(by omega);subst gw;go_wp2_with fail;rw[<- eN.o];refine SM (B0:=w.heap.size) ?_ (λW=>results_none rfl _ _ _) _ wr fr.o ⟨rfl,⟨_,aL.o.wl⟩,aL.o.ft⟩;rintro W D o hD gC ⟨_,⟨T,fd⟩,e0⟩;have fC:M4 w.heap.size W (W.putObj D o):=M4.of (grownBy_putObj' W D o) (λr e=>by cases e;exact⟨hD,_,gC,rfl⟩);have h2:=fd.sc fC A.o.wi.qi.ck.lt ch;exact⟨rfl,⟨T,h2.1⟩,e0.sc fC (λk e=>(h2.2 k).1 e) rfl rfl rfl⟩
end
section
mutual
def N5:Tm->Nat
 | .mk k _ _ _ _ a=>(if k=9 then 1 else 0)+OY a
def OY:List Tm->Nat
 | []=>0
 | t::l=>N5 t+OY l
end
def MJ:List Lt->Nat
 | []=>0
 | l::a=>1+N5 l.next+MJ a
theorem RB (a b:List Lt):MJ (a++b)=MJ a+MJ b:=by
 induction a with
 | nil=>simp[MJ]
 | cons x a c=>rw[List.cons_append,MJ,MJ,c];omega
structure Ps (c:Sc) (fu:Nat) (P:Tm->Nat×Nat->Prop):Prop where
 wf:∀t k,P t k->Wf t
 ch:∀t k,P t k->Oe c fu k
 ae9:∀t k,P t k->t.k=4->∃d,c.called t.s=some d
 sub:∀t k i u,P t k->gH t=true->t.ts[i]?=some u->P u (c.operand t i k)
 k2:∀t k x u l,P t k->t.k=9->t.ts=x::u::l->P u k
theorem Ya (b:Sc->Nat->Cd->Cd)(c:Sc)(a d:Nat)(s:Cd×List Lt)(t:Tm)(k:Nat×Nat)(h:¬t.k=9):(zs b c a d s t k).2=s.2:=by
 unfold zs;rw[ae h];split
 . rfl
 split
 . rfl
 split
 . rfl
 split
 . rfl
 split
 . rfl
 rfl
theorem XB (d:Sc->Nat->Cd->Cd)(c:Sc)(b e:Nat)(s:Cd×List Lt)(t:Tm)(k:Nat×Nat)(h:t.k=9):(zs d c b e s t k).2=s.2++(match t.ts with|_::a::_=>[⟨s.1.cells.length,a,k⟩]|_=>[]):=by unfold zs;rw[ae (by omega),ae (by omega),ae (by omega),ae (by omega),ag h];rfl
theorem ae4 {bod:Sc->Nat->Cd->Cd}{c:Sc}{base o:Nat}{P:Tm->Nat×Nat->Prop}(B:Ps c o P):∀(t:Tm) (k:Nat×Nat) (s:Cd×List Lt),P t k->∃b,(My bod c base o s t k).2=s.2++b/\MJ b<=N5 t/\∀m∈b,P m.next m.clock:=by
 intro t;induction t using Tm.ind with
 | h x a f n p e D =>
   intro k s h;unfold My;rw[gK];by_cases q:x=9
   . have v:¬gH (.mk x a f n p e)=true:=(by unfold gH;simp[Tm.k,q]);rw[ae v,XB bod c base o s (.mk x a f n p e) k q];clear D;rw[N5,ag q];cases e with
     | nil=>exact⟨[],rfl,aE _,λm d=>by simp at d⟩
     | cons y l =>
       cases l with
       | nil=>exact⟨[],rfl,aE _,λm d=>by simp at d⟩
       | cons u l => refine⟨[⟨s.1.cells.length,u,k⟩],rfl,by simp[MJ,OY];omega,λm d=>?_⟩;rw[cu.1 d];exact B.k2 _ k y u l h q rfl
   have v:gH (.mk x a f n p e)=true:=(by unfold gH;simp[Tm.k,q]);rw[ag v,Ya bod c base o _ (.mk x a f n p e) k q,N5,ae q,Nat.zero_add];have H:∀(l:List Tm) (i:Nat) (g:Cd×List Lt),(∀j u,l[j]?=some u->u∈e/\P u (c.operand (.mk x a f n p e) (i+j) k))->∃b,(gu c (λt _=>gH t) (λs _ _=>s) (zs bod c base o) (.mk x a f n p e) k l i g).2=g.2++b/\MJ b<=OY l/\∀m∈b,P m.next m.clock:=by
    intro l;induction l with
    | nil=>intro i g _;exact⟨[],by rw[gu,List.append_nil],by simp[MJ],λm d=>by simp at d⟩
    | cons u l A => intro i g C;rw[gu];obtain⟨d,z⟩:=C 0 u rfl;obtain⟨E,F,M,J⟩:=D u d _ g z;have w:(gK c (λt _=>gH t) (λs _ _=>s) (zs bod c base o) u (c.operand (.mk x a f n p e) i k) g).2=g.2++E:=F;obtain⟨I,G,N,K⟩:=A (i+1) (gK c (λt _=>gH t) (λs _ _=>s) (zs bod c base o) u (c.operand (.mk x a f n p e) i k) g) (λj L r=>by have:=C (j+1) L r;rwa [show i+(j+1)=i+1+j by omega] at this);refine⟨E++I,?_,by rw[RB,OY];omega,λm d=>(bj.1 d).elim (J m) (K m)⟩;rw[G,w,bw]
   exact H e 0 s (λj u r=>⟨aM r,by rw[Nat.zero_add];exact B.sub _ k j u h v r⟩)
end
section
variable {base a:Nat} {c:Sc} {bod:Sc->Nat->Cd->Cd} {P:Tm->Nat×Nat->Prop}
theorem XM (f:∀d b K,qv (bod d b K)->qv K)(s:Cd×List Lt)(t:Tm)(k:Nat×Nat)(h:qv (zs bod c base a s t k).1):qv s.1:=by
 unfold zs at h;split at h
 . exact NX h
 split at h
 . exact NX h
 split at h
 . exact h
 split at h
 . exact NX h
 split at h
 . have e:=NX h;refine⟨e.1,?_⟩;have:=e.2;unfold Cd.cell at this;simp at this;omega
 split at h
 . unfold NK at h;split at h
   . exact h
   exact On (On (f _ _ _ (On h)))
 exact NX h
theorem RI (e:∀d b K,qv (bod d b K)->qv K){s:Cd×List Lt}{t:Tm}{k:Nat×Nat}(h:qv (My bod c base a s t k).1):qv s.1:=G9 (Bd:=λs:Cd×List Lt=>qv s.1) (λ_ _ _ h=>h) (λs t k h=>XM e s t k h) t k s h
theorem RH (f:∀d b K,qv (bod d b K)->qv K):∀(g:Nat) (s:Cd×List Lt),qv (NI bod c base a g s)->qv s.1:=by
 intro g;induction g with
 | zero=>intro s h;exact h
 | succ g i =>
   rintro⟨K,j⟩ h;rw[NI] at h;cases j with
   | nil=>exact h
   | cons m r => have e:=i _ h;exact On (RI f (NX e))
theorem S8:∀(b:List Lt),b.length<=MJ b:=by
 intro b;induction b with
 | nil=>simp[MJ]
 | cons l b d=>rw[MJ,bJ];omega
theorem W8 (w:∀d b K,qv (bod d b K)->qv K)(v:Ps c a P):∀(g:Nat) (s:Cd×List Lt),g<=1000000->MJ s.2<=g->(∀m∈s.2,P m.next m.clock)->qv (NI bod c base a g s)->OU P bod c base a g s:=by
 intro g;induction g with
 | zero =>
   rintro⟨K,q⟩ _ h _ _;cases q with
   | nil=>rfl
   | cons m r=>simp only[MJ] at h;omega
 | succ g y =>
   rintro⟨K,q⟩ z h k f;cases q with
   | nil=>rw[OU];trivial
   | cons m r =>
     rw[NI] at f;rw[OU];simp only at f ⊢;simp only[MJ] at h;obtain⟨u,e,A,x⟩:=ae4 (bod:=bod) (base:=base) v m.next m.clock (K.fv (z8 c base a m.clock),r) (k m (Mx ..));have j:=NX (RH w _ _ f);have l:=RI w j;have i:=l.1;rw[Cd.ON] at i;have n:MJ (My bod c base a (K.fv (z8 c base a m.clock),r) m.next m.clock).2<=g:=(by rw[e,RB];show MJ r+_<=_;omega);refine⟨i,⟨j,?_⟩,k m (Mx ..),v.ch _ _ (k m (Mx ..)),y _ (by omega) n ?_ f⟩
     . have:=S8 (My bod c base a (K.fv (z8 c base a m.clock),r) m.next m.clock).2;omega
     intro t o;have p:t∈r++u:=(by rw[<- e];exact o);rcases bj.1 p with h1|h1
     . exact k t (cS _ h1)
     exact x t h1
def OZ:List Qn->Nat
 | []=>0
 | q::l=>N5 q.r+OZ l
theorem XV (n:Ps c a P):∀(l:List Qn) (s:Cd×List Lt),(∀q∈l,P q.r (c.of (c.idx (q.ns.headD ⟨#[]⟩))))->(∀m∈s.2,P m.next m.clock)->MJ (ME bod c base a l s).2<=MJ s.2+OZ l/\∀m∈(ME bod c base a l s).2,P m.next m.clock:=by
 intro l;induction l with
 | nil=>intro s _ f;exact⟨by rw[ME,OZ];omega,f⟩
 | cons q l r =>
   intro s g f;rw[ME];obtain⟨b,e,u,p⟩:=ae4 (bod:=bod) (base:=base) n q.r _ s (g q (Mx ..));obtain⟨i,j⟩:=r ((My bod c base a s q.r (c.of (c.idx (q.ns.headD ⟨#[]⟩)))).1.fv (Ny c base (MS (NJ q.ns q.ps) q.ns.length q.ns.length)),(My bod c base a s q.r (c.of (c.idx (q.ns.headD ⟨#[]⟩)))).2) (λt h=>g t (cS _ h)) (λm o=>by
    have d:m∈s.2++b:=(by rw[<- e];exact o);exact (bj.1 d).elim (f m) (p m))
   refine⟨?_,j⟩;have k:MJ (My bod c base a s q.r (c.of (c.idx (q.ns.headD ⟨#[]⟩)))).2=MJ s.2+MJ b:=(by rw[e,RB]);simp only[OZ];simp only[k] at i;omega
def MQ (a d:Nat):Nat->Sc->Nat->Cd->Cd
 | 0,_,_,K=>K
 | f+1,c,b,K=>NI (MQ a d f) c b a d (ME (MQ a d f) c b a (Mr c) ((K.NR (b+c.nd.ak.length+1)).add 2 ((b+c.nd.ak.length:Nat):Int),[]))
theorem XP (e:∀d b K,qv (bod d b K)->qv K):∀(l:List Qn) (s:Cd×List Lt),qv (ME bod c base a l s).1->qv s.1:=by
 intro l;induction l with
 | nil=>intro s h;exact h
 | cons q l f => intro s h;rw[ME] at h;exact RI e (On (f _ h))
theorem Tc (a e:Nat):∀(f:Nat) (d:Sc) (b:Nat) (K:Cd),qv (MQ a e f d b K)->qv K:=by
 intro f;induction f with
 | zero=>intro d b K h;exact h
 | succ f g => intro d b K h;rw[MQ] at h;exact NX (XP g _ _ (RH g _ _ h))
structure Gd (a gas:Nat) (c:Sc) (P:Tm->Nat×Nat->Prop):Prop where
 ok:eU c
 bO:c.nd.eqs.length<=1000000
 pt:Ps c a P
 eqs:∀q∈c.nd.eqs,P q.r (c.of (c.idx (q.ns.headD ⟨#[]⟩)))
 T6:OZ (Mr c)<=gas
def Pr (a b:Nat):Nat->Sc->Prop
 | 0,_=>False
 | f+1,c=>(∃P,Gd a b c P)/\∀s d,c.called s=some d->Pr a b f d
theorem V8 {N B T M:Nat}(a b:Nat)(u:b<=1000000)(j:21<=N):∀(f:Nat) (c:Sc),Pr a b f c->∀(base:Nat),base+17*f<=100000->∀(z C:Nat) (E Q:Xv) (K:Cd) (W:Xw),WL N B T M z C base c E Q (.slice none 0 0) K [] W->M9 W->qv (MQ a b f c base K) ->
 xK 28 #[xP T,xP z] W (λe X=>e=.returned (.tuple #[])/\(∃O,WL N B T M z C base c E Q O (MQ a b f c base K) [] X)/\FT (CT M z) W X):=by
 intro f;induction f with
 | zero=>intro c h;exact h.elim
 | succ f a0 => rintro c ⟨⟨P,g⟩,aA⟩ base J z C E Q K W h L i;rw[MQ] at i ⊢;have A:=Tc a b f;have G:∀q∈Mr c,P q.r (c.of (c.idx (q.ns.headD ⟨#[]⟩))):=λq aV=>g.eqs q (RN c q aV);obtain⟨h1,h2⟩:=XV (bod:=MQ a b f) (base:=base) g.pt (Mr c) ((K.NR (base+c.nd.ak.length+1)).add 2 ((base+c.nd.ak.length:Nat):Int),[]) G (λm hm=>by simp at hm);have h3:=g.T6;have aL:MJ (ME (MQ a b f) c base a (Mr c) ((K.NR (base+c.nd.ak.length+1)).add 2 ((base+c.nd.ak.length:Nat):Int),[])).2<=b:=(by refine aJ h1 ?_;simp only[MJ];omega);have ar:=RH A _ _ i;have V:=S8 (ME (MQ a b f) c base a (Mr c) ((K.NR (base+c.nd.ak.length+1)).add 2 ((base+c.nd.ak.length:Nat):Int),[])).2;have U:c.nd.ak.length<=16:=g.ok.nd.bO;refine WZ g.ok g.bO (MQ a b f) a b P j (by omega) g.pt.wf g.pt.sub A ?_ K W h L (Tc a b (f+1) c base K (by rw[MQ];exact i)).1 g.eqs (W8 A g.pt b _ u aL h2 i) ⟨ar,by omega⟩;intro t k o w s lv Z v I hT x l;obtain⟨d,n⟩:=g.pt.ae9 t k o w;have r:zs (MQ a b f) c base a s t k=(NK (MQ a b f) c base a s.1 t k,s.2):=(by unfold zs;rw[ae (by omega),ae (by omega),ae (by omega),ae (by omega),ae (by omega),ag w]);rw[r] at l;exact Wj g.ok (MQ a b f) a j (by omega) t k n (g.pt.ch t k o) A (λS D F R Y W2 H y p=>a0 d (aA t.s d n) (base+c.nd.ak.length+1) (by omega) S D F R Y W2 H y p) s.1 s.2 v Z I hT x l.1
end
end Go.Proofs.YtcnelakggnfnhaaGreatDoor
