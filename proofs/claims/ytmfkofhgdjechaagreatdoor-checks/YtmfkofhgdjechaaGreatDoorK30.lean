/- Part 31 of the proof. -/
import Derived.Test.YtmfkofhgdjechaaGreatDoorK27
set_option maxRecDepth 100000
set_option maxHeartbeats 8000000
namespace Go.Proofs.YtmfkofhgdjechaaGreatDoor
open Go.Proofs.Tryz
open Go.RowKit
section
variable {g b:Nat} {W w:Xw}
attribute [local go_sem ↓] Go.wp_at_zero Go.wp_at_succ
structure kj (w wr:Xw) (N g:Nat) (nv:Xv) (nds:List Nd) (o:Xo) (vv xv qv:Xv) (d:Nd) (ka:Int) (kb:Bool) (e:Ex) (iv:Xv):Prop where
 n:bq w wr N g w.heap.size nv nds o vv xv qv d
 k:wr.heap[w.heap.size+1]?=some (.cells #[xI ka,.bool kb] 309 (0,0))
 x:wr.heap[w.heap.size+1+1]?=some (.cells #[.string e.op,xI e.a,xI e.nm,iv,.string e.s,xI e.n] 190 (0,0))
 i:gm wr N iv e.ah
section
variable {w wr W:Xw} {N g:Nat} {a:Xv} {c:List Nd} {o p:Xo} {f i j:Xv} {d:Nd} {l:Int} {m:Bool} {e:Ex} {n:Xv}
theorem kj.on (h:kj w wr N g a c o f i j d l m e n)(k:xB wr W):kj w W N g a c o f i j d l m e n :=
 ⟨h.n.on k,(k.block _ (ze h.k)).trans h.k,(k.block _ (ze h.x)).trans h.x,h.i.aH (k.mono h.n.size)⟩
theorem kj.aX (h:kj w wr N g a c o f i j d l m e n)(q:Ak W N g a c p)(hF:Fr (λk=>k=g) wr W):kj w W N g a c p f i j d l m e n :=
 ⟨h.n.aX q hF,(hF.block _ (ze h.k) (by have:=h.n.al;omega)).trans h.k,(hF.block _ (ze h.x) (by have:=h.n.al;omega)).trans h.x,h.i.aH (hF.below h.n.size (λk e=>by have:=h.n.ak.lt;omega))⟩
end
theorem hi {B:Nat}(h:Below B w W)(e:B<=b)(u v:Xv):Below B w ((W.setCell (xD b 0) u).setCell (xD b 1) v):=by
 have hF:Fr (·=b) W ((W.setCell (xD b 0) u).setCell (xD b 1) v):=Fr.aY (Fr.aY (Fr.refl _ _) 0 u) 1 v;exact⟨hF.os.trans h.os,hF.tape.trans h.tape,hF.output.trans h.output,aJ h.size hF.size,λk c=>(by
  by_cases a:k<W.heap.size
  . exact (hF.block k a (by omega)).trans (h.block k c)
  have d:=h.block k c;simp[World.setCell,Array.getElem?_modify,show ¬b=k by omega,d])⟩
theorem qW {i:Nat}{v:Xv}(hF:Fr (λk=>k=g) w W)(d:w.cell? (xD b i)=some v)(c:b<w.heap.size)(e:¬b=g):W.cell? (xD b i)=some v:=(World.cell?_of_block (w:=w) (a:=(xD b i)) (hF.block b c e)).trans d
def oi (N g:Nat)(c:Xv)(a:List Nd)(h j f:Xv)(d:Nd)(x:Nat)(m:Int)(n:Bool)(l:Xn):Prop :=
 ∀(o:Xo) (w:Xw),Ak w N g c a o->kX w N h j f d->xK 251 #[xP g,.agg #[.string d.nm,xI d.a,h,j,f],xI x,.agg #[xI m,.bool n]] w (λe i=>e=.returned (.tuple #[])/\Ak i N g c a (l.foldl aj o)/\Fr (λk=>k=g) w i)
theorem FE {N:Nat}{hu:Xv}{em:List Nd}{vv xv qv:Xv}{d:Nd}(x:Nat)(e:Ex)(h7:d.az[x]?=some e)(F:Int)(R:Bool)(l:Xn)(gt:aa (hD d (oi N g hu em vv xv qv d) e F R l)):oi N g hu em vv xv qv d x F R l:=by
 intro o w hm bx;have i2:=za hm;have bs:=za bx;obtain⟨lo,lt,a0,g9⟩:=zp hm.aC;have i5:=hm.lt;obtain⟨op,bp,rfl,iR,g8⟩:=bx.xs;obtain⟨cs,cv,rfl,g7,_⟩:=bx.vs;obtain⟨be,bk,rfl,m9,_⟩:=bx.qs;obtain⟨al,n3,rfl,m4,⟨lv,l2,l3,i3,l5,l6⟩,io⟩:=g8 x e h7;obtain⟨ge,c1,rfl,g4,s⟩:=io;have i0:=(aB.1 h7).1;obtain⟨X,i6⟩:∃X,d.az.length=X:=⟨_,rfl⟩;obtain⟨V,h6⟩:∃V,d.ab.length=V:=⟨_,rfl⟩;obtain⟨E,i4⟩:∃E,d.eqs.length=E:=⟨_,rfl⟩;obtain⟨J,bt⟩:∃J,e.ah.length=J:=⟨_,rfl⟩;have n1:=za h6;have c5:=za bt;have ex:=za (show gm w N (.slice ge e.ah.length c1) e.ah from ⟨ge,c1,rfl,g4,s⟩);rw[bt] at i3 ex g4;rw[i6] at i0 iR bs gt ⊢;rw[h6] at bs gt g7 ⊢;rw[i4] at bs gt ⊢;have g3:al<w.heap.size:=by omega
 clear hm bx g8 h7 s i6 h6 i4 bt lo lt a0;go_enter func251,ntmps251;go_upto_block 0 with fail;obtain⟨bl,a2⟩:∃bl,((w.alloc (.cells #[.string d.nm,xI d.a,.slice cs V cv,xS al X bp,.slice be E bk] 103)).alloc (.cells #[xI F,.bool R] 309)).alloc (.cells #[.string e.op,xI e.a,xI e.nm,.slice ge J c1,.string e.s,xI e.n] 190)=bl:=⟨_,rfl⟩;have C:aa (kj w bl N g hu em o (.slice cs V cv) (xS al X bp) (.slice be E bk) d F R e (.slice ge J c1)):=by
  have ar:xB w bl:=a2▸zE (cT _ _ _);refine⟨⟨i2.o.on ar,Fr.dp ar,?_,bs.o.aH (ar.mono (by omega)),an _,g9⟩,?_,?_,ex.o.aH (ar.mono (by omega))⟩
  . rw[<- a2];exact (Below.heap_alloc _ _ _ (by rw[au,au];omega)).trans ((Below.heap_alloc _ _ _ (by rw[au];omega)).trans (zc w _))
  . rw[<- a2];exact (Below.heap_alloc _ _ _ (by simp)).trans (by have:=zc (w.alloc (nf d (.slice cs V cv) (xS al X bp) (.slice be E bk))) (.cells #[xI F,.bool R] 309);rw[au] at this;exact this)
  rw[<- a2];have:=zc ((w.alloc (nf d (.slice cs V cv) (xS al X bp) (.slice be E bk))).alloc (.cells #[xI F,.bool R] 309)) (.cells #[.string e.op,xI e.a,xI e.nm,.slice ge J c1,.string e.s,xI e.n] 190);rw[au,au] at this;exact this
 rw[a2];clear a2 i2 bs ex lv l2 l3 i3 l5 l6 g3;obtain⟨bE,s1,s2,bL,ck,cm,cn⟩:=bz C.o.n.bx;obtain⟨ds,eb,er,c2⟩:=zp C.o.k;obtain⟨b0,b1,b2,b3,b4,a4,a5,ak⟩:=zt C.o.x;have i7:g<bl.heap.size:=ze C.o.n.ak.aC;have Z:=za (λW (ar:xB bl W)=>((C.o.n.on ar).find e.s).mono (λM a h=>(⟨h.1,ar.trans (h.2.mono ar.size),h.2⟩:M=_/\xB bl a/\xB W a)));have c4:=za (λf v (hv:d.ab[f]?=some v) W (ar:xB bl W)=>ng (xv:=(xS al X bp)) (qv:=.slice be E bk) d.nm d.a f v hv W ((C.o.n.on ar).nd.vs) (C.o.n.on ar).size ⟨_,_,_,rfl⟩ ⟨_,_,_,rfl⟩ |>.mono (λM a h=>(⟨h.1,ar.trans (h.2.mono ar.size),h.2⟩:M=_/\xB bl a/\xB W a)));unfold k0 at c4;have g0:=gt.o;obtain⟨l',ip⟩:∃l',l'=l:=⟨_,rfl⟩;rw[<- ip] at g0;have t:=za ip;clear gt ip;cases g0 with
 | lit q =>
   rcases q with h|h
   all_goals
    go_wp2_with fail;refine bodyPost_ret (results_none rfl _ _ _) rfl ?_;exact⟨rfl,by rw[<- t.o];exact C.o.n.ak,C.o.n.fr⟩
 | var q f v a0 hv =>
   have L:=za (c4.o f v hv);obtain⟨⟨ca,eq⟩,Q⟩:∃c,eN d.ab v=c:=⟨_,rfl⟩;rw[Q] at L t;rw[a0] at Z;unfold bC at Z;clear Q a0 hv c4;go_upto_region 6 with fail
   go_region_held3 (λa=>a.cell? (xD w.heap.size 0)=some (.string d.nm)/\a.cell? (xD w.heap.size 1)=some (xI d.a)/\a.cell? (xD w.heap.size 2)=some (.slice cs V cv)/\a.cell? (xD w.heap.size 3)=some (xS al X bp)/\a.cell? (xD w.heap.size 4)=some (.slice be E bk)/\a.cell? (xD (w.heap.size+1+1) 4)=some (.string e.s))
    (first|(with_reducible (refine⟨?_,?_,?_,?_,?_,?_⟩ <;> repeat (first|assumption|refine zg ?_|refine zj _ ?_|refine zk (by omega) ?_|refine zd D.o ?_ (by first|omega|(rw[au];omega))|refine zd k.o ?_ (by first|omega|(rw[au];omega)))))|go_keep)
    (first
      | (go_at_call 168;revert D;intro D;refine (L.o _ (by first|exact D.o|exact D.o.alloc D.o.size _)).mono ?_;rintro M hN ⟨rfl,H,I⟩;have k:=za H;have i1:=H.size;(try (have a3:=(I.block _ (ze gs.o)).trans gs.o;obtain⟨no,kw,ns,nx⟩:=zp a3;clear a3));(try (have a3:=(I.block _ (by simp)).trans (zc _ _);obtain⟨no,kw,ns,nx⟩:=zp a3;clear a3));clear H I)
      | (go_at_call 169;refine (Z.o _ (by first|exact zo (Below.refl _ _)|exact zo ((Below.refl _ _).alloc (an _) _)|exact (zo (Below.refl _ _)).alloc (an _) _)).mono ?_;rintro M hg ⟨rfl,m,g1⟩;have D:=za m;have he:=m.size;(try (have c3:=(g1.block _ (by simp)).trans (zc _ _);have gs:=za c3;clear c3));clear m g1))
   all_goals
    have nb:=zd k.o ds c2;have nd:=zd k.o eb c2;have ln:=zd k.o b1 ak;have mk:¬w.heap.size+1=bl.heap.size:=(by omega);have mp:¬w.heap.size+1+1=bl.heap.size:=(by omega);have m0:¬w.heap.size+1=hg.heap.size:=(by omega);have m1:¬w.heap.size+1+1=hg.heap.size:=(by omega);have m2:w.heap.size+1<hN.heap.size:=(by omega);have m3:w.heap.size+1+1<hN.heap.size:=(by omega);by_cases gc:(ca,eq)=(F,R)
    . rw[ag gc] at t;obtain⟨rfl,rfl⟩:=Prod.mk.inj gc;clear gc;go_wp2_with fail;refine bodyPost_ret (results_none rfl _ _ _) rfl ?_;exact⟨rfl,by rw[<- t.o];exact (C.o.on (by first|exact k.o.alloc k.o.size _|exact hi k.o (by omega) _ _)).n.ak,(C.o.on (by first|exact k.o.alloc k.o.size _|exact hi k.o (by omega) _ _)).n.fr⟩
    rw[ae gc] at t;have h5:¬ca=F∨(ca=F/\¬eq=R):=by
     by_cases K:ca=F
     . exact ap ⟨K,λh2=>gc (by rw[K,h2])⟩
     exact ao K
    clear gc;rcases h5 with K|⟨K,h2⟩
    all_goals
     go_wp2_with (go_at_call 246;refine (du e.a _ (C.o.on (by first|exact k.o.alloc k.o.size _|exact hi k.o (by omega) _ _)).n.ak).mono ?_;rintro M kd ⟨rfl,O,P⟩;have es:=za O;have ev:=za P;clear O P);refine bodyPost_ret (results_none rfl _ _ _) rfl ?_;exact⟨rfl,by rw[<- t.o];exact es.o,(C.o.on (by first|exact k.o.alloc k.o.size _|exact hi k.o (by omega) _ _)).n.fr.trans ev.o⟩
 | off nt q f a0 g5 =>
   rw[a0] at Z;unfold bC at Z;have g6:F=(f:Int)->¬R=nt:=λK h2=>g5 (by rw[K,h2]);clear a0 c4 g5;rcases q with ⟨rfl,h⟩|⟨rfl,h⟩ <;> cases R
   all_goals
    try have n2:¬F=(f:Int):=λh'=>g6 h' rfl
    clear g6;go_upto_region 12 with (go_at_call 169;refine (Z.o _ (Below.refl _ _)).mono ?_;rintro M hg ⟨rfl,m,_⟩;have u:=za (C.o.on m);clear m);clear ds eb er c2 b0 b1 b2 b3 b4 a4 a5 ak bE s1 s2 bL ck cm cn;obtain⟨ds,eb,er,c2⟩:=zp u.o.k;obtain⟨b0,b1,b2,b3,b4,a4,a5,ak⟩:=zt u.o.x;go_wp2_with (go_at_call 246;refine (du e.a _ u.o.n.ak).mono ?_;rintro M kd ⟨rfl,O,P⟩;have es:=za O;have ev:=za P;clear O P);all_goals refine bodyPost_ret (results_none rfl _ _ _) rfl ?_
    all_goals exact⟨rfl,by rw[<- t.o];exact es.o,u.o.n.fr.trans ev.o⟩
 | co nt q f v a0 hv g2 y c0 l1 fq =>
   rw[a0] at Z;unfold bC at Z;obtain⟨rfl,rfl⟩:=Prod.mk.inj g2;have L:=za (c4.o f v hv);obtain⟨⟨ca,eq⟩,Q⟩:∃c,eN d.ab v=c:=⟨_,rfl⟩;rw[Q] at L fq;have h0:=za fq;obtain⟨fv,fx,U,_,s⟩:=C.o.i;injection U with c3 a3 fV
   subst c3 fV;obtain⟨a9,rfl,dn,hw⟩:=s 0 y c0;have Y:a9<bl.heap.size:=(by have:=C.o.n.size;omega);have h9:0<J:=(by have:=(aB.1 c0).1;have:=c5.o;omega);clear a0 c4 g2 s c0 hv Q fq a3;rcases q with ⟨rfl,h⟩|⟨rfl,h⟩
   all_goals
    go_upto_region 12 with (go_at_call 169;refine (Z.o _ (Below.refl _ _)).mono ?_;rintro M hg ⟨rfl,m,_⟩;have D:=za m;have u:=za (C.o.on m);have of:=zd m hw Y;have he:=m.size;clear m);clear ds eb er c2 b0 b1 b2 b3 b4 a4 a5 ak bE s1 s2 bL ck cm cn;obtain⟨ds,eb,er,c2⟩:=zp u.o.k;obtain⟨b0,b1,b2,b3,b4,a4,a5,ak⟩:=zt u.o.x;obtain⟨bE,s1,s2,bL,ck,cm,cn⟩:=bz u.o.n.bx;go_upto_region 14 with fail
    go_region_held3 (λa=>a.cell? (xD w.heap.size 0)=some (.string d.nm)/\a.cell? (xD w.heap.size 1)=some (xI d.a)/\a.cell? (xD w.heap.size 2)=some (.slice cs V cv)/\a.cell? (xD w.heap.size 3)=some (xS al X bp)/\a.cell? (xD w.heap.size 4)=some (.slice be E bk)/\a.cell? (xD (w.heap.size+1+1) 3)=some (xS a9 J c1)/\a.cell? (xD a9 0)=some (xI y))
     (first|(with_reducible (refine⟨?_,?_,?_,?_,?_,?_,?_⟩ <;> repeat (first|assumption|refine zg ?_|refine zj _ ?_|refine zk (by omega) ?_|refine qW S.o ?_ (by omega) (by omega)|refine zd k.o ?_ (by first|omega|(rw[au];omega)))))|go_keep)
     (first
       | (go_at_call 251;revert n;intro n;refine (h0.o o _ n.o.n.ak n.o.n.nd).mono ?_;rintro M i9 ⟨rfl,B,p⟩;have hQ:=za B;have S:=za p;have hR:=za (n.o.n.fr.trans p);clear B p)
       | (go_at_call 168;refine (L.o _ (zo D.o)).mono ?_;rintro M hN ⟨rfl,H,I⟩;have k:=za (zw I);have i1:=k.o.size;have n:=za (C.o.on H);clear H I))
    go_wp2_with fail;refine bodyPost_ret (results_none rfl _ _ _) rfl ?_;exact⟨rfl,by rw[<- t.o];exact hQ.o,hR.o⟩
 | k4 q f v a0 hv y z c0 g9 l1 ne K h2 =>
   rw[a0] at Z;unfold bC at Z;have L:=za (c4.o f v hv);obtain⟨⟨ca,eq⟩,Q⟩:∃c,eN d.ab v=c:=⟨_,rfl⟩;rw[Q] at L t;have h1:=za K;have h3:=za h2;have m5:1<J:=(by have:=(aB.1 g9).1;have:=c5.o;omega);have h9:0<J:=(by omega);have m6:(1:Int)<(J:Int):=(by omega);obtain⟨gl,fd⟩:∃gl,(if (ca,eq)=(F,R) then [] else [e.nm]).foldl aj o=gl:=⟨_,rfl⟩;have c9:=za fd;have hT:aa (l.foldl aj o=ne.foldl aj (l1.foldl aj gl)):=(by unfold aa;rw[<- t.o,bc,bc,fd]);have le:=za c0;have lk:=za g9;clear a0 c4 hv Q K h2 c0 g9 fd t;go_upto_region 17 with (go_at_call 169;refine (Z.o _ (Below.refl _ _)).mono ?_;rintro M hg ⟨rfl,m,_⟩;have D:=za m;have u:=za (C.o.on m);have he:=m.size;clear m);clear ds eb er c2 b0 b1 b2 b3 b4 a4 a5 ak bE s1 s2 bL ck cm cn;obtain⟨ds,eb,er,c2⟩:=zp u.o.k;obtain⟨bE,s1,s2,bL,ck,cm,cn⟩:=bz u.o.n.bx;have h5:(ca=F/\eq=R/\gl=o)∨((ca=F/\¬eq=R)/\gl=aj o e.nm)∨(¬ca=F/\gl=aj o e.nm):=by
    by_cases K:ca=F
    . by_cases h2:eq=R
      . exact ao ⟨K,h2,by rw[<- c9.o,ag (by rw[K,h2])];rfl⟩
      exact ap (ao ⟨⟨K,h2⟩,by rw[<- c9.o,ae (λe=>h2 (Prod.mk.inj e).2)];rfl⟩)
    exact ap (ap ⟨K,by rw[<- c9.o,ae (λe=>K (Prod.mk.inj e).1)];rfl⟩)
   clear c9;rcases h5 with ⟨K,h2,rfl⟩|⟨⟨K,m8⟩,rfl⟩|⟨m8,rfl⟩
   all_goals
    go_region_held3 (λa=>a.cell? (xD w.heap.size 0)=some (.string d.nm)/\a.cell? (xD w.heap.size 1)=some (xI d.a)/\a.cell? (xD w.heap.size 2)=some (.slice cs V cv)/\a.cell? (xD w.heap.size 3)=some (xS al X bp)/\a.cell? (xD w.heap.size 4)=some (.slice be E bk)/\a.cell? (xD (w.heap.size+1) 0)=some (xI F)/\a.cell? (xD (w.heap.size+1) 1)=some (.bool R))
     (first|(with_reducible (refine⟨?_,?_,?_,?_,?_,?_,?_⟩ <;> repeat (first|assumption|refine zg ?_|refine zj _ ?_|refine zk (by omega) ?_|refine zd k.o ?_ (by first|omega|(rw[au];omega)))))|go_keep)
     (first
       | (go_at_call 168;refine (L.o _ (zo D.o)).mono ?_;rintro M hN ⟨rfl,H,I⟩;have k:=za (zw I);have n:=za (C.o.on H);clear H I))
    obtain⟨b0,b1,b2,b3,b4,a4,a5,ak⟩:=zt n.o.x;go_upto_region 19 with (go_at_call 246;refine (du e.nm _ n.o.n.ak).mono ?_;rintro M kd ⟨rfl,O,P⟩;have n:=za (n.o.aX O P);clear O P);obtain⟨fv,fx,U,_,s⟩:=n.o.i;injection U with c3 a3 fV
    subst c3 fV;obtain⟨a9,rfl,dn,hw⟩:=s 0 y le.o;clear s a3 b0 b1 b2 b3 b4 a4 a5 ak bE s1 s2 bL ck cm cn;obtain⟨b0,b1,b2,b3,b4,a4,a5,ak⟩:=zt n.o.x;obtain⟨bE,s1,s2,bL,ck,cm,cn⟩:=bz n.o.n.bx;have Y:=dD dn n.o.n.size;have A:=za (n.o.on (zo (Below.refl _ _)));go_upto_region 19 with fail
    go_region_held3 (λa=>a.cell? (xD w.heap.size 0)=some (.string d.nm)/\a.cell? (xD w.heap.size 1)=some (xI d.a)/\a.cell? (xD w.heap.size 2)=some (.slice cs V cv)/\a.cell? (xD w.heap.size 3)=some (xS al X bp)/\a.cell? (xD w.heap.size 4)=some (.slice be E bk)/\a.cell? (xD (w.heap.size+1+1) 3)=some (xS a9 J c1)/\a.cell? (xD a9 0)=some (xI y))
     (first|(with_reducible (refine⟨?_,?_,?_,?_,?_,?_,?_⟩ <;> repeat (first|assumption|refine zg ?_|refine zj _ ?_|refine zk (by omega) ?_|refine qW S.o ?_ (by omega) (by omega))))|go_keep)
     (first
       | (go_at_call 251;refine (h1.o _ _ A.o.n.ak A.o.n.nd).mono ?_;rintro M i9 ⟨rfl,B,p⟩;have S:=za (Fr.cQ p);have T:=za (A.o.aX B p);clear B p))
    obtain⟨fv,fx,U,_,s⟩:=T.o.i;injection U with c3 a3 fV
    subst c3 fV;obtain⟨md,h8,i8,hw⟩:=s 1 z lk.o;clear s a3 b0 b1 b2 b3 b4 a4 a5 ak bE s1 s2 bL ck cm cn;obtain⟨b0,b1,b2,b3,b4,a4,a5,ak⟩:=zt T.o.x;obtain⟨bE,s1,s2,bL,ck,cm,cn⟩:=bz T.o.n.bx;cases h8;have Y:=dD dn T.o.n.size;have A:=za (T.o.on (zo (Below.refl _ _)));go_upto_region 20 with fail
    go_region_held3 (λa=>a.cell? (xD w.heap.size 0)=some (.string d.nm)/\a.cell? (xD w.heap.size 1)=some (xI d.a)/\a.cell? (xD w.heap.size 2)=some (.slice cs V cv)/\a.cell? (xD w.heap.size 3)=some (xS al X bp)/\a.cell? (xD w.heap.size 4)=some (.slice be E bk)/\a.cell? (xD (w.heap.size+1+1) 3)=some (xS a9 J c1)/\a.cell? (xD a9 1)=some (xI z))
     (first|(with_reducible (refine⟨?_,?_,?_,?_,?_,?_,?_⟩ <;> repeat (first|assumption|refine zg ?_|refine zj _ ?_|refine zk (by omega) ?_|refine qW S.o ?_ (by omega) (by omega))))|go_keep)
     (first
       | (go_at_call 251;refine (h3.o _ _ A.o.n.ak A.o.n.nd).mono ?_;rintro M ok ⟨rfl,B,p⟩;have S:=za (Fr.cQ p);have go:=za (A.o.aX B p);clear B p))
    go_wp2_with fail;refine bodyPost_ret (results_none rfl _ _ _) rfl ?_;exact⟨rfl,by rw[hT.o];exact go.o.n.ak,go.o.n.fr⟩
 | hK q ls fq =>
   have kw:=q _ (ce ..);have or:=q _ (cS _ (ce ..));have os:=q _ (cS _ (cS _ (ce ..)));have o7:=q [119,104,101,110] (by decide);have o8:=q [119,104,101,110,111,116] (by decide);have pb:=q [109,101,114,103,101] (by decide);have h0:=za fq;clear q fq Z c4;go_wp2_with fail;go_loopg [12] (J+1) (λj i nm=>∃r:Nat,r+j=J+1/\r<=J/\i=xI r/\aa (kj w nm N g hu em (((List.range r).flatMap ls).foldl aj o) (.slice cs V cv) (xS al X bp) (.slice be E bk) d F R e (.slice ge J c1)));case atStart=>exact⟨0,by omega,aE _,rfl,C⟩
   case round =>
    obtain⟨r,na,fq,rfl,G⟩:=hrel;clear C bE s1 s2 bL ck cm cn ds eb er c2 b0 b1 b2 b3 b4 a4 a5 ak;obtain⟨ds,eb,er,c2⟩:=zp G.o.k;obtain⟨b0,b1,b2,b3,b4,a4,a5,ak⟩:=zt G.o.x;obtain⟨bE,s1,s2,bL,ck,cm,cn⟩:=bz G.o.n.bx;by_cases m7:r<J
    . obtain⟨y,c0⟩:∃y,e.ah[r]?=some y:=⟨_,av (by have:=c5.o;omega)⟩;obtain⟨fv,fx,U,_,s⟩:=G.o.i;injection U with c3 a3 fV
      subst c3 fV;obtain⟨a9,rfl,dn,hw⟩:=s r y c0;have Y:a9<wr.heap.size:=(by have:=G.o.n.size;omega);have h4:=za (h0.o r y c0);obtain⟨t0,fr⟩:∃t0,((List.range r).flatMap ls).foldl aj o=t0:=⟨_,rfl⟩;have lb:aa (((List.range (r+1)).flatMap ls).foldl aj o=(ls r).foldl aj t0):=(by unfold aa;rw[List.range_succ,List.flatMap_append,bc,fr];simp);rw[fr] at G;have A:=za (G.o.on (zo (Below.refl _ _)));clear s c0 fr a3;go_upto_region 24 with fail
      go_region_held3 (λa=>a.cell? (xD w.heap.size 0)=some (.string d.nm)/\a.cell? (xD w.heap.size 1)=some (xI d.a)/\a.cell? (xD w.heap.size 2)=some (.slice cs V cv)/\a.cell? (xD w.heap.size 3)=some (xS al X bp)/\a.cell? (xD w.heap.size 4)=some (.slice be E bk)/\a.cell? (xD (w.heap.size+1) 0)=some (xI F)/\a.cell? (xD (w.heap.size+1) 1)=some (.bool R)/\a.cell? (xD (w.heap.size+1+1) 3)=some (xS a9 J c1)/\a.cell? (xD a9 r)=some (xI y))
       (first|(with_reducible (refine⟨?_,?_,?_,?_,?_,?_,?_,?_,?_⟩ <;> repeat (first|assumption|refine zg ?_|refine zj _ ?_|refine zk (by omega) ?_|refine qW S.o ?_ (by omega) (by omega))))|go_keep)
       (first
         | (go_at_call 251;refine (h4.o t0 _ A.o.n.ak A.o.n.nd).mono ?_;rintro M i9 ⟨rfl,B,p⟩;have S:=za (Fr.cQ p);have T:=za (A.o.aX B p);clear B p))
      go_wp2_with fail;go_roundg (gk-1);(try (case measure=>omega))
      exact⟨r+1,by omega,by omega,by go_num,by rw[lb.o];exact T⟩
    have it:r=J:=(by omega);subst it;go_wp2_with fail;go_end0;exact⟨rfl,by rw[<- t.o,c5.o];exact G.o.n.ak,G.o.n.fr⟩
end
end Go.Proofs.YtmfkofhgdjechaaGreatDoor
