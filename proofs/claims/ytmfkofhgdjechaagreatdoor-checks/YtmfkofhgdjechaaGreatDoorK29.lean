/- Part 30 of the proof. -/
import Derived.Laws.OwnMore
import Derived.Test.YtmfkofhgdjechaaGreatDoorK26
set_option maxRecDepth 100000
set_option maxHeartbeats 8000000
namespace Go.Proofs.YtmfkofhgdjechaaGreatDoor
open Go.Proofs.Tryz
open Go.RowKit
section
variable {g b:Nat} {W w:Xw}
attribute [local go_sem ↓] Go.wp_at_zero Go.wp_at_succ
structure kj (w wr:Xw) (N g:Nat) (nv:Xv) (nds:List Nd) (o:Xo) (vv xv qv:Xv) (d:Nd) (ka:Int) (kb:Bool) (e:Ex) (iv:Xv):Prop where
 n:bq w wr N g w.heap.size nv nds o vv xv qv d
 k:wr.heap[w.heap.size+1]?=some (.cells #[xI ka,.bool kb] 309 (0,0))
 x:wr.heap[w.heap.size+1+1]?=some (.cells #[.string e.op,xI e.a,xI e.nm,iv,.string e.s,xI e.n] 190 (0,0))
 i:gm wr N iv e.ah
section
variable {w wr W:Xw} {N g:Nat} {a:Xv} {c:List Nd} {o p:Xo} {f i j:Xv} {d:Nd} {l:Int} {m:Bool} {e:Ex} {n:Xv}
theorem kj.on (h:kj w wr N g a c o f i j d l m e n)(k:xB wr W):kj w W N g a c o f i j d l m e n :=
 ⟨h.n.on k,(k.block _ (ze h.k)).trans h.k,(k.block _ (ze h.x)).trans h.x,h.i.aH (k.mono h.n.size)⟩
theorem kj.aX (h:kj w wr N g a c o f i j d l m e n)(q:Ak W N g a c p)(hF:Fr (λk=>k=g) wr W):kj w W N g a c p f i j d l m e n :=
 ⟨h.n.aX q hF,(hF.block _ (ze h.k) (by have:=h.n.al;omega)).trans h.k,(hF.block _ (ze h.x) (by have:=h.n.al;omega)).trans h.x,h.i.aH (hF.below h.n.size (λk e=>by have:=h.n.ak.lt;omega))⟩
end
theorem hi {B:Nat}(h:Below B w W)(e:B<=b)(u v:Xv):Below B w ((W.setCell (xD b 0) u).setCell (xD b 1) v):=by
 have hF:Fr (·=b) W ((W.setCell (xD b 0) u).setCell (xD b 1) v):=Fr.aY (Fr.aY (Fr.refl _ _) 0 u) 1 v;exact⟨hF.os.trans h.os,hF.tape.trans h.tape,hF.output.trans h.output,aJ h.size hF.size,λk c=>(by
  by_cases a:k<W.heap.size
  . exact (hF.block k a (by omega)).trans (h.block k c)
  have d:=h.block k c;simp[World.setCell,Array.getElem?_modify,show ¬b=k by omega,d])⟩
theorem qW {i:Nat}{v:Xv}(hF:Fr (λk=>k=g) w W)(d:w.cell? (xD b i)=some v)(c:b<w.heap.size)(e:¬b=g):W.cell? (xD b i)=some v:=(World.cell?_of_block (w:=w) (a:=(xD b i)) (hF.block b c e)).trans d
def oi (N g:Nat)(c:Xv)(a:List Nd)(h j f:Xv)(d:Nd)(x:Nat)(m:Int)(n:Bool)(l:Xn):Prop :=
 ∀(o:Xo) (w:Xw),Ak w N g c a o->kX w N h j f d->xK 251 #[xP g,.agg #[.string d.nm,xI d.a,h,j,f],xI x,.agg #[xI m,.bool n]] w (λe i=>e=.returned (.tuple #[])/\Ak i N g c a (l.foldl aj o)/\Fr (λk=>k=g) w i)
theorem FE {N:Nat}{hu:Xv}{em:List Nd}{vv xv qv:Xv}{d:Nd}(x:Nat)(e:Ex)(h7:d.az[x]?=some e)(F:Int)(R:Bool)(l:Xn)(gt:aa (hD d (oi N g hu em vv xv qv d) e F R l)):oi N g hu em vv xv qv d x F R l:=by
 intro o w hm bx;have i1:=za hm;have bs:=za bx;obtain⟨ln,lo,a0,g9⟩:=zp hm.aC;have i4:=hm.lt;obtain⟨ok,bp,rfl,it,g8⟩:=bx.xs;obtain⟨cs,cv,rfl,g7,_⟩:=bx.vs;obtain⟨be,bk,rfl,m8,_⟩:=bx.qs;obtain⟨al,n2,rfl,m3,⟨lt,lv,l2,i2,l3,l5⟩,h9⟩:=g8 x e h7;obtain⟨ge,c1,rfl,g4,s⟩:=h9;have iR:=(aB.1 h7).1;obtain⟨X,i5⟩:∃X,d.az.length=X:=⟨_,rfl⟩;obtain⟨V,h6⟩:∃V,d.ab.length=V:=⟨_,rfl⟩;obtain⟨E,i3⟩:∃E,d.eqs.length=E:=⟨_,rfl⟩;obtain⟨Q,bt⟩:∃Q,e.ah.length=Q:=⟨_,rfl⟩;have nx:=za h6;have c5:=za bt;have ex:=za (show gm w N (.slice ge e.ah.length c1) e.ah from ⟨ge,c1,rfl,g4,s⟩);rw[bt] at i2 ex g4;rw[i5] at iR it bs gt ⊢;rw[h6] at bs gt g7 ⊢;rw[i3] at bs gt ⊢;have g3:al<w.heap.size:=by omega
 clear hm bx g8 h7 s i5 h6 i3 bt ln lo a0;go_enter func251,ntmps251;go_upto_block 0 with fail;obtain⟨bl,a2⟩:∃bl,((w.alloc (.cells #[.string d.nm,xI d.a,.slice cs V cv,xS al X bp,.slice be E bk] 103)).alloc (.cells #[xI F,.bool R] 309)).alloc (.cells #[.string e.op,xI e.a,xI e.nm,.slice ge Q c1,.string e.s,xI e.n] 190)=bl:=⟨_,rfl⟩;have C:aa (kj w bl N g hu em o (.slice cs V cv) (xS al X bp) (.slice be E bk) d F R e (.slice ge Q c1)):=by
  have ar:xB w bl:=a2▸zE (cT _ _ _);refine⟨⟨i1.o.on ar,Fr.dp ar,?_,bs.o.aH (ar.mono (by omega)),an _,g9⟩,?_,?_,ex.o.aH (ar.mono (by omega))⟩
  . rw[<- a2];exact (Below.heap_alloc _ _ _ (by rw[au,au];omega)).trans ((Below.heap_alloc _ _ _ (by rw[au];omega)).trans (zc w _))
  . rw[<- a2];exact (Below.heap_alloc _ _ _ (by simp)).trans (by have:=zc (w.alloc (nf d (.slice cs V cv) (xS al X bp) (.slice be E bk))) (.cells #[xI F,.bool R] 309);rw[au] at this;exact this)
  rw[<- a2];have:=zc ((w.alloc (nf d (.slice cs V cv) (xS al X bp) (.slice be E bk))).alloc (.cells #[xI F,.bool R] 309)) (.cells #[.string e.op,xI e.a,xI e.nm,.slice ge Q c1,.string e.s,xI e.n] 190);rw[au,au] at this;exact this
 rw[a2];clear a2 i1 bs ex lt lv l2 i2 l3 l5 g3;obtain⟨bE,s1,s2,bL,ck,cm,cn⟩:=bz C.o.n.bx;obtain⟨ds,eb,er,c2⟩:=zp C.o.k;obtain⟨b0,b1,b2,b3,b4,a4,a5,ak⟩:=zt C.o.x;have i6:g<bl.heap.size:=ze C.o.n.ak.aC;have Z:=za (λW (ar:xB bl W)=>((C.o.n.on ar).find e.s).mono (λL a h=>(⟨h.1,ar.trans (h.2.mono ar.size),h.2⟩:L=_/\xB bl a/\xB W a)));have c4:=za (λf v (hv:d.ab[f]?=some v) W (ar:xB bl W)=>ng (xv:=(xS al X bp)) (qv:=.slice be E bk) d.nm d.a f v hv W ((C.o.n.on ar).nd.vs) (C.o.n.on ar).size ⟨_,_,_,rfl⟩ ⟨_,_,_,rfl⟩ |>.mono (λL a h=>(⟨h.1,ar.trans (h.2.mono ar.size),h.2⟩:L=_/\xB bl a/\xB W a)));unfold k0 at c4;have g0:=gt.o;obtain⟨l',io⟩:∃l',l'=l:=⟨_,rfl⟩;rw[<- io] at g0;have t:=za io;clear gt io;cases g0 with
 | lit q =>
   rcases q with h|h
   all_goals
    go_wp2_with fail;refine bodyPost_ret (results_none rfl _ _ _) rfl ?_;exact⟨rfl,by rw[<- t.o];exact C.o.n.ak,C.o.n.fr⟩
 | var q f v a0 hv =>
   have K:=za (c4.o f v hv);obtain⟨⟨ca,eq⟩,P⟩:∃c,eN d.ab v=c:=⟨_,rfl⟩;rw[P] at K t;rw[a0] at Z;unfold bC at Z;clear P a0 hv c4;go_upto_region 6 with fail
   go_region_held3 (λa=>a.cell? (xD w.heap.size 0)=some (.string d.nm)/\a.cell? (xD w.heap.size 1)=some (xI d.a)/\a.cell? (xD w.heap.size 2)=some (.slice cs V cv)/\a.cell? (xD w.heap.size 3)=some (xS al X bp)/\a.cell? (xD w.heap.size 4)=some (.slice be E bk)/\a.cell? (xD (w.heap.size+1+1) 4)=some (.string e.s))
    (first|(with_reducible (refine⟨?_,?_,?_,?_,?_,?_⟩ <;> repeat (first|assumption|refine zg ?_|refine zj _ ?_|refine zk (by omega) ?_|refine zd D.o ?_ (by first|omega|(rw[au];omega))|refine zd k.o ?_ (by first|omega|(rw[au];omega)))))|go_keep)
    (first
      | (go_at_call 168;revert D;intro D;refine (K.o _ (by first|exact D.o|exact D.o.alloc D.o.size _)).mono ?_;rintro L hN ⟨rfl,H,I⟩;have k:=za H;have i0:=H.size;(try (have a3:=(I.block _ (ze gs.o)).trans gs.o;obtain⟨nm,kd,no,ns⟩:=zp a3;clear a3));(try (have a3:=(I.block _ (by simp)).trans (zc _ _);obtain⟨nm,kd,no,ns⟩:=zp a3;clear a3));clear H I)
      | (go_at_call 169;refine (Z.o _ (by first|exact zo (Below.refl _ _)|exact zo ((Below.refl _ _).alloc (an _) _)|exact (zo (Below.refl _ _)).alloc (an _) _)).mono ?_;rintro L hg ⟨rfl,m,g1⟩;have D:=za m;have he:=m.size;(try (have c3:=(g1.block _ (by simp)).trans (zc _ _);have gs:=za c3;clear c3));clear m g1))
   all_goals
    have na:=zd k.o ds c2;have nb:=zd k.o eb c2;have lk:=zd k.o b1 ak;have md:¬w.heap.size+1=bl.heap.size:=(by omega);have mk:¬w.heap.size+1+1=bl.heap.size:=(by omega);have mp:¬w.heap.size+1=hg.heap.size:=(by omega);have m0:¬w.heap.size+1+1=hg.heap.size:=(by omega);have m1:w.heap.size+1<hN.heap.size:=(by omega);have m2:w.heap.size+1+1<hN.heap.size:=(by omega);by_cases gc:(ca,eq)=(F,R)
    . rw[ag gc] at t;obtain⟨rfl,rfl⟩:=Prod.mk.inj gc;clear gc;go_wp2_with fail;refine bodyPost_ret (results_none rfl _ _ _) rfl ?_;exact⟨rfl,by rw[<- t.o];exact (C.o.on (by first|exact k.o.alloc k.o.size _|exact hi k.o (by omega) _ _)).n.ak,(C.o.on (by first|exact k.o.alloc k.o.size _|exact hi k.o (by omega) _ _)).n.fr⟩
    rw[ae gc] at t;have h5:¬ca=F∨(ca=F/\¬eq=R):=by
     by_cases J:ca=F
     . exact ap ⟨J,λh2=>gc (by rw[J,h2])⟩
     exact ao J
    clear gc;rcases h5 with J|⟨J,h2⟩
    all_goals
     go_wp2_with (go_at_call 246;refine (du e.a _ (C.o.on (by first|exact k.o.alloc k.o.size _|exact hi k.o (by omega) _ _)).n.ak).mono ?_;rintro L i9 ⟨rfl,M,O⟩;have es:=za M;have ev:=za O;clear M O);refine bodyPost_ret (results_none rfl _ _ _) rfl ?_;exact⟨rfl,by rw[<- t.o];exact es.o,(C.o.on (by first|exact k.o.alloc k.o.size _|exact hi k.o (by omega) _ _)).n.fr.trans ev.o⟩
 | off nt q f a0 g5 =>
   rw[a0] at Z;unfold bC at Z;have g6:F=(f:Int)->¬R=nt:=λJ h2=>g5 (by rw[J,h2]);clear a0 c4 g5;rcases q with ⟨rfl,h⟩|⟨rfl,h⟩ <;> cases R
   all_goals
    try have n1:¬F=(f:Int):=λh'=>g6 h' rfl
    clear g6;go_upto_region 12 with (go_at_call 169;refine (Z.o _ (Below.refl _ _)).mono ?_;rintro L hg ⟨rfl,m,_⟩;have u:=za (C.o.on m);clear m);clear ds eb er c2 b0 b1 b2 b3 b4 a4 a5 ak bE s1 s2 bL ck cm cn;obtain⟨ds,eb,er,c2⟩:=zp u.o.k;obtain⟨b0,b1,b2,b3,b4,a4,a5,ak⟩:=zt u.o.x;go_wp2_with (go_at_call 246;refine (du e.a _ u.o.n.ak).mono ?_;rintro L i9 ⟨rfl,M,O⟩;have es:=za M;have ev:=za O;clear M O);all_goals refine bodyPost_ret (results_none rfl _ _ _) rfl ?_
    all_goals exact⟨rfl,by rw[<- t.o];exact es.o,u.o.n.fr.trans ev.o⟩
 | co nt q f v a0 hv g2 y c0 l1 fq =>
   rw[a0] at Z;unfold bC at Z;obtain⟨rfl,rfl⟩:=Prod.mk.inj g2;have K:=za (c4.o f v hv);obtain⟨⟨ca,eq⟩,P⟩:∃c,eN d.ab v=c:=⟨_,rfl⟩;rw[P] at K fq;have h0:=za fq;obtain⟨fv,fx,U,_,s⟩:=C.o.i;injection U with c3 a3 fV
   subst c3 fV;obtain⟨a9,rfl,dn,hw⟩:=s 0 y c0;have Y:a9<bl.heap.size:=(by have:=C.o.n.size;omega);have m4:0<Q:=(by have:=(aB.1 c0).1;have:=c5.o;omega);clear a0 c4 g2 s c0 hv P fq a3;rcases q with ⟨rfl,h⟩|⟨rfl,h⟩
   all_goals
    go_upto_region 12 with (go_at_call 169;refine (Z.o _ (Below.refl _ _)).mono ?_;rintro L hg ⟨rfl,m,_⟩;have D:=za m;have u:=za (C.o.on m);have n3:=zd m hw Y;have he:=m.size;clear m);clear ds eb er c2 b0 b1 b2 b3 b4 a4 a5 ak bE s1 s2 bL ck cm cn;obtain⟨ds,eb,er,c2⟩:=zp u.o.k;obtain⟨b0,b1,b2,b3,b4,a4,a5,ak⟩:=zt u.o.x;obtain⟨bE,s1,s2,bL,ck,cm,cn⟩:=bz u.o.n.bx;go_upto_region 14 with fail
    go_region_held3 (λa=>a.cell? (xD w.heap.size 0)=some (.string d.nm)/\a.cell? (xD w.heap.size 1)=some (xI d.a)/\a.cell? (xD w.heap.size 2)=some (.slice cs V cv)/\a.cell? (xD w.heap.size 3)=some (xS al X bp)/\a.cell? (xD w.heap.size 4)=some (.slice be E bk)/\a.cell? (xD (w.heap.size+1+1) 3)=some (xS a9 Q c1)/\a.cell? (xD a9 0)=some (xI y))
     (first|(with_reducible (refine⟨?_,?_,?_,?_,?_,?_,?_⟩ <;> repeat (first|assumption|refine zg ?_|refine zj _ ?_|refine zk (by omega) ?_|refine qW S.o ?_ (by omega) (by omega)|refine zd k.o ?_ (by first|omega|(rw[au];omega)))))|go_keep)
     (first
       | (go_at_call 251;revert n;intro n;refine (h0.o o _ n.o.n.ak n.o.n.nd).mono ?_;rintro L i8 ⟨rfl,B,p⟩;have hQ:=za B;have S:=za p;have hR:=za (n.o.n.fr.trans p);clear B p)
       | (go_at_call 168;refine (K.o _ (zo D.o)).mono ?_;rintro L hN ⟨rfl,H,I⟩;have k:=za (zw I);have i0:=k.o.size;have n:=za (C.o.on H);clear H I))
    go_wp2_with fail;refine bodyPost_ret (results_none rfl _ _ _) rfl ?_;exact⟨rfl,by rw[<- t.o];exact hQ.o,hR.o⟩
 | k4 q f v a0 hv y z c0 g9 l1 nd J h2 =>
   rw[a0] at Z;unfold bC at Z;have K:=za (c4.o f v hv);obtain⟨⟨ca,eq⟩,P⟩:∃c,eN d.ab v=c:=⟨_,rfl⟩;rw[P] at K t;have h1:=za J;have h3:=za h2;have m5:1<Q:=(by have:=(aB.1 g9).1;have:=c5.o;omega);obtain⟨gl,fd⟩:∃gl,(if (ca,eq)=(F,R) then [] else [e.nm]).foldl aj o=gl:=⟨_,rfl⟩;have c9:=za fd;have hT:aa (l.foldl aj o=nd.foldl aj (l1.foldl aj gl)):=(by unfold aa;rw[<- t.o,bc,bc,fd]);have lb:=za c0;have le:=za g9;clear a0 c4 hv P J h2 c0 g9 fd t;go_upto_region 17 with (go_at_call 169;refine (Z.o _ (Below.refl _ _)).mono ?_;rintro L hg ⟨rfl,m,_⟩;have D:=za m;have u:=za (C.o.on m);have he:=m.size;clear m);clear ds eb er c2 b0 b1 b2 b3 b4 a4 a5 ak bE s1 s2 bL ck cm cn;obtain⟨ds,eb,er,c2⟩:=zp u.o.k;obtain⟨bE,s1,s2,bL,ck,cm,cn⟩:=bz u.o.n.bx;have h5:(ca=F/\eq=R/\gl=o)∨((ca=F/\¬eq=R)/\gl=aj o e.nm)∨(¬ca=F/\gl=aj o e.nm):=by
    by_cases J:ca=F
    . by_cases h2:eq=R
      . exact ao ⟨J,h2,by rw[<- c9.o,ag (by rw[J,h2])];rfl⟩
      exact ap (ao ⟨⟨J,h2⟩,by rw[<- c9.o,ae (λe=>h2 (Prod.mk.inj e).2)];rfl⟩)
    exact ap (ap ⟨J,by rw[<- c9.o,ae (λe=>J (Prod.mk.inj e).1)];rfl⟩)
   clear c9;rcases h5 with ⟨J,h2,rfl⟩|⟨⟨J,m7⟩,rfl⟩|⟨m7,rfl⟩
   all_goals
    go_region_held3 (λa=>a.cell? (xD w.heap.size 0)=some (.string d.nm)/\a.cell? (xD w.heap.size 1)=some (xI d.a)/\a.cell? (xD w.heap.size 2)=some (.slice cs V cv)/\a.cell? (xD w.heap.size 3)=some (xS al X bp)/\a.cell? (xD w.heap.size 4)=some (.slice be E bk)/\a.cell? (xD (w.heap.size+1) 0)=some (xI F)/\a.cell? (xD (w.heap.size+1) 1)=some (.bool R))
     (first|(with_reducible (refine⟨?_,?_,?_,?_,?_,?_,?_⟩ <;> repeat (first|assumption|refine zg ?_|refine zj _ ?_|refine zk (by omega) ?_|refine zd k.o ?_ (by first|omega|(rw[au];omega)))))|go_keep)
     (first
       | (go_at_call 168;refine (K.o _ (zo D.o)).mono ?_;rintro L hN ⟨rfl,H,I⟩;have k:=za (zw I);have n:=za (C.o.on H);clear H I))
    obtain⟨b0,b1,b2,b3,b4,a4,a5,ak⟩:=zt n.o.x;go_upto_region 19 with (go_at_call 246;refine (du e.nm _ n.o.n.ak).mono ?_;rintro L i9 ⟨rfl,M,O⟩;have n:=za (n.o.aX M O);clear M O);obtain⟨fv,fx,U,_,s⟩:=n.o.i;injection U with c3 a3 fV
    subst c3 fV;obtain⟨a9,rfl,dn,hw⟩:=s 0 y lb.o;clear s a3 b0 b1 b2 b3 b4 a4 a5 ak bE s1 s2 bL ck cm cn;obtain⟨b0,b1,b2,b3,b4,a4,a5,ak⟩:=zt n.o.x;obtain⟨bE,s1,s2,bL,ck,cm,cn⟩:=bz n.o.n.bx;have Y:=dD dn n.o.n.size;have A:=za (n.o.on (zo (Below.refl _ _)));go_upto_region 19 with fail
    go_region_held3 (λa=>a.cell? (xD w.heap.size 0)=some (.string d.nm)/\a.cell? (xD w.heap.size 1)=some (xI d.a)/\a.cell? (xD w.heap.size 2)=some (.slice cs V cv)/\a.cell? (xD w.heap.size 3)=some (xS al X bp)/\a.cell? (xD w.heap.size 4)=some (.slice be E bk)/\a.cell? (xD (w.heap.size+1+1) 3)=some (xS a9 Q c1)/\a.cell? (xD a9 0)=some (xI y))
     (first|(with_reducible (refine⟨?_,?_,?_,?_,?_,?_,?_⟩ <;> repeat (first|assumption|refine zg ?_|refine zj _ ?_|refine zk (by omega) ?_|refine qW S.o ?_ (by omega) (by omega))))|go_keep)
     (first
       | (go_at_call 251;refine (h1.o _ _ A.o.n.ak A.o.n.nd).mono ?_;rintro L i8 ⟨rfl,B,p⟩;have S:=za (Fr.cQ p);have T:=za (A.o.aX B p);clear B p))
    obtain⟨fv,fx,U,_,s⟩:=T.o.i;injection U with c3 a3 fV
    subst c3 fV;obtain⟨l6,h8,i7,hw⟩:=s 1 z le.o;clear s a3 b0 b1 b2 b3 b4 a4 a5 ak bE s1 s2 bL ck cm cn;obtain⟨b0,b1,b2,b3,b4,a4,a5,ak⟩:=zt T.o.x;obtain⟨bE,s1,s2,bL,ck,cm,cn⟩:=bz T.o.n.bx;cases h8;have Y:=dD dn T.o.n.size;have A:=za (T.o.on (zo (Below.refl _ _)));go_upto_region 20 with fail
    go_region_held3 (λa=>a.cell? (xD w.heap.size 0)=some (.string d.nm)/\a.cell? (xD w.heap.size 1)=some (xI d.a)/\a.cell? (xD w.heap.size 2)=some (.slice cs V cv)/\a.cell? (xD w.heap.size 3)=some (xS al X bp)/\a.cell? (xD w.heap.size 4)=some (.slice be E bk)/\a.cell? (xD (w.heap.size+1+1) 3)=some (xS a9 Q c1)/\a.cell? (xD a9 1)=some (xI z))
     (first|(with_reducible (refine⟨?_,?_,?_,?_,?_,?_,?_⟩ <;> repeat (first|assumption|refine zg ?_|refine zj _ ?_|refine zk (by omega) ?_|refine qW S.o ?_ (by omega) (by omega))))|go_keep)
     (first
       | (go_at_call 251;refine (h3.o _ _ A.o.n.ak A.o.n.nd).mono ?_;rintro L of ⟨rfl,B,p⟩;have S:=za (Fr.cQ p);have go:=za (A.o.aX B p);clear B p))
    go_wp2_with fail;refine bodyPost_ret (results_none rfl _ _ _) rfl ?_;exact⟨rfl,by rw[hT.o];exact go.o.n.ak,go.o.n.fr⟩
 | hK q ls fq =>
   have kd:=q _ (ce ..);have op:=q _ (cS _ (ce ..));have or:=q _ (cS _ (cS _ (ce ..)));have os:=q [119,104,101,110] (by decide);have o7:=q [119,104,101,110,111,116] (by decide);have o8:=q [109,101,114,103,101] (by decide);have h0:=za fq;clear q fq Z c4;go_wp2_with fail;go_loopg [12] (Q+1) (λj i ne=>∃r:Nat,r+j=Q+1/\r<=Q/\i=xI r/\aa (kj w ne N g hu em (((List.range r).flatMap ls).foldl aj o) (.slice cs V cv) (xS al X bp) (.slice be E bk) d F R e (.slice ge Q c1)));case atStart=>exact⟨0,by omega,aE _,rfl,C⟩
   case round =>
    obtain⟨r,m9,fq,rfl,G⟩:=hrel;clear C bE s1 s2 bL ck cm cn ds eb er c2 b0 b1 b2 b3 b4 a4 a5 ak;obtain⟨ds,eb,er,c2⟩:=zp G.o.k;obtain⟨b0,b1,b2,b3,b4,a4,a5,ak⟩:=zt G.o.x;obtain⟨bE,s1,s2,bL,ck,cm,cn⟩:=bz G.o.n.bx;by_cases m6:r<Q
    . obtain⟨y,c0⟩:∃y,e.ah[r]?=some y:=⟨_,av (by have:=c5.o;omega)⟩;obtain⟨fv,fx,U,_,s⟩:=G.o.i;injection U with c3 a3 fV
      subst c3 fV;obtain⟨a9,rfl,dn,hw⟩:=s r y c0;have Y:a9<wr.heap.size:=(by have:=G.o.n.size;omega);have h4:=za (h0.o r y c0);obtain⟨t0,fr⟩:∃t0,((List.range r).flatMap ls).foldl aj o=t0:=⟨_,rfl⟩;have kw:aa (((List.range (r+1)).flatMap ls).foldl aj o=(ls r).foldl aj t0):=(by unfold aa;rw[List.range_succ,List.flatMap_append,bc,fr];simp);rw[fr] at G;have A:=za (G.o.on (zo (Below.refl _ _)));clear s c0 fr a3;go_upto_region 24 with fail
      go_region_held3 (λa=>a.cell? (xD w.heap.size 0)=some (.string d.nm)/\a.cell? (xD w.heap.size 1)=some (xI d.a)/\a.cell? (xD w.heap.size 2)=some (.slice cs V cv)/\a.cell? (xD w.heap.size 3)=some (xS al X bp)/\a.cell? (xD w.heap.size 4)=some (.slice be E bk)/\a.cell? (xD (w.heap.size+1) 0)=some (xI F)/\a.cell? (xD (w.heap.size+1) 1)=some (.bool R)/\a.cell? (xD (w.heap.size+1+1) 3)=some (xS a9 Q c1)/\a.cell? (xD a9 r)=some (xI y))
       (first|(with_reducible (refine⟨?_,?_,?_,?_,?_,?_,?_,?_,?_⟩ <;> repeat (first|assumption|refine zg ?_|refine zj _ ?_|refine zk (by omega) ?_|refine qW S.o ?_ (by omega) (by omega))))|go_keep)
       (first
         | (go_at_call 251;refine (h4.o t0 _ A.o.n.ak A.o.n.nd).mono ?_;rintro L i8 ⟨rfl,B,p⟩;have S:=za (Fr.cQ p);have T:=za (A.o.aX B p);clear B p))
      go_wp2_with fail;go_roundg (gk-1);(try (case measure=>omega))
      exact⟨r+1,by omega,by omega,by go_num,by rw[kw.o];exact T⟩
    have ip:r=Q:=(by omega);subst ip;go_wp2_with fail;go_end0;exact⟨rfl,by rw[<- t.o,c5.o];exact G.o.n.ak,G.o.n.fr⟩
end
section
theorem xa {N:Nat}{T xv qv:Xv}{d:Nd}(nm:Xb)(a:Int)(v:Nat)(B:v<d.ab.length)(w:Xw)(h:iW w N T d.ab)(K:N<=w.heap.size)(r:∃a n c,xv=.slice a n c)(ar:∃a n c,qv=.slice a n c) :
 xK 250 #[.agg #[.string nm,xI a,T,xv,qv],xI v] w (λe w'=>e=.returned (.bool (fS d.ab v (d.ab.length+1) v))/\xB w w'):=by
 obtain⟨V,Y,X,rfl⟩:=r;obtain⟨Q,S,R,rfl⟩:=ar;have D:=za (λW i x (r:d.ab[i]?=some x) (J:xB w W)=>ng nm a i x r W (h.aH (J.mono K)) (aJ K J.size) ⟨V,Y,X,rfl⟩ ⟨Q,S,R,rfl⟩);obtain⟨a3,a4,rfl,F,_⟩:=h;obtain⟨L,G⟩:∃L,d.ab.length=L:=⟨_,rfl⟩;have H:=za G;rw[G] at F B D ⊢;clear G;unfold k0 at D;go_enter func250,ntmps250;go_wp2_with fail;go_loopg [5,6] (L+2) (λj p i wr=>∃m P:Nat,m+j=L+2/\m<=L+1/\P<L/\p=xI P/\i=xI m/\aa (fS d.ab v (L+1-m) P=fS d.ab v (L+1) v)/\aa (xB w wr)/\aa (xH wr w.heap.size #[.string nm,xI a,.slice a3 L a4,.slice V Y X,.slice Q S R] 103));case atStart=>exact⟨0,v,by omega,by omega,B,rfl,rfl,rfl,(Below.refl _ _).alloc (an _) _,zc w _⟩
 case round =>
  obtain⟨m,P,al,hm,a5,rfl,rfl,C,l,I⟩:=hrel;obtain⟨a9,s1,s2,be,bk,bl,a2⟩:=bz I.o;by_cases ak:m<=L
  . obtain⟨x,r⟩:∃x,d.ab[P]?=some x:=⟨_,av (by have:=H.o;omega)⟩;have f:=za (D.o wr P x r l.o);rw[w6 r] at f;have y:(m:Int)<=(L:Int):=by omega
    have k:fS d.ab v (L+1) v=match e5 d.ab P with|none=>false|some j=>if j=v then true else fS d.ab v (L+1-(m+1)) j:=by rw[<- C.o,show L+1-m=(L+1-(m+1))+1 by omega];rfl
    obtain⟨O,z⟩:∃O,(eN d.ab x).2=O:=⟨_,rfl⟩;rw[z] at f;clear r z C;cases A:e5 d.ab P with
    | none => rw[A] at f k;have o:=za k;unfold bC at f;clear A k;go_wp2_with (go_at_call 168;refine f.o.mono ?_;rintro e U ⟨rfl,b⟩;have g:=za (l.o.trans (b.mono l.o.size));clear b);go_ret;exact⟨by rw[o.o];rfl,g.o.alloc g.o.size _⟩
    | some j =>
      have u:=o2 A;rw[H.o] at u;rw[A] at f k;simp only at k;have o:=za k;unfold bC at f;have Z:¬((j:Int)<0):=(by omega);clear A k;by_cases q:j=v
      . have s:fS d.ab v (L+1) v=true:=(by rw[o.o,ag q]);have o:=za s;clear s;subst q;go_wp2_with (go_at_call 168;refine f.o.mono ?_;rintro e U ⟨rfl,b⟩;have g:=za (l.o.trans (b.mono l.o.size));clear b);go_ret;exact⟨by rw[o.o];rfl,g.o.alloc g.o.size _⟩
      have M:((j:Int)==(v:Int))=false:=(by rw[bf];omega);go_wp2_with (go_at_call 168;refine f.o.mono ?_;rintro e U ⟨rfl,b⟩;have g:=za (l.o.trans (b.mono l.o.size));have t:=(b.block _ a2).trans I.o;have E:=za t;have a0:=b.size;clear b t);go_roundg (gk-1);case measure=>omega
      exact⟨m+1,j,by omega,by omega,u,rfl,by go_num,by rw[o.o,ae q];rfl,g.o.alloc g.o.size _,(Below.heap_alloc _ _ _ (by omega)).trans E.o⟩
  have k:fS d.ab v (L+1) v=false:=by rw[<- C.o,show L+1-m=0 by omega];rfl
  have o:=za k;have y:¬((m:Int)<=(L:Int)):=by omega
  clear k C;go_wp2_with fail;go_ret;exact⟨by rw[o.o];rfl,l.o⟩
end
section
attribute [local go_sem ↓] Go.wp_at_zero Go.wp_at_succ
theorem wF {w:Xw}{b:Nat}{u v x y:Xv}{e:Xy}(h:xH w b #[u,v] e):((w.setCell (xD b 0) x).setCell (xD b 1) y).heap[b]?=some (.cells #[x,y] e (0,0)):=by rw[zh _ _ _ _ (zh _ _ _ _ h)];rfl
structure zK (nds:List Nd) (d:Nd) (ol:ax->List Nat) (q:ax):Prop where
 one:1<=q.ns.length
 ps:q.ns.length=q.ps.length
 nm:∀s∈q.ns,lc d.ab s
 on:∀N ab nv vv xv qv,oi N ab nv nds vv xv qv d q.ex (fB d q).1 (fB d q).2 (ol q)
theorem EN {N bt:Nat}{pl:Xv}{C:List Nd}{o:Xo}(k:Nat)(d:Nd)(op:C[k]?=some d)(bx:ax->List Nat)(nt:aa (∀q∈d.eqs,zK C d bx q))(w:Xw)(h:Ak w N bt pl C o) :
 xK 202 #[xP bt,xI k] w (λe b=>e=.returned (.tuple #[])/\Ak b N bt pl C ((lY d bx).foldl aj o)/\Fr (λk=>k=bt) w b):=by
 obtain⟨v9,h9,rfl,rp,h3⟩:=h.ns;obtain⟨g,c0,cn,c1,bl,bs,bp,ip,H,bk,rfl,v5,tk,tm,tn,tr,ts,h4⟩:=h3 k d op;have kw:=za h;obtain⟨nx,qs,Z,te⟩:=zp h.aC;have l6:=(aB.1 op).1;have n2:=h.lt;obtain⟨L,lv⟩:∃L,C.length=L:=⟨_,rfl⟩;have qr:=za lv;rw[lv] at rp l6 nx kw;have l3:g<w.heap.size:=by omega
 have g0:=za h4;clear h h3 lv h4;go_enter func202,ntmps202;go_wp2_with fail;obtain⟨kd,ca⟩:∃kd,w.alloc (.cells #[.string d.nm,xI d.a,.slice c0 cn c1,.slice bl bs bp,.slice ip H bk] 103)=kd:=⟨_,rfl⟩;have bE:aa (bq w kd N bt w.heap.size (xS g L h9) C (o) (.slice c0 cn c1) (.slice bl bs bp) (.slice ip H bk) d):=by have y:xB w kd:=ca▸(Below.refl _ w).alloc (an _) _;exact⟨kw.o.on y,Fr.dp y,ca▸zc w _,g0.o.aH (y.mono (by omega)),an _,te⟩
 rw[ca];clear ca g0 kw nx qs Z tk tm tn tr ts l3;obtain⟨V,of⟩:∃V,d.ab.length=V:=⟨_,rfl⟩;have lo:=za of;have ok:V<=16:=by obtain⟨_,_,_,h,_⟩:=bE.o.nd.vs;omega
 have m5:cn=V:=by obtain⟨_,_,h,_,_⟩:=bE.o.nd.vs;injection h with _ h _;omega
 subst m5;clear of;obtain⟨gl,hw⟩:∃gl:Nat->Vr->List Nat,gl=λi v=>if fS d.ab i (d.ab.length+1) i=true then [v.a] else []:=⟨_,rfl⟩;have c9:=za hw;clear hw;go_loopg [5] (cn+1) (λj i wr=>∃m:Nat,m+j=cn+1/\m<=cn/\i=xI m/\aa (bq w wr N bt w.heap.size (xS g L h9) C ((gY gl 0 (d.ab.take m)).foldl aj o) (.slice c0 cn c1) (.slice bl bs bp) (.slice ip H bk) d));case atStart=>exact⟨0,by omega,aE _,rfl,bE⟩
 case round =>
  obtain⟨m,md,sE,rfl,n⟩:=hrel;clear bE;obtain⟨fx,s1,s2,fV,gc,ge,cm⟩:=bz n.o.bx;by_cases st:m<cn
  . skip;obtain⟨v,U⟩:∃v,d.ab[m]?=some v:=⟨_,av (by have:=lo.o;omega)⟩;obtain⟨vv,vz,m4,_,h8⟩:=n.o.nd.vs;injection m4 with al cv ck
    subst al ck;obtain⟨_,ro,rfl,ry,v0,vs,_⟩:=h8 m v U;have hR:ro<wr.heap.size:=(by have:=n.o.size;omega);have gt:=za (xa (xv:=.slice bl bs bp) (qv:=.slice ip H bk) d.nm d.a m (by have:=lo.o;omega) wr n.o.nd.vs n.o.size ⟨_,_,_,rfl⟩ ⟨_,_,_,rfl⟩);obtain⟨t0,P⟩:∃t0,(gY gl 0 (d.ab.take m)).foldl aj o=t0:=⟨_,rfl⟩;have go:(gY gl 0 (d.ab.take (m+1))).foldl aj o=(if fS d.ab m (d.ab.length+1) m=true then [v.a] else []).foldl aj t0:=(by rw[vP U,bc,P,Nat.zero_add,c9.o]);rw[P] at n;obtain⟨ls,hu⟩:∃ls,fS d.ab m (d.ab.length+1) m=ls:=⟨_,rfl⟩;rw[hu] at gt go;have ns:=za go;clear h8 U P go hu cv v0;cases ls
    all_goals
     go_wp2_with (first
      | (go_at_call 246;revert ar;intro ar;refine (du v.a _ ar.o.ak).mono ?_;rintro e wd ⟨rfl,he,hg⟩;have lb:=za he;have lk:=za hg;clear he hg)
      | (go_at_call 250;refine gt.o.mono ?_;rintro e pp ⟨rfl,t⟩;have ar:=za (n.o.on t);have x1:=zd t vs hR;have t2:=zd t s2 cm;clear t))
     go_roundg (gk-1);(try (case measure=>omega))
     first
      | exact⟨m+1,by omega,by omega,by go_num,by rw[ns.o];exact ar⟩
      | exact⟨m+1,by omega,by omega,by go_num,by rw[ns.o];exact ar.o.aX lb.o lk.o⟩
  have mk:m=cn:=by omega
  subst mk;rw[de (by have:=lo.o;omega)] at n;obtain⟨fv,ex⟩:∃fv,(gY gl 0 d.ab).foldl aj o=fv:=⟨_,rfl⟩;have g2:aa ((lY d bx).foldl aj o=(d.eqs.flatMap λq=>eE d.ab (fB d q) q.ns q.ps++bx q).foldl aj fv):=by unfold aa lY;rw[bc,<- c9.o,ex]
  rw[ex] at n;clear ex md sE c9;go_wp2_with fail;obtain⟨Q,n3⟩:∃Q,d.eqs.length=Q:=⟨_,rfl⟩;have g6:=za n3;have rs:Q<=100000:=by obtain⟨_,_,_,h,_⟩:=n.o.nd.qs;omega
  have m3:H=Q:=by obtain⟨_,_,h,_,_⟩:=n.o.nd.qs;injection h with _ h _;omega
  subst m3;clear n3 fx s1 s2 fV gc ge cm;obtain⟨ps,rfl⟩:∃ps,ps=wr:=⟨_,rfl⟩;go_loopg [7] (H+1) (λj i wr=>∃Y:Nat,Y+j=H+1/\Y<=H/\i=xI Y/\aa (bq w wr N bt w.heap.size (xS g L h9) C (((d.eqs.take Y).flatMap λq=>eE d.ab (fB d q) q.ns q.ps++bx q).foldl aj fv) (.slice c0 m c1) (.slice bl bs bp) (.slice ip H bk) d));case atStart=>exact⟨0,by omega,aE _,rfl,n⟩
  case round =>
   obtain⟨Y,ta,o8,rfl,r⟩:=hrel;clear n;obtain⟨fx,s1,s2,fV,gc,ge,cm⟩:=bz r.o.bx;by_cases sn:Y<H
   . skip;obtain⟨q,i6⟩:∃q,d.eqs[Y]?=some q:=⟨_,av (by have:=g6.o;omega)⟩;have E:=za (nt.o q (aM i6));obtain⟨un,up,m2,_,h7⟩:=r.o.nd.qs;injection m2 with al cv ck
     subst al ck;clear cv;obtain⟨ev,u1,u2,i8,i9,rfl,rx,n1,lt,rb,rd,b2,b3⟩:=h7 Y q i6;obtain⟨t0,P⟩:∃t0,((d.eqs.take Y).flatMap λq=>eE d.ab (fB d q) q.ns q.ps++bx q).foldl aj fv=t0:=⟨_,rfl⟩;have g9:aa (((d.eqs.take (Y+1)).flatMap λq=>eE d.ab (fB d q) q.ns q.ps++bx q).foldl aj fv=(bx q).foldl aj ((eE d.ab (fB d q) q.ns q.ps).foldl aj t0)):=(by unfold aa;rw[List.take_add_one,i6,List.flatMap_append,bc,P];simp[bc]);rw[P] at r;have hQ:ev<wr.heap.size:=(by have:=r.o.size;omega);obtain⟨D,fd⟩:∃D,q.ns.length=D:=⟨_,rfl⟩;rw[<- E.o.ps] at lt b3;rw[fd] at n1 b2 lt b3;have x:=za fd;have pe:D<=100000:=(by obtain⟨_,_,h1,h2,_⟩:=b2;omega);clear h7 i6 P fd;go_upto_region 11 with fail;obtain⟨it,b4⟩:∃it,wr.alloc (.cells #[.slice u1 D u2,.slice i8 D i9,xI q.a,xI (q.ex:Nat)] 275)=it:=⟨_,rfl⟩;have b1:xB wr it:=b4▸(Below.refl _ wr).alloc (an _) _;have a:=za (r.o.on b1);have K:=za (b2.aH (b1.mono r.o.size));have a0:=za (b3.aH (b1.mono r.o.size));have G:aa (xH it wr.heap.size #[.slice u1 D u2,.slice i8 D i9,xI q.a,xI (q.ex:Nat)] 275):=b4▸zc wr _;have hm:bt<wr.heap.size:=ze r.o.ak.aC;have h0:w.heap.size<wr.heap.size:=cm;rw[b4];obtain⟨eb,hv⟩:∃eb,wr.heap.size=eb:=⟨_,rfl⟩;rw[hv] at G hm h0 ⊢;clear b2 b3 b4 b1 r fx s1 s2 fV gc ge cm n1 lt rb rd hv hQ;obtain⟨pt,rfl⟩:∃pt,pt=wr:=⟨_,rfl⟩;obtain⟨wr,rfl⟩:∃wr,wr=it:=⟨_,rfl⟩;obtain⟨er,rfl⟩:∃er,er=gk:=⟨_,rfl⟩;obtain⟨fx,s1,s2,fV,gc,ge,cm⟩:=bz a.o.bx;obtain⟨i0,i1,i2,i3,i4,eq⟩:=zU G.o;have m1:1<=D:=(by have:=E.o.one;have:=x.o;omega);obtain⟨s,ak⟩:∃s,q.ns[0]?=some s:=⟨_,av (by have:=x.o;omega)⟩;obtain⟨f,v,Z,U⟩:=E.o.nm s (aM ak);have S:aa (fB d q=eN d.ab v):=(by unfold aa fB;rw[List.headD_eq_head?_getD,List.head?_eq_getElem?,ak];exact nw Z U);obtain⟨⟨T,X⟩,z⟩:∃c,eN d.ab v=c:=⟨_,rfl⟩;rw[z] at S;go_cut [9] from 38 to 89 (λp iR=>∃b0:Nat,p=xP b0/\wr.heap.size<=b0/\aa (xH iR b0 #[xI T,.bool X] 309)/\aa (xB wr iR))
     case first =>
      obtain⟨na,nb,fr,_,be⟩:=K.o;injection fr with al cv ck
      subst al ck;clear cv;obtain⟨_,es,rfl,l2,z0⟩:=be 0 s ak;have hN:es<wr.heap.size:=(by have:=a.o.size;omega);have c5:=za (λW (y:xB wr W)=>((a.o.on y).find s).mono (λe' b h=>(⟨h.1,y.trans (h.2.mono y.size),h.2⟩:e'=_/\xB wr b/\xB W b)));rw[Z] at c5;unfold bC at c5;have I:=za (λW (y:xB wr W)=>(ng (xv:=.slice bl bs bp) (qv:=(xS ev H bk)) d.nm d.a f v U W ((a.o.on y).nd.vs) (a.o.on y).size ⟨_,_,_,rfl⟩ ⟨_,_,_,rfl⟩).mono (λe' b h=>(⟨h.1,y.trans (h.2.mono y.size),h.2⟩:e'=_/\xB wr b/\xB W b)));unfold k0 at I;rw[z] at I;clear be ak Z U z
      go_region_held3 (λb=>b.cell? (xD w.heap.size 0)=some (.string d.nm)/\b.cell? (xD w.heap.size 1)=some (xI d.a)/\b.cell? (xD w.heap.size 2)=some (.slice c0 m c1)/\b.cell? (xD w.heap.size 3)=some (.slice bl bs bp)/\b.cell? (xD w.heap.size 4)=some (xS ev H bk)/\b.cell? (xD eb 0)=some (xS es D u2)/\b.cell? (xD es 0)=some (.string s))
       (first|(with_reducible (refine⟨?_,?_,?_,?_,?_,?_,?_⟩ <;> repeat (first|assumption|refine zg ?_|refine zj _ ?_|refine zk (by omega) ?_|refine zd l.o ?_ (by first|omega|(rw[au];omega))|refine zd B.o ?_ (by first|omega|(rw[au];omega)))))|go_keep)
       (first
         | (go_at_call 168;revert l;intro l;refine (I.o _ (by first|exact l.o|exact l.o.alloc l.o.size _)).mono ?_;rintro e' vG ⟨rfl,M,O⟩;have B:=za M;have m7:=M.size;(try (have R:=(O.block _ (ze a2.o)).trans a2.o;obtain⟨nd,ne,nm,no⟩:=zp R;have a3:=za R;clear R));(try (have R:=(O.block _ (by simp)).trans (zc _ _);obtain⟨nd,ne,nm,no⟩:=zp R;have a3:=za R;clear R));clear M O)
         | (go_at_call 169;refine (c5.o _ (by first|exact zo (Below.refl _ _)|exact zo ((Below.refl _ _).alloc (an _) _)|exact (zo (Below.refl _ _)).alloc (an _) _)).mono ?_;rintro e' pp ⟨rfl,t,a5⟩;have l:=za t;have m6:=t.size;(try (have io:=(a5.block _ (by simp)).trans (zc _ _);have a2:=za io;clear io));clear t a5))
      all_goals
       go_wp2_with fail;go_meet
       first
        | exact⟨_,rfl,(by first|omega|(simp;omega)),zc _ _,B.o.alloc B.o.size _⟩
        | exact⟨_,rfl,by omega,wF a3.o,hi B.o (by omega) _ _⟩
     case rest =>
      obtain⟨b0,rfl,l1,gs,u⟩:=hcut;have g1:=za (a.o.on u.o);have g5:=za ((u.o.block eb eq).trans G.o);have g8:=za (K.o.aH (u.o.mono a.o.size));have g4:=za (a0.o.aH (u.o.mono a.o.size));have or:eb<b0:=(by omega);have pb:w.heap.size<b0:=(by omega);obtain⟨po,h5⟩:∃po,q.ps[0]?=some po:=⟨_,av (by have:=x.o;have:=E.o.ps;omega)⟩;have ln:aa ((eE d.ab (T,X) (q.ns.take 1) (q.ps.take 1)).foldl aj t0=t0):=(by unfold aa;rw[qV ak h5,nw Z U,z,ag rfl];rfl);rw[S.o] at g9;have g3:=za (E.o.on N bt (xS g L h9) (.slice c0 m c1) (.slice bl bs bp) (xS ev H bk));rw[S.o] at g3;obtain⟨pr,rfl⟩:∃pr,pr=wr:=⟨_,rfl⟩;clear a G K a0 u ak Z U z h5 S fx s1 s2 fV gc ge cm i0 i1 i2 i3 i4 eq l1;go_wp2_with fail;go_loopg [10] D (λj i wr=>∃A:Nat,A+j=D+1/\1<=A/\A<=D/\i=xI A/\aa (bq w wr N bt w.heap.size (xS g L h9) C ((eE d.ab (T,X) (q.ns.take A) (q.ps.take A)).foldl aj t0) (.slice c0 m c1) (.slice bl bs bp) (xS ev H bk) d)/\aa (xH wr eb #[.slice u1 D u2,.slice i8 D i9,xI q.a,xI (q.ex:Nat)] 275)/\aa (kf wr N (.slice u1 D u2) q.ns)/\aa (gm wr N (.slice i8 D i9) q.ps)/\aa (xH wr b0 #[xI T,.bool X] 309));case atStart=>exact⟨1,by omega,an _,m1,rfl,by rw[ln.o];exact g1,g5,g8,g4,gs⟩
      case round =>
       obtain⟨A,sc,sg,o7,rfl,a,G,K,a0,c4⟩:=hrel;clear g1 g5 g8 g4 gs;obtain⟨fx,s1,s2,fV,gc,ge,cm⟩:=bz a.o.bx;obtain⟨i0,i1,i2,i3,i4,eq⟩:=zU G.o;obtain⟨m8,al,m9,i7⟩:=zp c4.o;by_cases sh:A<D
       . obtain⟨s,ak⟩:∃s,q.ns[A]?=some s:=⟨_,av (by have:=x.o;omega)⟩;obtain⟨p,mp⟩:∃p,q.ps[A]?=some p:=⟨_,av (by have:=x.o;have:=E.o.ps;omega)⟩;obtain⟨f,v,Z,U⟩:=E.o.nm s (aM ak);obtain⟨t1,fq⟩:∃t1,(eE d.ab (T,X) (q.ns.take A) (q.ps.take A)).foldl aj t0=t1:=⟨_,rfl⟩;obtain⟨⟨bL,cs⟩,z⟩:∃c,eN d.ab v=c:=⟨_,rfl⟩;have em:aa ((eE d.ab (T,X) (q.ns.take (A+1)) (q.ps.take (A+1))).foldl aj t0=(if (bL,cs)=(T,X) then [] else [p]).foldl aj t1):=(by unfold aa;rw[qV ak mp,bc,fq,nw Z U,z]);rw[fq] at a;clear fq;go_upto_region 15 with fail;go_cut [11] from 58 to 83 (λp iR=>∃i5:Nat,p=xP i5/\wr.heap.size<=i5/\aa (xH iR i5 #[xI bL,.bool cs] 309)/\aa (xB wr iR))
         case first =>
          obtain⟨na,nb,fr,_,be⟩:=K.o;injection fr with al cv ck
          subst al ck;clear cv;obtain⟨_,es,rfl,l2,z0⟩:=be A s ak;have hN:es<wr.heap.size:=(by have:=a.o.size;omega);have c5:=za (λW (y:xB wr W)=>((a.o.on y).find s).mono (λe' b h=>(⟨h.1,y.trans (h.2.mono y.size),h.2⟩:e'=_/\xB wr b/\xB W b)));rw[Z] at c5;unfold bC at c5;have I:=za (λW (y:xB wr W)=>(ng (xv:=.slice bl bs bp) (qv:=(xS ev H bk)) d.nm d.a f v U W ((a.o.on y).nd.vs) (a.o.on y).size ⟨_,_,_,rfl⟩ ⟨_,_,_,rfl⟩).mono (λe' b h=>(⟨h.1,y.trans (h.2.mono y.size),h.2⟩:e'=_/\xB wr b/\xB W b)));unfold k0 at I;rw[z] at I;clear be ak Z U z m8 al m9
          go_region_held3 (λb=>b.cell? (xD w.heap.size 0)=some (.string d.nm)/\b.cell? (xD w.heap.size 1)=some (xI d.a)/\b.cell? (xD w.heap.size 2)=some (.slice c0 m c1)/\b.cell? (xD w.heap.size 3)=some (.slice bl bs bp)/\b.cell? (xD w.heap.size 4)=some (xS ev H bk)/\b.cell? (xD eb 0)=some (xS es D u2)/\b.cell? (xD es A)=some (.string s))
           (first|(with_reducible (refine⟨?_,?_,?_,?_,?_,?_,?_⟩ <;> repeat (first|assumption|refine zg ?_|refine zj _ ?_|refine zk (by omega) ?_|refine zd l.o ?_ (by first|omega|(rw[au];omega))|refine zd B.o ?_ (by first|omega|(rw[au];omega)))))|go_keep)
           (first
             | (go_at_call 168;revert l;intro l;refine (I.o _ (by first|exact l.o|exact l.o.alloc l.o.size _)).mono ?_;rintro e' vG ⟨rfl,M,O⟩;have B:=za M;have m7:=M.size;(try (have R:=(O.block _ (ze a2.o)).trans a2.o;obtain⟨nd,ne,nm,no⟩:=zp R;have a3:=za R;clear R));(try (have R:=(O.block _ (by simp)).trans (zc _ _);obtain⟨nd,ne,nm,no⟩:=zp R;have a3:=za R;clear R));clear M O)
             | (go_at_call 169;refine (c5.o _ (by first|exact zo (Below.refl _ _)|exact zo ((Below.refl _ _).alloc (an _) _)|exact (zo (Below.refl _ _)).alloc (an _) _)).mono ?_;rintro e' pp ⟨rfl,t,a5⟩;have l:=za t;have m6:=t.size;(try (have io:=(a5.block _ (by simp)).trans (zc _ _);have a2:=za io;clear io));clear t a5))
          all_goals
           go_wp2_with fail;go_meet
           first
            | exact⟨_,rfl,(by first|omega|(simp;omega)),zc _ _,B.o.alloc B.o.size _⟩
            | exact⟨_,rfl,by omega,wF a3.o,hi B.o (by omega) _ _⟩
         case rest =>
          obtain⟨i5,rfl,rL,le,u⟩:=hcut;have F:=za (a.o.on u.o);have ds:=za ((u.o.block eb eq).trans G.o);have g7:=za (K.o.aH (u.o.mono a.o.size));have dn:=za (a0.o.aH (u.o.mono a.o.size));have c3:=za ((u.o.block b0 i7).trans c4.o);obtain⟨tt,tx,m0,_,h6⟩:=dn.o;injection m0 with al cv ck
          subst al ck;obtain⟨rg,rfl,rt,wf⟩:=h6 A p mp;have os:rg<wc.heap.size:=(by have:=F.o.size;omega);clear h6 mp ak Z U z a G K a0 c4 fx s1 s2 fV gc ge cm i0 i1 i2 i3 i4 eq m8 m9 i7;obtain⟨i0,i1,i2,i3,i4,eq⟩:=zU ds.o;obtain⟨m8,al,m9,i7⟩:=zp c3.o;obtain⟨d0,d1,v3,v4⟩:=zp le.o;have h3:(bL=T/\cs=X/\(if (bL,cs)=(T,X) then [] else [p])=[])∨((bL=T/\¬cs=X)/\(if (bL,cs)=(T,X) then [] else [p])=[p])∨(¬bL=T/\(if (bL,cs)=(T,X) then [] else [p])=[p]):=by
           by_cases h1:bL=T
           . by_cases h2:cs=X
             . exact ao ⟨h1,h2,ag (by rw[h1,h2])⟩
             exact ap (ao ⟨⟨h1,h2⟩,ae (λe=>h2 (Prod.mk.inj e).2)⟩)
           exact ap (ap ⟨h1,ae (λe=>h1 (Prod.mk.inj e).1)⟩)
          rcases h3 with ⟨h1,h2,h3⟩|⟨⟨h1,h2⟩,h3⟩|⟨h2,h3⟩
          all_goals
           rw[h3] at em;clear h3;go_wp2_with (go_at_call 246;refine (du p _ F.o.ak).mono ?_;rintro e v2 ⟨rfl,a4,a9⟩;have c2:=za a4;have J:=za a9;clear a4 a9);go_roundg (gk-1);(try (case measure=>omega))
           first
            | exact⟨A+1,by omega,by omega,by omega,by go_num,by rw[em.o];exact F,ds,g7,dn,c3⟩
            | exact⟨A+1,by omega,by omega,by omega,by go_num,by rw[em.o];exact F.o.aX c2.o J.o,(J.o.block eb eq (by omega)).trans ds.o,g7.o.aH (J.o.below F.o.size (λj e=>by have:=F.o.ak.lt;omega)),dn.o.aH (J.o.below F.o.size (λj e=>by have:=F.o.ak.lt;omega)),(J.o.block b0 i7 (by omega)).trans c3.o⟩
       have l5:A=D:=(by omega);subst l5;rw[de (by have:=x.o;omega),de (by have:=x.o;have:=E.o.ps;omega)] at a;go_wp2_with (go_at_call 251;refine (g3.o _ _ a.o.ak a.o.nd).mono ?_;rintro e v2 ⟨rfl,a4,a9⟩;have c2:=za a4;have J:=za a9;clear a4 a9);go_roundg (er-1);case measure=>omega
       exact⟨Y+1,by omega,by omega,by go_num,by rw[g9.o];exact a.o.aX c2.o J.o⟩
   have hT:Y=H:=(by omega);subst hT;have go:(lY d bx).foldl aj o=((d.eqs.take Y).flatMap λq=>eE d.ab (fB d q) q.ns q.ps++bx q).foldl aj fv:=(by rw[g2.o,de (by have:=g6.o;omega)]);rw[<- go] at r;clear go g2 nt;go_wp2_with fail;go_end0;exact⟨rfl,by rw[qr.o];exact r.o.ak,r.o.fr⟩
end
section
variable {w:Xw}
attribute [local go_sem ↓] Go.wp_at_zero Go.wp_at_succ
theorem vD {t:Array Oper}{o:Oper}{a:Act}{K:Act->World->Prop}{Q:Exit->Act->World->Prop}{E:Prop}(z:o.guard=none)(s x:Operand)(C:o.op=.call { callee:=.builtin .append,args:=#[s,x],argTypes:=#[188,188] })
 (B I:Nat) (v H:Xv) (n m:Nat) (f:Xm) (i:Xn) (D:a.eval s=v) (b:w.ownsRow B 3 1 v n f) (F:a.eval x=H) (c:w.ownsRow I 3 1 H m (bK i)) (V:n+m<=100000) (O:B<=w.heap.size)
 (h:∀e d,d.ownsRow B 3 1 e (n+m) (f++bK i)->w.grownBy d v.ownBlock->K (a.put o.dst e) d):if Region.wanted o (yielded t a.tmps)=true then Oper.wp prog o a w K Q else E:=by
 obtain⟨G,A,p,q,r⟩:=info_parts Tryz.mT;rcases c.2 with ⟨l,L⟩|⟨g,k,J,l,_⟩
 . subst l L;have U:bK i=[]:=List.eq_nil_of_length_eq_zero (by have:=c.1;omega);have S:=run_append_owned_none (P:=prog) w B 188 o.type 3 G 1 underlying188 A v n f b;rw[ag (by simp[Region.wanted,z])];unfold Oper.wp execOp;simp only[C,resolve,invoke,builtin,Sem.run_bind,Sem.run_pure,Result.andThen_ok,List.map_toArray,List.map_cons,List.map_nil,D,F,S];exact h v w (by rw[U,List.append_nil];exact b) ⟨rfl,rfl,rfl,an _,λ_ _ _=>rfl⟩
 subst l;exact zJ w z s x 188 C B 3 G _ 1 8 underlying188 A p q r rfl (by decide) v n f D b (xD g 0) m k (bK i) F (by have:=c.1;omega) (λj u R=>c.cells (g:=g) rfl j u R) (λu T=>by obtain⟨y,_,rfl⟩:=List.mem_map.1 T;rfl) (by unfold maxLen;omega) (by omega) O (λe d M N _=>h e d M N)
theorem wv {b i:Nat}{v:Xv}{o:Xo}{W:Xw}(hF:w.grownBy W o)(d:w.cell? (xD b i)=some v)(c:b<w.heap.size)(f:¬o=some b):W.cell? (xD b i)=some v:=(World.cell?_of_block (w:=w) (a:=(xD b i)) (hF.block b c (λe=>f e.symm))).trans d
def oh (N:Nat)(c g b:Xv)(d:Nd)(x:Nat)(l:Xn):Prop :=
 ∀(w:Xw),kX w N c g b d->N<=w.heap.size->xK 252 #[.agg #[.string d.nm,xI d.a,c,g,b],xI x] w (λe f=>∃a,e=.returned a/\f.ownsRow w.heap.size 3 1 a l.length (bK l)/\xB w f)
theorem w2 {ls:Nat->List Nat}:∀{n m:Nat},m<=n->((List.range m).flatMap ls).length<=((List.range n).flatMap ls).length:=by
 intro n m h;induction h with
 | refl=>exact an _
 | ad h a=>refine aJ a ?_;rw[List.range_succ,List.flatMap_append,aP];omega
theorem Fj {N:Nat}{vv xv qv:Xv}{d:Nd}(x:Nat)(e:Ex)(he:d.az[x]?=some e)(l:Xn)(i2:l.length<=100000)(cm:aa (jD d (oh N vv xv qv d) e l)):oh N vv xv qv d x l:=by
 intro w T hN;have A:=za T;obtain⟨i8,b3,rfl,hm,c5⟩:=T.xs;obtain⟨b4,ca,rfl,c4,_⟩:=T.vs;obtain⟨bL,b0,rfl,i3,_⟩:=T.qs;obtain⟨al,i7,rfl,i1,⟨h8,io,ip,hR,it,iR⟩,g6⟩:=c5 x e he;obtain⟨dn,a2,rfl,c3,o⟩:=g6;have hu:=(aB.1 he).1;obtain⟨X,h2⟩:∃X,d.az.length=X:=⟨_,rfl⟩;obtain⟨V,h0⟩:∃V,d.ab.length=V:=⟨_,rfl⟩;obtain⟨E,hT⟩:∃E,d.eqs.length=E:=⟨_,rfl⟩;obtain⟨q,S⟩:∃q,e.ah.length=q:=⟨_,rfl⟩;have z:=za S;have Z:=za (show gm w N (.slice dn e.ah.length a2) e.ah from ⟨dn,a2,rfl,c3,o⟩);rw[S] at hR Z c3;rw[h2] at hu hm A cm ⊢;rw[h0] at A cm c4 ⊢;rw[hT] at A cm ⊢;have c1:al<w.heap.size:=by omega
 clear T c5 he o h2 h0 hT S;go_enter func252,ntmps252;go_upto_block 0 with fail;obtain⟨t,D⟩:∃t,(w.alloc (.cells #[.string d.nm,xI d.a,.slice b4 V ca,xS al X b3,.slice bL E b0] 103)).alloc (.cells #[.string e.op,xI e.a,xI e.nm,.slice dn q a2,.string e.s,xI e.n] 190)=t:=⟨_,rfl⟩;have a:aa (xB w t):=D▸cT _ _ _;have M:aa (t.heap[w.heap.size]?=some (nf d (.slice b4 V ca) (xS al X b3) (.slice bL E b0))):=by unfold aa;rw[<- D];exact (Below.heap_alloc _ _ _ (by rw[au];omega)).trans (zc w _)
 have O:aa (t.heap[w.heap.size+1]?=some (.cells #[.string e.op,xI e.a,xI e.nm,.slice dn q a2,.string e.s,xI e.n] 190 (0,0))):=by unfold aa;rw[<- D];have:=zc (w.alloc (nf d (.slice b4 V ca) (xS al X b3) (.slice bL E b0))) (.cells #[.string e.op,xI e.a,xI e.nm,.slice dn q a2,.string e.s,xI e.n] 190);rw[au] at this;exact this
 have a0:t.heap.size<=w.heap.size+1+1:=by rw[<- D,au,au];omega
 rw[D];clear D h8 io ip hR it iR c1;obtain⟨gl,s1,s2,go,gs,gt,g0⟩:=bz M.o;obtain⟨ev,ex,fd,fq,fr,fv,gc,ge⟩:=zt O.o;have cn:=cm.o;obtain⟨l',g8⟩:∃l',l'=l:=⟨_,rfl⟩;rw[<- g8] at cn;have K:=za g8;clear cm g8;cases cn with
 | k2 s y W l1 Y =>
   have ck:=za Y;obtain⟨ds,eb,R,_,o⟩:=Z.o;injection R with eq er es
   subst eq es;obtain⟨C,rfl,c0,a3⟩:=o 0 y W;have ar:C<t.heap.size:=(by have:=a.o.size;omega);have h5:=cA a.o (show C<w.heap.size by omega) a3;have c2:0<q:=(by have:=(aB.1 W).1;have:=z.o;omega);clear o W er Y a3;go_upto_region 5 with fail
   go_region_held3 (λp=>p.cell? (xD w.heap.size 0)=some (.string d.nm)/\p.cell? (xD w.heap.size 1)=some (xI d.a)/\p.cell? (xD w.heap.size 2)=some (.slice b4 V ca)/\p.cell? (xD w.heap.size 3)=some (xS al X b3)/\p.cell? (xD w.heap.size 4)=some (.slice bL E b0)/\p.cell? (xD (w.heap.size+1) 3)=some (xS C q a2)/\p.cell? (xD C 0)=some (xI y))
    (first|(with_reducible (refine⟨?_,?_,?_,?_,?_,?_,?_⟩ <;> repeat (first|assumption|refine zg ?_|refine zj _ ?_|refine zk (by omega) ?_|refine zd b.o ?_ (by first|omega|(rw[au];omega)))))|go_keep)
    (first
      | (go_at_call 252;refine (ck.o t.drew (A.o.aH (zo (a.o.mono hN))) (show N<=t.heap.size by have:=a.o.size;omega)).mono ?_;rintro e' b2 ⟨hQ,rfl,U,g⟩;obtain⟨fx,fV,rfl⟩:=kE U;have h7:=za U;have b:=za (zw g);clear U g))
   go_wp2_with fail;go_ret;exact⟨_,rfl,zR (by rw[<- K.o];exact h7.o) a.o.size,a.o.trans (b.o.mono a.o.size)⟩
 | nm s f h3 k Y =>
   have ck:=za Y;have a4:=za (qM (xv:=(xS al X b3)) (qv:=.slice bL E b0) d.nm e.s d.a t (A.o.aH (a.o.mono hN)).vs (aJ hN a.o.size) ⟨_,_,_,rfl⟩ ⟨_,_,_,rfl⟩);rw[h3] at a4;unfold bC at a4;obtain⟨i5,h4,c2,g4,g5⟩:=info_parts Tryz.mT;have g2:=za h4;clear h3 Y h4;rcases s with h|h|h|h
   all_goals
    go_upto_region 11 with (first
     | (ak;revert b;intro b;refine o4 _ rfl (.tmp 28) (.tmp 33) 188 rfl (w.heap.size+1+1) 3 i5 _ 1 8 underlying188 g2.o c2 g4 g5 rfl (by decide) (.slice em 0 0) 0 [] rfl (World.ownsRow_nil _ _ _ _) (xD b2.heap.size 0) 1 1 [xI (f:Nat)] rfl rfl (zN (zc b2 _) rfl) (λu i4=>by rw[cu.1 i4];rfl) (by unfold maxLen;omega) (by omega) (by simp;omega) ?_;intro v9 h6 h9 cv _;obtain⟨i0,cs,rfl,_⟩:=zM h9 (by omega);have g3:=za h9;have g1:=za cv;clear h9 cv)
     | (go_at_call 169;refine a4.o.mono ?_;rintro e' b2 ⟨rfl,g⟩;have b:=za g;have c9:=g.size;clear g))
    have H:aa (xB t h6):=(b.o.alloc b.o.size _).trans ((Fr.gi g1.o).below (by rw[au];omega) (λj e=>by cases e));have L:aa (h6.ownsRow (w.heap.size+1+1) 3 1 (xS i0 1 cs) 1 (bK [f])):=g3;have b1:t.heap.size<=w.heap.size+1+1:=a0;clear gl s1 s2 go gs gt g0 ev ex fd fq fr fv gc ge;have bE:=b1;go_wp2_with fail;go_loopg [6,7] (q+1) (λj v i wr=>∃(r n:Nat) (F:Xp) (G:Nat),r+j=q+1/\r<=q/\v=.slice F n G/\i=xI r/\aa (([f]++(List.range r).flatMap k).length=n)/\aa (xB t wr)/\aa (wr.ownsRow (w.heap.size+1+1) 3 1 (.slice F n G) n (bK ([f]++(List.range r).flatMap k))));case atStart=>exact⟨0,1,_,_,by omega,aE _,rfl,rfl,rfl,H,by unfold aa;rw[List.range_zero,List.flatMap_nil,List.append_nil];exact L⟩
    case round =>
     obtain⟨r,n,F,G,hg,Y,rfl,rfl,bp,c,HOr⟩:=hrel;clear H L;obtain⟨gl,s1,s2,go,gs,gt,g0⟩:=bz ((c.o.block _ (ze M.o)).trans M.o);obtain⟨ev,ex,fd,fq,fr,fv,gc,ge⟩:=zt ((c.o.block _ (ze O.o)).trans O.o);have bx:=c.o.size;by_cases g9:r<q
     . obtain⟨y,W⟩:∃y,e.ah[r]?=some y:=⟨_,av (by have:=z.o;omega)⟩;have bl:=za (ck.o r y W);obtain⟨ds,eb,R,_,o⟩:=Z.o;injection R with eq er es
       subst eq es;obtain⟨C,rfl,c0,a3⟩:=o r y W;have h5:=cA (a.o.trans (c.o.mono a.o.size)) (show C<w.heap.size by omega) a3;have ar:C<wr.heap.size:=(by omega);have a5:aa (n+(k r).length<=100000):=(by unfold aa;have h1:([f]++(List.range (r+1)).flatMap k).length<=l.length:=(by rw[<- K.o,aP,aP,z.o];have:=w2 (ls:=k) (n:=q) (m:=r+1) (by omega);omega);have P:=bp.o;rw[List.range_succ,List.flatMap_append,<- bw,aP,P] at h1;simp at h1;omega);have I:aa ([f]++(List.range (r+1)).flatMap k=([f]++(List.range r).flatMap k)++k r):=(by unfold aa;rw[List.range_succ,List.flatMap_append,<- bw];simp);have a9:=za (A.o.aH ((a.o.mono hN).trans (c.o.mono (by have:=a.o.size;omega))));clear o W er a3;go_upto_region 14 with fail
       go_region_held3 (λp=>p.cell? (xD w.heap.size 0)=some (.string d.nm)/\p.cell? (xD w.heap.size 1)=some (xI d.a)/\p.cell? (xD w.heap.size 2)=some (.slice b4 V ca)/\p.cell? (xD w.heap.size 3)=some (xS al X b3)/\p.cell? (xD w.heap.size 4)=some (.slice bL E b0)/\p.cell? (xD (w.heap.size+1) 3)=some (xS C q a2)/\p.cell? (xD C r)=some (xI y))
        (first|(with_reducible (refine⟨?_,?_,?_,?_,?_,?_,?_⟩ <;> repeat (first|assumption|refine zg ?_|refine zj _ ?_|refine zk (by omega) ?_|refine wv J.o ?_ (by omega) (λe=>by have:=(B.o.lt _ e).1;omega)|refine zd b.o ?_ (by first|omega|(rw[au];omega)))))|go_keep)
        (first
          | (refine vD rfl (.tmp 42) (.tmp 49) rfl (w.heap.size+1+1) wr.heap.size (.slice F n G) (.slice fx (k r).length fV) n (k r).length _ (k r) rfl B.o rfl be.o a5.o (by omega) ?_;intro v' i6 P Q;have J:=za Q;obtain⟨hv,hw,rfl⟩:=kE P;have bk:=za P;clear P Q)
          | (go_at_call 252;refine (bl.o wr.drew (a9.o.aH (zo (Below.refl _ _))) (show N<=wr.heap.size by omega)).mono ?_;rintro e' b2 ⟨hQ,rfl,U,g⟩;obtain⟨fx,fV,rfl⟩:=kE U;have be:=za U;have b:=za (zw g);have B:aa (b2.ownsRow (w.heap.size+1+1) 3 1 (.slice F n G) n (bK ([f]++(List.range r).flatMap k))):=zi HOr.o (λj _ g7 _=>g.block j g7);have c9:=b.o.size;clear U g))
       go_wp2_with fail;go_roundg (gk-1);(try (case measure=>omega))
       have bs:∀j,(Value.slice F n G).ownBlock=some j->w.heap.size+1+1<=j:=λj e=>(B.o.lt j e).1;refine⟨r+1,n+(k r).length,hv,hw,by omega,by omega,rfl,by go_num,?_,?_,?_⟩
       . unfold aa;rw[I.o,aP,bp.o]
       . exact (c.o.trans (b.o.mono bx)).trans ((Fr.gi J.o).below (by omega) (λj e=>aJ bE (bs j e)))
       unfold aa;rw[I.o];unfold bK at *;rw[List.map_append];exact bk.o
     have bt:r=q:=(by omega);subst bt;go_wp2_with fail;go_ret;exact⟨_,rfl,by rw[<- K.o,z.o,bp.o];exact zR HOr.o (by omega),a.o.trans (c.o.mono a.o.size)⟩
 | hK s k Y =>
   have i9:=s [102,98,121] (by decide);have kd:=s [118,97,114] (by decide);have kw:=s [119,104,101,110] (by decide);have lb:=s [119,104,101,110,111,116] (by decide);have le:=s [109,101,114,103,101] (by decide);have ck:=za Y;clear s Y;go_upto_region 11 with fail;have H:aa (xB t t):=Below.refl _ _;have L:aa (t.ownsRow (w.heap.size+1+1) 3 1 (.slice em 0 0) 0 (bK [])):=World.ownsRow_nil _ _ _ _;have b1:t.heap.size<=w.heap.size+1+1:=a0;clear gl s1 s2 go gs gt g0 ev ex fd fq fr fv gc ge;have bE:=b1;go_wp2_with fail;go_loopg [6,7] (q+1) (λj v i wr=>∃(r n:Nat) (F:Xp) (G:Nat),r+j=q+1/\r<=q/\v=.slice F n G/\i=xI r/\aa (([]++(List.range r).flatMap k).length=n)/\aa (xB t wr)/\aa (wr.ownsRow (w.heap.size+1+1) 3 1 (.slice F n G) n (bK ([]++(List.range r).flatMap k))));case atStart=>exact⟨0,0,_,_,by omega,aE _,rfl,rfl,rfl,H,by unfold aa;rw[List.range_zero,List.flatMap_nil,List.append_nil];exact L⟩
   case round =>
    obtain⟨r,n,F,G,hg,Y,rfl,rfl,bp,c,HOr⟩:=hrel;clear H L;obtain⟨gl,s1,s2,go,gs,gt,g0⟩:=bz ((c.o.block _ (ze M.o)).trans M.o);obtain⟨ev,ex,fd,fq,fr,fv,gc,ge⟩:=zt ((c.o.block _ (ze O.o)).trans O.o);have bx:=c.o.size;by_cases g9:r<q
    . obtain⟨y,W⟩:∃y,e.ah[r]?=some y:=⟨_,av (by have:=z.o;omega)⟩;have bl:=za (ck.o r y W);obtain⟨ds,eb,R,_,o⟩:=Z.o;injection R with eq er es
      subst eq es;obtain⟨C,rfl,c0,a3⟩:=o r y W;have h5:=cA (a.o.trans (c.o.mono a.o.size)) (show C<w.heap.size by omega) a3;have ar:C<wr.heap.size:=(by omega);have a5:aa (n+(k r).length<=100000):=(by unfold aa;have h1:([]++(List.range (r+1)).flatMap k).length<=l.length:=(by rw[<- K.o,aP,aP,z.o];have:=w2 (ls:=k) (n:=q) (m:=r+1) (by omega);omega);have P:=bp.o;rw[List.range_succ,List.flatMap_append,<- bw,aP,P] at h1;simp at h1;omega);have I:aa ([]++(List.range (r+1)).flatMap k=([]++(List.range r).flatMap k)++k r):=(by unfold aa;rw[List.range_succ,List.flatMap_append,<- bw];simp);have a9:=za (A.o.aH ((a.o.mono hN).trans (c.o.mono (by have:=a.o.size;omega))));clear o W er a3;go_upto_region 14 with fail
      go_region_held3 (λp=>p.cell? (xD w.heap.size 0)=some (.string d.nm)/\p.cell? (xD w.heap.size 1)=some (xI d.a)/\p.cell? (xD w.heap.size 2)=some (.slice b4 V ca)/\p.cell? (xD w.heap.size 3)=some (xS al X b3)/\p.cell? (xD w.heap.size 4)=some (.slice bL E b0)/\p.cell? (xD (w.heap.size+1) 3)=some (xS C q a2)/\p.cell? (xD C r)=some (xI y))
       (first|(with_reducible (refine⟨?_,?_,?_,?_,?_,?_,?_⟩ <;> repeat (first|assumption|refine zg ?_|refine zj _ ?_|refine zk (by omega) ?_|refine wv J.o ?_ (by omega) (λe=>by have:=(B.o.lt _ e).1;omega)|refine zd b.o ?_ (by first|omega|(rw[au];omega)))))|go_keep)
       (first
         | (refine vD rfl (.tmp 42) (.tmp 49) rfl (w.heap.size+1+1) wr.heap.size (.slice F n G) (.slice fx (k r).length fV) n (k r).length _ (k r) rfl B.o rfl be.o a5.o (by omega) ?_;intro v' i6 P Q;have J:=za Q;obtain⟨hv,hw,rfl⟩:=kE P;have bk:=za P;clear P Q)
         | (go_at_call 252;refine (bl.o wr.drew (a9.o.aH (zo (Below.refl _ _))) (show N<=wr.heap.size by omega)).mono ?_;rintro e' b2 ⟨hQ,rfl,U,g⟩;obtain⟨fx,fV,rfl⟩:=kE U;have be:=za U;have b:=za (zw g);have B:aa (b2.ownsRow (w.heap.size+1+1) 3 1 (.slice F n G) n (bK ([]++(List.range r).flatMap k))):=zi HOr.o (λj _ g7 _=>g.block j g7);have c9:=b.o.size;clear U g))
      go_wp2_with fail;go_roundg (gk-1);(try (case measure=>omega))
      have bs:∀j,(Value.slice F n G).ownBlock=some j->w.heap.size+1+1<=j:=λj e=>(B.o.lt j e).1;refine⟨r+1,n+(k r).length,hv,hw,by omega,by omega,rfl,by go_num,?_,?_,?_⟩
      . unfold aa;rw[I.o,aP,bp.o]
      . exact (c.o.trans (b.o.mono bx)).trans ((Fr.gi J.o).below (by omega) (λj e=>aJ bE (bs j e)))
      unfold aa;rw[I.o];unfold bK at *;rw[List.map_append];exact bk.o
    have bt:r=q:=(by omega);subst bt;go_wp2_with fail;go_ret;exact⟨_,rfl,by rw[<- K.o,z.o,bp.o];exact zR HOr.o (by omega),a.o.trans (c.o.mono a.o.size)⟩
end
end Go.Proofs.YtmfkofhgdjechaaGreatDoor
