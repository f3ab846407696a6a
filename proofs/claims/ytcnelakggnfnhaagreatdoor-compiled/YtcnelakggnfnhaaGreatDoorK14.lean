/- Part 15. -/
import Derived.Test.YtcnelakggnfnhaaGreatDoorK11
set_option maxRecDepth 100000
set_option maxHeartbeats 8000000
namespace Go.Proofs.YtcnelakggnfnhaaGreatDoor
open Go.Proofs.Tryz
open Go.RowKit
section
variable {N a k:Nat} {c:Sc} {d f:Xv} {v:Vr} {W:Xw}
attribute [local go_sem ↓] Go.wp_at_zero Go.wp_at_succ
theorem Jv (b:c.nd.ak[k]?=some v)(h:ba v=0):c.of k=(0,0):=by unfold Sc.of;rw[b];exact ag h
theorem JF (b:c.nd.ak[k]?=some v)(h:¬ba v=0):c.of k=(c.idx v.ck,ba v):=by unfold Sc.of;rw[b];exact ae h
theorem yo (h:fb W a pr (eC c k)) :
 ∃b e,(Instr.mapUpdate 84 (.map (some a)) (.agg #[xI (k:Int),xI 1]) (.agg #[xI ((c.of k).1:Nat),xI ((c.of k).2:Nat)])).run prog W=.ok () b/\Fr (·=a) W b/\(Instr.mapUpdate 84 (.map (some a)) (.agg #[xI (k:Int),xI 2]) (.agg #[xI ((c.of k).1:Nat),xI ((c.of k).2:Nat)])).run prog b=.ok () e/\Fr (·=a) b e/\fb e a pr (eC c (k+1)):=by
 obtain⟨b,j,g,f1⟩:=pq Tryz.qe underlying84 h ((k:Int),1) (pr (eD (c.of k)));rw[Jy] at g;obtain⟨e,l,i,f2⟩:=pq Tryz.qe underlying84 g ((k:Int),2) (pr (eD (c.of k)));rw[Je] at i;exact⟨b,e,j,f1,l,f2,i⟩
theorem jj {w e:Xw}(h:xB w W)(b:Fr (·=a) W e)(i:w.heap.size<=a):xB w e :=
 ⟨b.os.trans h.os,b.tape.trans h.tape,b.output.trans h.output,aJ h.size b.size,λk g=>(b.block k (dD g h.size) (by omega)).trans (h.block k g)⟩
theorem xf (w:Xw)(h:br w N c d f)(hN:N<=w.heap.size) :
 xK 55 #[.agg #[d,f]] w (λe u=>∃a,e=.returned (.map (some a))/\w.heap.size<=a/\dF u c a/\xB w u):=by
 obtain⟨F,o,t,rfl,rfl,bk⟩:=h.shape;have J:=za h;obtain⟨bs,vs,b1,xs,bb,p⟩:=h.nd;cases bb;obtain⟨b3,a9,rfl⟩:=zB p.bZ;obtain⟨b2,a6,rfl⟩:=zB p.own;obtain⟨m0,m1,D,m3,m4,m5,bp,bq⟩:=zt p.aC;have I:=za p;have a1:=p.bO;have aV:=@run_makeMap prog;have bl:t<w.heap.size:=by omega
 have L:∀E R,((w.alloc E).alloc R).heap[w.heap.size]?=some E/\((w.alloc E).alloc R).heap[w.heap.size+1]?=some R:=λE R=>mh w E R;have r:=za L;clear h p L;go_enter func55,ntmps55;go_wp2_with fail;go_loopg [14] (c.nd.ak.length+1) (λj x wr=>∃k:Nat,k+j=c.nd.ak.length+1/\k<=c.nd.ak.length/\x=xI k/\aa (fb wr (w.heap.size+1) pr (eC c k))/\aa (xH wr w.heap.size #[xE F c o,xP t] 73)/\aa (xB w wr));case atStart=>exact⟨0,by omega,aE _,rfl,⟨#[],0,(r.o _ _).2,rfl⟩,(r.o _ _).1,cT w _ _⟩
 case round =>
  clear r m0 m1 D m3 m4 m5 bp bq aV;obtain⟨k,bg,b0,rfl,S,Z,G⟩:=hrel;have hO:=zm G.o hN;by_cases aL:k<c.nd.ak.length
  . obtain⟨v,hv⟩:∃v,c.nd.ak[k]?=some v:=⟨_,av aL⟩;obtain⟨g,rfl,c0,c1,c2,c3,c4,c5,c6⟩:=hj (I.o.am hO).bZ hv;have be:=I.o.jc g rfl;obtain⟨a2,s1,a3,T⟩:=zp Z.o;have Q:=S.o.lt;have a5:=za (J.o.am hO);have P:=G.o.size;have L:=mh wr (.cells #[.string v.nm,xI v.a,xI (dv v:Nat),xI (ba v:Nat),xI v.on,.string v.ck,xI v.ca] 95) (.cells #[xI 0,xI 0] 162);have r:=za L;have a0:=za hv;clear L hO hv;by_cases q:ba v=0
    . have s:(ba v:Int)=0:=(by omega);have O:=Jv a0.o q;rw[q] at c3 r;have Y:=za O;clear O q s;go_upto_region 8 with fail;refine zn (λW=>fb W (w.heap.size+1) pr (eC c k)/\xH W (wr.heap.size+1) #[xI ((c.of k).1:Nat),xI ((c.of k).2:Nat)] 162/\xB w W/\xH W w.heap.size #[xE F c o,xP t] 73) ⟨S.o.of ((cT wr _ _).block _ Q),by rw[Y.o];exact r.o.2,G.o.trans ((cT wr _ _).mono P),(Below.block (cT wr _ _) _ T).trans Z.o⟩ ?_;rintro W ⟨n,i,l,b⟩;obtain⟨W1,W2,bA,f1,bB,f2,D⟩:=yo n;obtain⟨o0,E,of,oz⟩:=zp i;have C:¬wr.heap.size+1=w.heap.size+1:=(by omega);obtain⟨p0,bt,bv,bx⟩:=zp ((f1.block _ oz C).trans i);have z:=za D;have y:=za (jj (jj l f1 (by omega)) f2 (by omega));have A:aa (xH W2 w.heap.size #[xE F c o,xP t] 73):=(f2.block _ (by have:=f1.size;have:=ze b;omega) (by omega)).trans ((f1.block _ (ze b) (by omega)).trans b);clear n i l b f1 f2 D;go_wp2_with fail;go_roundg (gk-1);case measure=>omega
      exact⟨k+1,by omega,by omega,by go_num,z.o,A.o,y.o⟩
    have s:¬(ba v:Int)=0:=(by omega);have O:=JF a0.o q;have Y:=za O;clear O q;go_upto_region 7 with fail;refine zn (λW=>fb W (w.heap.size+1) pr (eC c k)/\xB w W/\xH W w.heap.size #[xE F c o,xP t] 73/\xH W wr.heap.size #[.string v.nm,xI v.a,xI (dv v:Nat),xI (ba v:Nat),xI v.on,.string v.ck,xI v.ca] 95/\xH W (wr.heap.size+1) #[xI 0,xI 0] 162) ⟨S.o.of ((cT wr _ _).block _ Q),G.o.trans ((cT wr _ _).mono P),(Below.block (cT wr _ _) _ T).trans Z.o,r.o.1,r.o.2⟩ ?_;rintro W ⟨n,l,b,M,i⟩;obtain⟨a2,s1,a3,T⟩:=zp b;obtain⟨v0,v1,v2,v3,v4,v5,v6,bC,vz⟩:=eK M;obtain⟨z0,a4,bY,U⟩:=zp i;have aA:w.heap.size<=W.heap.size:=l.size;have X:=za (hW v.ck (v.ca:Int) W.drew (J.o.am (zm (zo l) hN)) (by show N<=W.heap.size;omega));have H:=za n;have V:=za l;have ar:=za b;have K:=za i;clear n l b M i v0 v1 v2 v4 bC c0 c1 c2 c3 c4 c5 c6
    go_region_held3 (λu=>u.cell? (xD w.heap.size 0)=some (xE F c o)/\u.cell? (xD w.heap.size 1)=some (xP t)/\u.cell? (xD wr.heap.size 3)=some (xI (ba v:Nat))/\u.cell? (xD wr.heap.size 5)=some (.string v.ck)/\u.cell? (xD wr.heap.size 6)=some (xI v.ca))
     (first|(with_reducible (refine⟨?_,?_,?_,?_,?_⟩ <;> repeat (first|assumption|refine zg ?_|refine zj _ ?_|refine zk (by omega) ?_|refine zd m.o ?_ (by first|omega|(rw[au];omega)))))|go_keep)
     (first|(go_at_call 61;refine X.o.mono ?_;rintro e w1 ⟨rfl,B⟩;have m:=za (zw B);have bo:=B.size;have bE:=zd m.o z0 U;have bK:=zd m.o a4 U;have bL:=lh ((m.o.block _ U).trans K.o);clear B))
    go_upto_region 8 with fail;refine zn (λW=>fb W (w.heap.size+1) pr (eC c k)/\xH W (wr.heap.size+1) #[xI ((c.of k).1:Nat),xI ((c.of k).2:Nat)] 162/\xB w W/\xH W w.heap.size #[xE F c o,xP t] 73) ⟨H.o.of (zr (by omega) (zr (by omega) (m.o.block _ H.o.lt))),by rw[Y.o];exact pa ((m.o.block _ U).trans K.o) _ _,zC (zC (V.o.trans (m.o.mono aA)) (by omega) _) (by omega) _,zr (by omega) (zr (by omega) ((m.o.block _ T).trans ar.o))⟩ ?_;clear a2 s1 a3 v3 v5 v6 z0 a4 bY bE bK bL;rintro W ⟨n,i,l,b⟩;obtain⟨W1,W2,bA,f1,bB,f2,D⟩:=yo n;obtain⟨o0,E,of,oz⟩:=zp i;have C:¬wr.heap.size+1=w.heap.size+1:=(by omega);obtain⟨p0,bt,bv,bx⟩:=zp ((f1.block _ oz C).trans i);have z:=za D;have y:=za (jj (jj l f1 (by omega)) f2 (by omega));have A:aa (xH W2 w.heap.size #[xE F c o,xP t] 73):=(f2.block _ (by have:=f1.size;have:=ze b;omega) (by omega)).trans ((f1.block _ (ze b) (by omega)).trans b);clear n i l b f1 f2 D;go_wp2_with fail;go_roundg (gk-1);case measure=>omega
    exact⟨k+1,by omega,by omega,by go_num,z.o,A.o,y.o⟩
  have ek:k=c.nd.ak.length:=by omega
  subst ek;go_wp2_with fail;go_ret;exact⟨_,rfl,by omega,S.o,G.o⟩
theorem HJ (t:Tm)(v:Xv)(i:Nat)(k:Nat×Nat)(w:Xw)(hT:TT w N t v)(K:br w N c d f)(S:dF w c a)(hN:N<=w.heap.size) :
 xK 161 #[.map (some a),.agg #[d,f],v,xI (i:Int),.agg #[xI (k.1:Nat),xI (k.2:Nat)]] w (λe l=>e=.returned (.agg #[xI ((c.operand t i k).1:Nat),xI ((c.operand t i k).2:Nat)])/\xB w l):=by
 obtain⟨H,p,G,rfl,rfl,aA⟩:=K.shape;obtain⟨b,ar,vs,rfl,aL,I,_⟩:=hT.ptr;have U:=ze I;clear hT;go_enter func161,ntmps161;go_upto_region 1 with fail;refine zn (λW=>(br W N c (xE H c p) (xP G)/\dF W c a/\xB w W)/\xH W w.heap.size #[xE H c p,xP G] 73/\xH W (w.heap.size+1) #[xI (k.1:Nat),xI (k.2:Nat)] 162/\xH W (w.heap.size+1+1) #[xI 0,xI 0] 162) ⟨⟨K.am (yR hN _ _ _),S.aq (mg w _ _ _),mg w _ _ _⟩,(iu w _ _ _).1,(iu w _ _ _).2.1,(iu w _ _ _).2.2⟩ ?_;rintro W ⟨⟨T,J,n⟩,M,O,r⟩;obtain⟨a2,s1,a3,sz⟩:=zp M;obtain⟨k0,aV,kf,kz⟩:=zp O;obtain⟨P,Q,a4,q⟩:=zp r;obtain⟨A,m1,m2,m3,m4,m5,a0,a1⟩:=zt ((n.block b U).trans I);have z:w.heap.size<=W.heap.size:=n.size;have x:=za (hW t.s (t.nm:Int) W.drew (T.am (λ_ _=>rfl)) (by show N<=W.heap.size;omega));clear M O m1 m4 m5;by_cases F:t.k=7
 . have m:=F;have y:c.operand t i k=c.of (c.idx t.s):=ag (ao m);have C:W.cell? (xD b 0)=some (xI 7):=by rw[A,m];rfl
   clear A m F;go_upto_region 4 with fail
   go_region_held3 (λl=>l.cell? (xD w.heap.size 0)=some (xE H c p)/\l.cell? (xD w.heap.size 1)=some (xP G)/\l.cell? (xD b 2)=some (.string t.s)/\l.cell? (xD b 3)=some (xI t.nm))
    (first|(with_reducible (refine⟨?_,?_,?_,?_⟩ <;> repeat (first|assumption|refine zg ?_|refine zj _ ?_|refine zk (by omega) ?_|refine zd j.o ?_ (by first|omega|(rw[au];omega))|refine zd g.o ?_ (by first|omega|(rw[au];omega)))))|go_keep)
    (first
      | (go_at_call 60;refine B.o.mono ?_;rintro e Y ⟨rfl,o⟩;have j:=za o;have X:u.heap.size<=Y.heap.size:=o.size;have D:=zd j.o (zd g.o P q) (by omega);have E:=zd j.o (zd g.o Q q) (by omega);have Z:=lh ((j.o.block _ (by omega)).trans ((g.o.block _ q).trans r));clear o)
      | (go_at_call 61;refine x.o.mono ?_;rintro e u ⟨rfl,h⟩;have g:=za (zw h);have s:W.heap.size<=u.heap.size:=h.size;have B:=za (jW (c.idx t.s) u (J.aq g.o));clear h))
   go_wp2_with fail;rw[y];refine ab (v:=.agg #[xI ((c.of (c.idx t.s)).1:Nat),xI ((c.of (c.idx t.s)).2:Nat)]) (by simp[results,results161,go_sem,D,E]) rfl ⟨rfl,zC (zC (n.trans ((g.o.trans (j.o.mono s)).mono z)) (by omega) _) (by omega) _⟩
 by_cases L:t.k=8
 . have m:=L;have y:c.operand t i k=c.of (c.idx t.s):=ag (ap m);have C:W.cell? (xD b 0)=some (xI 8):=by rw[A,m];rfl
   clear A m F L;go_upto_region 4 with fail
   go_region_held3 (λl=>l.cell? (xD w.heap.size 0)=some (xE H c p)/\l.cell? (xD w.heap.size 1)=some (xP G)/\l.cell? (xD b 2)=some (.string t.s)/\l.cell? (xD b 3)=some (xI t.nm))
    (first|(with_reducible (refine⟨?_,?_,?_,?_⟩ <;> repeat (first|assumption|refine zg ?_|refine zj _ ?_|refine zk (by omega) ?_|refine zd j.o ?_ (by first|omega|(rw[au];omega))|refine zd g.o ?_ (by first|omega|(rw[au];omega)))))|go_keep)
    (first
      | (go_at_call 60;refine B.o.mono ?_;rintro e Y ⟨rfl,o⟩;have j:=za o;have X:u.heap.size<=Y.heap.size:=o.size;have D:=zd j.o (zd g.o P q) (by omega);have E:=zd j.o (zd g.o Q q) (by omega);have Z:=lh ((j.o.block _ (by omega)).trans ((g.o.block _ q).trans r));clear o)
      | (go_at_call 61;refine x.o.mono ?_;rintro e u ⟨rfl,h⟩;have g:=za (zw h);have s:W.heap.size<=u.heap.size:=h.size;have B:=za (jW (c.idx t.s) u (J.aq g.o));clear h))
   go_wp2_with fail;rw[y];refine ab (v:=.agg #[xI ((c.of (c.idx t.s)).1:Nat),xI ((c.of (c.idx t.s)).2:Nat)]) (by simp[results,results161,go_sem,D,E]) rfl ⟨rfl,zC (zC (n.trans ((g.o.trans (j.o.mono s)).mono z)) (by omega) _) (by omega) _⟩
 by_cases m:t.k=6;by_cases R:0<i
 . have y:c.operand t i k=(c.idx t.s,2):=by unfold Sc.operand;rw[ae (by omega),ag m,ag R]
   have C:W.cell? (xD b 0)=some (xI 6):=(by rw[A,m];rfl);have V: (0:Int)<(i:Int):=(by omega);clear A m R F L;go_upto_region 9 with fail
   go_region_held3 (λl=>l.cell? (xD w.heap.size 0)=some (xE H c p)/\l.cell? (xD w.heap.size 1)=some (xP G)/\l.cell? (xD b 2)=some (.string t.s)/\l.cell? (xD b 3)=some (xI t.nm))
    (first|(with_reducible (refine⟨?_,?_,?_,?_⟩ <;> repeat (first|assumption|refine zg ?_|refine zj _ ?_|refine zk (by omega) ?_|refine zd g.o ?_ (by first|omega|(rw[au];omega)))))|go_keep)
    (first
      | (go_at_call 61;refine x.o.mono ?_;rintro e u ⟨rfl,h⟩;have g:=za (zw h);have s:W.heap.size<=u.heap.size:=h.size;have D:=zd g.o P q;have E:=zd g.o Q q;have Z:=lh ((g.o.block _ q).trans r);clear h))
   go_wp2_with fail;rw[y];refine ab (v:=.agg #[xI (c.idx t.s:Nat),xI 2]) (by simp[results,results161,go_sem,D,E]) rfl ⟨rfl,zC (zC (n.trans (g.o.mono z)) (by omega) _) (by omega) _⟩
 . have y:c.operand t i k=(c.idx t.s,1):=by unfold Sc.operand;rw[ae (by omega),ag m,ae R]
   have C:W.cell? (xD b 0)=some (xI 6):=(by rw[A,m];rfl);have V:¬(0:Int)<(i:Int):=(by omega);clear A m R F L;go_upto_region 9 with fail
   go_region_held3 (λl=>l.cell? (xD w.heap.size 0)=some (xE H c p)/\l.cell? (xD w.heap.size 1)=some (xP G)/\l.cell? (xD b 2)=some (.string t.s)/\l.cell? (xD b 3)=some (xI t.nm))
    (first|(with_reducible (refine⟨?_,?_,?_,?_⟩ <;> repeat (first|assumption|refine zg ?_|refine zj _ ?_|refine zk (by omega) ?_|refine zd g.o ?_ (by first|omega|(rw[au];omega)))))|go_keep)
    (first
      | (go_at_call 61;refine x.o.mono ?_;rintro e u ⟨rfl,h⟩;have g:=za (zw h);have s:W.heap.size<=u.heap.size:=h.size;have D:=zd g.o P q;have E:=zd g.o Q q;have Z:=lh ((g.o.block _ q).trans r);clear h))
   go_wp2_with fail;rw[y];refine ab (v:=.agg #[xI (c.idx t.s:Nat),xI 1]) (by simp[results,results161,go_sem,D,E]) rfl ⟨rfl,zC (zC (n.trans (g.o.mono z)) (by omega) _) (by omega) _⟩
 have y:c.operand t i k=k:=by unfold Sc.operand;rw[ae (by omega),ae m]
 have g7:¬(t.k:Int)=7:=by omega
 have g8:¬(t.k:Int)=8:=by omega
 have g6:¬(t.k:Int)=6:=by omega
 clear F L m;go_wp2_with fail;rw[y];refine ab (v:=.agg #[xI (k.1:Nat),xI (k.2:Nat)]) (by simp[results,results161,go_sem,P,Q]) rfl ⟨rfl,zC (zC n (by omega) _) (by omega) _⟩
end
section
variable {N:Nat} {c:Sc} {g:Tm->Nat×Nat->Bool} {w w':Xw} {T:World->Nat->Prop}
attribute [local go_sem ↓] Go.wp_at_zero Go.wp_at_succ
structure FT (T:World->Nat->Prop) (w w':Xw):Prop where
 fr:Fr (T w) w w'
 tk:∀k,T w' k->T w k∨w.heap.size<=k
theorem FT.trans {a b c:Xw}(d:FT T a b)(f:FT T b c):FT T a c:=by
 refine⟨⟨f.fr.os.trans d.fr.os,f.fr.tape.trans d.fr.tape,f.fr.output.trans d.fr.output,aJ d.fr.size f.fr.size,λk h i=>?_⟩,λk h=>?_⟩
 . refine (f.fr.block k (dD h d.fr.size) (λe=>?_)).trans (d.fr.block k h i);rcases d.tk k e with e|e
   . exact i e
   omega
 rcases f.tk k h with e|e
 . exact d.tk k e
 exact ap (aJ d.fr.size e)
theorem FT.below (h:xB w w')(a:∀k,T w' k->T w k):FT T w w':=⟨Fr.Mo h,λk e=>ao (a k e)⟩
theorem FT.const {T:Xj}(h:Fr T w w'):FT (λ_=>T) w w':=⟨h,λ_ e=>ao e⟩
theorem FT.cell {w:Xw}{b i:Nat}{v:Xv}(h:FT T w w')(d:w.cell? (xD b i)=some v)(e:¬T w b):w'.cell? (xD b i)=some v:=by
 have a:b<w.heap.size:=by
  rcases Nat.lt_or_ge b w.heap.size with h|h
  . exact h
  simp[World.cell?,Array.getElem?_eq_none h] at d
 exact (Z6 (w:=w) (h.fr.block b a e)).trans d
theorem FT.am (h:FT T w w')(a:N<=w.heap.size)(b:∀k,T w k->N<=k):bV N w w':=h.fr.am a b
mutual
def gK {σ:Type}(c:Sc)(g:Tm->Nat×Nat->Bool)(sE f:σ->Tm->Nat×Nat->σ):Tm->Nat×Nat->σ->σ
 | .mk x a s e n d,k,b=>f (if g (.mk x a s e n d) k=true then gu c g sE f (.mk x a s e n d) k d 0 (sE b (.mk x a s e n d) k) else sE b (.mk x a s e n d) k) (.mk x a s e n d) k
def gu {σ:Type}(c:Sc)(g:Tm->Nat×Nat->Bool)(sE f:σ->Tm->Nat×Nat->σ)(t:Tm)(k:Nat×Nat):List Tm->Nat->σ->σ
 | [],_,b=>b
 | u::l,i,b=>gu c g sE f t k l (i+1) (gK c g sE f u (c.operand t i k) b)
end
def hG (k:Nat×Nat):Value:=.agg #[xI (k.1:Nat),xI (k.2:Nat)]
structure yH {σ:Type} (N:Nat) (c:Sc) (ev nv:Xv) (cb:Nat) (T:World->Nat->Prop) (FE:FuncId) (cE:Xa) (FL:FuncId) (cL:Xa) (Pt:Tm->Nat×Nat->Prop) (g:Tm->Nat×Nat->Bool) (sE sL:σ->Tm->Nat×Nat->σ) (I:σ->World->Prop) (Bd:σ->Prop):Prop where
 sJ:zH FE
 sK:zH FL
 hT:∀s w k,I s w->T w k->N<=k/\k<w.heap.size/\¬k=cb
 aq:∀s w w',I s w->xB w w'->I s w'/\∀k,T w' k->T w k
 sub:∀t k i u,Pt t k->g t k=true->t.ts[i]?=some u->Pt u (c.operand t i k)
 bE:∀s t k,Bd (sE s t k)->Bd s
 bL:∀s t k,Bd (sL s t k)->Bd s
 sG:∀t v k s w,TT w N t v->N<=w.heap.size->br w N c ev nv->dF w c cb->I s w->Pt t k->Bd (sE s t k)->xK FE (#[v,hG k]++cE) w (λe w'=>e=.returned (.bool (g t k))/\I (sE s t k) w'/\FT T w w')
 p5:∀t v k s w,TT w N t v->N<=w.heap.size->br w N c ev nv->dF w c cb->I s w->Pt t k->Bd (sL s t k)->xK FL (#[v,hG k]++cL) w (λe w'=>e=.returned (.tuple #[])/\I (sL s t k) w'/\FT T w w')
theorem G9 {σ:Type}{sE f:σ->Tm->Nat×Nat->σ}{Bd:σ->Prop}(m:∀s t k,Bd (sE s t k)->Bd s)(p:∀s t k,Bd (f s t k)->Bd s):∀(t:Tm) (k:Nat×Nat) (s:σ),Bd (gK c g sE f t k s)->Bd s:=by
 intro t;induction t using Tm.ind with
 | h x a s y n j v =>
   intro k b h;have q:∀(l:List Tm),(∀u∈l,u∈j)->∀(i:Nat) (b:σ),Bd (gu c g sE f (.mk x a s y n j) k l i b)->Bd b:=by
    intro l;induction l with
    | nil=>intro _ i b h;exact h
    | cons u l e => intro o i b h;rw[gu] at h;exact v u (o u (Mx ..)) _ _ (e (λu r=>o u (cS _ r)) _ _ h)
   rw[gK] at h;have d:=p _ _ _ h;split at d
   . exact m _ _ _ (q j (λ_ h=>h) _ _ d)
   exact m _ _ _ d
theorem yc {σ:Type}{sE b:σ->Tm->Nat×Nat->σ}{a:σ->Prop}(d:∀s t k,a (sE s t k)->a s)(e:∀s t k,a (b s t k)->a s)(t:Tm)(k:Nat×Nat):∀(l:List Tm) (i:Nat) (s:σ),a (gu c g sE b t k l i s)->a s:=by
 intro l;induction l with
 | nil=>intro i s h;exact h
 | cons u l f => intro i s h;rw[gu] at h;exact G9 d e u _ s (f _ _ h)
theorem HA {σ:Type}{ev nv:Xv}{Y:Nat}{FE:FuncId}{cE:Xa}{FL:FuncId}{cB:Xa}{cA:Tm->Nat×Nat->Prop}{sE y:σ->Tm->Nat×Nat->σ}{I:σ->World->Prop}{bK:σ->Prop}(o:yH N c ev nv Y T FE cE FL cB cA g sE y I bK) :
 ∀(t:Tm) (k:Nat×Nat) (v:Xv) (s:σ) (w:Xw),TT w N t v->N<=w.heap.size->br w N c ev nv->dF w c Y->I s w->cA t k->bK (gK c g sE y t k s) ->
  xK 110 #[.map (some Y),.agg #[ev,nv],v,hG k,.func (.func FE) #[] cE,.func (.func FL) #[] cB] w (λd w'=>d=.returned (.tuple #[])/\I (gK c g sE y t k s) w'/\FT T w w'):=by
 intro t;induction t using Tm.ind with
 | h l a m n p e ch =>
   intro k v s w h hN cR di cO b1 G;obtain⟨bE,F,nb,rfl,rfl,ds⟩:=cR.shape;obtain⟨b,q,vs,rfl,B,bB,M,bC,be,cv⟩:=h.ptr;have dl:∀(q:Xa) (w:Xw),(callFunc FE q).run prog w=.ok (.enter FE q) w:=o.sJ;have dp:∀(q:Xa) (w:Xw),(callFunc FL q).run prog w=.ok (.enter FL q) w:=o.sK;have c4:=za h;have c3:=za cR;have c2:=za di;have bY:=za cO;have E:=za M;have L:=za bB;have a9:=za cv;obtain⟨x,cK,rfl⟩:=zB M;have aV:vs.length=e.length:=bC;rw[aV] at E L a9;have K:=za (λk=>o.hT s w k cO);unfold hG;go_enter func110,ntmps110;go_upto_region 1 with fail;refine zn (λW=>(TT W N (.mk l a m n p e) (xP b)/\N<=W.heap.size/\br W N c (xE bE c F) (xP nb)/\dF W c Y/\I s W)/\FT T w W/\xH W w.heap.size #[xE bE c F,xP nb] 73/\xH W (w.heap.size+1) #[xI (k.1:Nat),xI (k.2:Nat)] 162/\¬T W w.heap.size/\¬T W (w.heap.size+1)) ⟨⟨c4.o.am (j8 hN _ _),by rw[au,au];omega,c3.o.am (j8 hN _ _),c2.o.aq (cT w _ _),(o.aq _ _ _ bY.o (cT w _ _)).1⟩,FT.below (cT w _ _) (o.aq _ _ _ bY.o (cT w _ _)).2,(mh w _ _).1,(mh w _ _).2,λd=>by have:=(K.out _ ((o.aq s w _ bY.o (cT w _ _)).2 _ d)).2.1;omega,λd=>by have:=(K.out _ ((o.aq s w _ bY.o (cT w _ _)).2 _ d)).2.1;omega⟩ ?_;rintro W ⟨⟨bv,aA,bs,Z,ar⟩,H,b2,b3,n0,n1⟩;have cs:bK (sE s (.mk l a m n p e) k):=by
    have B:=G;rw[gK] at B;have aL:=o.bL _ _ _ B;split at aL
    . exact yc o.bE o.bL _ _ _ _ _ aL
    exact aL
   have C:=za (o.sG _ _ k s W bv aA bs Z ar b1 cs);have V:∀s1 r,I s1 r->FT T W r->(TT r N (.mk l a m n p e) (xP b)/\N<=r.heap.size/\br r N c (xE bE c F) (xP nb)/\dF r c Y)/\bV N W r/\r.heap[w.heap.size]?=some (.cells #[xE bE c F,xP nb] 73 (0,0))/\r.heap[w.heap.size+1]?=some (.cells #[xI (k.1:Nat),xI (k.2:Nat)] 162 (0,0))/\¬T r w.heap.size/\¬T r (w.heap.size+1):=by
    intro s1 r A f;have hO:bV N W r:=f.am aA (λk d=>(o.hT s W k ar d).1);refine⟨⟨bv.am hO,aJ aA f.fr.size,bs.am hO,Z.gh (f.fr.block Y Z.lt (λd=>(o.hT s W Y ar d).2.2 rfl))⟩,hO,(f.fr.block _ (ze b2) n0).trans b2,(f.fr.block _ (ze b3) n1).trans b3,λd=>(f.tk _ d).elim n0 (λh=>?_),λd=>(f.tk _ d).elim n1 (λh=>?_)⟩
    . have:=ze b2;omega
    have:=ze b3;omega
   obtain⟨x0,x1,er,es⟩:=zp b2;obtain⟨ex,eE,eF,eG⟩:=zp b3;have dk:b<W.heap.size:=(by omega);have ck:aa (xH W b #[xI l,xI a,.string m,xI n,xI p,.slice x e.length cK] 211):=(H.fr.block b (by omega) (λd=>by have:=(K.out b d).1;omega)).trans L.o;have cl:aa (bV N w W):=H.am hN (λk d=>(K.out k d).1);unfold hG at C;cases a4:g (.mk l a m n p e) k with
   | false =>
     rw[a4] at C;have d:gK c g sE y (.mk l a m n p e) k s=y (sE s (.mk l a m n p e) k) (.mk l a m n p e) k:=(by unfold gK;rw[a4];rfl);go_wp2_with fail;with_reducible refine C.o.mono ?_
     rintro d r ⟨rfl,A,f⟩;obtain⟨⟨bt,bl,bq,bk⟩,bo,bx,bA,m0,m1⟩:=V _ r A f;have D:=za (o.p5 _ _ k _ r bt bl bq bk A b1 (by have B:=G;rw[d] at B;exact B));unfold hG at D;obtain⟨p0,c0,dH,dL⟩:=zp bx;obtain⟨q0,c1,qf,dM⟩:=zp bA;have P:=za f;go_wp2_with fail;with_reducible refine D.o.mono ?_
     rintro d w2 ⟨rfl,S,Q⟩;go_wp2_with fail;go_end0;rw[d];exact⟨rfl,S,(H.trans P.o).trans Q⟩
   | true =>
     rw[a4] at C;have d:gK c g sE y (.mk l a m n p e) k s=y (gu c g sE y (.mk l a m n p e) k e 0 (sE s (.mk l a m n p e) k)) (.mk l a m n p e) k:=(by rw[gK,ag a4]);go_wp2_with fail;with_reducible refine C.o.mono ?_
     rintro d r ⟨rfl,A,f⟩;obtain⟨⟨bt,bl,bq,bk⟩,bo,bx,bA,m0,m1⟩:=V _ r A f;obtain⟨dV,dY,ea,eb,ek,em,rf,eq⟩:=zt ((bo b B).trans ck.o);have cb:=za A;have P:=za f;have dc:e.length<=9223372036854775807:=by
      have:=E.o;rcases this.2 with ⟨_,h⟩|⟨g,c6,c9,hv,_,_,h3,h4,_⟩
      . omega
      unfold maxLen at h4;omega
     go_wp2_with fail;go_loopg [23] (e.length+1) (λj x wr=>∃(i:Nat) (a1:σ),i+j=e.length+1/\i<=e.length/\x=xI i/\aa (I a1 wr)/\aa (gu c g sE y (.mk l a m n p e) k e 0 (sE s (.mk l a m n p e) k)=gu c g sE y (.mk l a m n p e) k (e.drop i) i a1)/\aa (FT T W wr));case atStart=>exact⟨0,_,by omega,aE _,rfl,cb.o,rfl,P.o⟩
     case round =>
      obtain⟨i,a1,dq,hi,rfl,U,bL,R⟩:=hrel;obtain⟨⟨a5,J,X,O⟩,cm,cn,co,m0,m1⟩:=V _ wr U.o R.o;obtain⟨p0,c0,dH,dL⟩:=zp cn;obtain⟨q0,c1,qf,dM⟩:=zp co;by_cases cz:i<e.length
      . obtain⟨t,b4⟩:∃t,e[i]?=some t:=⟨_,av cz⟩;obtain⟨u,hu⟩:∃u,vs[i]?=some u:=⟨_,av (by omega)⟩;have bp:bV N w wr:=cl.o.trans cm;have a0:wr.ownsRow 0 157 1 (.slice x e.length cK) e.length vs:=zi E.o (λj _ _ d=>bp j (a9.o j d));obtain⟨g',rfl,ct⟩:=nB a0 hu;have a6:=(be i t u b4 hu).am bp;obtain⟨dP,_,_,rfl,_⟩:=a6.ptr;have ce:=za (HJ (.mk l a m n p e) (xP b) i k wr.drew (a5.am (λ_ _=>rfl)) (X.am (λ_ _=>rfl)) (O.gh rfl) J);have bb:=za (aM b4);have cg:=za (o.sub _ k i t b1 a4 b4);have a2:aa (gu c g sE y (.mk l a m n p e) k e 0 (sE s (.mk l a m n p e) k)=gu c g sE y (.mk l a m n p e) k (e.drop (i+1)) (i+1) (gK c g sE y t (c.operand (.mk l a m n p e) i k) a1)):=(by obtain⟨h1,h2⟩:=aB.1 b4;unfold aa;rw[bL.o,dE h1,gu,h2]);have ca:aa (bK (gK c g sE y t (c.operand (.mk l a m n p e) i k) a1)):=(by have B:=G;rw[d,a2.o] at B;exact yc o.bE o.bL _ _ _ _ _ (o.bL _ _ _ B));go_upto_region 5 with fail
        go_region_held3 (λw'=>w'.cell? (xD w.heap.size 0)=some (xE bE c F)/\w'.cell? (xD w.heap.size 1)=some (xP nb)/\w'.cell? (xD (w.heap.size+1) 0)=some (xI (k.1:Nat))/\w'.cell? (xD (w.heap.size+1) 1)=some (xI (k.2:Nat)))
         (first|(refine⟨?_,?_,?_,?_⟩ <;> repeat (first|with_reducible exact p0|with_reducible exact c0|with_reducible exact q0|with_reducible exact c1|with_reducible refine zg ?_|with_reducible refine a3.cell ?_ (by assumption)|with_reducible refine zd z.o ?_ (by omega)))|go_keep)
         (first
           | (go_at_call 110;refine c5.o.mono ?_;rintro d w5 ⟨rfl,cd,a3⟩)
           | (go_at_call 161;refine ce.o.mono ?_;rintro d w4 ⟨rfl,bg⟩;have z:=za (zw bg);have du:wr.heap.size<=w4.heap.size:=bg.size;have b0:=za (o.aq _ _ _ U.o z.o);have dw:¬T w4 w.heap.size:=(λd=>m0 (b0.o.2 _ d));have dz:¬T w4 (w.heap.size+1):=(λd=>m1 (b0.o.2 _ d));have c5:=za (ch t bb.o (c.operand (.mk l a m n p e) i k) _ a1 w4 (a6.am (zm z.o J)) (by omega) (X.am (zm z.o J)) (O.aq z.o) b0.o.1 cg.o ca.o)))
        go_wp2_with fail;go_roundg (gk-1);case measure=>omega
        exact⟨i+1,_,by omega,by omega,by go_num,cd,a2.o,(R.o.trans (FT.below z.o b0.o.2)).trans a3⟩
      have da:i=e.length:=(by omega);subst da;rw[List.drop_length,gu] at bL;have D:=za (o.p5 _ _ k _ wr a5 J X O U.o b1 (by have B:=G;rw[d,bL.o] at B;exact B));unfold hG at D;go_wp2_with fail;with_reducible refine D.o.mono ?_
      rintro d w2 ⟨rfl,S,Q⟩;go_wp2_with fail;go_end0;refine⟨rfl,?_,(H.trans R.o).trans Q⟩;rw[d,bL.o];exact S
end
section
variable {N m z y j r C lb p:Nat} {S:Xs} {g:Xo} {c:Sc} {D A E B:Xv} {w f:Xw}
attribute [local go_sem ↓] Go.wp_at_zero Go.wp_at_succ
structure iq (S:Xs) (C lb j p:Nat) (E D:Xv) (N:Nat) (c:Sc) (A B:Xv) (r m z y:Nat) (g:Xo) (w:Xw):Prop where
 rp:Fx S C lb j p E D g w
 sc:br w N c A B
 ck:dF w c r
 x1:w.heap[m]?=some (.cells #[A,B] 201 (0,0))
 x2:w.heap[z]?=some (.cells #[.map (some r)] 84 (0,0))
 x3:w.heap[y]?=some (.cells #[bT lb j p] 199 (0,0))
 d:∀b,b=m∨b=z∨b=y∨b=r->¬b=lb/\¬b=j
 l1:N<=lb
 l2:N<=j
 hN:N<=w.heap.size
theorem iq.aq (h:iq S C lb j p E D N c A B r m z y g w)(a:xB w f):iq S C lb j p E D N c A B r m z y g f :=
 ⟨h.rp.aq a,h.sc.am (zm a h.hN),h.ck.aq a,(a.block _ (ze h.x1)).trans h.x1,(a.block _ (ze h.x2)).trans h.x2,(a.block _ (ze h.x3)).trans h.x3,h.d,h.l1,h.l2,aJ h.hN a.size⟩
theorem iq.aX {d:Xo}(h:iq S C lb j p E D N c A B r m z y g w)(n:Fx S C lb j p E D d f)(a:Fr (RT lb j) w f):iq S C lb j p E D N c A B r m z y d f:=by
 have i:∀{b},(b=m∨b=z∨b=y∨b=r)->¬RT lb j b:=λl e=>by rcases e with e|e;exact (h.d _ l).1 e;exact (h.d _ l).2 e
 exact⟨n,h.sc.am (a.am h.hN (λk e=>by rcases e with e|e;exact e▸h.l1;exact e▸h.l2)),h.ck.gh (a.block _ h.ck.lt (i (by simp))),(a.block _ (ze h.x1) (i (by simp))).trans h.x1,(a.block _ (ze h.x2) (i (by simp))).trans h.x2,(a.block _ (ze h.x3) (i (by simp))).trans h.x3,h.d,h.l1,h.l2,aJ h.hN a.size⟩
theorem K6:zH 162:=λ_ _=>by kernel_rfl
theorem XW:zH 112:=λ_ _=>by kernel_rfl
theorem xo (k:Nat)(w:Xw):xK 163 #[xI (k:Int)] w (λe f=>e=.returned (xI (lz k:Nat))/\w=f):=by
 unfold lz;by_cases h:k=8
 . subst h;rw[ag rfl];go_enter func163,ntmps163;go_wp2_with fail;go_ret;exact⟨rfl,rfl⟩
 rw[ae h];have a:¬(k:Int)=8:=by omega
 go_enter func163,ntmps163;go_wp2_with fail;go_ret;exact⟨rfl,rfl⟩
theorem GP (w:Xw):xK 163 #[xI 7] w (λe f=>e=.returned (xI 1)/\w=f):=xo 7 w
theorem GM (w:Xw):xK 163 #[xI 8] w (λe f=>e=.returned (xI 2)/\w=f):=xo 8 w
theorem Kl (v:Xv)(k:Nat×Nat)(w:Xw):xK 112 #[v,hG k] w (λe f=>e=.returned (.tuple #[])/\xB w f):=by
 unfold hG;go_enter func112,ntmps112;go_wp2_with fail;first|go_end0|refine ab (results_none rfl _ _ _) rfl ?_
 exact⟨rfl,zq w _⟩
theorem Jh (A B:Xv)(r lb j p:Nat)(w:Xw)(l:Xp)(n b:Nat)(k:Nat)(d:A=.slice l n b)(i:B=xP k) :
 xK 111 #[.agg #[A,B],.map (some r),bT lb j p] w (λe f=>e=.returned (.func (.func 162) #[] #[xP (w.heap.size+1),xP w.heap.size,xP (w.heap.size+1+1)])/\xB w f/\f.heap[w.heap.size]?=some (.cells #[A,B] 201 (0,0))/\f.heap[w.heap.size+1]?=some (.cells #[.map (some r)] 84 (0,0))/\f.heap[w.heap.size+1+1]?=some (.cells #[bT lb j p] 199 (0,0))/\f.heap.size=w.heap.size+1+1+1):=by
 subst d i;unfold bT;have h:∀(fn:Go.Fn) (first a:Xa) (w:Xw),(Instr.makeFunc fn first a).run prog w=.ok (.func fn first a) w:=λ_ _ _ _=>rfl;go_enter func111,ntmps111;go_wp2_with fail;go_ret;exact⟨rfl,mg w _ _ _,(iu w _ _ _).1,(iu w _ _ _).2.1,(iu w _ _ _).2.2,by simp⟩
theorem Ka (S:Xs)(C lb j p:Nat)(E D:Xv)(N:Nat)(c:Sc)(A B:Xv)(r m z y:Nat)(t:Tm)(v:Xv)(k:Nat×Nat)(g:Xo)(w:Xw)(hT:TT w N t v)(K:iq S C lb j p E D N c A B r m z y g w) :
 xK 162 #[v,hG k,xP z,xP m,xP y] w (λe f=>e=.returned (.bool (c.cr t k).2)/\iq S C lb j p E D N c A B r m z y ((c.cr t k).1.foldl aj g) f/\Fr (RT lb j) w f):=by
 obtain⟨ar,M,Y,rfl,rfl,be⟩:=K.sc.shape;obtain⟨b,a3,vs,rfl,bo,Q,_⟩:=hT.ptr;have hN:=K.hN;have aL:=ze Q;have l1:=K.l1;have l2:=K.l2;have d1:=K.d m (by simp);have d2:=K.d z (by simp);have d3:=K.d y (by simp);obtain⟨d11,d12⟩:=d1;obtain⟨d21,d22⟩:=d2;obtain⟨d31,d32⟩:=d3;have a5:¬b=lb:=by omega
 have a4:¬b=j:=by omega
 have bx:=ze K.rp.l;have bv:=ze K.rp.b;obtain⟨s,u⟩:=k;unfold hG;go_enter func162,ntmps162;go_upto_region 1 with fail;refine zn (λW=>iq S C lb j p E D N c (xE ar c M) (xP Y) r m z y g W/\xB w W/\xH W w.heap.size #[xI (s:Nat),xI (u:Nat)] 162) ⟨K.aq (zq w _),zq w _,zc w _⟩ ?_;rintro W ⟨i,x,aA⟩;obtain⟨bs,s1,bt,sz⟩:=zp i.x1;obtain⟨c0,bl,cz⟩:=zu i.x2;obtain⟨p0,bq,a2⟩:=zu i.x3;obtain⟨k0,bk,kf,kz⟩:=zp aA;obtain⟨m0,m1,m2,m3,m4,m5,bp,a1⟩:=zt ((x.block b aL).trans Q);have a9:w.heap.size<=W.heap.size:=x.size;have P:=za (hW t.s (t.nm:Int) W.drew (i.sc.am (λ_ _=>rfl)) (by show N<=W.heap.size;omega));unfold bT at p0;by_cases h3:t.k=3∨t.k=6
 . have F:aa (c.cr t (s,u)=(if c.of (c.idx t.s)=(s,u) then [] else [t.nm],true)):=ag (by rcases h3 with hk|hk <;> rw[hk] <;> decide);obtain⟨⟨Z,o2⟩,a6⟩:∃o,c.of (c.idx t.s)=o:=⟨_,rfl⟩;rw[a6] at F;have cs:((Z:Int)=(s:Int)/\(o2:Int)=(u:Int))∨((Z:Int)=(s:Int)/\¬(o2:Int)=(u:Int))∨¬(Z:Int)=(s:Int):=by omega
   rcases h3 with hk|hk <;> rcases cs with ⟨e1,T⟩|⟨e1,T⟩|e1
   all_goals
    rw[hk] at m0
    first
     | rw[ag (Prod.ext (by show Z=s;omega) (by show o2=u;omega))] at F
     | rw[ae (λh=>by have U:=congrArg Prod.fst h;have V:=congrArg Prod.snd h;simp only at U V;omega)] at F
    go_upto_region 4 with fail
    go_region_held3 (λf=>f.cell? (xD z 0)=some (.map (some r))/\f.cell? (xD m 0)=some (xE ar c M)/\f.cell? (xD m 1)=some (xP Y)/\f.cell? (xD b 2)=some (.string t.s)/\f.cell? (xD b 3)=some (xI t.nm)/\f.cell? (xD w.heap.size 0)=some (xI (s:Nat))/\f.cell? (xD w.heap.size 1)=some (xI (u:Nat)))
     (first|(with_reducible (refine⟨?_,?_,?_,?_,?_,?_,?_⟩ <;> repeat (first|assumption|refine zg ?_|refine zj _ ?_|refine zk (by omega) ?_|refine zd L.o ?_ (by first|omega|(rw[au];omega))|refine zd d.o ?_ (by first|omega|(rw[au];omega)))))|go_keep)
     (first
       | (go_at_call 60;refine R.o.mono ?_;rintro e w2 ⟨rfl,X⟩;have L:=za X;have bg:O.heap.size<=w2.heap.size:=X.size)
       | (go_at_call 61;refine P.o.mono ?_;rintro e O ⟨rfl,G⟩;have d:=za (zw G);have J:W.heap.size<=O.heap.size:=G.size;have R:=za (jW (c.idx t.s) O (i.ck.aq d.o));(rw[a6] at R)))
    first
     | (go_wp2_with fail
        go_ret;rw[F.o];exact⟨rfl,i.aq (d.o.trans (L.o.mono J)),(zy x).trans (zy (d.o.trans (L.o.mono J)))⟩)
     | (go_upto_region 5 with fail
        have a:=za (d.o.trans (L.o.mono J));have g1:=zd a.o p0 a2;have g2:=zd a.o m3 a1;have n:=za (eg S C lb j p E D g t.nm w2.drew ((i.aq a.o).rp.aq (zo (yS _ _))))
        go_region_held3 (λf=>f.cell? (xD y 0)=some (.func (.func 117) #[] #[xP lb,xP j,xP p])/\f.cell? (xD b 3)=some (xI t.nm))
         (first|(with_reducible (refine⟨?_,?_⟩ <;> repeat (first|assumption|refine zg ?_|refine zS l.o ?_ (by omega) (by omega))))|go_keep)
         (first|(go_at_call 117;refine (n.o).mono ?_;rintro e w6 ⟨rfl,I,H⟩;have l:=za H.cQ))
        go_wp2_with fail;go_ret;rw[F.o];refine⟨rfl,?_,((zy x).trans (zy a.o)).trans l.o⟩;exact (i.aq a.o).aX I l.o)
 by_cases h7:t.k=7
 . have a0:W.cell? (xD b 0)=some (xI 7):=by rw[m0,h7];rfl
   have F:aa (c.cr t (s,u)=(if (s,u)=(c.idx t.s,1) then ([],true) else ([t.a],false))):=(by show c.cr t _=_;unfold Sc.cr;rw[ae (by omega),ag (by omega),h7];rfl);have cs:((s:Int)=(c.idx t.s:Int)/\(u:Int)=1)∨((s:Int)=(c.idx t.s:Int)/\¬(u:Int)=1)∨¬(s:Int)=(c.idx t.s:Int):=(by omega);rcases cs with ⟨e1,T⟩|⟨e1,T⟩|e1
   all_goals
    first
     | rw[ag (Prod.ext (by show s=_;omega) (by show u=_;omega))] at F
     | rw[ae (λh=>by have U:=congrArg Prod.fst h;have V:=congrArg Prod.snd h;simp only at U V;omega)] at F
    go_upto_region 8 with fail
    go_region_held3 (λf=>f.cell? (xD m 0)=some (xE ar c M)/\f.cell? (xD m 1)=some (xP Y)/\f.cell? (xD b 0)=some (xI 7)/\f.cell? (xD b 2)=some (.string t.s)/\f.cell? (xD b 3)=some (xI t.nm)/\f.cell? (xD w.heap.size 0)=some (xI (s:Nat))/\f.cell? (xD w.heap.size 1)=some (xI (u:Nat)))
     (first|(with_reducible (refine⟨?_,?_,?_,?_,?_,?_,?_⟩ <;> repeat (first|assumption|refine zg ?_|refine zj _ ?_|refine zk (by omega) ?_|refine zd d.o ?_ (by first|omega|(rw[au];omega)))))|go_keep)
     (first
       | (go_at_call 163;refine (GP _).mono ?_;rintro e w2 ⟨rfl,rfl⟩)
       | (go_at_call 61;refine P.o.mono ?_;rintro e O ⟨rfl,G⟩;have d:=za (zw G);have J:W.heap.size<=O.heap.size:=G.size))
    first
     | (go_wp2_with fail
        go_ret;rw[F.o];exact⟨rfl,i.aq d.o,(zy x).trans (zy d.o)⟩)
     | (go_upto_region 9 with fail
        have a:=za (d.o);have g1:=zd a.o p0 a2;have g2:=zd a.o m1 a1;have n:=za (eg S C lb j p E D g t.a O.drew ((i.aq a.o).rp.aq (zo (yS _ _))))
        go_region_held3 (λf=>f.cell? (xD y 0)=some (.func (.func 117) #[] #[xP lb,xP j,xP p])/\f.cell? (xD b 1)=some (xI t.a))
         (first|(with_reducible (refine⟨?_,?_⟩ <;> repeat (first|assumption|refine zg ?_|refine zS l.o ?_ (by omega) (by omega))))|go_keep)
         (first|(go_at_call 117;refine (n.o).mono ?_;rintro e w6 ⟨rfl,I,H⟩;have l:=za H.cQ))
        go_wp2_with fail;go_ret;rw[F.o];refine⟨rfl,?_,((zy x).trans (zy a.o)).trans l.o⟩;exact (i.aq a.o).aX I l.o)
 by_cases h8:t.k=8
 . have a0:W.cell? (xD b 0)=some (xI 8):=by rw[m0,h8];rfl
   have F:aa (c.cr t (s,u)=(if (s,u)=(c.idx t.s,2) then ([],true) else ([t.a],false))):=(by show c.cr t _=_;unfold Sc.cr;rw[ae (by omega),ag (by omega),h8];rfl);have cs:((s:Int)=(c.idx t.s:Int)/\(u:Int)=2)∨((s:Int)=(c.idx t.s:Int)/\¬(u:Int)=2)∨¬(s:Int)=(c.idx t.s:Int):=(by omega);rcases cs with ⟨e1,T⟩|⟨e1,T⟩|e1
   all_goals
    first
     | rw[ag (Prod.ext (by show s=_;omega) (by show u=_;omega))] at F
     | rw[ae (λh=>by have U:=congrArg Prod.fst h;have V:=congrArg Prod.snd h;simp only at U V;omega)] at F
    go_upto_region 8 with fail
    go_region_held3 (λf=>f.cell? (xD m 0)=some (xE ar c M)/\f.cell? (xD m 1)=some (xP Y)/\f.cell? (xD b 0)=some (xI 8)/\f.cell? (xD b 2)=some (.string t.s)/\f.cell? (xD b 3)=some (xI t.nm)/\f.cell? (xD w.heap.size 0)=some (xI (s:Nat))/\f.cell? (xD w.heap.size 1)=some (xI (u:Nat)))
     (first|(with_reducible (refine⟨?_,?_,?_,?_,?_,?_,?_⟩ <;> repeat (first|assumption|refine zg ?_|refine zj _ ?_|refine zk (by omega) ?_|refine zd d.o ?_ (by first|omega|(rw[au];omega)))))|go_keep)
     (first
       | (go_at_call 163;refine (GM _).mono ?_;rintro e w2 ⟨rfl,rfl⟩)
       | (go_at_call 61;refine P.o.mono ?_;rintro e O ⟨rfl,G⟩;have d:=za (zw G);have J:W.heap.size<=O.heap.size:=G.size))
    first
     | (go_wp2_with fail
        go_ret;rw[F.o];exact⟨rfl,i.aq d.o,(zy x).trans (zy d.o)⟩)
     | (go_upto_region 9 with fail
        have a:=za (d.o);have g1:=zd a.o p0 a2;have g2:=zd a.o m1 a1;have n:=za (eg S C lb j p E D g t.a O.drew ((i.aq a.o).rp.aq (zo (yS _ _))))
        go_region_held3 (λf=>f.cell? (xD y 0)=some (.func (.func 117) #[] #[xP lb,xP j,xP p])/\f.cell? (xD b 1)=some (xI t.a))
         (first|(with_reducible (refine⟨?_,?_⟩ <;> repeat (first|assumption|refine zg ?_|refine zS l.o ?_ (by omega) (by omega))))|go_keep)
         (first|(go_at_call 117;refine (n.o).mono ?_;rintro e w6 ⟨rfl,I,H⟩;have l:=za H.cQ))
        go_wp2_with fail;go_ret;rw[F.o];refine⟨rfl,?_,((zy x).trans (zy a.o)).trans l.o⟩;exact (i.aq a.o).aX I l.o)
 have aV:∀q,c.cr t q=([],true):=λq=>by unfold Sc.cr;rw[ae (by omega),ae (by omega)]
 have F:=za (aV (s,u));have g3:¬(t.k:Int)=3:=by omega
 have g6:¬(t.k:Int)=6:=by omega
 have g7:¬(t.k:Int)=7:=by omega
 have g8:¬(t.k:Int)=8:=by omega
 go_wp2_with fail;go_ret;rw[F.o];exact⟨rfl,i,zy x⟩
theorem KN (S:Xs)(C lb j p:Nat)(E D:Xv)(N:Nat)(c:Sc)(A B:Xv)(r m z y:Nat) :
 yH N c A B r (λ_=>RT lb j) 162 #[xP z,xP m,xP y] 112 #[] (λ_ _=>True) (λt k=>(c.cr t k).2) (λg t k=>(c.cr t k).1.foldl aj g) (λg _ _=>g) (iq S C lb j p E D N c A B r m z y) (λ_=>True) where
 bE:=λ_ _ _ _=>trivial
 bL:=λ_ _ _ _=>trivial
 sJ:=K6
 sK:=XW
 hT:=λs w k a e=>by
  have h:=a.d r (by simp);rcases e with e|e
  . subst e;exact⟨a.l1,ze a.rp.l,λe=>h.1 e.symm⟩
  subst e;exact⟨a.l2,ze a.rp.b,λe=>h.2 e.symm⟩
 aq:=λs w f h l=>⟨h.aq l,λ_ e=>e⟩
 sub:=λ_ _ _ _ _ _ _=>trivial
 sG:=λt v k s w hT o q n a _ _=>by refine (Ka S C lb j p E D N c A B r m z y t v k s w hT a).mono ?_;rintro e f ⟨d,b,i⟩;exact⟨d,b,FT.const i⟩
 p5:=λt v k s w hT o q n a _ _=>by refine (Kl v k w).mono ?_;rintro e f ⟨d,b⟩;exact⟨d,a.aq b,FT.const (zy b)⟩
theorem J4 (c:Sc):∀(t:Tm) (k:Nat×Nat) (g:Xo),gK c (λt k=>(c.cr t k).2) (λg t k=>(c.cr t k).1.foldl aj g) (λg _ _=>g) t k g=(fQ c t k).foldl aj g:=by
 intro t;induction t using Tm.ind with
 | h x a s o n b F =>
   intro k g;have q:∀(l:List Tm),(∀u∈l,u∈b)->∀(i:Nat) (g:Xo),gu c (λt k=>(c.cr t k).2) (λg t k=>(c.cr t k).1.foldl aj g) (λg _ _=>g) (.mk x a s o n b) k l i g=(k6 c (.mk x a s o n b) k l i).foldl aj g:=by
    intro l;induction l with
    | nil=>intro _ i g;rfl
    | cons u l d => intro e i g;rw[gu,k6,bc,d (λu v=>e u (cS _ v)),F u (e u (Mx ..))]
   rw[gK,fQ,bc];split
   . rw[q b (λ_ h=>h)]
   rfl
end
end Go.Proofs.YtcnelakggnfnhaaGreatDoor
