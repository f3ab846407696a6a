/- Part 14 of the proof. -/
import Derived.LaidEqlPtr
import Derived.Test.YtbicmofihhjgbaaGreatDoorK12
set_option maxRecDepth 100000
set_option maxHeartbeats 8000000
namespace Go.Proofs.YtbicmofihhjgbaaGreatDoor
open Go.Proofs.Tryz
open Go.RowKit
section
variable {N a k:Nat} {c:Sc} {d f:Xv} {v:Vr} {W:Xw}
attribute [local go_sem ↓] Go.wp_at_zero Go.wp_at_succ
theorem Jv (b:c.nd.ak[k]?=some v)(h:ba v=0):c.of k=(0,0):=by unfold Sc.of;rw[b];exact ag h
theorem JF (b:c.nd.ak[k]?=some v)(h:¬ba v=0):c.of k=(c.idx v.ck,ba v):=by unfold Sc.of;rw[b];exact ae h
theorem yo (h:fb W a pr (eC c k)) :
 ∃b e,(Instr.mapUpdate 123 (.map (some a)) (.agg #[xI (k:Int),xI 1]) (.agg #[xI ((c.of k).1:Nat),xI ((c.of k).2:Nat)])).run prog W=.ok () b/\Fr (·=a) W b/\(Instr.mapUpdate 123 (.map (some a)) (.agg #[xI (k:Int),xI 2]) (.agg #[xI ((c.of k).1:Nat),xI ((c.of k).2:Nat)])).run prog b=.ok () e/\Fr (·=a) b e/\fb e a pr (eC c (k+1)):=by
 obtain⟨b,j,g,f1⟩:=pq Tryz.qe underlying123 h ((k:Int),1) (pr (eD (c.of k)));rw[Jy] at g;obtain⟨e,l,i,f2⟩:=pq Tryz.qe underlying123 g ((k:Int),2) (pr (eD (c.of k)));rw[Je] at i;exact⟨b,e,j,f1,l,f2,i⟩
theorem jj {w e:Xw}(h:xB w W)(b:Fr (·=a) W e)(i:w.heap.size<=a):xB w e :=
 ⟨b.os.trans h.os,b.tape.trans h.tape,b.output.trans h.output,aJ h.size b.size,λk g=>(b.block k (dD g h.size) (by omega)).trans (h.block k g)⟩
theorem xf (w:Xw)(h:br w N c d f)(hN:N<=w.heap.size) :
 xK 99 #[.agg #[d,f]] w (λe u=>∃a,e=.returned (.map (some a))/\w.heap.size<=a/\dF u c a/\xB w u):=by
 obtain⟨F,o,t,rfl,rfl,bl⟩:=h.shape;have J:=za h;obtain⟨bt,b3,b2,xs,be,p⟩:=h.nd;cases be;obtain⟨ca,bb,rfl⟩:=zB p.bZ;obtain⟨b4,a9,rfl⟩:=zB p.own;obtain⟨m0,m1,D,m3,m4,m5,bq,bs⟩:=zt p.aC;have I:=za p;have a1:=p.bO;have aV:=@run_makeMap prog;have bo:t<w.heap.size:=by omega
 have L:∀E R,((w.alloc E).alloc R).heap[w.heap.size]?=some E/\((w.alloc E).alloc R).heap[w.heap.size+1]?=some R:=λE R=>mh w E R;have r:=za L;clear h p L;go_enter func99,ntmps99;go_wp2_with fail;go_loopg [14] (c.nd.ak.length+1) (λj x wr=>∃k:Nat,k+j=c.nd.ak.length+1/\k<=c.nd.ak.length/\x=xI k/\aa (fb wr (w.heap.size+1) pr (eC c k))/\aa (xH wr w.heap.size #[xE F c o,xP t] 114)/\aa (xB w wr));case atStart=>exact⟨0,by omega,aE _,rfl,⟨#[],0,(r.o _ _).2,rfl⟩,(r.o _ _).1,cT w _ _⟩
 case round =>
  clear r m0 m1 D m3 m4 m5 bq bs aV;obtain⟨k,bk,b1,rfl,S,Z,G⟩:=hrel;have hO:=zm G.o hN;by_cases aL:k<c.nd.ak.length
  . obtain⟨v,hv⟩:∃v,c.nd.ak[k]?=some v:=⟨_,av aL⟩;obtain⟨g,rfl,c0,c1,c2,c3,c4,c5,c6⟩:=hj (I.o.am hO).bZ hv;have bg:=I.o.jc g rfl;obtain⟨a2,s1,a3,T⟩:=zp Z.o;have Q:=S.o.lt;have a5:=za (J.o.am hO);have P:=G.o.size;have L:=mh wr (.cells #[.string v.nm,xI v.a,xI (dv v:Nat),xI (ba v:Nat),xI v.on,.string v.ck,xI v.ca] 134) (.cells #[xI 0,xI 0] 198);have r:=za L;have a0:=za hv;clear L hO hv;by_cases q:ba v=0
    . have s:(ba v:Int)=0:=(by omega);have O:=Jv a0.o q;rw[q] at c3 r;have Y:=za O;clear O q s;go_upto_region 8 with fail;refine zn (λW=>fb W (w.heap.size+1) pr (eC c k)/\xH W (wr.heap.size+1) #[xI ((c.of k).1:Nat),xI ((c.of k).2:Nat)] 198/\xB w W/\xH W w.heap.size #[xE F c o,xP t] 114) ⟨S.o.of ((cT wr _ _).block _ Q),by rw[Y.o];exact r.o.2,G.o.trans ((cT wr _ _).mono P),(Below.block (cT wr _ _) _ T).trans Z.o⟩ ?_;rintro W ⟨n,i,l,b⟩;obtain⟨a6,ar,bB,f1,bC,f2,D⟩:=yo n;obtain⟨o0,E,of,oz⟩:=zp i;have C:¬wr.heap.size+1=w.heap.size+1:=(by omega);obtain⟨p0,bv,bx,bA⟩:=zp ((f1.block _ oz C).trans i);have z:=za D;have y:=za (jj (jj l f1 (by omega)) f2 (by omega));have A:aa (xH ar w.heap.size #[xE F c o,xP t] 114):=(f2.block _ (by have:=f1.size;have:=ze b;omega) (by omega)).trans ((f1.block _ (ze b) (by omega)).trans b);clear n i l b f1 f2 D;go_wp2_with fail;go_roundg (gk-1);case measure=>omega
      exact⟨k+1,by omega,by omega,by go_num,z.o,A.o,y.o⟩
    have s:¬(ba v:Int)=0:=(by omega);have O:=JF a0.o q;have Y:=za O;clear O q;go_upto_region 7 with fail;refine zn (λW=>fb W (w.heap.size+1) pr (eC c k)/\xB w W/\xH W w.heap.size #[xE F c o,xP t] 114/\xH W wr.heap.size #[.string v.nm,xI v.a,xI (dv v:Nat),xI (ba v:Nat),xI v.on,.string v.ck,xI v.ca] 134/\xH W (wr.heap.size+1) #[xI 0,xI 0] 198) ⟨S.o.of ((cT wr _ _).block _ Q),G.o.trans ((cT wr _ _).mono P),(Below.block (cT wr _ _) _ T).trans Z.o,r.o.1,r.o.2⟩ ?_;rintro W ⟨n,l,b,M,i⟩;obtain⟨a2,s1,a3,T⟩:=zp b;obtain⟨v0,v1,v2,v3,v4,v5,v6,bE,vz⟩:=eK M;obtain⟨z0,a4,b0,U⟩:=zp i;have aA:w.heap.size<=W.heap.size:=l.size;have X:=za (hW v.ck (v.ca:Int) W.drew (J.o.am (zm (zo l) hN)) (by show N<=W.heap.size;omega));have H:=za n;have V:=za l;have ab:=za b;have K:=za i;clear n l b M i v0 v1 v2 v4 bE c0 c1 c2 c3 c4 c5 c6
    go_region_held3 (λu=>u.cell? (xD w.heap.size 0)=some (xE F c o)/\u.cell? (xD w.heap.size 1)=some (xP t)/\u.cell? (xD wr.heap.size 3)=some (xI (ba v:Nat))/\u.cell? (xD wr.heap.size 5)=some (.string v.ck)/\u.cell? (xD wr.heap.size 6)=some (xI v.ca))
     (first|(with_reducible (refine⟨?_,?_,?_,?_,?_⟩ <;> repeat (first|assumption|refine zg ?_|refine zj _ ?_|refine zk (by omega) ?_|refine zd m.o ?_ (by first|omega|(rw[au];omega)))))|go_keep)
     (first|(go_at_call 105;refine X.o.mono ?_;rintro e w1 ⟨rfl,B⟩;have m:=za (zw B);have bp:=B.size;have bK:=zd m.o z0 U;have bL:=zd m.o a4 U;have bY:=lh ((m.o.block _ U).trans K.o);clear B))
    go_upto_region 8 with fail;refine zn (λW=>fb W (w.heap.size+1) pr (eC c k)/\xH W (wr.heap.size+1) #[xI ((c.of k).1:Nat),xI ((c.of k).2:Nat)] 198/\xB w W/\xH W w.heap.size #[xE F c o,xP t] 114) ⟨H.o.of (zr (by omega) (zr (by omega) (m.o.block _ H.o.lt))),by rw[Y.o];exact pa ((m.o.block _ U).trans K.o) _ _,zC (zC (V.o.trans (m.o.mono aA)) (by omega) _) (by omega) _,zr (by omega) (zr (by omega) ((m.o.block _ T).trans ab.o))⟩ ?_;clear a2 s1 a3 v3 v5 v6 z0 a4 b0 bK bL bY;rintro W ⟨n,i,l,b⟩;obtain⟨a6,ar,bB,f1,bC,f2,D⟩:=yo n;obtain⟨o0,E,of,oz⟩:=zp i;have C:¬wr.heap.size+1=w.heap.size+1:=(by omega);obtain⟨p0,bv,bx,bA⟩:=zp ((f1.block _ oz C).trans i);have z:=za D;have y:=za (jj (jj l f1 (by omega)) f2 (by omega));have A:aa (xH ar w.heap.size #[xE F c o,xP t] 114):=(f2.block _ (by have:=f1.size;have:=ze b;omega) (by omega)).trans ((f1.block _ (ze b) (by omega)).trans b);clear n i l b f1 f2 D;go_wp2_with fail;go_roundg (gk-1);case measure=>omega
    exact⟨k+1,by omega,by omega,by go_num,z.o,A.o,y.o⟩
  have ek:k=c.nd.ak.length:=by omega
  subst ek;go_wp2_with fail;go_ret;exact⟨_,rfl,by omega,S.o,G.o⟩
theorem HJ (t:Tm)(v:Xv)(i:Nat)(k:Nat×Nat)(w:Xw)(hT:TT w N t v)(K:br w N c d f)(S:dF w c a)(hN:N<=w.heap.size) :
 xK 176 #[.map (some a),.agg #[d,f],v,xI (i:Int),.agg #[xI (k.1:Nat),xI (k.2:Nat)]] w (λe l=>e=.returned (.agg #[xI ((c.operand t i k).1:Nat),xI ((c.operand t i k).2:Nat)])/\xB w l):=by
 obtain⟨H,p,G,rfl,rfl,ar⟩:=K.shape;obtain⟨b,ab,a3,rfl,aA,I,_⟩:=hT.ptr;have U:=ze I;clear hT;go_enter func176,ntmps176;go_upto_region 1 with fail;refine zn (λW=>(br W N c (xE H c p) (xP G)/\dF W c a/\xB w W)/\xH W w.heap.size #[xE H c p,xP G] 114/\xH W (w.heap.size+1) #[xI (k.1:Nat),xI (k.2:Nat)] 198/\xH W (w.heap.size+1+1) #[xI 0,xI 0] 198) ⟨⟨K.am (yR hN _ _ _),S.aq (mg w _ _ _),mg w _ _ _⟩,(iu w _ _ _).1,(iu w _ _ _).2.1,(iu w _ _ _).2.2⟩ ?_;rintro W ⟨⟨T,J,n⟩,M,O,r⟩;obtain⟨a1,s1,a2,sz⟩:=zp M;obtain⟨k0,aL,kf,kz⟩:=zp O;obtain⟨P,Q,a4,q⟩:=zp r;obtain⟨A,m1,m2,m3,m4,m5,aV,a0⟩:=zt ((n.block b U).trans I);have z:w.heap.size<=W.heap.size:=n.size;have x:=za (hW t.s (t.nm:Int) W.drew (T.am (λ_ _=>rfl)) (by show N<=W.heap.size;omega));clear M O m1 m4 m5;by_cases F:t.k=7
 . have m:=F;have y:c.operand t i k=c.of (c.idx t.s):=ag (ao m);have C:W.cell? (xD b 0)=some (xI 7):=by rw[A,m];rfl
   clear A m F;go_upto_region 4 with fail
   go_region_held3 (λl=>l.cell? (xD w.heap.size 0)=some (xE H c p)/\l.cell? (xD w.heap.size 1)=some (xP G)/\l.cell? (xD b 2)=some (.string t.s)/\l.cell? (xD b 3)=some (xI t.nm))
    (first|(with_reducible (refine⟨?_,?_,?_,?_⟩ <;> repeat (first|assumption|refine zg ?_|refine zj _ ?_|refine zk (by omega) ?_|refine zd j.o ?_ (by first|omega|(rw[au];omega))|refine zd g.o ?_ (by first|omega|(rw[au];omega)))))|go_keep)
    (first
      | (go_at_call 104;refine B.o.mono ?_;rintro e Y ⟨rfl,o⟩;have j:=za o;have X:u.heap.size<=Y.heap.size:=o.size;have D:=zd j.o (zd g.o P q) (by omega);have E:=zd j.o (zd g.o Q q) (by omega);have Z:=lh ((j.o.block _ (by omega)).trans ((g.o.block _ q).trans r));clear o)
      | (go_at_call 105;refine x.o.mono ?_;rintro e u ⟨rfl,h⟩;have g:=za (zw h);have s:W.heap.size<=u.heap.size:=h.size;have B:=za (jW (c.idx t.s) u (J.aq g.o));clear h))
   go_wp2_with fail;rw[y];refine bodyPost_ret (v:=.agg #[xI ((c.of (c.idx t.s)).1:Nat),xI ((c.of (c.idx t.s)).2:Nat)]) (by simp[results,results176,go_sem,D,E]) rfl ⟨rfl,zC (zC (n.trans ((g.o.trans (j.o.mono s)).mono z)) (by omega) _) (by omega) _⟩
 by_cases L:t.k=8
 . have m:=L;have y:c.operand t i k=c.of (c.idx t.s):=ag (ap m);have C:W.cell? (xD b 0)=some (xI 8):=by rw[A,m];rfl
   clear A m F L;go_upto_region 4 with fail
   go_region_held3 (λl=>l.cell? (xD w.heap.size 0)=some (xE H c p)/\l.cell? (xD w.heap.size 1)=some (xP G)/\l.cell? (xD b 2)=some (.string t.s)/\l.cell? (xD b 3)=some (xI t.nm))
    (first|(with_reducible (refine⟨?_,?_,?_,?_⟩ <;> repeat (first|assumption|refine zg ?_|refine zj _ ?_|refine zk (by omega) ?_|refine zd j.o ?_ (by first|omega|(rw[au];omega))|refine zd g.o ?_ (by first|omega|(rw[au];omega)))))|go_keep)
    (first
      | (go_at_call 104;refine B.o.mono ?_;rintro e Y ⟨rfl,o⟩;have j:=za o;have X:u.heap.size<=Y.heap.size:=o.size;have D:=zd j.o (zd g.o P q) (by omega);have E:=zd j.o (zd g.o Q q) (by omega);have Z:=lh ((j.o.block _ (by omega)).trans ((g.o.block _ q).trans r));clear o)
      | (go_at_call 105;refine x.o.mono ?_;rintro e u ⟨rfl,h⟩;have g:=za (zw h);have s:W.heap.size<=u.heap.size:=h.size;have B:=za (jW (c.idx t.s) u (J.aq g.o));clear h))
   go_wp2_with fail;rw[y];refine bodyPost_ret (v:=.agg #[xI ((c.of (c.idx t.s)).1:Nat),xI ((c.of (c.idx t.s)).2:Nat)]) (by simp[results,results176,go_sem,D,E]) rfl ⟨rfl,zC (zC (n.trans ((g.o.trans (j.o.mono s)).mono z)) (by omega) _) (by omega) _⟩
 by_cases m:t.k=6;by_cases R:0<i
 . have y:c.operand t i k=(c.idx t.s,2):=by unfold Sc.operand;rw[ae (by omega),ag m,ag R]
   have C:W.cell? (xD b 0)=some (xI 6):=(by rw[A,m];rfl);have V: (0:Int)<(i:Int):=(by omega);clear A m R F L;go_upto_region 9 with fail
   go_region_held3 (λl=>l.cell? (xD w.heap.size 0)=some (xE H c p)/\l.cell? (xD w.heap.size 1)=some (xP G)/\l.cell? (xD b 2)=some (.string t.s)/\l.cell? (xD b 3)=some (xI t.nm))
    (first|(with_reducible (refine⟨?_,?_,?_,?_⟩ <;> repeat (first|assumption|refine zg ?_|refine zj _ ?_|refine zk (by omega) ?_|refine zd g.o ?_ (by first|omega|(rw[au];omega)))))|go_keep)
    (first
      | (go_at_call 105;refine x.o.mono ?_;rintro e u ⟨rfl,h⟩;have g:=za (zw h);have s:W.heap.size<=u.heap.size:=h.size;have D:=zd g.o P q;have E:=zd g.o Q q;have Z:=lh ((g.o.block _ q).trans r);clear h))
   go_wp2_with fail;rw[y];refine bodyPost_ret (v:=.agg #[xI (c.idx t.s:Nat),xI 2]) (by simp[results,results176,go_sem,D,E]) rfl ⟨rfl,zC (zC (n.trans (g.o.mono z)) (by omega) _) (by omega) _⟩
 . have y:c.operand t i k=(c.idx t.s,1):=by unfold Sc.operand;rw[ae (by omega),ag m,ae R]
   have C:W.cell? (xD b 0)=some (xI 6):=(by rw[A,m];rfl);have V:¬(0:Int)<(i:Int):=(by omega);clear A m R F L;go_upto_region 9 with fail
   go_region_held3 (λl=>l.cell? (xD w.heap.size 0)=some (xE H c p)/\l.cell? (xD w.heap.size 1)=some (xP G)/\l.cell? (xD b 2)=some (.string t.s)/\l.cell? (xD b 3)=some (xI t.nm))
    (first|(with_reducible (refine⟨?_,?_,?_,?_⟩ <;> repeat (first|assumption|refine zg ?_|refine zj _ ?_|refine zk (by omega) ?_|refine zd g.o ?_ (by first|omega|(rw[au];omega)))))|go_keep)
    (first
      | (go_at_call 105;refine x.o.mono ?_;rintro e u ⟨rfl,h⟩;have g:=za (zw h);have s:W.heap.size<=u.heap.size:=h.size;have D:=zd g.o P q;have E:=zd g.o Q q;have Z:=lh ((g.o.block _ q).trans r);clear h))
   go_wp2_with fail;rw[y];refine bodyPost_ret (v:=.agg #[xI (c.idx t.s:Nat),xI 1]) (by simp[results,results176,go_sem,D,E]) rfl ⟨rfl,zC (zC (n.trans (g.o.mono z)) (by omega) _) (by omega) _⟩
 have y:c.operand t i k=k:=by unfold Sc.operand;rw[ae (by omega),ae m]
 have g7:¬(t.k:Int)=7:=by omega
 have g8:¬(t.k:Int)=8:=by omega
 have g6:¬(t.k:Int)=6:=by omega
 clear F L m;go_wp2_with fail;rw[y];refine bodyPost_ret (v:=.agg #[xI (k.1:Nat),xI (k.2:Nat)]) (by simp[results,results176,go_sem,P,Q]) rfl ⟨rfl,zC (zC n (by omega) _) (by omega) _⟩
end
section
variable {N:Nat} {c:Sc} {g:Tm->Nat×Nat->Bool} {w w':Xw} {T:World->Nat->Prop}
attribute [local go_sem ↓] Go.wp_at_zero Go.wp_at_succ
structure FT (T:World->Nat->Prop) (w w':Xw):Prop where
 fr:Fr (T w) w w'
 tk:∀k,T w' k->T w k∨w.heap.size<=k
theorem FT.trans {a b c:Xw}(d:FT T a b)(f:FT T b c):FT T a c:=by
 refine⟨⟨f.fr.os.trans d.fr.os,f.fr.tape.trans d.fr.tape,f.fr.output.trans d.fr.output,aJ d.fr.size f.fr.size,λk h i=>?_⟩,λk h=>?_⟩
 . refine (f.fr.block k (dD h d.fr.size) (λe=>?_)).trans (d.fr.block k h i);rcases d.tk k e with e|e
   . exact i e
   omega
 rcases f.tk k h with e|e
 . exact d.tk k e
 exact ap (aJ d.fr.size e)
theorem FT.below (h:xB w w')(a:∀k,T w' k->T w k):FT T w w':=⟨Fr.Mo h,λk e=>ao (a k e)⟩
theorem FT.const {T:Xj}(h:Fr T w w'):FT (λ_=>T) w w':=⟨h,λ_ e=>ao e⟩
theorem FT.cell {w:Xw}{b i:Nat}{v:Xv}(h:FT T w w')(d:w.cell? (xD b i)=some v)(e:¬T w b):w'.cell? (xD b i)=some v:=by
 have a:b<w.heap.size:=by
  rcases Nat.lt_or_ge b w.heap.size with h|h
  . exact h
  simp[World.cell?,Array.getElem?_eq_none h] at d
 exact (World.cell?_of_block (w:=w) (h.fr.block b a e)).trans d
theorem FT.am (h:FT T w w')(a:N<=w.heap.size)(b:∀k,T w k->N<=k):bV N w w':=h.fr.am a b
mutual
def gK {σ:Type}(c:Sc)(g:Tm->Nat×Nat->Bool)(sE f:σ->Tm->Nat×Nat->σ):Tm->Nat×Nat->σ->σ
 | .mk x a s e n d,k,b=>f (if g (.mk x a s e n d) k=true then gu c g sE f (.mk x a s e n d) k d 0 (sE b (.mk x a s e n d) k) else sE b (.mk x a s e n d) k) (.mk x a s e n d) k
def gu {σ:Type}(c:Sc)(g:Tm->Nat×Nat->Bool)(sE f:σ->Tm->Nat×Nat->σ)(t:Tm)(k:Nat×Nat):List Tm->Nat->σ->σ
 | [],_,b=>b
 | u::l,i,b=>gu c g sE f t k l (i+1) (gK c g sE f u (c.operand t i k) b)
end
def hG (k:Nat×Nat):Value:=.agg #[xI (k.1:Nat),xI (k.2:Nat)]
structure yH {σ:Type} (N:Nat) (c:Sc) (ev nv:Xv) (cb:Nat) (T:World->Nat->Prop) (FE:FuncId) (cE:Xa) (FL:FuncId) (cL:Xa) (Pt:Tm->Nat×Nat->Prop) (g:Tm->Nat×Nat->Bool) (sE sL:σ->Tm->Nat×Nat->σ) (I:σ->World->Prop) (Bd:σ->Prop):Prop where
 sJ:zH FE
 sK:zH FL
 hT:∀s w k,I s w->T w k->N<=k/\k<w.heap.size/\¬k=cb
 aq:∀s w w',I s w->xB w w'->I s w'/\∀k,T w' k->T w k
 sub:∀t k i u,Pt t k->g t k=true->t.ts[i]?=some u->Pt u (c.operand t i k)
 bE:∀s t k,Bd (sE s t k)->Bd s
 bL:∀s t k,Bd (sL s t k)->Bd s
 sG:∀t v k s w,TT w N t v->N<=w.heap.size->br w N c ev nv->dF w c cb->I s w->Pt t k->Bd (sE s t k)->xK FE (#[v,hG k]++cE) w (λe w'=>e=.returned (.bool (g t k))/\I (sE s t k) w'/\FT T w w')
 p5:∀t v k s w,TT w N t v->N<=w.heap.size->br w N c ev nv->dF w c cb->I s w->Pt t k->Bd (sL s t k)->xK FL (#[v,hG k]++cL) w (λe w'=>e=.returned (.tuple #[])/\I (sL s t k) w'/\FT T w w')
theorem G9 {σ:Type}{sE f:σ->Tm->Nat×Nat->σ}{Bd:σ->Prop}(m:∀s t k,Bd (sE s t k)->Bd s)(p:∀s t k,Bd (f s t k)->Bd s):∀(t:Tm) (k:Nat×Nat) (s:σ),Bd (gK c g sE f t k s)->Bd s:=by
 intro t;induction t using Tm.ind with
 | h x a s y n j v =>
   intro k b h;have q:∀(l:List Tm),(∀u∈l,u∈j)->∀(i:Nat) (b:σ),Bd (gu c g sE f (.mk x a s y n j) k l i b)->Bd b:=by
    intro l;induction l with
    | nil=>intro _ i b h;exact h
    | cons u l e => intro o i b h;rw[gu] at h;exact v u (o u (Mx ..)) _ _ (e (λu r=>o u (cS _ r)) _ _ h)
   rw[gK] at h;have d:=p _ _ _ h;split at d
   . exact m _ _ _ (q j (λ_ h=>h) _ _ d)
   exact m _ _ _ d
theorem yc {σ:Type}{sE b:σ->Tm->Nat×Nat->σ}{a:σ->Prop}(d:∀s t k,a (sE s t k)->a s)(e:∀s t k,a (b s t k)->a s)(t:Tm)(k:Nat×Nat):∀(l:List Tm) (i:Nat) (s:σ),a (gu c g sE b t k l i s)->a s:=by
 intro l;induction l with
 | nil=>intro i s h;exact h
 | cons u l f => intro i s h;rw[gu] at h;exact G9 d e u _ s (f _ _ h)
theorem HA {σ:Type}{ev nv:Xv}{Y:Nat}{FE:FuncId}{cE:Xa}{FL:FuncId}{cB:Xa}{cA:Tm->Nat×Nat->Prop}{sE y:σ->Tm->Nat×Nat->σ}{I:σ->World->Prop}{bE:σ->Prop}(o:yH N c ev nv Y T FE cE FL cB cA g sE y I bE) :
 ∀(t:Tm) (k:Nat×Nat) (v:Xv) (s:σ) (w:Xw),TT w N t v->N<=w.heap.size->br w N c ev nv->dF w c Y->I s w->cA t k->bE (gK c g sE y t k s) ->
  xK 133 #[.map (some Y),.agg #[ev,nv],v,hG k,.func (.func FE) #[] cE,.func (.func FL) #[] cB] w (λd w'=>d=.returned (.tuple #[])/\I (gK c g sE y t k s) w'/\FT T w w'):=by
 intro t;induction t using Tm.ind with
 | h l a m n p e cg =>
   intro k v s w h hN cR di cO b0 G;obtain⟨bC,F,nb,rfl,rfl,ds⟩:=cR.shape;obtain⟨b,q,cz,rfl,B,bA,M,bB,bb,ct⟩:=h.ptr;have dl:∀(q:Xa) (w:Xw),(callFunc FE q).run prog w=.ok (.enter FE q) w:=o.sJ;have dp:∀(q:Xa) (w:Xw),(callFunc FL q).run prog w=.ok (.enter FL q) w:=o.sK;have c4:=za h;have c3:=za cR;have c2:=za di;have bL:=za cO;have E:=za M;have L:=za bA;have a6:=za ct;obtain⟨x,cK,rfl⟩:=zB M;have aL:cz.length=e.length:=bB;rw[aL] at E L a6;have K:=za (λk=>o.hT s w k cO);unfold hG;go_enter func133,ntmps133;go_upto_region 1 with fail;refine zn (λW=>(TT W N (.mk l a m n p e) (xP b)/\N<=W.heap.size/\br W N c (xE bC c F) (xP nb)/\dF W c Y/\I s W)/\FT T w W/\xH W w.heap.size #[xE bC c F,xP nb] 114/\xH W (w.heap.size+1) #[xI (k.1:Nat),xI (k.2:Nat)] 198/\¬T W w.heap.size/\¬T W (w.heap.size+1)) ⟨⟨c4.o.am (j8 hN _ _),by rw[au,au];omega,c3.o.am (j8 hN _ _),c2.o.aq (cT w _ _),(o.aq _ _ _ bL.o (cT w _ _)).1⟩,FT.below (cT w _ _) (o.aq _ _ _ bL.o (cT w _ _)).2,(mh w _ _).1,(mh w _ _).2,λd=>by have:=(K.out _ ((o.aq s w _ bL.o (cT w _ _)).2 _ d)).2.1;omega,λd=>by have:=(K.out _ ((o.aq s w _ bL.o (cT w _ _)).2 _ d)).2.1;omega⟩ ?_;rintro W ⟨⟨bt,ar,bq,Z,ab⟩,H,b1,b2,n0,n1⟩;have co:bE (sE s (.mk l a m n p e) k):=by
    have B:=G;rw[gK] at B;have aA:=o.bL _ _ _ B;split at aA
    . exact yc o.bE o.bL _ _ _ _ _ aA
    exact aA
   have C:=za (o.sG _ _ k s W bt ar bq Z ab b0 co);have V:∀s1 r,I s1 r->FT T W r->(TT r N (.mk l a m n p e) (xP b)/\N<=r.heap.size/\br r N c (xE bC c F) (xP nb)/\dF r c Y)/\bV N W r/\r.heap[w.heap.size]?=some (.cells #[xE bC c F,xP nb] 114 (0,0))/\r.heap[w.heap.size+1]?=some (.cells #[xI (k.1:Nat),xI (k.2:Nat)] 198 (0,0))/\¬T r w.heap.size/\¬T r (w.heap.size+1):=by
    intro s1 r A f;have hO:bV N W r:=f.am ar (λk d=>(o.hT s W k ab d).1);refine⟨⟨bt.am hO,aJ ar f.fr.size,bq.am hO,Z.gh (f.fr.block Y Z.lt (λd=>(o.hT s W Y ab d).2.2 rfl))⟩,hO,(f.fr.block _ (ze b1) n0).trans b1,(f.fr.block _ (ze b2) n1).trans b2,λd=>(f.tk _ d).elim n0 (λh=>?_),λd=>(f.tk _ d).elim n1 (λh=>?_)⟩
    . have:=ze b1;omega
    have:=ze b2;omega
   obtain⟨x0,x1,er,es⟩:=zp b1;obtain⟨ex,eE,eF,eG⟩:=zp b2;have dk:b<W.heap.size:=(by omega);have ch:aa (xH W b #[xI l,xI a,.string m,xI n,xI p,.slice x e.length cK] 226):=(H.fr.block b (by omega) (λd=>by have:=(K.out b d).1;omega)).trans L.o;have ck:aa (bV N w W):=H.am hN (λk d=>(K.out k d).1);unfold hG at C;cases a3:g (.mk l a m n p e) k with
   | false =>
     rw[a3] at C;have d:gK c g sE y (.mk l a m n p e) k s=y (sE s (.mk l a m n p e) k) (.mk l a m n p e) k:=(by unfold gK;rw[a3];rfl);go_wp2_with fail;with_reducible refine C.o.mono ?_
     rintro d r ⟨rfl,A,f⟩;obtain⟨⟨bs,bk,bp,bg⟩,bl,bv,bx,m0,m1⟩:=V _ r A f;have D:=za (o.p5 _ _ k _ r bs bk bp bg A b0 (by have B:=G;rw[d] at B;exact B));unfold hG at D;obtain⟨p0,c0,dH,dL⟩:=zp bv;obtain⟨q0,c1,qf,dM⟩:=zp bx;have P:=za f;go_wp2_with fail;with_reducible refine D.o.mono ?_
     rintro d w2 ⟨rfl,S,Q⟩;go_wp2_with fail;go_end0;rw[d];exact⟨rfl,S,(H.trans P.o).trans Q⟩
   | true =>
     rw[a3] at C;have d:gK c g sE y (.mk l a m n p e) k s=y (gu c g sE y (.mk l a m n p e) k e 0 (sE s (.mk l a m n p e) k)) (.mk l a m n p e) k:=(by rw[gK,ag a3]);go_wp2_with fail;with_reducible refine C.o.mono ?_
     rintro d r ⟨rfl,A,f⟩;obtain⟨⟨bs,bk,bp,bg⟩,bl,bv,bx,m0,m1⟩:=V _ r A f;obtain⟨dV,dY,ea,eb,ek,em,rf,eq⟩:=zt ((bl b B).trans ch.o);have ca:=za A;have P:=za f;have dc:e.length<=9223372036854775807:=by
      have:=E.o;rcases this.2 with ⟨_,h⟩|⟨g,c6,c9,hv,_,_,h3,h4,_⟩
      . omega
      unfold maxLen at h4;omega
     go_wp2_with fail;go_loopg [23] (e.length+1) (λj x wr=>∃(i:Nat) (a0:σ),i+j=e.length+1/\i<=e.length/\x=xI i/\aa (I a0 wr)/\aa (gu c g sE y (.mk l a m n p e) k e 0 (sE s (.mk l a m n p e) k)=gu c g sE y (.mk l a m n p e) k (e.drop i) i a0)/\aa (FT T W wr));case atStart=>exact⟨0,_,by omega,aE _,rfl,ca.o,rfl,P.o⟩
     case round =>
      obtain⟨i,a0,dq,hi,rfl,U,bK,R⟩:=hrel;obtain⟨⟨a4,J,X,O⟩,cl,cm,cn,m0,m1⟩:=V _ wr U.o R.o;obtain⟨p0,c0,dH,dL⟩:=zp cm;obtain⟨q0,c1,qf,dM⟩:=zp cn;by_cases cv:i<e.length
      . obtain⟨t,b3⟩:∃t,e[i]?=some t:=⟨_,av cv⟩;obtain⟨u,hu⟩:∃u,cz[i]?=some u:=⟨_,av (by omega)⟩;have bo:bV N w wr:=ck.o.trans cl;have aV:wr.ownsRow 0 182 1 (.slice x e.length cK) e.length cz:=zi E.o (λj _ _ d=>bo j (a6.o j d));obtain⟨g',rfl,cs⟩:=nB aV hu;have a5:=(bb i t u b3 hu).am bo;obtain⟨dP,_,_,rfl,_⟩:=a5.ptr;have cd:=za (HJ (.mk l a m n p e) (xP b) i k wr.drew (a4.am (λ_ _=>rfl)) (X.am (λ_ _=>rfl)) (O.gh rfl) J);have a9:=za (aM b3);have ce:=za (o.sub _ k i t b0 a3 b3);have a1:aa (gu c g sE y (.mk l a m n p e) k e 0 (sE s (.mk l a m n p e) k)=gu c g sE y (.mk l a m n p e) k (e.drop (i+1)) (i+1) (gK c g sE y t (c.operand (.mk l a m n p e) i k) a0)):=(by obtain⟨h1,h2⟩:=aB.1 b3;unfold aa;rw[bK.o,dE h1,gu,h2]);have b4:aa (bE (gK c g sE y t (c.operand (.mk l a m n p e) i k) a0)):=(by have B:=G;rw[d,a1.o] at B;exact yc o.bE o.bL _ _ _ _ _ (o.bL _ _ _ B));go_upto_region 5 with fail
        go_region_held3 (λw'=>w'.cell? (xD w.heap.size 0)=some (xE bC c F)/\w'.cell? (xD w.heap.size 1)=some (xP nb)/\w'.cell? (xD (w.heap.size+1) 0)=some (xI (k.1:Nat))/\w'.cell? (xD (w.heap.size+1) 1)=some (xI (k.2:Nat)))
         (first|(refine⟨?_,?_,?_,?_⟩ <;> repeat (first|with_reducible exact p0|with_reducible exact c0|with_reducible exact q0|with_reducible exact c1|with_reducible refine zg ?_|with_reducible refine a2.cell ?_ (by assumption)|with_reducible refine zd z.o ?_ (by omega)))|go_keep)
         (first
           | (go_at_call 133;refine c5.o.mono ?_;rintro d w5 ⟨rfl,cb,a2⟩)
           | (go_at_call 176;refine cd.o.mono ?_;rintro d w4 ⟨rfl,be⟩;have z:=za (zw be);have du:wr.heap.size<=w4.heap.size:=be.size;have bY:=za (o.aq _ _ _ U.o z.o);have dw:¬T w4 w.heap.size:=(λd=>m0 (bY.o.2 _ d));have dz:¬T w4 (w.heap.size+1):=(λd=>m1 (bY.o.2 _ d));have c5:=za (cg t a9.o (c.operand (.mk l a m n p e) i k) _ a0 w4 (a5.am (zm z.o J)) (by omega) (X.am (zm z.o J)) (O.aq z.o) bY.o.1 ce.o b4.o)))
        go_wp2_with fail;go_roundg (gk-1);case measure=>omega
        exact⟨i+1,_,by omega,by omega,by go_num,cb,a1.o,(R.o.trans (FT.below z.o bY.o.2)).trans a2⟩
      have da:i=e.length:=(by omega);subst da;rw[List.drop_length,gu] at bK;have D:=za (o.p5 _ _ k _ wr a4 J X O U.o b0 (by have B:=G;rw[d,bK.o] at B;exact B));unfold hG at D;go_wp2_with fail;with_reducible refine D.o.mono ?_
      rintro d w2 ⟨rfl,S,Q⟩;go_wp2_with fail;go_end0;refine⟨rfl,?_,(H.trans R.o).trans Q⟩;rw[d,bK.o];exact S
end
section
variable {K:Cd} {B c d:Nat} {m j f:Xv} {w p:Xw}
attribute [local go_sem ↓] Go.wp_at_zero Go.wp_at_succ
theorem Tryz.Ud:(prog.info? 108).map (λi=>(i.zero,i.size,i.bytes))=some (some (.agg #[.int .u8 0,xI 0]),2,16):=by kernel_rfl
def Pm (w:Xw)(b o k:Nat):Prop:=∃v,w.cell? (xD b o)=some v/\v.ownBlock=some k
def KT (c:Nat)(w:Xw)(k:Nat):Prop:=k=c∨Pm w c 0 k∨Pm w c 3 k∨Pm w c 5 k
def Cd.add (K:Cd)(a:Nat)(x:Int):Cd:={ K with row:=K.row++[(a,x)] }
structure KI (B d c:Nat) (m j f:Xv) (K:Cd) (w:Xw):Prop where
 wr:w.heap[d]?=some (.cells #[xP c] 128 (0,0))
 aC:w.heap[c]?=some (.cells #[m,xI K.aG,xI K.al,j,xI K.depth,f] 103 (0,0))
 xv:w.ownsRow B 4 1 m K.dn.length (K.dn.map .bool)
 hQ:w.ownsRow B 2 1 j K.cells.length (zK K.cells)
 zA:w.ownsRow B 108 2 f K.row.length (MU K.row)
 MF:d<B
 MC:c<B
 dk:¬d=c
 d1:∀k,m.ownBlock=some k->¬j.ownBlock=some k/\¬f.ownBlock=some k
 d2:∀k,j.ownBlock=some k->¬f.ownBlock=some k
 hB:B<=w.heap.size
def KW (B d c:Nat)(K:Cd)(w:Xw):Prop:=∃m j f,KI B d c m j f K w
theorem KI.kt (h:KI B d c m j f K w)(k:Nat):KT c w k↔k=c∨m.ownBlock=some k∨j.ownBlock=some k∨f.ownBlock=some k:=by
 obtain⟨g,n,o,i,q,l,r,s⟩:=zt h.aC;unfold KT Pm;rw[g,i,l];constructor
 . rintro (e|⟨v,a,b⟩|⟨v,a,b⟩|⟨v,a,b⟩)
   . exact ao e
   . cases a;exact ap (ao b)
   . cases a;exact ap (ap (ao b))
   cases a;exact ap (ap (ap b))
 rintro (e|e|e|e)
 . exact ao e
 . exact ap (ao ⟨_,rfl,e⟩)
 . exact ap (ap (ao ⟨_,rfl,e⟩))
 exact ap (ap (ap ⟨_,rfl,e⟩))
theorem KI.aq (h:KI B d c m j f K w)(a:xB w p):KI B d c m j f K p :=
 ⟨(a.block _ (ze h.wr)).trans h.wr,(a.block _ (ze h.aC)).trans h.aC,zi h.xv (λk _ b _=>a.block k b),zi h.hQ (λk _ b _=>a.block k b),zi h.zA (λk _ b _=>a.block k b),h.MF,h.MC,h.dk,h.d1,h.d2,aJ h.hB a.size⟩
theorem KW.aq (h:KW B d c K w)(a:xB w p):KW B d c K p:=by obtain⟨m,j,f,h⟩:=h;exact⟨m,j,f,h.aq a⟩
theorem KW.tk (h:KW B d c K w)(a:xB w p):∀k,KT c p k->KT c w k:=by obtain⟨m,j,f,h⟩:=h;intro k b;exact (h.kt k).2 (((h.aq a).kt k).1 b)
theorem KW.lt (h:KW B d c K w):∀k,KT c w k->k<w.heap.size:=by
 obtain⟨m,j,f,h⟩:=h;intro k a;rcases (h.kt k).1 a with e|e|e|e
 . subst e;exact ze h.aC
 . exact (h.xv.lt _ e).2
 . exact (h.hQ.lt _ e).2
 exact (h.zA.lt _ e).2
theorem KW.ge (h:KW B d c K w):∀k,KT c w k->k=c∨B<=k:=by
 obtain⟨m,j,f,h⟩:=h;intro k a;rcases (h.kt k).1 a with e|e|e|e
 . exact ao e
 . exact ap (h.xv.lt _ e).1
 . exact ap (h.hQ.lt _ e).1
 exact ap (h.zA.lt _ e).1
theorem KW.ft (h:KW B d c K w)(a:xB w p):FT (KT c) w p:=FT.below a (h.tk a)
theorem YC {a b:Int}:∀u∈[Value.int .u8 a,xI b],u.oneCell'=true:=by simp[Value.oneCell']
theorem O6 {n:Nat}{e:Xy}{q:Nat}{i:Xv}{r:Xm}(h:w.ownsRow B e q i n r):∃x k,i=.slice x n k:=by
 rcases h.2 with ⟨b,o⟩|⟨g,a,l,b,_⟩
 . exact⟨none,0,by rw[b,o]⟩
 exact⟨_,a,b⟩
theorem Wo (l:List (Nat×Int))(a:Nat)(x:Int):MU (l++[(a,x)])=MU l++[.int .u8 (a:Int),xI x]:=by unfold MU;rw[List.flatMap_append];rfl
theorem KI.Rb {a:Xv}{v:Nat}{x:Int}{b:Xw}{X:Obj}(h:KI B d c m j f K w)(hF:Fr (λk=>f.ownBlock=some k) (w.alloc X) b)
 (r:b.ownsRow B 108 2 a (K.row.length+1) (MU K.row++[.int .u8 (v:Int),xI x])) (g:∀k,a.ownBlock=some k->f.ownBlock=some k∨w.heap.size+1<=k) :
 KW B d c (K.add v x) (b.setCell (xD c 5) a)/\FT (KT c) w (b.setCell (xD c 5) a):=by
 have E:=h.hB;have s:=h.MF;have o:=h.MC;have D:(w.alloc X).heap.size=w.heap.size+1:=by simp
 have C:=hF.size;have A:∀k,k<w.heap.size->¬f.ownBlock=some k->b.heap[k]?=w.heap[k]?:=λk l u=>(hF.block k (by omega) u).trans (Below.heap_alloc _ _ _ l);have i:∀k,k<w.heap.size->¬k=c->¬f.ownBlock=some k->(b.setCell (xD c 5) a).heap[k]?=w.heap[k]?:=λk l t n=>zr t (A k l n);have q:∀k,k<B->¬f.ownBlock=some k:=λk l e=>by have:=(h.zA.lt _ e).1;omega
 have z:KI B d c m j a (K.add v x) (b.setCell (xD c 5) a):=by
  refine⟨(i d (by omega) h.dk (q d s)).trans h.wr,?_,zi h.xv (λk t n e=>i k n (by omega) (h.d1 k e).2),zi h.hQ (λk t n e=>i k n (by omega) (h.d2 k e)),?_,s,o,h.dk,λk e=>⟨(h.d1 k e).1,λy=>?_⟩,λk e y=>?_,?_⟩
  . exact zh _ _ _ _ ((A c (by omega) (q c o)).trans h.aC)
  . have:=zi r (w':=b.setCell (xD c 5) a) (λk t n _=>zr (by omega) rfl);rw[<- Wo] at this
    show World.ownsRow _ B 108 2 a (K.row++[(v,x)]).length _;rw[aP];exact this
  . rcases g k y with e2|e2
    . exact (h.d1 k e).2 e2
    have:=(h.xv.lt _ e).2;omega
  . rcases g k y with e2|e2
    . exact h.d2 k e e2
    have:=(h.hQ.lt _ e).2;omega
  have:(b.setCell (xD c 5) a).heap.size=b.heap.size:=by simp
  omega
 refine⟨⟨m,j,a,z⟩,⟨hF.os,hF.tape,hF.output,?_,λk l u=>?_⟩,λk l=>?_⟩
 . have:(b.setCell (xD c 5) a).heap.size=b.heap.size:=by simp
   omega
 . exact i k l (λe=>u ((h.kt k).2 (ao e))) (λe=>u ((h.kt k).2 (ap (ap (ap e)))))
 rcases (z.kt k).1 l with e|e|e|e
 . exact ao ((h.kt k).2 (ao e))
 . exact ao ((h.kt k).2 (ap (ao e)))
 . exact ao ((h.kt k).2 (ap (ap (ao e))))
 rcases g k e with e2|e2
 . exact ao ((h.kt k).2 (ap (ap (ap e2))))
 exact ap (by omega)
theorem O5 (B d c:Nat)(K:Cd)(n:Nat)(x:Int)(w:Xw)(h:KW B d c K w)(G:K.row.length<=1000000) :
 xK 56 #[xP d,.int .u8 (n:Int),xI x] w (λe p=>e=.returned (.tuple #[])/\KW B d c (K.add n x) p/\FT (KT c) w p):=by
 obtain⟨m,j,f,a⟩:=h;obtain⟨Q,s,rfl⟩:=O6 a.zA;obtain⟨R,S,T⟩:=zu a.wr;obtain⟨J,L,M,N,O,Y,Z,ab⟩:=zt a.aC;obtain⟨I,E,t,u,v⟩:=info_parts Tryz.Ud;have P:K.row.length+1<=maxLen:=by unfold maxLen;omega
 have r:(K.row.length+1)*16<=140737488355328:=by omega
 have H:=a.MF;have F:=a.MC;have A:=a.hB;have C:=a.dk;clear J L M N O G;go_enter func56,ntmps56
 go_region_law (
  refine zJ _ rfl (.tmp 16) (.tmp 20) 101 rfl B 108 I _ 2 16 underlying101 E t u v rfl (by decide) (.slice Q K.row.length s) K.row.length (MU K.row) rfl (zD (a.zA) _) (xD w.heap.size 0) 1 1 [.int .u8 (n:Int),xI x] rfl rfl (zN (zc w _) rfl) YC P r (by simp;omega) ?_;intro v' w9 b g l;obtain⟨X,y,rfl,D⟩:=zM b (by omega);have i:=(Fr.gi g).cQ;have o:=(i.block c (by simp;omega) (λh=>by have:=(a.zA.lt _ h).1;omega)).trans ((Below.heap_alloc _ _ _ (by omega)).trans a.aC);have q:=(i.block d (by simp;omega) (λh=>by have:=(a.zA.lt _ h).1;omega)).trans ((Below.heap_alloc _ _ _ (by omega)).trans a.wr);obtain⟨U,V,W⟩:=zu q;obtain⟨q0,ar,q2,q3,q4,q5,qf,aA⟩:=zt o;clear g)
 all_goals go_wp2_with fail
 all_goals go_end0
 all_goals exact⟨rfl,a.Rb i b (λk e=>(l k e).imp id (λh=>by have z:(w.alloc (.cells #[.int .u8 (n:Int),xI x] 108)).heap.size<=k:=h;rw[au] at z;exact z))⟩
end
section
variable {a c lb d:Nat} {S:Xs} {f:Xo} {g i:Xv} {w:Xw}
attribute [local go_sem ↓] Go.wp_at_zero Go.wp_at_succ
def gI (S:Xs)(c:Nat):Option Nat->Value
 | none=>.nilIface
 | some p=>.iface 71 (.agg #[aW S c,xI p])
structure Fx (S:Xs) (c lb a d:Nat) (i g:Xv) (f:Xo) (w:Xw):Prop where
 l:w.heap[lb]?=some (.cells #[gI S c f] 53 (0,0))
 b:w.heap[a]?=some (.cells #[xI (f.getD 0:Nat)] 3 (0,0))
 s:w.heap[d]?=some (.cells #[i,aW S c,g] 153 (0,0))
 n1:lb≠a
 n2:lb≠d
 n3:a≠d
def RT (lb a:Nat)(k:Nat):Prop:=k=lb∨k=a
def bT (lb a d:Nat):Value:=.func (.func 140) #[] #[xP lb,xP a,xP d]
theorem Fx.aq {e:Xw}(h:Fx S c lb a d i g f w)(b:xB w e):Fx S c lb a d i g f e :=
 ⟨(b.block _ (ze h.l)).trans h.l,(b.block _ (ze h.b)).trans h.b,(b.block _ (ze h.s)).trans h.s,h.n1,h.n2,h.n3⟩
theorem r2 {b:Nat}{e:Xy}{j:Xv}(h:xH w b #[j] e)(v:Xv):xH (w.setCell (xD b 0) v) b #[v] e:=zh _ _ _ _ h
theorem yd {b:Xw}(h:Fx S c lb a d i g f w)(k:xB w b)(p:Nat) :
 Fx S c lb a d i g (some p) ((b.setCell (xD lb 0) (gI S c (some p))).setCell (xD a 0) (xI p))/\Fr (RT lb a) w ((b.setCell (xD lb 0) (gI S c (some p))).setCell (xD a 0) (xI p)):=by
 have j:=h.aq k;refine⟨⟨(zr h.n1 rfl).trans (r2 j.l _),r2 ((zr (λe=>h.n1 e.symm) rfl).trans j.b) _,(zr (λe=>h.n3 e.symm) rfl).trans ((zr (λe=>h.n2 e.symm) rfl).trans j.s),h.n1,h.n2,h.n3⟩,?_⟩;have l:Fr (RT lb a) w b:=Fr.Mo k;exact (l.setCell (ao (ao rfl)) _).setCell (ao (ap rfl)) _
theorem eg (S:Xs)(c lb a d:Nat)(i g:Xv)(f:Xo)(p:Nat)(w:Xw)(H:Fx S c lb a d i g f w) :
 xK 140 #[xI p,xP lb,xP a,xP d] w (λe v=>e=.returned (.tuple #[])/\Fx S c lb a d i g (aj f p) v/\Fr (RT lb a) w v):=by
 obtain⟨u,F,G⟩:=zu H.l;obtain⟨t,D,E⟩:=zu H.b;obtain⟨J,B,K,L,M⟩:=zL H.s;have I:¬lb=a:=H.n1;have A:¬a=lb:=λe=>H.n1 e.symm;unfold aW at B;cases f with
 | none => have k:aj none p=some p:=rfl;rw[k];unfold gI at u;go_enter func140,ntmps140;go_wp2_with (go_at_call 42;refine (py S c p _).mono ?_;rintro e C ⟨rfl,j⟩;have h:=H.aq j;obtain⟨z,r,s⟩:=zu h.l;obtain⟨y,m,n⟩:=zu h.b;clear h);go_end0;obtain⟨o,q⟩:=yd H j p;exact⟨rfl,o,q⟩
 | some b =>
   unfold gI at u;have x:xC w a 0 (xI (b:Nat)):=t;clear t;by_cases l:p<b
   . have k:aj (some b) p=some p:=(by show (if p<b then some p else some b)=_;rw[ag l]);rw[k];go_enter func140,ntmps140;go_wp2_with (go_at_call 42;refine (py S c p _).mono ?_;rintro e C ⟨rfl,j⟩;have h:=H.aq j;obtain⟨z,r,s⟩:=zu h.l;obtain⟨y,m,n⟩:=zu h.b;clear h);go_end0;obtain⟨o,q⟩:=yd H j p;exact⟨rfl,o,q⟩
   have k:aj (some b) p=some b:=(by show (if p<b then some p else some b)=_;rw[ae l]);rw[k];go_enter func140,ntmps140;go_wp2_with fail;go_end0;exact⟨rfl,H,Fr.refl _ w⟩
theorem rq {N:Nat}{t:Tm}{v:Xv}(w:Xw)(h:TT w N t v) :
 xK 124 #[v] w (λe s=>e=.returned (.bool (NA t.k))/\w=s):=by
 obtain⟨b,l,F,rfl,C,j,_⟩:=h.ptr;obtain⟨u,x,y,z,A,B,D,E⟩:=zt j;clear h;have r:t.k=3∨t.k=7∨t.k=8∨t.k=6∨(t.k≠3/\t.k≠7/\t.k≠8/\t.k≠6):=by omega
 generalize t.k=k at *;rcases r with rfl|rfl|rfl|rfl|⟨m,n,o,p⟩
 . go_enter func124,ntmps124;go_wp2_with fail;go_ret;exact⟨rfl,rfl⟩
 . go_enter func124,ntmps124;go_wp2_with fail;go_ret;exact⟨rfl,rfl⟩
 . go_enter func124,ntmps124;go_wp2_with fail;go_ret;exact⟨rfl,rfl⟩
 . go_enter func124,ntmps124;go_wp2_with fail;go_ret;exact⟨rfl,rfl⟩
 have d1:((k:Int)==3)=false:=by simp;omega
 have d2:((k:Int)==7)=false:=by simp;omega
 have d3:((k:Int)==8)=false:=by simp;omega
 have d4:((k:Int)==6)=false:=by simp;omega
 have q:aa (NA k=false):=by unfold aa NA;simp[m,n,o,p]
 clear m n o p;go_enter func124,ntmps124;go_wp2_with fail;go_ret;exact⟨by rw[q.o];rfl,rfl⟩
end
section
variable {N:Nat} {t:Tm} {v:Xv} {w:Xw}
attribute [local go_sem ↓] Go.wp_at_zero Go.wp_at_succ
theorem zI {B:Nat}{a:Xw}(h:Below B a w)(n:Nat):Below B a (w.drewN n):=⟨h.os,h.tape,h.output,h.size,h.block⟩
theorem Tryz.tD:(prog.info? 226).map (·.size)=some 6:=by kernel_rfl
theorem JL (b:Nat)(w:Xw):(binOp .eql 182 (xP b) (xP b)).run prog w=.ok (.bool true) w:=by
 cases h:prog.info? 226 with
 | none=>have:=Tryz.tD;rw[h] at this;cases this
 | some j=>exact run_eql_ptr_same w _ underlying182 h
theorem IW {b c:Nat}{f g:Xa}{t1 t2:Xy}(d:b≠c)(i:xH w b f t1)(k:xH w c g t2):(binOp .eql 182 (xP b) (xP c)).run prog w=.ok (.bool false) w:=by
 have a:=Tryz.tD;cases h:prog.info? 226 with
 | none=>rw[h] at a;cases a
 | some j =>
   rw[h] at a;have:j.size=6:=by simpa using a
   exact run_eql_ptr_other w underlying182 h (by omega) (by intro e;cases e;exact d rfl) i k
theorem JA {q:Qn}{k g:Xv}(w:Xw)(d:Nz w N q k g)(i:TT w N t v)(m:mu q g t v) :
 xK 126 #[.agg #[k,xI q.a,g],v] w (λe p=>e=.returned (xI (hp q t:Nat))/\xB w p):=by
 obtain⟨b,_,_,rfl,_,j,_⟩:=i.ptr;obtain⟨l,_,_,rfl,_,a,_⟩:=d.tt.ptr;obtain⟨x,r,rfl⟩:=zB d.own;by_cases f:b=l
 . subst f;have e:=i.T4 d.tt;have c:aa (hp q t=q.ns.length):=by unfold aa hp;rw[e,ag rfl]
   have n:=JL b;go_enter func126,ntmps126;go_wp2_with fail;go_ret;exact⟨by rw[c.o];rfl,zq _ _⟩
 have c:aa (hp q t=1):=by
  unfold aa hp;rcases m with ⟨_,e⟩|h
  . cases e;exact absurd rfl f
  rw[ae (by omega)]
 have n:=λo=>IW (w:=w.alloc o) f ((Below.heap_alloc _ _ _ (ze j)).trans j) ((Below.heap_alloc _ _ _ (ze a)).trans a);go_enter func126,ntmps126;go_wp2_with fail;go_ret;exact⟨by rw[c.o];rfl,zq _ _⟩
theorem Jo {c:Sc}{ev nv:Xv}(u:Nat)(w:Xw)(x:br w N c ev nv)(hN:N<=w.heap.size)(Q:c.er.length<=6)(hT:TT w N t v) :
 xK 125 #[.agg #[ev,nv],v,xI u] w (λe l=>e=.returned (.bool (c.fits t u))/\xB w l):=by
 obtain⟨b,a0,a4,rfl,bb,n,P,O,_⟩:=hT.ptr;obtain⟨xa,J,rfl⟩:=zB P;obtain⟨aA,y,Z,rfl,rfl,_⟩:=x.shape;have I:aa (c.fits t u=match c.called t.s with|none=>false|some d=>d.nd.ah==t.ts.length&&d.nd.aG==u):=rfl;have B:a4.length=t.ts.length:=O;have U:=ze n;rw[B] at n;go_enter func125,ntmps125;go_upto_region 1 with fail;refine zn (λW=>(xH W w.heap.size #[xE aA c y,xP Z] 216)/\xB w W) ⟨zc w _,zq w _⟩ ?_;rintro W ⟨a1,H⟩;obtain⟨bg,s1,bk,sz⟩:=zp a1;obtain⟨h0,h1,h2,h3,h4,h5,hf,hz⟩:=zt ((H.block b U).trans n);have hO:=zm H hN;have K:N<=W.heap.size:=by omega
 have L:=x.am (w':=W.drew) hO;have M:=λo=>x.am (w':=(W.alloc o).drew) (hO.trans (λk be=>Below.heap_alloc _ _ _ (by omega)));cases g:c.called t.s with
 | none =>
   rw[g] at I;have p:=za (o5 t.s (t.nm:Int) W.drew L K Q g);have q:=za (λo=>o5 t.s (t.nm:Int) (W.alloc o).drew (M o) (by show N<=(W.alloc o).heap.size;simp;omega) Q g)
   go_region_held3 (λl=>l.cell? (xD w.heap.size 0)=some (xE aA c y)/\l.cell? (xD w.heap.size 1)=some (xP Z)/\l.cell? (xD b 2)=some (.string t.s)/\l.cell? (xD b 3)=some (xI t.nm))
    (first|(with_reducible (refine⟨?_,?_,?_,?_⟩ <;> repeat (first|assumption|refine zg ?_|refine zj _ ?_|refine zk (by omega) ?_|refine zd a.o ?_ (by first|omega|(rw[au];omega)))))|go_keep)
    (first
      | (go_at_call 119;refine p.o.mono ?_;rintro e R ⟨rfl,i⟩;have a:=za (zw i))
      | (go_at_call 119;refine (q.o _).mono ?_;rintro e R ⟨rfl,i⟩;have a:=za (zw i);obtain⟨a5,aV,a6,a9⟩:=zp ((a.o.block W.heap.size (by rw[au];omega)).trans (zc W _))))
   . go_wp2_with fail;go_quiet (fail);go_wp2_with fail;go_ret;exact⟨by rw[I.out];rfl,zI ((H.trans (a.o.mono (by omega))).alloc (by have:=a.o.size;omega) _) _⟩
   go_wp2_with fail;go_quiet (fail);go_wp2_with fail;go_ret;exact⟨by rw[I.out];rfl,zI (zC (zC (H.trans ((zE a.o).mono (by omega))) (by omega) _) (by omega) _) _⟩
 | some d =>
   rw[g] at I;have p:=za (ji t.s (t.nm:Int) W.drew L K Q g);have q:=za (λo=>ji t.s (t.nm:Int) (W.alloc o).drew (M o) (by show N<=(W.alloc o).heap.size;simp;omega) Q g)
   go_region_held3 (λl=>l.cell? (xD w.heap.size 0)=some (xE aA c y)/\l.cell? (xD w.heap.size 1)=some (xP Z)/\l.cell? (xD b 2)=some (.string t.s)/\l.cell? (xD b 3)=some (xI t.nm))
    (first|(with_reducible (refine⟨?_,?_,?_,?_⟩ <;> repeat (first|assumption|refine zg ?_|refine zj _ ?_|refine zk (by omega) ?_|refine zd a.o ?_ (by first|omega|(rw[au];omega)))))|go_keep)
    (first
      | (go_at_call 119;refine p.o.mono ?_;rintro e R ⟨x2,S,G,rfl,E,i⟩;have a:=za (zw i);have s:=za E)
      | (go_at_call 119;refine (q.o _).mono ?_;rintro e R ⟨x2,S,G,rfl,E,i⟩;have a:=za (zw i);have s:=za E;obtain⟨a5,aV,a6,a9⟩:=zp ((a.o.block W.heap.size (by rw[au];omega)).trans (zc W _))))
   . go_wp2_with fail;obtain⟨nn,ar,ab,aL,T,m⟩:=s.o.nd;cases T;obtain⟨m0,m1,m2,X,Y,m5,a2,a3⟩:=zt m.aC;have V:=m.lo;have F:=a.o.size;try rw[au] at F
     refine zn (λj=>(j.cell? (xD R.heap.size 1)=some (xP G)/\j.cell? (xD G 3)=some (xI d.nd.ah)/\j.cell? (xD G 4)=some (xI d.nd.aG)/\j.cell? (xD b 5)=some (.slice xa t.ts.length J))/\xB w j) ⟨⟨?_,?_,?_,?_⟩,((H.trans (a.o.mono (by omega))).alloc (by omega) _)⟩ ?_
     . first|(simp;done)|exact xb (xc aV)
     . repeat (first|with_reducible exact X|with_reducible refine zj _ ?_|with_reducible refine zk (by omega) ?_)
     . repeat (first|with_reducible exact Y|with_reducible refine zj _ ?_|with_reducible refine zk (by omega) ?_)
     . repeat (first|with_reducible exact h5|with_reducible refine zj _ ?_|with_reducible refine zk (by omega) ?_|with_reducible refine zd a.o ?_ (by first|omega|(rw[au];omega)))
     rintro j ⟨⟨g0,g1,g2,g3⟩,h⟩;have r:aa (c.fits t u=(d.nd.ah==t.ts.length&&d.nd.aG==u)):=I.out;by_cases z:d.nd.ah=t.ts.length
     . have A:((d.nd.ah:Int)==(t.ts.length:Int))=true:=(by simp[z]);by_cases C:d.nd.aG=u
       . have D:((d.nd.aG:Int)==(u:Int))=true:=(by simp[C]);have f:aa (c.fits t u=true):=(by unfold aa;rw[r.o];simp[z,C]);go_quiet (fail);go_wp2_with fail;go_ret;exact⟨by rw[f.o];rfl,zI h _⟩
       have D:((d.nd.aG:Int)==(u:Int))=false:=(by simp;omega);have f:aa (c.fits t u=false):=(by unfold aa;rw[r.o];simp[C]);go_quiet (fail);go_wp2_with fail;go_ret;exact⟨by rw[f.o];rfl,zI h _⟩
     have A:((d.nd.ah:Int)==(t.ts.length:Int))=false:=(by simp;omega);have f:aa (c.fits t u=false):=(by unfold aa;rw[r.o];simp[z]);go_quiet (fail);go_wp2_with fail;go_ret;exact⟨by rw[f.o];rfl,zI h _⟩
   go_wp2_with fail;obtain⟨nn,ar,ab,aL,T,m⟩:=s.o.nd;cases T;obtain⟨m0,m1,m2,X,Y,m5,a2,a3⟩:=zt m.aC;have V:=m.lo;have F:=a.o.size;try rw[au] at F
   refine zn (λj=>(j.cell? (xD W.heap.size 1)=some (xP G)/\j.cell? (xD G 3)=some (xI d.nd.ah)/\j.cell? (xD G 4)=some (xI d.nd.aG)/\j.cell? (xD b 5)=some (.slice xa t.ts.length J))/\xB w j) ⟨⟨?_,?_,?_,?_⟩,(zC (zC (H.trans ((zE a.o).mono (by omega))) (by omega) _) (by omega) _)⟩ ?_
   . first|(simp;done)|exact xb (xc aV)
   . repeat (first|with_reducible exact X|with_reducible refine zj _ ?_|with_reducible refine zk (by omega) ?_)
   . repeat (first|with_reducible exact Y|with_reducible refine zj _ ?_|with_reducible refine zk (by omega) ?_)
   . repeat (first|with_reducible exact h5|with_reducible refine zj _ ?_|with_reducible refine zk (by omega) ?_|with_reducible refine zd a.o ?_ (by first|omega|(rw[au];omega)))
   rintro j ⟨⟨g0,g1,g2,g3⟩,h⟩;have r:aa (c.fits t u=(d.nd.ah==t.ts.length&&d.nd.aG==u)):=I.out;by_cases z:d.nd.ah=t.ts.length
   . have A:((d.nd.ah:Int)==(t.ts.length:Int))=true:=(by simp[z]);by_cases C:d.nd.aG=u
     . have D:((d.nd.aG:Int)==(u:Int))=true:=(by simp[C]);have f:aa (c.fits t u=true):=(by unfold aa;rw[r.o];simp[z,C]);go_quiet (fail);go_wp2_with fail;go_ret;exact⟨by rw[f.o];rfl,zI h _⟩
     have D:((d.nd.aG:Int)==(u:Int))=false:=(by simp;omega);have f:aa (c.fits t u=false):=(by unfold aa;rw[r.o];simp[C]);go_quiet (fail);go_wp2_with fail;go_ret;exact⟨by rw[f.o];rfl,zI h _⟩
   have A:((d.nd.ah:Int)==(t.ts.length:Int))=false:=(by simp;omega);have f:aa (c.fits t u=false):=(by unfold aa;rw[r.o];simp[z]);go_quiet (fail);go_wp2_with fail;go_ret;exact⟨by rw[f.o];rfl,zI h _⟩
end
section
variable {K:Cd} {B N d j g r:Nat} {c:Sc} {m o q:Xv} {w f:Xw}
attribute [local go_sem ↓] Go.wp_at_zero Go.wp_at_succ
def Cd.fv (K:Cd)(l:List (Nat×Int)):Cd:={ K with row:=K.row++l }
theorem Cd.Rc (K:Cd):K.fv []=K:=by unfold Cd.fv;rw[List.append_nil]
theorem Cd.ON (K:Cd)(l:List (Nat×Int)):(K.fv l).row.length=K.row.length+l.length:=by unfold Cd.fv;simp
structure Ng (N g j d:Nat) (c:Sc) (m q o:Xv) (w:Xw):Prop where
 aC:w.heap[g]?=some (.cells #[m,q,.map (some j),xI (d:Int),o] 126 (0,0))
 sc:br w N c m q
 ck:dF w c j
 hN:N<=w.heap.size
structure WI (N B r kb g j d:Nat) (c:Sc) (m q o:Xv) (K:Cd) (w:Xw):Prop where
 kw:KW B r kb K w
 qi:Ng N g j d c m q o w
 nq:¬KT kb w g
 nc:¬KT kb w j
 NN:N<=kb
theorem Ng.aq (h:Ng N g j d c m q o w)(a:xB w f):Ng N g j d c m q o f :=
 ⟨(a.block _ (ze h.aC)).trans h.aC,h.sc.am (zm a h.hN),h.ck.aq a,aJ h.hN a.size⟩
theorem KW.kb {a:Nat}(h:KW B r a K w):a<B:=by obtain⟨b,e,i,h⟩:=h;exact h.MC
theorem WI.Pe {a:Nat}(h:WI N B r a g j d c m q o K w):∀k,KT a w k->N<=k:=by intro k b;have i:=h.NN;have l:=h.kw.kb;rcases h.kw.ge k b with e|e <;> omega
theorem WI.aq {b:Nat}(h:WI N B r b g j d c m q o K w)(a:xB w f):WI N B r b g j d c m q o K f :=
 ⟨h.kw.aq a,h.qi.aq a,λe=>h.nq (h.kw.tk a _ e),λe=>h.nc (h.kw.tk a _ e),h.NN⟩
theorem FT.not {T:World->Nat->Prop}(h:FT T w f){z:Nat}(b:z<w.heap.size)(a:¬T w z):¬T f z:=λe=>(h.tk z e).elim a (λe=>by omega)
theorem WI.ft {b:Nat}{e:Cd}(h:WI N B r b g j d c m q o K w)(k:KW B r b e f)(a:FT (KT b) w f):WI N B r b g j d c m q o e f:=by have i:bV N w f:=a.am h.qi.hN h.Pe;exact⟨k,⟨(a.fr.block _ (ze h.qi.aC) h.nq).trans h.qi.aC,h.qi.sc.am i,h.qi.ck.gh (a.fr.block _ h.qi.ck.lt h.nc),aJ h.qi.hN a.fr.size⟩,a.not (ze h.qi.aC) h.nq,a.not h.qi.ck.lt h.nc,h.NN⟩
theorem Qb (i:Nat)(w:Xw)(h:Ng N g j d c m q o w)(a:d<=1000000)(b:i<=1000000) :
 xK 161 #[xP g,xI (i:Int)] w (λe f=>e=.returned (xI ((d+i:Nat):Int))/\w=f):=by
 obtain⟨k,l,n,p,s,t,u⟩:=bz h.aC;go_enter func161,ntmps161;go_wp2_with fail;go_ret;exact⟨by simp,rfl⟩
theorem SV (w:Xw)(h:Ng N g j d c m q o w)(l:d<=1000000) :
 xK 101 #[xP g] w (λe f=>e=.returned (xI ((d+c.nd.ak.length:Nat):Int))/\w=f):=by
 obtain⟨F,J,I,M,rfl,a⟩:=h.sc.nd;obtain⟨O,k,rfl⟩:=zB a.bZ;obtain⟨y,z,A,C,D,E,G,H⟩:=zt a.aC;obtain⟨n,p,s,t,u,v,x⟩:=bz h.aC;have b:=a.bO;have i:=za (Qb c.nd.ak.length w h l (by omega));go_enter func101,ntmps101;go_wp2_with (go_at_call 161;refine i.o.mono ?_;rintro e L ⟨rfl,rfl⟩);go_ret;exact⟨rfl,rfl⟩
theorem XN (w:Xw)(h:Ng N g j d c m q o w)(p:d<=1000000) :
 xK 100 #[xP g] w (λe f=>e=.returned (xI ((d+c.nd.ak.length+1:Nat):Int))/\∃n,f=w.drewN n):=by
 obtain⟨H,M,L,O,rfl,a⟩:=h.sc.nd;obtain⟨P,i,rfl⟩:=zB a.bZ;obtain⟨A,C,D,E,F,G,I,J⟩:=zt a.aC;obtain⟨s,t,u,v,x,y,z⟩:=bz h.aC;have b:=a.bO;have k:wrap64 ((d:Int)+(c.nd.ak.length:Int))=(d:Int)+(c.nd.ak.length:Int):=by unfold wrap64;omega
 have l:wrap64 ((d:Int)+(c.nd.ak.length:Int)+1)=(d:Int)+(c.nd.ak.length:Int)+1:=by unfold wrap64;omega
 go_enter func100,ntmps100;go_upto_region 1 with fail;go_quiet (fail);go_wp2_with fail;go_ret;exact⟨by simp,_,rfl⟩
theorem RE (s:Xb)(a:Int)(w:Xw)(p:Ng N g j d c m q o w)(y:d<=1000000)(z:c.idx s<=1000000) :
 xK 107 #[xP g,.agg #[.string s,xI a]] w (λe f=>e=.returned (xI ((d+c.idx s:Nat):Int))/\xB w f):=by
 obtain⟨u,i,t,rfl,rfl,A⟩:=p.sc.shape;go_enter func107,ntmps107;go_upto_region 1 with fail;refine zn (λW=>Ng N g j d c (xE u c i) (xP t) o W/\xB w W/\xH W w.heap.size #[.string s,xI a] 117) ⟨p.aq (zq w _),zq w _,zc w _⟩ ?_;rintro W ⟨b,n,x⟩;obtain⟨D,E,F,G,H,I,J⟩:=bz b.aC;obtain⟨L,M,O,P⟩:=zp x;have k:=za (hW s a W.drew (b.sc.am (λ_ _=>rfl)) b.hN)
 go_region_held3 (λf=>f.cell? (xD g 0)=some (xE u c i)/\f.cell? (xD g 1)=some (xP t)/\f.cell? (xD w.heap.size 0)=some (.string s)/\f.cell? (xD w.heap.size 1)=some (xI a))
  (first|(with_reducible (refine⟨?_,?_,?_,?_⟩ <;> repeat (first|assumption|refine zg ?_|refine zj _ ?_|refine zk (by omega) ?_|refine zd h.o ?_ (by first|omega|(rw[au];omega)))))|go_keep)
  (first
    | (go_at_call 161;refine v.o.mono ?_;rintro e Q ⟨rfl,rfl⟩)
    | (go_at_call 105;refine k.o.mono ?_;rintro e C ⟨rfl,l⟩;have h:=za (zw l);have v:=za (Qb (c.idx s) C (b.aq h.o) y z)))
 go_wp2_with fail;go_ret;exact⟨rfl,n.trans (h.o.mono n.size)⟩
mutual
def MI:Tm->Int
 | .mk k _ _ _ n a=>if k=0 then (n:Int) else if k=10 then wrap64 (-(N1 a)) else if k=1 then 1 else 0
def N1:List Tm->Int
 | []=>0
 | t::_=>MI t
end
theorem QL:∀(t:Tm),Wf t->∀(v:Xv) (w:Xw),TT w N t v ->
 xK 196 #[v] w (λe f=>e=.returned (xI (MI t))/\w=f):=by
 intro t;induction t using Tm.ind with
 | h z a U n p P M =>
   intro I v w h;obtain⟨b,Y,Z,rfl,a1,l,k,i,s,C⟩:=h.ptr;obtain⟨E,R,S,T,O,X,a2,a3⟩:=zt l;by_cases D:z=0
   . have F:aa (MI (.mk z a U n p P)=(p:Int)):=(by unfold aa MI;rw[ag D]);have H:w.cell? (xD b 0)=some (xI 0):=(by rw[E];show some (xI ((z:Nat):Int))=_;rw[D];rfl);have aL:xC w b 4 (xI (p:Int)):=O;clear h l k i s C M I D E R S T O X;go_enter func196,ntmps196;go_wp2_with fail;go_ret;rw[F.o];exact⟨rfl,rfl⟩
   by_cases A:z=10
   . subst A;have L:=I.ar;obtain⟨u,Q,hu⟩:∃u Q,P=u::Q:=by
      cases P with
      | nil=>simp[Tm.k,Tm.ts,dJ] at L
      | cons u Q=>exact⟨u,Q,rfl⟩
     subst hu;obtain⟨x,a0,rfl⟩:=zB k;obtain⟨y,W⟩:∃y,Z[0]?=some y:=⟨_,av (by rw[i];simp[Tm.ts])⟩;obtain⟨g',rfl,V⟩:=nB k W;have G:=s 0 u y rfl W;obtain⟨aV,_,_,rfl,_⟩:=G.ptr;have ab:=za (M u (Mx ..) (I.sub (Mx ..)) _ w G);have F:aa (MI (.mk 10 a U n p (u::Q))=wrap64 (-(MI u))):=(by unfold aa;rw[MI,ae (by omega),ag rfl,N1]);have H:xC w b 0 (xI 10):=E;have aA:(0:Int)<(Z.length:Int):=(by rw[i];simp[Tm.ts]);clear h l k i s C M I D E R S T O G W L;go_enter func196,ntmps196;go_wp2_with (go_at_call 196;refine ab.o.mono ?_;rintro e w1 ⟨rfl,rfl⟩);go_ret;rw[F.o];exact⟨rfl,rfl⟩
   by_cases J:z=1
   . have F:aa (MI (.mk z a U n p P)=1):=(by unfold aa MI;rw[ae D,ae A,ag J]);have H:w.cell? (xD b 0)=some (xI 1):=(by rw[E];show some (xI ((z:Nat):Int))=_;rw[J];rfl);clear h l k i s C M I D J A E R S T O X;go_enter func196,ntmps196;go_wp2_with fail;go_ret;rw[F.o];exact⟨rfl,rfl⟩
   have F:aa (MI (.mk z a U n p P)=0):=(by unfold aa MI;rw[ae D,ae A,ae J]);have H:xC w b 0 (xI (z:Int)):=E;have g0:¬(z:Int)=0:=(by omega);have g1:¬(z:Int)=1:=(by omega);have ar:¬(z:Int)=10:=(by omega);clear h l k i s C M I D J A E R S T O X;go_enter func196,ntmps196;go_wp2_with fail;go_ret;rw[F.o];exact⟨rfl,rfl⟩
end
section
variable {K:Cd} {B N a i b g d z:Nat} {o:Obj} {c:Sc} {j m n:Xv} {W w:Xw}
attribute [local go_sem ↓] Go.wp_at_zero Go.wp_at_succ
def z8 (c:Sc)(a:Nat):Nat->Nat×Nat->List (Nat×Int)
 | 0,_=>[(1,((a+c.nd.ak.length:Nat):Int))]
 | f+1,k=>if k.2=0 then [(1,((a+c.nd.ak.length:Nat):Int))] else z8 c a f (c.up k)++(1,((a+k.1:Nat):Int))::((if k.2=2 then [(8,0)] else [])++[(9,0)])
def Oe (c:Sc):Nat->Nat×Nat->Prop
 | 0,k=>k.2=0
 | f+1,k=>k.2=0∨(k.1<=1000000/\Oe c f (c.up k))
theorem WK (c:Sc)(a f:Nat)(k:Nat×Nat)(h:k.2=0):z8 c a f k=[(1,((a+c.nd.ak.length:Nat):Int))]:=by
 cases f with
 | zero=>rfl
 | succ f=>unfold z8;rw[ag h]
structure WX (N B d b g i a:Nat) (c:Sc) (j n m:Xv) (w:Xw) (z:Nat) (o:Obj) (K:Cd) (W:Xw):Prop where
 wi:WI N B d b g i a c j n m K W
 ft:FT (KT b) w W
 bx:W.heap[z]?=some o
 nz:¬KT b W z
theorem WX.ad {k:Cd}{f:Xw}(h:WX N B d b g i a c j n m w z o K W)(l:KW B d b k f)(e:FT (KT b) W f):WX N B d b g i a c j n m w z o k f :=
 ⟨h.wi.ft l e,h.ft.trans e,(e.fr.block _ (ze h.bx) h.nz).trans h.bx,e.not (ze h.bx) h.nz⟩
theorem WX.add (h:WX N B d b g i a c j n m w z o K W)(f:Nat)(x:Int)(r:K.row.length<=1000000) :
 xK 56 #[xP d,.int .u8 (f:Int),xI x] W (λe k=>e=.returned (.tuple #[])/\WX N B d b g i a c j n m w z o (K.add f x) k):=by
 refine (O5 B d b K f x W h.wi.kw r).mono ?_;rintro e k ⟨l,p,q⟩;exact⟨l,h.ad p q⟩
theorem WX.new (h:WI N B d b g i a c j n m K w)(o:Obj):WX N B d b g i a c j n m w w.heap.size o K (w.alloc o) :=
 ⟨h.aq (zq w o),h.kw.ft (zq w o),zc w o,λe=>by have:=h.kw.lt _ (h.kw.tk (zq w o) _ e);omega⟩
theorem SR (a4:a<=1000000) :
 ∀(f:Nat) (k:Nat×Nat) (K:Cd) (w:Xw),Oe c f k->WI N B d b g i a c j n m K w->K.row.length+(z8 c a f k).length<=1000000 ->
  xK 108 #[xP d,xP g,hG k] w (λe r=>e=.returned (.tuple #[])/\KW B d b (K.fv (z8 c a f k)) r/\FT (KT b) w r):=by
 have zero:∀(f:Nat) (k:Nat×Nat) (K:Cd) (w:Xw),k.2=0->WI N B d b g i a c j n m K w->K.row.length+(z8 c a f k).length<=1000000 ->
  xK 108 #[xP d,xP g,hG k] w (λe r=>e=.returned (.tuple #[])/\KW B d b (K.fv (z8 c a f k)) r/\FT (KT b) w r):=by
  intro f k K w F D x;rw[WK c a f k F] at x ⊢;have A:=za (WX.new D (.cells #[xI (k.1:Nat),xI (k.2:Nat)] 198));have a9:=za F;obtain⟨L,h⟩:∃L,K.fv [(1,((a+c.nd.ak.length:Nat):Int))]=L:=⟨_,rfl⟩;rw[h];have y:=za h;clear D F h;unfold hG;go_enter func108,ntmps108;go_upto_region 1 with fail;refine zn (λW=>WX N B d b g i a c j n m w w.heap.size (.cells #[xI (k.1:Nat),xI (k.2:Nat)] 198) K W) A.o ?_;intro W q;obtain⟨V,X,a1,a2⟩:=zp q.bx;have Q:=za q;have be:(k.2:Int)=0:=by have:=a9.o;omega
  clear q A
  go_wp2_with (first
   | (go_at_call 56;refine (Q.o.add 1 ((a+c.nd.ak.length:Nat):Int) (by simp at x;omega)).mono ?_;rintro e w2 ⟨rfl,p⟩;have s:=za p;clear p)
   | (go_at_call 101;refine (SV _ Q.o.wi.qi a4).mono ?_;rintro e r ⟨rfl,rfl⟩))
  first|go_end0|refine bodyPost_ret (results_none rfl _ _ _) rfl ?_
  rw[<- y.o];exact⟨rfl,s.o.wi.kw,s.o.ft⟩
 intro f;induction f with
 | zero => intro k K w F D x;exact zero 0 k K w F D x
 | succ f a6 =>
   intro k K w F D x;by_cases C:k.2=0
   . exact zero (f+1) k K w C D x
   have Z:k.1<=1000000/\Oe c f (c.up k):=F.resolve_left C;have a3:z8 c a (f+1) k=z8 c a f (c.up k)++(1,((a+k.1:Nat):Int))::((if k.2=2 then [(8,0)] else [])++[(9,0)]):=(by rw[z8,ae C]);rw[a3] at x ⊢;rw[aP,bJ,aP,List.length_singleton] at x;obtain⟨l,ar⟩:∃l,z8 c a f (c.up k)=l:=⟨_,rfl⟩;rw[ar] at x ⊢;obtain⟨L,h⟩:∃L,K.fv (l++(1,((a+k.1:Nat):Int))::((if k.2=2 then [(8,0)] else [])++[(9,0)]))=L:=⟨_,rfl⟩;rw[h];have y:=za h;clear h;have U:=za a6;have A:=za (WX.new D (.cells #[xI (k.1:Nat),xI (k.2:Nat)] 198));have a5:¬(k.2:Int)=0:=(by omega);obtain⟨ab,E⟩:=Z;have T:=za E;have a0:=za ar;clear D F C E a3 a6 ar;unfold hG;go_enter func108,ntmps108;go_upto_region 3 with fail;refine zn (λW=>WX N B d b g i a c j n m w w.heap.size (.cells #[xI (k.1:Nat),xI (k.2:Nat)] 198) K W) A.o ?_;intro W q;obtain⟨V,X,a1,a2⟩:=zp q.bx;obtain⟨m0,m1,m2,m3,m4,bg,bk⟩:=bz q.wi.qi.aC;have aA:(Instr.lookup 123 (.map (some i)) (.agg #[xI (k.1:Nat),xI (k.2:Nat)]) false).run prog W.drew=.ok (.agg #[xI ((c.up k).1:Nat),xI ((c.up k).2:Nat)]) W.drew:=yn (w:=W.drew) (q.wi.qi.ck.gh (w':=W.drew) rfl) k;have P:=za (U.o (c.up k) K W.drew T.o (q.wi.aq (zo (Below.refl _ _))) (by rw[a0.o];omega));rw[a0.o] at P;unfold hG at P;have Q:=za q;have aV:=q.nz;have aL:=q.wi.nq;clear q m0 m1 m3 m4
   go_region_held3 (λr=>r.cell? (xD g 2)=some (.map (some i))/\r.cell? (xD w.heap.size 0)=some (xI (k.1:Nat))/\r.cell? (xD w.heap.size 1)=some (xI (k.2:Nat)))
    (first|(refine⟨?_,?_,?_⟩ <;> repeat (first|with_reducible exact m2|with_reducible exact V|with_reducible exact X|with_reducible refine zg ?_|with_reducible refine FT.cell J.o ?_ (by assumption)))|go_keep)
    (first
      | (go_at_call 108;refine P.o.mono ?_;rintro e w1 ⟨rfl,M,H⟩;have u:FT (KT b) W w1:=⟨H.fr.cQ,H.tk⟩;have G:=za (Q.o.ad M u);have J:=za u;clear M H u))
   obtain⟨c0,c1,bb,cz⟩:=zp G.o.bx;clear V X a1 a2 m2 bg bk P J aA aV aL
   go_upto_region 5 with (first
    | (go_at_call 56;refine (G.o.add 1 ((a+k.1:Nat):Int) (by rw[Cd.ON];omega)).mono ?_;rintro e w2 ⟨rfl,p⟩;have s:=za p;obtain⟨d0,d1,bl,dz⟩:=zp p.bx;clear p)
    | (go_at_call 161;refine (Qb k.1 _ G.o.wi.qi a4 ab).mono ?_;rintro e r ⟨rfl,rfl⟩))
   clear c0 c1 bb cz;by_cases I:k.2=2
   . have Y:(k.2:Int)=2:=(by omega);rw[ag I] at x;have R:aa ((((K.fv l).add 1 ((a+k.1:Nat):Int)).add 8 0).add 9 0=K.fv (l++(1,((a+k.1:Nat):Int))::((if k.2=2 then [(8,0)] else [])++[(9,0)]))):=(by unfold aa;rw[ag I];simp[Cd.add,Cd.fv]);clear I
     go_wp2_with (first
      | (go_at_call 56;refine (S.o.add 9 0 (by simp[Cd.add,Cd.fv];omega)).mono ?_;rintro e w4 ⟨rfl,v⟩;have t:=za v;clear v)
      | (go_at_call 56;refine (s.o.add 8 0 (by simp[Cd.add,Cd.fv];omega)).mono ?_;rintro e w3 ⟨rfl,O⟩;have S:=za O;clear O))
     first|go_end0|refine bodyPost_ret (results_none rfl _ _ _) rfl ?_
     rw[<- y.o,<- R.o];exact⟨rfl,t.o.wi.kw,t.o.ft⟩
   have Y:¬(k.2:Int)=2:=(by omega);rw[ae I] at x;have R:aa (((K.fv l).add 1 ((a+k.1:Nat):Int)).add 9 0=K.fv (l++(1,((a+k.1:Nat):Int))::((if k.2=2 then [(8,0)] else [])++[(9,0)]))):=(by unfold aa;rw[ae I];simp[Cd.add,Cd.fv]);clear I
   go_wp2_with (first
    | (go_at_call 56;refine (s.o.add 9 0 (by simp[Cd.add,Cd.fv];omega)).mono ?_;rintro e w4 ⟨rfl,v⟩;have t:=za v;clear v))
   first|go_end0|refine bodyPost_ret (results_none rfl _ _ _) rfl ?_
   rw[<- y.o,<- R.o];exact⟨rfl,t.o.wi.kw,t.o.ft⟩
end
end Go.Proofs.YtbicmofihhjgbaaGreatDoor
