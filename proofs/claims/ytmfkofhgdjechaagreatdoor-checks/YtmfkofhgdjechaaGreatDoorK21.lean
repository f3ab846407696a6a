/- Part 22 of the proof. -/
import Derived.Test.YtmfkofhgdjechaaGreatDoorK17
set_option maxRecDepth 100000
set_option maxHeartbeats 8000000
namespace Go.Proofs.YtmfkofhgdjechaaGreatDoor
open Go.Proofs.Tryz
open Go.RowKit
section
variable {N a k:Nat} {c:Sc} {d f:Xv} {v:Vr} {W:Xw}
attribute [local go_sem ↓] Go.wp_at_zero Go.wp_at_succ
theorem Jv (b:c.nd.ab[k]?=some v)(h:ba v=0):c.of k=(0,0):=by unfold Sc.of;rw[b];exact ag h
theorem JF (b:c.nd.ab[k]?=some v)(h:¬ba v=0):c.of k=(c.idx v.ck,ba v):=by unfold Sc.of;rw[b];exact ae h
theorem yo (h:fb W a pr (eC c k)) :
 ∃b e,(Instr.mapUpdate 224 (.map (some a)) (.agg #[xI (k:Int),xI 1]) (.agg #[xI ((c.of k).1:Nat),xI ((c.of k).2:Nat)])).run prog W=.ok () b/\Fr (·=a) W b/\(Instr.mapUpdate 224 (.map (some a)) (.agg #[xI (k:Int),xI 2]) (.agg #[xI ((c.of k).1:Nat),xI ((c.of k).2:Nat)])).run prog b=.ok () e/\Fr (·=a) b e/\fb e a pr (eC c (k+1)):=by
 obtain⟨b,j,g,f1⟩:=pq Tryz.qe underlying224 h ((k:Int),1) (pr (eD (c.of k)));rw[Jy] at g;obtain⟨e,l,i,f2⟩:=pq Tryz.qe underlying224 g ((k:Int),2) (pr (eD (c.of k)));rw[Je] at i;exact⟨b,e,j,f1,l,f2,i⟩
theorem jj {w e:Xw}(h:xB w W)(b:Fr (·=a) W e)(i:w.heap.size<=a):xB w e :=
 ⟨b.os.trans h.os,b.tape.trans h.tape,b.output.trans h.output,aJ h.size b.size,λk g=>(b.block k (dD g h.size) (by omega)).trans (h.block k g)⟩
theorem xf (w:Xw)(h:br w N c d f)(hN:N<=w.heap.size) :
 xK 114 #[.agg #[d,f]] w (λe u=>∃a,e=.returned (.map (some a))/\w.heap.size<=a/\dF u c a/\xB w u):=by
 obtain⟨F,o,t,rfl,rfl,b1⟩:=h.shape;have J:=za h;obtain⟨ck,vs,qv,xs,bx,p⟩:=h.nd;cases bx;obtain⟨xv,bt,rfl⟩:=zB p.bZ;obtain⟨fv,bs,rfl⟩:=zB p.own;obtain⟨m0,m1,D,m3,m4,m5,b4,ca⟩:=zt p.aC;have I:=za p;have a5:=p.bO;have a2:=@run_makeMap prog;have b2:t<w.heap.size:=by omega
 have L:∀E R,((w.alloc E).alloc R).heap[w.heap.size]?=some E/\((w.alloc E).alloc R).heap[w.heap.size+1]?=some R:=λE R=>mh w E R;have r:=za L;clear h p L;go_enter func114,ntmps114;go_wp2_with fail;go_loopg [14] (c.nd.ab.length+1) (λj x wr=>∃k:Nat,k+j=c.nd.ab.length+1/\k<=c.nd.ab.length/\x=xI k/\aa (fb wr (w.heap.size+1) pr (eC c k))/\aa (xH wr w.heap.size #[xE F c o,xP t] 202)/\aa (xB w wr));case atStart=>exact⟨0,by omega,aE _,rfl,⟨#[],0,(r.o _ _).2,rfl⟩,(r.o _ _).1,cT w _ _⟩
 case round =>
  clear r m0 m1 D m3 m4 m5 b4 ca a2;obtain⟨k,b0,fq,rfl,S,Z,G⟩:=hrel;have al:=zm G.o hN;by_cases a0:k<c.nd.ab.length
  . obtain⟨v,hv⟩:∃v,c.nd.ab[k]?=some v:=⟨_,av a0⟩;obtain⟨g,rfl,c0,c1,c2,c3,c4,c5,bp⟩:=hj (I.o.am al).bZ hv;have bL:=I.o.jc g rfl;obtain⟨a9,s1,be,T⟩:=zp Z.o;have Q:=S.o.lt;have bl:=za (J.o.am al);have P:=G.o.size;have L:=mh wr (.cells #[.string v.nm,xI v.a,xI (dv v:Nat),xI (ba v:Nat),xI v.on,.string v.ck,xI v.ca] 156) (.cells #[xI 0,xI 0] 228);have r:=za L;have a4:=za hv;clear L al hv;by_cases q:ba v=0
    . have s:(ba v:Int)=0:=(by omega);have O:=Jv a4.o q;rw[q] at c3 r;have Y:=za O;clear O q s;go_upto_region 8 with fail;refine zn (λW=>fb W (w.heap.size+1) pr (eC c k)/\xH W (wr.heap.size+1) #[xI ((c.of k).1:Nat),xI ((c.of k).2:Nat)] 228/\xB w W/\xH W w.heap.size #[xE F c o,xP t] 202) ⟨S.o.of ((cT wr _ _).block _ Q),by rw[Y.o];exact r.o.2,G.o.trans ((cT wr _ _).mono P),(Below.block (cT wr _ _) _ T).trans Z.o⟩ ?_;rintro W ⟨n,i,l,b⟩;obtain⟨W1,W2,dn,f1,ds,f2,D⟩:=yo n;obtain⟨cm,E,of,a3⟩:=zp i;have C:¬wr.heap.size+1=w.heap.size+1:=(by omega);obtain⟨cn,cs,cv,c9⟩:=zp ((f1.block _ a3 C).trans i);have z:=za D;have y:=za (jj (jj l f1 (by omega)) f2 (by omega));have A:aa (xH W2 w.heap.size #[xE F c o,xP t] 202):=(f2.block _ (by have:=f1.size;have:=ze b;omega) (by omega)).trans ((f1.block _ (ze b) (by omega)).trans b);clear n i l b f1 f2 D;go_wp2_with fail;go_roundg (gk-1);case measure=>omega
      exact⟨k+1,by omega,by omega,by go_num,z.o,A.o,y.o⟩
    have s:¬(ba v:Int)=0:=(by omega);have O:=JF a4.o q;have Y:=za O;clear O q;go_upto_region 7 with fail;refine zn (λW=>fb W (w.heap.size+1) pr (eC c k)/\xB w W/\xH W w.heap.size #[xE F c o,xP t] 202/\xH W wr.heap.size #[.string v.nm,xI v.a,xI (dv v:Nat),xI (ba v:Nat),xI v.on,.string v.ck,xI v.ca] 156/\xH W (wr.heap.size+1) #[xI 0,xI 0] 228) ⟨S.o.of ((cT wr _ _).block _ Q),G.o.trans ((cT wr _ _).mono P),(Below.block (cT wr _ _) _ T).trans Z.o,r.o.1,r.o.2⟩ ?_;rintro W ⟨n,l,b,M,i⟩;obtain⟨a9,s1,be,T⟩:=zp b;obtain⟨v0,eb,v2,v3,v4,v5,em,eq,vz⟩:=eK M;obtain⟨z0,bk,fd,U⟩:=zp i;have ar:w.heap.size<=W.heap.size:=l.size;have X:=za (hW v.ck (v.ca:Int) W.drew (J.o.am (zm (zo l) hN)) (by show N<=W.heap.size;omega));have H:=za n;have V:=za l;have ak:=za b;have K:=za i;clear n l b M i v0 eb v2 v4 eq c0 c1 c2 c3 c4 c5 bp
    go_region_held3 (λu=>u.cell? (xD w.heap.size 0)=some (xE F c o)/\u.cell? (xD w.heap.size 1)=some (xP t)/\u.cell? (xD wr.heap.size 3)=some (xI (ba v:Nat))/\u.cell? (xD wr.heap.size 5)=some (.string v.ck)/\u.cell? (xD wr.heap.size 6)=some (xI v.ca))
     (first|(with_reducible (refine⟨?_,?_,?_,?_,?_⟩ <;> repeat (first|assumption|refine zg ?_|refine zj _ ?_|refine zk (by omega) ?_|refine zd m.o ?_ (by first|omega|(rw[au];omega)))))|go_keep)
     (first|(go_at_call 103;refine X.o.mono ?_;rintro e fr ⟨rfl,B⟩;have m:=za (zw B);have b3:=B.size;have er:=zd m.o z0 U;have es:=zd m.o bk U;have ex:=lh ((m.o.block _ U).trans K.o);clear B))
    go_upto_region 8 with fail;refine zn (λW=>fb W (w.heap.size+1) pr (eC c k)/\xH W (wr.heap.size+1) #[xI ((c.of k).1:Nat),xI ((c.of k).2:Nat)] 228/\xB w W/\xH W w.heap.size #[xE F c o,xP t] 202) ⟨H.o.of (zr (by omega) (zr (by omega) (m.o.block _ H.o.lt))),by rw[Y.o];exact pa ((m.o.block _ U).trans K.o) _ _,zC (zC (V.o.trans (m.o.mono ar)) (by omega) _) (by omega) _,zr (by omega) (zr (by omega) ((m.o.block _ T).trans ak.o))⟩ ?_;clear a9 s1 be v3 v5 em z0 bk fd er es ex;rintro W ⟨n,i,l,b⟩;obtain⟨W1,W2,dn,f1,ds,f2,D⟩:=yo n;obtain⟨cm,E,of,a3⟩:=zp i;have C:¬wr.heap.size+1=w.heap.size+1:=(by omega);obtain⟨cn,cs,cv,c9⟩:=zp ((f1.block _ a3 C).trans i);have z:=za D;have y:=za (jj (jj l f1 (by omega)) f2 (by omega));have A:aa (xH W2 w.heap.size #[xE F c o,xP t] 202):=(f2.block _ (by have:=f1.size;have:=ze b;omega) (by omega)).trans ((f1.block _ (ze b) (by omega)).trans b);clear n i l b f1 f2 D;go_wp2_with fail;go_roundg (gk-1);case measure=>omega
    exact⟨k+1,by omega,by omega,by go_num,z.o,A.o,y.o⟩
  have bE:k=c.nd.ab.length:=by omega
  subst bE;go_wp2_with fail;go_ret;exact⟨_,rfl,by omega,S.o,G.o⟩
theorem HJ (t:Tm)(v:Xv)(i:Nat)(k:Nat×Nat)(w:Xw)(hT:TT w N t v)(K:br w N c d f)(S:dF w c a)(hN:N<=w.heap.size) :
 xK 180 #[.map (some a),.agg #[d,f],v,xI (i:Int),.agg #[xI (k.1:Nat),xI (k.2:Nat)]] w (λe l=>e=.returned (.agg #[xI ((c.operand t i k).1:Nat),xI ((c.operand t i k).2:Nat)])/\xB w l):=by
 obtain⟨H,p,G,rfl,rfl,al⟩:=K.shape;obtain⟨b,ak,vs,rfl,ar,I,_⟩:=hT.ptr;have U:=ze I;clear hT;go_enter func180,ntmps180;go_upto_region 1 with fail;refine zn (λW=>(br W N c (xE H c p) (xP G)/\dF W c a/\xB w W)/\xH W w.heap.size #[xE H c p,xP G] 202/\xH W (w.heap.size+1) #[xI (k.1:Nat),xI (k.2:Nat)] 228/\xH W (w.heap.size+1+1) #[xI 0,xI 0] 228) ⟨⟨K.am (yR hN _ _ _),S.aq (mg w _ _ _),mg w _ _ _⟩,(iu w _ _ _).1,(iu w _ _ _).2.1,(iu w _ _ _).2.2⟩ ?_;rintro W ⟨⟨T,J,n⟩,M,O,r⟩;obtain⟨be,s1,bk,bl⟩:=zp M;obtain⟨a0,a2,a3,a4⟩:=zp O;obtain⟨P,Q,bp,q⟩:=zp r;obtain⟨A,m1,m2,m3,m4,m5,a5,a9⟩:=zt ((n.block b U).trans I);have z:w.heap.size<=W.heap.size:=n.size;have x:=za (hW t.s (t.nm:Int) W.drew (T.am (λ_ _=>rfl)) (by show N<=W.heap.size;omega));clear M O m1 m4 m5;by_cases F:t.k=7
 . have m:=F;have y:c.operand t i k=c.of (c.idx t.s):=ag (ao m);have C:W.cell? (xD b 0)=some (xI 7):=by rw[A,m];rfl
   clear A m F;go_upto_region 4 with fail
   go_region_held3 (λl=>l.cell? (xD w.heap.size 0)=some (xE H c p)/\l.cell? (xD w.heap.size 1)=some (xP G)/\l.cell? (xD b 2)=some (.string t.s)/\l.cell? (xD b 3)=some (xI t.nm))
    (first|(with_reducible (refine⟨?_,?_,?_,?_⟩ <;> repeat (first|assumption|refine zg ?_|refine zj _ ?_|refine zk (by omega) ?_|refine zd j.o ?_ (by first|omega|(rw[au];omega))|refine zd g.o ?_ (by first|omega|(rw[au];omega)))))|go_keep)
    (first
      | (go_at_call 116;refine B.o.mono ?_;rintro e Y ⟨rfl,o⟩;have j:=za o;have X:u.heap.size<=Y.heap.size:=o.size;have D:=zd j.o (zd g.o P q) (by omega);have E:=zd j.o (zd g.o Q q) (by omega);have Z:=lh ((j.o.block _ (by omega)).trans ((g.o.block _ q).trans r));clear o)
      | (go_at_call 103;refine x.o.mono ?_;rintro e u ⟨rfl,h⟩;have g:=za (zw h);have s:W.heap.size<=u.heap.size:=h.size;have B:=za (jW (c.idx t.s) u (J.aq g.o));clear h))
   go_wp2_with fail;rw[y];refine bodyPost_ret (v:=.agg #[xI ((c.of (c.idx t.s)).1:Nat),xI ((c.of (c.idx t.s)).2:Nat)]) (by simp[results,results180,go_sem,D,E]) rfl ⟨rfl,zC (zC (n.trans ((g.o.trans (j.o.mono s)).mono z)) (by omega) _) (by omega) _⟩
 by_cases L:t.k=8
 . have m:=L;have y:c.operand t i k=c.of (c.idx t.s):=ag (ap m);have C:W.cell? (xD b 0)=some (xI 8):=by rw[A,m];rfl
   clear A m F L;go_upto_region 4 with fail
   go_region_held3 (λl=>l.cell? (xD w.heap.size 0)=some (xE H c p)/\l.cell? (xD w.heap.size 1)=some (xP G)/\l.cell? (xD b 2)=some (.string t.s)/\l.cell? (xD b 3)=some (xI t.nm))
    (first|(with_reducible (refine⟨?_,?_,?_,?_⟩ <;> repeat (first|assumption|refine zg ?_|refine zj _ ?_|refine zk (by omega) ?_|refine zd j.o ?_ (by first|omega|(rw[au];omega))|refine zd g.o ?_ (by first|omega|(rw[au];omega)))))|go_keep)
    (first
      | (go_at_call 116;refine B.o.mono ?_;rintro e Y ⟨rfl,o⟩;have j:=za o;have X:u.heap.size<=Y.heap.size:=o.size;have D:=zd j.o (zd g.o P q) (by omega);have E:=zd j.o (zd g.o Q q) (by omega);have Z:=lh ((j.o.block _ (by omega)).trans ((g.o.block _ q).trans r));clear o)
      | (go_at_call 103;refine x.o.mono ?_;rintro e u ⟨rfl,h⟩;have g:=za (zw h);have s:W.heap.size<=u.heap.size:=h.size;have B:=za (jW (c.idx t.s) u (J.aq g.o));clear h))
   go_wp2_with fail;rw[y];refine bodyPost_ret (v:=.agg #[xI ((c.of (c.idx t.s)).1:Nat),xI ((c.of (c.idx t.s)).2:Nat)]) (by simp[results,results180,go_sem,D,E]) rfl ⟨rfl,zC (zC (n.trans ((g.o.trans (j.o.mono s)).mono z)) (by omega) _) (by omega) _⟩
 by_cases m:t.k=6;by_cases R:0<i
 . have y:c.operand t i k=(c.idx t.s,2):=by unfold Sc.operand;rw[ae (by omega),ag m,ag R]
   have C:W.cell? (xD b 0)=some (xI 6):=(by rw[A,m];rfl);have V: (0:Int)<(i:Int):=(by omega);clear A m R F L;go_upto_region 9 with fail
   go_region_held3 (λl=>l.cell? (xD w.heap.size 0)=some (xE H c p)/\l.cell? (xD w.heap.size 1)=some (xP G)/\l.cell? (xD b 2)=some (.string t.s)/\l.cell? (xD b 3)=some (xI t.nm))
    (first|(with_reducible (refine⟨?_,?_,?_,?_⟩ <;> repeat (first|assumption|refine zg ?_|refine zj _ ?_|refine zk (by omega) ?_|refine zd g.o ?_ (by first|omega|(rw[au];omega)))))|go_keep)
    (first
      | (go_at_call 103;refine x.o.mono ?_;rintro e u ⟨rfl,h⟩;have g:=za (zw h);have s:W.heap.size<=u.heap.size:=h.size;have D:=zd g.o P q;have E:=zd g.o Q q;have Z:=lh ((g.o.block _ q).trans r);clear h))
   go_wp2_with fail;rw[y];refine bodyPost_ret (v:=.agg #[xI (c.idx t.s:Nat),xI 2]) (by simp[results,results180,go_sem,D,E]) rfl ⟨rfl,zC (zC (n.trans (g.o.mono z)) (by omega) _) (by omega) _⟩
 . have y:c.operand t i k=(c.idx t.s,1):=by unfold Sc.operand;rw[ae (by omega),ag m,ae R]
   have C:W.cell? (xD b 0)=some (xI 6):=(by rw[A,m];rfl);have V:¬(0:Int)<(i:Int):=(by omega);clear A m R F L;go_upto_region 9 with fail
   go_region_held3 (λl=>l.cell? (xD w.heap.size 0)=some (xE H c p)/\l.cell? (xD w.heap.size 1)=some (xP G)/\l.cell? (xD b 2)=some (.string t.s)/\l.cell? (xD b 3)=some (xI t.nm))
    (first|(with_reducible (refine⟨?_,?_,?_,?_⟩ <;> repeat (first|assumption|refine zg ?_|refine zj _ ?_|refine zk (by omega) ?_|refine zd g.o ?_ (by first|omega|(rw[au];omega)))))|go_keep)
    (first
      | (go_at_call 103;refine x.o.mono ?_;rintro e u ⟨rfl,h⟩;have g:=za (zw h);have s:W.heap.size<=u.heap.size:=h.size;have D:=zd g.o P q;have E:=zd g.o Q q;have Z:=lh ((g.o.block _ q).trans r);clear h))
   go_wp2_with fail;rw[y];refine bodyPost_ret (v:=.agg #[xI (c.idx t.s:Nat),xI 1]) (by simp[results,results180,go_sem,D,E]) rfl ⟨rfl,zC (zC (n.trans (g.o.mono z)) (by omega) _) (by omega) _⟩
 have y:c.operand t i k=k:=by unfold Sc.operand;rw[ae (by omega),ae m]
 have g7:¬(t.k:Int)=7:=by omega
 have g8:¬(t.k:Int)=8:=by omega
 have g6:¬(t.k:Int)=6:=by omega
 clear F L m;go_wp2_with fail;rw[y];refine bodyPost_ret (v:=.agg #[xI (k.1:Nat),xI (k.2:Nat)]) (by simp[results,results180,go_sem,P,Q]) rfl ⟨rfl,zC (zC n (by omega) _) (by omega) _⟩
end
section
variable {N:Nat} {c:Sc} {g:Tm->Nat×Nat->Bool} {w w':Xw} {T:World->Nat->Prop}
attribute [local go_sem ↓] Go.wp_at_zero Go.wp_at_succ
structure FT (T:World->Nat->Prop) (w w':Xw):Prop where
 fr:Fr (T w) w w'
 tk:∀k,T w' k->T w k∨w.heap.size<=k
theorem FT.trans {a b c:Xw}(d:FT T a b)(f:FT T b c):FT T a c:=by
 refine⟨⟨f.fr.os.trans d.fr.os,f.fr.tape.trans d.fr.tape,f.fr.output.trans d.fr.output,aJ d.fr.size f.fr.size,λk h i=>?_⟩,λk h=>?_⟩
 . refine (f.fr.block k (dD h d.fr.size) (λe=>?_)).trans (d.fr.block k h i);rcases d.tk k e with e|e
   . exact i e
   omega
 rcases f.tk k h with e|e
 . exact d.tk k e
 exact ap (aJ d.fr.size e)
theorem FT.below (h:xB w w')(a:∀k,T w' k->T w k):FT T w w':=⟨Fr.dp h,λk e=>ao (a k e)⟩
theorem FT.const {T:Xj}(h:Fr T w w'):FT (λ_=>T) w w':=⟨h,λ_ e=>ao e⟩
theorem FT.cell {w:Xw}{b i:Nat}{v:Xv}(h:FT T w w')(d:w.cell? (xD b i)=some v)(e:¬T w b):w'.cell? (xD b i)=some v:=by
 have a:b<w.heap.size:=by
  rcases Nat.lt_or_ge b w.heap.size with h|h
  . exact h
  simp[World.cell?,Array.getElem?_eq_none h] at d
 exact (World.cell?_of_block (w:=w) (h.fr.block b a e)).trans d
theorem FT.am (h:FT T w w')(a:N<=w.heap.size)(b:∀k,T w k->N<=k):bV N w w':=h.fr.am a b
mutual
def gK {σ:Type}(c:Sc)(g:Tm->Nat×Nat->Bool)(sE e:σ->Tm->Nat×Nat->σ):Tm->Nat×Nat->σ->σ
 | .mk x a s nm n d,k,b=>e (if g (.mk x a s nm n d) k=true then gu c g sE e (.mk x a s nm n d) k d 0 (sE b (.mk x a s nm n d) k) else sE b (.mk x a s nm n d) k) (.mk x a s nm n d) k
def gu {σ:Type}(c:Sc)(g:Tm->Nat×Nat->Bool)(sE e:σ->Tm->Nat×Nat->σ)(t:Tm)(k:Nat×Nat):List Tm->Nat->σ->σ
 | [],_,b=>b
 | u::l,i,b=>gu c g sE e t k l (i+1) (gK c g sE e u (c.operand t i k) b)
end
def hG (k:Nat×Nat):Value:=.agg #[xI (k.1:Nat),xI (k.2:Nat)]
structure yH {σ:Type} (N:Nat) (c:Sc) (ev nv:Xv) (cb:Nat) (T:World->Nat->Prop) (FE:FuncId) (cE:Xa) (FL:FuncId) (cL:Xa) (Pt:Tm->Nat×Nat->Prop) (g:Tm->Nat×Nat->Bool) (sE sL:σ->Tm->Nat×Nat->σ) (I:σ->World->Prop) (Bd:σ->Prop):Prop where
 sJ:zH FE
 sK:zH FL
 hT:∀s w k,I s w->T w k->N<=k/\k<w.heap.size/\¬k=cb
 aq:∀s w w',I s w->xB w w'->I s w'/\∀k,T w' k->T w k
 sub:∀t k i u,Pt t k->g t k=true->t.ts[i]?=some u->Pt u (c.operand t i k)
 bE:∀s t k,Bd (sE s t k)->Bd s
 bL:∀s t k,Bd (sL s t k)->Bd s
 sG:∀t v k s w,TT w N t v->N<=w.heap.size->br w N c ev nv->dF w c cb->I s w->Pt t k->Bd (sE s t k)->xK FE (#[v,hG k]++cE) w (λe w'=>e=.returned (.bool (g t k))/\I (sE s t k) w'/\FT T w w')
 p5:∀t v k s w,TT w N t v->N<=w.heap.size->br w N c ev nv->dF w c cb->I s w->Pt t k->Bd (sL s t k)->xK FL (#[v,hG k]++cL) w (λe w'=>e=.returned (.tuple #[])/\I (sL s t k) w'/\FT T w w')
theorem G9 {σ:Type}{sE j:σ->Tm->Nat×Nat->σ}{b:σ->Prop}(o:∀s t k,b (sE s t k)->b s)(q:∀s t k,b (j s t k)->b s):∀(t:Tm) (k:Nat×Nat) (s:σ),b (gK c g sE j t k s)->b s:=by
 intro t;induction t using Tm.ind with
 | h x a s nm n m y =>
   intro k d h;have r:∀(l:List Tm),(∀u∈l,u∈m)->∀(i:Nat) (d:σ),b (gu c g sE j (.mk x a s nm n m) k l i d)->b d:=by
    intro l;induction l with
    | nil=>intro _ i d h;exact h
    | cons u l f => intro p i d h;rw[gu] at h;exact y u (p u (ce ..)) _ _ (f (λu v=>p u (cS _ v)) _ _ h)
   rw[gK] at h;have e:=q _ _ _ h;split at e
   . exact o _ _ _ (r m (λ_ h=>h) _ _ e)
   exact o _ _ _ e
theorem yc {σ:Type}{sE b:σ->Tm->Nat×Nat->σ}{a:σ->Prop}(d:∀s t k,a (sE s t k)->a s)(e:∀s t k,a (b s t k)->a s)(t:Tm)(k:Nat×Nat):∀(l:List Tm) (i:Nat) (s:σ),a (gu c g sE b t k l i s)->a s:=by
 intro l;induction l with
 | nil=>intro i s h;exact h
 | cons u l f => intro i s h;rw[gu] at h;exact G9 d e u _ s (f _ _ h)
theorem HA {σ:Type}{fq gs:Xv}{X:Nat}{cv:FuncId}{gt:Xa}{c0:FuncId}{g0:Xa}{Pt:Tm->Nat×Nat->Prop}{sE r:σ->Tm->Nat×Nat->σ}{I:σ->World->Prop}{cs:σ->Prop}(m:yH N c fq gs X T cv gt c0 g0 Pt g sE r I cs) :
 ∀(t:Tm) (k:Nat×Nat) (v:Xv) (s:σ) (w:Xw),TT w N t v->N<=w.heap.size->br w N c fq gs->dF w c X->I s w->Pt t k->cs (gK c g sE r t k s) ->
  xK 117 #[.map (some X),.agg #[fq,gs],v,hG k,.func (.func cv) #[] gt,.func (.func c0) #[] g0] w (λd w'=>d=.returned (.tuple #[])/\I (gK c g sE r t k s) w'/\FT T w w'):=by
 intro t;induction t using Tm.ind with
 | h l a nm n p e ev =>
   intro k v s w h hN g3 hT g2 c4 F;obtain⟨cn,E,nb,rfl,rfl,h7⟩:=g3.shape;obtain⟨b,o,vs,rfl,A,ck,L,cm,bp,gl⟩:=h.ptr;have h3:∀(o:Xa) (w:Xw),(callFunc cv o).run prog w=.ok (.enter cv o) w:=m.sJ;have h5:∀(o:Xa) (w:Xw),(callFunc c0 o).run prog w=.ok (.enter c0 o) w:=m.sK;have hg:=za h;have he:=za g3;have g9:=za hT;have c2:=za g2;have D:=za L;have K:=za ck;have bk:=za gl;obtain⟨x,g1,rfl⟩:=zB L;have ar:vs.length=e.length:=cm;rw[ar] at D K bk;have J:=za (λk=>m.hT s w k g2);unfold hG;go_enter func117,ntmps117;go_upto_region 1 with fail;refine zn (λW=>(TT W N (.mk l a nm n p e) (xP b)/\N<=W.heap.size/\br W N c (xE cn c E) (xP nb)/\dF W c X/\I s W)/\FT T w W/\xH W w.heap.size #[xE cn c E,xP nb] 202/\xH W (w.heap.size+1) #[xI (k.1:Nat),xI (k.2:Nat)] 228/\¬T W w.heap.size/\¬T W (w.heap.size+1)) ⟨⟨hg.o.am (j8 hN _ _),by rw[au,au];omega,he.o.am (j8 hN _ _),g9.o.aq (cT w _ _),(m.aq _ _ _ c2.o (cT w _ _)).1⟩,FT.below (cT w _ _) (m.aq _ _ _ c2.o (cT w _ _)).2,(mh w _ _).1,(mh w _ _).2,λd=>by have:=(J.out _ ((m.aq s w _ c2.o (cT w _ _)).2 _ d)).2.1;omega,λd=>by have:=(J.out _ ((m.aq s w _ c2.o (cT w _ _)).2 _ d)).2.1;omega⟩ ?_;rintro W ⟨⟨b3,ak,b1,Y,Z⟩,G,c5,c9,g4,n1⟩;have gc:cs (sE s (.mk l a nm n p e) k):=by
    have A:=F;rw[gK] at A;have al:=m.bL _ _ _ A;split at al
    . exact yc m.bE m.bL _ _ _ _ _ al
    exact al
   have B:=za (m.sG _ _ k s W b3 ak b1 Y Z c4 gc);have U:∀s1 q,I s1 q->FT T W q->(TT q N (.mk l a nm n p e) (xP b)/\N<=q.heap.size/\br q N c (xE cn c E) (xP nb)/\dF q c X)/\bV N W q/\q.heap[w.heap.size]?=some (.cells #[xE cn c E,xP nb] 202 (0,0))/\q.heap[w.heap.size+1]?=some (.cells #[xI (k.1:Nat),xI (k.2:Nat)] 228 (0,0))/\¬T q w.heap.size/\¬T q (w.heap.size+1):=by
    intro s1 q z f;have fr:bV N W q:=f.am ak (λk d=>(m.hT s W k Z d).1);refine⟨⟨b3.am fr,aJ ak f.fr.size,b1.am fr,Y.gh (f.fr.block X Y.lt (λd=>(m.hT s W X Z d).2.2 rfl))⟩,fr,(f.fr.block _ (ze c5) g4).trans c5,(f.fr.block _ (ze c9) n1).trans c9,λd=>(f.tk _ d).elim g4 (λh=>?_),λd=>(f.tk _ d).elim n1 (λh=>?_)⟩
    . have:=ze c5;omega
    have:=ze c9;omega
   obtain⟨x0,x1,ln,lo⟩:=zp c5;obtain⟨ls,lt,lv,l1⟩:=zp c9;have h0:b<W.heap.size:=(by omega);have ex:aa (xH W b #[xI l,xI a,.string nm,xI n,xI p,.slice x e.length g1] 216):=(G.fr.block b (by omega) (λd=>by have:=(J.out b d).1;omega)).trans K.o;have fd:aa (bV N w W):=G.am hN (λk d=>(J.out k d).1);unfold hG at B;cases a5:g (.mk l a nm n p e) k with
   | false =>
     rw[a5] at B;have d:gK c g sE r (.mk l a nm n p e) k s=r (sE s (.mk l a nm n p e) k) (.mk l a nm n p e) k:=(by unfold gK;rw[a5];rfl);go_wp2_with fail;with_reducible refine B.o.mono ?_
     rintro d q ⟨rfl,z,f⟩;obtain⟨⟨b2,bx,b0,bt⟩,bE,b4,ca,m0,m1⟩:=U _ q z f;have C:=za (m.p5 _ _ k _ q b2 bx b0 bt z c4 (by have A:=F;rw[d] at A;exact A));unfold hG at C;obtain⟨g5,g6,ip,it⟩:=zp b4;obtain⟨g7,g8,iR,i0⟩:=zp ca;have O:=za f;go_wp2_with fail;with_reducible refine C.o.mono ?_
     rintro d i1 ⟨rfl,R,P⟩;go_wp2_with fail;go_end0;rw[d];exact⟨rfl,R,(G.trans O.o).trans P⟩
   | true =>
     rw[a5] at B;have d:gK c g sE r (.mk l a nm n p e) k s=r (gu c g sE r (.mk l a nm n p e) k e 0 (sE s (.mk l a nm n p e) k)) (.mk l a nm n p e) k:=(by rw[gK,ag a5]);go_wp2_with fail;with_reducible refine B.o.mono ?_
     rintro d q ⟨rfl,z,f⟩;obtain⟨⟨b2,bx,b0,bt⟩,bE,b4,ca,m0,m1⟩:=U _ q z f;obtain⟨i6,i7,i8,i9,kd,kw,lb,le⟩:=zt ((bE b A).trans ex.o);have em:=za z;have O:=za f;have hR:e.length<=9223372036854775807:=by
      have:=D.o;rcases this.2 with ⟨_,h⟩|⟨g,hv,hw,i5,_,_,i3,h4,_⟩
      . omega
      unfold maxLen at h4;omega
     go_wp2_with fail;go_loopg [23] (e.length+1) (λj x wr=>∃(i:Nat) (a2:σ),i+j=e.length+1/\i<=e.length/\x=xI i/\aa (I a2 wr)/\aa (gu c g sE r (.mk l a nm n p e) k e 0 (sE s (.mk l a nm n p e) k)=gu c g sE r (.mk l a nm n p e) k (e.drop i) i a2)/\aa (FT T W wr));case atStart=>exact⟨0,_,by omega,aE _,rfl,em.o,rfl,O.o⟩
     case round =>
      obtain⟨i,a2,h6,i4,rfl,S,c1,Q⟩:=hrel;obtain⟨⟨a9,H,V,M⟩,fv,fx,fV,m0,m1⟩:=U _ wr S.o Q.o;obtain⟨g5,g6,ip,it⟩:=zp fx;obtain⟨g7,g8,iR,i0⟩:=zp fV;by_cases go:i<e.length
      . obtain⟨t,dn⟩:∃t,e[i]?=some t:=⟨_,av go⟩;obtain⟨u,hu⟩:∃u,vs[i]?=some u:=⟨_,av (by omega)⟩;have bL:bV N w wr:=fd.o.trans fv;have a0:wr.ownsRow 0 159 1 (.slice x e.length g1) e.length vs:=zi D.o (λj _ _ d=>bL j (bk.o j d));obtain⟨g',rfl,ge⟩:=nB a0 hu;have be:=(bp i t u dn hu).am bL;obtain⟨i2,_,_,rfl,_⟩:=be.ptr;have er:=za (HJ (.mk l a nm n p e) (xP b) i k wr.drew (a9.am (λ_ _=>rfl)) (V.am (λ_ _=>rfl)) (M.gh rfl) H);have bl:=za (aM dn);have es:=za (m.sub _ k i t c4 a5 dn);have a3:aa (gu c g sE r (.mk l a nm n p e) k e 0 (sE s (.mk l a nm n p e) k)=gu c g sE r (.mk l a nm n p e) k (e.drop (i+1)) (i+1) (gK c g sE r t (c.operand (.mk l a nm n p e) i k) a2)):=(by obtain⟨h1,h2⟩:=aB.1 dn;unfold aa;rw[c1.o,dE h1,gu,h2]);have eb:aa (cs (gK c g sE r t (c.operand (.mk l a nm n p e) i k) a2)):=(by have A:=F;rw[d,a3.o] at A;exact yc m.bE m.bL _ _ _ _ _ (m.bL _ _ _ A));go_upto_region 5 with fail
        go_region_held3 (λw'=>w'.cell? (xD w.heap.size 0)=some (xE cn c E)/\w'.cell? (xD w.heap.size 1)=some (xP nb)/\w'.cell? (xD (w.heap.size+1) 0)=some (xI (k.1:Nat))/\w'.cell? (xD (w.heap.size+1) 1)=some (xI (k.2:Nat)))
         (first|(refine⟨?_,?_,?_,?_⟩ <;> repeat (first|with_reducible exact g5|with_reducible exact g6|with_reducible exact g7|with_reducible exact g8|with_reducible refine zg ?_|with_reducible refine a4.cell ?_ (by assumption)|with_reducible refine zd y.o ?_ (by omega)))|go_keep)
         (first
           | (go_at_call 117;refine hm.o.mono ?_;rintro d lk ⟨rfl,eq,a4⟩)
           | (go_at_call 180;refine er.o.mono ?_;rintro d ds ⟨rfl,bs⟩;have y:=za (zw bs);have h8:wr.heap.size<=ds.heap.size:=bs.size;have c3:=za (m.aq _ _ _ S.o y.o);have h9:¬T ds w.heap.size:=(λd=>m0 (c3.o.2 _ d));have io:¬T ds (w.heap.size+1):=(λd=>m1 (c3.o.2 _ d));have hm:=za (ev t bl.o (c.operand (.mk l a nm n p e) i k) _ a2 ds (be.am (zm y.o H)) (by omega) (V.am (zm y.o H)) (M.aq y.o) c3.o.1 es.o eb.o)))
        go_wp2_with fail;go_roundg (gk-1);case measure=>omega
        exact⟨i+1,_,by omega,by omega,by go_num,eq,a3.o,(Q.o.trans (FT.below y.o c3.o.2)).trans a4⟩
      have hQ:i=e.length:=(by omega);subst hQ;rw[List.drop_length,gu] at c1;have C:=za (m.p5 _ _ k _ wr a9 H V M S.o c4 (by have A:=F;rw[d,c1.o] at A;exact A));unfold hG at C;go_wp2_with fail;with_reducible refine C.o.mono ?_
      rintro d i1 ⟨rfl,R,P⟩;go_wp2_with fail;go_end0;refine⟨rfl,?_,(G.trans Q.o).trans P⟩;rw[d,c1.o];exact R
end
section
variable {N p A z j y D m r:Nat} {S:Xs} {g:Xo} {c:Sc} {E B F C:Xv} {w f:Xw}
attribute [local go_sem ↓] Go.wp_at_zero Go.wp_at_succ
structure iq (S:Xs) (D m j r:Nat) (F E:Xv) (N:Nat) (c:Sc) (B C:Xv) (y p A z:Nat) (g:Xo) (w:Xw):Prop where
 rp:cl S D m j r F E g w
 sc:br w N c B C
 ck:dF w c y
 x1:w.heap[p]?=some (.cells #[B,C] 205 (0,0))
 x2:w.heap[A]?=some (.cells #[.map (some y)] 224 (0,0))
 x3:w.heap[z]?=some (.cells #[bT m j r] 200 (0,0))
 d:∀b,b=p∨b=A∨b=z∨b=y->¬b=m/\¬b=j
 l1:N<=m
 l2:N<=j
 hN:N<=w.heap.size
theorem iq.aq (h:iq S D m j r F E N c B C y p A z g w)(a:xB w f):iq S D m j r F E N c B C y p A z g f :=
 ⟨h.rp.aq a,h.sc.am (zm a h.hN),h.ck.aq a,(a.block _ (ze h.x1)).trans h.x1,(a.block _ (ze h.x2)).trans h.x2,(a.block _ (ze h.x3)).trans h.x3,h.d,h.l1,h.l2,aJ h.hN a.size⟩
theorem iq.aX {d:Xo}(h:iq S D m j r F E N c B C y p A z g w)(n:cl S D m j r F E d f)(a:Fr (RT m j) w f):iq S D m j r F E N c B C y p A z d f:=by
 have i:∀{b},(b=p∨b=A∨b=z∨b=y)->¬RT m j b:=λl e=>by rcases e with e|e;exact (h.d _ l).1 e;exact (h.d _ l).2 e
 exact⟨n,h.sc.am (a.am h.hN (λk e=>by rcases e with e|e;exact e▸h.l1;exact e▸h.l2)),h.ck.gh (a.block _ h.ck.lt (i (by simp))),(a.block _ (ze h.x1) (i (by simp))).trans h.x1,(a.block _ (ze h.x2) (i (by simp))).trans h.x2,(a.block _ (ze h.x3) (i (by simp))).trans h.x3,h.d,h.l1,h.l2,aJ h.hN a.size⟩
theorem K6:zH 181:=λ_ _=>by kernel_rfl
theorem KI:zH 119:=λ_ _=>by kernel_rfl
theorem xo (k:Nat)(w:Xw):xK 182 #[xI (k:Int)] w (λe f=>e=.returned (xI (lz k:Nat))/\w=f):=by
 unfold lz;by_cases h:k=8
 . subst h;rw[ag rfl];go_enter func182,ntmps182;go_wp2_with fail;go_ret;exact⟨rfl,rfl⟩
 rw[ae h];have a:¬(k:Int)=8:=by omega
 go_enter func182,ntmps182;go_wp2_with fail;go_ret;exact⟨rfl,rfl⟩
theorem GP (w:Xw):xK 182 #[xI 7] w (λe f=>e=.returned (xI 1)/\w=f):=xo 7 w
theorem GM (w:Xw):xK 182 #[xI 8] w (λe f=>e=.returned (xI 2)/\w=f):=xo 8 w
theorem Kl (v:Xv)(k:Nat×Nat)(w:Xw):xK 119 #[v,hG k] w (λe f=>e=.returned (.tuple #[])/\xB w f):=by
 unfold hG;go_enter func119,ntmps119;go_wp2_with fail;first|go_end0|refine bodyPost_ret (results_none rfl _ _ _) rfl ?_
 exact⟨rfl,zq w _⟩
theorem Jh (B C:Xv)(y m j r:Nat)(w:Xw)(l:Xp)(n b:Nat)(k:Nat)(d:B=.slice l n b)(i:C=xP k) :
 xK 118 #[.agg #[B,C],.map (some y),bT m j r] w (λe f=>e=.returned (.func (.func 181) #[] #[xP (w.heap.size+1),xP w.heap.size,xP (w.heap.size+1+1)])/\xB w f/\f.heap[w.heap.size]?=some (.cells #[B,C] 205 (0,0))/\f.heap[w.heap.size+1]?=some (.cells #[.map (some y)] 224 (0,0))/\f.heap[w.heap.size+1+1]?=some (.cells #[bT m j r] 200 (0,0))/\f.heap.size=w.heap.size+1+1+1):=by
 subst d i;unfold bT;have h:∀(fn:Go.Fn) (first a:Xa) (w:Xw),(Instr.makeFunc fn first a).run prog w=.ok (.func fn first a) w:=λ_ _ _ _=>rfl;go_enter func118,ntmps118;go_wp2_with fail;go_ret;exact⟨rfl,mg w _ _ _,(iu w _ _ _).1,(iu w _ _ _).2.1,(iu w _ _ _).2.2,by simp⟩
theorem Ka (S:Xs)(D m j r:Nat)(F E:Xv)(N:Nat)(c:Sc)(B C:Xv)(y p A z:Nat)(t:Tm)(v:Xv)(k:Nat×Nat)(g:Xo)(w:Xw)(hT:TT w N t v)(L:iq S D m j r F E N c B C y p A z g w) :
 xK 181 #[v,hG k,xP A,xP p,xP z] w (λe f=>e=.returned (.bool (c.cr t k).2)/\iq S D m j r F E N c B C y p A z ((c.cr t k).1.foldl aj g) f/\Fr (RT m j) w f):=by
 obtain⟨a0,O,Z,rfl,rfl,bL⟩:=L.sc.shape;obtain⟨b,bl,vs,rfl,cm,R,_⟩:=hT.ptr;have hN:=L.hN;have a3:=ze R;have l1:=L.l1;have l2:=L.l2;have d1:=L.d p (by simp);have d2:=L.d A (by simp);have d3:=L.d z (by simp);obtain⟨d11,d12⟩:=d1;obtain⟨d21,d22⟩:=d2;obtain⟨d31,d32⟩:=d3;have bs:¬b=m:=by omega
 have bp:¬b=j:=by omega
 have ds:=ze L.rp.l;have dn:=ze L.rp.b;obtain⟨s,u⟩:=k;unfold hG;go_enter func181,ntmps181;go_upto_region 1 with fail;refine zn (λW=>iq S D m j r F E N c (xE a0 c O) (xP Z) y p A z g W/\xB w W/\xH W w.heap.size #[xI (s:Nat),xI (u:Nat)] 228) ⟨L.aq (zq w _),zq w _,zc w _⟩ ?_;rintro W ⟨i,x,a2⟩;obtain⟨c4,s1,c5,c9⟩:=zp i.x1;obtain⟨c0,ca,ck⟩:=zu i.x2;obtain⟨al,c3,bk⟩:=zu i.x3;obtain⟨cn,b4,cv,c1⟩:=zp a2;obtain⟨m0,m1,m2,m3,m4,m5,c2,a9⟩:=zt ((x.block b a3).trans R);have bE:w.heap.size<=W.heap.size:=x.size;have Q:=za (hW t.s (t.nm:Int) W.drew (i.sc.am (λ_ _=>rfl)) (by show N<=W.heap.size;omega));unfold bT at al;by_cases h3:t.k=3∨t.k=6
 . have G:aa (c.cr t (s,u)=(if c.of (c.idx t.s)=(s,u) then [] else [t.nm],true)):=ag (by rcases h3 with hk|hk <;> rw[hk] <;> decide);obtain⟨⟨ak,be⟩,bt⟩:∃o,c.of (c.idx t.s)=o:=⟨_,rfl⟩;rw[bt] at G;have cs:((ak:Int)=(s:Int)/\(be:Int)=(u:Int))∨((ak:Int)=(s:Int)/\¬(be:Int)=(u:Int))∨¬(ak:Int)=(s:Int):=by omega
   rcases h3 with hk|hk <;> rcases cs with ⟨e1,U⟩|⟨e1,U⟩|e1
   all_goals
    rw[hk] at m0
    first
     | rw[ag (Prod.ext (by show ak=s;omega) (by show be=u;omega))] at G
     | rw[ae (λh=>by have V:=congrArg Prod.fst h;have X:=congrArg Prod.snd h;simp only at V X;omega)] at G
    go_upto_region 4 with fail
    go_region_held3 (λf=>f.cell? (xD A 0)=some (.map (some y))/\f.cell? (xD p 0)=some (xE a0 c O)/\f.cell? (xD p 1)=some (xP Z)/\f.cell? (xD b 2)=some (.string t.s)/\f.cell? (xD b 3)=some (xI t.nm)/\f.cell? (xD w.heap.size 0)=some (xI (s:Nat))/\f.cell? (xD w.heap.size 1)=some (xI (u:Nat)))
     (first|(with_reducible (refine⟨?_,?_,?_,?_,?_,?_,?_⟩ <;> repeat (first|assumption|refine zg ?_|refine zj _ ?_|refine zk (by omega) ?_|refine zd M.o ?_ (by first|omega|(rw[au];omega))|refine zd d.o ?_ (by first|omega|(rw[au];omega)))))|go_keep)
     (first
       | (go_at_call 116;refine T.o.mono ?_;rintro e ar ⟨rfl,Y⟩;have M:=za Y;have b0:P.heap.size<=ar.heap.size:=Y.size)
       | (go_at_call 103;refine Q.o.mono ?_;rintro e P ⟨rfl,H⟩;have d:=za (zw H);have K:W.heap.size<=P.heap.size:=H.size;have T:=za (jW (c.idx t.s) P (i.ck.aq d.o));(rw[bt] at T)))
    first
     | (go_wp2_with fail
        go_ret;rw[G.o];exact⟨rfl,i.aq (d.o.trans (M.o.mono K)),(zy x).trans (zy (d.o.trans (M.o.mono K)))⟩)
     | (go_upto_region 5 with fail
        have a:=za (d.o.trans (M.o.mono K));have g1:=zd a.o al bk;have g2:=zd a.o m3 a9;have n:=za (eg S D m j r F E g t.nm ar.drew ((i.aq a.o).rp.aq (zo (Below.refl _ _))))
        go_region_held3 (λf=>f.cell? (xD z 0)=some (.func (.func 124) #[] #[xP m,xP j,xP r])/\f.cell? (xD b 3)=some (xI t.nm))
         (first|(with_reducible (refine⟨?_,?_⟩ <;> repeat (first|assumption|refine zg ?_|refine zS l.o ?_ (by omega) (by omega))))|go_keep)
         (first|(go_at_call 124;refine (n.o).mono ?_;rintro e bx ⟨rfl,J,I⟩;have l:=za I.cQ))
        go_wp2_with fail;go_ret;rw[G.o];refine⟨rfl,?_,((zy x).trans (zy a.o)).trans l.o⟩;exact (i.aq a.o).aX J l.o)
 by_cases h7:t.k=7
 . have a5:W.cell? (xD b 0)=some (xI 7):=by rw[m0,h7];rfl
   have G:aa (c.cr t (s,u)=(if (s,u)=(c.idx t.s,1) then ([],true) else ([t.a],false))):=(by show c.cr t _=_;unfold Sc.cr;rw[ae (by omega),ag (by omega),h7];rfl);have cs:((s:Int)=(c.idx t.s:Int)/\(u:Int)=1)∨((s:Int)=(c.idx t.s:Int)/\¬(u:Int)=1)∨¬(s:Int)=(c.idx t.s:Int):=(by omega);rcases cs with ⟨e1,U⟩|⟨e1,U⟩|e1
   all_goals
    first
     | rw[ag (Prod.ext (by show s=_;omega) (by show u=_;omega))] at G
     | rw[ae (λh=>by have V:=congrArg Prod.fst h;have X:=congrArg Prod.snd h;simp only at V X;omega)] at G
    go_upto_region 8 with fail
    go_region_held3 (λf=>f.cell? (xD p 0)=some (xE a0 c O)/\f.cell? (xD p 1)=some (xP Z)/\f.cell? (xD b 0)=some (xI 7)/\f.cell? (xD b 2)=some (.string t.s)/\f.cell? (xD b 3)=some (xI t.nm)/\f.cell? (xD w.heap.size 0)=some (xI (s:Nat))/\f.cell? (xD w.heap.size 1)=some (xI (u:Nat)))
     (first|(with_reducible (refine⟨?_,?_,?_,?_,?_,?_,?_⟩ <;> repeat (first|assumption|refine zg ?_|refine zj _ ?_|refine zk (by omega) ?_|refine zd d.o ?_ (by first|omega|(rw[au];omega)))))|go_keep)
     (first
       | (go_at_call 182;refine (GP _).mono ?_;rintro e ar ⟨rfl,rfl⟩)
       | (go_at_call 103;refine Q.o.mono ?_;rintro e P ⟨rfl,H⟩;have d:=za (zw H);have K:W.heap.size<=P.heap.size:=H.size))
    first
     | (go_wp2_with fail
        go_ret;rw[G.o];exact⟨rfl,i.aq d.o,(zy x).trans (zy d.o)⟩)
     | (go_upto_region 9 with fail
        have a:=za (d.o);have g1:=zd a.o al bk;have g2:=zd a.o m1 a9;have n:=za (eg S D m j r F E g t.a P.drew ((i.aq a.o).rp.aq (zo (Below.refl _ _))))
        go_region_held3 (λf=>f.cell? (xD z 0)=some (.func (.func 124) #[] #[xP m,xP j,xP r])/\f.cell? (xD b 1)=some (xI t.a))
         (first|(with_reducible (refine⟨?_,?_⟩ <;> repeat (first|assumption|refine zg ?_|refine zS l.o ?_ (by omega) (by omega))))|go_keep)
         (first|(go_at_call 124;refine (n.o).mono ?_;rintro e bx ⟨rfl,J,I⟩;have l:=za I.cQ))
        go_wp2_with fail;go_ret;rw[G.o];refine⟨rfl,?_,((zy x).trans (zy a.o)).trans l.o⟩;exact (i.aq a.o).aX J l.o)
 by_cases h8:t.k=8
 . have a5:W.cell? (xD b 0)=some (xI 8):=by rw[m0,h8];rfl
   have G:aa (c.cr t (s,u)=(if (s,u)=(c.idx t.s,2) then ([],true) else ([t.a],false))):=(by show c.cr t _=_;unfold Sc.cr;rw[ae (by omega),ag (by omega),h8];rfl);have cs:((s:Int)=(c.idx t.s:Int)/\(u:Int)=2)∨((s:Int)=(c.idx t.s:Int)/\¬(u:Int)=2)∨¬(s:Int)=(c.idx t.s:Int):=(by omega);rcases cs with ⟨e1,U⟩|⟨e1,U⟩|e1
   all_goals
    first
     | rw[ag (Prod.ext (by show s=_;omega) (by show u=_;omega))] at G
     | rw[ae (λh=>by have V:=congrArg Prod.fst h;have X:=congrArg Prod.snd h;simp only at V X;omega)] at G
    go_upto_region 8 with fail
    go_region_held3 (λf=>f.cell? (xD p 0)=some (xE a0 c O)/\f.cell? (xD p 1)=some (xP Z)/\f.cell? (xD b 0)=some (xI 8)/\f.cell? (xD b 2)=some (.string t.s)/\f.cell? (xD b 3)=some (xI t.nm)/\f.cell? (xD w.heap.size 0)=some (xI (s:Nat))/\f.cell? (xD w.heap.size 1)=some (xI (u:Nat)))
     (first|(with_reducible (refine⟨?_,?_,?_,?_,?_,?_,?_⟩ <;> repeat (first|assumption|refine zg ?_|refine zj _ ?_|refine zk (by omega) ?_|refine zd d.o ?_ (by first|omega|(rw[au];omega)))))|go_keep)
     (first
       | (go_at_call 182;refine (GM _).mono ?_;rintro e ar ⟨rfl,rfl⟩)
       | (go_at_call 103;refine Q.o.mono ?_;rintro e P ⟨rfl,H⟩;have d:=za (zw H);have K:W.heap.size<=P.heap.size:=H.size))
    first
     | (go_wp2_with fail
        go_ret;rw[G.o];exact⟨rfl,i.aq d.o,(zy x).trans (zy d.o)⟩)
     | (go_upto_region 9 with fail
        have a:=za (d.o);have g1:=zd a.o al bk;have g2:=zd a.o m1 a9;have n:=za (eg S D m j r F E g t.a P.drew ((i.aq a.o).rp.aq (zo (Below.refl _ _))))
        go_region_held3 (λf=>f.cell? (xD z 0)=some (.func (.func 124) #[] #[xP m,xP j,xP r])/\f.cell? (xD b 1)=some (xI t.a))
         (first|(with_reducible (refine⟨?_,?_⟩ <;> repeat (first|assumption|refine zg ?_|refine zS l.o ?_ (by omega) (by omega))))|go_keep)
         (first|(go_at_call 124;refine (n.o).mono ?_;rintro e bx ⟨rfl,J,I⟩;have l:=za I.cQ))
        go_wp2_with fail;go_ret;rw[G.o];refine⟨rfl,?_,((zy x).trans (zy a.o)).trans l.o⟩;exact (i.aq a.o).aX J l.o)
 have a4:∀q,c.cr t q=([],true):=λq=>by unfold Sc.cr;rw[ae (by omega),ae (by omega)]
 have G:=za (a4 (s,u));have g3:¬(t.k:Int)=3:=by omega
 have g6:¬(t.k:Int)=6:=by omega
 have g7:¬(t.k:Int)=7:=by omega
 have g8:¬(t.k:Int)=8:=by omega
 go_wp2_with fail;go_ret;rw[G.o];exact⟨rfl,i,zy x⟩
theorem KN (S:Xs)(D m j r:Nat)(F E:Xv)(N:Nat)(c:Sc)(B C:Xv)(y p A z:Nat) :
 yH N c B C y (λ_=>RT m j) 181 #[xP A,xP p,xP z] 119 #[] (λ_ _=>True) (λt k=>(c.cr t k).2) (λg t k=>(c.cr t k).1.foldl aj g) (λg _ _=>g) (iq S D m j r F E N c B C y p A z) (λ_=>True) where
 bE:=λ_ _ _ _=>trivial
 bL:=λ_ _ _ _=>trivial
 sJ:=K6
 sK:=KI
 hT:=λs w k a e=>by
  have h:=a.d y (by simp);rcases e with e|e
  . subst e;exact⟨a.l1,ze a.rp.l,λe=>h.1 e.symm⟩
  subst e;exact⟨a.l2,ze a.rp.b,λe=>h.2 e.symm⟩
 aq:=λs w f h l=>⟨h.aq l,λ_ e=>e⟩
 sub:=λ_ _ _ _ _ _ _=>trivial
 sG:=λt v k s w hT o q n a _ _=>by refine (Ka S D m j r F E N c B C y p A z t v k s w hT a).mono ?_;rintro e f ⟨d,b,i⟩;exact⟨d,b,FT.const i⟩
 p5:=λt v k s w hT o q n a _ _=>by refine (Kl v k w).mono ?_;rintro e f ⟨d,b⟩;exact⟨d,a.aq b,FT.const (zy b)⟩
theorem J4 (c:Sc):∀(t:Tm) (k:Nat×Nat) (g:Xo),gK c (λt k=>(c.cr t k).2) (λg t k=>(c.cr t k).1.foldl aj g) (λg _ _=>g) t k g=(fQ c t k).foldl aj g:=by
 intro t;induction t using Tm.ind with
 | h x a s nm n b v =>
   intro k g;have o:∀(l:List Tm),(∀u∈l,u∈b)->∀(i:Nat) (g:Xo),gu c (λt k=>(c.cr t k).2) (λg t k=>(c.cr t k).1.foldl aj g) (λg _ _=>g) (.mk x a s nm n b) k l i g=(k6 c (.mk x a s nm n b) k l i).foldl aj g:=by
    intro l;induction l with
    | nil=>intro _ i g;rfl
    | cons u l d => intro e i g;rw[gu,k6,bc,d (λu q=>e u (cS _ q)),v u (e u (ce ..))]
   rw[gK,fQ,bc];split
   . rw[o b (λ_ h=>h)]
   rfl
end
end Go.Proofs.YtmfkofhgdjechaaGreatDoor
