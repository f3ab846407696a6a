/- Part 4 of the proof. -/
import Derived.Test.YtbicmofihhjgbaaGreatDoorK02
set_option maxRecDepth 100000
set_option maxHeartbeats 8000000
namespace Go.Proofs.YtbicmofihhjgbaaGreatDoor
open Go.Proofs.Tryz
open Go.RowKit
section
variable {a:St}
theorem nE (h:a.op=16):a.enter.aI=a.fail 3 a.t.a:=by unfold St.enter St.aI St.fail;rw[ag (by omega)];cases a;split <;> simp_all
theorem JN (h:a.op<16):a.enter=({ a with op:=a.op+1 }:St).ad:=by unfold St.enter;rw[ae (by omega)]
theorem Hd (i:Xv)(S:Xs)(c:Nat)(a:St)(w:Xw)(b:a.op=16)(g:PL S w c a) :
 xK 205 #[xP c,i] w λe h=>e=.returned (.tuple #[])/\PL S h c (a.fail 3 a.t.a)/\Fr (·=c) w h:=by
 obtain⟨l,m,n,o,p,k,q⟩:=g.cells;have j:xC w 9 0 (.iface 324 (.pointer (some (S 3)))):=g.gl.deep;rw[b] at k;clear b;go_enter func205,ntmps205;go_wp2_with (go_at_call 87;refine (li S c a 3 (by decide) _ g).mono ?_;rintro e r ⟨rfl,f,d⟩);first|go_end0|refine bodyPost_ret (results_none rfl _ _ _) rfl ?_
 exact⟨rfl,f,d⟩
theorem Hx (F:FuncId)(d:Xa)(j:zH F)(S:Xs)(c:Nat)(a:St)(w:Xw)(o:bU a)(z:2<=a.t.k)(p:a.op<16)(k:PL S w c a)(R:Ending->World->Prop)
 (n:∀g,PL S g c a.enter->Fr (·=c) w g->xK F d g λe q=>e=.returned (.tuple #[])/\∃b,PL S q c b/\1<=b.op/\b.op<=100/\∀r,PL S r c b.aI->Fr (·=c) q r->R (.returned (.tuple #[])) r) :
 xK 205 #[xP c,.func (.func F) #[] d] w R:=by
 obtain⟨D,E,G,H,I,J,K⟩:=k.cells;have C:=k.frozen;have x:((a.op:Int)==16)=false:=bf.2 (by omega);have t:=k.mU (a.op+1);have v:((a.op+1:Nat):Int)=(a.op:Int)+1:=by omega
 rw[v] at t;have s:bU { a with op:=a.op+1 }:=⟨o.bad,o.ok.opened (by omega)⟩;have u:=kI s (by show a.t.k≠1;omega);rw[<- JN p] at u;have y:=za j;unfold zH at j;clear k o v;go_enter func205,ntmps205;go_wp2_with (go_at_call 186;refine (jV S c { a with op:=a.op+1 } _ s.ok z t).mono ?_;rintro e g ⟨rfl,h,i⟩;rw[u] at h;have l:aa (Fr (·=c) w g):=((Fr.refl (·=c) w).aY _ _).trans i;clear i);refine (n g h l.o).mono ?_;rintro e q ⟨rfl,b,f,A,B,m⟩;obtain⟨L,M,N,O,P,Q,T⟩:=f.cells;have U:=f.frozen;go_wp2_with fail;go_end0;refine m _ ?_ ((Fr.refl _ _).aY _ _);have:=f.mU (b.op-1);rw[show ((b.op-1:Nat):Int)=(b.op:Int)-1 by omega] at this;exact this
theorem ml (F:FuncId)(b:Xa)(k:zH F)(S:Xs)(c:Nat)(a:St)(p:Nat)(w:Xw)(j:Inv p a)(u:2<=a.t.k)(n:PL S w c a)(R:Ending->World->Prop)
 (l:a.op<16->∀i,PL S i c a.enter->Fr (·=c) w i->xK F b i λe o=>e=.returned (.tuple #[])/\∃d,PL S o c d/\1<=d.op/\d.op<=100/\∀g,PL S g c d.aI->Fr (·=c) o g->R (.returned (.tuple #[])) g)
 (f:a.op=16->∀g,PL S g c (a.fail 3 a.t.a)->Fr (·=c) w g->R (.returned (.tuple #[])) g) :
 xK 205 #[xP c,.func (.func F) #[] b] w R:=by
 have t:=j.bd.er (by omega);have r:=j.kq t;rcases Nat.lt_or_ge a.op 16 with h|h
 . exact Hx F b k S c a w j.bd u h n R (l h)
 have m:a.op=16:=by omega
 refine (Hd _ S c a w m n).mono ?_;rintro e i ⟨rfl,q,s⟩;exact f m i q s
end
section
variable {c:Ex} {L:List Ex} {B b f g j y:Nat} {t:Xy} {u v:Xv} {w m l:Xw}
theorem TR.one (k:B<=b)(o:B<=g)
 (n:xH w b #[xI (aF c.op.toList c.n:Nat),xI c.a,.string c.s,xI c.nm,xI (df c.op.toList c.n:Nat),xS g 1 1] 226)
 (d:xH w g #[u] 182) (e:c.ah=[y]) (p:TR w B L y u):TR w B (L++[c]) L.length (xP b):=by
 refine TR.mk L.length c b _ [u] (by simp) k n ⟨by simp,ap ⟨g,1,#[u],rfl,o,d,by simp,by decide,by simp,by simp⟩⟩ (by simp[e]) ?_;intro i s t a h;rw[e] at a
 match i with
 | 0=>simp at a h;subst a h;exact p.more _
 | i+1=>simp at a
theorem TR.three {x z:Nat}{t:Xv}(k:B<=b)(o:B<=g)
 (n:xH w b #[xI (aF c.op.toList c.n:Nat),xI c.a,.string c.s,xI c.nm,xI (df c.op.toList c.n:Nat),xS g 3 3] 226)
 (e:xH w g #[t,u,v] 182) (h:c.ah=[x,y,z]) (p:TR w B L x t) (r:TR w B L y u) (A:TR w B L z v):TR w B (L++[c]) L.length (xP b):=by
 refine TR.mk L.length c b _ [t,u,v] (by simp) k n ⟨by simp,ap ⟨g,3,#[t,u,v],rfl,o,e,by simp,by decide,by simp,by simp⟩⟩ (by simp[h]) ?_;intro i s q a d;rw[h] at a
 match i with
 | 0=>simp at a d;subst a d;exact p.more _
 | 1=>simp at a d;subst a d;exact r.more _
 | 2=>simp at a d;subst a d;exact A.more _
 | i+3=>simp at a
theorem Fr.mX (h:Fr (·=j) w l)(f i:Nat)(u:Xv):Fr (λk=>k=j∨k=f) w (l.setCell (xD f i) u) :=
 (h.mono (S':=λk=>k=j∨k=f) (λ_ _ h=>ao h)).setCell (ao (ap rfl)) u
theorem Fr.k1 {a:Xw}(d:Fr (·=j) w a)(h:Fr (λk=>k=j∨k=f) a l)(n:w.heap.size<=f):Fr (·=j) w l :=
 d.dr h (λi e hs=>by rcases hs with hs|hs;exact hs;omega)
def bH (w:Xw)(b:Nat)(t:Xy)(v:Xv):Prop:=w.heap[b]?=some (.cells #[v] t (0,0))
theorem bH.fr (h:bH w b t v)(d:Fr (·=j) w m)(a:¬b=j):bH m b t v:=(d.block b (ze h) a).trans h
theorem Fr.iX (e:Fr (λk=>k=j∨k=f) w m)(h:bH w b t v)(a:¬b=j)(d:¬b=f):bH m b t v:=(e.block b (ze h) (λi=>i.elim a d)).trans h
theorem Lq (a:St)(h:Tx a.src a.t):dC a [10,11]=if a.is 4 [45]=true then some 10 else if a.is 5 [110,111,116]=true then some 11 else none:=by obtain⟨_,_,d,e,_⟩:=ku;simp only[dC,d,e];rw[fm h (by decide),MH h (by decide)]
theorem Ij {d:Nat}{A:Fn}(M:zX d 238 A)(S:Xs)(j:Nat)(o:St)(p:Nat)(w:Xw)(J C f:Nat)(O P Q R T v5:Xv)(K:Inv p o)(Z:18<=o.op+d)(H:PL S w j o)(x:bH w J 172 (xP j))(r:bH w C 182 (xP f))(s:w.heap[f]?=some (.cells #[O,P,Q,R,T,v5] 226 (0,0)))(n1:¬C=j)(n3:j<f) :
 xK 240 #[xP J,xP C] w λe m=>e=.returned (.tuple #[])/\∃a g,PL S m j (A o).1/\aa ((A o).1.er=0->TR m w.heap.size (A o).1.L (A o).2 (.pointer a)) /\
  m.heap[f]?=some (.cells #[O,P,Q,R,T,xS g 1 1] 226 (0,0))/\m.heap[g]?=some (.cells #[.pointer a] 182 (0,0))/\w.heap.size<=g/\Fr (λk=>k=j∨k=f) w m:=by
 have n2:¬f=j:=by omega
 have U:=za (λl D=>M S j o p l K Z D);obtain⟨c0,ab,cz⟩:=zu x;obtain⟨e0,aA,aL⟩:=zu r;have G:=ze s;have Y:=H.lt;clear K M x;go_enter func240,ntmps240;go_region_with (go_at_call 238;refine (U.o _ H.drew).mono ?_;rintro e l ⟨I,rfl,q,E,n⟩;have h:Fr (·=j) w l:=n.cQ;have F:=h.size;have i:=(h.block f G n2).trans s;obtain⟨d0,d1,d2,d3,d4,d5,ar,V⟩:=zt i;obtain⟨f0,ff,fz⟩:=zu (r.fr h n1);have N:=q.lt;clear n)
 all_goals go_wp2_with fail
 all_goals go_end0
 all_goals
  have z:(l.setCell (xD f 5) (xS l.heap.size 1 1)).heap.size=l.heap.size:=by simp[World.setCell]
  refine⟨rfl,I,l.heap.size,?_,?_,?_,?_,F,?_⟩
  . exact (q.aU n3 _ _).alloc _
  . exact λX=>(E.out X).fr (((Fr.refl (·=f) l).aY _ _).alloc _) (λk D _ h2=>by have W:w.heap.size<=k:=D;omega)
  . exact (Below.heap_alloc _ _ _ (by rw[z];exact V)).trans (zh _ _ _ _ i)
  . have:=zc (l.setCell (xD f 5) (xS l.heap.size 1 1)) (.cells #[.pointer I] 182);rw[z] at this;exact this
  exact (h.mX f _ _).alloc _
end
section
variable {d:Nat}
theorem Ih:zH 240:=λ_ _=>by kernel_rfl
theorem ya {M:Fn}(c:zv d M){a:St}{p:Nat}(h:Inv p a)(i:a.er=0)(j:2<=a.t.k)(k:18<=a.op+(d+1))(b:a.op=16):(M a.enter).1.aI=a.fail 3 a.t.a:=by
 have e:=ai.enter h i j;have f:=c a.enter (p+1) e.af (by rw[St.bN];omega);have g:a.enter.er≠0:=by unfold St.enter;rw[ag (by omega)];exact St.cy _ (by decide)
 rw[f.er g,nE b]
theorem IH {l m:Fn}(a0:zX d 238 l)(gU:zv d l)(a1:zX (d+1) 239 m):zX (d+1) 238 (dG l m):=by
 intro S f st p w s ab A;have a3:=A.lt;have c:=za (kF S f st _ 2 [10,11] rfl (by decide) ((w.alloc (.cells #[xP f] 172)).alloc (.cells #[xI 10,xI 11] 223)) (iF _ _ _ _ rfl) (by decide) s.ok.tk ((A.alloc _).alloc _));rw[Lq st A.tx,au] at c;have a4:∀(fn:Go.Fn) (first D:Xa) (w:Xw),(Instr.makeFunc fn first D).run prog w=.ok (.func fn first D) w:=λ_ _ _ _=>rfl;by_cases q:(st.is 4 [45]||st.is 5 [110,111,116])=true
 . obtain⟨r,W,K⟩:∃r,(if st.is 4 [45]=true then some 10 else if st.is 5 [110,111,116]=true then some 11 else none)=some r/\aF (if st.is 4 [45]=true then kS else kR).toList 0=r:=by
    by_cases o:st.is 4 [45]=true
    . exact⟨10,by rw[ag o],by rw[ag o];decide +kernel⟩
    have I:st.is 5 [110,111,116]=true:=(by simpa [o] using q);exact⟨11,by rw[ae o,ag I],by rw[ae o];decide +kernel⟩
   have J:4<=st.t.k:=by
    simp only[Bool.or_eq_true] at q;rcases q with h|h
    . rw[Inv.bP h];omega
    rw[Inv.bP h];omega
   have V:=s.bd.er (by omega);have Q:dG l m st=(l st.enter).1.aI.put ⟨if st.is 4 [45]=true then kS else kR,st.t.a,0,[(l st.enter).2],sE,0⟩:=(by unfold dG;rw[ag ⟨V,q⟩]);rw[W] at c;simp only[fR] at c;rw[Q];generalize (if st.is 4 [45]=true then kS else kR)=op at *;have e1:=ai.enter s V (by omega:2<=st.t.k);have C:18<=st.enter.op+d:=(by rw[St.bN];omega);have B:=gU st.enter (p+1) e1.af C;have aA:=za (λt=>ya gU s V (by omega:2<=st.t.k) ab t);have aL:=za e1.af;have be:=za s.bd;go_enter func238,ntmps238;go_wp2_with (first|(go_at_call 226;refine c.o.mono ?_;rintro e H ⟨rfl,rfl⟩)|(go_at_call 208;refine (kC S f st r _ ((A.alloc _).alloc _)).mono ?_;rintro e H ⟨rfl,rfl⟩));obtain⟨n,j⟩:∃n,((((w.alloc (.cells #[xP f] 172)).alloc (.cells #[xI 10,xI 11] 223)).alloc (.cells #[xI r,xI st.t.a,.string ⟨#[]⟩,xI 0,xI 0,.slice none 0 0] 226)).alloc (.cells #[xP (w.heap.size+1+1)] 182))=n:=⟨_,rfl⟩;have b0:bH n w.heap.size 172 (xP f):=(by rw[<- j];exact (Below.heap_alloc _ _ _ (by simp;omega)).trans ((Below.heap_alloc _ _ _ (by simp;omega)).trans ((Below.heap_alloc _ _ _ (by simp)).trans (zc w _))));have Z:xH n (w.heap.size+1+1) #[xI r,xI st.t.a,.string ⟨#[]⟩,xI 0,xI 0,.slice none 0 0] 226:=(by rw[<- j];refine (Below.heap_alloc _ _ _ (by simp)).trans ?_;have:=zc ((w.alloc (.cells #[xP f] 172)).alloc (.cells #[xI 10,xI 11] 223)) (.cells #[xI r,xI st.t.a,.string ⟨#[]⟩,xI 0,xI 0,.slice none 0 0] 226);simpa using this);have L:bH n (w.heap.size+1+1+1) 182 (xP (w.heap.size+1+1)):=(by rw[<- j];have:=zc (((w.alloc (.cells #[xP f] 172)).alloc (.cells #[xI 10,xI 11] 223)).alloc (.cells #[xI r,xI st.t.a,.string ⟨#[]⟩,xI 0,xI 0,.slice none 0 0] 226)) (.cells #[xP (w.heap.size+1+1)] 182);unfold bH;simpa using this);have v:Fr (·=f) w n:=(by rw[<- j];exact ((((Fr.refl _ w).alloc _).alloc _).alloc _).alloc _);have N:PL S n f st:=(by rw[<- j];exact (((A.alloc _).alloc _).alloc _).alloc _);rw[j];refine (ml _ _ Ih S f st p n s (aJ (by decide) J) N (λe H=>e=.returned (.tuple #[])/\bH H (w.heap.size+1+1+1) 182 (xP (w.heap.size+1+1))/\ef S f w.heap.size w ((l st.enter).1.aI.put ⟨op,st.t.a,0,[(l st.enter).2],sE,0⟩).1 ((l st.enter).1.aI.put ⟨op,st.t.a,0,[(l st.enter).2],sE,0⟩).2 (.returned (xP (w.heap.size+1+1))) H) ?_ ?_).mono ?_
   . intro X Y O i;refine (Ij a0 S f st.enter (p+1) Y w.heap.size (w.heap.size+1+1+1) (w.heap.size+1+1) _ _ _ _ _ _ aL.o C O (b0.fr i (by omega)) (L.fr i (by omega)) ((i.block _ (ze Z) (by omega)).trans Z) (by omega) (by omega)).mono ?_;rintro e w2 ⟨rfl,a2,g,P,T,F,G,bb,E⟩;refine⟨rfl,(l st.enter).1,P,by rw[B.op,St.bN];omega,by rw[B.op,St.bN];omega,?_⟩;intro w3 x b;have M:Fr (·=f) w w3:=(Fr.k1 (v.trans i) E (by omega)).trans b;have a9:n.heap.size<=Y.heap.size:=i.size;have a6:w.heap.size<=n.heap.size:=v.size;refine⟨rfl,bH.fr (Fr.iX E (L.fr i (by omega)) (by omega) (by omega)) b (by omega),_,rfl,x.put _,?_,M⟩;intro z;have t2:=T.out z;refine TR.one (y:=(l st.enter).2) (g:=g) (u:=.pointer a2) (by omega) (by omega) ?_ ((b.block g (ze G) (by omega)).trans G) rfl ?_
     . show _=some (Obj.cells #[xI (aF op.toList 0:Nat),xI st.t.a,.string ⟨#[]⟩,xI (0:Nat),xI (df op.toList 0:Nat),xS g 1 1] 226 (0,0));rw[K,jY];exact (b.block _ (ze F) (by omega)).trans F
     exact (t2.fr b (λk o _ I=>by omega)).down (by omega)
   . intro t w3 x b;rw[aA.o t];exact⟨rfl,L.fr b (by omega),_,rfl,x.put _,λz=>absurd z (St.cy st (by decide)),v.trans b⟩
   rintro e w4 ⟨rfl,U,aV⟩;obtain⟨f0,ff,fz⟩:=zu U;go_wp2_with fail;go_ret;exact aV
 have Q:dG l m st=m st:=by unfold dG;rw[ae (λh=>q h.2)]
 have a5:(if st.is 4 [45]=true then some 10 else if st.is 5 [110,111,116]=true then some 11 else none)=(none:Xo):=by simp only[Bool.or_eq_true,not_or] at q;rw[ae q.1,ae q.2]
 rw[a5] at c;simp only[fR] at c;rw[Q];have ar:=za (a1 S f st p ((w.alloc (.cells #[xP f] 172)).alloc (.cells #[xI 10,xI 11] 223)) s ab ((A.alloc _).alloc _));generalize m st=R at *;go_enter func238,ntmps238;go_wp2_with (go_at_call 226;refine c.o.mono ?_;rintro e H ⟨rfl,rfl⟩);refine ar.o.mono ?_;rintro e Y o;obtain⟨a,rfl,I,h3,h4⟩:=(o.alloc (jg _ _)).alloc (jg _ _);go_wp2_with fail;go_ret;exact⟨a,rfl,I,h3,h4⟩
end
section
variable {b:Fn} {a d e:Nat}
theorem St.sN (s:St){f c:Nat}(g:e≠0):(s.fail e a).fail f c=s.fail e a:=by unfold St.fail;by_cases h:s.er=0 <;> simp[h,g]
theorem St.oo (s:St){k:Nat}{l:Xu}(f:e≠0)(g:k≠1):(s.fail e a).ac k l=s.fail e a:=by
 unfold St.ac;have:(s.fail e a).is k l=false:=by
  unfold St.is;have:(s.fail e a).t.k=1:=by unfold St.fail;split <;> rfl
  rw[this];have c:((1:Nat)==k)=false:=by simp;omega
  rw[c];rfl
 rw[this];exact St.sN s f
theorem St.om {s:St}(h:s.op=16):s.enter=({ s with op:=s.op+1 }:St).fail 3 s.t.a:=by unfold St.enter;rw[ag (by omega)]
theorem Ie:zH 247:=λ_ _=>by kernel_rfl
theorem pJ:(⟨#[41]⟩:Xb).toList=[41]:=by decide +kernel
theorem IC (M:zX d 190 b)(J:zv d b)(S:Xs)(j:Nat)(f:St)(p:Nat)(w:Xw)(r c:Nat)(v:Xv)(D:Inv p f)(F:18<=f.op+d)(E:PL S w j f)(o:bH w r 172 (xP j))(n:bH w c 182 v)(R:j<c)(T:¬r=j)(n3:¬r=c) :
 xK 247 #[xP r,xP c] w λe s=>e=.returned (.tuple #[])/\∃a,bH s c 182 (.pointer a)/\PL S s j ((b f).1.ac 4 [41])/\aa (((b f).1.ac 4 [41]).er=0->TR s w.heap.size (b f).1.L (b f).2 (.pointer a))/\Fr (λk=>k=j∨k=c) w s:=by
 have H:=za (M S j f p w D F E);have I:=J f p D F;have t:=za I.af.bd;obtain⟨U,V,cz⟩:=zu o;have Q:=ze n;have N:=E.lt;generalize b f=y at *;go_enter func247,ntmps247;go_wp2_with fail;refine H.o.mono ?_;rintro e G ⟨x,rfl,m,z,g⟩;have P:=g.size;have q:=o.fr g T;have i:=n.fr g (by omega);obtain⟨d0,W,X⟩:=zu q;obtain⟨f0,Y,Z⟩:=zu i;go_wp2_with (go_at_call 150;refine (zP S j y.1 _ [41] pJ _ t.o (m.aU R _ _)).mono ?_;rintro e w2 ⟨rfl,u,l⟩);go_end0;have O:y.1.iv [41]=y.1.ac 4 [41]:=fo m.tx (by decide);have A:bH (G.setCell (xD c 0) (.pointer x)) c 182 (.pointer x):=zh _ _ _ _ i;refine⟨rfl,x,A.fr l (by omega),O▸u,?_,?_⟩
 . intro B;have C:y.1.er=0:=by
    by_cases h:y.1.er=0
    . exact h
    exfalso;revert B;unfold St.ac;split
    . rw[St.ja];exact h
    exact λB=>St.cy _ (by decide) B
   exact ((z.out C).fr ((Fr.refl (·=c) G).aY _ _) (λk K _ L=>by omega)).fr l (λk K _ L=>by omega)
 exact (g.mX c _ _).trans (l.mono (λ_ _ h=>ao h))
theorem I1 (R:zX d 190 b)(F:zv d b)(S:Xs)(g:Nat)(c:St)(p:Nat)(w:Xw)(t:Inv p c)(K:2<=c.t.k)(ar:18<=c.op+(d+1))(G:PL S w g c) :
 xK 244 #[xP g] w (ef S g w.heap.size w (iM b c).1 (iM b c).2):=by
 have X:=G.lt;have Y:∀(fn:Go.Fn) (first s:Xa) (w:Xw),(Instr.makeFunc fn first s).run prog w=.ok (.func fn first s) w:=λ_ _ _ _=>rfl;have W:=t.bd.er (by omega);have J:=ai.enter t W K;have r:18<=c.enter.op+d:=by rw[St.bN];omega
 have m:=F c.enter (p+1) J.af r;have O:aa (c.op=16->((b c.enter).1.ac 4 [41]).aI=c.fail 3 c.t.a):=by
  intro i;have U:c.enter.er≠0:=by unfold St.enter;rw[ag (by omega)];exact St.cy _ (by decide)
  rw[m.er U];have V:c.enter.ac 4 [41]=c.enter:=by rw[St.om i];exact St.oo _ (by decide) (by decide)
  rw[V,nE i]
 show Calls _ _ _ _ (ef S g w.heap.size w ((b c.enter).1.ac 4 [41]).aI (b c.enter).2);have P:=za J.af;go_enter func244,ntmps244;go_wp2_with fail;obtain⟨l,h⟩:∃l,((w.alloc (.cells #[xP g] 172)).alloc (.cells #[.pointer none] 182))=l:=⟨_,rfl⟩;have T:bH l w.heap.size 172 (xP g):=by rw[<- h];exact (Below.heap_alloc _ _ _ (by simp)).trans (zc w _)
 have I:bH l (w.heap.size+1) 182 (.pointer none):=by rw[<- h];have:=zc (w.alloc (.cells #[xP g] 172)) (.cells #[.pointer none] 182);unfold bH;simpa using this
 have n:Fr (·=g) w l:=by rw[<- h];exact ((Fr.refl _ w).alloc _).alloc _
 have x:PL S l g c:=by rw[<- h];exact (G.alloc _).alloc _
 rw[h];refine (ml _ _ Ie S g c p l t K x (λe L=>e=.returned (.tuple #[])/\∃a,bH L (w.heap.size+1) 182 (.pointer a)/\ef S g w.heap.size w ((b c.enter).1.ac 4 [41]).aI (b c.enter).2 (.returned (.pointer a)) L) ?_ ?_).mono ?_
 . intro E M y j;refine (IC R F S g c.enter (p+1) M w.heap.size (w.heap.size+1) _ P.o r y (T.fr j (by omega)) (I.fr j (by omega)) (by omega) (by omega) (by omega)).mono ?_;rintro e w2 ⟨rfl,H,C,z,B,u⟩;refine⟨rfl,(b c.enter).1.ac 4 [41],z,by rw[St.a8,m.op,St.bN];omega,by rw[St.a8,m.op,St.bN];omega,?_⟩;intro N o f;have v:Fr (·=g) w N:=(Fr.k1 (n.trans j) u (by omega)).trans f;have ab:l.heap.size<=M.heap.size:=j.size;have Z:w.heap.size<=l.heap.size:=n.size;refine⟨rfl,H,C.fr f (by omega),H,rfl,o,?_,v⟩;intro q;have t2:=B.out q;have A:((b c.enter).1.ac 4 [41]).aI.L=(b c.enter).1.L:=St.bi _ _ _;rw[A];exact (t2.fr f (λk h1 _ h2=>by omega)).down (by omega)
 . intro i N o f;rw[O.o i];exact⟨rfl,none,I.fr f (by omega),none,rfl,o,λq=>absurd q (St.cy c (by decide)),n.trans f⟩
 rintro e w4 ⟨rfl,a4,D,Q⟩;obtain⟨f0,ff,fz⟩:=zu D;go_wp2_with fail;go_ret;exact Q
end
section
theorem Ji:zH 209:=λ_ _=>by kernel_rfl
theorem yM:(⟨#[102,98,121]⟩:Xb).toList=[102,98,121]:=by decide +kernel
theorem IQ {d:Nat}{m:Fn}(I:zX d 190 m)(S:Xs)(f:Nat)(i:St)(p:Nat)(w:Xw)(z G x c:Nat)(v:Xp)(K L M N O v5:Xv)(H:Inv p i)(V:18<=i.op+d)(E:PL S w f i)(q:bH w z 182 (.pointer v))(s:bH w G 172 (xP f))(o:bH w x 182 (xP c))(r:w.heap[c]?=some (.cells #[K,L,M,N,O,v5] 226 (0,0)))(X:¬z=f)(Y:¬x=f)(n3:f<c) :
 xK 209 #[xP z,xP G,xP x] w λe u=>e=.returned (.tuple #[])/\∃a g,PL S u f (m i).1/\aa ((m i).1.er=0->TR u w.heap.size (m i).1.L (m i).2 (.pointer a)) /\
  u.heap[c]?=some (.cells #[K,L,M,N,O,xS g 2 2] 226 (0,0))/\u.heap[g]?=some (.cells #[.pointer v,.pointer a] 182 (0,0))/\w.heap.size<=g/\Fr (λk=>k=f∨k=c) w u:=by
 have Z:¬c=f:=by omega
 have P:=za (λh A=>I S f i p h H V A);obtain⟨g0,gf,gz⟩:=zu q;obtain⟨c0,ab,cz⟩:=zu s;obtain⟨e0,aA,aL⟩:=zu o;have D:=ze r;have U:=E.lt;clear H I s;generalize m i=y at *;go_enter func209,ntmps209;go_region_with (go_at_call 190;refine (P.o _ E.drew).mono ?_;rintro e h ⟨F,rfl,n,B,l⟩;have b:Fr (·=f) w h:=l.cQ;have C:=b.size;have j:=(b.block c D Z).trans r;obtain⟨d0,d1,d2,d3,d4,d5,ar,Q⟩:=zt j;obtain⟨f0,ff,fz⟩:=zu (o.fr b Y);obtain⟨i0,W,aV⟩:=zu (q.fr b X);have J:=n.lt;clear l)
 all_goals go_wp2_with fail
 all_goals go_end0
 all_goals
  have t:(h.setCell (xD c 5) (xS h.heap.size 2 2)).heap.size=h.heap.size:=by simp[World.setCell]
  refine⟨rfl,F,h.heap.size,?_,?_,?_,?_,C,?_⟩
  . exact (n.aU n3 _ _).alloc _
  . exact λT=>(B.out T).fr (((Fr.refl (·=c) h).aY _ _).alloc _) (λk A _ h2=>by have R:w.heap.size<=k:=A;omega)
  . exact (Below.heap_alloc _ _ _ (by rw[t];exact Q)).trans (zh _ _ _ _ j)
  . have:=zc (h.setCell (xD c 5) (xS h.heap.size 2 2)) (.cells #[.pointer v,.pointer F] 182);rw[t] at this;exact this
  exact (b.mX c _ _).alloc _
theorem La:aF iO.toList 0=9:=by decide +kernel
theorem J3 {d:Nat}{l a:Fn}(bs:zX d 190 l)(a5:zv d l)(bx:zX (d+1) 207 a)(bv:zv (d+1) a):zX (d+1) 190 (fe l a):=by
 intro S i o p w bb a4 hR;have bA:=hR.lt;have bB:∀(fn:Go.Fn) (first P:Xa) (w:Xw),(Instr.makeFunc fn first P).run prog w=.ok (.func fn first P) w:=λ_ _ _ _=>rfl;have g1:=bv o p bb a4;have a6:=za (bx S i o p (w.alloc (.cells #[xP i] 172)) bb a4 (hR.alloc _));have hM:fe l a o=if (a o).1.er=0/\(a o).1.is 5 [102,98,121]=true then (l (a o).1.enter).1.aI.put ⟨iO,(a o).1.t.a,0,[(a o).2,(l (a o).1.enter).2],sE,0⟩ else a o:=rfl;have I:=za g1.af;have a9:aa (18<=(a o).1.op+(d+1)):=by unfold aa;rw[g1.op];exact a4
 generalize a o=x at *;cases M:x.1.is 5 [102,98,121] with
 | false => rw[hM,ae (by rw[M];simp)];go_enter func190,ntmps190;go_wp2_with fail;refine a6.o.mono ?_;rintro e b Z;obtain⟨bL,e0,_,_,T⟩:=id Z;have H:=T.size;have C:w.heap.size<b.heap.size:=(by simp at H;omega);have A:bH b w.heap.size 172 (xP i):=(T.block _ (by simp) (by omega)).trans (zc w _);obtain⟨p0,bE,bK⟩:=zu A;obtain⟨s,rfl,c,G,r⟩:=Z.alloc (jg _ _);have K:=za (fH S i x.1 ⟨#[102,98,121]⟩ _ yM (b.alloc (.cells #[.pointer s] 182)) I.o.ok.tk (c.alloc _));rw[MH c.tx (by decide),M] at K;have X:=c.lt;go_wp2_with (go_at_call 85;refine K.o.mono ?_;rintro e Y ⟨rfl,rfl⟩);go_ret;exact⟨s,rfl,c.alloc _,λJ=>(G.out J).fr ((Fr.refl (·=i) b).alloc _) (λk _ _ _=>by omega),r.alloc _⟩
 | true =>
   have ar:x.1.t.k=5:=Inv.bP M;have J:=I.o.bd.er (by omega);rw[hM,ag ⟨J,M⟩];have e1:=ai.enter I.o J (by omega:2<=x.1.t.k);have O:18<=x.1.enter.op+d:=(by rw[St.bN];have:=a9.o;omega);have Q:=a5 x.1.enter (p+1) e1.af O;obtain⟨E,L⟩:=Q.L;rw[St.dA] at L;have ab:=za (λ(h:(l x.1.enter).1.er=0)=>(show x.1.er=0 from J));have bo:=za (λD=>ya a5 I.o J (by omega:2<=x.1.t.k) a9.o D);have N:=za Q.op;have bp:=za e1.af;go_enter func190,ntmps190;go_wp2_with fail;refine a6.o.mono ?_;rintro e b ⟨s,rfl,c,G,r⟩;have H:=r.size;have C:w.heap.size<b.heap.size:=(by simp at H;omega);have bk:w.heap.size<b.heap.size+1:=(by omega);have bl:w.heap.size<b.heap.size+1+1:=(by omega);have A:bH b w.heap.size 172 (xP i):=(r.block _ (by simp) (by omega)).trans (zc w _);obtain⟨p0,bE,bK⟩:=zu A;have K:=za (fH S i x.1 ⟨#[102,98,121]⟩ _ yM (b.alloc (.cells #[.pointer s] 182)) I.o.ok.tk (c.alloc _));rw[MH c.tx (by decide),M] at K;have X:=c.lt;go_wp2_with (first|(go_at_call 85;refine K.o.mono ?_;rintro e Y ⟨rfl,rfl⟩)|(go_at_call 208;refine (kC S i x.1 9 _ (c.alloc _)).mono ?_;rintro e Y ⟨rfl,rfl⟩));obtain⟨q,j⟩:∃q,(((b.alloc (.cells #[.pointer s] 182)).alloc (.cells #[xI 9,xI x.1.t.a,.string ⟨#[]⟩,xI 0,xI 0,.slice none 0 0] 226)).alloc (.cells #[xP (b.heap.size+1)] 182))=q:=⟨_,rfl⟩;have b0:bH q w.heap.size 172 (xP i):=(by rw[<- j];exact (Below.heap_alloc _ _ _ (by simp;omega)).trans ((Below.heap_alloc _ _ _ (by simp;omega)).trans ((Below.heap_alloc _ _ _ C).trans A)));have b1:bH q b.heap.size 182 (.pointer s):=(by rw[<- j];exact (Below.heap_alloc _ _ _ (by simp;omega)).trans ((Below.heap_alloc _ _ _ (by simp)).trans (zc b _)));have b2:xH q (b.heap.size+1) #[xI 9,xI x.1.t.a,.string ⟨#[]⟩,xI 0,xI 0,.slice none 0 0] 226:=(by rw[<- j];refine (Below.heap_alloc _ _ _ (by simp)).trans ?_;have:=zc (b.alloc (.cells #[.pointer s] 182)) (.cells #[xI 9,xI x.1.t.a,.string ⟨#[]⟩,xI 0,xI 0,.slice none 0 0] 226);simpa using this);have b3:bH q (b.heap.size+1+1) 182 (xP (b.heap.size+1)):=(by rw[<- j];have:=zc ((b.alloc (.cells #[.pointer s] 182)).alloc (.cells #[xI 9,xI x.1.t.a,.string ⟨#[]⟩,xI 0,xI 0,.slice none 0 0] 226)) (.cells #[xP (b.heap.size+1)] 182);unfold bH;simpa using this);have t:Fr (·=i) b q:=(by rw[<- j];exact (((Fr.refl _ b).alloc _).alloc _).alloc _);have R:Fr (·=i) w q:=(((Fr.refl _ w).alloc _).trans r).trans t;have aL:PL S q i x.1:=(by rw[<- j];exact ((c.alloc _).alloc _).alloc _);rw[j];refine (ml _ _ Ji S i x.1 p q I.o (by rw[ar];decide) aL (λe Y=>e=.returned (.tuple #[])/\bH Y (b.heap.size+1+1) 182 (xP (b.heap.size+1))/\ef S i w.heap.size w ((l x.1.enter).1.aI.put ⟨iO,x.1.t.a,0,[x.2,(l x.1.enter).2],sE,0⟩).1 ((l x.1.enter).1.aI.put ⟨iO,x.1.t.a,0,[x.2,(l x.1.enter).2],sE,0⟩).2 (.returned (xP (b.heap.size+1))) Y) ?_ ?_).mono ?_
   . intro a3 w2 aV f;refine (IQ bs S i x.1.enter (p+1) w2 b.heap.size w.heap.size (b.heap.size+1+1) (b.heap.size+1) s _ _ _ _ _ _ bp.o O aV (b1.fr f (by omega)) (b0.fr f (by omega)) (b3.fr f (by omega)) ((f.block _ (ze b2) (by omega)).trans b2) (by omega) (by omega) (by omega)).mono ?_;rintro e w3 ⟨rfl,bt,g,F,a1,V,W,bC,m⟩;refine⟨rfl,(l x.1.enter).1,F,by rw[N.o,St.bN];omega,by rw[N.o,St.bN];omega,?_⟩;intro w4 a0 n;have aA:Fr (·=i) w w4:=(Fr.k1 (R.trans f) m (by omega)).trans n;have U:Fr (·=i) b w4:=(Fr.k1 (t.trans f) m (by omega)).trans n;have bg:q.heap.size<=w2.heap.size:=f.size;have be:b.heap.size<=q.heap.size:=t.size;refine⟨rfl,bH.fr (Fr.iX m (b3.fr f (by omega)) (by omega) (by omega)) n (by omega),_,rfl,a0.put _,?_,aA⟩;intro B;have t3:=a1.out B;have t1:=G.out (ab.o B);refine TR.two (y:=x.2) (z:=(l x.1.enter).2) (g:=g) (u:=.pointer s) (v:=.pointer bt) (by omega) (by omega) ?_ ((n.block g (ze W) (by omega)).trans W) rfl ?_ ?_
     . show _=some (Obj.cells #[xI (aF iO.toList 0:Nat),xI x.1.t.a,.string ⟨#[]⟩,xI (0:Nat),xI (df iO.toList 0:Nat),xS g 2 2] 226 (0,0));rw[La,jY];exact (n.block _ (ze V) (by omega)).trans V
     . show TR w4 w.heap.size (l x.1.enter).1.L x.2 (.pointer s);rw[L];exact ((t1.down (jg _ _)).fr U (λk Z _ h2=>by omega)).more E
     exact (t3.fr n (λk Z _ h2=>by omega)).down (by omega)
   . intro D w3 F m;rw[bo.o D];exact⟨rfl,b3.fr m (by omega),_,rfl,F.put _,λB=>absurd B (St.cy x.1 (by decide)),R.trans m⟩
   rintro e w4 ⟨rfl,a2,bq⟩;obtain⟨f0,ff,fz⟩:=zu a2;go_wp2_with fail;go_ret;exact bq
end
section
variable {c:St}
theorem TR.leaf {w:Xw}{B:Nat}{L:List Ex}{ex:Ex}{b:Nat}(e:B<=b)
 (f:xH w b #[xI (aF ex.op.toList ex.n:Nat),xI ex.a,.string ex.s,xI ex.nm,xI (df ex.op.toList ex.n:Nat),.slice none 0 0] 226)
 (a:ex.ah=[]):TR w B (L++[ex]) L.length (xP b):=by
 refine TR.mk L.length ex b _ [] (by simp) e f (World.ownsRow_nil _ _ _ _) (by simp[a]) ?_;intro i s t d _;rw[a] at d;simp at d
theorem yQ:aF gQ.toList 0=3:=by decide +kernel
theorem xk (s:Xb)(a:Nat)(w:Xw):xK 243 #[.agg #[.string s,xI a]] w λe b=>e=.returned (xP (w.heap.size+1))/\xB w b/\xH b (w.heap.size+1) #[xI 3,xI a,.string s,xI a,xI 0,.slice none 0 0] 226:=by go_enter func243,ntmps243;go_wp2;go_ret;refine⟨rfl,((Below.refl _ _).alloc (an _) _).alloc (by simp) _,?_⟩;have:=zc (w.alloc (.cells #[.string s,xI a] 117)) (.cells #[xI 3,xI a,.string s,xI a,xI 0,.slice none 0 0] 226);rw[au] at this;exact this
def pz (d:Nat)(M:Fn):Prop:=∀(S:Xs) (a:Nat) (c:St) (p:Nat) (w:Xw),Inv p c->c.t.k≠2->18<=c.op+d->PL S w a c ->
 xK 242 #[xP a] w (ef S a w.heap.size w (M c).1 (M c).2)
def ig (d:Nat)(b:Fn):Prop:=∀(S:Xs) (a:Nat) (c:St) (p:Nat) (w:Xw) (t:Tk),Inv p c->18<=c.op+d->1<=c.t.a->PL S w a c ->
 xK 189 #[xP a,.agg #[.string t.s,xI t.a]] w (ef S a w.heap.size w (vs b t c).1 (vs b t c).2)
theorem rY {t:Tk}:(((ck t:Nat):Int) != 3)=!(t.k==2):=by
 by_cases h:t.k=2
 . simp[ck,h]
 have:ck t≠3:=by unfold ck;(repeat' split) <;> first|decide|(exfalso;omega)
 have a:(t.k==2)=false:=by simp[h]
 rw[a];simp;omega
theorem ye (a:c.t.k=2):c.name=c.ad:=by unfold St.name;rw[ag a]
theorem rO (a:c.t.k=2):gr c=.agg #[.string c.t.s,xI c.t.a]:=by unfold gr;rw[ag a]
theorem Ju {d:Nat}{a:Fn}(o:pz d a):zX d 250 (bF a):=by
 intro S r c p w j B g;obtain⟨E,F,G,H,I,J,K⟩:=g.cells;have l:=rY (t:=c.t);have A:=g.lt;by_cases f:c.t.k=2
 . have z:=j.bd.er (by omega);have k:bF a c=kc c:=by unfold bF;rw[ae (by omega)]
   rw[k];have b:(c.t.k==2)=true:=(by simp[f]);rw[b] at l;have q:=za (gG S r c w j.bd g);rw[ye f,rO f] at q;clear g j o k f b z;go_enter func250,ntmps250;go_wp2_with (first|(go_at_call 243;refine (xk _ _ _).mono ?_;rintro e L ⟨rfl,i,n⟩)|(go_at_call 151;refine q.o.mono ?_;rintro e D ⟨rfl,m,h⟩));go_ret;have C:=h.size;refine⟨_,rfl,(m.below i).put _,λ_=>TR.leaf (ex:=⟨gQ,c.t.a,c.t.a,[],c.t.s,0⟩) (by omega) ?_ rfl,h.gA i⟩
   show _=some (Obj.cells #[xI (aF gQ.toList 0:Nat),xI c.t.a,.string c.t.s,xI c.t.a,xI (df gQ.toList 0:Nat),.slice none 0 0] 226 (0,0));rw[yQ,jY];exact n
 have k:bF a c=a c:=by unfold bF;rw[ag (ap f)]
 rw[k];have b:(c.t.k==2)=false:=by simp[f]
 rw[b] at l;have s:=za (o S r c p w j f B g);clear g j o k f b;generalize a c=R at *;go_enter func250,ntmps250;go_wp2_with (go_at_call 242;refine s.o.mono ?_;rintro e D ⟨x,rfl,u,y,v⟩);go_ret;exact⟨x,rfl,u,y,v⟩
end
section
theorem j7:(⟨#[40]⟩:Xb).toList=[40]:=by decide +kernel
theorem Jx {d:Nat}{i y:Fn}(T:pz (d+1) (aN i y))(P:ig (d+1) i):zX (d+1) 241 (aN i y):=by
 intro S u a p w j G x;obtain⟨Y,Z,q2,q3,q4,q5,q6⟩:=x.cells;have o:=rY (t:=a.t);have U:=x.lt;by_cases k:a.t.k=2
 . have q:=j.bd.er (by omega);have Q:aN i y a=if a.ad.is 4 [40]=true then vs i a.t a.ad else kc a:=by unfold aN;rw[ae (by simp[q]),ae (by omega),ag k]
   rw[Q];have h:(a.t.k==2)=true:=(by simp[k]);rw[h] at o;have D:=ai.gj j q (by omega:2<=a.t.k);have B:1<=a.ad.t.a:=(by have E:=j.tok (by omega);have v:=zV a.src a.t.t j.ok.tt;rw[St.dZ q];simp only;omega);have z:=za (gG S u a w j.bd x);rw[ye k,rO k] at z;have m:=za D.af.bd;cases C:a.ad.is 4 [40] with
   | true => rw[ag rfl];have J:=za (λg E=>P S u a.ad (p+1) g a.t D.af (by rw[St.bQ];exact G) B E);generalize vs i a.t a.ad=R at *;go_enter func241,ntmps241;go_wp2_with (go_at_call 151;refine z.o.mono ?_;rintro e g ⟨rfl,c,f⟩;have s:=f.size;have r:=c.lt;have l:=za (fH S u a.ad ⟨#[40]⟩ _ j7 (g.alloc (.cells #[.string a.t.s,xI a.t.a] 117)) m.o.ok.tk (c.alloc _));rw[fm c.tx (by decide),C] at l);go_wp2_with (first|(go_at_call 85;refine l.o.mono ?_;rintro e W ⟨rfl,rfl⟩)|(go_at_call 189;refine (J.o _ (c.alloc _)).mono ?_;rintro e X v;obtain⟨N,rfl,K,V,L⟩:=v.alloc (jg _ _)));go_ret;exact⟨N,rfl,K,λq=>(V.out q).down s,f.trans L⟩
   | false =>
     rw[ae (by simp)];go_enter func241,ntmps241;go_wp2_with (go_at_call 151;refine z.o.mono ?_;rintro e g ⟨rfl,c,f⟩;have s:=f.size;have r:=c.lt;have l:=za (fH S u a.ad ⟨#[40]⟩ _ j7 (g.alloc (.cells #[.string a.t.s,xI a.t.a] 117)) m.o.ok.tk (c.alloc _));rw[fm c.tx (by decide),C] at l);go_wp2_with (first|(go_at_call 85;refine l.o.mono ?_;rintro e W ⟨rfl,rfl⟩)|(go_at_call 243;refine (xk _ _ _).mono ?_;rintro e X ⟨rfl,n,A⟩));go_ret;have F:=A;simp only[au] at F;refine⟨some (xD (g.heap.size+1+1) 0),rfl,((c.alloc _).below n).put _,λ_=>TR.leaf (b:=g.heap.size+1+1) (ex:=⟨gQ,a.t.a,a.t.a,[],a.t.s,0⟩) (by omega) ?_ rfl,(f.alloc _).gA n⟩
     show _=some (Obj.cells #[xI (aF gQ.toList 0:Nat),xI a.t.a,.string a.t.s,xI a.t.a,xI (df gQ.toList 0:Nat),.slice none 0 0] 226 (0,0));rw[yQ,jY];exact F
 have h:(a.t.k==2)=false:=by simp[k]
 rw[h] at o;have H:=za (T S u a p w j k G x);generalize aN i y a=R at *;go_enter func241,ntmps241;go_wp2_with (go_at_call 242;refine H.o.mono ?_;rintro e g ⟨M,rfl,v,O,I⟩);go_ret;exact⟨M,rfl,v,O,I⟩
theorem Kj (a:St)(_hk:a.t.k<=5)(e:Tx a.src a.t):dC a [7,8]=if eu a=true then some (aF a.t.s.toList 0) else none:=by
 obtain⟨f,g,_⟩:=ku;simp only[dC,f,g];rw[MH e (by decide),MH e (by decide)];unfold eu;by_cases b:a.is 5 [119,104,101,110]=true
 . have:a.t.s.toList=[119,104,101,110]:=by unfold St.is at b;simp at b;exact b.2
   rw[b,this,Bool.true_or,ag rfl,ag rfl];decide
 by_cases c:a.is 5 [119,104,101,110,111,116]=true
 . have:a.t.s.toList=[119,104,101,110,111,116]:=by unfold St.is at c;simp at c;exact c.2
   have d:a.is 5 [119,104,101,110]=false:=(by simpa using b);rw[d,c,this];decide
 simp[b,c]
theorem x6 (a:St):∃(c:Xb) (b:Nat),gr a=.agg #[.string c,xI b]/\(a.t.k=2->c=a.t.s/\b=a.t.a):=by
 by_cases h:a.t.k=2
 . exact⟨a.t.s,a.t.a,rO h,λ_=>⟨rfl,rfl⟩⟩
 exact⟨⟨#[]⟩,0,by unfold gr;rw[ae h];rfl,λd=>absurd d h⟩
theorem HI (k:Int)(s:Xb)(a n:Int)(w:Xw):(Instr.field 79 (.agg #[xI k,.string s,xI a,xI n]) 2).run prog w=.ok (xI a) w:=by kernel_rfl
theorem H5 (k:Int)(s:Xb)(a n:Int)(w:Xw):(Instr.field 79 (.agg #[xI k,.string s,xI a,xI n]) 3).run prog w=.ok (xI n) w:=by kernel_rfl
theorem HD {d:Nat}{i:Fn}(a5:zX d 241 i)(a4:zv d i):zX d 239 (gR i):=by
 intro S o D p w aA aV hR;have a9:=hR.lt;have g1:=a4 D p aA aV;have a2:=za (a5 S o D p w aA aV hR);have hM:gR i D=M0 1300 (i D):=rfl;rw[hM];have a1:=za g1.af;generalize i D=x0 at *;obtain⟨R,n⟩:∃R,M0 1300 x0=R:=⟨_,rfl⟩;rw[n];go_enter func239,ntmps239;go_wp2_with fail;refine a2.o.mono ?_;rintro e w1 ⟨a3,rfl,M,W,I⟩;go_wp2_with fail;go_loopg [3] 1300 (λk l wr=>∃(x:St×Nat) (a:Xp),l=.pointer a/\aa (M0 k x=R)/\rem x.1<k/\aa (Inv p x.1)/\aa (PL S wr o x.1)/\aa (x.1.er=0->TR wr w.heap.size x.1.L x.2 (.pointer a))/\aa (Fr (·=o) w wr));case atStart => refine⟨x0,a3,rfl,n,?_,a1.o,M,W.out,I⟩;unfold rem;split <;> omega
 case round =>
  obtain⟨x,a,rfl,ab,a0,c,j,A,r⟩:=hrel;have aL:=j.o.lt;obtain⟨g,rfl⟩:∃g,gk=g+1:=⟨gk-1,by omega⟩;have f:=za (kF S o x.1 wr.heap.size 2 [7,8] rfl (by decide) (wr.alloc (.cells #[xI 7,xI 8] 223)) (iF wr _ _ _ rfl) (by decide) c.o.ok.tk (j.o.alloc _));rw[Kj x.1 c.o.ok.tk j.o.tx] at f;have bb:=r.o.size;cases t:eu x.1 with
  | false =>
    rw[t,ae (by simp)] at f;have Q:R=x:=by
     rw[<- ab.o]
     show (if x.1.er=0/\eu x.1=true then _ else x)=x;rw[ae (by rw[t];simp)]
    simp only[fR] at f;go_wp2_with (go_at_call 226;refine f.o.mono ?_;rintro e w' ⟨rfl,rfl⟩);go_ret;rw[Q];exact⟨a,rfl,j.o.alloc _,λs=>(A.o s).fr ((Fr.refl (·=o) wr).alloc _) (λk _ _ _=>by omega),r.o.alloc _⟩
  | true =>
    rw[t,ag rfl] at f;simp only[fR] at f;have T:x.1.t.k=5:=(by unfold eu at t;simp only[Bool.or_eq_true] at t;rcases t with h|h <;> exact Inv.bP h);have s:=c.o.bd.er (by omega);have e3:=ai.gj c.o s (by omega:2<=x.1.t.k);have V:=ai.name e3.af;have L:aa (M0 g (x.1.ad.name.put ⟨x.1.t.s,x.1.t.a,x.1.ad.t.a,[x.2],x.1.ad.t.s,0⟩)=R):=by
     have h:=ab.o;unfold aa;rw[<- h]
     show _=(if x.1.er=0/\eu x.1=true then _ else x);rw[ag ⟨s,t⟩]
    have C:aa (Inv p (x.1.ad.name.put ⟨x.1.t.s,x.1.t.a,x.1.ad.t.a,[x.2],x.1.ad.t.s,0⟩).1):=(ai.put V.af _).af;have v:aa (rem (x.1.ad.name.put ⟨x.1.t.s,x.1.t.a,x.1.ad.t.a,[x.2],x.1.ad.t.s,0⟩).1<g):=by
     unfold aa rem
     show (if x.1.ad.name.er=0 then 1201-x.1.ad.name.t.a else 0)<g;have h1:rem x.1=1201-x.1.t.a:=(by unfold rem;rw[ag s]);have E:=V.ta;have h3:x.1.t.a+1<=x.1.ad.t.a:=(by have:=c.o.tok (by omega);rw[St.dZ s];have hf:=zV x.1.src x.1.t.t c.o.ok.tt;simp only;omega);have h4:=V.af.ok.bR;have h5:=c.o.ok.bR;split <;> omega
    have F:=za c.o.bd;have G:=za e3.af.bd;have U:=za (kI c.o.bd (by omega:x.1.t.k≠1));obtain⟨Z,B⟩:∃Z,aF x.1.t.s.toList 0=Z:=⟨_,rfl⟩;rw[B] at f;have O:aa (x.1.ad.name.L=x.1.L):=(by unfold aa;rw[St.c8,St.bu]);have H:aa (x.1.ad.name.er=0->x.1.ad.t.k=2):=by
     intro h;by_cases E:x.1.ad.t.k=2
     . exact E
     exfalso;unfold St.name at h;rw[ae E] at h;exact St.cy _ (by decide) h
    have a6:=HI;go_wp2_with (first|(go_at_call 226;refine f.o.mono ?_;rintro e w' ⟨rfl,rfl⟩)|(go_at_call 186;refine (jV S o x.1 _ F.o.ok (aJ (by decide) (Nat.le_of_eq T.symm)) (j.o.alloc _)).mono ?_;rintro e w3 ⟨rfl,z,J⟩;rw[U.o] at z;simp only[Tk.dX]));obtain⟨ns,bg,Y,P⟩:=x6 x.1.ad;have ar:=za (gG S o x.1.ad w3 G.o z);rw[Y] at ar;go_wp2_with (go_at_call 151;refine ar.o.mono ?_;rintro e q ⟨rfl,N,K⟩);go_roundg g;case measure=>omega
    have m:Fr (·=o) wr q:=(((Fr.refl _ wr).alloc _).trans J).trans K;refine⟨(x.1.ad.name.put ⟨x.1.t.s,x.1.t.a,x.1.ad.t.a,[x.2],x.1.ad.t.s,0⟩),some (xD (q.heap.size+1) 0),rfl,L,v.out,C,((N.alloc _).alloc _).put _,?_,(((r.o.trans m).alloc _).alloc _)⟩;intro X;obtain⟨bk,bl⟩:=P (H.o X);have be:=m.size;refine TR.one (y:=x.2) (b:=q.heap.size+1) (g:=q.heap.size) (u:=.pointer a) (by omega) (by omega) ?_ ((Below.heap_alloc _ _ _ (by simp)).trans (zc q _)) rfl ?_
    . show _=some (Obj.cells #[xI (aF x.1.t.s.toList 0:Nat),xI x.1.t.a,.string x.1.ad.t.s,xI x.1.ad.t.a,xI (df x.1.t.s.toList 0:Nat),xS q.heap.size 1 1] 226 (0,0));rw[B,jY,<- bk,<- bl];have:=zc (q.alloc (.cells #[.pointer a] 182)) (.cells #[xI Z,xI x.1.t.a,.string ns,xI bg,xI 0,xS q.heap.size 1 1] 226);simpa using this
    show TR _ w.heap.size x.1.ad.name.L x.2 (.pointer a);rw[O.o];exact (A.o s).fr ((m.alloc _).alloc _) (λk h1 _ E=>by omega)
theorem KG:(⟨#[116,104,101,110]⟩:Xb).toList=[116,104,101,110]:=by decide +kernel
theorem Ky:(⟨#[101,108,115,101]⟩:Xb).toList=[101,108,115,101]:=by decide +kernel
theorem ai.dd {p:Nat}{a b:St}(h:ai p a b)(d:b.er=0):a.er=0:=by
 by_cases c:a.er=0
 . exact c
 exact absurd d (h.er c)
theorem HE {d:Nat}{rx:Fn}(a6:zX d 190 rx)(gX:zv d rx)(S:Xs)(a:Nat)(y:St)(p:Nat)(w:Xw)(bp be b:Nat)(v0 v1 v2 v3 v4 v5:Xv)(x j r:St×Nat)(v:rx y=x)(q:rx (x.1.ac 5 [116,104,101,110])=j)(h3:rx (j.1.ac 5 [101,108,115,101])=r)
 (bo:Inv p y) (ab:18<=y.op+d) (hR:PL S w a y) (i:bH w bp 172 (xP a)) (C:bH w be 182 (xP b)) (T:w.heap[b]?=some (.cells #[v0,v1,v2,v3,v4,v5] 226 (0,0))) (Z:¬bp=a) (n1:¬be=a) (n3:a<b) :
 xK 248 #[xP bp,xP be] w λe E=>e=.returned (.tuple #[])/\∃F bl G g,PL S E a r.1/\aa (r.1.er=0->TR E w.heap.size r.1.L x.2 (.pointer F)/\TR E w.heap.size r.1.L j.2 (.pointer bl)/\TR E w.heap.size r.1.L r.2 (.pointer G)) /\
  E.heap[b]?=some (.cells #[v0,v1,v2,v3,v4,xS g 3 3] 226 (0,0))/\E.heap[g]?=some (.cells #[.pointer F,.pointer bl,.pointer G] 182 (0,0))/\w.heap.size<=g/\Fr (λk=>k=a∨k=b) w E:=by
 have n2:¬b=a:=by omega
 have g1:=gX y p bo ab;have bb:=za (a6 S a y p w bo ab hR);have U:Inv p x.1:=by rw[<- v];exact g1.af
 have V:x.1.op=y.op:=by rw[<- v];exact g1.op
 rw[v] at bb;have m1:=ai.ac U 5 [116,104,101,110];have o1:18<=(x.1.ac 5 [116,104,101,110]).op+d:=by rw[St.a8,V];exact ab
 have g2:=gX _ p m1.af o1;have bg:=za (λH h=>a6 S a _ p H m1.af o1 h);have W:Inv p j.1:=by rw[<- q];exact g2.af
 have a1:j.1.op=y.op:=by rw[<- q,g2.op,St.a8,V]
 rw[q] at bg;have m2:=ai.ac W 5 [101,108,115,101];have o2:18<=(j.1.ac 5 [101,108,115,101]).op+d:=by rw[St.a8,a1];exact ab
 have g3:=gX _ p m2.af o2;have bk:=za (λH h=>a6 S a _ p H m2.af o2 h);rw[h3] at bk;have f2:ai p (x.1.ac 5 [116,104,101,110]) j.1:=by rw[<- q];exact g2.dj
 have f3:ai p (j.1.ac 5 [101,108,115,101]) r.1:=by rw[<- h3];exact g3.dj
 obtain⟨E2,M⟩:=f2.L;obtain⟨E3,z⟩:=f3.L;rw[St.bi] at M z;have s:=za (λh:r.1.er=0=>m2.dd (f3.dd h));have P:=za (λh:j.1.er=0=>m1.dd (f2.dd h));have ar:=za U.bd;have aA:=za W.bd;obtain⟨c0,bE,cz⟩:=zu i;obtain⟨e0,bK,bL⟩:=zu C;have a9:=ze T;have bs:=hR.lt;go_enter func248,ntmps248;go_wp2_with fail;refine bb.o.mono ?_;rintro e H ⟨F,rfl,N,a2,m⟩;have bt:=m.size;obtain⟨d0,bq,dz⟩:=zu (i.fr m Z);have Q:=za (zP S a x.1 _ _ KG H ar.o N);rw[nI N.tx (by decide)] at Q;go_wp2_with (go_at_call 150;refine Q.o.mono ?_;rintro e w2 ⟨rfl,aL,n⟩;obtain⟨i0,bC,bY⟩:=zu ((i.fr m Z).fr n Z);have bv:=n.size);refine (bg.o w2 aL).mono ?_;rintro e w3 ⟨G,rfl,O,a3,A⟩;have bx:=A.size;have I:=za ((m.trans n).trans A);obtain⟨b0,b1,b2⟩:=zu (i.fr I.o Z);have R:=za (zP S a j.1 _ _ Ky w3 aA.o O);rw[nI O.tx (by decide)] at R;go_wp2_with (go_at_call 150;refine R.o.mono ?_;rintro e w4 ⟨rfl,aV,B⟩;have bA:=B.size;have l:=za (I.o.trans B);obtain⟨k0,kf,kz⟩:=zu (i.fr l.o Z);obtain⟨b3,lf,b4⟩:=zu (C.fr l.o n1);have t:=za ((l.o.block b a9 n2).trans T));go_region_with (go_at_call 190;refine (bk.o _ aV.drew).mono ?_;rintro e c ⟨a5,rfl,a0,a4,X⟩;have o:Fr (·=a) w4 c:=X.cQ;have bB:=o.size;have J:=za (l.o.trans o);have u:=(o.block b (ze t.o) n2).trans t.o;obtain⟨d0,d1,d2,d3,d4,d5,bq,dz⟩:=zt u;obtain⟨f0,ff,fz⟩:=zu (C.fr J.o n1))
 all_goals go_wp2_with fail
 all_goals go_end0
 all_goals
  have Y:(c.setCell (xD b 5) (xS c.heap.size 3 3)).heap.size=c.heap.size:=by simp[World.setCell]
  refine⟨rfl,F,G,a5,c.heap.size,?_,?_,?_,?_,by omega,?_⟩
  . exact (a0.aU n3 _ _).alloc _
  . intro D;have t5:=a4.out D;have t3:=a3.out (s.o D);have t1:=a2.out (P.o (s.o D));have L:Fr (·=a) w3 c:=B.trans o;have K:Fr (·=a) H c:=(n.trans A).trans L;have f:Fr (·=b) c ((c.setCell (xD b 5) (xS c.heap.size 3 3)).alloc (.cells #[.pointer F,.pointer G,.pointer a5] 182)):=((Fr.refl _ c).aY _ _).alloc _;refine⟨?_,?_,?_⟩
    . rw[z,M];exact (((t1.fr K (λk v _ q=>by omega)).fr f (λk v _ q=>by omega)).more E2).more E3
    . rw[z];exact (((t3.down (by omega:w.heap.size<=w2.heap.size)).fr L (λk v _ q=>by omega)).fr f (λk v _ q=>by omega)).more E3
    exact (t5.down (by show w.heap.size<=w4.heap.size;omega)).fr f (λk v _ q=>by omega)
  . exact (Below.heap_alloc _ _ _ (by rw[Y];exact dz)).trans (zh _ _ _ _ u)
  . have:=zc (c.setCell (xD b 5) (xS c.heap.size 3 3)) (.cells #[.pointer F,.pointer G,.pointer a5] 182);rw[Y] at this;exact this
  exact (J.o.mX b _ _).alloc _
theorem H1:zH 248:=λ_ _=>by kernel_rfl
theorem A5:aF iz.toList 0=5:=by decide +kernel
structure se (w w0:Xw) (pb:Nat) (k a:Nat):Prop where
 bp:bH w0 w.heap.size 172 (xP pb)
 eb:xH w0 (w.heap.size+1) #[xI k,xI a,.string ⟨#[]⟩,xI 0,xI 0,.slice none 0 0] 226
 be:bH w0 (w.heap.size+1+1) 182 (xP (w.heap.size+1))
 fr:Fr (·=pb) w w0
 size:w0.heap.size=w.heap.size+1+1+1
theorem yO (w:Xw)(b k a:Nat):se w (((w.alloc (.cells #[xP b] 172)).alloc (.cells #[xI k,xI a,.string ⟨#[]⟩,xI 0,xI 0,.slice none 0 0] 226)).alloc (.cells #[xP (w.heap.size+1)] 182)) b k a:=by
 refine⟨?_,?_,?_,(((Fr.refl _ w).alloc _).alloc _).alloc _,by simp⟩
 . exact (Below.heap_alloc _ _ _ (by simp;omega)).trans ((Below.heap_alloc _ _ _ (by simp)).trans (zc w _))
 . refine (Below.heap_alloc _ _ _ (by simp)).trans ?_;have:=zc (w.alloc (.cells #[xP b] 172)) (.cells #[xI k,xI a,.string ⟨#[]⟩,xI 0,xI 0,.slice none 0 0] 226);simpa using this
 have:=zc ((w.alloc (.cells #[xP b] 172)).alloc (.cells #[xI k,xI a,.string ⟨#[]⟩,xI 0,xI 0,.slice none 0 0] 226)) (.cells #[xP (w.heap.size+1)] 182);unfold bH;simpa using this
theorem H4 {d:Nat}{r:Fn}(be:zX d 190 r)(M:zv d r)(S:Xs)(f:Nat)(a:St)(p:Nat)(w:Xw)(O:Inv p a)(a0:2<=a.t.k)(bq:18<=a.op+(d+1))(P:PL S w f a) :
 xK 245 #[xP f] w (ef S f w.heap.size w (fp r a).1 (fp r a).2):=by
 have bg:=P.lt;have bk:∀(fn:Go.Fn) (first G:Xa) (w:Xw),(Instr.makeFunc fn first G).run prog w=.ok (.func fn first G) w:=λ_ _ _ _=>rfl;have he:=O.bd.er (by omega);have e1:=ai.enter O he a0;have L:18<=a.enter.op+d:=by rw[St.bN];omega
 obtain⟨j,o⟩:∃s,r a.enter=s:=⟨_,rfl⟩;obtain⟨l,q⟩:∃s,r (j.1.ac 5 [116,104,101,110])=s:=⟨_,rfl⟩;obtain⟨h,N⟩:∃s,r (l.1.ac 5 [101,108,115,101])=s:=⟨_,rfl⟩;have hM:fp r a=h.1.aI.put ⟨iz,a.t.a,0,[j.2,l.2,h.2],sE,0⟩:=by unfold fp;simp only[o,q,N]
 rw[hM];have Q:=M a.enter (p+1) e1.af L;have R:Inv (p+1) j.1:=by rw[<- o];exact Q.af
 have H:j.1.op=a.op+1:=by rw[<- o,Q.op,St.bN]
 have m1:=ai.ac R 5 [116,104,101,110];have T:=M _ (p+1) m1.af (by rw[St.a8,H];omega);have U:Inv (p+1) l.1:=by rw[<- q];exact T.af
 have I:l.1.op=a.op+1:=by rw[<- q,T.op,St.a8,H]
 have m2:=ai.ac U 5 [101,108,115,101];have g3:=M _ (p+1) m2.af (by rw[St.a8,I];omega);have F:h.1.op=a.op+1:=by rw[<- N,g3.op,St.a8,I]
 have a3:aa (a.op=16->h.1.aI=a.fail 3 a.t.a):=by
  intro n;have V:=St.om n;have C:a.enter.er≠0:=by rw[V];exact St.cy _ (by decide)
  have bp:j.1=a.enter:=by rw[<- o,Q.er C]
  have q2:j.1.ac 5 [116,104,101,110]=a.enter:=by rw[bp,V];exact St.oo _ (by decide) (by decide)
  have q3:l.1=a.enter:=by rw[<- q,T.er (by rw[q2];exact C),q2]
  have q4:l.1.ac 5 [101,108,115,101]=a.enter:=by rw[q3,V];exact St.oo _ (by decide) (by decide)
  have q5:h.1=a.enter:=by rw[<- N,g3.er (by rw[q4];exact C),q4]
  rw[q5,nE n]
 have a2:=za (λw1 b0 b1 b2 ar=>HE be M S f a.enter (p+1) w1 w.heap.size (w.heap.size+1+1) (w.heap.size+1) (xI 5) (xI a.t.a) (.string ⟨#[]⟩) (xI 0) (xI 0) (.slice none 0 0) j l h o q N e1.af L ar b0 b1 b2 (by omega) (by omega) (by omega));go_enter func245,ntmps245;go_wp2_with (go_at_call 208;refine (kC S f a 5 _ (P.alloc _)).mono ?_;rintro e w' ⟨rfl,rfl⟩);have a5:=yO w f 5 a.t.a;have X:=((P.alloc (.cells #[xP f] 172)).alloc (.cells #[xI 5,xI a.t.a,.string ⟨#[]⟩,xI 0,xI 0,.slice none 0 0] 226)).alloc (.cells #[xP (w.heap.size+1)] 182);obtain⟨E,D⟩:∃E,(((w.alloc (.cells #[xP f] 172)).alloc (.cells #[xI 5,xI a.t.a,.string ⟨#[]⟩,xI 0,xI 0,.slice none 0 0] 226)).alloc (.cells #[xP (w.heap.size+1)] 182))=E:=⟨_,rfl⟩;have m:se w E f 5 a.t.a:=D▸a5;have Y:PL S E f a:=D▸X;refine Eq.mpr (congrArg (λz=>xK 205 _ z _) D) ?_;refine (ml _ _ H1 S f a p E O a0 Y (λe w'=>e=.returned (.tuple #[])/\bH w' (w.heap.size+1+1) 182 (xP (w.heap.size+1))/\ef S f w.heap.size w (h.1.aI.put ⟨iz,a.t.a,0,[j.2,l.2,h.2],sE,0⟩).1 (h.1.aI.put ⟨iz,a.t.a,0,[j.2,l.2,h.2],sE,0⟩).2 (.returned (xP (w.heap.size+1))) w') ?_ ?_).mono ?_
 . intro aV w2 Z c;refine (a2.o w2 (m.bp.fr c (by omega)) (m.be.fr c (by omega)) ((c.block _ (ze m.eb) (by omega)).trans m.eb) Z).mono ?_;rintro e w3 ⟨rfl,a6,a9,bb,g,A,aA,J,K,bo,i⟩;refine⟨rfl,h.1,A,by rw[F];omega,by rw[F];omega,?_⟩;intro w4 ab b;have W:Fr (·=f) w w4:=(Fr.k1 (m.fr.trans c) i (by omega)).trans b;have a1:E.heap.size<=w2.heap.size:=c.size;have bl:=m.size;refine⟨rfl,bH.fr (Fr.iX i (m.be.fr c (by omega)) (by omega) (by omega)) b (by omega),_,rfl,ab.put _,?_,W⟩;intro B;obtain⟨t1,t2,t3⟩:=aA.out B;refine TR.three (x:=j.2) (y:=l.2) (z:=h.2) (g:=g) (t:=.pointer a6) (u:=.pointer a9) (v:=.pointer bb) (by omega) (by omega) ?_ ((b.block g (ze K) (by omega)).trans K) rfl ?_ ?_ ?_
   . show _=some (Obj.cells #[xI (aF iz.toList 0:Nat),xI a.t.a,.string ⟨#[]⟩,xI (0:Nat),xI (df iz.toList 0:Nat),xS g 3 3] 226 (0,0));rw[A5,jY];exact (b.block _ (ze J) (by omega)).trans J
   . exact (t1.fr b (λk o _ q=>by omega)).down (by omega)
   . exact (t2.fr b (λk o _ q=>by omega)).down (by omega)
   exact (t3.fr b (λk o _ q=>by omega)).down (by omega)
 . intro n w3 A i;rw[a3.o n];exact⟨rfl,m.be.fr i (by omega),_,rfl,A.put _,λB=>absurd B (St.cy a (by decide)),m.fr.trans i⟩
 rintro e w4 ⟨rfl,aL,a4⟩;obtain⟨f0,ff,fz⟩:=zu aL;go_wp2_with fail;go_ret;exact a4
theorem Ix {d:Nat}{T:Fn}(bo:zX d 250 T)(bk:zv d T)(S:Xs)(b:Nat)(i:St)(p:Nat)(w:Xw)(R Q a:Nat)(v0 v1 v2 v3 v4 v5:Xv)(A:Xb)(z:Nat)(a1:gr i=.agg #[.string A,xI z])(x y:St×Nat)(B:T i.name=x)(H:T x.1=y)
 (bl:Inv p i) (bp:18<=i.op+d) (hR:PL S w b i) (L:bH w R 172 (xP b)) (K:bH w Q 182 (xP a)) (N:w.heap[a]?=some (.cells #[v0,v1,v2,v3,v4,v5] 226 (0,0))) (n0:¬R=b) (P:¬Q=b) (n3:b<a) (n4:¬R=a) (n5:¬Q=a) :
 xK 249 #[xP R,xP Q] w λe C=>e=.returned (.tuple #[])/\∃be bg g,PL S C b y.1/\aa (y.1.er=0->TR C w.heap.size y.1.L x.2 (.pointer be)/\TR C w.heap.size y.1.L y.2 (.pointer bg)) /\
  C.heap[a]?=some (.cells #[v0,v1,.string A,xI z,v4,xS g 2 2] 226 (0,0))/\C.heap[g]?=some (.cells #[.pointer be,.pointer bg] 182 (0,0))/\w.heap.size<=g/\Fr (λk=>k=b∨k=a) w C:=by
 have n2:¬a=b:=by omega
 have f0:=ai.name bl;have bb:=za (λj h=>gG S b i j bl.bd h);rw[a1] at bb;have o0:18<=i.name.op+d:=by rw[St.dB];exact bp
 have g1:=bk i.name p f0.af o0;have a6:=za (λj h=>bo S b i.name p j f0.af o0 h);have G:Inv p x.1:=by rw[<- B];exact g1.af
 have aA:x.1.op=i.op:=by rw[<- B,g1.op,St.dB]
 rw[B] at a6;have o1:18<=x.1.op+d:=by rw[aA];exact bp
 have g2:=bk _ p G o1;have a9:=za (λj h=>bo S b x.1 p j G o1 h);rw[H] at a9;have f2:ai p x.1 y.1:=by rw[<- H];exact g2.dj
 obtain⟨E2,U⟩:=f2.L;have D:=za (λh:y.1.er=0=>f2.dd h);obtain⟨c0,bB,cz⟩:=zu L;obtain⟨e0,bC,bE⟩:=zu K;have bq:=za hR;have ab:=za L;have E:=za K;have ar:=za N;have a4:=ze N;have bt:=hR.lt;go_enter func249,ntmps249;go_wp2_with fail;go_region_with (go_at_call 151;refine (bb.o _ bq.o.drew).mono ?_;rintro e j ⟨rfl,aL,I⟩;have n:Fr (·=b) w j:=I.cQ;have bv:=n.size;have v:=(n.block a a4 n2).trans ar.o;obtain⟨d0,d1,d2,d3,d4,d5,bs,dz⟩:=zt v;obtain⟨f0,ff,fz⟩:=zu (E.o.fr n P);have W:=za aL;have V:=za n;have F:=za v)
 all_goals
  have m:Fr (λk=>k=b∨k=a) w ((j.setCell (xD a 2) (.string A)).setCell (xD a 3) (xI z)):=(V.o.mX a _ _).setCell (ao (ap rfl)) _;have s:((j.setCell (xD a 2) (.string A)).setCell (xD a 3) (xI z)).heap[a]?=some (.cells #[v0,v1,.string A,xI z,v4,v5] 226 (0,0)):=zh _ _ _ _ (zh _ _ _ _ F.o);have X:PL S ((j.setCell (xD a 2) (.string A)).setCell (xD a 3) (xI z)) b i.name:=(W.o.aU n3 _ _).aU n3 _ _;have q:=m.iX E.o P n5;have r:=m.iX ab.o n0 n4;generalize ((j.setCell (xD a 2) (.string A)).setCell (xD a 3) (xI z))=w2 at *;obtain⟨p0,bY,b0⟩:=zu r;have a2:=m.size;go_wp2_with fail;refine (a6.o w2 X).mono ?_;rintro e w3 ⟨a3,rfl,Y,aV,c⟩;have bx:=c.size;have t:=za ((c.block a (ze s) n2).trans s);obtain⟨k0,kf,kz⟩:=zu (r.fr c n0);obtain⟨bK,lf,bL⟩:=zu (q.fr c P);go_wp2_with fail;go_region_with (go_at_call 250;refine (a9.o _ Y.drew).mono ?_;rintro e l ⟨a5,rfl,Z,a0,J⟩;have f:Fr (·=b) w3 l:=J.cQ;have bA:=f.size;have u:=(f.block a (ze t.o) n2).trans t.o;obtain⟨d0,d1,d2,d3,d4,d5,bs,dz⟩:=zt u;obtain⟨f0,ff,fz⟩:=zu ((q.fr c P).fr f P))
  all_goals go_wp2_with fail
  all_goals go_end0
  all_goals
   have O:(l.setCell (xD a 5) (xS l.heap.size 2 2)).heap.size=l.heap.size:=(by simp[World.setCell]);refine⟨rfl,a3,a5,l.heap.size,?_,?_,?_,?_,by omega,?_⟩
   . exact (Z.aU n3 _ _).alloc _
   . intro M;have t5:=a0.out M;have t3:=aV.out (D.o M);have o:Fr (·=a) l ((l.setCell (xD a 5) (xS l.heap.size 2 2)).alloc (.cells #[.pointer a3,.pointer a5] 182)):=((Fr.refl _ l).aY _ _).alloc _;refine⟨?_,?_⟩
     . rw[U];exact (((t3.down a2).fr f (λk B _ H=>by omega)).fr o (λk B _ H=>by omega)).more E2
     exact (t5.down (by show w.heap.size<=w3.heap.size;omega)).fr o (λk B _ H=>by omega)
   . exact (Below.heap_alloc _ _ _ (by rw[O];exact dz)).trans (zh _ _ _ _ u)
   . have:=zc (l.setCell (xD a 5) (xS l.heap.size 2 2)) (.cells #[.pointer a3,.pointer a5] 182);rw[O] at this;exact this
   exact ((((m.dr c (λ_ _ h=>ao h)).dr f (λ_ _ h=>ao h)).setCell (ao (ap rfl)) _).alloc _)
theorem IX:zH 249:=λ_ _=>by kernel_rfl
theorem KF:aF iL.toList 0=6:=by decide +kernel
theorem St.Az (s:St){e a:Nat}(b:e≠0):(s.fail e a).name=s.fail e a:=by
 unfold St.name;have:(s.fail e a).t.k=1:=by unfold St.fail;split <;> rfl
 rw[ae (by omega)];exact St.sN s b
theorem I4 {d:Nat}{r:Fn}(bg:zX d 250 (bF r))(be:zv d r)(S:Xs)(i:Nat)(a:St)(p:Nat)(w:Xw)(K:Inv p a)(aV:2<=a.t.k)(bt:18<=a.op+(d+1))(M:PL S w i a) :
 xK 246 #[xP i] w (ef S i w.heap.size w (fs r a).1 (fs r a).2):=by
 have P:zv d (bF r):=pf be;have bk:=M.lt;have bl:∀(fn:Go.Fn) (first D:Xa) (w:Xw),(Instr.makeFunc fn first D).run prog w=.ok (.func fn first D) w:=λ_ _ _ _=>rfl;have he:=K.bd.er (by omega);have e1:=ai.enter K he aV;have I:18<=a.enter.op+d:=by rw[St.bN];omega
 obtain⟨l,q⟩:∃s,bF r a.enter.name=s:=⟨_,rfl⟩;obtain⟨b,t⟩:∃s,bF r l.1=s:=⟨_,rfl⟩;obtain⟨ns,a1,aA,ar⟩:=x6 a.enter;have hM:fs r a=b.1.aI.put ⟨iL,a.t.a,a.enter.t.a,[l.2,b.2],a.enter.t.s,0⟩:=by unfold fs;simp only[q,t]
 rw[hM];have f0:=ai.name e1.af;have J:=P a.enter.name (p+1) f0.af (by rw[St.dB];exact I);have N:Inv (p+1) l.1:=by rw[<- q];exact J.af
 have E:l.1.op=a.op+1:=by rw[<- q,J.op,St.dB,St.bN]
 have O:=P _ (p+1) N (by rw[E];omega);have C:b.1.op=a.op+1:=by rw[<- t,O.op,E]
 have f1:ai (p+1) a.enter.name l.1:=by rw[<- q];exact J.dj
 have f2:ai (p+1) l.1 b.1:=by rw[<- t];exact O.dj
 have L:aa (b.1.er=0->ns=a.enter.t.s/\a1=a.enter.t.a):=by
  intro h;apply ar;have Q:=f1.dd (f2.dd h);by_cases h4:a.enter.t.k=2
  . exact h4
  exfalso;unfold St.name at Q;rw[ae h4] at Q;exact St.cy _ (by decide) Q
 have a4:aa (a.op=16->b.1.aI=a.fail 3 a.t.a):=by
  intro n;have aL:=St.om n;have G:a.enter.er≠0:=by rw[aL];exact St.cy _ (by decide)
  have q0:a.enter.name=a.enter:=by rw[aL];exact St.Az _ (by decide)
  have a2:l.1=a.enter:=by rw[<- q,J.er (by rw[q0];exact G),q0]
  have q3:b.1=a.enter:=by rw[<- t,O.er (by rw[a2];exact G),a2]
  rw[q3,nE n]
 have a3:=za (λw1 b0 b1 b2 X=>Ix bg P S i a.enter (p+1) w1 w.heap.size (w.heap.size+1+1) (w.heap.size+1) (xI 6) (xI a.t.a) (.string ⟨#[]⟩) (xI 0) (xI 0) (.slice none 0 0) ns a1 aA l b q t e1.af I X b0 b1 b2 (by omega) (by omega) (by omega) (by omega) (by omega));go_enter func246,ntmps246;go_wp2_with (go_at_call 208;refine (kC S i a 6 _ (M.alloc _)).mono ?_;rintro e w' ⟨rfl,rfl⟩);have a6:=yO w i 6 a.t.a;have T:=((M.alloc (.cells #[xP i] 172)).alloc (.cells #[xI 6,xI a.t.a,.string ⟨#[]⟩,xI 0,xI 0,.slice none 0 0] 226)).alloc (.cells #[xP (w.heap.size+1)] 182);obtain⟨B,A⟩:∃B,(((w.alloc (.cells #[xP i] 172)).alloc (.cells #[xI 6,xI a.t.a,.string ⟨#[]⟩,xI 0,xI 0,.slice none 0 0] 226)).alloc (.cells #[xP (w.heap.size+1)] 182))=B:=⟨_,rfl⟩;have m:se w B i 6 a.t.a:=A▸a6;have U:PL S B i a:=A▸T;refine Eq.mpr (congrArg (λz=>xK 205 _ z _) A) ?_;refine (ml _ _ IX S i a p B K aV U (λe w'=>e=.returned (.tuple #[])/\bH w' (w.heap.size+1+1) 182 (xP (w.heap.size+1))/\ef S i w.heap.size w (b.1.aI.put ⟨iL,a.t.a,a.enter.t.a,[l.2,b.2],a.enter.t.s,0⟩).1 (b.1.aI.put ⟨iL,a.t.a,a.enter.t.a,[l.2,b.2],a.enter.t.s,0⟩).2 (.returned (xP (w.heap.size+1))) w') ?_ ?_).mono ?_
 . intro ab w2 V c;refine (a3.o w2 (m.bp.fr c (by omega)) (m.be.fr c (by omega)) ((c.block _ (ze m.eb) (by omega)).trans m.eb) V).mono ?_;rintro e w3 ⟨rfl,a9,bb,g,x,Y,F,H,bp,j⟩;refine⟨rfl,b.1,x,by rw[C];omega,by rw[C];omega,?_⟩;intro w4 W f;have R:Fr (·=i) w w4:=(Fr.k1 (m.fr.trans c) j (by omega)).trans f;have a0:B.heap.size<=w2.heap.size:=c.size;have bo:=m.size;refine⟨rfl,bH.fr (Fr.iX j (m.be.fr c (by omega)) (by omega) (by omega)) f (by omega),_,rfl,W.put _,?_,R⟩;intro o;obtain⟨t1,t2⟩:=Y.out o;obtain⟨bq,bs⟩:=L.o o;refine TR.two (y:=l.2) (z:=b.2) (g:=g) (u:=.pointer a9) (v:=.pointer bb) (by omega) (by omega) ?_ ((f.block g (ze H) (by omega)).trans H) rfl ?_ ?_
   . show _=some (Obj.cells #[xI (aF iL.toList 0:Nat),xI a.t.a,.string a.enter.t.s,xI a.enter.t.a,xI (df iL.toList 0:Nat),xS g 2 2] 226 (0,0));rw[KF,jY,<- bq,<- bs];exact (f.block _ (ze F) (by omega)).trans F
   . exact (t1.fr f (λk q _ t=>by omega)).down (by omega)
   exact (t2.fr f (λk q _ t=>by omega)).down (by omega)
 . intro n w3 x j;rw[a4.o n];exact⟨rfl,m.be.fr j (by omega),_,rfl,x.put _,λo=>absurd o (St.cy a (by decide)),m.fr.trans j⟩
 rintro e w4 ⟨rfl,Z,a5⟩;obtain⟨f0,ff,fz⟩:=zu Z;go_wp2_with fail;go_ret;exact a5
end
end Go.Proofs.YtbicmofihhjgbaaGreatDoor
