/- Part 3. -/
import Derived.Test.YtcnelakggnfnhaaGreatDoorK01
set_option maxRecDepth 100000
set_option maxHeartbeats 8000000
namespace Go.Proofs.YtcnelakggnfnhaaGreatDoor
open Go.Proofs.Tryz
open Go.RowKit
section
variable {a:St}
theorem nE (h:a.op=16):a.enter.aI=a.fail 3 a.t.a:=by unfold St.enter St.aI St.fail;rw[ag (by omega)];cases a;split <;> simp_all
theorem JN (h:a.op<16):a.enter=({ a with op:=a.op+1 }:St).ad:=by unfold St.enter;rw[ae (by omega)]
theorem Hd (i:Xv)(S:Xs)(c:Nat)(a:St)(w:Xw)(b:a.op=16)(g:PL S w c a) :
 xK 192 #[xP c,i] w λe h=>e=.returned (.tuple #[])/\PL S h c (a.fail 3 a.t.a)/\Fr (·=c) w h:=by
 obtain⟨l,m,n,o,p,k,q⟩:=g.cells;have j:xC w 9 0 (.iface 316 (.pointer (some (S 3)))):=g.gl.deep;rw[b] at k;clear b;go_enter func192,ntmps192;go_wp2_with (go_at_call 74;refine (li S c a 3 (by decide) _ g).mono ?_;rintro e r ⟨rfl,f,d⟩);first|go_end0|refine ab (results_none rfl _ _ _) rfl ?_
 exact⟨rfl,f,d⟩
theorem Hx (F:FuncId)(d:Xa)(j:zH F)(S:Xs)(c:Nat)(a:St)(w:Xw)(o:bU a)(z:2<=a.t.k)(p:a.op<16)(k:PL S w c a)(R:Ending->World->Prop)
 (n:∀g,PL S g c a.enter->Fr (·=c) w g->xK F d g λe q=>e=.returned (.tuple #[])/\∃b,PL S q c b/\1<=b.op/\b.op<=100/\∀r,PL S r c b.aI->Fr (·=c) q r->R (.returned (.tuple #[])) r) :
 xK 192 #[xP c,.func (.func F) #[] d] w R:=by
 obtain⟨D,E,G,H,I,J,K⟩:=k.cells;have C:=k.frozen;have x:((a.op:Int)==16)=false:=bf.2 (by omega);have t:=k.mU (a.op+1);have v:((a.op+1:Nat):Int)=(a.op:Int)+1:=by omega
 rw[v] at t;have s:bU { a with op:=a.op+1 }:=⟨o.bad,o.ok.opened (by omega)⟩;have u:=kI s (by show a.t.k≠1;omega);rw[<- JN p] at u;have y:=za j;unfold zH at j;clear k o v;go_enter func192,ntmps192;go_wp2_with (go_at_call 174;refine (jV S c { a with op:=a.op+1 } _ s.ok z t).mono ?_;rintro e g ⟨rfl,h,i⟩;rw[u] at h;have l:aa (Fr (·=c) w g):=((Fr.refl (·=c) w).aY _ _).trans i;clear i);refine (n g h l.o).mono ?_;rintro e q ⟨rfl,b,f,A,B,m⟩;obtain⟨L,M,N,O,P,Q,T⟩:=f.cells;have U:=f.frozen;go_wp2_with fail;go_end0;refine m _ ?_ ((Fr.refl _ _).aY _ _);have:=f.mU (b.op-1);rw[show ((b.op-1:Nat):Int)=(b.op:Int)-1 by omega] at this;exact this
theorem ml (F:FuncId)(b:Xa)(k:zH F)(S:Xs)(c:Nat)(a:St)(p:Nat)(w:Xw)(j:Inv p a)(u:2<=a.t.k)(n:PL S w c a)(R:Ending->World->Prop)
 (l:a.op<16->∀i,PL S i c a.enter->Fr (·=c) w i->xK F b i λe o=>e=.returned (.tuple #[])/\∃d,PL S o c d/\1<=d.op/\d.op<=100/\∀g,PL S g c d.aI->Fr (·=c) o g->R (.returned (.tuple #[])) g)
 (f:a.op=16->∀g,PL S g c (a.fail 3 a.t.a)->Fr (·=c) w g->R (.returned (.tuple #[])) g) :
 xK 192 #[xP c,.func (.func F) #[] b] w R:=by
 have t:=j.bd.er (by omega);have r:=j.kq t;rcases Nat.lt_or_ge a.op 16 with h|h
 . exact Hx F b k S c a w j.bd u h n R (l h)
 have m:a.op=16:=by omega
 refine (Hd _ S c a w m n).mono ?_;rintro e i ⟨rfl,q,s⟩;exact f m i q s
end
section
variable {c:Ex} {L:List Ex} {B b f g j y:Nat} {t:Xy} {u v:Xv} {w m l:Xw}
theorem TR.one (k:B<=b)(o:B<=g)
 (n:xH w b #[xI (aF c.op.toList c.n:Nat),xI c.a,.string c.s,xI c.nm,xI (df c.op.toList c.n:Nat),xS g 1 1] 211)
 (d:xH w g #[u] 157) (e:c.ah=[y]) (p:TR w B L y u):TR w B (L++[c]) L.length (xP b):=by
 refine TR.mk L.length c b _ [u] (by simp) k n ⟨by simp,ap ⟨g,1,#[u],rfl,o,d,by simp,by decide,by simp,by simp⟩⟩ (by simp[e]) ?_;intro i s t a h;rw[e] at a
 match i with
 | 0=>simp at a h;subst a h;exact p.more _
 | i+1=>simp at a
theorem TR.three {x z:Nat}{t:Xv}(k:B<=b)(o:B<=g)
 (n:xH w b #[xI (aF c.op.toList c.n:Nat),xI c.a,.string c.s,xI c.nm,xI (df c.op.toList c.n:Nat),xS g 3 3] 211)
 (e:xH w g #[t,u,v] 157) (h:c.ah=[x,y,z]) (p:TR w B L x t) (r:TR w B L y u) (A:TR w B L z v):TR w B (L++[c]) L.length (xP b):=by
 refine TR.mk L.length c b _ [t,u,v] (by simp) k n ⟨by simp,ap ⟨g,3,#[t,u,v],rfl,o,e,by simp,by decide,by simp,by simp⟩⟩ (by simp[h]) ?_;intro i s q a d;rw[h] at a
 match i with
 | 0=>simp at a d;subst a d;exact p.more _
 | 1=>simp at a d;subst a d;exact r.more _
 | 2=>simp at a d;subst a d;exact A.more _
 | i+3=>simp at a
theorem Fr.mX (h:Fr (·=j) w l)(f i:Nat)(u:Xv):Fr (λk=>k=j∨k=f) w (l.setCell (xD f i) u) :=
 (h.mono (S':=λk=>k=j∨k=f) (λ_ _ h=>ao h)).setCell (ao (ap rfl)) u
theorem Fr.k1 {a:Xw}(d:Fr (·=j) w a)(h:Fr (λk=>k=j∨k=f) a l)(n:w.heap.size<=f):Fr (·=j) w l :=
 d.dr h (λi e hs=>by rcases hs with hs|hs;exact hs;omega)
def bH (w:Xw)(b:Nat)(t:Xy)(v:Xv):Prop:=w.heap[b]?=some (.cells #[v] t (0,0))
theorem bH.fr (h:bH w b t v)(d:Fr (·=j) w m)(a:¬b=j):bH m b t v:=(d.block b (ze h) a).trans h
theorem Fr.iX (e:Fr (λk=>k=j∨k=f) w m)(h:bH w b t v)(a:¬b=j)(d:¬b=f):bH m b t v:=(e.block b (ze h) (λi=>i.elim a d)).trans h
theorem Lq (a:St)(h:Tx a.src a.t):dC a [10,11]=if a.is 4 [45]=true then some 10 else if a.is 5 [110,111,116]=true then some 11 else none:=by obtain⟨_,_,d,e,_⟩:=ku;simp only[dC,d,e];rw[fm h (by decide),MH h (by decide)]
theorem Ij {d:Nat}{A:Fn}(M:zX d 224 A)(S:Xs)(j:Nat)(o:St)(p:Nat)(w:Xw)(J C f:Nat)(O P Q R T v5:Xv)(K:Inv p o)(Z:18<=o.op+d)(H:PL S w j o)(x:bH w J 176 (xP j))(r:bH w C 157 (xP f))(s:w.heap[f]?=some (.cells #[O,P,Q,R,T,v5] 211 (0,0)))(n1:¬C=j)(n3:j<f) :
 xK 226 #[xP J,xP C] w λe m=>e=.returned (.tuple #[])/\∃a g,PL S m j (A o).1/\aa ((A o).1.er=0->TR m w.heap.size (A o).1.L (A o).2 (.pointer a)) /\
  m.heap[f]?=some (.cells #[O,P,Q,R,T,xS g 1 1] 211 (0,0))/\m.heap[g]?=some (.cells #[.pointer a] 157 (0,0))/\w.heap.size<=g/\Fr (λk=>k=j∨k=f) w m:=by
 have n2:¬f=j:=by omega
 have U:=za (λl D=>M S j o p l K Z D);obtain⟨c0,ar,cz⟩:=zu x;obtain⟨e0,aL,aV⟩:=zu r;have G:=ze s;have Y:=H.lt;clear K M x;go_enter func226,ntmps226;go_region_with (go_at_call 224;refine (U.o _ H.drew).mono ?_;rintro e l ⟨I,rfl,q,E,n⟩;have h:Fr (·=j) w l:=n.cQ;have F:=h.size;have i:=(h.block f G n2).trans s;obtain⟨d0,d1,d2,d3,d4,d5,aA,V⟩:=zt i;obtain⟨f0,ff,fz⟩:=zu (r.fr h n1);have N:=q.lt;clear n)
 all_goals go_wp2_with fail
 all_goals go_end0
 all_goals
  have z:(l.setCell (xD f 5) (xS l.heap.size 1 1)).heap.size=l.heap.size:=by simp[World.setCell]
  refine⟨rfl,I,l.heap.size,?_,?_,?_,?_,F,?_⟩
  . exact (q.aU n3 _ _).alloc _
  . exact λX=>(E.out X).fr (((Fr.refl (·=f) l).aY _ _).alloc _) (λk D _ h2=>by have W:w.heap.size<=k:=D;omega)
  . exact (mm _ _ _ (by rw[z];exact V)).trans (zh _ _ _ _ i)
  . have:=zc (l.setCell (xD f 5) (xS l.heap.size 1 1)) (.cells #[.pointer I] 157);rw[z] at this;exact this
  exact (h.mX f _ _).alloc _
end
section
variable {d:Nat}
theorem Ih:zH 226:=λ_ _=>by kernel_rfl
theorem ya {M:Fn}(c:zv d M){a:St}{p:Nat}(h:Inv p a)(i:a.er=0)(j:2<=a.t.k)(k:18<=a.op+(d+1))(b:a.op=16):(M a.enter).1.aI=a.fail 3 a.t.a:=by
 have e:=ai.enter h i j;have f:=c a.enter (p+1) e.af (by rw[St.bN];omega);have g:a.enter.er≠0:=by unfold St.enter;rw[ag (by omega)];exact St.cy _ (by decide)
 rw[f.er g,nE b]
theorem IH {l m:Fn}(a1:zX d 224 l)(gU:zv d l)(a3:zX (d+1) 225 m):zX (d+1) 224 (dG l m):=by
 intro S f st p w s ar A;have a4:=A.lt;have c:=za (kF S f st _ 2 [10,11] rfl (by decide) ((w.alloc (.cells #[xP f] 176)).alloc (.cells #[xI 10,xI 11] 208)) (iF _ _ _ _ rfl) (by decide) s.ok.tk ((A.alloc _).alloc _));rw[Lq st A.tx,au] at c;have a5:∀(fn:Go.Fn) (first D:Xa) (w:Xw),(Instr.makeFunc fn first D).run prog w=.ok (.func fn first D) w:=λ_ _ _ _=>rfl;by_cases q:(st.is 4 [45]||st.is 5 [110,111,116])=true
 . obtain⟨r,W,K⟩:∃r,(if st.is 4 [45]=true then some 10 else if st.is 5 [110,111,116]=true then some 11 else none)=some r/\aF (if st.is 4 [45]=true then kS else kR).toList 0=r:=by
    by_cases o:st.is 4 [45]=true
    . exact⟨10,by rw[ag o],by rw[ag o];decide +kernel⟩
    have I:st.is 5 [110,111,116]=true:=(by simpa [o] using q);exact⟨11,by rw[ae o,ag I],by rw[ae o];decide +kernel⟩
   have J:4<=st.t.k:=by
    simp only[Bool.or_eq_true] at q;rcases q with h|h
    . rw[Inv.bP h];omega
    rw[Inv.bP h];omega
   have V:=s.bd.er (by omega);have Q:dG l m st=(l st.enter).1.aI.put ⟨if st.is 4 [45]=true then kS else kR,st.t.a,0,[(l st.enter).2],sE,0⟩:=(by unfold dG;rw[ag ⟨V,q⟩]);rw[W] at c;simp only[fR] at c;rw[Q];generalize (if st.is 4 [45]=true then kS else kR)=op at *;have e1:=ai.enter s V (by omega:2<=st.t.k);have C:18<=st.enter.op+d:=(by rw[St.bN];omega);have B:=gU st.enter (p+1) e1.af C;have aL:=za (λt=>ya gU s V (by omega:2<=st.t.k) ar t);have aV:=za e1.af;have bg:=za s.bd;go_enter func224,ntmps224;go_wp2_with (first|(go_at_call 212;refine c.o.mono ?_;rintro e H ⟨rfl,rfl⟩)|(go_at_call 195;refine (kC S f st r _ ((A.alloc _).alloc _)).mono ?_;rintro e H ⟨rfl,rfl⟩));obtain⟨n,j⟩:∃n,((((w.alloc (.cells #[xP f] 176)).alloc (.cells #[xI 10,xI 11] 208)).alloc (.cells #[xI r,xI st.t.a,.string ⟨#[]⟩,xI 0,xI 0,.slice none 0 0] 211)).alloc (.cells #[xP (w.heap.size+1+1)] 157))=n:=⟨_,rfl⟩;have b0:bH n w.heap.size 176 (xP f):=(by rw[<- j];exact (mm _ _ _ (by simp;omega)).trans ((mm _ _ _ (by simp;omega)).trans ((mm _ _ _ (by simp)).trans (zc w _))));have Z:xH n (w.heap.size+1+1) #[xI r,xI st.t.a,.string ⟨#[]⟩,xI 0,xI 0,.slice none 0 0] 211:=(by rw[<- j];refine (mm _ _ _ (by simp)).trans ?_;have:=zc ((w.alloc (.cells #[xP f] 176)).alloc (.cells #[xI 10,xI 11] 208)) (.cells #[xI r,xI st.t.a,.string ⟨#[]⟩,xI 0,xI 0,.slice none 0 0] 211);simpa using this);have L:bH n (w.heap.size+1+1+1) 157 (xP (w.heap.size+1+1)):=(by rw[<- j];have:=zc (((w.alloc (.cells #[xP f] 176)).alloc (.cells #[xI 10,xI 11] 208)).alloc (.cells #[xI r,xI st.t.a,.string ⟨#[]⟩,xI 0,xI 0,.slice none 0 0] 211)) (.cells #[xP (w.heap.size+1+1)] 157);unfold bH;simpa using this);have v:Fr (·=f) w n:=(by rw[<- j];exact ((((Fr.refl _ w).alloc _).alloc _).alloc _).alloc _);have N:PL S n f st:=(by rw[<- j];exact (((A.alloc _).alloc _).alloc _).alloc _);rw[j];refine (ml _ _ Ih S f st p n s (aJ (by decide) J) N (λe H=>e=.returned (.tuple #[])/\bH H (w.heap.size+1+1+1) 157 (xP (w.heap.size+1+1))/\ef S f w.heap.size w ((l st.enter).1.aI.put ⟨op,st.t.a,0,[(l st.enter).2],sE,0⟩).1 ((l st.enter).1.aI.put ⟨op,st.t.a,0,[(l st.enter).2],sE,0⟩).2 (.returned (xP (w.heap.size+1+1))) H) ?_ ?_).mono ?_
   . intro X Y O i;refine (Ij a1 S f st.enter (p+1) Y w.heap.size (w.heap.size+1+1+1) (w.heap.size+1+1) _ _ _ _ _ _ aV.o C O (b0.fr i (by omega)) (L.fr i (by omega)) ((i.block _ (ze Z) (by omega)).trans Z) (by omega) (by omega)).mono ?_;rintro e w2 ⟨rfl,a2,g,P,T,F,G,be,E⟩;refine⟨rfl,(l st.enter).1,P,by rw[B.op,St.bN];omega,by rw[B.op,St.bN];omega,?_⟩;intro w3 x b;have M:Fr (·=f) w w3:=(Fr.k1 (v.trans i) E (by omega)).trans b;have bb:n.heap.size<=Y.heap.size:=i.size;have a9:w.heap.size<=n.heap.size:=v.size;refine⟨rfl,bH.fr (Fr.iX E (L.fr i (by omega)) (by omega) (by omega)) b (by omega),_,rfl,x.put _,?_,M⟩;intro z;have t2:=T.out z;refine TR.one (y:=(l st.enter).2) (g:=g) (u:=.pointer a2) (by omega) (by omega) ?_ ((b.block g (ze G) (by omega)).trans G) rfl ?_
     . show _=some (Obj.cells #[xI (aF op.toList 0:Nat),xI st.t.a,.string ⟨#[]⟩,xI (0:Nat),xI (df op.toList 0:Nat),xS g 1 1] 211 (0,0));rw[K,jY];exact (b.block _ (ze F) (by omega)).trans F
     exact (t2.fr b (λk o _ I=>by omega)).down (by omega)
   . intro t w3 x b;rw[aL.o t];exact⟨rfl,L.fr b (by omega),_,rfl,x.put _,λz=>absurd z (St.cy st (by decide)),v.trans b⟩
   rintro e w4 ⟨rfl,U,a0⟩;obtain⟨f0,ff,fz⟩:=zu U;go_wp2_with fail;go_ret;exact a0
 have Q:dG l m st=m st:=by unfold dG;rw[ae (λh=>q h.2)]
 have a6:(if st.is 4 [45]=true then some 10 else if st.is 5 [110,111,116]=true then some 11 else none)=(none:Xo):=by simp only[Bool.or_eq_true,not_or] at q;rw[ae q.1,ae q.2]
 rw[a6] at c;simp only[fR] at c;rw[Q];have aA:=za (a3 S f st p ((w.alloc (.cells #[xP f] 176)).alloc (.cells #[xI 10,xI 11] 208)) s ar ((A.alloc _).alloc _));generalize m st=R at *;go_enter func224,ntmps224;go_wp2_with (go_at_call 212;refine c.o.mono ?_;rintro e H ⟨rfl,rfl⟩);refine aA.o.mono ?_;rintro e Y o;obtain⟨a,rfl,I,h3,h4⟩:=(o.alloc (jg _ _)).alloc (jg _ _);go_wp2_with fail;go_ret;exact⟨a,rfl,I,h3,h4⟩
end
section
variable {b:Fn} {a d e:Nat}
theorem St.sN (s:St){f c:Nat}(g:e≠0):(s.fail e a).fail f c=s.fail e a:=by unfold St.fail;by_cases h:s.er=0 <;> simp[h,g]
theorem St.oo (s:St){k:Nat}{l:Xu}(f:e≠0)(g:k≠1):(s.fail e a).ac k l=s.fail e a:=by
 unfold St.ac;have:(s.fail e a).is k l=false:=by
  unfold St.is;have:(s.fail e a).t.k=1:=by unfold St.fail;split <;> rfl
  rw[this];have c:((1:Nat)==k)=false:=by simp;omega
  rw[c];rfl
 rw[this];exact St.sN s f
theorem St.om {s:St}(h:s.op=16):s.enter=({ s with op:=s.op+1 }:St).fail 3 s.t.a:=by unfold St.enter;rw[ag (by omega)]
theorem Ie:zH 233:=λ_ _=>by kernel_rfl
theorem pJ:(⟨#[41]⟩:Xb).toList=[41]:=by decide +kernel
theorem IC (M:zX d 178 b)(J:zv d b)(S:Xs)(j:Nat)(f:St)(p:Nat)(w:Xw)(r c:Nat)(v:Xv)(D:Inv p f)(F:18<=f.op+d)(E:PL S w j f)(o:bH w r 176 (xP j))(n:bH w c 157 v)(R:j<c)(T:¬r=j)(n3:¬r=c) :
 xK 233 #[xP r,xP c] w λe s=>e=.returned (.tuple #[])/\∃a,bH s c 157 (.pointer a)/\PL S s j ((b f).1.ac 4 [41])/\aa (((b f).1.ac 4 [41]).er=0->TR s w.heap.size (b f).1.L (b f).2 (.pointer a))/\Fr (λk=>k=j∨k=c) w s:=by
 have H:=za (M S j f p w D F E);have I:=J f p D F;have t:=za I.af.bd;obtain⟨U,V,cz⟩:=zu o;have Q:=ze n;have N:=E.lt;generalize b f=y at *;go_enter func233,ntmps233;go_wp2_with fail;refine H.o.mono ?_;rintro e G ⟨x,rfl,m,z,g⟩;have P:=g.size;have q:=o.fr g T;have i:=n.fr g (by omega);obtain⟨d0,W,X⟩:=zu q;obtain⟨f0,Y,Z⟩:=zu i;go_wp2_with (go_at_call 134;refine (zP S j y.1 _ [41] pJ _ t.o (m.aU R _ _)).mono ?_;rintro e w2 ⟨rfl,u,l⟩);go_end0;have O:y.1.iv [41]=y.1.ac 4 [41]:=fo m.tx (by decide);have A:bH (G.setCell (xD c 0) (.pointer x)) c 157 (.pointer x):=zh _ _ _ _ i;refine⟨rfl,x,A.fr l (by omega),O▸u,?_,?_⟩
 . intro B;have C:y.1.er=0:=by
    by_cases h:y.1.er=0
    . exact h
    exfalso;revert B;unfold St.ac;split
    . rw[St.ja];exact h
    exact λB=>St.cy _ (by decide) B
   exact ((z.out C).fr ((Fr.refl (·=c) G).aY _ _) (λk K _ L=>by omega)).fr l (λk K _ L=>by omega)
 exact (g.mX c _ _).trans (l.mono (λ_ _ h=>ao h))
theorem I1 (R:zX d 178 b)(F:zv d b)(S:Xs)(g:Nat)(c:St)(p:Nat)(w:Xw)(t:Inv p c)(K:2<=c.t.k)(aA:18<=c.op+(d+1))(G:PL S w g c) :
 xK 230 #[xP g] w (ef S g w.heap.size w (iM b c).1 (iM b c).2):=by
 have X:=G.lt;have Y:∀(fn:Go.Fn) (first s:Xa) (w:Xw),(Instr.makeFunc fn first s).run prog w=.ok (.func fn first s) w:=λ_ _ _ _=>rfl;have W:=t.bd.er (by omega);have J:=ai.enter t W K;have r:18<=c.enter.op+d:=by rw[St.bN];omega
 have m:=F c.enter (p+1) J.af r;have O:aa (c.op=16->((b c.enter).1.ac 4 [41]).aI=c.fail 3 c.t.a):=by
  intro i;have U:c.enter.er≠0:=by unfold St.enter;rw[ag (by omega)];exact St.cy _ (by decide)
  rw[m.er U];have V:c.enter.ac 4 [41]=c.enter:=by rw[St.om i];exact St.oo _ (by decide) (by decide)
  rw[V,nE i]
 show Calls _ _ _ _ (ef S g w.heap.size w ((b c.enter).1.ac 4 [41]).aI (b c.enter).2);have P:=za J.af;go_enter func230,ntmps230;go_wp2_with fail;obtain⟨l,h⟩:∃l,((w.alloc (.cells #[xP g] 176)).alloc (.cells #[.pointer none] 157))=l:=⟨_,rfl⟩;have T:bH l w.heap.size 176 (xP g):=by rw[<- h];exact (mm _ _ _ (by simp)).trans (zc w _)
 have I:bH l (w.heap.size+1) 157 (.pointer none):=by rw[<- h];have:=zc (w.alloc (.cells #[xP g] 176)) (.cells #[.pointer none] 157);unfold bH;simpa using this
 have n:Fr (·=g) w l:=by rw[<- h];exact ((Fr.refl _ w).alloc _).alloc _
 have x:PL S l g c:=by rw[<- h];exact (G.alloc _).alloc _
 rw[h];refine (ml _ _ Ie S g c p l t K x (λe L=>e=.returned (.tuple #[])/\∃a,bH L (w.heap.size+1) 157 (.pointer a)/\ef S g w.heap.size w ((b c.enter).1.ac 4 [41]).aI (b c.enter).2 (.returned (.pointer a)) L) ?_ ?_).mono ?_
 . intro E M y j;refine (IC R F S g c.enter (p+1) M w.heap.size (w.heap.size+1) _ P.o r y (T.fr j (by omega)) (I.fr j (by omega)) (by omega) (by omega) (by omega)).mono ?_;rintro e w2 ⟨rfl,H,C,z,B,u⟩;refine⟨rfl,(b c.enter).1.ac 4 [41],z,by rw[St.a8,m.op,St.bN];omega,by rw[St.a8,m.op,St.bN];omega,?_⟩;intro N o f;have v:Fr (·=g) w N:=(Fr.k1 (n.trans j) u (by omega)).trans f;have ar:l.heap.size<=M.heap.size:=j.size;have Z:w.heap.size<=l.heap.size:=n.size;refine⟨rfl,H,C.fr f (by omega),H,rfl,o,?_,v⟩;intro q;have t2:=B.out q;have A:((b c.enter).1.ac 4 [41]).aI.L=(b c.enter).1.L:=St.bi _ _ _;rw[A];exact (t2.fr f (λk h1 _ h2=>by omega)).down (by omega)
 . intro i N o f;rw[O.o i];exact⟨rfl,none,I.fr f (by omega),none,rfl,o,λq=>absurd q (St.cy c (by decide)),n.trans f⟩
 rintro e w4 ⟨rfl,a4,D,Q⟩;obtain⟨f0,ff,fz⟩:=zu D;go_wp2_with fail;go_ret;exact Q
end
section
theorem Ji:zH 196:=λ_ _=>by kernel_rfl
theorem yM:(⟨#[102,98,121]⟩:Xb).toList=[102,98,121]:=by decide +kernel
theorem IQ {d:Nat}{m:Fn}(I:zX d 178 m)(S:Xs)(f:Nat)(i:St)(p:Nat)(w:Xw)(z G x c:Nat)(v:Xp)(K L M N O v5:Xv)(H:Inv p i)(V:18<=i.op+d)(E:PL S w f i)(q:bH w z 157 (.pointer v))(s:bH w G 176 (xP f))(o:bH w x 157 (xP c))(r:w.heap[c]?=some (.cells #[K,L,M,N,O,v5] 211 (0,0)))(X:¬z=f)(Y:¬x=f)(n3:f<c) :
 xK 196 #[xP z,xP G,xP x] w λe u=>e=.returned (.tuple #[])/\∃a g,PL S u f (m i).1/\aa ((m i).1.er=0->TR u w.heap.size (m i).1.L (m i).2 (.pointer a)) /\
  u.heap[c]?=some (.cells #[K,L,M,N,O,xS g 2 2] 211 (0,0))/\u.heap[g]?=some (.cells #[.pointer v,.pointer a] 157 (0,0))/\w.heap.size<=g/\Fr (λk=>k=f∨k=c) w u:=by
 have Z:¬c=f:=by omega
 have P:=za (λh A=>I S f i p h H V A);obtain⟨g0,gf,gz⟩:=zu q;obtain⟨c0,ar,cz⟩:=zu s;obtain⟨e0,aL,aV⟩:=zu o;have D:=ze r;have U:=E.lt;clear H I s;generalize m i=y at *;go_enter func196,ntmps196;go_region_with (go_at_call 178;refine (P.o _ E.drew).mono ?_;rintro e h ⟨F,rfl,n,B,l⟩;have b:Fr (·=f) w h:=l.cQ;have C:=b.size;have j:=(b.block c D Z).trans r;obtain⟨d0,d1,d2,d3,d4,d5,aA,Q⟩:=zt j;obtain⟨f0,ff,fz⟩:=zu (o.fr b Y);obtain⟨i0,W,a0⟩:=zu (q.fr b X);have J:=n.lt;clear l)
 all_goals go_wp2_with fail
 all_goals go_end0
 all_goals
  have t:(h.setCell (xD c 5) (xS h.heap.size 2 2)).heap.size=h.heap.size:=by simp[World.setCell]
  refine⟨rfl,F,h.heap.size,?_,?_,?_,?_,C,?_⟩
  . exact (n.aU n3 _ _).alloc _
  . exact λT=>(B.out T).fr (((Fr.refl (·=c) h).aY _ _).alloc _) (λk A _ h2=>by have R:w.heap.size<=k:=A;omega)
  . exact (mm _ _ _ (by rw[t];exact Q)).trans (zh _ _ _ _ j)
  . have:=zc (h.setCell (xD c 5) (xS h.heap.size 2 2)) (.cells #[.pointer v,.pointer F] 157);rw[t] at this;exact this
  exact (b.mX c _ _).alloc _
theorem La:aF iO.toList 0=9:=by decide +kernel
theorem J3 {d:Nat}{l a:Fn}(bt:zX d 178 l)(a6:zv d l)(bA:zX (d+1) 194 a)(bx:zv (d+1) a):zX (d+1) 178 (fe l a):=by
 intro S i o p w be a5 hR;have bB:=hR.lt;have bC:∀(fn:Go.Fn) (first P:Xa) (w:Xw),(Instr.makeFunc fn first P).run prog w=.ok (.func fn first P) w:=λ_ _ _ _=>rfl;have g1:=bx o p be a5;have a9:=za (bA S i o p (w.alloc (.cells #[xP i] 176)) be a5 (hR.alloc _));have hM:fe l a o=if (a o).1.er=0/\(a o).1.is 5 [102,98,121]=true then (l (a o).1.enter).1.aI.put ⟨iO,(a o).1.t.a,0,[(a o).2,(l (a o).1.enter).2],sE,0⟩ else a o:=rfl;have I:=za g1.af;have bb:aa (18<=(a o).1.op+(d+1)):=by unfold aa;rw[g1.op];exact a5
 generalize a o=x at *;cases M:x.1.is 5 [102,98,121] with
 | false => rw[hM,ae (by rw[M];simp)];go_enter func178,ntmps178;go_wp2_with fail;refine a9.o.mono ?_;rintro e b Z;obtain⟨bY,e0,_,_,T⟩:=id Z;have H:=T.size;have C:w.heap.size<b.heap.size:=(by simp at H;omega);have A:bH b w.heap.size 176 (xP i):=(T.block _ (by simp) (by omega)).trans (zc w _);obtain⟨p0,bK,bL⟩:=zu A;obtain⟨s,rfl,c,G,r⟩:=Z.alloc (jg _ _);have K:=za (fH S i x.1 ⟨#[102,98,121]⟩ _ yM (b.alloc (.cells #[.pointer s] 157)) I.o.ok.tk (c.alloc _));rw[MH c.tx (by decide),M] at K;have X:=c.lt;go_wp2_with (go_at_call 72;refine K.o.mono ?_;rintro e Y ⟨rfl,rfl⟩);go_ret;exact⟨s,rfl,c.alloc _,λJ=>(G.out J).fr ((Fr.refl (·=i) b).alloc _) (λk _ _ _=>by omega),r.alloc _⟩
 | true =>
   have aA:x.1.t.k=5:=Inv.bP M;have J:=I.o.bd.er (by omega);rw[hM,ag ⟨J,M⟩];have e1:=ai.enter I.o J (by omega:2<=x.1.t.k);have O:18<=x.1.enter.op+d:=(by rw[St.bN];have:=bb.o;omega);have Q:=a6 x.1.enter (p+1) e1.af O;obtain⟨E,L⟩:=Q.L;rw[St.dA] at L;have ar:=za (λ(h:(l x.1.enter).1.er=0)=>(show x.1.er=0 from J));have bp:=za (λD=>ya a6 I.o J (by omega:2<=x.1.t.k) bb.o D);have N:=za Q.op;have bq:=za e1.af;go_enter func178,ntmps178;go_wp2_with fail;refine a9.o.mono ?_;rintro e b ⟨s,rfl,c,G,r⟩;have H:=r.size;have C:w.heap.size<b.heap.size:=(by simp at H;omega);have bl:w.heap.size<b.heap.size+1:=(by omega);have bo:w.heap.size<b.heap.size+1+1:=(by omega);have A:bH b w.heap.size 176 (xP i):=(r.block _ (by simp) (by omega)).trans (zc w _);obtain⟨p0,bK,bL⟩:=zu A;have K:=za (fH S i x.1 ⟨#[102,98,121]⟩ _ yM (b.alloc (.cells #[.pointer s] 157)) I.o.ok.tk (c.alloc _));rw[MH c.tx (by decide),M] at K;have X:=c.lt;go_wp2_with (first|(go_at_call 72;refine K.o.mono ?_;rintro e Y ⟨rfl,rfl⟩)|(go_at_call 195;refine (kC S i x.1 9 _ (c.alloc _)).mono ?_;rintro e Y ⟨rfl,rfl⟩));obtain⟨q,j⟩:∃q,(((b.alloc (.cells #[.pointer s] 157)).alloc (.cells #[xI 9,xI x.1.t.a,.string ⟨#[]⟩,xI 0,xI 0,.slice none 0 0] 211)).alloc (.cells #[xP (b.heap.size+1)] 157))=q:=⟨_,rfl⟩;have b0:bH q w.heap.size 176 (xP i):=(by rw[<- j];exact (mm _ _ _ (by simp;omega)).trans ((mm _ _ _ (by simp;omega)).trans ((mm _ _ _ C).trans A)));have b1:bH q b.heap.size 157 (.pointer s):=(by rw[<- j];exact (mm _ _ _ (by simp;omega)).trans ((mm _ _ _ (by simp)).trans (zc b _)));have b2:xH q (b.heap.size+1) #[xI 9,xI x.1.t.a,.string ⟨#[]⟩,xI 0,xI 0,.slice none 0 0] 211:=(by rw[<- j];refine (mm _ _ _ (by simp)).trans ?_;have:=zc (b.alloc (.cells #[.pointer s] 157)) (.cells #[xI 9,xI x.1.t.a,.string ⟨#[]⟩,xI 0,xI 0,.slice none 0 0] 211);simpa using this);have b3:bH q (b.heap.size+1+1) 157 (xP (b.heap.size+1)):=(by rw[<- j];have:=zc ((b.alloc (.cells #[.pointer s] 157)).alloc (.cells #[xI 9,xI x.1.t.a,.string ⟨#[]⟩,xI 0,xI 0,.slice none 0 0] 211)) (.cells #[xP (b.heap.size+1)] 157);unfold bH;simpa using this);have t:Fr (·=i) b q:=(by rw[<- j];exact (((Fr.refl _ b).alloc _).alloc _).alloc _);have R:Fr (·=i) w q:=(((Fr.refl _ w).alloc _).trans r).trans t;have aV:PL S q i x.1:=(by rw[<- j];exact ((c.alloc _).alloc _).alloc _);rw[j];refine (ml _ _ Ji S i x.1 p q I.o (by rw[aA];decide) aV (λe Y=>e=.returned (.tuple #[])/\bH Y (b.heap.size+1+1) 157 (xP (b.heap.size+1))/\ef S i w.heap.size w ((l x.1.enter).1.aI.put ⟨iO,x.1.t.a,0,[x.2,(l x.1.enter).2],sE,0⟩).1 ((l x.1.enter).1.aI.put ⟨iO,x.1.t.a,0,[x.2,(l x.1.enter).2],sE,0⟩).2 (.returned (xP (b.heap.size+1))) Y) ?_ ?_).mono ?_
   . intro a4 w2 a0 f;refine (IQ bt S i x.1.enter (p+1) w2 b.heap.size w.heap.size (b.heap.size+1+1) (b.heap.size+1) s _ _ _ _ _ _ bq.o O a0 (b1.fr f (by omega)) (b0.fr f (by omega)) (b3.fr f (by omega)) ((f.block _ (ze b2) (by omega)).trans b2) (by omega) (by omega) (by omega)).mono ?_;rintro e w3 ⟨rfl,bv,g,F,a2,V,W,bE,m⟩;refine⟨rfl,(l x.1.enter).1,F,by rw[N.o,St.bN];omega,by rw[N.o,St.bN];omega,?_⟩;intro w4 a1 n;have aL:Fr (·=i) w w4:=(Fr.k1 (R.trans f) m (by omega)).trans n;have U:Fr (·=i) b w4:=(Fr.k1 (t.trans f) m (by omega)).trans n;have bk:q.heap.size<=w2.heap.size:=f.size;have bg:b.heap.size<=q.heap.size:=t.size;refine⟨rfl,bH.fr (Fr.iX m (b3.fr f (by omega)) (by omega) (by omega)) n (by omega),_,rfl,a1.put _,?_,aL⟩;intro B;have t3:=a2.out B;have t1:=G.out (ar.o B);refine TR.two (y:=x.2) (z:=(l x.1.enter).2) (g:=g) (u:=.pointer s) (v:=.pointer bv) (by omega) (by omega) ?_ ((n.block g (ze W) (by omega)).trans W) rfl ?_ ?_
     . show _=some (Obj.cells #[xI (aF iO.toList 0:Nat),xI x.1.t.a,.string ⟨#[]⟩,xI (0:Nat),xI (df iO.toList 0:Nat),xS g 2 2] 211 (0,0));rw[La,jY];exact (n.block _ (ze V) (by omega)).trans V
     . show TR w4 w.heap.size (l x.1.enter).1.L x.2 (.pointer s);rw[L];exact ((t1.down (jg _ _)).fr U (λk Z _ h2=>by omega)).more E
     exact (t3.fr n (λk Z _ h2=>by omega)).down (by omega)
   . intro D w3 F m;rw[bp.o D];exact⟨rfl,b3.fr m (by omega),_,rfl,F.put _,λB=>absurd B (St.cy x.1 (by decide)),R.trans m⟩
   rintro e w4 ⟨rfl,a3,bs⟩;obtain⟨f0,ff,fz⟩:=zu a3;go_wp2_with fail;go_ret;exact bs
end
section
variable {c:St}
theorem TR.leaf {w:Xw}{B:Nat}{L:List Ex}{ex:Ex}{b:Nat}(e:B<=b)
 (f:xH w b #[xI (aF ex.op.toList ex.n:Nat),xI ex.a,.string ex.s,xI ex.nm,xI (df ex.op.toList ex.n:Nat),.slice none 0 0] 211)
 (a:ex.ah=[]):TR w B (L++[ex]) L.length (xP b):=by
 refine TR.mk L.length ex b _ [] (by simp) e f (World.ownsRow_nil _ _ _ _) (by simp[a]) ?_;intro i s t d _;rw[a] at d;simp at d
theorem yQ:aF gQ.toList 0=3:=by decide +kernel
theorem xk (s:Xb)(a:Nat)(w:Xw):xK 229 #[.agg #[.string s,xI a]] w λe b=>e=.returned (xP (w.heap.size+1))/\xB w b/\xH b (w.heap.size+1) #[xI 3,xI a,.string s,xI a,xI 0,.slice none 0 0] 211:=by go_enter func229,ntmps229;go_wp2;go_ret;refine⟨rfl,((yS _ _).alloc (an _) _).alloc (by simp) _,?_⟩;have:=zc (w.alloc (.cells #[.string s,xI a] 78)) (.cells #[xI 3,xI a,.string s,xI a,xI 0,.slice none 0 0] 211);rw[au] at this;exact this
def pz (d:Nat)(M:Fn):Prop:=∀(S:Xs) (a:Nat) (c:St) (p:Nat) (w:Xw),Inv p c->c.t.k≠2->18<=c.op+d->PL S w a c ->
 xK 228 #[xP a] w (ef S a w.heap.size w (M c).1 (M c).2)
def ig (d:Nat)(b:Fn):Prop:=∀(S:Xs) (a:Nat) (c:St) (p:Nat) (w:Xw) (t:Tk),Inv p c->18<=c.op+d->1<=c.t.a->PL S w a c ->
 xK 177 #[xP a,.agg #[.string t.s,xI t.a]] w (ef S a w.heap.size w (Fs b t c).1 (Fs b t c).2)
theorem rY {t:Tk}:(((ck t:Nat):Int) != 3)=!(t.k==2):=by
 by_cases h:t.k=2
 . simp[ck,h]
 have:ck t≠3:=by unfold ck;(repeat' split) <;> first|decide|(exfalso;omega)
 have a:(t.k==2)=false:=by simp[h]
 rw[a];simp;omega
theorem ye (a:c.t.k=2):c.name=c.ad:=by unfold St.name;rw[ag a]
theorem rO (a:c.t.k=2):gr c=.agg #[.string c.t.s,xI c.t.a]:=by unfold gr;rw[ag a]
theorem Ju {d:Nat}{a:Fn}(o:pz d a):zX d 236 (bF a):=by
 intro S r c p w j B g;obtain⟨E,F,G,H,I,J,K⟩:=g.cells;have l:=rY (t:=c.t);have A:=g.lt;by_cases f:c.t.k=2
 . have z:=j.bd.er (by omega);have k:bF a c=kc c:=by unfold bF;rw[ae (by omega)]
   rw[k];have b:(c.t.k==2)=true:=(by simp[f]);rw[b] at l;have q:=za (gG S r c w j.bd g);rw[ye f,rO f] at q;clear g j o k f b z;go_enter func236,ntmps236;go_wp2_with (first|(go_at_call 229;refine (xk _ _ _).mono ?_;rintro e L ⟨rfl,i,n⟩)|(go_at_call 135;refine q.o.mono ?_;rintro e D ⟨rfl,m,h⟩));go_ret;have C:=h.size;refine⟨_,rfl,(m.below i).put _,λ_=>TR.leaf (ex:=⟨gQ,c.t.a,c.t.a,[],c.t.s,0⟩) (by omega) ?_ rfl,h.gA i⟩
   show _=some (Obj.cells #[xI (aF gQ.toList 0:Nat),xI c.t.a,.string c.t.s,xI c.t.a,xI (df gQ.toList 0:Nat),.slice none 0 0] 211 (0,0));rw[yQ,jY];exact n
 have k:bF a c=a c:=by unfold bF;rw[ag (ap f)]
 rw[k];have b:(c.t.k==2)=false:=by simp[f]
 rw[b] at l;have s:=za (o S r c p w j f B g);clear g j o k f b;generalize a c=R at *;go_enter func236,ntmps236;go_wp2_with (go_at_call 228;refine s.o.mono ?_;rintro e D ⟨x,rfl,u,y,v⟩);go_ret;exact⟨x,rfl,u,y,v⟩
end
section
theorem j7:(⟨#[40]⟩:Xb).toList=[40]:=by decide +kernel
theorem Jx {d:Nat}{i y:Fn}(T:pz (d+1) (aN i y))(P:ig (d+1) i):zX (d+1) 227 (aN i y):=by
 intro S u a p w j G x;obtain⟨Y,Z,q2,q3,q4,q5,q6⟩:=x.cells;have o:=rY (t:=a.t);have U:=x.lt;by_cases k:a.t.k=2
 . have q:=j.bd.er (by omega);have Q:aN i y a=if a.ad.is 4 [40]=true then Fs i a.t a.ad else kc a:=by unfold aN;rw[ae (by simp[q]),ae (by omega),ag k]
   rw[Q];have h:(a.t.k==2)=true:=(by simp[k]);rw[h] at o;have D:=ai.gj j q (by omega:2<=a.t.k);have B:1<=a.ad.t.a:=(by have E:=j.tok (by omega);have v:=zV a.src a.t.t j.ok.tt;rw[St.dZ q];simp only;omega);have z:=za (gG S u a w j.bd x);rw[ye k,rO k] at z;have m:=za D.af.bd;cases C:a.ad.is 4 [40] with
   | true => rw[ag rfl];have J:=za (λg E=>P S u a.ad (p+1) g a.t D.af (by rw[St.bQ];exact G) B E);generalize Fs i a.t a.ad=R at *;go_enter func227,ntmps227;go_wp2_with (go_at_call 135;refine z.o.mono ?_;rintro e g ⟨rfl,c,f⟩;have s:=f.size;have r:=c.lt;have l:=za (fH S u a.ad ⟨#[40]⟩ _ j7 (g.alloc (.cells #[.string a.t.s,xI a.t.a] 78)) m.o.ok.tk (c.alloc _));rw[fm c.tx (by decide),C] at l);go_wp2_with (first|(go_at_call 72;refine l.o.mono ?_;rintro e W ⟨rfl,rfl⟩)|(go_at_call 177;refine (J.o _ (c.alloc _)).mono ?_;rintro e X v;obtain⟨N,rfl,K,V,L⟩:=v.alloc (jg _ _)));go_ret;exact⟨N,rfl,K,λq=>(V.out q).down s,f.trans L⟩
   | false =>
     rw[ae (by simp)];go_enter func227,ntmps227;go_wp2_with (go_at_call 135;refine z.o.mono ?_;rintro e g ⟨rfl,c,f⟩;have s:=f.size;have r:=c.lt;have l:=za (fH S u a.ad ⟨#[40]⟩ _ j7 (g.alloc (.cells #[.string a.t.s,xI a.t.a] 78)) m.o.ok.tk (c.alloc _));rw[fm c.tx (by decide),C] at l);go_wp2_with (first|(go_at_call 72;refine l.o.mono ?_;rintro e W ⟨rfl,rfl⟩)|(go_at_call 229;refine (xk _ _ _).mono ?_;rintro e X ⟨rfl,n,A⟩));go_ret;have F:=A;simp only[au] at F;refine⟨some (xD (g.heap.size+1+1) 0),rfl,((c.alloc _).below n).put _,λ_=>TR.leaf (b:=g.heap.size+1+1) (ex:=⟨gQ,a.t.a,a.t.a,[],a.t.s,0⟩) (by omega) ?_ rfl,(f.alloc _).gA n⟩
     show _=some (Obj.cells #[xI (aF gQ.toList 0:Nat),xI a.t.a,.string a.t.s,xI a.t.a,xI (df gQ.toList 0:Nat),.slice none 0 0] 211 (0,0));rw[yQ,jY];exact F
 have h:(a.t.k==2)=false:=by simp[k]
 rw[h] at o;have H:=za (T S u a p w j k G x);generalize aN i y a=R at *;go_enter func227,ntmps227;go_wp2_with (go_at_call 228;refine H.o.mono ?_;rintro e g ⟨M,rfl,v,O,I⟩);go_ret;exact⟨M,rfl,v,O,I⟩
theorem Kj (a:St)(_hk:a.t.k<=5)(e:Tx a.src a.t):dC a [7,8]=if eu a=true then some (aF a.t.s.toList 0) else none:=by
 obtain⟨f,g,_⟩:=ku;simp only[dC,f,g];rw[MH e (by decide),MH e (by decide)];unfold eu;by_cases b:a.is 5 [119,104,101,110]=true
 . have:a.t.s.toList=[119,104,101,110]:=by unfold St.is at b;simp at b;exact b.2
   rw[b,this,Bool.true_or,ag rfl,ag rfl];decide
 by_cases c:a.is 5 [119,104,101,110,111,116]=true
 . have:a.t.s.toList=[119,104,101,110,111,116]:=by unfold St.is at c;simp at c;exact c.2
   have d:a.is 5 [119,104,101,110]=false:=(by simpa using b);rw[d,c,this];decide
 simp[b,c]
theorem x6 (a:St):∃(c:Xb) (b:Nat),gr a=.agg #[.string c,xI b]/\(a.t.k=2->c=a.t.s/\b=a.t.a):=by
 by_cases h:a.t.k=2
 . exact⟨a.t.s,a.t.a,rO h,λ_=>⟨rfl,rfl⟩⟩
 exact⟨⟨#[]⟩,0,by unfold gr;rw[ae h];rfl,λd=>absurd d h⟩
theorem HI (k:Int)(s:Xb)(a n:Int)(w:Xw):(Instr.field 102 (.agg #[xI k,.string s,xI a,xI n]) 2).run prog w=.ok (xI a) w:=by kernel_rfl
theorem H5 (k:Int)(s:Xb)(a n:Int)(w:Xw):(Instr.field 102 (.agg #[xI k,.string s,xI a,xI n]) 3).run prog w=.ok (xI n) w:=by kernel_rfl
theorem HD {d:Nat}{i:Fn}(a6:zX d 227 i)(a5:zv d i):zX d 225 (gR i):=by
 intro S o D p w aL a0 hR;have bb:=hR.lt;have g1:=a5 D p aL a0;have a3:=za (a6 S o D p w aL a0 hR);have hM:gR i D=M0 1300 (i D):=rfl;rw[hM];have a2:=za g1.af;generalize i D=x0 at *;obtain⟨R,n⟩:∃R,M0 1300 x0=R:=⟨_,rfl⟩;rw[n];go_enter func225,ntmps225;go_wp2_with fail;refine a3.o.mono ?_;rintro e w1 ⟨a4,rfl,M,W,I⟩;go_wp2_with fail;go_loopg [3] 1300 (λk l wr=>∃(x:St×Nat) (a:Xp),l=.pointer a/\aa (M0 k x=R)/\rem x.1<k/\aa (Inv p x.1)/\aa (PL S wr o x.1)/\aa (x.1.er=0->TR wr w.heap.size x.1.L x.2 (.pointer a))/\aa (Fr (·=o) w wr));case atStart => refine⟨x0,a4,rfl,n,?_,a2.o,M,W.out,I⟩;unfold rem;split <;> omega
 case round =>
  obtain⟨x,a,rfl,ar,a1,c,j,A,r⟩:=hrel;have aV:=j.o.lt;obtain⟨g,rfl⟩:∃g,gk=g+1:=⟨gk-1,by omega⟩;have f:=za (kF S o x.1 wr.heap.size 2 [7,8] rfl (by decide) (wr.alloc (.cells #[xI 7,xI 8] 208)) (iF wr _ _ _ rfl) (by decide) c.o.ok.tk (j.o.alloc _));rw[Kj x.1 c.o.ok.tk j.o.tx] at f;have be:=r.o.size;cases t:eu x.1 with
  | false =>
    rw[t,ae (by simp)] at f;have Q:R=x:=by
     rw[<- ar.o]
     show (if x.1.er=0/\eu x.1=true then _ else x)=x;rw[ae (by rw[t];simp)]
    simp only[fR] at f;go_wp2_with (go_at_call 212;refine f.o.mono ?_;rintro e w' ⟨rfl,rfl⟩);go_ret;rw[Q];exact⟨a,rfl,j.o.alloc _,λs=>(A.o s).fr ((Fr.refl (·=o) wr).alloc _) (λk _ _ _=>by omega),r.o.alloc _⟩
  | true =>
    rw[t,ag rfl] at f;simp only[fR] at f;have T:x.1.t.k=5:=(by unfold eu at t;simp only[Bool.or_eq_true] at t;rcases t with h|h <;> exact Inv.bP h);have s:=c.o.bd.er (by omega);have e3:=ai.gj c.o s (by omega:2<=x.1.t.k);have V:=ai.name e3.af;have L:aa (M0 g (x.1.ad.name.put ⟨x.1.t.s,x.1.t.a,x.1.ad.t.a,[x.2],x.1.ad.t.s,0⟩)=R):=by
     have h:=ar.o;unfold aa;rw[<- h]
     show _=(if x.1.er=0/\eu x.1=true then _ else x);rw[ag ⟨s,t⟩]
    have C:aa (Inv p (x.1.ad.name.put ⟨x.1.t.s,x.1.t.a,x.1.ad.t.a,[x.2],x.1.ad.t.s,0⟩).1):=(ai.put V.af _).af;have v:aa (rem (x.1.ad.name.put ⟨x.1.t.s,x.1.t.a,x.1.ad.t.a,[x.2],x.1.ad.t.s,0⟩).1<g):=by
     unfold aa rem
     show (if x.1.ad.name.er=0 then 1201-x.1.ad.name.t.a else 0)<g;have h1:rem x.1=1201-x.1.t.a:=(by unfold rem;rw[ag s]);have E:=V.ta;have h3:x.1.t.a+1<=x.1.ad.t.a:=(by have:=c.o.tok (by omega);rw[St.dZ s];have hf:=zV x.1.src x.1.t.t c.o.ok.tt;simp only;omega);have h4:=V.af.ok.bR;have h5:=c.o.ok.bR;split <;> omega
    have F:=za c.o.bd;have G:=za e3.af.bd;have U:=za (kI c.o.bd (by omega:x.1.t.k≠1));obtain⟨Z,B⟩:∃Z,aF x.1.t.s.toList 0=Z:=⟨_,rfl⟩;rw[B] at f;have O:aa (x.1.ad.name.L=x.1.L):=(by unfold aa;rw[St.c8,St.bu]);have H:aa (x.1.ad.name.er=0->x.1.ad.t.k=2):=by
     intro h;by_cases E:x.1.ad.t.k=2
     . exact E
     exfalso;unfold St.name at h;rw[ae E] at h;exact St.cy _ (by decide) h
    have a9:=HI;go_wp2_with (first|(go_at_call 212;refine f.o.mono ?_;rintro e w' ⟨rfl,rfl⟩)|(go_at_call 174;refine (jV S o x.1 _ F.o.ok (aJ (by decide) (Nat.le_of_eq T.symm)) (j.o.alloc _)).mono ?_;rintro e w3 ⟨rfl,z,J⟩;rw[U.o] at z;simp only[Tk.dX]));obtain⟨ns,bk,Y,P⟩:=x6 x.1.ad;have aA:=za (gG S o x.1.ad w3 G.o z);rw[Y] at aA;go_wp2_with (go_at_call 135;refine aA.o.mono ?_;rintro e q ⟨rfl,N,K⟩);go_roundg g;case measure=>omega
    have m:Fr (·=o) wr q:=(((Fr.refl _ wr).alloc _).trans J).trans K;refine⟨(x.1.ad.name.put ⟨x.1.t.s,x.1.t.a,x.1.ad.t.a,[x.2],x.1.ad.t.s,0⟩),some (xD (q.heap.size+1) 0),rfl,L,v.out,C,((N.alloc _).alloc _).put _,?_,(((r.o.trans m).alloc _).alloc _)⟩;intro X;obtain⟨bl,bo⟩:=P (H.o X);have bg:=m.size;refine TR.one (y:=x.2) (b:=q.heap.size+1) (g:=q.heap.size) (u:=.pointer a) (by omega) (by omega) ?_ ((mm _ _ _ (by simp)).trans (zc q _)) rfl ?_
    . show _=some (Obj.cells #[xI (aF x.1.t.s.toList 0:Nat),xI x.1.t.a,.string x.1.ad.t.s,xI x.1.ad.t.a,xI (df x.1.t.s.toList 0:Nat),xS q.heap.size 1 1] 211 (0,0));rw[B,jY,<- bl,<- bo];have:=zc (q.alloc (.cells #[.pointer a] 157)) (.cells #[xI Z,xI x.1.t.a,.string ns,xI bk,xI 0,xS q.heap.size 1 1] 211);simpa using this
    show TR _ w.heap.size x.1.ad.name.L x.2 (.pointer a);rw[O.o];exact (A.o s).fr ((m.alloc _).alloc _) (λk h1 _ E=>by omega)
theorem KG:(⟨#[116,104,101,110]⟩:Xb).toList=[116,104,101,110]:=by decide +kernel
theorem Ky:(⟨#[101,108,115,101]⟩:Xb).toList=[101,108,115,101]:=by decide +kernel
theorem ai.dd {p:Nat}{a b:St}(h:ai p a b)(d:b.er=0):a.er=0:=by
 by_cases c:a.er=0
 . exact c
 exact absurd d (h.er c)
theorem HE {d:Nat}{rx:Fn}(a9:zX d 178 rx)(gX:zv d rx)(S:Xs)(a:Nat)(y:St)(p:Nat)(w:Xw)(bp be b:Nat)(v0 v1 v2 v3 v4 v5:Xv)(x j r:St×Nat)(v:rx y=x)(q:rx (x.1.ac 5 [116,104,101,110])=j)(h3:rx (j.1.ac 5 [101,108,115,101])=r)
 (bq:Inv p y) (ar:18<=y.op+d) (hR:PL S w a y) (i:bH w bp 176 (xP a)) (C:bH w be 157 (xP b)) (T:w.heap[b]?=some (.cells #[v0,v1,v2,v3,v4,v5] 211 (0,0))) (Z:¬bp=a) (n1:¬be=a) (n3:a<b) :
 xK 234 #[xP bp,xP be] w λe E=>e=.returned (.tuple #[])/\∃F bo G g,PL S E a r.1/\aa (r.1.er=0->TR E w.heap.size r.1.L x.2 (.pointer F)/\TR E w.heap.size r.1.L j.2 (.pointer bo)/\TR E w.heap.size r.1.L r.2 (.pointer G)) /\
  E.heap[b]?=some (.cells #[v0,v1,v2,v3,v4,xS g 3 3] 211 (0,0))/\E.heap[g]?=some (.cells #[.pointer F,.pointer bo,.pointer G] 157 (0,0))/\w.heap.size<=g/\Fr (λk=>k=a∨k=b) w E:=by
 have n2:¬b=a:=by omega
 have g1:=gX y p bq ar;have bg:=za (a9 S a y p w bq ar hR);have U:Inv p x.1:=by rw[<- v];exact g1.af
 have V:x.1.op=y.op:=by rw[<- v];exact g1.op
 rw[v] at bg;have m1:=ai.ac U 5 [116,104,101,110];have o1:18<=(x.1.ac 5 [116,104,101,110]).op+d:=by rw[St.a8,V];exact ar
 have g2:=gX _ p m1.af o1;have bk:=za (λH h=>a9 S a _ p H m1.af o1 h);have W:Inv p j.1:=by rw[<- q];exact g2.af
 have a2:j.1.op=y.op:=by rw[<- q,g2.op,St.a8,V]
 rw[q] at bk;have m2:=ai.ac W 5 [101,108,115,101];have o2:18<=(j.1.ac 5 [101,108,115,101]).op+d:=by rw[St.a8,a2];exact ar
 have g3:=gX _ p m2.af o2;have bl:=za (λH h=>a9 S a _ p H m2.af o2 h);rw[h3] at bl;have f2:ai p (x.1.ac 5 [116,104,101,110]) j.1:=by rw[<- q];exact g2.dj
 have f3:ai p (j.1.ac 5 [101,108,115,101]) r.1:=by rw[<- h3];exact g3.dj
 obtain⟨E2,M⟩:=f2.L;obtain⟨E3,z⟩:=f3.L;rw[St.bi] at M z;have s:=za (λh:r.1.er=0=>m2.dd (f3.dd h));have P:=za (λh:j.1.er=0=>m1.dd (f2.dd h));have aA:=za U.bd;have aL:=za W.bd;obtain⟨c0,bK,cz⟩:=zu i;obtain⟨e0,bL,bY⟩:=zu C;have bb:=ze T;have bt:=hR.lt;go_enter func234,ntmps234;go_wp2_with fail;refine bg.o.mono ?_;rintro e H ⟨F,rfl,N,a3,m⟩;have bv:=m.size;obtain⟨d0,bs,dz⟩:=zu (i.fr m Z);have Q:=za (zP S a x.1 _ _ KG H aA.o N);rw[nI N.tx (by decide)] at Q;go_wp2_with (go_at_call 134;refine Q.o.mono ?_;rintro e w2 ⟨rfl,aV,n⟩;obtain⟨i0,bE,b0⟩:=zu ((i.fr m Z).fr n Z);have bx:=n.size);refine (bk.o w2 aV).mono ?_;rintro e w3 ⟨G,rfl,O,a4,A⟩;have bA:=A.size;have I:=za ((m.trans n).trans A);obtain⟨b1,b2,b3⟩:=zu (i.fr I.o Z);have R:=za (zP S a j.1 _ _ Ky w3 aL.o O);rw[nI O.tx (by decide)] at R;go_wp2_with (go_at_call 134;refine R.o.mono ?_;rintro e w4 ⟨rfl,a0,B⟩;have bB:=B.size;have l:=za (I.o.trans B);obtain⟨k0,kf,kz⟩:=zu (i.fr l.o Z);obtain⟨b4,lf,ca⟩:=zu (C.fr l.o n1);have t:=za ((l.o.block b bb n2).trans T));go_region_with (go_at_call 178;refine (bl.o _ a0.drew).mono ?_;rintro e c ⟨a5,rfl,a1,a6,X⟩;have o:Fr (·=a) w4 c:=X.cQ;have bC:=o.size;have J:=za (l.o.trans o);have u:=(o.block b (ze t.o) n2).trans t.o;obtain⟨d0,d1,d2,d3,d4,d5,bs,dz⟩:=zt u;obtain⟨f0,ff,fz⟩:=zu (C.fr J.o n1))
 all_goals go_wp2_with fail
 all_goals go_end0
 all_goals
  have Y:(c.setCell (xD b 5) (xS c.heap.size 3 3)).heap.size=c.heap.size:=by simp[World.setCell]
  refine⟨rfl,F,G,a5,c.heap.size,?_,?_,?_,?_,by omega,?_⟩
  . exact (a1.aU n3 _ _).alloc _
  . intro D;have t5:=a6.out D;have t3:=a4.out (s.o D);have t1:=a3.out (P.o (s.o D));have L:Fr (·=a) w3 c:=B.trans o;have K:Fr (·=a) H c:=(n.trans A).trans L;have f:Fr (·=b) c ((c.setCell (xD b 5) (xS c.heap.size 3 3)).alloc (.cells #[.pointer F,.pointer G,.pointer a5] 157)):=((Fr.refl _ c).aY _ _).alloc _;refine⟨?_,?_,?_⟩
    . rw[z,M];exact (((t1.fr K (λk v _ q=>by omega)).fr f (λk v _ q=>by omega)).more E2).more E3
    . rw[z];exact (((t3.down (by omega:w.heap.size<=w2.heap.size)).fr L (λk v _ q=>by omega)).fr f (λk v _ q=>by omega)).more E3
    exact (t5.down (by show w.heap.size<=w4.heap.size;omega)).fr f (λk v _ q=>by omega)
  . exact (mm _ _ _ (by rw[Y];exact dz)).trans (zh _ _ _ _ u)
  . have:=zc (c.setCell (xD b 5) (xS c.heap.size 3 3)) (.cells #[.pointer F,.pointer G,.pointer a5] 157);rw[Y] at this;exact this
  exact (J.o.mX b _ _).alloc _
theorem H1:zH 234:=λ_ _=>by kernel_rfl
theorem A5:aF iz.toList 0=5:=by decide +kernel
structure se (w w0:Xw) (pb:Nat) (k a:Nat):Prop where
 bp:bH w0 w.heap.size 176 (xP pb)
 eb:xH w0 (w.heap.size+1) #[xI k,xI a,.string ⟨#[]⟩,xI 0,xI 0,.slice none 0 0] 211
 be:bH w0 (w.heap.size+1+1) 157 (xP (w.heap.size+1))
 fr:Fr (·=pb) w w0
 size:w0.heap.size=w.heap.size+1+1+1
theorem yO (w:Xw)(b k a:Nat):se w (((w.alloc (.cells #[xP b] 176)).alloc (.cells #[xI k,xI a,.string ⟨#[]⟩,xI 0,xI 0,.slice none 0 0] 211)).alloc (.cells #[xP (w.heap.size+1)] 157)) b k a:=by
 refine⟨?_,?_,?_,(((Fr.refl _ w).alloc _).alloc _).alloc _,by simp⟩
 . exact (mm _ _ _ (by simp;omega)).trans ((mm _ _ _ (by simp)).trans (zc w _))
 . refine (mm _ _ _ (by simp)).trans ?_;have:=zc (w.alloc (.cells #[xP b] 176)) (.cells #[xI k,xI a,.string ⟨#[]⟩,xI 0,xI 0,.slice none 0 0] 211);simpa using this
 have:=zc ((w.alloc (.cells #[xP b] 176)).alloc (.cells #[xI k,xI a,.string ⟨#[]⟩,xI 0,xI 0,.slice none 0 0] 211)) (.cells #[xP (w.heap.size+1)] 157);unfold bH;simpa using this
theorem H4 {d:Nat}{q:Fn}(bb:zX d 178 q)(L:zv d q)(S:Xs)(f:Nat)(a:St)(p:Nat)(w:Xw)(N:Inv p a)(a0:2<=a.t.k)(bp:18<=a.op+(d+1))(O:PL S w f a) :
 xK 231 #[xP f] w (ef S f w.heap.size w (fp q a).1 (fp q a).2):=by
 have be:=O.lt;have bg:∀(fn:Go.Fn) (first F:Xa) (w:Xw),(Instr.makeFunc fn first F).run prog w=.ok (.func fn first F) w:=λ_ _ _ _=>rfl;have he:=N.bd.er (by omega);have e1:=ai.enter N he a0;have K:18<=a.enter.op+d:=by rw[St.bN];omega
 obtain⟨j,n⟩:∃s,q a.enter=s:=⟨_,rfl⟩;obtain⟨l,o⟩:∃s,q (j.1.ac 5 [116,104,101,110])=s:=⟨_,rfl⟩;obtain⟨h,M⟩:∃s,q (l.1.ac 5 [101,108,115,101])=s:=⟨_,rfl⟩;have hM:fp q a=h.1.aI.put ⟨iz,a.t.a,0,[j.2,l.2,h.2],sE,0⟩:=by unfold fp;simp only[n,o,M]
 rw[hM];have P:=L a.enter (p+1) e1.af K;have Q:Inv (p+1) j.1:=by rw[<- n];exact P.af
 have G:j.1.op=a.op+1:=by rw[<- n,P.op,St.bN]
 have m1:=ai.ac Q 5 [116,104,101,110];have R:=L _ (p+1) m1.af (by rw[St.a8,G];omega);have T:Inv (p+1) l.1:=by rw[<- o];exact R.af
 have H:l.1.op=a.op+1:=by rw[<- o,R.op,St.a8,G]
 have m2:=ai.ac T 5 [101,108,115,101];have g3:=L _ (p+1) m2.af (by rw[St.a8,H];omega);have E:h.1.op=a.op+1:=by rw[<- M,g3.op,St.a8,H]
 have a3:aa (a.op=16->h.1.aI=a.fail 3 a.t.a):=by
  intro m;have U:=St.om m;have B:a.enter.er≠0:=by rw[U];exact St.cy _ (by decide)
  have bo:j.1=a.enter:=by rw[<- n,P.er B]
  have q2:j.1.ac 5 [116,104,101,110]=a.enter:=by rw[bo,U];exact St.oo _ (by decide) (by decide)
  have q3:l.1=a.enter:=by rw[<- o,R.er (by rw[q2];exact B),q2]
  have q4:l.1.ac 5 [101,108,115,101]=a.enter:=by rw[q3,U];exact St.oo _ (by decide) (by decide)
  have q5:h.1=a.enter:=by rw[<- M,g3.er (by rw[q4];exact B),q4]
  rw[q5,nE m]
 have a2:=za (λw1 b0 b1 b2 ar=>HE bb L S f a.enter (p+1) w1 w.heap.size (w.heap.size+1+1) (w.heap.size+1) (xI 5) (xI a.t.a) (.string ⟨#[]⟩) (xI 0) (xI 0) (.slice none 0 0) j l h n o M e1.af K ar b0 b1 b2 (by omega) (by omega) (by omega));go_enter func231,ntmps231;go_wp2_with (go_at_call 195;refine (kC S f a 5 _ (O.alloc _)).mono ?_;rintro e w' ⟨rfl,rfl⟩);have T0:=yO w f 5 a.t.a;have W:=((O.alloc (.cells #[xP f] 176)).alloc (.cells #[xI 5,xI a.t.a,.string ⟨#[]⟩,xI 0,xI 0,.slice none 0 0] 211)).alloc (.cells #[xP (w.heap.size+1)] 157);obtain⟨D,C⟩:∃D,(((w.alloc (.cells #[xP f] 176)).alloc (.cells #[xI 5,xI a.t.a,.string ⟨#[]⟩,xI 0,xI 0,.slice none 0 0] 211)).alloc (.cells #[xP (w.heap.size+1)] 157))=D:=⟨_,rfl⟩;have T1:se w D f 5 a.t.a:=C▸T0;have X:PL S D f a:=C▸W;refine Eq.mpr (congrArg (λz=>xK 192 _ z _) C) ?_;refine (ml _ _ H1 S f a p D N a0 X (λe w'=>e=.returned (.tuple #[])/\bH w' (w.heap.size+1+1) 157 (xP (w.heap.size+1))/\ef S f w.heap.size w (h.1.aI.put ⟨iz,a.t.a,0,[j.2,l.2,h.2],sE,0⟩).1 (h.1.aI.put ⟨iz,a.t.a,0,[j.2,l.2,h.2],sE,0⟩).2 (.returned (xP (w.heap.size+1))) w') ?_ ?_).mono ?_
 . intro aV w2 Y c;refine (a2.o w2 (T1.bp.fr c (by omega)) (T1.be.fr c (by omega)) ((c.block _ (ze T1.eb) (by omega)).trans T1.eb) Y).mono ?_;rintro e w3 ⟨rfl,a5,a6,a9,g,r,aA,I,J,bl,i⟩;refine⟨rfl,h.1,r,by rw[E];omega,by rw[E];omega,?_⟩;intro w4 Z b;have V:Fr (·=f) w w4:=(Fr.k1 (T1.fr.trans c) i (by omega)).trans b;have a1:D.heap.size<=w2.heap.size:=c.size;have bk:=T1.size;refine⟨rfl,bH.fr (Fr.iX i (T1.be.fr c (by omega)) (by omega) (by omega)) b (by omega),_,rfl,Z.put _,?_,V⟩;intro A;obtain⟨t1,t2,t3⟩:=aA.out A;refine TR.three (x:=j.2) (y:=l.2) (z:=h.2) (g:=g) (t:=.pointer a5) (u:=.pointer a6) (v:=.pointer a9) (by omega) (by omega) ?_ ((b.block g (ze J) (by omega)).trans J) rfl ?_ ?_ ?_
   . show _=some (Obj.cells #[xI (aF iz.toList 0:Nat),xI a.t.a,.string ⟨#[]⟩,xI (0:Nat),xI (df iz.toList 0:Nat),xS g 3 3] 211 (0,0));rw[A5,jY];exact (b.block _ (ze I) (by omega)).trans I
   . exact (t1.fr b (λk n _ o=>by omega)).down (by omega)
   . exact (t2.fr b (λk n _ o=>by omega)).down (by omega)
   exact (t3.fr b (λk n _ o=>by omega)).down (by omega)
 . intro m w3 r i;rw[a3.o m];exact⟨rfl,T1.be.fr i (by omega),_,rfl,r.put _,λA=>absurd A (St.cy a (by decide)),T1.fr.trans i⟩
 rintro e w4 ⟨rfl,aL,a4⟩;obtain⟨f0,ff,fz⟩:=zu aL;go_wp2_with fail;go_ret;exact a4
theorem Ix {d:Nat}{T:Fn}(bp:zX d 236 T)(bl:zv d T)(S:Xs)(b:Nat)(i:St)(p:Nat)(w:Xw)(R Q a:Nat)(v0 v1 v2 v3 v4 v5:Xv)(A:Xb)(z:Nat)(a2:gr i=.agg #[.string A,xI z])(x y:St×Nat)(B:T i.name=x)(H:T x.1=y)
 (bo:Inv p i) (bq:18<=i.op+d) (hR:PL S w b i) (L:bH w R 176 (xP b)) (K:bH w Q 157 (xP a)) (N:w.heap[a]?=some (.cells #[v0,v1,v2,v3,v4,v5] 211 (0,0))) (n0:¬R=b) (P:¬Q=b) (n3:b<a) (n4:¬R=a) (n5:¬Q=a) :
 xK 235 #[xP R,xP Q] w λe C=>e=.returned (.tuple #[])/\∃bg bk g,PL S C b y.1/\aa (y.1.er=0->TR C w.heap.size y.1.L x.2 (.pointer bg)/\TR C w.heap.size y.1.L y.2 (.pointer bk)) /\
  C.heap[a]?=some (.cells #[v0,v1,.string A,xI z,v4,xS g 2 2] 211 (0,0))/\C.heap[g]?=some (.cells #[.pointer bg,.pointer bk] 157 (0,0))/\w.heap.size<=g/\Fr (λk=>k=b∨k=a) w C:=by
 have n2:¬a=b:=by omega
 have f0:=ai.name bo;have be:=za (λj h=>gG S b i j bo.bd h);rw[a2] at be;have o0:18<=i.name.op+d:=by rw[St.dB];exact bq
 have g1:=bl i.name p f0.af o0;have a9:=za (λj h=>bp S b i.name p j f0.af o0 h);have G:Inv p x.1:=by rw[<- B];exact g1.af
 have aL:x.1.op=i.op:=by rw[<- B,g1.op,St.dB]
 rw[B] at a9;have o1:18<=x.1.op+d:=by rw[aL];exact bq
 have g2:=bl _ p G o1;have bb:=za (λj h=>bp S b x.1 p j G o1 h);rw[H] at bb;have f2:ai p x.1 y.1:=by rw[<- H];exact g2.dj
 obtain⟨E2,U⟩:=f2.L;have D:=za (λh:y.1.er=0=>f2.dd h);obtain⟨c0,bC,cz⟩:=zu L;obtain⟨e0,bE,bK⟩:=zu K;have bs:=za hR;have ar:=za L;have E:=za K;have aA:=za N;have a6:=ze N;have bv:=hR.lt;go_enter func235,ntmps235;go_wp2_with fail;go_region_with (go_at_call 135;refine (be.o _ bs.o.drew).mono ?_;rintro e j ⟨rfl,aV,I⟩;have n:Fr (·=b) w j:=I.cQ;have bx:=n.size;have v:=(n.block a a6 n2).trans aA.o;obtain⟨d0,d1,d2,d3,d4,d5,bt,dz⟩:=zt v;obtain⟨f0,ff,fz⟩:=zu (E.o.fr n P);have W:=za aV;have V:=za n;have F:=za v)
 all_goals
  have m:Fr (λk=>k=b∨k=a) w ((j.setCell (xD a 2) (.string A)).setCell (xD a 3) (xI z)):=(V.o.mX a _ _).setCell (ao (ap rfl)) _;have s:((j.setCell (xD a 2) (.string A)).setCell (xD a 3) (xI z)).heap[a]?=some (.cells #[v0,v1,.string A,xI z,v4,v5] 211 (0,0)):=zh _ _ _ _ (zh _ _ _ _ F.o);have X:PL S ((j.setCell (xD a 2) (.string A)).setCell (xD a 3) (xI z)) b i.name:=(W.o.aU n3 _ _).aU n3 _ _;have q:=m.iX E.o P n5;have r:=m.iX ar.o n0 n4;generalize ((j.setCell (xD a 2) (.string A)).setCell (xD a 3) (xI z))=w2 at *;obtain⟨p0,b0,b1⟩:=zu r;have a4:=m.size;go_wp2_with fail;refine (a9.o w2 X).mono ?_;rintro e w3 ⟨a3,rfl,Y,a0,c⟩;have bA:=c.size;have t:=za ((c.block a (ze s) n2).trans s);obtain⟨k0,kf,kz⟩:=zu (r.fr c n0);obtain⟨bL,lf,bY⟩:=zu (q.fr c P);go_wp2_with fail;go_region_with (go_at_call 236;refine (bb.o _ Y.drew).mono ?_;rintro e l ⟨a5,rfl,Z,a1,J⟩;have f:Fr (·=b) w3 l:=J.cQ;have bB:=f.size;have u:=(f.block a (ze t.o) n2).trans t.o;obtain⟨d0,d1,d2,d3,d4,d5,bt,dz⟩:=zt u;obtain⟨f0,ff,fz⟩:=zu ((q.fr c P).fr f P))
  all_goals go_wp2_with fail
  all_goals go_end0
  all_goals
   have O:(l.setCell (xD a 5) (xS l.heap.size 2 2)).heap.size=l.heap.size:=(by simp[World.setCell]);refine⟨rfl,a3,a5,l.heap.size,?_,?_,?_,?_,by omega,?_⟩
   . exact (Z.aU n3 _ _).alloc _
   . intro M;have t5:=a1.out M;have t3:=a0.out (D.o M);have o:Fr (·=a) l ((l.setCell (xD a 5) (xS l.heap.size 2 2)).alloc (.cells #[.pointer a3,.pointer a5] 157)):=((Fr.refl _ l).aY _ _).alloc _;refine⟨?_,?_⟩
     . rw[U];exact (((t3.down a4).fr f (λk B _ H=>by omega)).fr o (λk B _ H=>by omega)).more E2
     exact (t5.down (by show w.heap.size<=w3.heap.size;omega)).fr o (λk B _ H=>by omega)
   . exact (mm _ _ _ (by rw[O];exact dz)).trans (zh _ _ _ _ u)
   . have:=zc (l.setCell (xD a 5) (xS l.heap.size 2 2)) (.cells #[.pointer a3,.pointer a5] 157);rw[O] at this;exact this
   exact ((((m.dr c (λ_ _ h=>ao h)).dr f (λ_ _ h=>ao h)).setCell (ao (ap rfl)) _).alloc _)
theorem IX:zH 235:=λ_ _=>by kernel_rfl
theorem KF:aF iL.toList 0=6:=by decide +kernel
theorem St.Az (s:St){e a:Nat}(b:e≠0):(s.fail e a).name=s.fail e a:=by
 unfold St.name;have:(s.fail e a).t.k=1:=by unfold St.fail;split <;> rfl
 rw[ae (by omega)];exact St.sN s b
theorem I4 {d:Nat}{q:Fn}(be:zX d 236 (bF q))(bb:zv d q)(S:Xs)(i:Nat)(a:St)(p:Nat)(w:Xw)(J:Inv p a)(aV:2<=a.t.k)(bs:18<=a.op+(d+1))(L:PL S w i a) :
 xK 232 #[xP i] w (ef S i w.heap.size w (fs q a).1 (fs q a).2):=by
 have O:zv d (bF q):=pf bb;have bg:=L.lt;have bk:∀(fn:Go.Fn) (first C:Xa) (w:Xw),(Instr.makeFunc fn first C).run prog w=.ok (.func fn first C) w:=λ_ _ _ _=>rfl;have he:=J.bd.er (by omega);have e1:=ai.enter J he aV;have H:18<=a.enter.op+d:=by rw[St.bN];omega
 obtain⟨l,o⟩:∃s,bF q a.enter.name=s:=⟨_,rfl⟩;obtain⟨b,r⟩:∃s,bF q l.1=s:=⟨_,rfl⟩;obtain⟨ns,a1,aA,ar⟩:=x6 a.enter;have hM:fs q a=b.1.aI.put ⟨iL,a.t.a,a.enter.t.a,[l.2,b.2],a.enter.t.s,0⟩:=by unfold fs;simp only[o,r]
 rw[hM];have f0:=ai.name e1.af;have I:=O a.enter.name (p+1) f0.af (by rw[St.dB];exact H);have M:Inv (p+1) l.1:=by rw[<- o];exact I.af
 have D:l.1.op=a.op+1:=by rw[<- o,I.op,St.dB,St.bN]
 have N:=O _ (p+1) M (by rw[D];omega);have B:b.1.op=a.op+1:=by rw[<- r,N.op,D]
 have f1:ai (p+1) a.enter.name l.1:=by rw[<- o];exact I.dj
 have f2:ai (p+1) l.1 b.1:=by rw[<- r];exact N.dj
 have K:aa (b.1.er=0->ns=a.enter.t.s/\a1=a.enter.t.a):=by
  intro h;apply ar;have P:=f1.dd (f2.dd h);by_cases h4:a.enter.t.k=2
  . exact h4
  exfalso;unfold St.name at P;rw[ae h4] at P;exact St.cy _ (by decide) P
 have a4:aa (a.op=16->b.1.aI=a.fail 3 a.t.a):=by
  intro m;have aL:=St.om m;have F:a.enter.er≠0:=by rw[aL];exact St.cy _ (by decide)
  have q0:a.enter.name=a.enter:=by rw[aL];exact St.Az _ (by decide)
  have a2:l.1=a.enter:=by rw[<- o,I.er (by rw[q0];exact F),q0]
  have q3:b.1=a.enter:=by rw[<- r,N.er (by rw[a2];exact F),a2]
  rw[q3,nE m]
 have a3:=za (λw1 b0 b1 b2 W=>Ix be O S i a.enter (p+1) w1 w.heap.size (w.heap.size+1+1) (w.heap.size+1) (xI 6) (xI a.t.a) (.string ⟨#[]⟩) (xI 0) (xI 0) (.slice none 0 0) ns a1 aA l b o r e1.af H W b0 b1 b2 (by omega) (by omega) (by omega) (by omega) (by omega));go_enter func232,ntmps232;go_wp2_with (go_at_call 195;refine (kC S i a 6 _ (L.alloc _)).mono ?_;rintro e w' ⟨rfl,rfl⟩);have T0:=yO w i 6 a.t.a;have R:=((L.alloc (.cells #[xP i] 176)).alloc (.cells #[xI 6,xI a.t.a,.string ⟨#[]⟩,xI 0,xI 0,.slice none 0 0] 211)).alloc (.cells #[xP (w.heap.size+1)] 157);obtain⟨A,x⟩:∃A,(((w.alloc (.cells #[xP i] 176)).alloc (.cells #[xI 6,xI a.t.a,.string ⟨#[]⟩,xI 0,xI 0,.slice none 0 0] 211)).alloc (.cells #[xP (w.heap.size+1)] 157))=A:=⟨_,rfl⟩;have T1:se w A i 6 a.t.a:=x▸T0;have T:PL S A i a:=x▸R;refine Eq.mpr (congrArg (λz=>xK 192 _ z _) x) ?_;refine (ml _ _ IX S i a p A J aV T (λe w'=>e=.returned (.tuple #[])/\bH w' (w.heap.size+1+1) 157 (xP (w.heap.size+1))/\ef S i w.heap.size w (b.1.aI.put ⟨iL,a.t.a,a.enter.t.a,[l.2,b.2],a.enter.t.s,0⟩).1 (b.1.aI.put ⟨iL,a.t.a,a.enter.t.a,[l.2,b.2],a.enter.t.s,0⟩).2 (.returned (xP (w.heap.size+1))) w') ?_ ?_).mono ?_
 . intro Z w2 U c;refine (a3.o w2 (T1.bp.fr c (by omega)) (T1.be.fr c (by omega)) ((c.block _ (ze T1.eb) (by omega)).trans T1.eb) U).mono ?_;rintro e w3 ⟨rfl,a6,a9,g,t,X,E,G,bo,j⟩;refine⟨rfl,b.1,t,by rw[B];omega,by rw[B];omega,?_⟩;intro w4 V f;have Q:Fr (·=i) w w4:=(Fr.k1 (T1.fr.trans c) j (by omega)).trans f;have a0:A.heap.size<=w2.heap.size:=c.size;have bl:=T1.size;refine⟨rfl,bH.fr (Fr.iX j (T1.be.fr c (by omega)) (by omega) (by omega)) f (by omega),_,rfl,V.put _,?_,Q⟩;intro n;obtain⟨t1,t2⟩:=X.out n;obtain⟨bp,bq⟩:=K.o n;refine TR.two (y:=l.2) (z:=b.2) (g:=g) (u:=.pointer a6) (v:=.pointer a9) (by omega) (by omega) ?_ ((f.block g (ze G) (by omega)).trans G) rfl ?_ ?_
   . show _=some (Obj.cells #[xI (aF iL.toList 0:Nat),xI a.t.a,.string a.enter.t.s,xI a.enter.t.a,xI (df iL.toList 0:Nat),xS g 2 2] 211 (0,0));rw[KF,jY,<- bp,<- bq];exact (f.block _ (ze E) (by omega)).trans E
   . exact (t1.fr f (λk o _ r=>by omega)).down (by omega)
   exact (t2.fr f (λk o _ r=>by omega)).down (by omega)
 . intro m w3 t j;rw[a4.o m];exact⟨rfl,T1.be.fr j (by omega),_,rfl,t.put _,λn=>absurd n (St.cy a (by decide)),T1.fr.trans j⟩
 rintro e w4 ⟨rfl,Y,a5⟩;obtain⟨f0,ff,fz⟩:=zu Y;go_wp2_with fail;go_ret;exact a5
end
section
variable {c:Fn} {L:List Ex} {d p y:Nat} {f u:Xv} {w wr:Xw}
theorem Kp:zH 178:=λ_ _=>by kernel_rfl
theorem Tryz.AM:(prog.info? 157).map (λi=>(i.zero,i.size,i.bytes))=some (some (.pointer none),1,8):=by kernel_rfl
theorem pL:(⟨#[44]⟩:Xb).toList=[44]:=by decide +kernel
theorem ai.sM {a b:St}(h:ai p a b)(e:b.er=0):a.er=0:=h.dd e
def lJ (w wr:Xw)(f:Xv)(L:List Ex)(y:Nat)(u:Xv):Prop :=
 ∃(a:Xw) (b:Nat),w.heap.size<=b/\TR a b L y u/\(∀k,b<=k->k<a.heap.size->wr.heap[k]?=a.heap[k]?)/\(∀g,f.ownBlock=some g->g<b∨a.heap.size<=g)/\a.heap.size<=wr.heap.size
theorem lJ.now (h:lJ w wr f L y u):TR wr w.heap.size L y u:=by obtain⟨i,g,a,b,e,_,_⟩:=h;exact (b.kept e).down a
theorem lJ.next {l:Xw}{av':Xv}(h:lJ w wr f L y u)(E:List Ex){T:Xj}(j:Fr T wr l)(r:∀k,T k->k<w.heap.size∨f.ownBlock=some k)(s:∀k,av'.ownBlock=some k->f.ownBlock=some k∨wr.heap.size<=k):lJ w l av' (L++E) y u:=by
 obtain⟨x,m,n,o,q,i,b⟩:=h;refine⟨x,m,n,o.more E,λk e a=>?_,λg t=>?_,aJ b j.size⟩
 . refine (j.block k (dD a b) (λv=>?_)).trans (q k e a);rcases r k v with h|h
   . omega
   rcases i k h with h|h <;> omega
 rcases s g t with h|h
 . exact i g h
 exact ap (aJ b h)
structure nZ (S:Xs) (pb eb p d:Nat) (w wr:Xw) (v0 v1 v2 v3 v4:Xv) (s:St) (l:Xn) (vs:Xm) (f:Xv):Prop where
 af:Inv p s
 op:18<=s.op+d
 pl:PL S wr pb s
 aC:xH wr eb #[v0,v1,v2,v3,v4,f] 211
 own:wr.ownsRow w.heap.size 157 1 f vs.length vs
 len:vs.length=l.length
 tr:s.er=0->∀(i y:Nat) (u:Xv),l[i]?=some y->vs[i]?=some u->lJ w wr f s.L y u
 fr:Fr (λk=>k=pb∨k=eb) w wr
 bO:l.length<=s.t.a
theorem I9 {S:Xs}{o a:Nat}{j z:Xw}{N O P Q R:Xv}{s:St}{l:Xn}{F:Xm}{x:Xv}{G:Xp}{X:Obj}
 (b:nZ S o a p d w wr N O P Q R s l F f) (A:cU c s p) (Y:l.length+1<=s.t.a) (n3:o<a) (aA:a<w.heap.size) (q:Fr (·=o) wr j) (K:(c s).1.er=0->TR j wr.heap.size (c s).1.L (c s).2 (.pointer G))
 (J:PL S z o (c s).1) (e:Fr (λk=>f.ownBlock=some k) (j.alloc X) z) (C:z.heap[a]?=some (.cells #[N,O,P,Q,R,f] 211 (0,0))) (n:z.ownsRow w.heap.size 157 1 x (F.length+1) (F++[.pointer G]))
 (m:∀k,x.ownBlock=some k->f.ownBlock=some k∨(j.alloc X).heap.size<=k):nZ S o a p d w (z.setCell (xD a 5) x) N O P Q R (c s).1 (l++[(c s).2]) (F++[.pointer G]) x:=by
 have r:∀k,f.ownBlock=some k->w.heap.size<=k/\k<wr.heap.size:=λk v=>b.own.lt k v;have M:=b.fr.size;have ar:=q.size;have U:=b.pl.lt;have aL:(j.alloc X).heap.size=j.heap.size+1:=by simp
 have I:Fr (λk=>k=o∨k=a∨f.ownBlock=some k) wr (z.setCell (xD a 5) x):=by have B:Fr (λk=>k=o∨k=a∨f.ownBlock=some k) wr (j.alloc X):=(q.mono (λ_ _ h=>ao h)).alloc X;exact (B.dr e (λ_ _ h=>ap (ap h))).setCell (ao (ap (ao rfl))) _
 obtain⟨E,V⟩:=A.L;have Z:∀k,x.ownBlock=some k->w.heap.size<=k:=λk v=>(n.lt k v).1;refine⟨A.af,by rw[A.op];exact b.op,J.aU n3 _ _,zh _ _ _ _ C,?_,by simp[b.len],?_,?_,?_⟩
 . rw[aP];exact zi n (λk B _ _=>zr (by omega) rfl)
 . intro T i y u t D;rcases Nat.lt_or_ge i l.length with h|h
   . rw[e9 h] at t;rw[e9 (by rw[b.len];exact h)] at D;rw[V];refine (b.tr (A.dj.sM T) i y u t D).next E I (λk v=>?_) (λk v=>?_)
     . rcases v with h|h|h
       . left;omega
       . left;omega
       exact ap h
     rcases m k v with h|h
     . exact ao h
     right;omega
   have H:i=l.length:=(by have:=(aB.1 t).1;simp at this;omega);subst H;rw[e8 (an _)] at t;rw[<- b.len,e8 (an _)] at D;simp at t D;subst t D;refine⟨j,wr.heap.size,M,K T,λk B H=>?_,λg W=>?_,?_⟩
   . refine zr (by omega) ((e.block k (by omega) (λh=>by have:=(r k h).2;omega)).trans (mm _ _ _ H))
   . rcases m g W with h|h
     . left;exact (r g h).2
     right;omega
   have:=e.size;simp[World.setCell];omega
 . have B:Fr (λk=>k=o∨k=a) w (j.alloc X):=(b.fr.dr q (λ_ _ h=>ao h)).alloc X;exact (B.dr e (λi t h=>by have:=(r i h).1;omega)).setCell (ao (ap rfl)) _
 have:=A.ta;simp;omega
theorem yv {a:Xp}:∀u∈[Value.pointer a],u.oneCell'=true:=by intro u b;simp at b;subst b;rfl
theorem I2 (cl:zX d 178 c)(cg:zv d c)(S:Xs)(x:Nat)(z:St)(p:Nat)(w:Xw)(bp be t:Nat)(v0 v1 v2 v3 v4:Xv)(cb:Inv p z)(ce:18<=z.op+d)(cv:1<=z.t.a)(hR:PL S w x z)(aV:bH w bp 176 (xP x))(a6:bH w be 157 (xP t))(a2:xH w t #[v0,v1,v2,v3,v4,.slice none 0 0] 211)(n0:¬bp=x)(n1:¬be=x)(n3:x<t)(n4:¬bp=t)(n5:¬be=t) :
 xK 193 #[xP bp,xP be] w λe w'=>e=.returned (.tuple #[])/\∃D f,PL S w' x ((cL c z).1.ac 4 [41])/\xH w' t #[v0,v1,v2,v3,v4,f] 211/\w'.ownsRow w.heap.size 157 1 f D.length D/\D.length=(cL c z).2.length /\
  aa (((cL c z).1.ac 4 [41]).er=0->∀(i y:Nat) (u:Xv),(cL c z).2[i]?=some y->D[i]?=some u->TR w' w.heap.size (cL c z).1.L y u)/\Fr (λk=>k=x∨k=t) w w':=by
 have n2:¬t=x:=by omega
 have a3:=ze a2;have cA:=hR.lt;have bg:nZ S x t p d w w v0 v1 v2 v3 v4 z [] [] (.slice none 0 0):=⟨cb,ce,hR,a2,World.ownsRow_nil _ _ _ _,rfl,λ_ i y u h _=>by simp at h,Fr.refl _ _,by simp⟩;have bC:aa (1201-z.t.a<1300):=by unfold aa;omega
 have A:cL c z=cY c 1300 ((c z).1,[]++[(c z).2]):=rfl;obtain⟨i0,hi,bY,b0,b1⟩:=info_parts Tryz.AM;obtain⟨R,K⟩:∃R,cL c z=R:=⟨_,rfl⟩;rw[K];rw[K] at A;have a4:=za A.symm;clear K A hR cb ce a2;go_enter func193,ntmps193;go_wp2_with fail;go_loopg [2] 1300 (λk m wr=>∃(b:Bool) (s:St) (l:Xn) (D:Xm) (f:Xv),m=.bool b/\aa (nZ S x t p d w wr v0 v1 v2 v3 v4 s l D f)/\aa (b=true->cY c k ((c s).1,l++[(c s).2])=R/\1201-s.t.a<k/\l.length+1<=s.t.a)/\aa (b=false->(s,l)=R));case atStart=>exact⟨true,z,[],[],_,rfl,bg,λ_=>⟨a4.o,bC.o,by simpa using cv⟩,λh=>by cases h⟩
 case round =>
  obtain⟨b,s,l,D,f,rfl,j,bv,ar⟩:=hrel;have hz:=j.o.fr.size;have cd:=j.o.pl.lt;have G:=j.o.fr.iX aV n0 n4;have F:=j.o.fr.iX a6 n1 n5;obtain⟨p0,cR,c1⟩:=zu G;obtain⟨e0,cs,ct⟩:=zu F;cases b with
  | false => have ck:=ar.o rfl;have Q:=za j.o.af.bd;clear bv ar;go_wp2_with (go_at_call 134;refine (zP S x s _ [41] pJ _ Q.o j.o.pl).mono ?_;rintro e w2 ⟨rfl,bo,T⟩);go_end0;rw[<- ck];have hm:s.iv [41]=s.ac 4 [41]:=fo j.o.pl.tx (by decide);refine⟨rfl,D,f,hm▸bo,(T.block t (ze j.o.aC) n2).trans j.o.aC,zi j.o.own (λk B v _=>T.block k v (by omega)),j.o.len,?_,j.o.fr.dr T (λ_ _ h=>ao h)⟩;intro r i y u B v;exact (j.o.tr ((ai.ac j.o.af 4 [41]).dd r) i y u B v).now.fr T (λk B _ v=>by omega)
  | true =>
    obtain⟨n,W,bB⟩:=bv.o rfl;have bA:=cg s p j.o.af j.o.op;have bx:=za (λw1 h=>cl S x s p w1 j.o.af j.o.op h);obtain⟨E,c3⟩:=bA.L;have bs:=za n;have cB:D.length<=1200:=(by have:=j.o.bO;have:=j.o.af.ok.bR;have:=j.o.len;omega);have mx:D.length+1<=maxLen:=(by unfold maxLen;omega);have bK:(D.length+1)*8<=140737488355328:=(by omega);obtain⟨d0,d1,d2,d3,d4,cm,co,dz⟩:=zt j.o.aC;clear bv ar n;go_upto_block 1 with fail;go_cut [] (λwx=>∃b3 av',aa (nZ S x t p d w wx v0 v1 v2 v3 v4 (c s).1 (l++[(c s).2]) b3 av'));case first =>
     go_wp2_with fail;go_region_law (first|(refine kD rfl 178 (.tmp 11) 176 rfl Kp (xP x) rfl (bx.o _ j.o.pl.drew) ?_;rintro e w1 ⟨cn,rfl,bl,bL,X⟩;refine⟨_,rfl,?_⟩;have q:Fr (·=x) wr w1:=X.cQ;have cE:=q.size;have H:=(q.block t (ze j.o.aC) n2).trans j.o.aC;obtain⟨f0,f1,f2,f3,f4,f5,ff,fz⟩:=zt H;obtain⟨c4,c5,c6⟩:=zu (F.fr q n1);obtain⟨k0,kf,kz⟩:=zu (G.fr q n0);have I:=za (zi j.o.own (λk B v _=>q.block k v (by omega)));have b2:w.heap.size<=w1.heap.size+1:=(by omega);clear X)|(refine zJ _ rfl (.tmp 10) (.tmp 13) 209 rfl w.heap.size 157 i0 _ 1 8 underlying209 hi bY b0 b1 rfl (by decide) f D.length D rfl (zD I.o _) (xD w1.heap.size 0) 1 1 [.pointer cn] rfl rfl (zN (zc w1 _) rfl) yv mx bK (by simpa using b2) ?_;intro v' w9 J N a0;obtain⟨g9,ca,rfl,cz⟩:=zM J (by omega);have a5:∀k,f.ownBlock=some k->w.heap.size<=k:=λk P=>(I.o.lt k P).1;have Z:=Fr.gi N;have M:∀k,k<w.heap.size->w9.heap[k]?=w1.heap[k]?:=(λk P=>(Z.block k (by rw[au];omega) (λh=>by have:=a5 k h;omega)).trans (mm _ _ _ (by omega)));obtain⟨m0,m1,m2,m3,m4,m5,c9,da⟩:=zt ((M t a3).trans H);have a9:=za ((M t a3).trans H);obtain⟨o0,cO,oz⟩:=zu ((M be (ze a6)).trans (F.fr q n1));have b4:=za ((M bp (ze aV)).trans (G.fr q n0));have bq:aa (PL S w9 x (c s).1):=(bl.alloc _).fr Z (λk P=>by have:=a5 k P;omega);clear N M));all_goals go_wp2_with fail
     all_goals go_meet
     all_goals exact⟨_,_,I9 j.o bA bB n3 a3 q bL.out bq.o Z a9.o J a0⟩
    case rest =>
     obtain⟨bb,U,a⟩:=hcut;have cK:=a.o.fr.size;obtain⟨dc,c0,c2⟩:=zu (a.o.fr.iX aV n0 n4);have Q:=za a.o.af.bd;have C:=za (hY S x (c s).1 ⟨#[44]⟩ [44] pL wc Q.o a.o.pl);rw[fm a.o.pl.tx (by decide)] at C;have Y:(c s).1.cP [44]=if (c s).1.is 4 [44]=true then (c s).1.ad else (c s).1:=(by unfold St.cP;rw[fm a.o.pl.tx (by decide)]);rw[Y] at C;clear p0 cR c1 e0 cs ct d0 d1 d2 d3 d4 co dz Y;obtain⟨g,rfl⟩:∃g,gk=g+1:=⟨gk-1,by have:=W;omega⟩;have n:=bs.o;have O:cY c (g+1) ((c s).1,l++[(c s).2])=if (c s).1.er=0/\(c s).1.is 4 [44]=true then cY c g ((c (c s).1.ad).1,(l++[(c s).2])++[(c (c s).1.ad).2]) else ((c s).1,l++[(c s).2]):=rfl;rw[O] at n;cases V:(c s).1.is 4 [44] with
     | true =>
       have r:(c s).1.er=0:=Q.o.er (by rw[Inv.bP V];decide);rw[ag ⟨r,V⟩] at n;have aL:=za n;rw[V,ag rfl] at C;have e5:=ai.gj a.o.af r (by rw[Inv.bP V];decide);have a1:=ai.ad a.o.af;have bE:(c s).1.t.a+1<=(c s).1.ad.t.a:=(by have B:=a.o.af.tok (by rw[Inv.bP V];decide);have v:=zV (c s).1.src (c s).1.t.t a.o.af.ok.tt;rw[St.dZ r];simp only;omega);have bt:(c s).1.ad.L=(c s).1.L:=St.bu _;have ch:aa (cY c g ((c (c s).1.ad).1,(l++[(c s).2])++[(c (c s).1.ad).2])=R/\1201-(c s).1.ad.t.a<g/\(l++[(c s).2]).length+1<=(c s).1.ad.t.a):=by
        refine⟨aL.o,?_,?_⟩
        . have B:=bA.ta;have v:=W;have h3:=j.o.af.ok.bR;have h4:=a1.af.ok.bR;omega
        have B:=a.o.bO;omega
       have bk:=za a1.af;clear n O V e5 a1;go_wp2_with (go_at_call 137;refine C.o.mono ?_;rintro e w3 ⟨rfl,aA,o⟩);go_roundg g;case measure=>omega
       refine⟨true,(c s).1.ad,l++[(c s).2],bb,U,rfl,⟨bk.o,by rw[St.bQ];exact a.o.op,aA,(o.block t (ze a.o.aC) n2).trans a.o.aC,zi a.o.own (λk B v _=>o.block k v (by omega)),a.o.len,?_,a.o.fr.dr o (λ_ _ h=>ao h),?_⟩,λ_=>ch.o,λh=>by cases h⟩
       . intro _ i y u B v;rw[bt];have:=(a.o.tr r i y u B v).next [] o (av':=U) (λk P=>by left;omega) (λk P=>ao P);rwa [List.append_nil] at this
       have B:=a.o.bO;have v:=bE;omega
     | false =>
       rw[ae (by rw[V];simp)] at n;have aL:=za n;rw[V,ae (by simp)] at C;clear n O V;go_wp2_with (go_at_call 137;refine C.o.mono ?_;rintro e w3 ⟨rfl,aA,o⟩);go_roundg g;case measure=>omega
       refine⟨false,(c s).1,l++[(c s).2],bb,U,rfl,⟨a.o.af,a.o.op,aA,(o.block t (ze a.o.aC) n2).trans a.o.aC,zi a.o.own (λk B v _=>o.block k v (by omega)),a.o.len,?_,a.o.fr.dr o (λ_ _ h=>ao h),a.o.bO⟩,(λh=>by cases h),λ_=>aL.o⟩;intro r i y u B v;have:=(a.o.tr r i y u B v).next [] o (av':=U) (λk P=>by left;omega) (λk P=>ao P);rwa [List.append_nil] at this
end
section
theorem JX:zH 193:=λ_ _=>by kernel_rfl
theorem Lg:aF fL.toList 0=4:=by decide +kernel
structure Lc (w w0:Xw) (pb:Nat) (s:Xb) (a:Nat):Prop where
 bp:bH w0 w.heap.size 176 (xP pb)
 eb:xH w0 (w.heap.size+1+1) #[xI 4,xI a,.string s,xI a,xI 0,.slice none 0 0] 211
 be:bH w0 (w.heap.size+1+1+1) 157 (xP (w.heap.size+1+1))
 fr:Fr (·=pb) w w0
 size:w0.heap.size=w.heap.size+1+1+1+1
def j6 (w:Xw)(b:Nat)(s:Xb)(a:Nat):World:=(((w.alloc (.cells #[xP b] 176)).alloc (.cells #[.string s,xI a] 78)).alloc (.cells #[xI 4,xI a,.string s,xI a,xI 0,.slice none 0 0] 211)).alloc (.cells #[xP (w.heap.size+1+1)] 157)
theorem Lb (w:Xw)(b:Nat)(s:Xb)(a:Nat):Lc w (j6 w b s a) b s a:=by
 unfold j6;refine⟨?_,?_,?_,((((Fr.refl _ w).alloc _).alloc _).alloc _).alloc _,by simp⟩
 . exact (mm _ _ _ (by simp;omega)).trans ((mm _ _ _ (by simp;omega)).trans ((mm _ _ _ (by simp)).trans (zc w _)))
 . refine (mm _ _ _ (by simp)).trans ?_;have:=zc ((w.alloc (.cells #[xP b] 176)).alloc (.cells #[.string s,xI a] 78)) (.cells #[xI 4,xI a,.string s,xI a,xI 0,.slice none 0 0] 211);simpa using this
 have:=zc (((w.alloc (.cells #[xP b] 176)).alloc (.cells #[.string s,xI a] 78)).alloc (.cells #[xI 4,xI a,.string s,xI a,xI 0,.slice none 0 0] 211)) (.cells #[xP (w.heap.size+1+1)] 157);unfold bH;simpa using this
theorem Ks {S:Xs}{w:Xw}{b:Nat}{c:St}(h:PL S w b c)(s:Xb)(a:Nat):PL S (j6 w b s a) b c:=(((h.alloc _).alloc _).alloc _).alloc _
theorem JU {d:Nat}{b:Fn}(bl:zX d 178 b)(P:zv d b):ig (d+1) b:=by
 intro S j a p w t J bv bs L;have bp:=L.lt;have bq:∀(fn:Go.Fn) (first F:Xa) (w:Xw),(Instr.makeFunc fn first F).run prog w=.ok (.func fn first F) w:=λ_ _ _ _=>rfl;have c:=Lb w j t.s t.a;have f:=Ks L t.s t.a;have l:=za (fH S j a ⟨#[40]⟩ _ j7 (j6 w j t.s t.a) J.ok.tk f);rw[fm L.tx (by decide)] at l;have bo:8<w.heap.size:=dD (by decide) L.gl.size;have aL:xC (j6 w j t.s t.a) 8 0 (.iface 316 (.pointer (some (S 2)))):=f.gl.e6;obtain⟨a6,a9,bb⟩:=zu c.be;obtain⟨be,bg,bk⟩:=zu c.bp;cases H:a.is 4 [40] with
 | true =>
   have O:a.t.k=4:=Inv.bP H;have he:=J.bd.er (by omega);have K:=ai.enter J he (by omega:2<=a.t.k);have x:18<=a.enter.op+d:=(by rw[St.bN];omega);have r:1<=a.enter.t.a:=(by have:=K.ta;omega);obtain⟨a4,E,a5⟩:=xQ P K.af x r;have a1:=za (λw1 b0 b1 b2 V=>I2 bl P S j a.enter (p+1) w1 w.heap.size (w.heap.size+1+1+1) (w.heap.size+1+1) (xI 4) (xI t.a) (.string t.s) (xI t.a) (xI 0) K.af x r V b0 b1 b2 (by omega) (by omega) (by omega) (by omega) (by omega));have U:Fs b t a=(((cL b a.enter).1.ac 4 [41]).aI.put ⟨fL,t.a,t.a,(cL b a.enter).2,t.s,0⟩):=(by unfold Fs;rw[ag H]);rw[U];have a2:aa (a.op=16->((cL b a.enter).1.ac 4 [41]).aI=a.fail 3 a.t.a):=by
    intro q;have aA:=St.om q;have I:a.enter.er≠0:=(by rw[aA];exact St.cy _ (by decide));have a0:(b a.enter).1=a.enter:=(by rw[(P a.enter (p+1) K.af x).er I]);have q2:(cL b a.enter).1=a.enter:=by
     show (cY b 1300 ((b a.enter).1,[(b a.enter).2])).1=a.enter
     show (if (b a.enter).1.er=0/\(b a.enter).1.is 4 [44]=true then _ else ((b a.enter).1,[(b a.enter).2])).1=a.enter;rw[ae (by rw[a0];exact λh=>I h.1)];exact a0
    have q3:(cL b a.enter).1.ac 4 [41]=a.enter:=(by rw[q2,aA];exact St.oo _ (by decide) (by decide));rw[q3,nE q]
   rw[H] at l;generalize cL b a.enter=A at *;go_enter func177,ntmps177;go_wp2_with fail;refine Eq.mpr (congrArg (λz=>xK 72 _ z _) (show _=j6 w j t.s t.a from rfl)) ?_;refine l.o.mono ?_;rintro e M ⟨rfl,rfl⟩;generalize j6 w j t.s t.a=Z at *;go_wp2_with fail;refine (ml _ _ JX S j a p Z J (by rw[O];decide) f (λe M=>e=.returned (.tuple #[])/\bH M (w.heap.size+1+1+1) 157 (xP (w.heap.size+1+1))/\ef S j w.heap.size w ((A.1.ac 4 [41]).aI.put ⟨fL,t.a,t.a,A.2,t.s,0⟩).1 ((A.1.ac 4 [41]).aI.put ⟨fL,t.a,t.a,A.2,t.s,0⟩).2 (.returned (xP (w.heap.size+1+1))) M) ?_ ?_).mono ?_
   . intro Y w2 R g;have T1:=c;refine (a1.o w2 (T1.bp.fr g (by omega)) (T1.be.fr g (by omega)) ((g.block _ (ze T1.eb) (by omega)).trans T1.eb) R).mono ?_;rintro e w3 ⟨rfl,vs,ar,s,G,B,v,W,m⟩;refine⟨rfl,A.1.ac 4 [41],s,by rw[St.a8,E,St.bN];omega,by rw[St.a8,E,St.bN];omega,?_⟩;intro w4 f n;have Q:Fr (·=j) w w4:=(Fr.k1 (T1.fr.trans g) m (by omega)).trans n;have aV:Z.heap.size<=w2.heap.size:=g.size;have bt:=T1.size;refine⟨rfl,bH.fr (Fr.iX m (T1.be.fr g (by omega)) (by omega) (by omega)) n (by omega),_,rfl,f.put _,?_,Q⟩;intro o;have T:(A.1.ac 4 [41]).aI.L=A.1.L:=St.bi _ _ _
     show TR w4 w.heap.size ((A.1.ac 4 [41]).aI.L++[⟨fL,t.a,t.a,A.2,t.s,0⟩]) (A.1.ac 4 [41]).aI.L.length _;rw[T];have C:=zR (zi B (λk h1 h2 _=>n.block k h2 (by omega))) (by omega:w.heap.size<=w2.heap.size);refine TR.mk A.1.L.length ⟨fL,t.a,t.a,A.2,t.s,0⟩ _ ar vs (by simp) (by omega) ?_ C v ?_
     . show _=some (Obj.cells #[xI (aF fL.toList 0:Nat),xI t.a,.string t.s,xI t.a,xI (df fL.toList 0:Nat),ar] 211 (0,0));rw[Lg,jY];exact (n.block _ (ze G) (by omega)).trans G
     intro i y u hi hu;exact (((W.out o i y u hi hu).fr n (λk h1 _ h2=>by omega)).down (by omega)).more _
   . intro q w3 s m;rw[a2.o q];exact⟨rfl,c.be.fr m (by omega),_,rfl,s.put _,λo=>absurd o (St.cy a (by decide)),c.fr.trans m⟩
   rintro e w4 ⟨rfl,X,a3⟩;obtain⟨f0,ff,fz⟩:=zu X;go_wp2_with fail;go_ret;exact a3
 | false => have U:Fs b t a=(a.fail 2 a.t.a,0):=(by unfold Fs;rw[ae (by rw[H];simp)]);rw[U];rw[H] at l;go_enter func177,ntmps177;go_wp2_with fail;refine Eq.mpr (congrArg (λz=>xK 72 _ z _) (show _=j6 w j t.s t.a from rfl)) ?_;refine l.o.mono ?_;rintro e M ⟨rfl,rfl⟩;generalize j6 w j t.s t.a=Z at *;go_wp2_with (go_at_call 74;refine (li S j a 2 (by decide) _ f).mono ?_;rintro e w1 ⟨rfl,N,D⟩;obtain⟨f0,ff,fz⟩:=zu (c.be.fr D (by omega)));go_ret;exact⟨_,rfl,N,λo=>absurd o (St.cy a (by decide)),c.fr.trans D⟩
theorem PL.BM {S:Xs}{w:Xw}{d:Nat}{b:St}{e a:Nat}(h:PL S w d (b.fail e a))(f:b.er≠0)(i:b.t.k=1):PL S w d b:=by
 have g:b.fail e a={ b with t:=⟨1,b.t.a,b.t.t,⟨#[]⟩,0⟩ }:=by unfold St.fail;rw[ae f]
 rw[g] at h;refine⟨⟨λc=>by omega,λc=>by omega,λc=>by omega⟩,?_,h.gl,h.pb⟩;have:=h.heap;unfold lu at this ⊢;simp only[ck,cs,cn] at this ⊢;rw[i];exact this
theorem si (a:St)(b:Tx a.src a.t):dC a [1,2]=if a.is 5 [116,114,117,101]=true then some 1 else if a.is 5 [102,97,108,115,101]=true then some 2 else none:=by obtain⟨_,_,_,_,_,_,_,_,_,_,_,_,_,_,_,_,c,d⟩:=ku;simp only[dC,c,d];rw[MH b (by decide),MH b (by decide)]
theorem Le (n:Nat):aF fJ.toList n=0:=by
 have:fJ.toList=[110,117,109,98,101,114]:=by decide +kernel
 rw[this];rfl
theorem Ld (n:Nat):df fJ.toList n=n:=by
 have:fJ.toList=[110,117,109,98,101,114]:=by decide +kernel
 rw[this];rfl
theorem Lr:aF MV.toList 1=1:=by decide +kernel
theorem KD:aF MV.toList 0=2:=by decide +kernel
theorem Lo (n:Nat):df MV.toList n=0:=by
 have:MV.toList=[98,111,111,108]:=by decide +kernel
 rw[this];rfl
theorem yT:(⟨#[105,102]⟩:Xb).toList=[105,102]:=by decide +kernel
theorem yt:(⟨#[109,101,114,103,101]⟩:Xb).toList=[109,101,114,103,101]:=by decide +kernel
theorem r7 {t:Tk}:(((ck t:Nat):Int)==4)=(t.k==3):=by
 by_cases h:t.k=3
 . simp[ck,h]
 have:ck t≠4:=by unfold ck;(repeat' split) <;> first|decide|(exfalso;omega)
 have a:(t.k==3)=false:=by simp[h]
 rw[a];simp;omega
theorem Ik (M:Fn)(S:Xs)(c:Nat)(a:St)(p:Nat)(w:Xw)(n:Inv p a)(j:a.t.k=3)(o:M a=fK fJ a.t.n a)(h:PL S w c a) :
 xK 228 #[xP c] w (ef S c w.heap.size w (M a).1 (M a).2):=by
 rw[o];obtain⟨x,y,z,A,B,C,D⟩:=h.cells;have k:=r7 (t:=a.t);rw[show (a.t.k==3)=true by simp[j]] at k;have i:cn a.t=a.t.n:=by simp[cn,j]
 have l:=h.lt;have m:¬w.heap.size=c:=by omega
 have s:=H5;have q:=za n.bd;have r:=za (kI n.bd (by omega:a.t.k≠1));clear o;go_enter func228,ntmps228;go_wp2_with (go_at_call 195;refine (kC S c a 0 _ h).mono ?_;rintro e E ⟨rfl,rfl⟩);refine (jV S c a _ q.o.ok (by rw[j];decide) (h.alloc _)).mono ?_;rintro e F ⟨rfl,f,d⟩;rw[r.o] at f;have g:=(d.block w.heap.size (Nat.lt_of_lt_of_eq (cf _) (by simp)) m).trans (zc w _);obtain⟨d0,d1,d2,d3,d4,d5,u,v⟩:=zt g;simp only[Tk.dX];go_wp2_with fail;go_ret;refine⟨some (xD w.heap.size 0),rfl,(f.aU l _ _).put _,λ_=>TR.leaf (b:=w.heap.size) (ex:=⟨fJ,a.t.a,0,[],sE,a.t.n⟩) (an _) ?_ rfl,(((Fr.refl _ w).alloc _).trans d).aO (an _) _ _⟩
 show _=some (Obj.cells #[xI (aF fJ.toList a.t.n:Nat),xI a.t.a,.string ⟨#[]⟩,xI (0:Nat),xI (df fJ.toList a.t.n:Nat),.slice none 0 0] 211 (0,0));rw[Le,Ld,<- i];exact zh _ _ _ _ g
theorem xV (M:Fn)(n j:Nat)(S:Xs)(d:Nat)(a:St)(p:Nat)(w:Xw)(k:Inv p a)(r:a.t.k=5)(i:dC a [1,2]=some j)(l:aF MV.toList n=j)(s:M a=fK MV n a)(h:PL S w d a) :
 xK 228 #[xP d] w (ef S d w.heap.size w (M a).1 (M a).2):=by
 rw[s];obtain⟨A,B,C,D,E,F,G⟩:=h.cells;have m:=r7 (t:=a.t);rw[show (a.t.k==3)=false by simp[r]] at m;have x:=h.lt;have q:¬w.heap.size+1=d:=by omega
 have c:=za (kF S d a _ 2 [1,2] rfl (by decide) (w.alloc (.cells #[xI 1,xI 2] 208)) (iF _ _ _ _ rfl) (by decide) k.ok.tk (h.alloc _));rw[i] at c;simp only[fR] at c;have u:=za k.bd;have v:=za (kI k.bd (by omega:a.t.k≠1));clear k s i;go_enter func228,ntmps228;go_wp2_with (first|(go_at_call 212;refine c.o.mono ?_;rintro e y ⟨rfl,rfl⟩)|(go_at_call 195;refine (kC S d a j _ (h.alloc _)).mono ?_;rintro e y ⟨rfl,rfl⟩)|(go_at_call 174;refine (jV S d a _ u.o.ok (by rw[r];decide) ((h.alloc _).alloc _)).mono ?_;rintro e z ⟨rfl,g,f⟩;rw[v.o] at g));go_ret;have o:xH z (w.heap.size+1) #[xI j,xI a.t.a,.string ⟨#[]⟩,xI 0,xI 0,.slice none 0 0] 211:=by refine (f.block (w.heap.size+1) (by simp) q).trans ?_;have:=zc (w.alloc (.cells #[xI 1,xI 2] 208)) (.cells #[xI j,xI a.t.a,.string ⟨#[]⟩,xI 0,xI 0,.slice none 0 0] 211);simpa using this
 refine⟨some (xD (w.heap.size+1) 0),rfl,g.put _,λ_=>TR.leaf (b:=w.heap.size+1) (ex:=⟨MV,a.t.a,0,[],sE,n⟩) (by omega) ?_ rfl,((((Fr.refl _ w).alloc _).alloc _).trans f)⟩
 show _=some (Obj.cells #[xI (aF MV.toList n:Nat),xI a.t.a,.string ⟨#[]⟩,xI (0:Nat),xI (df MV.toList n:Nat),.slice none 0 0] 211 (0,0));rw[l,Lo];exact o
theorem jK {t:Tk}(a:t.k≠3):(((ck t:Nat):Int)==4)=false:=by rw[r7];simp[a]
theorem kL {a:St}{k:Nat}{l:Xu}(h:a.t.k≠k):a.is k l=false:=by
 unfold St.is;have:(a.t.k==k)=false:=by simp[h]
 rw[this];rfl
theorem rj (f:FuncId)(M:Fn)(m o v:Bool)(S:Xs)(d:Nat)(b:St)(p:Nat)(w:Xw)(n:Inv p b)(E:b.t.k≠3)(t:dC b [1,2]=none)(c:PL S w d b)(q:b.is 4 [40]=m)(r:b.is 5 [105,102]=o)(s:b.is 5 [109,101,114,103,101]=v)
 (D:(m=true/\f=230)∨(m=false/\o=true/\f=231)∨(m=false/\o=false/\v=true/\f=232))
 (h:∀l,PL S l d b->xK f #[xP d] l (ef S d l.heap.size l (M b).1 (M b).2)) :
 xK 228 #[xP d] w (ef S d w.heap.size w (M b).1 (M b).2):=by
 obtain⟨G,H,I,J,K,L,N⟩:=c.cells;have C:=jK E;have F:=c.lt;have g:=za (kF S d b _ 2 [1,2] rfl (by decide) (w.alloc (.cells #[xI 1,xI 2] 208)) (iF _ _ _ _ rfl) (by decide) n.ok.tk (c.alloc _));rw[t] at g;simp only[fR] at g;have i:=za (fH S d b ⟨#[40]⟩ _ j7 (w.alloc (.cells #[xI 1,xI 2] 208)) n.ok.tk (c.alloc _));have j:=za (fH S d b ⟨#[105,102]⟩ _ yT (w.alloc (.cells #[xI 1,xI 2] 208)) n.ok.tk (c.alloc _));have k:=za (fH S d b ⟨#[109,101,114,103,101]⟩ _ yt (w.alloc (.cells #[xI 1,xI 2] 208)) n.ok.tk (c.alloc _));rw[fm c.tx (by decide),q] at i;rw[MH c.tx (by decide),r] at j;rw[MH c.tx (by decide),s] at k;have x:=za (h (w.alloc (.cells #[xI 1,xI 2] 208)) (c.alloc _));generalize M b=R at *;rcases D with ⟨rfl,rfl⟩|⟨rfl,rfl,rfl⟩|⟨rfl,rfl,rfl,rfl⟩
 all_goals
  go_enter func228,ntmps228;go_wp2_with (first|(go_at_call 212;refine g.o.mono ?_;rintro e u ⟨rfl,rfl⟩)|(go_at_call 72;first|(with_reducible refine i.o.mono ?_;rintro e u ⟨rfl,rfl⟩)|(with_reducible refine j.o.mono ?_;rintro e u ⟨rfl,rfl⟩)|(with_reducible refine k.o.mono ?_;rintro e u ⟨rfl,rfl⟩)));refine x.o.mono ?_;rintro e l y;obtain⟨a,rfl,z,A,B⟩:=y.alloc (jg _ _);go_wp2_with fail;go_ret;exact⟨a,rfl,z,A,B⟩
theorem xe (S:Xs)(c:Nat)(a:St)(p:Nat)(w:Xw)(j:Inv p a)(v:a.t.k≠3)(r:dC a [1,2]=none)(b:PL S w c a)(m:a.is 4 [40]=false)(n:a.is 5 [105,102]=false)(o:a.is 5 [109,101,114,103,101]=false) :
 xK 228 #[xP c] w (ef S c w.heap.size w (a.fail 2 a.t.a) 0):=by
 obtain⟨y,z,A,B,C,D,E⟩:=b.cells;have t:=jK v;have x:=b.lt;have u:8<w.heap.size:=dD (by decide) b.gl.size;have s:xC w 8 0 (.iface 316 (.pointer (some (S 2)))):=b.gl.e6;have d:=za (kF S c a _ 2 [1,2] rfl (by decide) (w.alloc (.cells #[xI 1,xI 2] 208)) (iF _ _ _ _ rfl) (by decide) j.ok.tk (b.alloc _));rw[r] at d;simp only[fR] at d;have f:=za (fH S c a ⟨#[40]⟩ _ j7 (w.alloc (.cells #[xI 1,xI 2] 208)) j.ok.tk (b.alloc _));have g:=za (fH S c a ⟨#[105,102]⟩ _ yT (w.alloc (.cells #[xI 1,xI 2] 208)) j.ok.tk (b.alloc _));have h:=za (fH S c a ⟨#[109,101,114,103,101]⟩ _ yt (w.alloc (.cells #[xI 1,xI 2] 208)) j.ok.tk (b.alloc _));rw[fm b.tx (by decide),m] at f;rw[MH b.tx (by decide),n] at g;rw[MH b.tx (by decide),o] at h;go_enter func228,ntmps228;go_wp2_with (first|(go_at_call 195;refine (kC S c (a.fail 2 a.t.a) 0 _ i).mono ?_;rintro e k ⟨rfl,rfl⟩)|(go_at_call 212;refine d.o.mono ?_;rintro e k ⟨rfl,rfl⟩)|(go_at_call 72;first|(with_reducible refine f.o.mono ?_;rintro e k ⟨rfl,rfl⟩)|(with_reducible refine g.o.mono ?_;rintro e k ⟨rfl,rfl⟩)|(with_reducible refine h.o.mono ?_;rintro e k ⟨rfl,rfl⟩))|(go_at_call 74;refine (li S c a 2 (by decide) _ (b.alloc _)).mono ?_;rintro e F ⟨rfl,i,l⟩));go_ret;exact⟨_,rfl,i.alloc _,λq=>absurd q (St.cy a (by decide)),(((Fr.refl _ w).alloc _).trans l).alloc _⟩
theorem r1 {a:St}(d:Tx a.src a.t)(b:a.is 5 [116,114,117,101]=false)(c:a.is 5 [102,97,108,115,101]=false):dC a [1,2]=none:=by rw[si a d,b,c];rfl
theorem Hy {d:Nat}{f g:Fn}(C:zX d 178 f)(B:zv d f)(H:zX d 236 (bF g))(D:zv d g):pz (d+1) (aN f g):=by
 intro S k b p w j y A i;by_cases q:b.er=0
 . have J:∀M:Fn,(M b=aN f g b)->aN f g b=M b:=λ_ h=>h.symm;by_cases m:b.t.k=3
   . exact Ik (aN f g) S k b p w j m (by unfold aN;rw[ae (by simp[q]),ag m]) i
   have c:aN f g b=if b.is 4 [40]=true then iM f b else if b.is 5 [116,114,117,101]=true then fK MV 1 b else if b.is 5 [102,97,108,115,101]=true then fK MV 0 b else if b.is 5 [105,102]=true then fp f b else if b.is 5 [109,101,114,103,101]=true then fs g b else (b.fail 2 b.t.a,0):=(by unfold aN;rw[ae (by simp[q]),ae m,ae y]);cases o:b.is 4 [40] with
   | true => have I:b.t.k=4:=Inv.bP o;rw[ag o] at c;refine rj 230 (aN f g) _ _ _ S k b p w j m (r1 i.tx (kL (by omega)) (kL (by omega))) i o rfl rfl (ao ⟨rfl,rfl⟩) ?_;intro t l;rw[c];exact I1 C B S k b p t j (by omega) A l
   | false =>
     rw[o,ae (by simp)] at c;cases s:b.is 5 [116,114,117,101] with
     | true => rw[s,ag rfl] at c;exact xV (aN f g) 1 1 S k b p w j (Inv.bP s) (by rw[si b i.tx,s];rfl) Lr c i
     | false =>
       rw[s,ae (by simp)] at c;cases u:b.is 5 [102,97,108,115,101] with
       | true => rw[u,ag rfl] at c;exact xV (aN f g) 0 2 S k b p w j (Inv.bP u) (by rw[si b i.tx,s,u];rfl) KD c i
       | false =>
         rw[u,ae (by simp)] at c;have n:=r1 i.tx s u;cases r:b.is 5 [105,102] with
         | true => have z:b.t.k=5:=Inv.bP r;rw[r,ag rfl] at c;refine rj 231 (aN f g) _ _ _ S k b p w j m n i o r rfl (ap (ao ⟨rfl,rfl,rfl⟩)) ?_;intro t l;rw[c];exact H4 C B S k b p t j (by omega) A l
         | false =>
           rw[r,ae (by simp)] at c;cases v:b.is 5 [109,101,114,103,101] with
           | true => have z:b.t.k=5:=Inv.bP v;rw[v,ag rfl] at c;refine rj 232 (aN f g) _ _ _ S k b p w j m n i o r v (ap (ap ⟨rfl,rfl,rfl,rfl⟩)) ?_;intro t l;rw[c];exact I4 H D S k b p t j (by omega) A l
           | false => rw[v,ae (by simp)] at c;rw[c];exact xe S k b p w j m n i o r v
 have x:=j.bad q;have G:aN f g b=(b,0):=by unfold aN;rw[ag q]
 rw[G];refine (xe S k b p w j (by omega) (r1 i.tx (kL (by omega)) (kL (by omega))) i (kL (by omega)) (kL (by omega)) (kL (by omega))).mono ?_;rintro e t ⟨a,l,E,_,F⟩;exact⟨a,l,E.BM q x,λh=>absurd h q,F⟩
theorem JH:∀d,zX d 178 (fx d).ex/\zX d 224 (fx d).un/\pz d (fx d).at'/\ig d (if d=0 then (fx 0).ex else (fx (d-1)).ex):=by
 intro d;induction d with
 | zero =>
   have h:∀(f:FuncId) (M:Fn),zX 0 f M:=λf M S q b p w a n _=>by have:=a.N7;omega
   exact⟨h _ _,h _ _,λS q b p w a _ n _=>by have:=a.N7;omega,λS q b p w t a n _ _=>by have:=a.N7;omega⟩
 | succ d B => obtain⟨c,g,i⟩:=pm d;obtain⟨e,x,y,_⟩:=B;have l:=JU e c;have m:=Hy e c (Ju y) i;have j:=rT c i;have z:=Jx m l;have v:=rG j;have A:=HD z j;have k:=r4 g v;have o:=IH x g A;have F:=H6 o k;have u:=ib (lv:=3) k;have E:=J5 F u;have s:=ib (lv:=2) u;have H:=Jw E s;have b:=rS s;have D:=JC H b;have r:=ib (lv:=1) b;have C:=Iu D r;have G:=ib (lv:=0) r;exact⟨J3 e c C G,o,m,l⟩
end
section
variable {f:St}
def el (f:St)(n:Nat):St:=z9 ((f.bG n).name.ac 4 [58])
theorem xj (S:Xs)(a:Nat)(f:St)(w:Xw)(d:Nat)(x:Xp)(n c:Nat)(p:bU f)(s:n<=100)(h:d<w.heap.size)(r:xC w d 2 (.slice x n c))(q:PL S w a f) :
 xK 175 #[xP a,xP d] w λe j=>∃(g:Xb) (b i:Nat),e=.returned (.agg #[.string g,xI b,xI i,xI 0,xI 0,.string ⟨#[]⟩,xI 0])/\aa (((f.bG n).t.k=2->g=(f.bG n).t.s/\b=(f.bG n).t.a)/\i=if ((f.bG n).name.ac 4 [58]).is 5 cD=true then 1 else 0)/\PL S j a (el f n)/\Fr (·=a) w j:=by
 refine (HR S a f w d x n c p s h r q).mono ?_;rintro e t ⟨g,b,k,l,m,o⟩;exact⟨g,b,_,k,⟨l,rfl⟩,m,o⟩
theorem bU.type (h:bU f):bU (z9 f):=by
 unfold z9;split
 . exact h.ad
 exact h.ac _ _
theorem bU.hb (h:bU f):bU (aS f):=by
 unfold aS;split
 . exact h.ad
 exact h
theorem bU.bG (h:bU f)(n:Nat):bU (f.bG n):=by
 unfold St.bG;split
 . exact h.fail (by omega)
 exact h
theorem bU.Aq (h:bU f)(n:Nat):bU (el f n):=((h.bG n).name.ac _ _).type
def ix (s:St):St:=if s.is 5 cF=true then (aS s.ad).name else s
def pG (s:St)(d c:Nat)(b:Xb)(a:Nat):Prop :=
 (s.is 5 cF=true->d=(if s.ad.is 5 aav=true then 2 else 1)/\c=s.t.a/\((aS s.ad).t.k=2->b=(aS s.ad).t.s/\a=(aS s.ad).t.a))/\(s.is 5 cF=false->d=0/\c=0/\b=⟨#[]⟩/\a=0)
theorem Tryz.tc:(prog.info? 95).map (λi=>(i.zero,i.size,i.bytes))=some (some (.agg #[.string ⟨#[]⟩,xI 0,xI 0,xI 0,xI 0,.string ⟨#[]⟩,xI 0]),7,72):=by kernel_rfl
theorem sq {s t:Xb}{a b c d e:Int}:∀u∈[Value.string s,xI a,xI b,xI c,xI d,.string t,xI e],u.oneCell'=true:=by intro u g;simp at g;rcases g with rfl|rfl|rfl|rfl|rfl|rfl|rfl <;> rfl
def yq (S:Xs)(j d B:Nat)(f:St)(w:Xw)(q r s t u p:Xv)(n:Nat)(v:Xm)(e:Ending)(a:Xw):Prop :=
 ∃(g i:Xb) (c o m l h:Nat) (b:Xv),e=.returned (.tuple #[])/\PL S a j ((ix (el f n)).ac 4 [59])/\a.heap[d]?=some (.cells #[q,r,b,s,t,u] 82 (0,0)) /\
    a.ownsRow B 95 7 b (n+1) (v++[.string g,xI c,xI o,xI m,xI l,.string i,xI h])/\aa (((f.bG n).t.k=2->g=(f.bG n).t.s/\c=(f.bG n).t.a)/\o=if ((f.bG n).name.ac 4 [58]).is 5 cD=true then 1 else 0)/\aa (pG (el f n) m l i h) /\
    Fr (λk=>k=j∨k=d∨p.ownBlock=some k) w a/\aa (∀k,b.ownBlock=some k->p.ownBlock=some k∨w.heap.size<=k)
theorem ys {S:Xs}{c b B:Nat}{w a e:Xw}{s t u v x d g:Xv}{n:Nat}{z:Xm}{l o:Xb}{j r q p m:Nat}{X:Obj}
 (C:aa (((f.bG n).t.k=2->l=(f.bG n).t.s/\j=(f.bG n).t.a)/\r=if ((f.bG n).name.ac 4 [58]).is 5 cD=true then 1 else 0)) (D:pG (el f n) q p o m) (E:PL S e c ((ix (el f n)).ac 4 [59])) (i:c<b) (F:xH e b #[s,t,d,u,v,x] 82)
 (G:e.ownsRow B 95 7 g (n+1) (z++[.string l,xI j,xI r,xI q,xI p,.string o,xI m])) (H:∀k,g.ownBlock=some k->d.ownBlock=some k∨(a.alloc X).drew.heap.size<=k) (J:b<B) (_hBw:B<=w.heap.size) (y:Fr (·=c) w a) (I:Fr (λk=>d.ownBlock=some k) (a.alloc X) e) :
 yq S c b B f w s t u v x d n z (.returned (.tuple #[])) (e.setCell (xD b 2) g):=by
 have L:=y.size;refine⟨l,o,j,r,q,p,m,g,rfl,E.aU i _ _,zh _ _ _ _ F,zi G (λk h _ _=>zr (by omega) rfl),C,D,?_,?_⟩
 . have A:Fr (λk=>k=c∨k=b∨d.ownBlock=some k) w (a.alloc X):=(y.mono (λ_ _ h=>ao h)).alloc X;exact (A.dr I (λ_ _ h=>ap (ap h))).setCell (ao (ap (ao rfl))) _
 intro k K;rcases H k K with h|h
 . exact ao h
 right;have:(a.alloc X).drew.heap.size=a.heap.size+1:=by show (a.alloc X).heap.size=_;simp
 omega
theorem ID (S:Xs)(M t B:Nat)(f:St)(w:Xw)(c1 c2 c3 c4 c5 vs:Xv)(n:Nat)(xs:Xm)(hB:bU f)(dq:n<=50)(hR:PL S w M f)(H:xH w t #[c1,c2,vs,c3,c4,c5] 82)(J:w.ownsRow B 95 7 vs n xs)(ct:M<t)(T:t<B)(da:B<=w.heap.size) :
 xK 138 #[xP M,xP t] w (yq S M t B f w c1 c2 c3 c4 c5 vs n xs):=by
 obtain⟨x,cO,bl⟩:∃x cO,vs=.slice x n cO:=by
  rcases J.2 with ⟨h1,h2⟩|⟨g,cK,c9,h1,_⟩
  . exact⟨none,0,by rw[h1,h2]⟩
  exact⟨_,cK,h1⟩
 obtain⟨q0,cz,q2,q3,q4,q5,qf,c0⟩:=zt H;have dc:=hR.lt;have dp:=za hR;have dl:=za hB;rw[bl] at q2;have bs:=za (xj S M f w t x n cO hB (by omega) c0 q2 hR);have Y:=za J;have X:=za H;have A:=za (hB.Aq n);have c6:=za bl;obtain⟨m,a9⟩:∃m,el f n=m:=⟨_,rfl⟩;rw[a9] at bs A;have R:=za a9;obtain⟨i0,hi,ch,ck,cl⟩:=info_parts Tryz.tc;have mx:n+1<=maxLen:=by unfold maxLen;omega
 have ca:(n+1)*72<=140737488355328:=by omega
 clear hR hB J H a9 q0 cz q2 q3 q4 q5 qf bl;cases a5:m.is 5 cF with
 | false =>
   have ce:ix m=m:=(by unfold ix;rw[ae (by rw[a5];simp)]);have aL:=za ce;have bA:=za a5;clear a5 ce;go_enter func138,ntmps138;go_wp2_with fail;refine bs.o.mono ?_;rintro e a ⟨ns,bp,ty,rfl,a0,l,p⟩;have L:=p.size;have r:=l.lt;have I:=(p.block t c0 (by omega)).trans X.o;have a3:=za I;have ar:=za (fH S M m ⟨#[111,110]⟩ _ Zn (a.alloc (.cells #[.string ns,xI bp,xI ty,xI 0,xI 0,.string ⟨#[]⟩,xI 0] 95)) A.o.ok.tk (l.alloc _));rw[MH l.tx (by decide),bA.o] at ar;have aA:=za (zP S M m ⟨#[59]⟩ _ pH (a.alloc (.cells #[.string ns,xI bp,xI ty,xI 0,xI 0,.string ⟨#[]⟩,xI 0] 95)) A.o (l.alloc _));rw[fo l.tx (by decide)] at aA;have O:=za p;clear l p I;go_wp2_with (first|(go_at_call 72;refine ar.o.mono ?_;rintro e w' ⟨rfl,rfl⟩)|(go_at_call 134;refine aA.o.mono ?_;rintro e W ⟨rfl,F,j⟩;have cv:=j.size;have be:=(j.block a.heap.size (by rw[au];omega) (by omega)).trans (zc a _);have a6:=(j.block t (by rw[au];omega) (by omega)).trans ((mm _ _ _ (by omega)).trans a3.o);obtain⟨bE,bK,bL,bY,b0,b1,b2,b3,b4⟩:=eK be;obtain⟨q0,cz,q2,q3,q4,q5,qf,bq⟩:=zt a6;have Q:=za a6;have a4:=za be;have a1:=za F;have P:=za j;clear F j be a6));have c:=za (zi Y.o (λk h1 h2 _=>(P.o.block k (by rw[au];omega) (by omega)).trans ((mm _ _ _ (by omega)).trans (O.o.block k h2 (by omega)))));have cd:B<=W.heap.size:=(by rw[au] at cv;omega);clear ar aA bs bE bK bL bY b0 b1 b2 b3 b4;obtain⟨bE,bK,bL,bY,b0,b1,b2,b3,b4⟩:=eK a4.o
   go_region_law (
    refine zJ _ rfl (.tmp 19) (.tmp 21) 79 rfl B 95 i0 _ 7 72 underlying79 hi ch ck cl rfl (by decide) vs n xs rfl (zD (c.o) _) (xD W.heap.size 0) 1 1 [.string ns,xI bp,xI ty,xI 0,xI 0,.string ⟨#[]⟩,xI 0] rfl rfl (zN (zc W _) rfl) sq mx ca (by simp;omega) ?_;intro v' w9 d o s;obtain⟨g9,cb,rfl,cR⟩:=zM d (by omega);have q:=(Fr.gi o).cQ;have G:∀k,k<B->w9.heap[k]?=W.heap[k]?:=(λk cm=>(q.block k (by simp;omega) (λh=>by have:=(c.o.lt k h).1;omega)).trans (mm _ _ _ (by omega)));have C:=za ((G t T).trans Q.o);obtain⟨q0,cz,q2,q3,q4,q5,qf,bq⟩:=zt C.o;have a2:=za (PL.fr (a1.o.alloc _) q (λk cm=>by have:=(c.o.lt k cm).1;omega));have aV:=za q;have y:=za d;have u:=za s;clear d o s q G)
   all_goals go_wp2_with fail
   all_goals go_end0
   all_goals exact ys a0 (by rw[R.o];exact⟨λh=>(by rw[bA.o] at h;cases h),λ_=>⟨rfl,rfl,rfl,rfl⟩⟩) (by rw[R.o,aL.o];exact a2.o) ct C.o y.o u.o T (by omega) (O.o.trans ((Fr.refl _ a).alloc _ |>.trans P.o)) aV.o
 | true =>
   have ce:ix m=(aS m.ad).name:=(by unfold ix;rw[ag a5]);have aL:=za ce;have bA:=za a5;have co:m.t.k=5:=Inv.bP a5;have bx:=za (λa h=>KE S M m a A.o co h);have cA:=za A.o.ad.hb.name;clear a5 ce co;go_enter func138,ntmps138;go_wp2_with fail;refine bs.o.mono ?_;rintro e a ⟨ns,bp,ty,rfl,a0,l,p⟩;have L:=p.size;have r:=l.lt;have I:=(p.block t c0 (by omega)).trans X.o;have a3:=za I;have ar:=za (fH S M m ⟨#[111,110]⟩ _ Zn (a.alloc (.cells #[.string ns,xI bp,xI ty,xI 0,xI 0,.string ⟨#[]⟩,xI 0] 95)) A.o.ok.tk (l.alloc _));rw[MH l.tx (by decide),bA.o] at ar;have O:=za p;have cE:=za l;clear l p I;go_wp2_with (go_at_call 72;refine ar.o.mono ?_;rintro e w' ⟨rfl,rfl⟩);refine (bx.o _ (cE.o.alloc _)).mono ?_;rintro e w4 ⟨os,oa,rfl,cn,cg,D⟩;obtain⟨N,bb⟩:∃N:Nat,(if m.ad.is 5 aav=true then 2 else 1)=N:=⟨_,rfl⟩;have Z:(if m.ad.is 5 aav=true then (2:Int) else 1)=(N:Nat):=(by rw[<- bb];split <;> rfl);rw[Z];have di:=D.size;have bg:=(D.block a.heap.size (by rw[au];omega) (by omega)).trans (zc a _);have cs:=(D.block t (by rw[au];omega) (by omega)).trans ((mm _ _ _ (by omega)).trans a3.o);have cB:aa (pG m N m.t.a os oa):=⟨λ_=>⟨bb.symm,rfl,cn⟩,λh=>(by rw[bA.o] at h;cases h)⟩;obtain⟨bE,bK,bL,bY,b0,b1,b2,b3,b4⟩:=eK bg;have bB:=za cs;have bC:=za bg;have bv:=za cg;have bt:=za D;clear cg D bg cs bb Z cn;go_wp2_with fail;have U:=(((bv.o.aU (b:=a.heap.size) r 3 (xI N)).aU (b:=a.heap.size) r 4 (xI m.t.a)).aU (b:=a.heap.size) r 5 (.string os)).aU (b:=a.heap.size) r 6 (xI oa);have bk:=zh _ a.heap.size 6 (xI oa) (zh _ a.heap.size 5 (.string os) (zh _ a.heap.size 4 (xI m.t.a) (zh w4 a.heap.size 3 (xI N) bC.o)));have V:=zr (b:=a.heap.size) (i:=6) (v:=(xI oa)) (by omega:¬t=a.heap.size) (zr (b:=a.heap.size) (i:=5) (v:=.string os) (by omega:¬t=a.heap.size) (zr (b:=a.heap.size) (i:=4) (v:=(xI m.t.a)) (by omega:¬t=a.heap.size) (zr (b:=a.heap.size) (i:=3) (v:=(xI N)) (by omega:¬t=a.heap.size) bB.o)));have E:Fr (·=M) w ((((w4.setCell (xD a.heap.size 3) (xI N)).setCell (xD a.heap.size 4) (xI m.t.a)).setCell (xD a.heap.size 5) (.string os)).setCell (xD a.heap.size 6) (xI oa)):=(((((O.o.alloc _).trans bt.o).aO L _ _).aO L _ _).aO L _ _).aO L _ _;obtain⟨w5,bo⟩:∃w5,((((w4.setCell (xD a.heap.size 3) (xI N)).setCell (xD a.heap.size 4) (xI m.t.a)).setCell (xD a.heap.size 5) (.string os)).setCell (xD a.heap.size 6) (xI oa))=w5:=⟨_,rfl⟩;rw[bo] at U bk V E;have aA:=za (zP S M (aS m.ad).name ⟨#[59]⟩ _ pH w5 cA.o U);rw[fo U.tx (by decide)] at aA;refine Eq.mpr (congrArg (λz=>xK 134 _ z _) bo) ?_;refine aA.o.mono ?_;rintro e W ⟨rfl,F,j⟩;have cv:=j.size;have dk:=E.size;have K:xH w5 a.heap.size #[.string ns,xI bp,xI ty,xI N,xI m.t.a,.string os,xI oa] 95:=bk;have a4:=za ((j.block a.heap.size (ze K) (by omega)).trans K);have Q:=za ((j.block t (ze V) (by omega)).trans V);have a1:=za F;have P:=za (E.trans j);have c:=za (zi Y.o (λk h1 h2 _=>(E.trans j).block k h2 (by omega)));have cd:B<=W.heap.size:=(by omega);clear F j U bk V E bo K bE bK bL bY b0 b1 b2 b3 b4 bv bt bC bB;go_wp2_with fail;clear ar aA bs bx;obtain⟨bE,bK,bL,bY,b0,b1,b2,b3,b4⟩:=eK a4.o;obtain⟨q0,cz,q2,q3,q4,q5,qf,bq⟩:=zt Q.o
   go_region_law (
    refine zJ _ rfl (.tmp 19) (.tmp 21) 79 rfl B 95 i0 _ 7 72 underlying79 hi ch ck cl rfl (by decide) vs n xs rfl (zD (c.o) _) (xD W.heap.size 0) 1 1 [.string ns,xI bp,xI ty,xI N,xI m.t.a,.string os,xI oa] rfl rfl (zN (zc W _) rfl) sq mx ca (by simp;omega) ?_;intro v' w9 d o s;obtain⟨g9,cb,rfl,cR⟩:=zM d (by omega);have q:=(Fr.gi o).cQ;have G:∀k,k<B->w9.heap[k]?=W.heap[k]?:=(λk cm=>(q.block k (by simp;omega) (λh=>by have:=(c.o.lt k h).1;omega)).trans (mm _ _ _ (by omega)));have C:=za ((G t T).trans Q.o);obtain⟨q0,cz,q2,q3,q4,q5,qf,bq⟩:=zt C.o;have a2:=za (PL.fr (a1.o.alloc _) q (λk cm=>by have:=(c.o.lt k cm).1;omega));have aV:=za q;have y:=za d;have u:=za s;clear d o s q G)
   all_goals go_wp2_with fail
   all_goals go_end0
   all_goals exact ys a0 (by rw[R.o];exact cB.o) (by rw[R.o,aL.o];exact a2.o) ct C.o y.o u.o T (by omega) P.o aV.o
end
end Go.Proofs.YtcnelakggnfnhaaGreatDoor
