/- Part 13 of the proof. -/
import Derived.Carry
import Derived.Test.YtbicmofihhjgbaaGreatDoorK11
set_option maxRecDepth 100000
set_option maxHeartbeats 8000000
namespace Go.Proofs.YtbicmofihhjgbaaGreatDoor
open Go.Proofs.Tryz
open Go.RowKit
section
variable {N:Nat} {t:Tm} {g:Tm->Bool} {v:Xv} {w:Xw}
attribute [local go_sem ↓] Go.wp_at_zero Go.wp_at_succ
theorem IY {a:List Tm}{k:Nat}(h:a[k]?=some t):cN g (a.take (k+1))=cN g (a.take k)++bh g t:=by
 induction a generalizing k with
 | nil=>simp at h
 | cons x a b =>
   cases k with
   | zero=>simp at h;subst h;simp[cN]
   | succ k => simp at h;rw[cI,cI,cN,cN,b h,bw]
structure p4 {σ:Type} (N:Nat) (T:Xj) (F:FuncId) (caps:Xa) (Pt:Tm->Value->Prop) (g:Tm->Bool) (ad:σ->Tm->σ) (I:σ->World->Prop):Prop where
 enters:zH F
 hT:∀k,T k->N<=k
 aq:∀s w w',I s w->xB w w'->I s w'
 sub:∀t v u x,Pt t v->u∈t.ts->Pt u x
 call:∀t v s w,TT w N t v->N<=w.heap.size->I s w->Pt t v->xK F (#[v]++caps) w (λe w'=>e=.returned (.bool (g t))/\I (ad s t) w'/\Fr T w w')
theorem TT.ptr (h:TT w N t v):∃b c d,v=xP b/\b<N/\xH w b #[xI t.k,xI t.a,.string t.s,xI t.nm,xI t.n,c] 226/\w.ownsRow 0 182 1 c d.length d/\d.length=t.ts.length/\(∀(i:Nat) (u:Tm) (x:Xv),t.ts[i]?=some u->d[i]?=some x->TT w N u x)/\(∀g,c.ownBlock=some g->g<N):=by
 cases h with
 | mk k a s p n q b c d e j f l m o=>exact⟨b,c,d,rfl,e,j,f,m,o,l⟩
theorem xN {σ:Type}{T:Xj}{F:FuncId}{r:Xa}{a1:Tm->Value->Prop}{ad:σ->Tm->σ}{I:σ->World->Prop}(hV:p4 N T F r a1 g ad I) :
 ∀(t:Tm) (v:Xv) (s:σ) (w:Xw),TT w N t v->N<=w.heap.size->I s w->a1 t v->xK 169 #[v,.func (.func F) #[] r] w (λe w'=>e=.returned (.tuple #[])/\I ((bh g t).foldl ad s) w'/\Fr T w w'):=by
 intro t;induction t using Tm.ind with
 | h G a H n p c bx =>
   intro v s w h hN bl a2;obtain⟨b,d,R,rfl,bo,y,m,P,Q,aV⟩:=h.ptr;have S:=za (hV.call _ _ s w h hN bl a2);have bp:∀(d:Xa) (w:Xw),(callFunc F d).run prog w=.ok (.enter F d) w:=hV.enters;have Y:=za hV;have a4:=za a2;have K:=za Q;have f:=za m;have bA:=za h;have Z:=za bx;have q:=za y;have J:=za aV;obtain⟨h0,h1,h2,h3,h4,h5,hf,hz⟩:=zt y;have bs:w.ownsRow 0 182 1 d R.length R:=m;obtain⟨x,be,rfl⟩:=zB m;have D:R.length=c.length:=P;rw[D] at h5 f q J;cases U:g (.mk G a H n p c) with
   | false =>
     rw[U] at S;have e:bh g (.mk G a H n p c)=[.mk G a H n p c]:=(by unfold bh;rw[U];simp);rw[e];go_enter func169,ntmps169;go_wp2_with fail;with_reducible refine S.o.mono ?_
     rintro e w1 ⟨rfl,C,l⟩;have A:=za C;have z:=za l;go_wp2_with fail;first|go_end0|refine bodyPost_ret (results_none rfl _ _ _) rfl ?_
     exact⟨rfl,A.o,z.o⟩
   | true =>
     rw[U] at S;have e:bh g (.mk G a H n p c)=.mk G a H n p c::cN g c:=(by unfold bh;rw[ag U]);rw[e];go_enter func169,ntmps169;go_wp2_with fail;with_reducible refine S.o.mono ?_
     rintro e w1 ⟨rfl,C,l⟩;have L:bV N w w1:=l.am hN Y.o.hT;have bt:=l.size;obtain⟨p0,bC,bE,p3,bK,bL,bY,b0⟩:=zt ((L b bo).trans q.o);have a3:=za L;have A:=za C;have z:=za l;go_wp2_with fail;have bk:c.length<=9223372036854775807:=by
      have:=f.o;rcases this.2 with ⟨_,h⟩|⟨g,bb,bg,hv,_,_,h3,h4,_⟩
      . omega
      unfold maxLen at h4;omega
     go_loopg [15] (c.length+1) (λj i wr=>∃k:Nat,k+j=c.length+1/\k<=c.length/\i=xI k/\aa (I ((cN g (c.take k)).foldl ad (ad s (.mk G a H n p c))) wr)/\aa (Fr T w wr));case atStart=>exact⟨0,by omega,aE _,rfl,A.o,z.o⟩
     case round =>
      obtain⟨k,bq,bB,rfl,B,o⟩:=hrel;have M:bV N w wr:=o.o.am hN Y.o.hT;have bv:=o.o.size;by_cases a0:k<c.length
      . obtain⟨t,V⟩:∃t,c[k]?=some t:=⟨_,av a0⟩;obtain⟨u,hu⟩:∃u,R[k]?=some u:=⟨_,av (by omega)⟩;have E:wr.ownsRow 0 182 1 (.slice x c.length be) c.length R:=zi f.o (λj _ _ e=>M j (J.o j e));obtain⟨g',rfl,aL⟩:=nB E hu;have O:=(K.o k t u V hu).am M;obtain⟨a9,_,_,rfl,_⟩:=O.ptr;have aA:=Y.o.sub _ _ t (xP a9) a4.o (aM V);have a6:=za (Z.o t (aM V) _ _ wr O (by omega) B.o aA);have a5:=za (IY (g:=g) V);go_wp2_with (go_at_call 169;refine a6.o.mono ?_;rintro e w2 ⟨rfl,ar,ab⟩;have X:=za ar;have W:=za (o.o.trans ab));go_roundg (gk-1);case measure=>omega
        refine⟨k+1,by omega,by omega,by go_num,?_,W.o⟩;rw[a5.o,bc];exact X.o
      have ek:k=c.length:=(by omega);subst ek;rw[List.take_length] at B;go_wp2_with fail;first|go_end0|refine bodyPost_ret (results_none rfl _ _ _) rfl ?_
      exact⟨rfl,B.o,o.o⟩
theorem TT.T4 (h:TT w N t v):∀{F:Tm},TT w N F v->t=F:=by
 induction h with
 | mk k a s nm n u b G l hN ab Z hg a1 _ aL =>
   intro F U;cases U with
   | mk k' a' s' a0 n' d b x j Y z q ar aA D =>
     have e:=Obj.cells.inj (Option.some.inj (ab.symm.trans z));have p:=e.1;simp only[Array.mk.injEq,List.cons.injEq,Value.int.injEq,Value.string.injEq,true_and,and_true,Int.ofNat_inj] at p;obtain⟨Q,P,S,y,R,f⟩:=p;subst Q P S y R f;have E:l=j:=by
      rcases Z.2 with ⟨r,V⟩|⟨g,L,M,r,_,W,h4,h5,h6,X⟩
      . rcases q.2 with ⟨c,J⟩|⟨T,m,o,c,_⟩
        . have:l.length=0:=V;have:j.length=0:=J;rw[List.eq_nil_of_length_eq_zero ‹l.length=0›,List.eq_nil_of_length_eq_zero ‹j.length=0›]
        rw[r] at c;cases c
      rcases q.2 with ⟨c,J⟩|⟨T,m,o,c,_,K,k4,a2,a3,aV⟩
      . rw[r] at c;cases c
      rw[r] at c;simp only[Value.slice.injEq,Option.some.injEq,Addr.mk.injEq,and_true] at c;obtain⟨rfl,C,rfl⟩:=c;rw[W] at K;have O:=(Obj.cells.inj (Option.some.inj K)).1;subst O;rw[<- X,<- aV,C]
     subst E;have:u=d:=by
      apply List.ext_getElem?;intro i;rcases Nat.lt_or_ge i u.length with hi|hi
      . have p:u[i]?=some u[i]:=av hi;have A:i<d.length:=(by omega);have H:d[i]?=some d[i]:=av A;have B:i<l.length:=(by omega);have I:l[i]?=some l[i]:=av B;rw[p,H];congr 1;exact aL i _ _ p I (D i _ _ H I)
      rw[List.getElem?_eq_none hi,List.getElem?_eq_none (by omega)]
     rw[this]
end
section
variable {c:Xa} {F:FuncId} {N:Nat} {T:Xj} {n:ay} {q:Qn} {d:Tm->Prop} {b:Xv} {w:Xw}
attribute [local go_sem ↓] Go.wp_at_zero Go.wp_at_succ
structure Nz (w:Xw) (N:Nat) (q:Qn) (lv b:Xv):Prop where
 own:w.ownsRow 0 117 2 lv q.ns.length (gg q.ns q.ps)
 lo:∀g,lv.ownBlock=some g->g<N
 tt:TT w N q.r b
theorem Nz.am {w':Xw}{f:Xv}(h:Nz w N q f b)(a:bV N w w'):Nz w' N q f b :=
 ⟨zi h.own (λg _ _ e=>a g (h.lo g e)),h.lo,h.tt.am a⟩
theorem j2.at:∀{e:List Qn} {a:Xm},j2 w N e a->∀{k:Nat} {q:Qn},e[k]?=some q->∃f b,a[k*3]?=some f/\a[k*3+1]?=some (xI q.a)/\a[k*3+2]?=some b/\Nz w N q f b:=by
 intro e;induction e with
 | nil=>intro a _ k q h;simp at h
 | cons y e x =>
   rintro a ⟨f,v,z,rfl,r,s,t,u⟩ k q g;cases k with
   | zero=>simp at g;subst g;exact⟨f,v,rfl,rfl,rfl,r,s,t⟩
   | succ k =>
     obtain⟨i,j,l,m,o,p⟩:=x u (by simpa using g);refine⟨i,j,?_,?_,?_,p⟩
     . rw[show (k+1)*3=k*3+1+1+1 by omega];simpa using l
     . rw[show (k+1)*3+1=k*3+1+1+1+1 by omega];simpa using m
     rw[show (k+1)*3+2=k*3+2+1+1+1 by omega];simpa using o
theorem lj {n r:Nat}{a:Xp}{l:List Qn}{o:Xm}(h:w.ownsRow 0 184 3 (.slice a n r) n o)(x:j2 w N l o){k:Nat}(m:l[k]?=some q)(A:n=l.length) :
 ∃g e b,a=some (xD g 0)/\w.cell? (xD g (k*3))=some e/\w.cell? (xD g (k*3+1))=some (xI q.a)/\w.cell? (xD g (k*3+2))=some b/\Nz w N q e b:=by
 have y:=(aB.1 m).1;obtain⟨g,p,z,_⟩:=zM h (by omega);cases z;obtain⟨e,b,s,t,u,v⟩:=x.at m;have i:=h.cells (g:=g) rfl;have f:∀j,((xD g 0):Addr).add j=⟨g,j,none⟩:=λj=>by cases j <;> simp[Addr.add]
 refine⟨g,e,b,rfl,?_,?_,?_,v⟩
 . have:=i _ _ s;rwa [f] at this
 . have:=i _ _ t;rwa [f] at this
 have:=i _ _ u;rwa [f] at this
def mu (q:Qn)(b:Xv)(t:Tm)(v:Xv):Prop:=(t=q.r/\v=b)∨cc t<cc q.r
theorem mu.sub {t:Tm}{v:Xv}(h:mu q b t v){u:Tm}(x:Xv)(f:u∈t.ts):mu q b u x:=by
 have e:cc u<cc t:=by
  cases t with
  | mk k a s g n i=>have:=mA f;simp only[cc];simp only[Tm.ts] at this;omega
 right;rcases h with ⟨rfl,_⟩|h
 . exact e
 omega
structure nX {σ:Type} (N:Nat) (T:Xj) (F:FuncId) (c:Xa) (d:Tm->Prop) (n:ay) (ad:σ->Qn->Tm->σ) (I:σ->World->Prop):Prop where
 enters:zH F
 hT:∀k,T k->N<=k
 aq:∀s w w',I s w->xB w w'->I s w'
 sub:∀t u,d t->u∈t.ts->d u
 root:∀q∈n.eqs,d q.r
 call:∀q lv b t v s w,q∈n.eqs->Nz w N q lv b->TT w N t v->mu q b t v->N<=w.heap.size->I s w->d t->xK F (#[.agg #[lv,xI q.a,b],v]++c) w (λe w'=>e=.returned (.bool true)/\I (ad s q t) w'/\Fr T w w')
theorem J2:zH 170:=λ_ _=>by kernel_rfl
theorem Jb {σ:Type}{ad:σ->Qn->Tm->σ}{I:σ->World->Prop}(g:nX N T F c d n ad I)(q:Qn)(M:q∈n.eqs)(A b:Xv)(k m:Nat)(y:¬T k)(z:¬T m)(K:N<=k) :
 p4 N T 170 #[xP k,xP m] (λt v=>d t/\mu q b t v) b8 (λs t=>ad s q t) (λs w=>I s w/\xH w k #[.func (.func F) #[] c] 229/\xH w m #[A,xI q.a,b] 184/\Nz w N q A b) where
 enters:=J2
 hT:=g.hT
 aq:=λs w P h o=>⟨g.aq s w P h.1 o,(o.block _ (ze h.2.1)).trans h.2.1,(o.block _ (ze h.2.2.1)).trans h.2.2.1,h.2.2.2.am (zm o (by have:=ze h.2.1;omega))⟩
 sub:=λt v u x h D=>⟨g.sub t u h.1 D,h.2.sub x D⟩
 call:=by
  intro t v s w hT C J r;obtain⟨l,i,j,B⟩:=J;obtain⟨Q,R,E⟩:=zu i;obtain⟨S,U,V,W,O⟩:=zL j;have G:=g.call q A b t v s w M B hT r.2 C l r.1;have L:∀(f:Xa) (w:Xw),(callFunc F f).run prog w=.ok (.enter F f) w:=g.enters;have H:=E;clear l r hT
  show Calls prog _ #[v,xP k,xP m] w _;go_enter func170,ntmps170;go_wp2_with fail;with_reducible refine G.mono ?_
  rintro e X ⟨rfl,p,a⟩;go_wp2_with fail;go_ret;exact⟨rfl,⟨p,(a.block _ E y).trans i,(a.block _ O z).trans j,B.am (a.am C g.hT)⟩,a⟩
theorem rD {σ:Type}{ad:σ->Qn->Tm->σ}{I:σ->World->Prop}(v:nX N T F c d n ad I)(O:Nat)(aV X:Xv)(xs:Xm)(s:σ)(w:Xw)(o:NT w N n O aV X xs)(hN:N<=w.heap.size)(u:∀k,T k->k<w.heap.size)(M:I s w) :
 xK 122 #[xP O,.func (.func F) #[] c] w (λe P=>e=.returned (.tuple #[])/\I (n.eqs.foldl (λs q=>(bh b8 q.r).foldl (λs t=>ad s q t) s) s) P/\Fr T w P):=by
 obtain⟨h0,h1,h2,Z,L,h5,hf,hz⟩:=zt o.aC;obtain⟨x,a0,rfl⟩:=zB o.own;have G:=v.aq s w (w.alloc (.cells #[.func (.func F) #[] c] 229)) M (zq w _);have Y:n.eqs.length<=9223372036854775807:=by
  rcases o.own.2 with ⟨_,o⟩|⟨g,R,S,hv,_,_,Z,L,_⟩
  . omega
  unfold maxLen at L;omega
 have aA:=o.lo;clear M;go_enter func122,ntmps122;go_wp2_with fail;go_loopg [11] (n.eqs.length+1) (λj i wr=>∃k:Nat,k+j=n.eqs.length+1/\k<=n.eqs.length/\i=xI k/\(I ((n.eqs.take k).foldl (λs q=>(bh b8 q.r).foldl (λs t=>ad s q t) s) s) wr)/\(xH wr w.heap.size #[.func (.func F) #[] c] 229)/\(Fr T w wr));case atStart=>exact⟨0,by omega,aE _,rfl,G,zc w _,(Fr.refl T w).alloc _⟩
 case round =>
  obtain⟨k,ar,ab,rfl,l,p,f⟩:=hrel;have A:bV N w wr:=f.am hN v.hT;have aL:=f.size;have B:=ze p;by_cases J:k<n.eqs.length
  . obtain⟨q,C⟩:∃q,n.eqs[k]?=some q:=⟨_,av J⟩;have m:=o.am A;obtain⟨g,lv,b,rfl,c0,c1,c2,y⟩:=lj m.own m.eqs C rfl;obtain⟨D,_,_,rfl,_⟩:=y.tt.ptr;obtain⟨K,H,rfl⟩:=zB y.own;have h:=Jb v q (aM C) (.slice K q.ns.length H) (xP D) w.heap.size wr.heap.size (λe=>by have:=u _ e;omega) (λe=>by have:=u _ e;omega) (by omega);have a:bV N wr (wr.alloc (.cells #[.slice K q.ns.length H,xI q.a,xP D] 184)):=λk ab=>Below.heap_alloc _ _ _ (by omega);have Q:=xN h q.r (xP D) _ (wr.alloc (.cells #[.slice K q.ns.length H,xI q.a,xP D] 184)) (y.tt.am a) (by rw[au];omega) ⟨v.aq _ _ _ l (zq wr _),(Below.heap_alloc _ _ _ B).trans p,zc wr _,y.am a⟩ ⟨v.root q (aM C),ao ⟨rfl,rfl⟩⟩;clear m y h a A;go_wp2_with (go_at_call 169;refine Q.mono ?_;rintro e w2 ⟨rfl,r,z⟩;have E:=(((f.alloc _).trans z));clear z);go_roundg (gk-1);case measure=>omega
    refine⟨k+1,by omega,by omega,by go_num,?_,r.2.1,E⟩;obtain⟨U,V⟩:=aB.1 C;rw[List.take_succ_eq_append_getElem U,V,bc];exact r.1
  have W:k=n.eqs.length:=by omega
  subst W;rw[List.take_length] at l;go_wp2_with fail;first|go_end0|refine bodyPost_ret (results_none rfl _ _ _) rfl ?_
  exact⟨rfl,l,f⟩
end
section
attribute [local go_sem ↓] Go.wp_at_zero Go.wp_at_succ
def M7 (n:Nat):Array Value:=(zK (List.replicate n 0)).toArray
theorem Qj (n c:Nat)(h:n<=c)(k:c<=3145728)(w:Xw):(Instr.makeSlice 32 (xI (n:Int)) (xI (c:Int))).run prog w=.ok (xS w.heap.size n c) (w.alloc (.cells (M7 c) 2)):=by
 obtain⟨f,e,a,b,d⟩:=info_parts Tryz.Pz;have:=run_make (P:=prog) w 32 2 f _ underlying32 e a .i64 .i64 (n:Int) (c:Int) (by omega) (by omega) (by rw[d];omega) (by omega);refine this.trans ?_;clear this;rw[b];simp only[Int.toNat_natCast,Nat.mul_one];refine congrArg (λx=>Result.ok (xS w.heap.size n c) (w.alloc (.cells x 2))) ?_;unfold M7 madeCells;apply Array.ext
 . simp[zK]
 intro j g i;simp[zK,Value.cells,Nat.mod_one]
theorem TX (w:Xw)(a b c d:Obj):((((w.alloc a).alloc b).alloc c).alloc d).drew.heap[w.heap.size]?=some a/\((((w.alloc a).alloc b).alloc c).alloc d).drew.heap[w.heap.size+1]?=some b/\((((w.alloc a).alloc b).alloc c).alloc d).drew.heap[w.heap.size+1+1]?=some c/\((((w.alloc a).alloc b).alloc c).alloc d).drew.heap[w.heap.size+1+1+1]?=some d/\Below w.heap.size w ((((w.alloc a).alloc b).alloc c).alloc d).drew:=by
 have h (w:Xw) (o:Obj) (k:Nat):(w.alloc o).heap[k]?=if k=w.heap.size then some o else w.heap[k]?:=by show (w.heap.push o)[k]?=_;rw[Array.getElem?_push]
 have e (W:Xw) (k:Nat):W.drew.heap[k]?=W.heap[k]?:=rfl;refine⟨?_,?_,?_,?_,⟨rfl,rfl,rfl,by simp[World.drew];omega,λk f=>?_⟩⟩
 all_goals
  rw[e];simp only[h,au]
 . rw[ae (by omega),ae (by omega),ae (by omega),ag trivial]
 . rw[ae (by omega),ae (by omega),ag trivial]
 . rw[ae (by omega),ag trivial]
 . rw[ag trivial]
 rw[ae (by omega),ae (by omega),ae (by omega),ae (by omega)]
theorem X8 {w W:Xw}{N m d a b g j l f:Nat}{n o p:Xv}{c:Cd}(h:CB w N m n o p c)(i:N<=w.heap.size)(q:xB w W)(r:j=c.cells.length)(s:l=c.al)
 (y:xH W d #[xP m,xS a j j,xS b l l,xS g 0 f] 138)
 (t:xH W a (M7 j) 2) (u:xH W b (M7 l) 2) (v:xH W g (M7 f) 2) (jK:f<=3145728)
 (z:w.heap.size<=d) (A:w.heap.size<=a) (B:w.heap.size<=b) (C:w.heap.size<=g) (d1:d≠a) (d2:d≠b) (d3:a≠b) (d4:g≠d) (d5:g≠a) (d6:g≠b) :
 Mc W w.heap.size d m a b n o p (xS g 0 f) c (List.replicate j 0) (List.replicate l 0) []:=by
 subst r s;have x:CB W w.heap.size m n o p c:=by have:=h.am (zm q i);exact⟨this.aC,this.xv,this.hQ,this.zA,dD this.h0 i,λk e=>dD (this.h1 k e) i,λk e=>dD (this.h2 k e) i,λk e=>dD (this.h3 k e) i,this.NF,this.NW,this.Pu,this.Pw,this.PC⟩
 refine⟨x,⟨?_,?_,?_,?_,d1,d2,d3,?_,?_,?_,q.size⟩,z,A,B,by simp,by simp⟩
 . simpa using y
 . exact t
 . exact u
 . refine⟨rfl,ap ⟨g,f,M7 f,rfl,C,v,by simp,by unfold maxLen;omega,by simp[M7,zK],by simp[zK]⟩⟩
 . intro e;cases e;exact d4 rfl
 . intro e;cases e;exact d5 rfl
 intro e;cases e;exact d6 rfl
theorem Xr (N a:Nat)(l p m:Xv)(c:Cd)(w:Xw)(H:CB w N a l p m c)(u:N<=w.heap.size) :
 xK 37 #[xP a] w (λe b=>∃r n o A,e=.returned (xP r)/\Mc b w.heap.size r a n o l p m A c c.cells (List.replicate c.al 0) []/\xB w b):=by
 obtain⟨F,G,v,y,z,I,J,K⟩:=zt H.aC;obtain⟨x,t,rfl⟩:=zB H.hQ;have C:=H.NW;have D:=H.Pu;have s:=H.Pw;have n:(0:Int)<=(c.cells.length:Int):=by omega
 have o:(0:Int)<=(c.al:Int):=by omega
 have E:(0:Int)<=(c.depth:Int):=by omega
 have L:=Qj c.cells.length c.cells.length (by omega) (by omega);have M:=Qj c.al c.al (by omega) (by omega);have O:∀w,(Instr.makeSlice 32 (xI 0) (xI (c.depth:Int))).run prog w=_:=Qj 0 c.depth (by omega) (by omega);go_enter func37,ntmps37;go_upto_region 1 with fail;go_region_held3 (λb=>b.cell? (xD a 3)=some (.slice x c.cells.length t)/\b.cell? (xD a 2)=some (xI c.al)/\b.cell? (xD a 4)=some (xI c.depth)) (first|(refine⟨?_,?_,?_⟩ <;> repeat (first|with_reducible exact v|with_reducible exact y|with_reducible exact z|with_reducible refine zg ?_|with_reducible refine zj _ ?_))|go_keep) (fail)
 all_goals
  go_wp2_with (go_at_call 34;obtain⟨f,g,h,q,i⟩:=TX w _ _ _ _;refine (Td w.heap.size _ a _ _ l _ m _ c _ _ [] _ (X8 H u i rfl rfl q (by first|exact f|exact g|exact h) (by first|exact f|exact g|exact h) (by first|exact f|exact g|exact h) s (by omega) (by omega) (by omega) (by omega) (by omega) (by omega) (by omega) (by omega) (by omega) (by omega))).mono ?_;rintro e B ⟨rfl,k,d⟩;have j:aa (xB w B):=i.trans (d.below i.size (by omega));clear d f g h q i)
 all_goals go_ret
 all_goals exact⟨_,_,_,_,rfl,k,j.o⟩
end
section
variable {a:Nat} {c:Sc} {w w':Xw}
attribute [local go_sem ↓] Go.wp_at_zero Go.wp_at_succ
theorem mh (w:Xw)(b d:Obj):((w.alloc b).alloc d).heap[w.heap.size]?=some b/\((w.alloc b).alloc d).heap[w.heap.size+1]?=some d:=by refine⟨(Below.heap_alloc _ _ _ (by simp)).trans (zc w b),?_⟩;have:=zc (w.alloc b) d;rwa [au] at this
def eD (k:Nat×Nat):Int×Int:=((k.1:Int),(k.2:Int))
def eC (c:Sc):Nat->List ((Int×Int)×Value)
 | 0=>[]
 | i+1=>eC c i++[(((i:Int),1),pr (eD (c.of i))),(((i:Int),2),pr (eD (c.of i)))]
theorem Kq (c:Sc)(n:Nat):(eC c n).length=2*n:=by
 induction n with
 | zero=>rfl
 | succ n b=>rw[eC,aP,b];simp;omega
theorem KU (c:Sc)(n:Nat):∀p∈eC c n,∃j,j<n/\p.1.1=(j:Int):=by
 induction n with
 | zero=>intro p h;simp[eC] at h
 | succ n d =>
   intro p h;rw[eC,bj] at h;rcases h with h|h
   . obtain⟨j,e,b⟩:=d p h;exact⟨j,by omega,b⟩
   simp at h;rcases h with rfl|rfl
   . exact⟨n,by omega,rfl⟩
   exact⟨n,by omega,rfl⟩
theorem yb (c:Sc)(n:Nat)(s:Int):((n:Int),s) ∉ (eC c n).map (·.1):=by intro h;obtain⟨p,d,e⟩:=List.mem_map.1 h;obtain⟨j,f,b⟩:=KU c n p d;rw[e] at b;simp at b;omega
theorem JI {κ:Type} [DecidableEq κ] (k:κ)(m:List (κ×Value)):∀l:List (κ×Value),db k (l++m)=match db k l with|some v=>some v|none=>db k m:=by
 intro l;induction l with
 | nil=>rfl
 | cons p l b =>
   rw[List.cons_append];simp only[db];split
   . rfl
   exact b
theorem JV (c:Sc)(n j s:Nat):db ((j:Int),(s:Int)) (eC c n)=if j<n/\(s=1∨s=2) then some (pr (eD (c.of j))) else none:=by
 induction n with
 | zero=>simp[eC,db]
 | succ n i =>
   rw[eC,JI,i];by_cases d:j<n
   . by_cases b:s=1∨s=2
     . rw[ag ⟨d,b⟩,ag ⟨by omega,b⟩]
     rw[ae (λe=>b e.2),ae (λe=>b e.2)];simp only[db,Prod.mk.injEq];rw[ae (by omega),ae (by omega)]
   rw[ae (λe=>d e.1)];simp only[db,Prod.mk.injEq];by_cases f:j=n
   . subst f;by_cases g:s=1
     . subst g;simp
     by_cases h:s=2
     . subst h;simp
     rw[ae (by omega),ae (by omega),ae (by omega)]
   rw[ae (by omega),ae (by omega),ae (by omega)]
theorem Jy (c:Sc)(n:Nat)(v:Xv):hL ((n:Int),1) v (eC c n)=eC c n++[(((n:Int),1),v)]:=rR (yb c n 1)
theorem Je (c:Sc)(n:Nat)(u v:Xv):hL ((n:Int),2) v (eC c n++[(((n:Int),1),u)])=eC c n++[(((n:Int),1),u),(((n:Int),2),v)]:=by
 rw[rR]
 . simp
 rw[List.map_append,bj];rintro (h|h)
 . exact yb c n 2 h
 simp at h
def dF (w:Xw)(c:Sc)(a:Nat):Prop:=fb w a pr (eC c c.nd.ak.length)
theorem dF.gh (h:dF w c a)(b:w'.heap[a]?=w.heap[a]?):dF w' c a:=fb.of h b
theorem dF.lt (h:dF w c a):a<w.heap.size:=fb.lt h
theorem dF.aq (h:dF w c a)(b:xB w w'):dF w' c a:=h.gh (b.block _ h.lt)
theorem Tryz.GQ (w:Xw):(zeroValue 198).run prog w=.ok (pr (0,0)) w:=by unfold pr;kernel_rfl
theorem JQ (c:Sc)(i:Nat)(h:¬i<c.nd.ak.length):c.of i=(0,0):=by unfold Sc.of;rw[List.getElem?_eq_none (by omega)]
theorem yn (h:dF w c a)(k:Nat×Nat) :
 (Instr.lookup 123 (.map (some a)) (pr (eD k)) false).run prog w=.ok (pr (eD (c.up k))) w:=by
 rw[rN Tryz.qe underlying123 Tryz.GQ h (eD k) false];rw[show eD k=((k.1:Int),(k.2:Int)) from rfl,JV];refine congrArg (λv=>Result.ok v w) ?_
 show Option.getD _ _=_;unfold Sc.up;by_cases b:k.2=1∨k.2=2
 . rw[ag b];by_cases d:k.1<c.nd.ak.length
   . rw[ag ⟨d,b⟩];rfl
   rw[ae (λe=>d e.1),JQ c _ d];rfl
 rw[ae (λe=>b e.2),ae b];rfl
theorem Lp (h:dF w c a)(i:Nat) :
 (Instr.lookup 123 (.map (some a)) (.agg #[xI (i:Int),xI 1]) false).run prog w=.ok (.agg #[xI ((c.of i).1:Nat),xI ((c.of i).2:Nat)]) w:=by
 have:=yn h (i,1);rw[show c.up (i,1)=c.of i from ag (ao rfl)] at this;exact this
theorem K4 (h:dF w c a)(e:Xy):(Builtin.len_ #[123] e #[.map (some a)]).run prog w=.ok (xI ((2*c.nd.ak.length:Nat):Int)) w:=by
 obtain⟨d,b,f,g⟩:=h;have i:d.size=2*c.nd.ak.length:=by have:=congrArg List.length g;rw[List.length_map,List.length_map,Kq] at this;simpa using this
 rw[<- i];have j:prog.underlying 123=some (.map (prog.mapKeyOf 123) (prog.mapElemOf 123)):=by kernel_rfl
 exact run_len_map w 123 e a d b j f
theorem jW (i:Nat)(w:Xw)(h:dF w c a) :
 xK 104 #[.map (some a),xI (i:Int)] w (λe w'=>e=.returned (.agg #[xI ((c.of i).1:Nat),xI ((c.of i).2:Nat)])/\xB w w'):=by
 have b:=λo=>Lp (h.aq (zq w o)) i;go_enter func104,ntmps104;go_wp2_with fail;refine bodyPost_ret (v:=.agg #[xI ((c.of i).1:Nat),xI ((c.of i).2:Nat)]) (by simp[results,results104,go_sem]) rfl ⟨rfl,?_⟩;exact zq w _
theorem pa {b:Nat}{e:Xy}{g i:Xv}(h:xH w b #[g,i] e)(d f:Xv):((w.setCell (xD b 0) d).setCell (xD b 1) f).heap[b]?=some (.cells #[d,f] e (0,0)) :=
 zh _ _ _ _ (zh _ _ _ _ h)
theorem Js (c:Sc)(i:Nat)(m:Nat)(k:Nat×Nat):lx c i (m+1) k=if k=(0,0) then false else if k.1=i then true else lx c i m (c.up k):=rfl
theorem Ha (i:Nat)(w:Xw)(h:dF w c a)(O:c.nd.ak.length<=1000) :
 xK 132 #[.map (some a),xI (i:Int)] w (λe w'=>e=.returned (.bool (c.jF i))/\xB w w'):=by
 have L:=jW i w h;have B:=za h;have S:=h.lt;clear h;go_enter func132,ntmps132;go_upto_region 2 with (go_at_call 104;refine L.mono ?_;rintro e q ⟨rfl,H⟩);refine zn (λW=>dF W c a/\xB w W/\xH W q.heap.size #[xI ((c.of i).1:Nat),xI ((c.of i).2:Nat)] 198) ⟨(B.o.aq H).aq (zq q _),jh H (an _) _,zc q _⟩ ?_;rintro W ⟨p,u,v⟩;have A:w.heap.size<=q.heap.size:=H.size;have z:=K4 p;have s:=za p;have r:=za u;have t:=za v;clear p u v;go_wp2_with fail;go_loopg [11] (2*c.nd.ak.length+1) (λj x wr=>∃(k:Nat) (g:Nat×Nat),k+j=2*c.nd.ak.length+1/\k<=2*c.nd.ak.length/\x=xI k/\aa (dF wr c a)/\aa (xH wr q.heap.size #[xI (g.1:Nat),xI (g.2:Nat)] 198)/\aa (c.jF i=lx c i (j-1) g)/\aa (xB w wr));case atStart=>exact⟨0,c.of i,by omega,aE _,rfl,s.o,t.o,rfl,r.o⟩
 case round =>
  clear s t r z;obtain⟨k,g,P,R,rfl,B,D,C,b⟩:=hrel;obtain⟨J,K,T,U⟩:=zp D.o;by_cases Q:k<2*c.nd.ak.length
  . obtain⟨m,rfl⟩:∃m,gk=m+1+1:=⟨gk-1-1,by omega⟩;have d:=C.o;rw[show m+1+1-1=m+1 from rfl,Js] at d;have f:=yn B.o g;unfold pr eD at f;clear C;by_cases n:g=(0,0)
    . rw[ag n] at d;subst n;have l:=za d;clear d;go_wp2_with fail;go_ret;exact⟨by rw[l.o];rfl,b.o⟩
    rw[ae n] at d;by_cases E:g.1=i
    . rw[ag E] at d;have o:(g.1:Int)=(i:Int):=(by omega);have l:=za d;clear d E;obtain⟨F,G⟩:=g;simp only[Prod.mk.injEq] at n;simp only at o D l J K f;by_cases I:(F:Int)=0;have N:¬(G:Int)=0:=(by omega);simp only[I] at f;all_goals clear n
      . go_wp2_with fail;go_ret;exact⟨by rw[l.o];rfl,b.o⟩
      go_wp2_with fail;go_ret;exact⟨by rw[l.o];rfl,b.o⟩
    rw[ae E] at d;have o:¬(g.1:Int)=(i:Int):=(by omega);have l:=za d;clear d E;have y:¬a=q.heap.size:=(by omega);obtain⟨F,G⟩:=g;simp only[Prod.mk.injEq] at n;simp only at o D l J K f;by_cases I:(F:Int)=0;have N:¬(G:Int)=0:=(by omega);simp only[I] at f;all_goals clear n
    iterate 2
     . go_wp2_with fail;go_roundg (m+1);case measure=>omega
       exact⟨k+1,c.up (F,G),by omega,by omega,by go_num,B.o.gh ((Below.heap_setCell _ _ _ _ y).trans (Below.heap_setCell _ _ _ _ y)),pa D.o _ _,l.o,zC (zC b.o A _) A _⟩
  have M:k=2*c.nd.ak.length:=by omega
  subst M;have:gk=1:=by omega
  subst this;have l:aa (c.jF i=false):=C.o;clear C;go_wp2_with fail;go_ret;exact⟨by rw[l.o];rfl,b.o⟩
end
end Go.Proofs.YtbicmofihhjgbaaGreatDoor
