/- Part 6 of the proof. -/
import Derived.Deep.DeepCutAuto
import Derived.Test.YtmfkofhgdjechaaGreatDoorK04
set_option maxRecDepth 100000
set_option maxHeartbeats 8000000
namespace Go.Proofs.YtmfkofhgdjechaaGreatDoor
open Go.Proofs.Tryz
section
variable {d j:Fn} {ab:List Vr} {f p:Nat} {c:St}
structure Nd where
 nm:ByteArray
 a:Nat
 ab:List Vr
 az:List Ex
 eqs:List ax
def zW:List UInt8:=[110,111,100,101]
def ly:List UInt8:=[118,97,114]
def en:Nat->St×List Vr->St×List Vr
 | 0,x=>x
 | f+1,x=>if x.1.er=0/\x.1.t.k=2 then en f (cz x.1 x.2) else x
def gL (d j:Fn):Nat->St×List ax->St×List ax
 | 0,x=>x
 | f+1,x=>if x.1.er=0/\x.1.is 4 [125]=false then gL d j f (zF d j x.1 x.2) else x
def bD (f:Nat)(c:St)(ab:List Vr):St×List Vr:=if c.is 5 ly=true then en f (cz c.ad ab) else (c,ab)
def St.aw (c:St):St:={ c with L:=[] }
def aT (c:St):St×List Vr :=
 let x:=bW true (c.ac 5 zW).name []
 bW false (x.1.ac 4 [45,62]) x.2
def iJ (d j:Fn)(f:Nat)(c:St):St×List ax :=
 let x:=gL d j f (zF d j (c.ac 4 [123]) [])
 (x.1.ac 4 [125],x.2)
def b9 (d j:Fn)(f:Nat)(c:St)(a:List Nd):St×List Nd :=
 if 6<=a.length then (c.aw.fail 2 c.t.a,a)
 else
  let h:=aT c.aw
  let v:=bD f h.1 h.2
  let b:=iJ d j f v.1
  (b.1,a++[⟨(c.aw.ac 5 zW).t.s,(c.aw.ac 5 zW).t.a,v.2,b.1.L,b.2⟩])
def ik (d j:Fn)(g:Nat):Nat->St×List Nd->St×List Nd
 | 0,x=>x
 | f+1,x=>if x.1.er=0/\x.1.t.k≠0 then ik d j g f (b9 d j g x.1 x.2) else x
def mY (d j:Fn)(g:Nat)(s:Xb):St×List Nd :=
 ik d j g g (b9 d j g (⟨s,zZ s 0,0,0,0,[]⟩:St) [])
theorem ai.aw (h:Inv p c):Inv 0 c.aw:=by have a:=h.ok;refine⟨⟨a.src,a.tt,a.ta,a.tn,a.op,a.er,a.at',a.tk⟩,?_,h.dq,h.kq,h.bad,h.tok⟩;simp[St.aw]
theorem rB (a:Inv p c)(h:c.er=0)(g:c.name.er=0):c.t.a+1<=c.name.t.a:=by
 by_cases b:c.t.k=2
 . have e:c.name=c.ad:=by unfold St.name;rw[ag b]
   have:=a.tok (by omega);rw[e,St.dZ h];have i:=zV c.src c.t.t a.ok.tt;simp only;omega
 have e:c.name=c.fail 2 c.t.a:=by unfold St.name;rw[ae b]
 rw[e] at g;exact absurd g (St.cy c (by omega))
theorem ai.back {a b:St}(h:ai p a b)(g:b.er=0):a.er=0:=by
 by_cases e:a.er=0
 . exact e
 exact absurd g (h.er e)
theorem Ho {i o:Bool}(h:Inv p c)(q:c.er=0)(a:(zx i o c ab).1.er=0):c.t.a+1<=(zx i o c ab).1.t.a:=by
 unfold zx at a ⊢;split
 . rename_i l
   rw[ag l] at a;exact absurd a (St.cy c (by omega))
 rename_i l
 rw[ae l] at a;have r:=ai.name h;have e:=ai.ac r.af 4 [58];have g:=ai.type e.af;simp only at a ⊢;split
 . rename_i k
   rw[ag k] at a;have m:=ai.ad g.af;have n:=ai.hb m.af;have s:=ai.name n.af;have b:=(((e.trans g).trans m).trans n).trans s;exact aJ (rB h q (b.back a)) b.ta
 rename_i k
 rw[ae k] at a;have b:=e.trans g;exact aJ (rB h q (b.back a)) b.ta
theorem yB (b:Inv p c)(g:c.er=0)(h:(cz c ab).1.er=0):c.t.a+1<=(cz c ab).1.t.a:=by have e:=jX (i:=false) (o:=false) (ab:=ab) b;have a:=ai.ac e.1.af 4 [59];exact aJ (Ho b g (a.back h)) a.ta
theorem I7 (a:Inv p c)(l:c.er=0)(e:(aZ c).st.er=0):c.t.a+1<=(aZ c).st.t.a:=by
 unfold aZ at e ⊢;split
 . rename_i b
   rw[ag b] at e;have s:=Inv.bP b;have o:c.t.a+1<=c.ad.t.a:=(by have:=a.tok (by omega);rw[St.dZ l];have r:=zV c.src c.t.t a.ok.tt;simp only;omega);have m:=ai.ad a;have g:=ai.name m.af;have h:=ai.ac g.af 4 [44];have i:=ai.name h.af;have k:=o9 1300 p (hq c) i.af;have n:=ai.ac k.1.af 4 [41];have q:=(((g.trans h).trans i).trans k.1).trans n;exact aJ o q.ta
 rename_i b
 rw[ae b] at e;exact rB a l e
theorem xL (a:zv 17 d)(b:zv 18 j){eqs:List ax}(g:Inv p c)(o:c.op=0)(m:c.er=0)(q:(zF d j c eqs).1.er=0):c.t.a+1<=(zF d j c eqs).1.t.a:=by
 have h:=nN g;have e:=ai.ac h.1.af 4 [61];have r:((aZ c).st.ac 4 [61]).op=0:=by rw[St.a8,h.2.1,o]
 have i:=pj a b (many:=c.is 4 [40]) e.af r (λn=>aJ (yr g n) e.ta);have l:=ai.ac i.1.af 4 [59];have k:=(e.trans i.1).trans l;exact aJ (I7 g m (k.back q)) k.ta
theorem Hh:∀(f p:Nat) (x:St×List Vr),Inv p x.1->ai p x.1 (en f x).1/\(en f x).1.op=x.1.op/\(en f x).1.L=x.1.L:=by
 intro f;induction f with
 | zero=>intro p x b;exact⟨ai.refl b,rfl,rfl⟩
 | succ f h =>
   intro p x b
   show ai p x.1 (if _ then _ else x).1/\(if _ then _ else x).1.op=x.1.op/\(if _ then _ else x).1.L=x.1.L;by_cases g:x.1.er=0/\x.1.t.k=2
   . rw[ag g];have a:=mn (ab:=x.2) b;have e:=h p _ a.1.af;exact⟨a.1.trans e.1,e.2.1.trans a.2.1,e.2.2.trans a.2.2⟩
   rw[ae g];exact⟨ai.refl b,rfl,rfl⟩
theorem xw (e:zv 17 d)(g:zv 18 j):∀(f p:Nat) (x:St×List ax),Inv p x.1->x.1.op=0->ai p x.1 (gL d j f x).1/\(gL d j f x).1.op=0:=by
 intro f;induction f with
 | zero=>intro p x b a;exact⟨ai.refl b,a⟩
 | succ f l =>
   intro p x b a
   show ai p x.1 (if _ then _ else x).1/\(if _ then _ else x).1.op=0;by_cases k:x.1.er=0/\x.1.is 4 [125]=false
   . rw[ag k];have h:=gD e g (eqs:=x.2) b a;have i:=l p _ h.1.af (h.2.trans a);exact⟨h.1.trans i.1,i.2⟩
   rw[ae k];exact⟨ai.refl b,a⟩
theorem kM (g:Inv p c):ai p c (bD f c ab).1/\(bD f c ab).1.op=c.op/\(bD f c ab).1.L=c.L:=by
 unfold bD;split
 . have e:=ai.ad g;have a:=mn (ab:=ab) e.af;have b:=Hh f p _ a.1.af;exact⟨(e.trans a.1).trans b.1,b.2.1.trans (a.2.1.trans (St.bQ _)),b.2.2.trans (a.2.2.trans (St.bu _))⟩
 exact⟨ai.refl g,rfl,rfl⟩
theorem mz (k:Inv p c):ai p c (aT c).1/\(aT c).1.op=c.op/\(aT c).1.L=c.L:=by
 have e:=ai.ac k 5 zW;have g:=ai.name e.af;have a:=kH (i:=true) (ab:=[]) g.af;have h:=ai.ac a.1.af 4 [45,62];have b:=kH (i:=false) (ab:=(bW true (c.ac 5 zW).name []).2) h.af;refine⟨(((e.trans g).trans a.1).trans h).trans b.1,?_,?_⟩
 . show (bW false ((bW true (c.ac 5 zW).name []).1.ac 4 [45,62]) (bW true (c.ac 5 zW).name []).2).1.op=_;rw[b.2.1,St.a8,a.2.1,St.dB,St.a8]
 show (bW false ((bW true (c.ac 5 zW).name []).1.ac 4 [45,62]) (bW true (c.ac 5 zW).name []).2).1.L=_;rw[b.2.2,St.bi,a.2.2,St.c8,St.bi]
theorem I6 (a:zv 17 d)(b:zv 18 j)(l:Inv p c)(i:c.op=0):ai p c (iJ d j f c).1/\(iJ d j f c).1.op=0:=by
 have h:=ai.ac l 4 [123];have e:=gD a b (eqs:=[]) h.af (by rw[St.a8,i]);have g:=xw a b f p _ e.1.af (by rw[e.2,St.a8,i]);have k:=ai.ac g.1.af 4 [125];refine⟨((h.trans e.1).trans g.1).trans k,?_⟩
 show ((gL d j f (zF d j (c.ac 4 [123]) [])).1.ac 4 [125]).op=0;rw[St.a8,g.2]
theorem n4 (i:zv 17 d)(k:zv 18 j){aA:List Nd}(q:Inv p c)(r:c.op=0):Inv 0 (b9 d j f c aA).1/\(b9 d j f c aA).1.op=0/\c.t.a<=(b9 d j f c aA).1.t.a/\(c.er≠0->(b9 d j f c aA).1.er≠0):=by
 have n:=ai.aw q;have s:c.aw.t.a=c.t.a:=rfl;have g:c.aw.er=c.er:=rfl;have h:c.aw.op=0:=r;unfold b9;split
 . have b:=ai.fail n (e:=2) (a:=c.t.a) (by omega) (by omega) q.ok.bR;exact⟨b.af,by rw[St.jH];exact h,by have:=b.ta;simp only;omega,λe=>b.er (by rw[g];exact e)⟩
 have b:=mz n;have l:=kM (f:=f) (ab:=(aT c.aw).2) b.1.af;have o:=I6 i k (f:=f) l.1.af (by rw[l.2.1,b.2.1];exact h);have m:=(b.1.trans l.1).trans o.1;exact⟨m.af,o.2,by have:=m.ta;simp only;omega,λe=>m.er (by rw[g];exact e)⟩
end
section
open Go.RowKit
variable {nm:Xb} {e:Ending} {x:List ax} {y:List Vr} {N m d:Nat} {q:Qw} {f:Rw} {r s:St} {o j:Xv} {w p t wr:Xw}
structure gV (d N:Nat) (w p:Xw):Prop where
 os:p.os=w.os
 tape:p.tape=w.tape
 output:p.output=w.output
 size:w.heap.size<=p.heap.size
 block:∀k,k<N->k≠d->p.heap[k]?=w.heap[k]?
def qE (N:Nat)(v:Xv):Prop:=∀k,v.ownBlock=some k->N<=k
theorem gV.trans {a b c:Xw}(h:gV d N a b)(k:gV d N b c):gV d N a c :=
 ⟨k.os.trans h.os,k.tape.trans h.tape,k.output.trans h.output,aJ h.size k.size,λi g l=>(k.block i g l).trans (h.block i g l)⟩
theorem gV.bA {S:Xj}(h:Fr S w p)(i:N<=w.heap.size)(a:∀k,k<N->S k->k=d):gV d N w p :=
 ⟨h.os,h.tape,h.output,h.size,λk b c=>h.block k (by omega) (λg=>c (a k b g))⟩
theorem il {a e b n:Nat}{v:Xv}{l:Xm}(h:w.ownsRow a e b v n l)(E:∀(k:Nat) (c:Xa),a<=k->xH w k c e->p.heap[k]?=w.heap[k]?):p.ownsRow a e b v n l:=by
 refine zi h (λk D _ i=>?_);rcases h.2 with ⟨z,_⟩|⟨g,B,u,z,_,A,_⟩
 . rw[z] at i;cases i
 rw[z] at i;have C:g=k:=by simpa [Value.ownBlock] using i
 rw[C] at A;exact E k u D A
structure NI (d:Nat) (w:Xw) (o:Xv) (wr:Xw) (r:St) (nm:Xb) (m:Nat) (j:Xv) (y:List Vr) (f:Rw) (q:Qw) (x:List ax):Prop where
 aL:zs wr d ⟨o,nm,m,j,q.v⟩ f r
 hM:cg wr d j y
 hO:aV wr (d+1) f r.L
 hc:eX wr d q x
 am:gV d w.heap.size w wr
 fv:qE w.heap.size j
 fx:qE w.heap.size f.v
 fq:qE w.heap.size q.v
theorem NI.fr (h:NI d w o wr r nm m j y f q x)(hF:Fr (·=d) wr t)(a:zs t d ⟨o,nm,m,j,q.v⟩ f s)(g:s.L=r.L):NI d w o t s nm m j y f q x :=
 ⟨a,h.hM.fr hF,by rw[g];exact h.hO.fr hF,h.hc.kept (λk c e i b _=>hF.block k (zA b) (by omega)),h.am.trans (gV.bA hF h.am.size (λ_ _ h=>h)),h.fv,h.fx,h.fq⟩
theorem NI.ow {g:List Vr}(h:NI d w o wr r nm m j y f q x)(D:iV d ⟨o,nm,m,j,q.v⟩ f wr s g e t)(G:s.L=r.L):e=.returned (.tuple #[])/\∃n,NI d w o t s nm m n g f q x:=by
 obtain⟨n,F,B,E,hF,C⟩:=D;have b:∀{k:Nat} {c:Xa} {e:Xy},wr.heap[k]?=some (.cells c e (0,0))->181≠e->d+1<=k->t.heap[k]?=wr.heap[k]?:=by
  intro k c e a h1 l;refine hF.block k (zA a) (λhs=>?_);rcases hs with hs|hs
  . omega
  exact hy h.hM a h1 hs
 have H:=h.am.size;refine⟨F,n,B,E,?_,?_,?_,?_,h.fx,h.fq⟩
 . rw[G];exact⟨h.hO.1,il h.hO.2.1 (λk c l a=>b a (by decide) l),λi e u v z=>il (h.hO.2.2 i e u v z) (λk c l a=>b a (by decide) l)⟩
 . refine⟨h.hc.1,il h.hc.2.1 (λk c l a=>b a (by decide) l),λi e u v z=>⟨il (h.hc.2.2 i e u v z).1 (λk c l a=>b a (by decide) l),il (h.hc.2.2 i e u v z).2 (λk c l a=>b a (by decide) l)⟩⟩
 . refine h.am.trans (gV.bA hF H (λk A hs=>?_));rcases hs with hs|hs
   . exact hs
   have:=h.fv k hs;omega
 intro k A;rcases C k A with h1|h1
 . exact h.fv k h1
 omega
theorem NI.tp {a:List ax}(h:NI d w o wr r nm m j y f q x)(z:oJ d ⟨o,nm,m,j,q.v⟩ f q wr s a e t):e=.returned (.tuple #[])/\∃b u,NI d w o t s nm m j y b u a:=by
 obtain⟨b,u,C,v,B,A,hF,i,l⟩:=z;have D:=h.am.size;refine⟨C,b,u,v,?_,B,A,?_,h.fv,?_,?_⟩
 . refine il h.hM (λk c E n=>hF.block k (zA n) (λhs=>?_));rcases hs with hs|hs|hs
   . omega
   . exact h.hO.apart n (by decide) hs
   exact hy h.hc.2.1 n (by decide) hs
 . refine h.am.trans (gV.bA hF D (λk g hs=>?_));rcases hs with hs|hs|hs
   . exact hs
   . have:=h.fx k hs;omega
   have:=h.fq k hs;omega
 . intro k g;rcases i k g with h1|h1
   . exact h.fx k h1
   omega
 intro k g;rcases l k g with h1|h1
 . exact h.fq k h1
 omega
end
section
open Go.RowKit
variable {nm:Xb} {y:List ax} {L:List Nd} {z:List Vr} {x b:Nat} {q:Qw} {m:Rw} {j:St} {r t:Xv} {w w' wr:Xw}
structure Sub where
 vs:Value
 xs:Rw
 q:Qw
structure Nw where
 v:Value
 fk:List Sub
def iU (n:Nd)(s:Sub):List Value:=[.string n.nm,xI n.a,s.vs,s.xs.v,s.q.v]
def iS:List Nd->List Sub->List Value
 | n::l,s::a=>iU n s++iS l a
 | _,_=>[]
theorem B4:∀(L:List Nd) (a:List Sub) (n:Nd) (s:Sub),L.length=a.length->iS (L++[n]) (a++[s])=iS L a++iU n s:=by
 intro L;induction L with
 | nil=>intro a n s h;cases a with
   | nil=>simp[iS]
   | cons _ _=>simp at h
 | cons d L c=>intro a n s h;cases a with
   | nil=>simp at h
   | cons e a=>simp only[List.cons_append,iS,c a n s (by simpa using h),bw]
def fu (w:Xw)(b:Nat)(n:Nw)(L:List Nd):Prop :=
 L.length=n.fk.length/\w.ownsRow (b+1) 103 5 n.v L.length (iS L n.fk) /\
  ∀(i:Nat) (d:Nd) (s:Sub),L[i]?=some d->n.fk[i]?=some s->cg w b s.vs d.ab/\aV w (b+1) s.xs d.az/\eX w b s.q d.eqs
theorem aV.A8 {L:List Ex}(h:aV w (b+1) m L)(a:∀k,b+1<=k->k<w.heap.size->w'.heap[k]?=w.heap[k]?):aV w' (b+1) m L:=h.kept a
theorem fu.am {n:Nw}(h:fu w b n L)(u:gV b w.heap.size w w'):fu w' b n L:=by have g:∀k,b+1<=k->k<w.heap.size->w'.heap[k]?=w.heap[k]?:=λk f a=>u.block k a (by omega);refine⟨h.1,zi h.2.1 (λk f a _=>g k f a),λi d s B C=>?_⟩;obtain⟨l,o,p⟩:=h.2.2 i d s B C;exact⟨zi l (λk f a _=>g k f a),o.A8 g,p.kept (λk c e v A _=>g k v (zA A))⟩
theorem NI.alloc (h:NI b w r wr j nm x t z m q y)(o:Obj):NI b w r (wr.alloc o) j nm x t z m q y :=
 h.fr ((Fr.refl _ _).alloc o) (h.aL.alloc o) rfl
theorem NI.BC (h:NI b w r wr j nm x t z m q y)(a:Xb):NI b w r (wr.setCell (xD b 10) (.string a)) j a x t z m q y:=by have hF:Fr (·=b) wr (wr.setCell (xD b 10) (.string a)):=(Fr.refl _ _).aY _ _;exact⟨h.aL.tz a,h.hM.fr hF,h.hO.fr hF,h.hc.kept (λk c e f d _=>hF.block k (zA d) (by omega)),h.am.trans (gV.bA hF h.am.size (λ_ _ h=>h)),h.fv,h.fx,h.fq⟩
theorem NI.setAt (h:NI b w r wr j nm x t z m q y)(a:Nat):NI b w r (wr.setCell (xD b 11) (xI a)) j nm a t z m q y:=by have hF:Fr (·=b) wr (wr.setCell (xD b 11) (xI a)):=(Fr.refl _ _).aY _ _;exact⟨h.aL.ty a,h.hM.fr hF,h.hO.fr hF,h.hc.kept (λk c e f d _=>hF.block k (zA d) (by omega)),h.am.trans (gV.bA hF h.am.size (λ_ _ h=>h)),h.fv,h.fx,h.fq⟩
theorem NI.start {F:Fx}(h:zs w b F m j):NI b w F.aA (((((w.setCell (xD b 10) (.string ⟨#[]⟩)).setCell (xD b 11) (xI 0)).setCell (xD b 12) (.slice none 0 0)).setCell (xD b 13) (.slice none 0 0)).setCell (xD b 14) (.slice none 0 0)) j.aw ⟨#[]⟩ 0 (.slice none 0 0) [] ⟨.slice none 0 0,[]⟩ ⟨.slice none 0 0,[]⟩ []:=by have hF:Fr (·=b) w (((((w.setCell (xD b 10) (.string ⟨#[]⟩)).setCell (xD b 11) (xI 0)).setCell (xD b 12) (.slice none 0 0)).setCell (xD b 13) (.slice none 0 0)).setCell (xD b 14) (.slice none 0 0)):=(((((Fr.refl _ w).aY _ _).aY _ _).aY _ _).aY _ _).aY _ _;refine⟨((((h.tz ⟨#[]⟩).ty 0).tB (.slice none 0 0)).tC (.slice none 0 0) []).tA (.slice none 0 0),World.ownsRow_nil _ _ _ _,⟨rfl,World.ownsRow_nil _ _ _ _,λi e v c=>by simp[St.aw] at c⟩,⟨rfl,World.ownsRow_nil _ _ _ _,λi e v c=>by simp at c⟩,gV.bA hF (an _) (λ_ _ h=>h),(λk a=>by cases a),(λk a=>by cases a),(λk a=>by cases a)⟩
def qH (b:Nat)(n:Nw)(w:Xw)(c:St)(g:List Nd)(e:Ending)(w':Xw):Prop :=
 ∃(f:Fx) (d:Rw) (a:Nw),e=.returned (.tuple #[])/\f.aA=a.v/\zs w' b f d c/\fu w' b a g/\Fr (λk=>k=b∨n.v.ownBlock=some k) w w'/\∀k,a.v.ownBlock=some k->n.v.ownBlock=some k∨w.heap.size<=k
theorem Tryz.AH:(prog.info? 103).map (λi=>(i.zero,i.size,i.bytes))=some (some (.agg #[.string ⟨#[]⟩,xI 0,.slice none 0 0,.slice none 0 0,.slice none 0 0]),5,96):=by kernel_rfl
theorem Ck {k l:Fn}(f:Nat)(b:Nat)(F:Fx)(m:Rw)(n:Nw)(j:St)(r:List Nd)(p:Nat)(w:Xw)(_hI:Inv p j)(i:F.aA=n.v)(B:zs w b F m j)(E:fu w b n r)(I:6<=r.length) :
 xK 148 #[xP b] w (qH b n w (b9 k l f j r).1 (b9 k l f j r).2):=by
 have H:b9 k l f j r=(j.aw.fail 2 j.t.a,r):=by unfold b9;rw[ag I]
 rw[H];have o:=za (NI.start B);obtain⟨N,X,Y,Z,h4,h5,h6,h7,h8,h9,P,Q,R,S,T⟩:=B.cells;have ak:=B.frozen;rcases E.2.1.2 with ⟨_,O⟩|⟨g,K,M,A,hg,U,v,G,_⟩
 . omega
 rw[i,A] at N;have V:(6:Int)<=(r.length:Int):=by omega
 have J:=za E;have C:=za i;clear B E _hI H A U v G I i;go_enter func148,ntmps148;go_wp2_with fail;refine (lB b _ _ j.aw _ 2 j.t.a rfl _ o.o.aL).mono ?_;rintro e W ⟨rfl,u,d⟩;have c:=o.o.fr d u (St.gd _ _ _);have s:Fr (·=b) w W:=((((((Fr.refl _ w).aY _ _).aY _ _).aY _ _).aY _ _).aY _ _).trans d;have a:=za c;have D:=za s;clear u d c s;go_wp2_with fail;exact bodyPost_ret (results_none rfl _ _ _) rfl ⟨⟨F.aA,⟨#[]⟩,0,.slice none 0 0,.slice none 0 0⟩,⟨.slice none 0 0,[]⟩,n,rfl,C.o,a.o.aL,J.o.am a.o.am,D.o.mono (λ_ _ h=>ao h),λ_ h=>ao h⟩
theorem uO {n:Nw}{f D:Xw}{Y:Xv}{C:St}{o:Xv}{B:Obj}
 (E:NI b w Y f C nm x t z m q y) (F:fu f b n L) (ak:zs D b ⟨Y,nm,x,t,q.v⟩ m C)
 (K:D.ownsRow (b+1) 103 5 o (L.length+1) (iS L n.fk++iU ⟨nm,x,z,C.L,y⟩ ⟨t,m,q⟩)) (I:(f.alloc B).drew.grownBy D n.v.ownBlock) (J:∀k,o.ownBlock=some k->n.v.ownBlock=some k∨(f.alloc B).drew.heap.size<=k) (_hlt:b<w.heap.size) :
 ∃(V:Fx) (U:Rw) (T:Nw),V.aA=T.v/\zs (D.setCell (xD b 0) o) b V U C/\fu (D.setCell (xD b 0) o) b T (L++[⟨nm,x,z,C.L,y⟩])/\Fr (λk=>k=b∨n.v.ownBlock=some k) w (D.setCell (xD b 0) o)/\∀k,T.v.ownBlock=some k->n.v.ownBlock=some k∨w.heap.size<=k:=by
 have al:=E.am.size;have p:∀{k:Nat} {c:Xa} {e:Xy},f.heap[k]?=some (.cells c e (0,0))->103≠e->b+1<=k->(D.setCell (xD b 0) o).heap[k]?=f.heap[k]?:=by intro k c e g Q v;rw[Below.heap_setCell _ _ _ _ (show k≠b by omega)];have G:(f.alloc B).drew.heap[k]?=f.heap[k]?:=Below.heap_alloc f B k (zA g);rw[I.block k (zA (G.trans g)) (λZ=>hy (ff F.2.1 B) (G.trans g) Q Z.symm),G]
 have X:∀{u:Xv} {l:List Vr},cg f b u l->cg (D.setCell (xD b 0) o) b u l:=λh=>il h (λk c v g=>p g (by decide) v);have N:∀{u:Rw} {l:List Ex},aV f (b+1) u l->aV (D.setCell (xD b 0) o) (b+1) u l:=λh=>⟨h.1,il h.2.1 (λk c v g=>p g (by decide) v),λi e u A R=>il (h.2.2 i e u A R) (λk c v g=>p g (by decide) v)⟩;have M:∀{u:Qw} {l:List ax},eX f b u l->eX (D.setCell (xD b 0) o) b u l:=λh=>⟨h.1,il h.2.1 (λk c v g=>p g (by decide) v),λi e u A R=>⟨il (h.2.2 i e u A R).1 (λk c v g=>p g (by decide) v),il (h.2.2 i e u A R).2 (λk c v g=>p g (by decide) v)⟩⟩;refine⟨⟨o,nm,x,t,q.v⟩,m,⟨o,n.fk++[⟨t,m,q⟩]⟩,rfl,ak.BD o,⟨by simp[F.1],?_,?_⟩,?_,?_⟩
 . have h:=ownsRow_setCell_below K (a:=(xD b 0)) (cf b) o;rw[<- B4 _ _ _ _ F.1] at h;simpa using h
 . intro i d s A H;simp only at H;rcases Nat.lt_or_ge i L.length with P|hge
   . rw[e9 P] at A;rw[e9 (by have:=F.1;omega)] at H;obtain⟨g1,g2,g3⟩:=F.2.2 i d s A H;exact⟨X g1,N g2,M g3⟩
   rw[e8 hge] at A;rw[e8 (by have:=F.1;omega)] at H;have W:i-L.length=0:=(by have:=(aB.1 A).1;simp at this;omega);rw[W] at A;rw[<- F.1,W] at H;simp at A H;subst A H;exact⟨X E.hM,N E.hO,M E.hc⟩
 . have Q:Fr (λk=>k=b∨n.v.ownBlock=some k) w (f.alloc B).drew:=((⟨E.am.os,E.am.tape,E.am.output,al,λk O S=>E.am.block k O (λe=>S (ao e))⟩:Fr (λk=>k=b∨n.v.ownBlock=some k) w f).alloc _).drew;have h2:Fr (λk=>k=b∨n.v.ownBlock=some k) (f.alloc B).drew D:=⟨I.os,I.tape,I.output,I.size,λk O S=>I.block k O (λe=>S (ap e.symm))⟩;exact (Q.trans h2).setCell (ao (ao rfl)) o
 intro k O;rcases J k O with h|h
 . exact ao h
 have Q:(f.alloc B).drew.heap.size=f.heap.size+1:=by show (f.heap.push B).size=_;simp
 exact ap (by omega)
end
section
variable {g j:Fn} {f:Nat} {a:St} {R e:St×List ax} {b c d:St×List Vr}
structure pM (g j:Fn) (f:Nat) (a:St) (b c d:St×List Vr) (e R:St×List ax):Prop where
 h3:bW true (a.aw.ac 5 zW).name []=b
 h5:bW false (b.1.ac 4 [45,62]) b.2=c
 h6:bD f c.1 c.2=d
 h8:zF g j (d.1.ac 4 [123]) []=e
 hR:gL g j f e=R
theorem Dl {i:List Nd}(h:pM g j f a b c d e R)(l:¬6<=i.length) :
 b9 g j f a i=(R.1.ac 4 [125],i++[⟨(a.aw.ac 5 zW).t.s,(a.aw.ac 5 zW).t.a,d.2,(R.1.ac 4 [125]).L,R.2⟩]):=by
 have k:aT a.aw=c:=by unfold aT;simp only;rw[h.h3,h.h5]
 unfold b9 iJ;rw[ae l];simp only;rw[k,h.h6,h.h8,h.hR]
structure sd (a:St) (b c d:St×List Vr) (e R:St×List ax):Prop where
 i0:Inv 0 a.aw
 i1:Inv 0 (a.aw.ac 5 zW)
 i2:Inv 0 (a.aw.ac 5 zW).name
 i3:Inv 0 b.1
 i4:Inv 0 (b.1.ac 4 [45,62])
 i5:Inv 0 c.1
 i6:Inv 0 d.1
 i7:Inv 0 (d.1.ac 4 [123])
 i8:Inv 0 e.1
 iR:Inv 0 R.1
 o7:(d.1.ac 4 [123]).op=0
 o8:e.1.op=0
 l3:b.1.L=(a.aw.ac 5 zW).name.L
 l5:c.1.L=(b.1.ac 4 [45,62]).L
 l6:d.1.L=c.1.L
theorem yk (k:zv 17 g)(l:zv 18 j){p:Nat}(z:Inv p a)(A:a.op=0)(h:pM g j f a b c d e R):sd a b c d e R:=by
 have t:=ai.aw z;have u:=(ai.ac t 5 zW).af;have v:=(ai.name u).af;have m:=kH (i:=true) (ab:=[]) v;rw[h.h3] at m;have w:=(ai.ac m.1.af 4 [45,62]).af;have n:=kH (i:=false) (ab:=b.2) w;rw[h.h5] at n;have o:=kM (f:=f) (ab:=c.2) n.1.af;rw[h.h6] at o;have x:=(ai.ac o.1.af 4 [123]).af;have r:(d.1.ac 4 [123]).op=0:=by rw[St.a8,o.2.1,n.2.1,St.a8,m.2.1,St.dB,St.a8];exact A
 have q:=gD k l (eqs:=[]) x r;rw[h.h8] at q;have y:e.1.op=0:=by rw[q.2,r]
 have s:=xw k l f 0 e q.1.af y;rw[h.hR] at s;exact⟨t,u,v,m.1.af,w,n.1.af,o.1.af,x,q.1.af,s.1.af,r,y,m.2.2,n.2.2,o.2.2⟩
end
section
open Go.RowKit
theorem vw {d:Nd}{s:Sub}(b:s.vs.oneCell'=true)(c:s.xs.v.oneCell'=true)(e:s.q.v.oneCell'=true):∀u∈iU d s,u.oneCell'=true:=by
 intro u a;simp only[iU,cC,List.not_mem_nil,or_false] at a;rcases a with rfl|rfl|rfl|rfl|rfl
 . rfl
 . rfl
 . exact b
 . exact c
 exact e
theorem DK {m o:Fn}(c1:bY 17 260 m)(S:zv 17 m)(c2:bY 18 260 o)(T:zv 18 o)(f:Nat)(gs:f=1300)(j:Nat)(F:Fx)(xs:Rw)(n:Nw)(l:St)(a:List Nd)(p:Nat)(w:Xw)(l6:Inv p l)(sg:l.op=0)(b0:F.aA=n.v)(hR:zs w j F xs l)(h2:fu w j n a)(md:¬6<=a.length)
 (x3 I H:St×List Vr) (i9 R:St×List ax) (ar:pM m o f l x3 I H i9 R) :
 xK 148 #[xP j] w (qH j n w (b9 m o f l a).1 (b9 m o f l a).2):=by
 rw[Dl ar md];have C:=yk S T l6 sg ar;have ck:=za (NI.start hR);obtain⟨rb,lv,l1,v5,l2,l3,l5,v9,wd,wf,rd,rg,ro,rp,rs⟩:=hR.cells;have rx:=hR.frozen;have fV:=hR.lt;have fx:∃lt P,n.v=.slice lt a.length P:=by
  rcases h2.2.1.2 with ⟨qs,qv⟩|⟨g,P,qr,a0,_⟩
  . exact⟨none,0,by rw[qs,qv]⟩
  exact⟨_,P,a0⟩
 obtain⟨lt,m0,a0⟩:=fx;rw[b0,a0] at rb;have sc:(a.length:Int)<6:=by omega
 have ge:a.length+1<=maxLen:=by unfold maxLen;omega
 have c0:(a.length+1)*96<=140737488355328:=by omega
 obtain⟨mp,fv,a5,a9,be⟩:=info_parts Tryz.AH;have m5:=za C.i0;have m6:=za C.i1;have m7:=za C.i2;have m8:=za C.i3;have m9:=za C.i4;have lo:=za C.i5;have na:=za C.i6;have nb:=za C.i7;have nd:=za C.i8;have ls:=za C.iR;have O7:=za C.o7;have O8:=za C.o8;have ne:=za C.l3;have nm:=za C.l5;have v4:=za C.l6;have m2:=za ar.h3;have m3:=za ar.h5;have lk:=za ar.h6;have m4:=za ar.h8;have g3:=za ar.hR;have g8:aa (i9.2.length=1):=by unfold aa;rw[<- ar.h8];unfold zF;simp
 have ln:=za h2;have ca:=za b0;have b4:=za gs;clear hR h2 l6 a0 md b0 C ar gs;go_enter func148,ntmps148;go_wp2_with fail;refine (cO j _ _ l.aw 5 5 rfl ⟨#[110,111,100,101]⟩ zW (by decide +kernel) _ m5.o.ok ck.o.aL).mono ?_;rintro e wn ⟨rfl,ds,c3⟩;have cm:=za (ck.o.fr c3 ds (St.bi _ _ _));clear ds c3;go_wp2_with fail;refine (e0 j _ _ (l.aw.ac 5 zW) _ m6.o.ok cm.o.aL).mono ?_;rintro e wp ⟨rfl,V,c4⟩;have bs:=za ((((cm.o.fr c4 V (St.c8 _)).BC (l.aw.ac 5 zW).t.s).setAt (l.aw.ac 5 zW).t.a).alloc (z8 (l.aw.ac 5 zW).t));obtain⟨os,o7,o8,pb,pe,pl,po,pp,pr,ps,hw,hN,hQ,hT,h0⟩:=V.cells;have pt:=V.frozen;have mk:=V.lt;clear V c4;go_wp2_with fail;refine (uH j _ _ (l.aw.ac 5 zW).name [] 0 _ m7.o bs.o.aL bs.o.hM true).mono ?_;rw[m2.o];intro e w0 er;obtain⟨rfl,vv,ex⟩:=bs.o.ow er ne.o;have d:=za ex;clear ex er os o7 o8 pb pe pl po pp pr ps hw hN hQ hT h0 pt;go_wp2_with fail;refine (cO j _ _ x3.1 4 4 rfl ⟨#[45,62]⟩ [45,62] (by decide +kernel) _ m8.o.ok d.o.aL).mono ?_;rintro e xv ⟨rfl,eb,c5⟩;have bt:=za (d.o.fr c5 eb (St.bi _ _ _));clear eb c5;go_wp2_with fail;refine (uH j _ _ (x3.1.ac 4 [45,62]) x3.2 0 _ m9.o bt.o.aL bt.o.hM false).mono ?_;rw[m3.o];intro e m1 z;obtain⟨rfl,b2,A⟩:=bt.o.ow z nm.o;have u:=za A;clear A z;go_wp2_with fail;refine (cb j _ _ I.1 5 5 rfl ⟨#[118,97,114]⟩ ly (by decide +kernel) _ u.o.aL).mono ?_;rintro e w' ⟨rfl,rfl⟩;go_upto_if 45 with fail;go_cut [3] (λ_ v2=>∃G,aa (NI j w F.aA v2 H.1 (l.aw.ac 5 zW).t.s (l.aw.ac 5 zW).t.a G H.2 ⟨.slice none 0 0,[]⟩ ⟨.slice none 0 0,[]⟩ []));case first =>
  cases a4:I.1.is 5 ly with
  | false => have l5:H=I:=(by have h:=lk.o;unfold bD at h;rw[ae (by rw[a4];simp)] at h;exact h.symm);subst l5;go_wp2_with fail;go_meet;exact⟨b2,u⟩
  | true =>
    have g0:aa (en f (cz I.1.ad I.2)=H):=(by have h:=lk.o;unfold bD at h;rw[ag a4] at h;exact h);have cv:=za (ai.ad lo.o).af;go_wp2_with fail;refine (dH j _ _ I.1 _ lo.o.ok u.o.aL).mono ?_;rintro e vz ⟨rfl,eq,dn⟩;have O:=za (u.o.fr dn eq (St.bu _));clear eq dn;go_wp2_with fail;refine (uA j _ _ I.1.ad I.2 0 _ cv.o O.o.aL O.o.hM).mono ?_;have h1:=mn (ab:=I.2) cv.o;have g7:=za h1.2.2;have g6:=za h1.1.af;clear h1;generalize cz I.1.ad I.2=v3 at *;intro e vG ev;obtain⟨rfl,go,a3⟩:=O.o.ow ev g7.o;have cn:=za a3;clear a3 ev;go_wp2_with fail;go_loopg [63] f (λk _ wr=>∃(x:St×List Vr) (i7:Xv),aa (en k x=H)/\rem x.1<k/\aa (Inv 0 x.1)/\aa (NI j w F.aA wr x.1 (l.aw.ac 5 zW).t.s (l.aw.ac 5 zW).t.a i7 x.2 ⟨.slice none 0 0,[]⟩ ⟨.slice none 0 0,[]⟩ []));case atStart => have gs:=b4.o;refine⟨v3,go,g0,?_,g6,cn⟩;unfold rem;split <;> omega
    case round =>
     obtain⟨x,gl,J,gc,s,t⟩:=hrel;obtain⟨no,ns,nt,nx,n1,n3,of,ok,op,or,g9,hg,hm,hu,hv⟩:=t.o.aL.cells;obtain⟨Q,rfl⟩:∃Q,gk=Q+1:=⟨gk-1,by omega⟩;by_cases bE:x.1.er=0/\x.1.t.k=2
     . have fr:((x.1.er:Int)==0)=true:=beq_iff_eq.2 (by omega);have rL:((x.1.t.k:Int)==2)=true:=beq_iff_eq.2 (by omega);have g4:=mn (ab:=x.2) s.o;have r:aa (en Q (cz x.1 x.2)=H):=by
        have h:=J.o;unfold aa;rw[<- h]
        show _=(if x.1.er=0/\x.1.t.k=2 then _ else x);rw[ag bE]
       have E:aa (rem (cz x.1 x.2).1<Q):=by
        unfold aa rem;have lv:rem x.1=1201-x.1.t.a:=(by unfold rem;rw[ag bE.1]);have l2:=g4.1.af.ok.bR;have l3:=s.o.ok.bR;split
        . rename_i h4
          have l1:=yB s.o bE.1 h4;omega
        omega
       have bl:=za g4.2.2;have bk:=za g4.1.af;have bp:=za (uA j _ _ x.1 x.2 0 wr s.o t.o.aL t.o.hM);clear bE g4 J;generalize cz x.1 x.2=y at *;go_wp2_with fail;refine bp.o.mono ?_;intro e m1 z;obtain⟨rfl,b2,A⟩:=t.o.ow z bl.o;have u:=za A;clear A z;go_wp2_with fail;go_roundg Q;case measure=>omega
       case rel=>exact⟨y,b2,r,E.out,bk,u⟩
     have r:x=H:=by
      have h:=J.o;rw[<- h]
      show x=(if x.1.er=0/\x.1.t.k=2 then _ else x);rw[ae bE]
     subst r;have bL:((x.1.er:Int)==0)=false∨(((x.1.er:Int)==0)=true/\((x.1.t.k:Int)==2)=false):=by
      by_cases he:x.1.er=0
      . exact ap ⟨beq_iff_eq.2 (by omega),bf.2 (λh=>bE ⟨he,by omega⟩)⟩
      exact ao (bf.2 (by omega))
     clear bE J;rcases bL with bL|⟨bL,rt⟩;all_goals go_wp2_with fail
     all_goals go_meet
     all_goals exact⟨gl,t⟩
 case rest =>
  obtain⟨G,cs⟩:=hcut;go_wp2_with fail;refine (cO j _ _ H.1 4 4 rfl ⟨#[123]⟩ [123] (by decide +kernel) _ na.o.ok cs.o.aL).mono ?_;rintro e xB ⟨rfl,em,c9⟩;have al:=za (cs.o.fr c9 em (St.bi _ _ _));clear em c9;go_wp2_with fail;refine (uf c1 S c2 T j _ _ ⟨.slice none 0 0,[]⟩ (H.1.ac 4 [123]) [] 0 _ nb.o O7.o (by simp) rfl al.o.aL al.o.hO al.o.hc).mono ?_;rw[m4.o];intro e xC es;obtain⟨rfl,lb,i0,fd⟩:=al.o.tp es;have g5:=za fd;clear fd es;go_wp2_with fail;go_loopg [79] f (λk _ wr=>∃(x:St×List ax) (kd:Rw) (q':Qw),aa (gL m o k x=R)/\rem x.1<k/\x.2.length+k<=2000+1300/\aa (Inv 0 x.1)/\aa (x.1.op=0)/\aa (NI j w F.aA wr x.1 (l.aw.ac 5 zW).t.s (l.aw.ac 5 zW).t.a G H.2 kd q' x.2));case atStart =>
   have gs:=b4.o;refine⟨i9,lb,i0,g3.o,?_,?_,nd.o,O8.o,g5.o⟩
   . unfold rem;split <;> omega
   have h:=g8.o;omega
  case round =>
   obtain⟨x,a2,b1,J,gc,h3,s,ak,d⟩:=hrel;obtain⟨no,ns,nt,nx,n1,n3,of,ok,op,or,g9,hg,hm,hu,hv⟩:=d.o.aL.cells;obtain⟨Q,rfl⟩:∃Q,gk=Q+1:=⟨gk-1,by omega⟩;by_cases he:x.1.er=0
   . have fr:((x.1.er:Int)==0)=true:=beq_iff_eq.2 (by omega);cases fq:x.1.is 4 [125] with
     | false =>
       have g4:=gD S T (eqs:=x.2) s.o ak.o;have r:aa (gL m o Q (zF m o x.1 x.2)=R):=by
        have h:=J.o;unfold aa;rw[<- h]
        show _=(if x.1.er=0/\x.1.is 4 [125]=false then _ else x);rw[ag ⟨he,fq⟩]
       have E:aa (rem (zF m o x.1 x.2).1<Q):=by
        unfold aa rem;have lv:rem x.1=1201-x.1.t.a:=(by unfold rem;rw[ag he]);have l2:=g4.1.af.ok.bR;have l3:=s.o.ok.bR;split
        . rename_i h4
          have l1:=xL S T s.o ak.o he h4;omega
        omega
       have bl:aa ((zF m o x.1 x.2).2.length=x.2.length+1):=(by unfold aa zF;simp);have bk:=za g4.1.af;have g2:aa ((zF m o x.1 x.2).1.op=0):=g4.2.trans ak.o;have bp:=za (uf c1 S c2 T j _ _ b1 x.1 x.2 0 wr s.o ak.o (by omega) rfl d.o.aL d.o.hO d.o.hc);clear he g4 J;generalize zF m o x.1 x.2=y at *;go_wp2_with fail;refine (cb j _ _ x.1 4 4 rfl ⟨#[125]⟩ [125] (by decide +kernel) _ d.o.aL).mono ?_;rintro e w' ⟨rfl,rfl⟩;go_wp2_with fail;refine bp.o.mono ?_;intro e m1 z;obtain⟨rfl,kw,iR,A⟩:=d.o.tp z;have u:=za A;clear A z;go_wp2_with fail;go_roundg Q;case measure=>omega
       case rel=>exact⟨y,kw,iR,r.o,E.out,by rw[bl.o];omega,bk,g2,u⟩
     | true =>
       have r:aa (R=x):=by
        have h:=J.o;unfold aa;rw[<- h]
        show (if x.1.er=0/\x.1.is 4 [125]=false then _ else x)=x;rw[ae (by rw[fq];simp)]
       clear he J;have bx:=r.o;subst bx;go_wp2_with fail;refine (cb j _ _ R.1 4 4 rfl ⟨#[125]⟩ [125] (by decide +kernel) _ d.o.aL).mono ?_;rintro e w' ⟨rfl,rfl⟩;go_wp2_with fail;refine (cO j _ _ R.1 4 4 rfl ⟨#[125]⟩ [125] (by decide +kernel) _ ls.o.ok d.o.aL).mono ?_;rintro e v0 ⟨rfl,W,U⟩;have v:=za (d.o.fr U W (St.bi _ _ _));clear W U;go_wp2_with fail;refine zn (λZ=>NI j w F.aA Z (R.1.ac 4 [125]) (l.aw.ac 5 zW).t.s (l.aw.ac 5 zW).t.a G H.2 a2 b1 R.2/\fu Z j n a) ⟨v.o,ln.o.am v.o.am⟩ ?_;rintro Z ⟨b,X⟩;obtain⟨i1,tk,tm,tn,tr,ts,tt,tx,un,up,i2,i3,i4,i5,i6⟩:=b.aL.cells;rw[ca.o] at i1;have vs:=b.aL.frozen;have Y:=b.aL.lt;have h5:=gU b.hM;have h6:=gU b.hO.2.1;have h7:=gU b.hc.2.1;have K:=za b;have D:=za X;clear b X
       go_region_law (
        refine zJ _ rfl (.tmp 87) (.tmp 92) 104 rfl (j+1) 103 mp _ 5 96 underlying104 fv a5 a9 be rfl (by decide) n.v a.length (iS a n.fk) rfl (ff D.o.2.1 _) (xD Z.heap.size 0) 1 1 (iU ⟨(l.aw.ac 5 zW).t.s,(l.aw.ac 5 zW).t.a,H.2,(R.1.ac 4 [125]).L,R.2⟩ ⟨G,a2,b1⟩) rfl rfl (zN (gx Z _) rfl) (vw h5 h6 h7) ge c0 (gw Y _) ?_;intro v' i8 q c B;have N:=za q;have M:=za B;have g1:=za c;have i:=(K.o.aL.alloc _).drew.grown c (eW D.o.2.1 (cf _));obtain⟨sh,sn,st,b1,sE,iR,s1,s2,i0,ta,h8,h9,io,ip,it⟩:=i.cells;have te:=i.frozen;have L:=za i;obtain⟨g,P,rfl,ry⟩:=zM q (by omega);clear q c i B)
       all_goals go_wp2_with fail
       all_goals go_end0
       all_goals (obtain⟨gt,b3,n2,le,z2,z3,z4,z5⟩:=uO K.o D.o L.o N.o g1.o M.o fV;exact⟨gt,b3,n2,rfl,le,z2,z3,z4,z5⟩)
   have fr:((x.1.er:Int)==0)=false:=bf.2 (by omega);have r:aa (R=x):=by
    have h:=J.o;unfold aa;rw[<- h]
    show (if x.1.er=0/\x.1.is 4 [125]=false then _ else x)=x;rw[ae (by simp[he])]
   clear he J;have bx:=r.o;subst bx;go_wp2_with fail;refine (cO j _ _ R.1 4 4 rfl ⟨#[125]⟩ [125] (by decide +kernel) _ ls.o.ok d.o.aL).mono ?_;rintro e v0 ⟨rfl,W,U⟩;have v:=za (d.o.fr U W (St.bi _ _ _));clear W U;go_wp2_with fail;refine zn (λZ=>NI j w F.aA Z (R.1.ac 4 [125]) (l.aw.ac 5 zW).t.s (l.aw.ac 5 zW).t.a G H.2 a2 b1 R.2/\fu Z j n a) ⟨v.o,ln.o.am v.o.am⟩ ?_;rintro Z ⟨b,X⟩;obtain⟨i1,tk,tm,tn,tr,ts,tt,tx,un,up,i2,i3,i4,i5,i6⟩:=b.aL.cells;rw[ca.o] at i1;have vs:=b.aL.frozen;have Y:=b.aL.lt;have h5:=gU b.hM;have h6:=gU b.hO.2.1;have h7:=gU b.hc.2.1;have K:=za b;have D:=za X;clear b X
   go_region_law (
    refine zJ _ rfl (.tmp 87) (.tmp 92) 104 rfl (j+1) 103 mp _ 5 96 underlying104 fv a5 a9 be rfl (by decide) n.v a.length (iS a n.fk) rfl (ff D.o.2.1 _) (xD Z.heap.size 0) 1 1 (iU ⟨(l.aw.ac 5 zW).t.s,(l.aw.ac 5 zW).t.a,H.2,(R.1.ac 4 [125]).L,R.2⟩ ⟨G,a2,b1⟩) rfl rfl (zN (gx Z _) rfl) (vw h5 h6 h7) ge c0 (gw Y _) ?_;intro v' i8 q c B;have N:=za q;have M:=za B;have g1:=za c;have i:=(K.o.aL.alloc _).drew.grown c (eW D.o.2.1 (cf _));obtain⟨sh,sn,st,b1,sE,iR,s1,s2,i0,ta,h8,h9,io,ip,it⟩:=i.cells;have te:=i.frozen;have L:=za i;obtain⟨g,P,rfl,ry⟩:=zM q (by omega);clear q c i B)
   all_goals go_wp2_with fail
   all_goals go_end0
   all_goals (obtain⟨gt,b3,n2,le,z2,z3,z4,z5⟩:=uO K.o D.o L.o N.o g1.o M.o fV;exact⟨gt,b3,n2,rfl,le,z2,z3,z4,z5⟩)
end
section
open Go.RowKit
variable {s:Xb} {a b:Fn}
theorem uT (j:bY 17 260 a)(h:zv 17 a)(k:bY 18 260 b)(i:zv 18 b)(f:Nat)(t:f=1300)(e:Nat)(F:Fx)(l:Rw)(n:Nw)(d:St)(c:List Nd)(p:Nat)(w:Xw)(m:Inv p d)(u:d.op=0)(g:F.aA=n.v)(q:zs w e F l d)(o:fu w e n c) :
 xK 148 #[xP e] w (qH e n w (b9 a b f d c).1 (b9 a b f d c).2):=by
 by_cases r:6<=c.length
 . exact Ck f e F l n d c p w m g q o r
 exact DK j h k i f t e F l n d c p w m u g q o r _ _ _ _ _ ⟨rfl,rfl,rfl,rfl,rfl⟩
def St.zero (s:Xb):St:=⟨s,⟨0,0,0,⟨#[]⟩,0⟩,0,0,0,[]⟩
theorem Dp (c:s.size<=1200):(St.zero s).Ok:=⟨c,aE _,an _,aE _,aE _,aE _,aE _,aE _⟩
theorem uv (s:Xb):(St.zero s).ad=⟨s,zZ s 0,0,0,0,[]⟩:=rfl
theorem pY (c:s.size<=1200):Inv 0 (⟨s,zZ s 0,0,0,0,[]⟩:St):=by have h:=zV s 0 (aE _);refine⟨⟨c,h.2.2.1,h.2.1,h.2.2.2.1,aE _,aE _,aE _,h.2.2.2.2.1⟩,?_,aE _,λ_=>aE _,λh=>absurd rfl h,h.2.2.2.2.2⟩;simp
def lV (x:St×List Nd):Nat:=if x.1.er=0 then 8-x.2.length else 0
theorem DP (a b:Fn)(f:Nat)(d:St)(c:List Nd)(e:(b9 a b f d c).1.er=0)(_h0:d.er=0):(b9 a b f d c).2.length=c.length+1/\c.length<6:=by
 unfold b9 at e ⊢;split
 . rename_i g
   rw[ag g] at e;exact absurd e (St.cy d.aw (by omega))
 exact⟨by simp,by omega⟩
theorem uV (a b:Fn)(f:Nat)(d:St)(c:List Nd)(h:c.length<=6):(b9 a b f d c).2.length<=6:=by
 unfold b9;split
 . exact h
 simp;omega
def Ei (R:St×List Nd)(w:Xw)(e:Ending)(d:Xw):Prop :=
 ∃(c:Nat) (n:Nw),w.heap.size<=c/\e=.returned (.tuple #[if R.1.er=0 then n.v else .slice none 0 0,xI R.1.er,xI (if R.1.er=0 then 0 else R.1.at')])/\(R.1.er=0->fu d c n R.2)/\xB w d
theorem Ds (Q:bY 17 260 a)(m:zv 17 a)(S:bY 18 260 b)(o:zv 18 b)(f:Nat)(bL:f=1300)(s:Xb)(w:Xw)(b2:s.size<=1200){R:St×List Nd}(Y:mY a b f s=R) :
 xK 87 #[.string s] w (Ei R w):=by
 have em:¬(1200<(s.size:Int)):=by omega
 have O:aa (ik a b f f (b9 a b f (St.zero s).ad [])=R):=by unfold aa;rw[uv];exact Y
 have cs:aa (Inv 0 (St.zero s).ad):=by unfold aa;rw[uv];exact pY b2
 have Z0:=za (Dp b2);have cv:zs (w.alloc (.cells #[.slice none 0 0,.string s,xI 0,xI 0,xI 0,.string ⟨#[]⟩,xI 0,xI 0,xI 0,xI 0,.string ⟨#[]⟩,xI 0,.slice none 0 0,.slice none 0 0,.slice none 0 0] 272)) w.heap.size ⟨.slice none 0 0,⟨#[]⟩,0,.slice none 0 0,.slice none 0 0⟩ ⟨.slice none 0 0,[]⟩ (St.zero s):=zc w _;have a9:=za cv;have u:=za bL;clear cv Y bL b2;go_enter func87,ntmps87;go_wp2_with fail;refine (dH w.heap.size _ _ (St.zero s) _ Z0.o a9.o).mono ?_;rintro e b3 ⟨rfl,V,U⟩;have K:=za V;have T:xB w b3:=by have h1:Fr (λ_=>False) w (w.alloc (.cells #[.slice none 0 0,.string s,xI 0,xI 0,xI 0,.string ⟨#[]⟩,xI 0,xI 0,xI 0,xI 0,.string ⟨#[]⟩,xI 0,.slice none 0 0,.slice none 0 0,.slice none 0 0] 272)):=(Fr.refl _ w).alloc _;have h:=h1.dr U (λi gl h=>by omega);exact⟨h.os,h.tape,h.output,h.size,λk j=>h.block k j (λh=>h)⟩
 have t:=za T;have N1:aa (fu b3 w.heap.size ⟨.slice none 0 0,[]⟩ []):=⟨rfl,World.ownsRow_nil _ _ _ _,λi d s eb=>by simp at eb⟩;clear V U T;obtain⟨x0,a0⟩:∃x,b9 a b f (St.zero s).ad []=x:=⟨_,rfl⟩;have a3:=n4 m o (f:=f) (aA:=[]) cs.o rfl;have M:=za (uT Q m S o f u.o w.heap.size _ _ ⟨.slice none 0 0,[]⟩ (St.zero s).ad [] 0 b3 cs.o rfl rfl K.o N1.o);have cn:=za (uV a b f (St.zero s).ad [] (by simp));rw[a0] at a3 M O cn;have H:=za a3;clear a3 a0;go_wp2_with fail;refine M.o.mono ?_;rintro e b4 ⟨c1,ck,n2,rfl,al,W,B,c,bx⟩;have a4:aa (xB w b4):=by
  refine t.o.trans ⟨c.os,c.tape,c.output,c.size,λk j=>c.block k (dD j t.o.size) (λh=>?_)⟩;rcases h with h|h
  . omega
  cases h
 have bl:aa (∃(F:Fx) (xs:Rw) (n:Nw),F.aA=n.v/\zs b4 w.heap.size F xs x0.1/\fu b4 w.heap.size n x0.2/\∀k,n.v.ownBlock=some k->w.heap.size<=k):=⟨c1,ck,n2,al,W,B,λk j=>by have:=(B.2.1.lt k j).1;omega⟩;clear al W B c bx N1 K t;go_wp2_with fail;go_loopg [29] f (λk _ wr=>∃(x:St×List Nd),aa (ik a b f k x=R)/\lV x<k/\aa (x.2.length<=6)/\aa (Inv 0 x.1)/\aa (x.1.op=0)/\aa (xB w wr)/\aa (∃(F:Fx) (xs:Rw) (n:Nw),F.aA=n.v/\zs wr w.heap.size F xs x.1/\fu wr w.heap.size n x.2/\∀k,n.v.ownBlock=some k->w.heap.size<=k));case atStart => have bL:=u.o;refine⟨x0,O,?_,cn.o,za H.o.1,za H.o.2.1,a4,bl⟩;unfold lV;split <;> omega
 case round =>
  obtain⟨x,a2,c0,L,J,N,l,A⟩:=hrel;obtain⟨ev,es,n3,jK,p,q,D⟩:=A.o;obtain⟨c3,ex,fd,fq,fr,fv,fx,fV,gc,ge,c4,c5,c9,dn,ds⟩:=p.cells;obtain⟨P,rfl⟩:∃P,gk=P+1:=⟨gk-1,by omega⟩;by_cases r:x.1.er=0/\x.1.t.k≠0
  . have ak:((x.1.er:Int)==0)=true:=beq_iff_eq.2 (by omega);have b0:((x.1.t.k:Int) != 0)=true:=by rw[bne_iff_ne];omega
    have g4:=n4 m o (f:=f) (aA:=x.2) J.o N.o;have z:aa (ik a b f P (b9 a b f x.1 x.2)=R):=by
     have h:=a2.o;unfold aa;rw[<- h]
     show _=(if x.1.er=0/\x.1.t.k≠0 then _ else x);rw[ag r]
    have E:aa (lV (b9 a b f x.1 x.2)<P):=by
     unfold aa lV;have h1:lV x=8-x.2.length:=(by unfold lV;rw[ag r.1]);have h7:=L.o;split
     . rename_i eq
       have h2:=DP a b f x.1 x.2 eq r.1;omega
     omega
    have bp:=za (uT Q m S o f u.o w.heap.size _ _ n3 x.1 x.2 0 wr J.o N.o jK p q);have I:=za g4;have be:=za (uV a b f x.1 x.2 L.o);have bt:=za D;clear r g4 a2 p q D jK A;generalize b9 a b f x.1 x.2=y at *;go_wp2_with fail;refine bp.o.mono ?_;rintro e ca ⟨c2,cm,er,rfl,ar,X,C,g,bE⟩;have a5:aa (xB w ca):=by
     refine l.o.trans ⟨g.os,g.tape,g.output,g.size,λk j=>g.block k (dD j l.o.size) (λh=>?_)⟩;rcases h with h|h
     . omega
     have:=bt.o k h;omega
    have bs:aa (∃(F:Fx) (xs:Rw) (n:Nw),F.aA=n.v/\zs ca w.heap.size F xs y.1/\fu ca w.heap.size n y.2/\∀k,n.v.ownBlock=some k->w.heap.size<=k):=⟨c2,cm,er,ar,X,C,λk j=>by have:=(C.2.1.lt k j).1;omega⟩;clear ar X C g bE;go_wp2_with fail;go_roundg P;case measure=>omega
    case rel=>exact⟨y,z,E.out,be,za I.o.1,za I.o.2.1,a5,bs⟩
  have z:x=R:=by
   have h:=a2.o;rw[<- h]
   show x=(if x.1.er=0/\x.1.t.k≠0 then _ else x);rw[ae r]
  subst z;have bk:=za q;clear p q D A a2;by_cases Z:x.1.er=0
  . have ak:((x.1.er:Int)==0)=true:=beq_iff_eq.2 (by omega);have b1:((x.1.er:Int) != 0)=false:=by rw[bne_eq_false_iff_eq];omega
    have b0:((x.1.t.k:Int) != 0)=false:=(by rw[bne_eq_false_iff_eq];by_cases j:x.1.t.k=0;omega;exact absurd ⟨Z,j⟩ r);have G:=za Z;rw[jK] at c3;clear r Z;go_wp2_with fail;refine bodyPost_ret (v:=.tuple #[n3.v,xI 0,xI 0]) (by simp[results,results87,go_sem]) rfl ⟨w.heap.size,n3,an _,?_,λ_=>bk.o,l.o⟩;rw[G.o];rfl
  have ak:((x.1.er:Int)==0)=false:=bf.2 (by omega);have b1:((x.1.er:Int) != 0)=true:=by rw[bne_iff_ne];omega
  have G:=za Z;clear r Z;go_wp2_with fail;go_region;all_goals go_wp2_with fail
  all_goals (refine bodyPost_ret (v:=.tuple #[.slice none 0 0,xI x.1.er,xI x.1.at']) (by simp[results,results87,go_sem]) rfl ⟨w.heap.size,n3,an _,?_,λh=>absurd h G.o,l.o.drew⟩;rw[ae G.o,ae G.o])
theorem B1 (s:Xb)(w:Xw)(f:1200<s.size) :
 xK 87 #[.string s] w (λe d=>e=.returned (.tuple #[.slice none 0 0,xI 1,xI 0])/\w=d):=by
 have c:1200<(s.size:Int):=by omega
 go_enter func87,ntmps87;go_wp2_with fail;exact bodyPost_ret (v:=.tuple #[.slice none 0 0,xI 1,xI 0]) (by simp[results,results87,go_sem]) rfl ⟨rfl,rfl⟩
end
section
variable {r17 i:Fn} {f p:Nat} {d:St} {x:St×List ax}
def bS (r17 i:Fn):Nat->St×List ax->St×List ax
 | 0,x=>x
 | f+1,x=>if x.1.t.k=2∨x.1.is 4 [40]=true then bS r17 i f (zF r17 i x.1 x.2) else x
def dy (r17 i:Fn)(f:Nat)(d:St):St×List ax :=
 let x:=bS r17 i f (zF r17 i (d.ac 4 [123]) [])
 (x.1.ac 4 [125],x.2)
def a7 (r17 i:Fn)(f:Nat)(d:St):St×Nd :=
 let h:=aT d.aw
 let v:=bD f h.1 h.2
 let b:=dy r17 i f v.1
 (b.1,⟨(d.aw.ac 5 zW).t.s,(d.aw.ac 5 zW).t.a,v.2,b.1.L,b.2⟩)
def ct (r17 i:Fn)(g:Nat):Nat->St×List Nd->St×List Nd
 | 0,x=>x
 | f+1,x=>if x.1.is 5 zW=true/\x.2.length<6 then ct r17 i g f ((a7 r17 i g x.1).1,x.2++[(a7 r17 i g x.1).2]) else x
def cW (d:St):St:=if d.t.k=0 then d else d.fail 2 d.t.a
def dm (r17 i:Fn)(g:Nat)(s:Xb):St×List Nd :=
 let a:St:=⟨s,zZ s 0,0,0,0,[]⟩
 let x:=ct r17 i g g ((a7 r17 i g a).1,[(a7 r17 i g a).2])
 (cW x.1,x.2)
def aK (a b:St):Prop:=a.er≠0->b.er=a.er/\b.at'=a.at'
theorem aK.refl (a:St):aK a a:=λ_=>⟨rfl,rfl⟩
theorem aK.trans {a b c:St}(h:aK a b)(k:aK b c):aK a c:=λe=>by obtain⟨g,j⟩:=h e;obtain⟨l,m⟩:=k (by rw[g];exact e);exact⟨l.trans g,m.trans j⟩
theorem aK.fail (d:St)(e a:Nat):aK d (d.fail e a):=λh=>by unfold St.fail;rw[ae h];exact⟨rfl,rfl⟩
theorem aK.ad (d:St):aK d d.ad:=λh=>by rw[St.tE h];exact⟨rfl,rfl⟩
theorem aK.ac (d:St)(k:Nat)(l:Xu):aK d (d.ac k l):=by
 unfold St.ac;split
 . exact aK.ad d
 exact aK.fail d _ _
theorem aK.name (d:St):aK d d.name:=by
 unfold St.name;split
 . exact aK.ad d
 exact aK.fail d _ _
theorem n0 (h:d.er=0){e a:Nat}:(d.fail e a).er=e/\(d.fail e a).at'=a:=by unfold St.fail;rw[ag h];exact⟨rfl,rfl⟩
theorem aK.right (a:zv 18 i){many:Bool}(g:Inv p d)(l:d.op=0):aK d (cx r17 i many d).1:=by
 intro b;unfold cx;split
 . have c:=ai.name g;have k:d.name.er≠0:=c.er b;have j:d.name.is 4 [40]=false:=by have:=c.af.bad k;simp[St.is,this]
   have e:a1 r17 d.t d.name=(d.name.fail 2 d.name.t.a,0):=(by unfold a1;rw[ae (by rw[j];simp)]);rw[e];exact ((aK.name d).trans (aK.fail _ _ _)) b
 have h:=(a d p g (by omega)).er b;rw[h];exact⟨rfl,rfl⟩
theorem LQ:∀(f:Nat) (x:dI),aK x.st (cX f x).st:=by
 intro f;induction f with
 | zero=>intro x;exact aK.refl _
 | succ f _ => intro x a;rw[show cX (f+1) x=if x.st.er=0/\x.st.is 4 [44]=true then cX f x.more else x from rfl,ae (λh=>a h.1)];exact⟨rfl,rfl⟩
theorem aK.left (d:St):aK d (aZ d).st:=by
 unfold aZ;split
 . have h:=LQ 1300 (hq d);have a:aK d (hq d).st:=(((aK.ad d).trans (aK.name _)).trans (aK.ac _ 4 [44])).trans (aK.name _);rw[sa rfl rfl];exact a.trans (h.trans (aK.ac _ 4 [41]))
 exact aK.name d
theorem aK.sL (b:zv 18 i)(g:Inv p d)(h:d.op=0)(a:List ax):aK d (zF r17 i d a).1:=by
 have c:=nN g;have e:=ai.ac c.1.af 4 [61];have j:((aZ d).st.ac 4 [61]).op=0:=by rw[St.a8,c.2.1,h]
 exact (((aK.left d).trans (aK.ac _ 4 [61])).trans (aK.right b e.af j)).trans (aK.ac _ 4 [59])
structure iI (a b:St):Prop where
 er:a.er=b.er
 at':a.at'=b.at'
 eq:a.er=0->a=b
theorem iI.refl (a:St):iI a a:=⟨rfl,rfl,λ_=>rfl⟩
theorem Iw (a:d.er≠0)(k:Nat)(l:Xu):(d.ac k l).er=d.er/\(d.ac k l).at'=d.at':=aK.ac d k l a
theorem HH (g:zv 18 i)(k:Inv p d)(o:d.op=0)(l:d.er=0)(m:¬d.t.k=2)(q:d.is 4 [40]=false)(b:List ax):(zF r17 i d b).1.er=2/\(zF r17 i d b).1.at'=d.t.a:=by
 have n:(aZ d).st=d.fail 2 d.t.a:=by unfold aZ;rw[ae (by rw[q];simp)];unfold St.name;rw[ae m]
 have h:=nN k;have j:=ai.ac h.1.af 4 [61];have s:((aZ d).st.ac 4 [61]).op=0:=by rw[St.a8,h.2.1,o]
 have r:=((aK.ac (aZ d).st 4 [61]).trans (aK.right (r17:=r17) (many:=d.is 4 [40]) g j.af s)).trans (aK.ac _ 4 [59]);have c:=n0 l (e:=2) (a:=d.t.a);rw[<- n] at c;have:=r (by rw[c.1];decide);exact⟨this.1.trans c.1,this.2.trans c.2⟩
theorem r8 (a:x.1.er≠0):gL r17 i f x=x:=by
 cases f with
 | zero=>rfl
 | succ f=>show (if _ then _ else x)=x;rw[ae (λh=>a h.1)]
theorem sb (b:Inv p x.1)(c:x.1.er≠0):bS r17 i f x=x:=by
 cases f with
 | zero=>rfl
 | succ f =>
   show (if _ then _ else x)=x;have a:=b.bad c;rw[ae];rintro (h|h)
   . rw[a] at h;simp at h
   simp[St.is,a] at h
theorem I5 (l:zv 17 r17)(c:zv 18 i):∀(f p:Nat) (x:St×List ax),Inv p x.1->x.1.op=0 ->
 iI ((bS r17 i f x).1.ac 4 [125]) ((gL r17 i f x).1.ac 4 [125])/\(((bS r17 i f x).1.ac 4 [125]).er=0->(bS r17 i f x).2=(gL r17 i f x).2):=by
 intro f;induction f with
 | zero=>intro p x _ _;exact⟨iI.refl _,λ_=>rfl⟩
 | succ f z =>
   intro p x n q;by_cases b:x.1.er=0
   . have s:bS r17 i (f+1) x=if x.1.t.k=2∨x.1.is 4 [40]=true then bS r17 i f (zF r17 i x.1 x.2) else x:=rfl;have t:gL r17 i (f+1) x=if x.1.er=0/\x.1.is 4 [125]=false then gL r17 i f (zF r17 i x.1 x.2) else x:=rfl;have g:=gD l c (eqs:=x.2) n q;by_cases h1:x.1.t.k=2∨x.1.is 4 [40]=true
     . have m:x.1.is 4 [125]=false:=by
        rcases h1 with h1|h1
        . simp[St.is,h1]
        cases r:x.1.is 4 [125] with
        | false=>rfl
        | true => simp only[St.is,Bool.and_eq_true,beq_iff_eq] at h1 r;have:=h1.2.symm.trans r.2;simp at this
       rw[s,t,ag h1,ag ⟨b,m⟩];exact z p _ g.1.af (g.2.trans q)
     rw[s,t,ae h1];cases m:x.1.is 4 [125] with
     | true=>rw[ae (λh=>by cases h.2)];exact⟨iI.refl _,λ_=>rfl⟩
     | false =>
       rw[ag ⟨b,rfl⟩];have v:¬x.1.t.k=2:=λh=>h1 (.inl h)
       have y:x.1.is 4 [40]=false:=by cases h:x.1.is 4 [40] with
        | false=>rfl
        | true=>exact absurd (.inr h) h1
       have o:=HH (r17:=r17) c n q b v y x.2;have j:(zF r17 i x.1 x.2).1.er≠0:=(by rw[o.1];decide);rw[r8 j];have u:=Iw j 4 [125];have w:x.1.ac 4 [125]=x.1.fail 2 x.1.t.a:=(by unfold St.ac;rw[ae (by rw[m];simp)]);have k:=n0 b (e:=2) (a:=x.1.t.a);rw[w];refine⟨⟨by rw[k.1,u.1,o.1],by rw[k.2,u.2,o.2],λh=>?_⟩,λh=>?_⟩
       . rw[k.1] at h;cases h
       rw[k.1] at h;cases h
   rw[r8 b,sb n b];exact⟨iI.refl _,λ_=>rfl⟩
end
end Go.Proofs.YtmfkofhgdjechaaGreatDoor
