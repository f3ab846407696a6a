/- Part 7 of the proof. -/
import Derived.Test.YtbicmofihhjgbaaGreatDoorK05
set_option maxRecDepth 100000
set_option maxHeartbeats 8000000
namespace Go.Proofs.YtbicmofihhjgbaaGreatDoor
open Go.Proofs.Tryz
section
variable {d j:Fn} {ak:List Vr} {f p:Nat} {c:St}
structure Nd where
 nm:ByteArray
 a:Nat
 ak:List Vr
 az:List Ex
 eqs:List ax
def zW:List UInt8:=[110,111,100,101]
def ly:List UInt8:=[118,97,114]
def en:Nat->St×List Vr->St×List Vr
 | 0,x=>x
 | f+1,x=>if x.1.er=0/\x.1.t.k=2 then en f (MN x.1 x.2) else x
def gL (d j:Fn):Nat->St×List ax->St×List ax
 | 0,x=>x
 | f+1,x=>if x.1.er=0/\x.1.is 4 [125]=false then gL d j f (zF d j x.1 x.2) else x
def bD (f:Nat)(c:St)(ak:List Vr):St×List Vr:=if c.is 5 ly=true then en f (MN c.ad ak) else (c,ak)
def St.aw (c:St):St:={ c with L:=[] }
def aT (c:St):St×List Vr :=
 let x:=bW true (c.ac 5 zW).name []
 bW false (x.1.ac 4 [45,62]) x.2
def iJ (d j:Fn)(f:Nat)(c:St):St×List ax :=
 let x:=gL d j f (zF d j (c.ac 4 [123]) [])
 (x.1.ac 4 [125],x.2)
def b9 (d j:Fn)(f:Nat)(c:St)(a:List Nd):St×List Nd :=
 if 6<=a.length then (c.aw.fail 2 c.t.a,a)
 else
  let h:=aT c.aw
  let v:=bD f h.1 h.2
  let b:=iJ d j f v.1
  (b.1,a++[⟨(c.aw.ac 5 zW).t.s,(c.aw.ac 5 zW).t.a,v.2,b.1.L,b.2⟩])
def ik (d j:Fn)(g:Nat):Nat->St×List Nd->St×List Nd
 | 0,x=>x
 | f+1,x=>if x.1.er=0/\x.1.t.k≠0 then ik d j g f (b9 d j g x.1 x.2) else x
def mY (d j:Fn)(g:Nat)(s:Xb):St×List Nd :=
 ik d j g g (b9 d j g (⟨s,zZ s 0,0,0,0,[]⟩:St) [])
theorem ai.aw (h:Inv p c):Inv 0 c.aw:=by have a:=h.ok;refine⟨⟨a.src,a.tt,a.ta,a.tn,a.op,a.er,a.at',a.tk⟩,?_,h.N7,h.kq,h.bad,h.tok⟩;simp[St.aw]
theorem RC (a:Inv p c)(h:c.er=0)(g:c.name.er=0):c.t.a+1<=c.name.t.a:=by
 by_cases b:c.t.k=2
 . have e:c.name=c.ad:=by unfold St.name;rw[ag b]
   have:=a.tok (by omega);rw[e,St.dZ h];have i:=zV c.src c.t.t a.ok.tt;simp only;omega
 have e:c.name=c.fail 2 c.t.a:=by unfold St.name;rw[ae b]
 rw[e] at g;exact absurd g (St.cy c (by omega))
theorem ai.back {a b:St}(h:ai p a b)(g:b.er=0):a.er=0:=by
 by_cases e:a.er=0
 . exact e
 exact absurd g (h.er e)
theorem Ho {i o:Bool}(h:Inv p c)(q:c.er=0)(a:(zx i o c ak).1.er=0):c.t.a+1<=(zx i o c ak).1.t.a:=by
 unfold zx at a ⊢;split
 . rename_i l
   rw[ag l] at a;exact absurd a (St.cy c (by omega))
 rename_i l
 rw[ae l] at a;have r:=ai.name h;have e:=ai.ac r.af 4 [58];have g:=ai.type e.af;simp only at a ⊢;split
 . rename_i k
   rw[ag k] at a;have m:=ai.ad g.af;have n:=ai.hb m.af;have s:=ai.name n.af;have b:=(((e.trans g).trans m).trans n).trans s;exact aJ (RC h q (b.back a)) b.ta
 rename_i k
 rw[ae k] at a;have b:=e.trans g;exact aJ (RC h q (b.back a)) b.ta
theorem yB (b:Inv p c)(g:c.er=0)(h:(MN c ak).1.er=0):c.t.a+1<=(MN c ak).1.t.a:=by have e:=jX (i:=false) (o:=false) (ak:=ak) b;have a:=ai.ac e.1.af 4 [59];exact aJ (Ho b g (a.back h)) a.ta
theorem I7 (a:Inv p c)(l:c.er=0)(e:(aZ c).st.er=0):c.t.a+1<=(aZ c).st.t.a:=by
 unfold aZ at e ⊢;split
 . rename_i b
   rw[ag b] at e;have s:=Inv.bP b;have o:c.t.a+1<=c.ad.t.a:=(by have:=a.tok (by omega);rw[St.dZ l];have r:=zV c.src c.t.t a.ok.tt;simp only;omega);have m:=ai.ad a;have g:=ai.name m.af;have h:=ai.ac g.af 4 [44];have i:=ai.name h.af;have k:=o9 1300 p (hq c) i.af;have n:=ai.ac k.1.af 4 [41];have q:=(((g.trans h).trans i).trans k.1).trans n;exact aJ o q.ta
 rename_i b
 rw[ae b] at e;exact RC a l e
theorem xL (a:zv 17 d)(b:zv 18 j){eqs:List ax}(g:Inv p c)(o:c.op=0)(m:c.er=0)(q:(zF d j c eqs).1.er=0):c.t.a+1<=(zF d j c eqs).1.t.a:=by
 have h:=nN g;have e:=ai.ac h.1.af 4 [61];have r:((aZ c).st.ac 4 [61]).op=0:=by rw[St.a8,h.2.1,o]
 have i:=pj a b (many:=c.is 4 [40]) e.af r (λn=>aJ (yr g n) e.ta);have l:=ai.ac i.1.af 4 [59];have k:=(e.trans i.1).trans l;exact aJ (I7 g m (k.back q)) k.ta
theorem Hh:∀(f p:Nat) (x:St×List Vr),Inv p x.1->ai p x.1 (en f x).1/\(en f x).1.op=x.1.op/\(en f x).1.L=x.1.L:=by
 intro f;induction f with
 | zero=>intro p x b;exact⟨ai.refl b,rfl,rfl⟩
 | succ f h =>
   intro p x b
   show ai p x.1 (if _ then _ else x).1/\(if _ then _ else x).1.op=x.1.op/\(if _ then _ else x).1.L=x.1.L;by_cases g:x.1.er=0/\x.1.t.k=2
   . rw[ag g];have a:=mn (ak:=x.2) b;have e:=h p _ a.1.af;exact⟨a.1.trans e.1,e.2.1.trans a.2.1,e.2.2.trans a.2.2⟩
   rw[ae g];exact⟨ai.refl b,rfl,rfl⟩
theorem xw (e:zv 17 d)(g:zv 18 j):∀(f p:Nat) (x:St×List ax),Inv p x.1->x.1.op=0->ai p x.1 (gL d j f x).1/\(gL d j f x).1.op=0:=by
 intro f;induction f with
 | zero=>intro p x b a;exact⟨ai.refl b,a⟩
 | succ f l =>
   intro p x b a
   show ai p x.1 (if _ then _ else x).1/\(if _ then _ else x).1.op=0;by_cases k:x.1.er=0/\x.1.is 4 [125]=false
   . rw[ag k];have h:=gD e g (eqs:=x.2) b a;have i:=l p _ h.1.af (h.2.trans a);exact⟨h.1.trans i.1,i.2⟩
   rw[ae k];exact⟨ai.refl b,a⟩
theorem kM (g:Inv p c):ai p c (bD f c ak).1/\(bD f c ak).1.op=c.op/\(bD f c ak).1.L=c.L:=by
 unfold bD;split
 . have e:=ai.ad g;have a:=mn (ak:=ak) e.af;have b:=Hh f p _ a.1.af;exact⟨(e.trans a.1).trans b.1,b.2.1.trans (a.2.1.trans (St.bQ _)),b.2.2.trans (a.2.2.trans (St.bu _))⟩
 exact⟨ai.refl g,rfl,rfl⟩
theorem mz (k:Inv p c):ai p c (aT c).1/\(aT c).1.op=c.op/\(aT c).1.L=c.L:=by
 have e:=ai.ac k 5 zW;have g:=ai.name e.af;have a:=kH (i:=true) (ak:=[]) g.af;have h:=ai.ac a.1.af 4 [45,62];have b:=kH (i:=false) (ak:=(bW true (c.ac 5 zW).name []).2) h.af;refine⟨(((e.trans g).trans a.1).trans h).trans b.1,?_,?_⟩
 . show (bW false ((bW true (c.ac 5 zW).name []).1.ac 4 [45,62]) (bW true (c.ac 5 zW).name []).2).1.op=_;rw[b.2.1,St.a8,a.2.1,St.dB,St.a8]
 show (bW false ((bW true (c.ac 5 zW).name []).1.ac 4 [45,62]) (bW true (c.ac 5 zW).name []).2).1.L=_;rw[b.2.2,St.bi,a.2.2,St.c8,St.bi]
theorem I6 (a:zv 17 d)(b:zv 18 j)(l:Inv p c)(i:c.op=0):ai p c (iJ d j f c).1/\(iJ d j f c).1.op=0:=by
 have h:=ai.ac l 4 [123];have e:=gD a b (eqs:=[]) h.af (by rw[St.a8,i]);have g:=xw a b f p _ e.1.af (by rw[e.2,St.a8,i]);have k:=ai.ac g.1.af 4 [125];refine⟨((h.trans e.1).trans g.1).trans k,?_⟩
 show ((gL d j f (zF d j (c.ac 4 [123]) [])).1.ac 4 [125]).op=0;rw[St.a8,g.2]
theorem RW (i:zv 17 d)(k:zv 18 j){nodes:List Nd}(q:Inv p c)(r:c.op=0):Inv 0 (b9 d j f c nodes).1/\(b9 d j f c nodes).1.op=0/\c.t.a<=(b9 d j f c nodes).1.t.a/\(c.er≠0->(b9 d j f c nodes).1.er≠0):=by
 have n:=ai.aw q;have s:c.aw.t.a=c.t.a:=rfl;have g:c.aw.er=c.er:=rfl;have h:c.aw.op=0:=r;unfold b9;split
 . have b:=ai.fail n (e:=2) (a:=c.t.a) (by omega) (by omega) q.ok.bR;exact⟨b.af,by rw[St.jH];exact h,by have:=b.ta;simp only;omega,λe=>b.er (by rw[g];exact e)⟩
 have b:=mz n;have l:=kM (f:=f) (ak:=(aT c.aw).2) b.1.af;have o:=I6 i k (f:=f) l.1.af (by rw[l.2.1,b.2.1];exact h);have m:=(b.1.trans l.1).trans o.1;exact⟨m.af,o.2,by have:=m.ta;simp only;omega,λe=>m.er (by rw[g];exact e)⟩
end
section
structure pM (r17 r18:Fn) (f:Nat) (st:St) (x3 x5 x6:St×List Vr) (x8 R:St×List ax):Prop where
 h3:bW true (st.aw.ac 5 zW).name []=x3
 h5:bW false (x3.1.ac 4 [45,62]) x3.2=x5
 h6:bD f x5.1 x5.2=x6
 h8:zF r17 r18 (x6.1.ac 4 [123]) []=x8
 hR:gL r17 r18 f x8=R
structure sd (st:St) (x3 x5 x6:St×List Vr) (x8 R:St×List ax):Prop where
 i0:Inv 0 st.aw
 i1:Inv 0 (st.aw.ac 5 zW)
 i2:Inv 0 (st.aw.ac 5 zW).name
 i3:Inv 0 x3.1
 i4:Inv 0 (x3.1.ac 4 [45,62])
 i5:Inv 0 x5.1
 i6:Inv 0 x6.1
 i7:Inv 0 (x6.1.ac 4 [123])
 i8:Inv 0 x8.1
 iR:Inv 0 R.1
 o7:(x6.1.ac 4 [123]).op=0
 o8:x8.1.op=0
 l3:x3.1.L=(st.aw.ac 5 zW).name.L
 l5:x5.1.L=(x3.1.ac 4 [45,62]).L
 l6:x6.1.L=x5.1.L
theorem yk {g j:Fn}(a:zv 17 g)(b:zv 18 j){f p:Nat}{l:St}{o q r:St×List Vr}{m R:St×List ax}(z:Inv p l)(A:l.op=0)(h:pM g j f l o q r m R):sd l o q r m R:=by
 have t:=ai.aw z;have u:=(ai.ac t 5 zW).af;have v:=(ai.name u).af;have c:=kH (i:=true) (ak:=[]) v;rw[h.h3] at c;have w:=(ai.ac c.1.af 4 [45,62]).af;have d:=kH (i:=false) (ak:=o.2) w;rw[h.h5] at d;have e:=kM (f:=f) (ak:=q.2) d.1.af;rw[h.h6] at e;have x:=(ai.ac e.1.af 4 [123]).af;have n:(r.1.ac 4 [123]).op=0:=by rw[St.a8,e.2.1,d.2.1,St.a8,c.2.1,St.dB,St.a8];exact A
 have k:=gD a b (eqs:=[]) x n;rw[h.h8] at k;have y:m.1.op=0:=by rw[k.2,n]
 have s:=xw a b f 0 m k.1.af y;rw[h.hR] at s;exact⟨t,u,v,c.1.af,w,d.1.af,e.1.af,x,k.1.af,s.1.af,n,y,c.2.2,d.2.2,e.2.2⟩
end
end Go.Proofs.YtbicmofihhjgbaaGreatDoor
