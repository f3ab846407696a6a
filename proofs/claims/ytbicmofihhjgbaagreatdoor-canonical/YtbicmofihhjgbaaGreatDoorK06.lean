/- Part 7 of the proof. -/
import Derived.Test.YtbicmofihhjgbaaGreatDoorK05
set_option maxRecDepth 100000
set_option maxHeartbeats 8000000
namespace Go.Proofs.YtbicmofihhjgbaaGreatDoor
open Go.Proofs.Tryz
section
variable {r17 r18:Fn} {vars:List Vr} {f p:Nat} {st:St}
structure Nd where
 nm:ByteArray
 a:Nat
 vars:List Vr
 exs:List Ex
 eqs:List Eqn
def zW:List UInt8:=[110,111,100,101]
def zi2:List UInt8:=[118,97,114]
def zbA:Nat->St×List Vr->St×List Vr
 | 0,x=>x
 | f+1,x=>if x.1.er=0/\x.1.t.k=2 then zbA f (zaR x.1 x.2) else x
def zd6 (r17 r18:Fn):Nat->St×List Eqn->St×List Eqn
 | 0,x=>x
 | f+1,x=>if x.1.er=0/\x.1.is 4 [125]=false then zd6 r17 r18 f (zF r17 r18 x.1 x.2) else x
def zaS (f:Nat)(st:St)(vars:List Vr):St×List Vr:=if st.is 5 zi2=true then zbA f (zaR st.step vars) else (st,vars)
def St.fresh (st:St):St:={ st with L:=[] }
def zaI (st:St):St×List Vr :=
 let x:=zab true (st.must 5 zW).name []
 zab false (x.1.must 4 [45,62]) x.2
def zeO (r17 r18:Fn)(f:Nat)(st:St):St×List Eqn :=
 let x:=zd6 r17 r18 f (zF r17 r18 (st.must 4 [123]) [])
 (x.1.must 4 [125],x.2)
def zei (r17 r18:Fn)(f:Nat)(st:St)(nodes:List Nd):St×List Nd :=
 if 6<=nodes.length then (st.fresh.fail 2 st.t.a,nodes)
 else
  let h:=zaI st.fresh
  let v:=zaS f h.1 h.2
  let b:=zeO r17 r18 f v.1
  (b.1,nodes++[⟨(st.fresh.must 5 zW).t.s,(st.fresh.must 5 zW).t.a,v.2,b.1.L,b.2⟩])
def zyS (r17 r18:Fn)(g:Nat):Nat->St×List Nd->St×List Nd
 | 0,x=>x
 | f+1,x=>if x.1.er=0/\x.1.t.k≠0 then zyS r17 r18 g f (zei r17 r18 g x.1 x.2) else x
def zAP (r17 r18:Fn)(g:Nat)(s:Xb):St×List Nd :=
 zyS r17 r18 g g (zei r17 r18 g (⟨s,zZ s 0,0,0,0,[]⟩:St) [])
theorem Fwd.fresh (h:Inv p st):Inv 0 st.fresh:=by have h0:=h.ok;refine⟨⟨h0.src,h0.tt,h0.ta,h0.tn,h0.op,h0.er,h0.at',h0.tk⟩,?_,h.op1,h.op0,h.bad,h.tok⟩;simp[St.fresh]
theorem zfI (hI:Inv p st)(he:st.er=0)(hs:st.name.er=0):st.t.a+1<=st.name.t.a:=by
 by_cases hk:st.t.k=2
 . have e:st.name=st.step:=by unfold St.name;rw[zM2 hk]
   have:=hI.tok (by omega);rw[e,St.step_ok he];have hf:=zV st.src st.t.t hI.ok.tt;simp only;omega
 have e:st.name=st.fail 2 st.t.a:=by unfold St.name;rw[zM1 hk]
 rw[e] at hs;exact absurd hs (St.fail_er st (by omega))
theorem Fwd.back {a b:St}(h:Fwd p a b)(hb:b.er=0):a.er=0:=by
 by_cases he:a.er=0
 . exact he
 exact absurd hb (h.er he)
theorem zix {i o:Bool}(hI:Inv p st)(he:st.er=0)(hs:(zx i o st vars).1.er=0):st.t.a+1<=(zx i o st vars).1.t.a:=by
 unfold zx at hs ⊢;split
 . rename_i hl
   rw[zM2 hl] at hs;exact absurd hs (St.fail_er st (by omega))
 rename_i hl
 rw[zM1 hl] at hs;have h1:=Fwd.name hI;have h2:=Fwd.must h1.inv 4 [58];have h3:=Fwd.type h2.inv;simp only at hs ⊢;split
 . rename_i hc
   rw[zM2 hc] at hs;have h4:=Fwd.step h3.inv;have h5:=Fwd.nott h4.inv;have h6:=Fwd.name h5.inv;have hw:=(((h2.trans h3).trans h4).trans h5).trans h6;exact zMO (zfI hI he (hw.back hs)) hw.ta
 rename_i hc
 rw[zM1 hc] at hs;have hw:=h2.trans h3;exact zMO (zfI hI he (hw.back hs)) hw.ta
theorem zlj (hI:Inv p st)(he:st.er=0)(hs:(zaR st vars).1.er=0):st.t.a+1<=(zaR st vars).1.t.a:=by have h1:=zbI (i:=false) (o:=false) (vars:=vars) hI;have h2:=Fwd.must h1.1.inv 4 [59];exact zMO (zix hI he (h2.back hs)) h2.ta
theorem zmp (hI:Inv p st)(he:st.er=0)(hs:(zaH st).st.er=0):st.t.a+1<=(zaH st).st.t.a:=by
 unfold zaH at hs ⊢;split
 . rename_i hm
   rw[zM2 hm] at hs;have hk:=Inv.is_k hm;have h0:st.t.a+1<=st.step.t.a:=(by have:=hI.tok (by omega);rw[St.step_ok he];have hf:=zV st.src st.t.t hI.ok.tt;simp only;omega);have e1:=Fwd.step hI;have e2:=Fwd.name e1.inv;have e3:=Fwd.must e2.inv 4 [44];have e4:=Fwd.name e3.inv;have e5:=zdO 1300 p (zeh st) e4.inv;have e6:=Fwd.must e5.1.inv 4 [41];have hw:=(((e2.trans e3).trans e4).trans e5.1).trans e6;exact zMO h0 hw.ta
 rename_i hm
 rw[zM1 hm] at hs;exact zfI hI he hs
theorem ziF (g17:zv 17 r17)(g18:zv 18 r18){eqs:List Eqn}(hI:Inv p st)(ho:st.op=0)(he:st.er=0)(hs:(zF r17 r18 st eqs).1.er=0):st.t.a+1<=(zF r17 r18 st eqs).1.t.a:=by
 have h1:=zfO hI;have h2:=Fwd.must h1.1.inv 4 [61];have o2:((zaH st).st.must 4 [61]).op=0:=by rw[St.must_op,h1.2.1,ho]
 have h3:=zfx g17 g18 (many:=st.is 4 [40]) h2.inv o2 (λhm=>zMO (zkp hI hm) h2.ta);have h4:=Fwd.must h3.1.inv 4 [59];have hw:=(h2.trans h3.1).trans h4;exact zMO (zmp hI he (hw.back hs)) hw.ta
theorem ziS:∀(f p:Nat) (x:St×List Vr),Inv p x.1->Fwd p x.1 (zbA f x).1/\(zbA f x).1.op=x.1.op/\(zbA f x).1.L=x.1.L:=by
 intro f;induction f with
 | zero=>intro p x hI;exact⟨Fwd.refl hI,rfl,rfl⟩
 | succ f ih =>
   intro p x hI
   show Fwd p x.1 (if _ then _ else x).1/\(if _ then _ else x).1.op=x.1.op/\(if _ then _ else x).1.L=x.1.L;by_cases hc:x.1.er=0/\x.1.t.k=2
   . rw[zM2 hc];have h2:=zej (vars:=x.2) hI;have h3:=ih p _ h2.1.inv;exact⟨h2.1.trans h3.1,h3.2.1.trans h2.2.1,h3.2.2.trans h2.2.2⟩
   rw[zM1 hc];exact⟨Fwd.refl hI,rfl,rfl⟩
theorem zh4 (g17:zv 17 r17)(g18:zv 18 r18):∀(f p:Nat) (x:St×List Eqn),Inv p x.1->x.1.op=0->Fwd p x.1 (zd6 r17 r18 f x).1/\(zd6 r17 r18 f x).1.op=0:=by
 intro f;induction f with
 | zero=>intro p x hI ho;exact⟨Fwd.refl hI,ho⟩
 | succ f ih =>
   intro p x hI ho
   show Fwd p x.1 (if _ then _ else x).1/\(if _ then _ else x).1.op=0;by_cases hc:x.1.er=0/\x.1.is 4 [125]=false
   . rw[zM2 hc];have h2:=za1 g17 g18 (eqs:=x.2) hI ho;have h3:=ih p _ h2.1.inv (h2.2.trans ho);exact⟨h2.1.trans h3.1,h3.2⟩
   rw[zM1 hc];exact⟨Fwd.refl hI,ho⟩
theorem zeP (hI:Inv p st):Fwd p st (zaS f st vars).1/\(zaS f st vars).1.op=st.op/\(zaS f st vars).1.L=st.L:=by
 unfold zaS;split
 . have h1:=Fwd.step hI;have h2:=zej (vars:=vars) h1.inv;have h3:=ziS f p _ h2.1.inv;exact⟨(h1.trans h2.1).trans h3.1,h3.2.1.trans (h2.2.1.trans (St.step_op _)),h3.2.2.trans (h2.2.2.trans (St.step_L _))⟩
 exact⟨Fwd.refl hI,rfl,rfl⟩
theorem zit (hI:Inv p st):Fwd p st (zaI st).1/\(zaI st).1.op=st.op/\(zaI st).1.L=st.L:=by
 have h1:=Fwd.must hI 5 zW;have h2:=Fwd.name h1.inv;have h3:=zbx (i:=true) (vars:=[]) h2.inv;have h4:=Fwd.must h3.1.inv 4 [45,62];have h5:=zbx (i:=false) (vars:=(zab true (st.must 5 zW).name []).2) h4.inv;refine⟨(((h1.trans h2).trans h3.1).trans h4).trans h5.1,?_,?_⟩
 . show (zab false ((zab true (st.must 5 zW).name []).1.must 4 [45,62]) (zab true (st.must 5 zW).name []).2).1.op=_;rw[h5.2.1,St.must_op,h3.2.1,St.name_op,St.must_op]
 show (zab false ((zab true (st.must 5 zW).name []).1.must 4 [45,62]) (zab true (st.must 5 zW).name []).2).1.L=_;rw[h5.2.2,St.must_L,h3.2.2,St.name_L,St.must_L]
theorem zmn (g17:zv 17 r17)(g18:zv 18 r18)(hI:Inv p st)(ho:st.op=0):Fwd p st (zeO r17 r18 f st).1/\(zeO r17 r18 f st).1.op=0:=by
 have h1:=Fwd.must hI 4 [123];have h2:=za1 g17 g18 (eqs:=[]) h1.inv (by rw[St.must_op,ho]);have h3:=zh4 g17 g18 f p _ h2.1.inv (by rw[h2.2,St.must_op,ho]);have h4:=Fwd.must h3.1.inv 4 [125];refine⟨((h1.trans h2.1).trans h3.1).trans h4,?_⟩
 show ((zd6 r17 r18 f (zF r17 r18 (st.must 4 [123]) [])).1.must 4 [125]).op=0;rw[St.must_op,h3.2]
theorem zmW (g17:zv 17 r17)(g18:zv 18 r18){nodes:List Nd}(hI:Inv p st)(ho:st.op=0):Inv 0 (zei r17 r18 f st nodes).1/\(zei r17 r18 f st nodes).1.op=0/\st.t.a<=(zei r17 r18 f st nodes).1.t.a/\(st.er≠0->(zei r17 r18 f st nodes).1.er≠0):=by
 have h0:=Fwd.fresh hI;have hta:st.fresh.t.a=st.t.a:=rfl;have her:st.fresh.er=st.er:=rfl;have hop:st.fresh.op=0:=ho;unfold zei;split
 . have h1:=Fwd.fail h0 (e:=2) (a:=st.t.a) (by omega) (by omega) hI.ok.ta_le;exact⟨h1.inv,by rw[St.fail_op];exact hop,by have:=h1.ta;simp only;omega,λe=>h1.er (by rw[her];exact e)⟩
 have h1:=zit h0;have h2:=zeP (f:=f) (vars:=(zaI st.fresh).2) h1.1.inv;have h3:=zmn g17 g18 (f:=f) h2.1.inv (by rw[h2.2.1,h1.2.1];exact hop);have hw:=(h1.1.trans h2.1).trans h3.1;exact⟨hw.inv,h3.2,by have:=hw.ta;simp only;omega,λe=>hw.er (by rw[her];exact e)⟩
end
section
structure zo4 (r17 r18:Fn) (f:Nat) (st:St) (x3 x5 x6:St×List Vr) (x8 R:St×List Eqn):Prop where
 h3:zab true (st.fresh.must 5 zW).name []=x3
 h5:zab false (x3.1.must 4 [45,62]) x3.2=x5
 h6:zaS f x5.1 x5.2=x6
 h8:zF r17 r18 (x6.1.must 4 [123]) []=x8
 hR:zd6 r17 r18 f x8=R
structure zlN (st:St) (x3 x5 x6:St×List Vr) (x8 R:St×List Eqn):Prop where
 i0:Inv 0 st.fresh
 i1:Inv 0 (st.fresh.must 5 zW)
 i2:Inv 0 (st.fresh.must 5 zW).name
 i3:Inv 0 x3.1
 i4:Inv 0 (x3.1.must 4 [45,62])
 i5:Inv 0 x5.1
 i6:Inv 0 x6.1
 i7:Inv 0 (x6.1.must 4 [123])
 i8:Inv 0 x8.1
 iR:Inv 0 R.1
 o7:(x6.1.must 4 [123]).op=0
 o8:x8.1.op=0
 l3:x3.1.L=(st.fresh.must 5 zW).name.L
 l5:x5.1.L=(x3.1.must 4 [45,62]).L
 l6:x6.1.L=x5.1.L
theorem zkO {r17 r18:Fn}(g17:zv 17 r17)(g18:zv 18 r18){f p:Nat}{st:St}{x3 x5 x6:St×List Vr}{x8 R:St×List Eqn}(hI:Inv p st)(ho:st.op=0)(h:zo4 r17 r18 f st x3 x5 x6 x8 R):zlN st x3 x5 x6 x8 R:=by
 have i0:=Fwd.fresh hI;have i1:=(Fwd.must i0 5 zW).inv;have i2:=(Fwd.name i1).inv;have g3:=zbx (i:=true) (vars:=[]) i2;rw[h.h3] at g3;have i4:=(Fwd.must g3.1.inv 4 [45,62]).inv;have g5:=zbx (i:=false) (vars:=x3.2) i4;rw[h.h5] at g5;have g6:=zeP (f:=f) (vars:=x5.2) g5.1.inv;rw[h.h6] at g6;have i7:=(Fwd.must g6.1.inv 4 [123]).inv;have o7:(x6.1.must 4 [123]).op=0:=by rw[St.must_op,g6.2.1,g5.2.1,St.must_op,g3.2.1,St.name_op,St.must_op];exact ho
 have g8:=za1 g17 g18 (eqs:=[]) i7 o7;rw[h.h8] at g8;have o8:x8.1.op=0:=by rw[g8.2,o7]
 have gR:=zh4 g17 g18 f 0 x8 g8.1.inv o8;rw[h.hR] at gR;exact⟨i0,i1,i2,g3.1.inv,i4,g5.1.inv,g6.1.inv,i7,g8.1.inv,gR.1.inv,o7,o8,g3.2.2,g5.2.2,g6.2.2⟩
end
end Go.Proofs.YtbicmofihhjgbaaGreatDoor
