/- Part 6 of the proof. -/
import Derived.Test.YtbicmofihhjgbaaGreatDoorK01
set_option maxRecDepth 100000
set_option maxHeartbeats 8000000
namespace Go.Proofs.YtbicmofihhjgbaaGreatDoor
open Go.Proofs.Tryz
section
variable {r17 r18:Fn} {p:Nat} {st:St}
structure Eqn where
 ns:List ByteArray
 ps:List Nat
 a:Nat
 ex:Nat
structure Nms where
 st:St
 ns:List ByteArray
 ps:List Nat
def Nms.more (x:Nms):Nms:=⟨x.st.step.name,x.ns++[x.st.step.t.s],x.ps++[x.st.step.t.a]⟩
def zbO:Nat->Nms->Nms
 | 0,x=>x
 | f+1,x=>if x.st.er=0/\x.st.is 4 [44]=true then zbO f x.more else x
def zdH (st:St):Nms :=
 let s3:=st.step.name.must 4 [44]
 let y:=zbO 1300 ⟨s3.name,[st.step.t.s,s3.t.s],[st.step.t.a,s3.t.a]⟩
 ⟨y.st.must 4 [41],y.ns,y.ps⟩
def zaH (st:St):Nms:=if st.is 4 [40]=true then zdH st else ⟨st.name,[st.t.s],[st.t.a]⟩
def zck (r17 r18:Fn)(many:Bool)(st:St):St×Nat:=if many=true then zao r17 st.t st.name else r18 st
def zF (r17 r18:Fn)(st:St)(eqs:List Eqn):St×List Eqn :=
 let l:=zaH st
 let e:=zck r17 r18 (st.is 4 [40]) (l.st.must 4 [61])
 (e.1.must 4 [59],eqs++[⟨l.ns,l.ps,l.st.t.a,e.2⟩])
theorem zdO:∀(f p:Nat) (x:Nms),Inv p x.st->Fwd p x.st (zbO f x).st/\(zbO f x).st.op=x.st.op/\(zbO f x).st.L=x.st.L:=by
 intro f;induction f with
 | zero=>intro p x hI;exact⟨Fwd.refl hI,rfl,rfl⟩
 | succ f ih =>
   intro p x hI
   show Fwd p x.st (if _ then _ else x).st/\(if _ then _ else x).st.op=x.st.op/\(if _ then _ else x).st.L=x.st.L;by_cases hc:x.st.er=0/\x.st.is 4 [44]=true
   . rw[zM2 hc];have h1:=Fwd.step hI;have h2:=Fwd.name h1.inv;have h3:=ih p x.more h2.inv;exact⟨(h1.trans h2).trans h3.1,h3.2.1.trans ((St.name_op _).trans (St.step_op _)),h3.2.2.trans ((St.name_L _).trans (St.step_L _))⟩
   rw[zM1 hc];exact⟨Fwd.refl hI,rfl,rfl⟩
theorem zmR (hI:Inv p st):Fwd p st (zdH st).st/\(zdH st).st.op=st.op/\(zdH st).st.L=st.L:=by
 have h1:=Fwd.step hI;have h2:=Fwd.name h1.inv;have h3:=Fwd.must h2.inv 4 [44];have h4:=Fwd.name h3.inv;have h5:=zdO 1300 p ⟨(st.step.name.must 4 [44]).name,[st.step.t.s,(st.step.name.must 4 [44]).t.s],[st.step.t.a,(st.step.name.must 4 [44]).t.a]⟩ h4.inv;have h6:=Fwd.must h5.1.inv 4 [41];refine⟨((((h1.trans h2).trans h3).trans h4).trans h5.1).trans h6,?_,?_⟩
 . unfold zdH;simp only;rw[St.must_op,h5.2.1];simp only;rw[St.name_op,St.must_op,St.name_op,St.step_op]
 unfold zdH;simp only;rw[St.must_L,h5.2.2];simp only;rw[St.name_L,St.must_L,St.name_L,St.step_L]
theorem zfO (hI:Inv p st):Fwd p st (zaH st).st/\(zaH st).st.op=st.op/\(zaH st).st.L=st.L:=by
 unfold zaH;split
 . exact zmR hI
 exact⟨Fwd.name hI,St.name_op _,St.name_L _⟩
theorem zfx (g17:zv 17 r17)(g18:zv 18 r18){many:Bool}(hI:Inv p st)(ho:st.op=0)(hm:many=true->1<=st.t.a):Fwd p st (zck r17 r18 many st).1/\(zck r17 r18 many st).1.op=st.op:=by
 unfold zck;split
 . rename_i hmm
   have h1:=Fwd.name hI;by_cases he:st.name.er=0
   . have h2:=zis g17 st.t h1.inv he (by rw[St.name_op,ho];omega) (zMO (hm hmm) h1.ta);exact⟨h1.trans h2.fwd,h2.op.trans (St.name_op _)⟩
   have hb:st.name.is 4 [40]=false:=(by have:=h1.inv.bad he;simp[St.is,this]);have e:zao r17 st.t st.name=(st.name.fail 2 st.name.t.a,0):=(by unfold zao;rw[zM1 (by rw[hb];simp)]);rw[e];exact⟨h1.trans (Fwd.fail h1.inv (by omega) (by omega) h1.inv.ok.ta_le),(St.fail_op _ _ _).trans (St.name_op _)⟩
 have h2:=g18 st p hI (by omega);exact⟨h2.fwd,h2.op⟩
theorem zkp (hI:Inv p st)(hm:st.is 4 [40]=true):1<=(zaH st).st.t.a:=by
 have he:=hI.is_ok (by omega) hm;have hk:=Inv.is_k hm;have h0:zaH st=zdH st:=by unfold zaH;rw[zM2 hm]
 rw[h0];have h1:1<=st.step.t.a:=by have:=hI.tok (by omega);rw[St.step_ok he];have hf:=zV st.src st.t.t hI.ok.tt;simp only;omega
 have e1:=Fwd.step hI;have e2:=Fwd.name e1.inv;have e3:=Fwd.must e2.inv 4 [44];have e4:=Fwd.name e3.inv;have e5:=zdO 1300 p ⟨(st.step.name.must 4 [44]).name,[st.step.t.s,(st.step.name.must 4 [44]).t.s],[st.step.t.a,(st.step.name.must 4 [44]).t.a]⟩ e4.inv;have e6:=Fwd.must e5.1.inv 4 [41];have h:=((((e2.trans e3).trans e4).trans e5.1).trans e6).ta;exact zMO h1 h
theorem za1 (g17:zv 17 r17)(g18:zv 18 r18){eqs:List Eqn}(hI:Inv p st)(ho:st.op=0):Fwd p st (zF r17 r18 st eqs).1/\(zF r17 r18 st eqs).1.op=st.op:=by
 have h1:=zfO hI;have h2:=Fwd.must h1.1.inv 4 [61];have o2:((zaH st).st.must 4 [61]).op=0:=by rw[St.must_op,h1.2.1,ho]
 have h3:=zfx g17 g18 (many:=st.is 4 [40]) h2.inv o2 (λhm=>zMO (zkp hI hm) h2.ta);have h4:=Fwd.must h3.1.inv 4 [59];refine⟨((h1.1.trans h2).trans h3.1).trans h4,?_⟩;unfold zF;simp only;rw[St.must_op,h3.2,o2,ho]
end
section
variable {f:Nat} {R:Nms} {st:St}
def zeh (st:St):Nms:=⟨(st.step.name.must 4 [44]).name,[st.step.t.s,(st.step.name.must 4 [44]).t.s],[st.step.t.a,(st.step.name.must 4 [44]).t.a]⟩
structure zrA (st:St) (R:Nms) (p:Nat):Prop where
 many:zdH st=⟨R.st.must 4 [41],R.ns,R.ps⟩
 x0:Inv p (zeh st).st
 r:Inv p R.st
 rL:R.st.L=st.L
 rop:R.st.op=st.op
 ta:1<=R.st.t.a
theorem zko (hf:f=1300)(h:zbO f (zeh st)=R):zdH st=⟨R.st.must 4 [41],R.ns,R.ps⟩:=by subst h;subst hf;rfl
theorem zkV {p:Nat}(hI:Inv p st)(hm:st.is 4 [40]=true)(hf:f=1300)(h:zbO f (zeh st)=R):zrA st R p:=by
 have he:=hI.is_ok (by omega) hm;have hk:=Inv.is_k hm;have h1:1<=st.step.t.a:=by have:=hI.tok (by omega);rw[St.step_ok he];have hf:=zV st.src st.t.t hI.ok.tt;simp only;omega
 have e1:=Fwd.step hI;have e2:=Fwd.name e1.inv;have e3:=Fwd.must e2.inv 4 [44];have e4:=Fwd.name e3.inv;have e5:=zdO f p (zeh st) e4.inv;rw[h] at e5;refine⟨zko hf h,e4.inv,e5.1.inv,?_,?_,?_⟩
 . rw[e5.2.2];unfold zeh;simp only;rw[St.name_L,St.must_L,St.name_L,St.step_L]
 . rw[e5.2.1];unfold zeh;simp only;rw[St.name_op,St.must_op,St.name_op,St.step_op]
 exact zMO h1 (((e2.trans e3).trans e4).trans e5.1).ta
theorem zjK {r17 r18:Fn}{eqs:List Eqn}(hm:st.is 4 [40]=true)(h:zdH st=⟨R.st.must 4 [41],R.ns,R.ps⟩) :
 zF r17 r18 st eqs=((zao r17 ((R.st.must 4 [41]).must 4 [61]).t ((R.st.must 4 [41]).must 4 [61]).name).1.must 4 [59],eqs++[⟨R.ns,R.ps,(R.st.must 4 [41]).t.a,(zao r17 ((R.st.must 4 [41]).must 4 [61]).t ((R.st.must 4 [41]).must 4 [61]).name).2⟩]):=by
 have h1:zaH st=⟨R.st.must 4 [41],R.ns,R.ps⟩:=by unfold zaH;rw[zM2 hm,h]
 unfold zF zck;simp only[h1];rw[zM2 hm]
end
end Go.Proofs.YtbicmofihhjgbaaGreatDoor
