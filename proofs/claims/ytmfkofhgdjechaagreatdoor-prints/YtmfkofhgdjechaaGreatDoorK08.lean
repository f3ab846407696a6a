/- Part 9 of the proof: RefT MdlQ RefU RefV RefW. -/
import Derived.Test.YtmfkofhgdjechaaGreatDoorK06
import Derived.Test.YtmfkofhgdjechaaGreatDoorK07
set_option maxRecDepth 100000
set_option maxHeartbeats 8000000
namespace Go.Proofs.YtmfkofhgdjechaaGreatDoor
open Go.Proofs.Tryz
section
open Go.RowKit
theorem zzM (rb:Nat)(F:Fx)(xs:Rw)(st:St)(vars:List Vr)(p:Nat)(w:World)(hI:Inv p st)(hR:zs w rb F xs st)(hV:zyh w rb F.vs vars)(i o:Bool) :
 xK 258 #[xP rb,.bool i,.bool o] w (zzp rb F xs w (zx i o st vars).1 (zx i o st vars).2):=by
 by_cases hl:16<=vars.length
 . exact zB5 rb F xs st vars p w hI hR hV i o hl
 . cases hn:((z9 (st.name.must 4 [58])).is 5 kOn&&!i&&!o) with
   | false =>
     cases hb:(st.name.must 4 [58]).is 5 zbq with
     | true=>exact zBb rb F xs st vars p w hI hR hV i o hl hb hn
     | false=>exact zAS rb F xs st vars p w hI hR hV i o hl hb hn
   | true =>
     have hio:i=false/\o=false/\(z9 (st.name.must 4 [58])).is 5 kOn=true:=(by cases i <;> cases o <;> simp_all);obtain⟨rfl,rfl,hn1⟩:=hio;cases hb:(st.name.must 4 [58]).is 5 zbq with
     | true =>
       cases hnt:(z9 (st.name.must 4 [58])).step.is 5 zet with
       | true=>exact zz1 rb F xs st vars p w hI hR hV hl hb hn1 hnt
       | false=>exact zzZ rb F xs st vars p w hI hR hV hl hb hn1 hnt
     | false =>
       cases hnt:(z9 (st.name.must 4 [58])).step.is 5 zet with
       | true=>exact zz0 rb F xs st vars p w hI hR hV hl hb hn1 hnt
       | false=>exact zzO rb F xs st vars p w hI hR hV hl hb hn1 hnt
theorem FrV.trans {rb:Nat}{a b:Value}{w w1 w2:World}(h:FrV rb a w w1)(hb:∀k,b.ownBlock=some k->a.ownBlock=some k∨w.heap.size<=k)(k:FrV rb b w1 w2):FrV rb a w w2:=by
 refine Fr.trans' h k ?_;intro i hi hs;rcases hs with hs|hs
 . exact Or.inl hs
 . rcases hb i hs with h2|h2
   . exact Or.inr h2
   . omega
theorem zBX (rb:Nat)(F:Fx)(xs:Rw)(st:St)(vars:List Vr)(p:Nat)(w:World)(hI:Inv p st)(hR:zs w rb F xs st)(hV:zyh w rb F.vs vars) :
 xK 211 #[xP rb] w (zzp rb F xs w (zaR st vars).1 (zaR st vars).2):=by
 have g:=zbI (i:=false) (o:=false) (vars:=vars) hI;have hM:zaR st vars=((zx false false st vars).1.must 4 [59],(zx false false st vars).2):=rfl;rw[hM];have H1:=za (zzM rb F xs st vars p w hI hR hV false false);have G:=za g.1.inv;clear hM g hR hV hI;generalize zx false false st vars=x at *;go_enter func211,ntmps211;go_wp2_with fail;refine H1.o.mono ?_;rintro e w1 ⟨vs1,rfl,hL1,hV1,hF1,hN1⟩;have HL1:=za hL1;have HV1:=za hV1;have HF1:=za hF1;have HN1:=za hN1;clear hL1 hV1 hF1 hN1;go_wp2_with fail;refine (zyc rb { F with vs:=vs1 } xs x.1 4 4 rfl ⟨#[59]⟩ [59] (by decide +kernel) _ G.o.ok HL1.o).mono ?_;rintro e w2 ⟨rfl,hL2,hF2⟩;have HL2:=za hL2;have HF2:=za hF2;clear hL2 hF2;go_wp2_with fail;go_end0;exact⟨vs1,rfl,HL2.o,HV1.o.fr HF2.o,Fr.trans HF1.o (FrV.of_fr HF2.o),HN1.o⟩
theorem zBs (rb:Nat)(F:Fx)(xs:Rw)(st:St)(vars:List Vr)(p:Nat)(w:World)(hI:Inv p st)(hR:zs w rb F xs st)(hV:zyh w rb F.vs vars)(i:Bool) :
 xK 209 #[xP rb,.bool i] w (zzp rb F xs w (zab i st vars).1 (zab i st vars).2):=by
 have e1:=Fwd.must hI 4 [40];have g2:=zbI (i:=i) (o:=!i) (vars:=vars) e1.inv;have hM:zab i st vars=((zaG i 1300 (zx i (!i) (st.must 4 [40]) vars)).1.must 4 [41],(zaG i 1300 (zx i (!i) (st.must 4 [40]) vars)).2):=rfl;rw[hM];have HI:=za hI.ok;have E1:=za e1.inv;have G2:=za g2.1.inv;have HR:=za hR;have HV:=za hV;clear hM hR hV hI e1 g2;generalize hx0:zx i (!i) (st.must 4 [40]) vars=x0 at *;have HX0:=za hx0;clear hx0;obtain⟨R,hRes⟩:∃R,zaG i 1300 x0=R:=⟨_,rfl⟩;rw[hRes];have HRes:=za hRes;clear hRes;go_enter func209,ntmps209;go_wp2_with fail;refine (zyc rb F xs st 4 4 rfl ⟨#[40]⟩ [40] (by decide +kernel) _ HI.o HR.o).mono ?_;rintro e w1 ⟨rfl,hL1,hF1⟩;have HL1:=za hL1;have HF1:=za hF1;clear hL1 hF1;go_wp2_with fail;refine (zzM rb F xs (st.must 4 [40]) vars p _ E1.o HL1.o (HV.o.fr HF1.o) i (!i)).mono ?_;rw[HX0.o];rintro e w2 ⟨vs2,rfl,hL2,hV2,hF2,hN2⟩;have hG2:FrV rb F.vs w w2:=Fr.trans (FrV.of_fr HF1.o) hF2;have hM2:∀k,vs2.ownBlock=some k->F.vs.ownBlock=some k∨w.heap.size<=k:=λk hk=>by
  rcases hN2 k hk with h|h
  . exact Or.inl h
  . have:=HF1.o.size;exact Or.inr (by omega)
 clear hF2 hN2;have HL2:=za hL2;have HV2:=za hV2;have HG2:=za hG2;have HM2:=za hM2;clear hL2 hV2 hG2 hM2;go_wp2_with fail;go_loopg [20] 1300 (λk _ wr=>∃(x:St×List Vr) (vs':Value),Hid (zaG i k x=R)/\rem x.1<k/\Hid (Inv p x.1)/\Hid (zs wr rb { F with vs:=vs' } xs x.1)/\Hid (zyh wr rb vs' x.2)/\Hid (FrV rb F.vs w wr)/\Hid (∀k,vs'.ownBlock=some k->F.vs.ownBlock=some k∨w.heap.size<=k));case atStart => refine⟨x0,vs2,HRes.o,?_,G2.o,HL2.o,HV2.o,HG2.o,HM2.o⟩;unfold rem;split <;> omega
 case round =>
  obtain⟨x,vs3,HF,hrem,HI3,HL3,HV3,HG3,HM3⟩:=hrel;obtain⟨a0,a1,a2,a3,a4,a5,a6,a7,a8,a9,a10,a11,a12,a13,a14⟩:=HL3.o.cells;obtain⟨f,rfl⟩:∃f,gk=f+1:=⟨gk-1,by omega⟩;by_cases he:x.1.er=0
  . have he':((x.1.er:Int)==0)=true:=beq_iff_eq.2 (by omega);cases hcm:x.1.is 4 [44] with
    | true =>
      have hk4:=Inv.is_k hcm;have e3:=Fwd.step HI3.o;have hta:x.1.t.a+1<=x.1.step.t.a:=(by have:=HI3.o.tok (by omega);rw[St.step_ok he];have hf:=zV x.1.src x.1.t.t HI3.o.ok.tt;simp only;omega);have g4:=zbI (i:=i) (o:=!i) (vars:=x.2) e3.inv;have HF2:Hid (zaG i f (zx i (!i) x.1.step x.2)=R):=by
       have h:=HF.o;unfold Hid;rw[<- h]
       show _=(if x.1.er=0/\x.1.is 4 [44]=true then _ else x);rw[if_pos ⟨he,hcm⟩]
      have hrem':Hid (rem (zx i (!i) x.1.step x.2).1<f):=(by unfold Hid rem;have h1:rem x.1=1201-x.1.t.a:=(by unfold rem;rw[if_pos he]);have h2:=g4.1.ta;have h4:=g4.1.inv.ok.ta_le;split <;> omega);have HI4:=za g4.1.inv;have E3:=za e3.inv;clear he hk4 e3 g4 HF hta;generalize hy:zx i (!i) x.1.step x.2=y at *;have HY:=za hy;clear hy;go_wp2_with fail;refine (zya rb _ xs x.1 4 4 rfl ⟨#[44]⟩ [44] (by decide +kernel) _ HL3.o).mono ?_;rintro e w' ⟨rfl,rfl⟩;go_wp2_with fail;refine (zyg rb _ xs x.1 _ HI3.o.ok HL3.o).mono ?_;rintro e w4 ⟨rfl,hL4,hF4⟩;have HL4:=za hL4;have HF4:=za hF4;clear hL4 hF4;go_wp2_with fail;refine (zzM rb { F with vs:=vs3 } xs x.1.step x.2 p _ E3.o HL4.o (HV3.o.fr HF4.o) i (!i)).mono ?_;rw[HY.o];rintro e w5 ⟨vs5,rfl,hL5,hV5,hF5,hN5⟩;have hG5:FrV rb F.vs w w5:=HG3.o.trans HM3.o (Fr.trans (FrV.of_fr HF4.o) hF5);have hM5:∀k,vs5.ownBlock=some k->F.vs.ownBlock=some k∨w.heap.size<=k:=λk hk=>by
       rcases hN5 k hk with h|h
       . exact HM3.o k h
       . have h1:=HF4.o.size;have h2:=HG3.o.size;exact Or.inr (by omega)
      clear hF5 hN5;have HL5:=za hL5;have HV5:=za hV5;have HG5:=za hG5;have HM5:=za hM5;clear hL5 hV5 hG5 hM5;go_wp2_with fail;go_roundg f;case measure=>omega
      case rel=>exact⟨y,vs5,HF2.o,hrem'.out,HI4,HL5,HV5,HG5,HM5⟩
    | false =>
      have HF2:Hid (R=x):=by
       have h:=HF.o;unfold Hid;rw[<- h]
       show (if x.1.er=0/\x.1.is 4 [44]=true then _ else x)=x;rw[if_neg (by rw[hcm];simp)]
      clear he HF;go_wp2_with fail;refine (zya rb _ xs x.1 4 4 rfl ⟨#[44]⟩ [44] (by decide +kernel) _ HL3.o).mono ?_;rintro e w' ⟨rfl,rfl⟩;go_wp2_with fail;refine (zyc rb _ xs x.1 4 4 rfl ⟨#[41]⟩ [41] (by decide +kernel) _ HI3.o.ok HL3.o).mono ?_;rintro e w6 ⟨rfl,hL6,hF6⟩;have HL6:=za hL6;have HF6:=za hF6;clear hL6 hF6;go_wp2_with fail;go_end0;rw[HF2.o];exact⟨vs3,rfl,HL6.o,HV3.o.fr HF6.o,Fr.trans HG3.o (FrV.of_fr HF6.o),HM3.o⟩
  . have he':((x.1.er:Int)==0)=false:=beq_eq_false_iff_ne.2 (by omega);have HF2:Hid (R=x):=by
     have h:=HF.o;unfold Hid;rw[<- h]
     show (if x.1.er=0/\x.1.is 4 [44]=true then _ else x)=x;rw[if_neg (by simp[he])]
    clear he HF;go_wp2_with fail;refine (zyc rb _ xs x.1 4 4 rfl ⟨#[41]⟩ [41] (by decide +kernel) _ HI3.o.ok HL3.o).mono ?_;rintro e w6 ⟨rfl,hL6,hF6⟩;have HL6:=za hL6;have HF6:=za hF6;clear hL6 hF6;go_wp2_with fail;go_end0;rw[HF2.o];exact⟨vs3,rfl,HL6.o,HV3.o.fr HF6.o,Fr.trans HG3.o (FrV.of_fr HF6.o),HM3.o⟩
end
section
variable {r17 r18:Fn} {p:Nat} {st:St}
structure Eqn where
 ns:List ByteArray
 ps:List Nat
 a:Nat
 ex:Nat
structure Nms where
 st:St
 ns:List ByteArray
 ps:List Nat
def Nms.more (x:Nms):Nms:=⟨x.st.step.name,x.ns++[x.st.step.t.s],x.ps++[x.st.step.t.a]⟩
def zbO:Nat->Nms->Nms
 | 0,x=>x
 | f+1,x=>if x.st.er=0/\x.st.is 4 [44]=true then zbO f x.more else x
def zdH (st:St):Nms :=
 let s3:=st.step.name.must 4 [44]
 let y:=zbO 1300 ⟨s3.name,[st.step.t.s,s3.t.s],[st.step.t.a,s3.t.a]⟩
 ⟨y.st.must 4 [41],y.ns,y.ps⟩
def zaH (st:St):Nms:=if st.is 4 [40]=true then zdH st else ⟨st.name,[st.t.s],[st.t.a]⟩
def zck (r17 r18:Fn)(many:Bool)(st:St):St×Nat:=if many=true then zao r17 st.t st.name else r18 st
def zF (r17 r18:Fn)(st:St)(eqs:List Eqn):St×List Eqn :=
 let l:=zaH st
 let e:=zck r17 r18 (st.is 4 [40]) (l.st.must 4 [61])
 (e.1.must 4 [59],eqs++[⟨l.ns,l.ps,l.st.t.a,e.2⟩])
theorem zdO:∀(f p:Nat) (x:Nms),Inv p x.st->Fwd p x.st (zbO f x).st/\(zbO f x).st.op=x.st.op/\(zbO f x).st.L=x.st.L:=by
 intro f;induction f with
 | zero=>intro p x hI;exact⟨Fwd.refl hI,rfl,rfl⟩
 | succ f ih =>
   intro p x hI
   show Fwd p x.st (if _ then _ else x).st/\(if _ then _ else x).st.op=x.st.op/\(if _ then _ else x).st.L=x.st.L;by_cases hc:x.st.er=0/\x.st.is 4 [44]=true
   . rw[if_pos hc];have h1:=Fwd.step hI;have h2:=Fwd.name h1.inv;have h3:=ih p x.more h2.inv;exact⟨(h1.trans h2).trans h3.1,h3.2.1.trans ((St.name_op _).trans (St.step_op _)),h3.2.2.trans ((St.name_L _).trans (St.step_L _))⟩
   . rw[if_neg hc];exact⟨Fwd.refl hI,rfl,rfl⟩
theorem zmR (hI:Inv p st):Fwd p st (zdH st).st/\(zdH st).st.op=st.op/\(zdH st).st.L=st.L:=by
 have h1:=Fwd.step hI;have h2:=Fwd.name h1.inv;have h3:=Fwd.must h2.inv 4 [44];have h4:=Fwd.name h3.inv;have h5:=zdO 1300 p ⟨(st.step.name.must 4 [44]).name,[st.step.t.s,(st.step.name.must 4 [44]).t.s],[st.step.t.a,(st.step.name.must 4 [44]).t.a]⟩ h4.inv;have h6:=Fwd.must h5.1.inv 4 [41];refine⟨((((h1.trans h2).trans h3).trans h4).trans h5.1).trans h6,?_,?_⟩
 . unfold zdH;simp only;rw[St.must_op,h5.2.1];simp only;rw[St.name_op,St.must_op,St.name_op,St.step_op]
 . unfold zdH;simp only;rw[St.must_L,h5.2.2];simp only;rw[St.name_L,St.must_L,St.name_L,St.step_L]
theorem zfO (hI:Inv p st):Fwd p st (zaH st).st/\(zaH st).st.op=st.op/\(zaH st).st.L=st.L:=by
 unfold zaH;split
 . exact zmR hI
 . exact⟨Fwd.name hI,St.name_op _,St.name_L _⟩
theorem zfx (g17:zv 17 r17)(g18:zv 18 r18){many:Bool}(hI:Inv p st)(ho:st.op=0)(hm:many=true->1<=st.t.a):Fwd p st (zck r17 r18 many st).1/\(zck r17 r18 many st).1.op=st.op:=by
 unfold zck;split
 . rename_i hmm
   have h1:=Fwd.name hI;by_cases he:st.name.er=0
   . have h2:=zis g17 st.t h1.inv he (by rw[St.name_op,ho];omega) (Nat.le_trans (hm hmm) h1.ta);exact⟨h1.trans h2.fwd,h2.op.trans (St.name_op _)⟩
   . have hb:st.name.is 4 [40]=false:=(by have:=h1.inv.bad he;simp[St.is,this]);have e:zao r17 st.t st.name=(st.name.fail 2 st.name.t.a,0):=(by unfold zao;rw[if_neg (by rw[hb];simp)]);rw[e];exact⟨h1.trans (Fwd.fail h1.inv (by omega) (by omega) h1.inv.ok.ta_le),(St.fail_op _ _ _).trans (St.name_op _)⟩
 . have h2:=g18 st p hI (by omega);exact⟨h2.fwd,h2.op⟩
theorem zkp (hI:Inv p st)(hm:st.is 4 [40]=true):1<=(zaH st).st.t.a:=by
 have he:=hI.is_ok (by omega) hm;have hk:=Inv.is_k hm;have h0:zaH st=zdH st:=by unfold zaH;rw[if_pos hm]
 rw[h0];have h1:1<=st.step.t.a:=by have:=hI.tok (by omega);rw[St.step_ok he];have hf:=zV st.src st.t.t hI.ok.tt;simp only;omega
 have e1:=Fwd.step hI;have e2:=Fwd.name e1.inv;have e3:=Fwd.must e2.inv 4 [44];have e4:=Fwd.name e3.inv;have e5:=zdO 1300 p ⟨(st.step.name.must 4 [44]).name,[st.step.t.s,(st.step.name.must 4 [44]).t.s],[st.step.t.a,(st.step.name.must 4 [44]).t.a]⟩ e4.inv;have e6:=Fwd.must e5.1.inv 4 [41];have h:=((((e2.trans e3).trans e4).trans e5.1).trans e6).ta;exact Nat.le_trans h1 h
theorem za1 (g17:zv 17 r17)(g18:zv 18 r18){eqs:List Eqn}(hI:Inv p st)(ho:st.op=0):Fwd p st (zF r17 r18 st eqs).1/\(zF r17 r18 st eqs).1.op=st.op:=by
 have h1:=zfO hI;have h2:=Fwd.must h1.1.inv 4 [61];have o2:((zaH st).st.must 4 [61]).op=0:=by rw[St.must_op,h1.2.1,ho]
 have h3:=zfx g17 g18 (many:=st.is 4 [40]) h2.inv o2 (λhm=>Nat.le_trans (zkp hI hm) h2.ta);have h4:=Fwd.must h3.1.inv 4 [59];refine⟨((h1.1.trans h2).trans h3.1).trans h4,?_⟩;unfold zF;simp only;rw[St.must_op,h3.2,o2,ho]
end
section
open Go.RowKit
variable {c:Array Value} {s:ByteArray} {F:Fx} {ns:List ByteArray} {ps:List Nat} {a b ex rb:Nat} {f:Nat×Nat} {o:Obj} {xs:Rw} {x:St} {t:Tk} {e:TypeId} {av nv v':Value} {w w1 wr:World}
def zzE (l:List ByteArray):List Value:=l.map Value.string
def zzK (nv av:Value)(a ex:Nat):Obj:=.cells #[nv,av,xI a,xI ex] 275 (0,0)
theorem zyx (h:w.heap[b]?=some (zzK nv av a ex)):w.cell? (xD b 0)=some nv/\w.cell? (xD b 1)=some av/\w.cell? (xD b 2)=some (xI a)/\w.cell? (xD b 3)=some (xI ex):=by simp[World.cell?,h,zzK]
theorem zyE (h:w.heap[b]?=some (zzK nv av a ex))(i:Nat):w.frozen? (xD b i)=false:=by simp[World.frozen?,h,zzK]
structure EqI (rb:Nat) (F:Fx) (xs:Rw) (w:World) (wr:World) (x:St) (nv av:Value) (ns:List ByteArray) (ps:List Nat):Prop where
 lies:zs wr rb F xs x
 fr:Fr (·=rb) w wr
 box:wr.heap[w.heap.size]?=some (zzK nv av 0 0)
 ownN:wr.ownsRow w.heap.size 9 1 nv ns.length (zzE ns)
 ownA:wr.ownsRow w.heap.size 3 1 av ps.length (zyp ps)
 lt:rb<w.heap.size
theorem EqI.go {w2:World}{x2:St}(h:EqI rb F xs w wr x nv av ns ps)(hF:Fr (·=rb) wr w2)(hL:zs w2 rb F xs x2):EqI rb F xs w w2 x2 nv av ns ps:=by
 have hlt:=h.lt;refine⟨hL,h.fr.trans hF,?_,?_,?_,hlt⟩
 . rw[hF.block _ (zA h.box) (by omega),h.box]
 . exact zi h.ownN (λk h1 h2 _=>hF.block k h2 (by omega))
 . exact zi h.ownA (λk h1 h2 _=>hF.block k h2 (by omega))
theorem EqI.alloc (h:EqI rb F xs w wr x nv av ns ps)(o:Obj):EqI rb F xs w (wr.alloc o) x nv av ns ps :=
 h.go ((Fr.refl _ _).alloc o) (h.lies.alloc o)
theorem EqI.set (h:EqI rb F xs w wr x nv av ns ps)(hb:wr.heap[b]?=some (.cells c 270 f))(hw:w.heap.size<b)(i:Nat)(v:Value):EqI rb F xs w (wr.setCell (xD b i) v) x nv av ns ps:=by
 have hlt:=h.lt;refine⟨h.lies.setOther (by omega) _ _,h.fr.setNew (by omega) _ _,?_,?_,?_,hlt⟩
 . rw[Below.heap_setCell _ _ _ _ (show w.heap.size≠b by omega),h.box]
 . refine zi h.ownN (λk _ _ hk=>Below.heap_setCell _ _ _ _ ?_);intro e;have e1:k=b:=e;exact zyL h.ownN hb (by decide) (e1▸hk)
 . refine zi h.ownA (λk _ _ hk=>Below.heap_setCell _ _ _ _ ?_);intro e;have e1:k=b:=e;exact zyL h.ownA hb (by decide) (e1▸hk)
theorem zDd (h:w.heap[b]?=some (z8 t))(u:Tk):(((((w.setCell (xD b 0) (xI u.k)).setCell (xD b 1) (xI u.a)).setCell (xD b 2) (xI u.t)).setCell (xD b 3) (.string u.s)).setCell (xD b 4) (xI u.n)).heap[b]?=some (z8 u) :=
 zAq h _ _ _ _ _
theorem EqI.setTok (h:EqI rb F xs w wr x nv av ns ps)(hb:wr.heap[b]?=some (z8 t))(hw:w.heap.size<b)(u:Tk) :
 EqI rb F xs w (((((wr.setCell (xD b 0) (xI u.k)).setCell (xD b 1) (xI u.a)).setCell (xD b 2) (xI u.t)).setCell (xD b 3) (.string u.s)).setCell (xD b 4) (xI u.n)) x nv av ns ps:=by
 have h0:=zh _ _ 0 (xI u.k) hb;have h1:=zh _ _ 1 (xI u.a) h0;have h2:=zh _ _ 2 (xI u.t) h1;have h3:=zh _ _ 3 (.string u.s) h2;exact ((((h.set hb hw _ _).set h0 hw _ _).set h1 hw _ _).set h2 hw _ _).set h3 hw _ _
theorem EqI.grown_appN (h:EqI rb F xs w wr x nv av ns ps)(hg:(wr.alloc o).grownBy w1 nv.ownBlock)(hb:wr.heap[b]?=some (.cells c e f))(he:9≠e):w1.heap[b]?=some (.cells c e f):=by have h1:=(Below.heap_alloc wr o b (zA hb)).trans hb;rw[hg.block b (zA h1) (λe=>zyL (zD h.ownN o) h1 he e.symm),h1]
theorem EqI.appN (h:EqI rb F xs w wr x nv av ns ps)
 (hown:w1.ownsRow w.heap.size 9 1 v' (ns.length+1) (zzE ns++[.string s])) (hg:(wr.alloc o).grownBy w1 nv.ownBlock):EqI rb F xs w (w1.setCell (xD w.heap.size 0) v') x v' av (ns++[s]) ps:=by
 have hlt:=h.lt;have hrow:∀k,nv.ownBlock=some k->w.heap.size<=k:=λk hk=>(h.ownN.lt k hk).1;have hbx:w1.heap[w.heap.size]?=some (zzK nv av 0 0):=h.grown_appN hg h.box (by decide);have hf1:Fr (·=rb) w w1:=by have a1:=h.fr.alloc o;refine⟨hg.os.trans a1.os,hg.tape.trans a1.tape,hg.output.trans a1.output,Nat.le_trans a1.size hg.size,?_⟩;intro k hk hs;rw[hg.block k (Nat.lt_of_lt_of_le hk a1.size) (λe=>by have:=hrow k e.symm;omega)];exact a1.block k hk hs
 have ho:w1.ownsRow w.heap.size 3 1 av ps.length (zyp ps):=zyQ (zD h.ownA o) hg (λk hk=>zy2 (zD h.ownA o) (zD h.ownN o) (by decide) hk);have hset:∀{base e size n:Nat} {u:Value} {l:List Value},w1.ownsRow base e size u n l->e≠275->(w1.setCell (xD w.heap.size 0) v').ownsRow base e size u n l:=by intro base e size n u l h1 h2;refine zi h1 (λk _ _ hk=>Below.heap_setCell _ _ _ _ ?_);intro e2;have e1:k=w.heap.size:=e2;exact zyL h1 hbx h2 (e1▸hk)
 refine⟨((h.lies.alloc o).grown hg (λe=>by have:=hrow rb e;omega)).setOther (by omega) _ _,hf1.setNew (Nat.le_refl _) _ _,zh _ _ _ _ hbx,?_,hset ho (by decide),hlt⟩;have h1:=hset hown (by decide);simpa [zzE] using h1
theorem EqI.grown_appA (h:EqI rb F xs w wr x nv av ns ps)(hg:(wr.alloc o).grownBy w1 av.ownBlock)(hb:wr.heap[b]?=some (.cells c e f))(he:3≠e):w1.heap[b]?=some (.cells c e f):=by have h1:=(Below.heap_alloc wr o b (zA hb)).trans hb;rw[hg.block b (zA h1) (λe=>zyL (zD h.ownA o) h1 he e.symm),h1]
theorem EqI.appA {y:Nat}(h:EqI rb F xs w wr x nv av ns ps)
 (hown:w1.ownsRow w.heap.size 3 1 v' (ps.length+1) (zyp ps++[xI y])) (hg:(wr.alloc o).grownBy w1 av.ownBlock):EqI rb F xs w (w1.setCell (xD w.heap.size 1) v') x nv v' ns (ps++[y]):=by
 have hlt:=h.lt;have hrow:∀k,av.ownBlock=some k->w.heap.size<=k:=λk hk=>(h.ownA.lt k hk).1;have hbx:w1.heap[w.heap.size]?=some (zzK nv av 0 0):=h.grown_appA hg h.box (by decide);have hf1:Fr (·=rb) w w1:=by have a1:=h.fr.alloc o;refine⟨hg.os.trans a1.os,hg.tape.trans a1.tape,hg.output.trans a1.output,Nat.le_trans a1.size hg.size,?_⟩;intro k hk hs;rw[hg.block k (Nat.lt_of_lt_of_le hk a1.size) (λe=>by have:=hrow k e.symm;omega)];exact a1.block k hk hs
 have ho:w1.ownsRow w.heap.size 9 1 nv ns.length (zzE ns):=zyQ (zD h.ownN o) hg (λk hk=>zy2 (zD h.ownN o) (zD h.ownA o) (by decide) hk);have hset:∀{base e size n:Nat} {u:Value} {l:List Value},w1.ownsRow base e size u n l->e≠275->(w1.setCell (xD w.heap.size 1) v').ownsRow base e size u n l:=by intro base e size n u l h1 h2;refine zi h1 (λk _ _ hk=>Below.heap_setCell _ _ _ _ ?_);intro e2;have e1:k=w.heap.size:=e2;exact zyL h1 hbx h2 (e1▸hk)
 refine⟨((h.lies.alloc o).grown hg (λe=>by have:=hrow rb e;omega)).setOther (by omega) _ _,hf1.setNew (Nat.le_refl _) _ _,zh _ _ _ _ hbx,hset ho (by decide),?_,hlt⟩;have h1:=hset hown (by decide);simpa [zyp] using h1
theorem Tryz.infoStrR:(prog.info? 9).map (λi=>(i.zero,i.size,i.bytes))=some (some (.string ⟨#[]⟩),1,16):=by kernel_rfl
theorem zAM:∀u∈([.string s]:List Value),u.oneCell'=true:=by intro u hu;simp at hu;subst hu;rfl
end
section
open Go.RowKit
variable {F:Fx} {ns:List ByteArray} {L:List Eqn} {ps:List Nat} {a ex n rb:Nat} {xs xs':Rw} {x x2:St} {av nv:Value} {w w' w2 wr:World}
theorem zzB (h:n<=1400):n+1<=maxLen:=by unfold maxLen;omega
theorem zzC {c:Nat}(h:n<=1400)(hc:c<=100):(n+1)*c<=140737488355328:=by have:(n+1)*c<=1401*100:=Nat.mul_le_mul (by omega) hc;omega
theorem EqI.up (h:EqI rb F xs w wr x nv av ns ps)(o:Obj):w.heap.size<=(wr.alloc o).heap.size:=by have:=h.fr.size;simp;omega
theorem zBH (w:World)(A B:Obj):((w.alloc A).alloc B).heap[w.heap.size+1]?=some B:=zBU w A B
theorem zzm (w:World)(p:Addr)(v:Value)(o:Obj):((w.setCell p v).alloc o).heap[w.heap.size]?=some o:=by have h:=zc (w.setCell p v) o;rw[show (w.setCell p v).heap.size=w.heap.size by simp[World.setCell]] at h;exact h
structure Qw where
 v:Value
 subs:List (Value×Value)
def zy4 (e:Eqn)(p:Value×Value):List Value:=[p.1,p.2,xI e.a,xI e.ex]
def zyP:List Eqn->List (Value×Value)->List Value
 | e::l,p::ps=>zy4 e p++zyP l ps
 | _,_=>[]
theorem zCk:∀(L:List Eqn) (ps:List (Value×Value)) (e:Eqn) (p:Value×Value),L.length=ps.length->zyP (L++[e]) (ps++[p])=zyP L ps++zy4 e p:=by
 intro L;induction L with
 | nil=>intro ps e p h;cases ps with
   | nil=>simp[zyP]
   | cons _ _=>simp at h
 | cons e0 L ih=>intro ps e p h;cases ps with
   | nil=>simp at h
   | cons p0 ps=>simp only[List.cons_append,zyP,ih ps e p (by simpa using h),List.append_assoc]
def zyH (w:World)(rb:Nat)(q:Qw)(L:List Eqn):Prop :=
 L.length=q.subs.length/\w.ownsRow (rb+1) 275 4 q.v L.length (zyP L q.subs) /\
  ∀(i:Nat) (e:Eqn) (p:Value×Value),L[i]?=some e->q.subs[i]?=some p->w.ownsRow (rb+1) 9 1 p.1 e.ns.length (zzE e.ns)/\w.ownsRow (rb+1) 3 1 p.2 e.ps.length (zyp e.ps)
theorem zyH.kept {q:Qw}(h:zyH w rb q L)(hk:∀(k:Nat) (c:Array Value) (e:TypeId),rb+1<=k->xH w k c e->e≠190->w'.heap[k]?=w.heap[k]?):zyH w' rb q L:=by
 obtain⟨h1,h2,h3⟩:=h;have hrow:∀{e size n:Nat} {v:Value} {l:List Value},e≠190->w.ownsRow (rb+1) e size v n l->w'.ownsRow (rb+1) e size v n l:=by
  intro e size n v l he ho;refine zi ho (λk hb _ hv=>?_);rcases ho.2 with ⟨g1,_⟩|⟨g,cap,cur,g1,_,g2,_⟩
  . rw[g1] at hv;cases hv
  . rw[g1] at hv;have e1:g=k:=by simpa [Value.ownBlock] using hv
    rw[e1] at g2;exact hk k cur e hb g2 he
 exact⟨h1,hrow (by decide) h2,λi e p he hp=>⟨hrow (by decide) (h3 i e p he hp).1,hrow (by decide) (h3 i e p he hp).2⟩⟩
theorem zyH.ev {q:Qw}{LX:List Ex}(h:zyH w rb q L)(hX:zx8 w (rb+1) xs LX)(hE:Ev rb xs xs' w w'):zyH w' rb q L :=
 h.kept (λk c e hb hc he=>hE.cell (zA hc) (by omega) (hX.apart hc he))
structure EqK (rb:Nat) (F:Fx) (xs:Rw) (w:World) (wr:World) (x:St) (xs':Rw) (nv av:Value) (ns:List ByteArray) (ps:List Nat) (a ex:Nat):Prop where
 lies:zs wr rb F xs' x
 rep:zx8 wr (rb+1) xs' x.L
 ev:Ev rb xs xs' w wr
 box:wr.heap[w.heap.size]?=some (zzK nv av a ex)
 ownN:wr.ownsRow w.heap.size 9 1 nv ns.length (zzE ns)
 ownA:wr.ownsRow w.heap.size 3 1 av ps.length (zyp ps)
 lt:rb<w.heap.size
theorem EqI.k (h:EqI rb F xs w wr x nv av ns ps)(hX:zx8 w (rb+1) xs x.L):EqK rb F xs w wr x xs nv av ns ps 0 0 :=
 ⟨h.lies,hX.fr h.fr,Ev.of_fr h.fr,h.box,h.ownN,h.ownA,h.lt⟩
theorem EqK.sub {xs2:Rw}(h:EqK rb F xs w wr x xs' nv av ns ps a ex)(hE:Ev rb xs' xs2 wr w2)(hL:zs w2 rb F xs2 x2)(hX:zx8 w2 (rb+1) xs2 x2.L):EqK rb F xs w w2 x2 xs2 nv av ns ps a ex:=by
 have hlt:=h.lt;refine⟨hL,hX,h.ev.trans hE,?_,?_,?_,hlt⟩
 . rw[hE.cell (zA h.box) (by omega) (h.rep.apart h.box (by decide)),h.box]
 . exact zi h.ownN (λk h1 h2 h3=>hE.cell h2 (by omega) (zy2 h.ownN h.rep.2.1 (by decide) h3))
 . exact zi h.ownA (λk h1 h2 h3=>hE.cell h2 (by omega) (zy2 h.ownA h.rep.2.1 (by decide) h3))
theorem EqK.fr (h:EqK rb F xs w wr x xs' nv av ns ps a ex)(hF:Fr (·=rb) wr w2)(hL:zs w2 rb F xs' x2)(hx:x2.L=x.L):EqK rb F xs w w2 x2 xs' nv av ns ps a ex :=
 h.sub (Ev.of_fr hF) hL (by rw[hx];exact h.rep.fr hF)
theorem EqK.set {a' ex':Nat}(h:EqK rb F xs w wr x xs' nv av ns ps a ex){b:Nat}{c:Array Value}{e:TypeId}{f:Nat×Nat}(hb:wr.heap[b]?=some (.cells c e f))(hw:w.heap.size<=b)(h1:190≠e)(h2:3≠e)(h3:9≠e)(i:Nat)(v:Value)(hbox:(wr.setCell (xD b i) v).heap[w.heap.size]?=some (zzK nv av a' ex')):EqK rb F xs w (wr.setCell (xD b i) v) x xs' nv av ns ps a' ex':=by
 have hlt:=h.lt;have hset:∀{base e' size n:Nat} {u:Value} {l:List Value},wr.ownsRow base e' size u n l->e'≠e->(wr.setCell (xD b i) v).ownsRow base e' size u n l:=by intro base e' size n u l g1 g2;refine zi g1 (λk _ _ hk=>Below.heap_setCell _ _ _ _ ?_);intro e2;have e1:k=b:=e2;exact zyL g1 hb g2 (e1▸hk)
 refine⟨h.lies.setOther (by omega) _ _,⟨h.rep.1,hset h.rep.2.1 h1,λi e' u hi hu=>hset (h.rep.2.2 i e' u hi hu) h2⟩,?_,hbox,hset h.ownN h3,hset h.ownA h2,hlt⟩;obtain⟨⟨a1,a2⟩,a3⟩:=h.ev;exact⟨⟨a1.setCell (Or.inr hw) _,a2⟩,a3⟩
theorem EqK.setA (h:EqK rb F xs w wr x xs' nv av ns ps a ex)(a':Nat):EqK rb F xs w (wr.setCell (xD w.heap.size 2) (xI a')) x xs' nv av ns ps a' ex :=
 h.set h.box (Nat.le_refl _) (by decide) (by decide) (by decide) _ _ (zh _ _ _ _ h.box)
theorem EqK.setE (h:EqK rb F xs w wr x xs' nv av ns ps a ex)(e':Nat):EqK rb F xs w (wr.setCell (xD w.heap.size 3) (xI e')) x xs' nv av ns ps a e' :=
 h.set h.box (Nat.le_refl _) (by decide) (by decide) (by decide) _ _ (zh _ _ _ _ h.box)
def FrQ (rb:Nat)(xs:Rw)(q:Qw)(w w':World):Prop:=Fr (λk=>k=rb∨xs.v.ownBlock=some k∨q.v.ownBlock=some k) w w'
def zCb (rb:Nat)(F:Fx)(xs:Rw)(q:Qw)(w:World)(st':St)(L':List Eqn)(e:Ending)(w':World):Prop :=
 ∃(xs':Rw) (q':Qw),e=.returned (.tuple #[])/\zs w' rb { F with qs:=q'.v } xs' st'/\zx8 w' (rb+1) xs' st'.L/\zyH w' rb q' L'/\FrQ rb xs q w w' /\
  (∀k,xs'.v.ownBlock=some k->xs.v.ownBlock=some k∨w.heap.size<=k)/\(∀k,q'.v.ownBlock=some k->q.v.ownBlock=some k∨w.heap.size<=k)
theorem Tryz.infoEqR:(prog.info? 275).map (λi=>(i.zero,i.size,i.bytes))=some (some (.agg #[.slice none 0 0,.slice none 0 0,xI 0,xI 0]),4,64):=by kernel_rfl
theorem zDM {e:Eqn}{p:Value×Value}(h1:p.1.oneCell'=true)(h2:p.2.oneCell'=true):∀u∈zy4 e p,u.oneCell'=true:=by
 intro u hu;simp only[zy4,List.mem_cons,List.not_mem_nil,or_false] at hu;rcases hu with rfl|rfl|rfl|rfl
 . exact h1
 . exact h2
 . rfl
 . rfl
theorem zBz {q:Qw}{w9 w1:World}{st':St}{v':Value}{B:Obj}
 (hK:EqK rb F xs w w9 st' xs' nv av ns ps a ex) (hQ:zyH w9 rb q L) (hL:zs w1 rb F xs' st')
 (HOWN:w1.ownsRow (rb+1) 275 4 v' (L.length+1) (zyP L q.subs++zy4 ⟨ns,ps,a,ex⟩ (nv,av))) (HG:(w9.alloc B).drew.grownBy w1 q.v.ownBlock) (HNEW:∀k,v'.ownBlock=some k->q.v.ownBlock=some k∨(w9.alloc B).drew.heap.size<=k) :
 ∃(xs2:Rw) (q':Qw),zs (w1.setCell (xD rb 14) v') rb { F with qs:=q'.v } xs2 st'/\zx8 (w1.setCell (xD rb 14) v') (rb+1) xs2 st'.L/\zyH (w1.setCell (xD rb 14) v') rb q' (L++[⟨ns,ps,a,ex⟩])/\FrQ rb xs q w (w1.setCell (xD rb 14) v') /\
  (∀k,xs2.v.ownBlock=some k->xs.v.ownBlock=some k∨w.heap.size<=k)/\(∀k,q'.v.ownBlock=some k->q.v.ownBlock=some k∨w.heap.size<=k):=by
 have hlt:=hK.lt;have hz:=hK.ev.1.1.size;have hrow:∀{base e size n:Nat} {u:Value} {l:List Value},w9.ownsRow base e size u n l->rb<base->e≠275->(w1.setCell (xD rb 14) v').ownsRow base e size u n l:=by intro base e size n u l h1 hb h2;refine ownsRow_setCell_below ?_ hb v';exact zyQ (zyb h1 B) HG (λk hk=>zy2 (zyb h1 B) (zyb hQ.2.1 B) h2 hk)
 refine⟨xs',⟨v',q.subs++[(nv,av)]⟩,hL.setQs v',⟨hK.rep.1,hrow hK.rep.2.1 (Nat.lt_succ_self _) (by decide),λi e u hi hu=>hrow (hK.rep.2.2 i e u hi hu) (Nat.lt_succ_self _) (by decide)⟩,⟨by simp[hQ.1],?_,?_⟩,?_,?_,?_⟩
 . have h:=ownsRow_setCell_below HOWN (a:=(xD rb 14)) (Nat.lt_succ_self rb) v';rw[<- zCk _ _ _ _ hQ.1] at h;simpa using h
 . intro i e p hi hp;simp only at hp;rcases Nat.lt_or_ge i L.length with hlt2|hge
   . rw[List.getElem?_append_left hlt2] at hi;rw[List.getElem?_append_left (by have:=hQ.1;omega)] at hp;have h3:=hQ.2.2 i e p hi hp;exact⟨hrow h3.1 (Nat.lt_succ_self _) (by decide),hrow h3.2 (Nat.lt_succ_self _) (by decide)⟩
   . rw[List.getElem?_append_right hge] at hi;rw[List.getElem?_append_right (by have:=hQ.1;omega)] at hp;have h0:i-L.length=0:=(by have:=(List.getElem?_eq_some_iff.1 hi).1;simp at this;omega);rw[h0] at hi;rw[<- hQ.1,h0] at hp;simp at hi hp;subst hi hp;exact⟨zR (hrow hK.ownN hlt (by decide)) hlt,zR (hrow hK.ownA hlt (by decide)) hlt⟩
 . have h1:FrQ rb xs q w (w9.alloc B).drew:=((hK.ev.1.1.mono (λk _ h=>h.elim Or.inl (λh=>Or.inr (Or.inl h)))).alloc _).drew;have h2:Fr (λk=>k=rb∨xs.v.ownBlock=some k∨q.v.ownBlock=some k) (w9.alloc B).drew w1:=⟨HG.os,HG.tape,HG.output,HG.size,λk hk hn=>HG.block k hk (λe=>hn (Or.inr (Or.inr e.symm)))⟩;exact (Fr.trans h1 h2).setCell (Or.inl (Or.inl rfl)) v'
 . exact hK.ev.1.2
 . intro k hk;rcases HNEW k hk with h|h
   . exact Or.inl h
   . have h1:(w9.alloc B).drew.heap.size=w9.heap.size+1:=(by show (w9.heap.push B).size=_;simp);exact Or.inr (by omega)
end
section
open Go.RowKit
theorem zCm {r17 r18:Fn}(_h17:zyq 17 260 r17)(_g17:zv 17 r17)(h18:zyq 18 260 r18)(g18:zv 18 r18)(rb:Nat)(F:Fx)(xs:Rw)(q:Qw)(st:St)(eqs:List Eqn)(p:Nat)(w:World)(hI:Inv p st)(ho:st.op=0)(hq:eqs.length<=100000)(hfq:F.qs=q.v)(hR:zs w rb F xs st)(hX:zx8 w (rb+1) xs st.L)(hQ:zyH w rb q eqs)(hm:st.is 4 [40]=false):xK 212 #[xP rb] w (zCb rb F xs q w (zF r17 r18 st eqs).1 (zF r17 r18 st eqs).2):=by
 have hM:zF r17 r18 st eqs=((r18 (st.name.must 4 [61])).1.must 4 [59],eqs++[⟨[st.t.s],[st.t.a],st.name.t.a,(r18 (st.name.must 4 [61])).2⟩]):=by
  have h1:zaH st=⟨st.name,[st.t.s],[st.t.a]⟩:=by unfold zaH;rw[if_neg (by rw[hm];simp)]
  unfold zF zck;simp only[h1];rw[if_neg (by rw[hm];simp)]
 rw[hM];have e1:=Fwd.name hI;have e2:=Fwd.must e1.inv 4 [61];have o2:(st.name.must 4 [61]).op=0:=by rw[St.must_op,St.name_op,ho]
 have g3:=g18 (st.name.must 4 [61]) p e2.inv (by omega);obtain⟨h0,h1,h2,h3,h4,h5,h6,h7,h8,h9,h10,h11,h12,h13,h14⟩:=hR.cells;have hlt:=hR.lt;obtain⟨i0,hi,hz0,hz1,hz2⟩:=info_parts Tryz.infoInt;obtain⟨iS,hiS,hzS0,hzS1,hzS2⟩:=info_parts Tryz.infoStrR;obtain⟨iQ,hiQ,hzQ0,hzQ1,hzQ2⟩:=info_parts Tryz.infoEqR;have mxQ:eqs.length+1<=maxLen:=by unfold maxLen;omega
 have byQ:(eqs.length+1)*64<=140737488355328:=by omega
 have HFQ:=za hfq;have HR:=za hR;have HX:=za hX;have HQ:=za hQ;have HI:=za hI;have E1:=za e1.inv.ok;have E2:=za e2.inv;have G3:=za g3.inv.ok;have OO:Hid (18<=(st.name.must 4 [61]).op+18):=by unfold Hid;omega
 clear hR hX hQ hI hM e1 e2 g3 o2 hfq hq;generalize hy:r18 (st.name.must 4 [61])=y at *;have HY:=za hy;clear hy;go_enter func212,ntmps212;go_wp2_with fail;have hC0:EqI rb F xs w (w.alloc (zzK (.slice none 0 0) (.slice none 0 0) 0 0)) st (.slice none 0 0) (.slice none 0 0) [] []:=⟨HR.o.alloc _,(Fr.refl _ _).alloc _,zc _ _,World.ownsRow_nil _ _ _ _,World.ownsRow_nil _ _ _ _,hlt⟩;have HC0:=za hC0;clear hC0;refine (zya rb F xs st 4 4 rfl ⟨#[40]⟩ [40] (by decide +kernel) _ HC0.o.lies).mono ?_;rintro e w' ⟨rfl,rfl⟩;go_wp2_with fail;refine (zyr rb F xs st _ HI.o.ok HC0.o.lies).mono ?_;rintro e w1 ⟨rfl,hL1,hF1⟩;have HC1:=za ((HC0.o.go hF1 hL1).alloc (z8 st.t));have hz1':=hF1.size;have hbq:w.heap.size<w1.heap.size:=by simp at hz1';omega
 have nbq:w1.heap.size≠w.heap.size:=by omega
 have nbq2:¬w.heap.size=w1.heap.size:=by omega
 have HB1:=za (zc w1 (z8 st.t));obtain⟨d0,d1,d2,d3⟩:=zyx (HC0.o.go hF1 hL1).box;have nrb:¬w.heap.size=rb:=by omega
 have nrb2:¬rb=w.heap.size:=by omega
 clear hL1 hF1 hz1';go_wp2_with (first|(at_builtin;refine zyl _ rfl (.tmp 20) (.tmp 23) 188 rfl w.heap.size 3 i0 _ 1 8 underlying188 hi hz0 hz1 hz2 rfl (by decide) (.slice none 0 0) ([]:List Nat).length (zyp ([]:List Nat)) rfl (zD HQN.o.ownA _) (xD wN.heap.size 0) 1 1 [xI (st.t.a:Nat)] rfl rfl (zN (zzm wN _ _ _) rfl) zzI (zzB (by simp)) (zzC (by simp) (by omega)) (HQN.o.up _) ?_;intro vA wA hown hgrow _;have HQA:=za (HQN.o.appA hown hgrow);have hbx:=HQN.o.grown_appA hgrow HQN.o.box (by decide);obtain⟨c0,c1,c2,c3⟩:=zyx hbx;have cf:=zyE hbx;have hbt:=HQN.o.grown_appA hgrow ((Below.heap_setCell _ _ _ _ nbq).trans HBN.o) (by decide);obtain⟨t0,t1,t2,t3,t4⟩:=zyj hbt;have HBA:=za hbt;have hlA:=(HQN.o.lies.alloc _).grown hgrow (zyB HQN.o.ownA hlt);obtain⟨l0,l1,l2,l3,l4,l5,l6,l7,l8,l9,l10,l11,l12,l13,l14⟩:=hlA.cells;have lf:=hlA.frozen;clear hlA;obtain⟨gA,capA,rfl,_⟩:=zM hown (by omega);clear hown hgrow hbx hbt)|(at_builtin;refine zyl _ rfl (.tmp 13) (.tmp 16) 79 rfl w.heap.size 9 iS _ 1 16 underlying79 hiS hzS0 hzS1 hzS2 rfl (by decide) (.slice none 0 0) ([]:List ByteArray).length (zzE ([]:List ByteArray)) rfl (zD HC1.o.ownN _) (xD (w1.heap.size+1) 0) 1 1 [.string st.t.s] rfl rfl (zN (zBH w1 _ _) rfl) zAM (zzB (by simp)) (zzC (by simp) (by omega)) (HC1.o.up _) ?_;intro vN wN hown hgrow _;have HQN:=za (HC1.o.appN hown hgrow);have hbx:=HC1.o.grown_appN hgrow HC1.o.box (by decide);obtain⟨c0,c1,c2,c3⟩:=zyx hbx;have cf:=zyE hbx;have hbt:=HC1.o.grown_appN hgrow HB1.o (by decide);obtain⟨t0,t1,t2,t3,t4⟩:=zyj hbt;have HBN:=za hbt;obtain⟨gN,capN,rfl,_⟩:=zM hown (by omega);clear hown hgrow hbx hbt));have HK2:=za ((HQA.o.k (by rw[St.name_L];exact HX.o)).setA st.name.t.a);refine (zyc rb F xs st.name 4 4 rfl ⟨#[61]⟩ [61] (by decide +kernel) _ E1.o HK2.o.lies).mono ?_;rintro e w4 ⟨rfl,hL4,hF4⟩;have HK4:=za (HK2.o.fr hF4 hL4 (St.must_L _ _ _));clear hL4 hF4;go_wp2_with fail;refine (h18 rb F xs (st.name.must 4 [61]) p _ E2.o OO.o HK4.o.lies HK4.o.rep).mono ?_;rw[HY.o];rintro e w5 ⟨xs5,rfl,hL5,hX5,hV5⟩;have HK5:=za (HK4.o.sub hV5 hL5 hX5);clear hL5 hX5 hV5;obtain⟨m0,m1,m2,m3⟩:=zyx HK5.o.box;have mf:=zyE HK5.o.box;go_wp2_with fail;have HK6:=za (HK5.o.setE y.2);refine (zyc rb F xs5 y.1 4 4 rfl ⟨#[59]⟩ [59] (by decide +kernel) _ G3.o HK6.o.lies).mono ?_;rintro e w7 ⟨rfl,hL7,hF7⟩;have HK7:=za (HK6.o.fr hF7 hL7 (St.must_L _ _ _));clear hL7 hF7 m0 m1 m2 m3 mf c0 c1 c2 c3 cf t0 t1 t2 t3 t4 d0 d1 d2 d3 lf;go_wp2_with fail;refine zn (λw9=>EqK rb F xs w w9 (y.1.must 4 [59]) xs5 _ _ [st.t.s] [st.t.a] st.name.t.a y.2/\zyH w9 rb q eqs) ⟨HK7.o,HQ.o.ev HX.o HK7.o.ev⟩ ?_;rintro w9 ⟨hK9,hQ9⟩;obtain⟨b0,b1,b2,b3⟩:=zyx hK9.box;obtain⟨r0,r1,r2,r3,r4,r5,r6,r7,r8,r9,r10,r11,r12,r13,r14⟩:=hK9.lies.cells;rw[HFQ.o] at r14;have rf:=hK9.lies.frozen;have hlt9:=hK9.lies.lt;have o1:=zyI hK9.ownN;have o2:=zyI hK9.ownA;have HK9:=za hK9;have HQ9:=za hQ9;clear hK9 hQ9
 go_region_law (
  refine zJ _ rfl (.tmp 99) (.tmp 101) 101 rfl (rb+1) 275 iQ _ 4 64 underlying101 hiQ hzQ0 hzQ1 hzQ2 rfl (by decide) q.v eqs.length (zyP eqs q.subs) rfl (zyb HQ9.o.2.1 _) (xD w9.heap.size 0) 1 1 (zy4 ⟨[st.t.s],[st.t.a],st.name.t.a,y.2⟩ (_,_)) rfl rfl (zN (zyy w9 _) rfl) (zDM o1 o2) mxQ byQ (zyM hlt9 _) ?_;intro v' w10 hown hgrow hnew;have HOWN:=za hown;have HNEW:=za hnew;have HG:=za hgrow;have hL10:=(HK9.o.lies.alloc _).drew.grown hgrow (zyB HQ9.o.2.1 (Nat.lt_succ_self _));obtain⟨q0,q1,q2,q3,q4,q5,q6,q7,q8,q9,q10,q11,q12,q13,q14⟩:=hL10.cells;have qf:=hL10.frozen;have HL10:=za hL10;obtain⟨g,cap,rfl,hg⟩:=zM hown (by omega);clear hown hgrow hL10 hnew)
 all_goals go_wp2_with fail
 all_goals go_end0
 all_goals (obtain⟨xs2,q2,z1,z2,z3,z4,z5,z6⟩:=zBz HK9.o HQ9.o HL10.o HOWN.o HG.o HNEW.o;exact⟨xs2,q2,rfl,z1,z2,z3,z4,z5,z6⟩)
end
end Go.Proofs.YtmfkofhgdjechaaGreatDoor
