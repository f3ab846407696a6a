/- Part 39 of the proof: ErrC ErrD ErrE CanA CanB CanC. -/
import Derived.Test.YtmfkofhgdjechaaGreatDoorK37
set_option maxRecDepth 100000
set_option maxHeartbeats 8000000
namespace Go.Proofs.YtmfkofhgdjechaaGreatDoor
open Go.Proofs.Tryz
section
open Go.RowKit Go.Extern.Stop Go.Stop Go.Extern
def ErT (w:World):Prop:=w.cell? (xD 7 0)=some (.iface 241 (.agg #[.pointer (some (xD 21 42))]))
theorem zxw (p:ByteArray)(k:Value)(at':Int)(hk:k.oneCell'=true)(tb:Nat)(o1 o2:Value)(w:World)(hT:ErT w)(ht:w.heap[tb]?=some (.cells #[o1,o2] 58 (0,0))) :
 xK 28 #[zeQ p (.iface 58 (.agg #[k,xI at'])),.iface 60 (xP tb)] w λe w'=>e=.returned (.bool true)/\w'.heap[tb]?=some (.cells #[k,xI at'] 58 (0,0))/\Fr (λj=>j=tb) w w':=by
 have htb:=ze ht;have h50:∀args w,(callFunc 61 args).run prog w=(((λargs=>ReflectliteValue.unpack (args.getD 0 (.tuple #[]))) args).run prog w).andThen λv w'=>.ok (.value v) w':=run_callFunc_extern func61 (by kernel_rfl) (by kernel_rfl) (by kernel_rfl) (by kernel_rfl);have h51:=@run_callFunc_extern prog 62 _ (ReflectliteValue.methodAny (ReflectliteValue.valueError "reflectlite.Value.Type" 0) (λt _ _ _=>ReflectliteType.toType t)) func62 (by kernel_rfl) (by kernel_rfl) (by kernel_rfl) (by kernel_rfl);have h52:=@run_callFunc_extern prog 63 _ (ReflectliteValue.method (ReflectliteValue.valueError "reflectlite.Value.IsNil" 0) ReflectliteValue.isNil) func63 (by kernel_rfl) (by kernel_rfl) (by kernel_rfl) (by kernel_rfl);have hKd:=@run_callFunc_extern prog 341 _ (ReflectliteType.abiMethod λt=>do pure (.int .u8 (<- Rtype.kind t))) func341 (by kernel_rfl) (by kernel_rfl) (by kernel_rfl) (by kernel_rfl);have hEl:=@run_callFunc_extern prog 355 _ (ReflectliteType.method ReflectliteType.elem) func355 (by kernel_rfl) (by kernel_rfl) (by kernel_rfl) (by kernel_rfl);have hIm:=@run_callFunc_extern prog 356 _ (ReflectliteType.relation "Implements" ReflectliteType.implements_) func356 (by kernel_rfl) (by kernel_rfl) (by kernel_rfl) (by kernel_rfl);have hTo:=Tryz.callTypeOf;have hAs:=@run_callFunc_extern prog 353 _ (ReflectliteType.relation "AssignableTo" ReflectliteType.assignableTo) func353 (by kernel_rfl) (by kernel_rfl) (by kernel_rfl) (by kernel_rfl);have hVe:=@run_callFunc_extern prog 126 _ (ReflectliteValue.method (ReflectliteValue.valueError "reflectlite.Value.Elem" 0) ReflectliteValue.elem) func126 (by kernel_rfl) (by kernel_rfl) (by kernel_rfl) (by kernel_rfl);have hSe:=@run_callFunc_extern prog 127 _ ReflectliteValue.set func127 (by kernel_rfl) (by kernel_rfl) (by kernel_rfl) (by kernel_rfl);have mP:=Tryz.isMethodUnwrapP;have tF:=Tryz.typeOfF;have tP:=Tryz.typeOfPs;have mA:=Tryz.methodAssignableTo;have aF:=Tryz.assignableF;have aP:=Tryz.assignableP;have vF:=Tryz.valueOfF;have vP:=Tryz.valueOfP;have yP:=Tryz.typeP;have mK:=Tryz.methodKind;have mE:=Tryz.methodElem;have mI:=Tryz.methodImplements;have kP:=Tryz.kindP;have kF:=Tryz.kindF;have eP:=Tryz.elemP;have iF:=Tryz.implementsF;have nP:=Tryz.noAsP;have uP:=Tryz.hasUnwrapP;have h1:7<w.heap.size:=World.block_lt_of_cell? w (xD 7 0) hT;have hNi:=Tryz.isNilP (xD w.heap.size 0) (xD tb 0) ((w.alloc (.cells #[xP tb] 60)).alloc (.cells #[.pointer (some (xD 21 60)),xP w.heap.size,.int .u64 150] 122)) (by simp);have hg2:((w.alloc (.cells #[xP tb] 60)).alloc (.cells #[.pointer (some (xD 21 60)),xP w.heap.size,.int .u64 150] 122)).cell? (xD 7 0)=some (.iface 241 (.agg #[.pointer (some (xD 21 42))])):=zj _ (zj _ hT);unfold zeQ;go_enter func28,ntmps28;go_wp2;refine zn (λW=>(xB w W)/\w.heap.size+3<=W.heap.size/\W.heap[w.heap.size]?=some (.cells #[xP tb] 60 (0,0))/\W.heap[w.heap.size+2]?=some (.cells #[.pointer (some (xD 21 60)),xP w.heap.size,.int .u64 150] 122 (0,0))) ⟨zaU (zaU (zq w _) (Nat.le_refl _) _) (Nat.le_refl _) _,by simp,?_,?_⟩ ?_
 . rw[Below.heap_alloc _ _ _ (by simp;omega),Below.heap_alloc _ _ _ (by simp)];exact zc w _
 . have h9:=zc ((w.alloc (.cells #[xP tb] 60)).alloc (.cells #[.pointer (some (xD 21 60)),xP w.heap.size,.int .u64 150] 122)) (.cells #[.pointer (some (xD 21 60)),xP w.heap.size,.int .u64 150] 122);rw[zsb,zsb] at h9;exact h9
 rintro W0 ⟨HB0,hz0,HA0,HV0⟩;clear hNi hg2;obtain⟨v0,v1,v2,vf,vz⟩:=zL HV0;refine wp_loop_rounds 2 ?_;rw[rounds_succ];go_wp2_with (go_at_call 351;refine (zvv _ _ _).mono ?_;rintro e w1 ⟨rfl,HB1⟩);have hz1:=HB1.size;have hA1:=(HB1.block w.heap.size (by omega)).trans HA0;obtain⟨y0,y1,y2,yf,yz⟩:=zL ((HB1.block (w.heap.size+2) (by omega)).trans HV0);have Ht1:=(HB1.block tb (by have:=HB0.size;omega)).trans ((HB0.block tb htb).trans ht);have hE1:=Tryz.elemVP (xD w.heap.size 0) (xD tb 0) w1 (zu hA1).1;have hS1:=Tryz.setF tb w1.heap.size k (xI at') o1 o2 (w1.alloc (.cells #[k,xI at'] 58)) hk rfl (zc w1 _) ((Below.heap_alloc _ _ _ (ze Ht1)).trans Ht1);have hzt:=ze Ht1;clear v0 v1 v2 hA1;rw[rounds_succ];go_wp2;go_ret;refine⟨rfl,?_,?_⟩
 . exact (Below.heap_alloc _ _ _ (by simpa [World.setCell] using hzt)).trans (zdR Ht1 k (xI at'))
 . exact (((((Fr.of_below HB0).trans' (Fr.of_below (S:=λj=>j=tb) HB1) (λ_ _ e=>e)).setCell (Or.inl rfl) k).setCell (Or.inl rfl) _).alloc _)
end
section
open Go.RowKit Go.Extern.Stop Go.Stop Go.Extern
def Sn (S:Nat->Addr)(w:World):Prop:=∀i j,1<=i->i<=11->1<=j->j<=11->∀W,xB w W->(binOp .eql 42 (sen S i) (sen S j)).run prog W=.ok (.bool (decide (i=j))) W
def zvh (S:Nat->Addr)(p:ByteArray)(er:Nat)(at':Int):Value:=zeQ p (.iface 58 (.agg #[sen S er,xI at']))
theorem zwl (S:Nat->Addr)(p:ByteArray)(er:Nat)(at':Int)(w:World)(h1:1<=er)(h2:er<=11)(hG:Gl S w)(hE:Sn S w) :
 xK 29 #[zvh S p er at'] w λe w'=>e=.returned (xI (er:Nat))/\xB w w':=by
 have HGl:=za (λW (hB:xB w W)=>hG.of (T:=λ_=>False) (Fr.of_below hB) (λ_ e=>e.elim));have HIs:=za (λj (j1:1<=j) (j2:j<=11) W (hB:xB w W)=>zxv p (S er) (S j) at' (decide (er=j)) W (λW' hB'=>hE er j h1 h2 j1 j2 W' (hB.trans (hB'.mono hB.size))));have HB0:=za (Below.refl w.heap.size w);have c1:=hG.long;unfold zvh;unfold sen zeQ at *;have:er=1∨er=2∨er=3∨er=4∨er=5∨er=6∨er=7∨er=8∨er=9∨er=10∨er=11:=by omega
 rcases this with rfl|rfl|rfl|rfl|rfl|rfl|rfl|rfl|rfl|rfl|rfl
 . go_enter func29,ntmps29;go_wp2_with (first|(go_at_call 65;refine (HIs.o 1 (by decide) (by decide) _ HB0.o).mono ?_;rintro e w1 ⟨rfl,hB⟩;have HB1:=za (HB0.o.trans (hB.mono HB0.o.size));have c2:=(HGl.o _ HB1.o).syn));go_ret;exact⟨rfl,HB1.o⟩
 . go_enter func29,ntmps29;go_wp2_with (first|(go_at_call 65;refine (HIs.o 2 (by decide) (by decide) _ HB1.o).mono ?_;rintro e w2 ⟨rfl,hB⟩;have HB2:=za (HB1.o.trans (hB.mono HB1.o.size));have c3:=(HGl.o _ HB2.o).deep)|(go_at_call 65;refine (HIs.o 1 (by decide) (by decide) _ HB0.o).mono ?_;rintro e w1 ⟨rfl,hB⟩;have HB1:=za (HB0.o.trans (hB.mono HB0.o.size));have c2:=(HGl.o _ HB1.o).syn));go_ret;exact⟨rfl,HB2.o⟩
 . go_enter func29,ntmps29;go_wp2_with (first|(go_at_call 65;refine (HIs.o 3 (by decide) (by decide) _ HB2.o).mono ?_;rintro e w3 ⟨rfl,hB⟩;have HB3:=za (HB2.o.trans (hB.mono HB2.o.size));have c4:=(HGl.o _ HB3.o).name)|(go_at_call 65;refine (HIs.o 2 (by decide) (by decide) _ HB1.o).mono ?_;rintro e w2 ⟨rfl,hB⟩;have HB2:=za (HB1.o.trans (hB.mono HB1.o.size));have c3:=(HGl.o _ HB2.o).deep)|(go_at_call 65;refine (HIs.o 1 (by decide) (by decide) _ HB0.o).mono ?_;rintro e w1 ⟨rfl,hB⟩;have HB1:=za (HB0.o.trans (hB.mono HB0.o.size));have c2:=(HGl.o _ HB1.o).syn));go_ret;exact⟨rfl,HB3.o⟩
 . go_enter func29,ntmps29;go_wp2_with (first|(go_at_call 65;refine (HIs.o 4 (by decide) (by decide) _ HB3.o).mono ?_;rintro e w4 ⟨rfl,hB⟩;have HB4:=za (HB3.o.trans (hB.mono HB3.o.size));have c5:=(HGl.o _ HB4.o).type)|(go_at_call 65;refine (HIs.o 3 (by decide) (by decide) _ HB2.o).mono ?_;rintro e w3 ⟨rfl,hB⟩;have HB3:=za (HB2.o.trans (hB.mono HB2.o.size));have c4:=(HGl.o _ HB3.o).name)|(go_at_call 65;refine (HIs.o 2 (by decide) (by decide) _ HB1.o).mono ?_;rintro e w2 ⟨rfl,hB⟩;have HB2:=za (HB1.o.trans (hB.mono HB1.o.size));have c3:=(HGl.o _ HB2.o).deep)|(go_at_call 65;refine (HIs.o 1 (by decide) (by decide) _ HB0.o).mono ?_;rintro e w1 ⟨rfl,hB⟩;have HB1:=za (HB0.o.trans (hB.mono HB0.o.size));have c2:=(HGl.o _ HB1.o).syn));go_ret;exact⟨rfl,HB4.o⟩
 . go_enter func29,ntmps29;go_wp2_with (first|(go_at_call 65;refine (HIs.o 5 (by decide) (by decide) _ HB4.o).mono ?_;rintro e w5 ⟨rfl,hB⟩;have HB5:=za (HB4.o.trans (hB.mono HB4.o.size));have c6:=(HGl.o _ HB5.o).clock)|(go_at_call 65;refine (HIs.o 4 (by decide) (by decide) _ HB3.o).mono ?_;rintro e w4 ⟨rfl,hB⟩;have HB4:=za (HB3.o.trans (hB.mono HB3.o.size));have c5:=(HGl.o _ HB4.o).type)|(go_at_call 65;refine (HIs.o 3 (by decide) (by decide) _ HB2.o).mono ?_;rintro e w3 ⟨rfl,hB⟩;have HB3:=za (HB2.o.trans (hB.mono HB2.o.size));have c4:=(HGl.o _ HB3.o).name)|(go_at_call 65;refine (HIs.o 2 (by decide) (by decide) _ HB1.o).mono ?_;rintro e w2 ⟨rfl,hB⟩;have HB2:=za (HB1.o.trans (hB.mono HB1.o.size));have c3:=(HGl.o _ HB2.o).deep)|(go_at_call 65;refine (HIs.o 1 (by decide) (by decide) _ HB0.o).mono ?_;rintro e w1 ⟨rfl,hB⟩;have HB1:=za (HB0.o.trans (hB.mono HB0.o.size));have c2:=(HGl.o _ HB1.o).syn));go_ret;exact⟨rfl,HB5.o⟩
 . go_enter func29,ntmps29;go_wp2_with (first|(go_at_call 65;refine (HIs.o 6 (by decide) (by decide) _ HB5.o).mono ?_;rintro e w6 ⟨rfl,hB⟩;have HB6:=za (HB5.o.trans (hB.mono HB5.o.size));have c7:=(HGl.o _ HB6.o).define)|(go_at_call 65;refine (HIs.o 5 (by decide) (by decide) _ HB4.o).mono ?_;rintro e w5 ⟨rfl,hB⟩;have HB5:=za (HB4.o.trans (hB.mono HB4.o.size));have c6:=(HGl.o _ HB5.o).clock)|(go_at_call 65;refine (HIs.o 4 (by decide) (by decide) _ HB3.o).mono ?_;rintro e w4 ⟨rfl,hB⟩;have HB4:=za (HB3.o.trans (hB.mono HB3.o.size));have c5:=(HGl.o _ HB4.o).type)|(go_at_call 65;refine (HIs.o 3 (by decide) (by decide) _ HB2.o).mono ?_;rintro e w3 ⟨rfl,hB⟩;have HB3:=za (HB2.o.trans (hB.mono HB2.o.size));have c4:=(HGl.o _ HB3.o).name)|(go_at_call 65;refine (HIs.o 2 (by decide) (by decide) _ HB1.o).mono ?_;rintro e w2 ⟨rfl,hB⟩;have HB2:=za (HB1.o.trans (hB.mono HB1.o.size));have c3:=(HGl.o _ HB2.o).deep)|(go_at_call 65;refine (HIs.o 1 (by decide) (by decide) _ HB0.o).mono ?_;rintro e w1 ⟨rfl,hB⟩;have HB1:=za (HB0.o.trans (hB.mono HB0.o.size));have c2:=(HGl.o _ HB1.o).syn));go_ret;exact⟨rfl,HB6.o⟩
 . go_enter func29,ntmps29;go_wp2_with (first|(go_at_call 65;refine (HIs.o 7 (by decide) (by decide) _ HB6.o).mono ?_;rintro e w7 ⟨rfl,hB⟩;have HB7:=za (HB6.o.trans (hB.mono HB6.o.size));have c8:=(HGl.o _ HB7.o).cause)|(go_at_call 65;refine (HIs.o 6 (by decide) (by decide) _ HB5.o).mono ?_;rintro e w6 ⟨rfl,hB⟩;have HB6:=za (HB5.o.trans (hB.mono HB5.o.size));have c7:=(HGl.o _ HB6.o).define)|(go_at_call 65;refine (HIs.o 5 (by decide) (by decide) _ HB4.o).mono ?_;rintro e w5 ⟨rfl,hB⟩;have HB5:=za (HB4.o.trans (hB.mono HB4.o.size));have c6:=(HGl.o _ HB5.o).clock)|(go_at_call 65;refine (HIs.o 4 (by decide) (by decide) _ HB3.o).mono ?_;rintro e w4 ⟨rfl,hB⟩;have HB4:=za (HB3.o.trans (hB.mono HB3.o.size));have c5:=(HGl.o _ HB4.o).type)|(go_at_call 65;refine (HIs.o 3 (by decide) (by decide) _ HB2.o).mono ?_;rintro e w3 ⟨rfl,hB⟩;have HB3:=za (HB2.o.trans (hB.mono HB2.o.size));have c4:=(HGl.o _ HB3.o).name)|(go_at_call 65;refine (HIs.o 2 (by decide) (by decide) _ HB1.o).mono ?_;rintro e w2 ⟨rfl,hB⟩;have HB2:=za (HB1.o.trans (hB.mono HB1.o.size));have c3:=(HGl.o _ HB2.o).deep)|(go_at_call 65;refine (HIs.o 1 (by decide) (by decide) _ HB0.o).mono ?_;rintro e w1 ⟨rfl,hB⟩;have HB1:=za (HB0.o.trans (hB.mono HB0.o.size));have c2:=(HGl.o _ HB1.o).syn));go_ret;exact⟨rfl,HB7.o⟩
 . go_enter func29,ntmps29;go_wp2_with (first|(go_at_call 65;refine (HIs.o 8 (by decide) (by decide) _ HB7.o).mono ?_;rintro e w8 ⟨rfl,hB⟩;have HB8:=za (HB7.o.trans (hB.mono HB7.o.size));have c9:=(HGl.o _ HB8.o).limit)|(go_at_call 65;refine (HIs.o 7 (by decide) (by decide) _ HB6.o).mono ?_;rintro e w7 ⟨rfl,hB⟩;have HB7:=za (HB6.o.trans (hB.mono HB6.o.size));have c8:=(HGl.o _ HB7.o).cause)|(go_at_call 65;refine (HIs.o 6 (by decide) (by decide) _ HB5.o).mono ?_;rintro e w6 ⟨rfl,hB⟩;have HB6:=za (HB5.o.trans (hB.mono HB5.o.size));have c7:=(HGl.o _ HB6.o).define)|(go_at_call 65;refine (HIs.o 5 (by decide) (by decide) _ HB4.o).mono ?_;rintro e w5 ⟨rfl,hB⟩;have HB5:=za (HB4.o.trans (hB.mono HB4.o.size));have c6:=(HGl.o _ HB5.o).clock)|(go_at_call 65;refine (HIs.o 4 (by decide) (by decide) _ HB3.o).mono ?_;rintro e w4 ⟨rfl,hB⟩;have HB4:=za (HB3.o.trans (hB.mono HB3.o.size));have c5:=(HGl.o _ HB4.o).type)|(go_at_call 65;refine (HIs.o 3 (by decide) (by decide) _ HB2.o).mono ?_;rintro e w3 ⟨rfl,hB⟩;have HB3:=za (HB2.o.trans (hB.mono HB2.o.size));have c4:=(HGl.o _ HB3.o).name)|(go_at_call 65;refine (HIs.o 2 (by decide) (by decide) _ HB1.o).mono ?_;rintro e w2 ⟨rfl,hB⟩;have HB2:=za (HB1.o.trans (hB.mono HB1.o.size));have c3:=(HGl.o _ HB2.o).deep)|(go_at_call 65;refine (HIs.o 1 (by decide) (by decide) _ HB0.o).mono ?_;rintro e w1 ⟨rfl,hB⟩;have HB1:=za (HB0.o.trans (hB.mono HB0.o.size));have c2:=(HGl.o _ HB1.o).syn));go_ret;exact⟨rfl,HB8.o⟩
 . go_enter func29,ntmps29;go_wp2_with (first|(go_at_call 65;refine (HIs.o 9 (by decide) (by decide) _ HB8.o).mono ?_;rintro e w9 ⟨rfl,hB⟩;have HB9:=za (HB8.o.trans (hB.mono HB8.o.size));have c10:=(HGl.o _ HB9.o).image)|(go_at_call 65;refine (HIs.o 8 (by decide) (by decide) _ HB7.o).mono ?_;rintro e w8 ⟨rfl,hB⟩;have HB8:=za (HB7.o.trans (hB.mono HB7.o.size));have c9:=(HGl.o _ HB8.o).limit)|(go_at_call 65;refine (HIs.o 7 (by decide) (by decide) _ HB6.o).mono ?_;rintro e w7 ⟨rfl,hB⟩;have HB7:=za (HB6.o.trans (hB.mono HB6.o.size));have c8:=(HGl.o _ HB7.o).cause)|(go_at_call 65;refine (HIs.o 6 (by decide) (by decide) _ HB5.o).mono ?_;rintro e w6 ⟨rfl,hB⟩;have HB6:=za (HB5.o.trans (hB.mono HB5.o.size));have c7:=(HGl.o _ HB6.o).define)|(go_at_call 65;refine (HIs.o 5 (by decide) (by decide) _ HB4.o).mono ?_;rintro e w5 ⟨rfl,hB⟩;have HB5:=za (HB4.o.trans (hB.mono HB4.o.size));have c6:=(HGl.o _ HB5.o).clock)|(go_at_call 65;refine (HIs.o 4 (by decide) (by decide) _ HB3.o).mono ?_;rintro e w4 ⟨rfl,hB⟩;have HB4:=za (HB3.o.trans (hB.mono HB3.o.size));have c5:=(HGl.o _ HB4.o).type)|(go_at_call 65;refine (HIs.o 3 (by decide) (by decide) _ HB2.o).mono ?_;rintro e w3 ⟨rfl,hB⟩;have HB3:=za (HB2.o.trans (hB.mono HB2.o.size));have c4:=(HGl.o _ HB3.o).name)|(go_at_call 65;refine (HIs.o 2 (by decide) (by decide) _ HB1.o).mono ?_;rintro e w2 ⟨rfl,hB⟩;have HB2:=za (HB1.o.trans (hB.mono HB1.o.size));have c3:=(HGl.o _ HB2.o).deep)|(go_at_call 65;refine (HIs.o 1 (by decide) (by decide) _ HB0.o).mono ?_;rintro e w1 ⟨rfl,hB⟩;have HB1:=za (HB0.o.trans (hB.mono HB0.o.size));have c2:=(HGl.o _ HB1.o).syn));go_ret;exact⟨rfl,HB9.o⟩
 . go_enter func29,ntmps29;go_wp2_with (first|(go_at_call 65;refine (HIs.o 10 (by decide) (by decide) _ HB9.o).mono ?_;rintro e w10 ⟨rfl,hB⟩;have HB10:=za (HB9.o.trans (hB.mono HB9.o.size)))|(go_at_call 65;refine (HIs.o 9 (by decide) (by decide) _ HB8.o).mono ?_;rintro e w9 ⟨rfl,hB⟩;have HB9:=za (HB8.o.trans (hB.mono HB8.o.size));have c10:=(HGl.o _ HB9.o).image)|(go_at_call 65;refine (HIs.o 8 (by decide) (by decide) _ HB7.o).mono ?_;rintro e w8 ⟨rfl,hB⟩;have HB8:=za (HB7.o.trans (hB.mono HB7.o.size));have c9:=(HGl.o _ HB8.o).limit)|(go_at_call 65;refine (HIs.o 7 (by decide) (by decide) _ HB6.o).mono ?_;rintro e w7 ⟨rfl,hB⟩;have HB7:=za (HB6.o.trans (hB.mono HB6.o.size));have c8:=(HGl.o _ HB7.o).cause)|(go_at_call 65;refine (HIs.o 6 (by decide) (by decide) _ HB5.o).mono ?_;rintro e w6 ⟨rfl,hB⟩;have HB6:=za (HB5.o.trans (hB.mono HB5.o.size));have c7:=(HGl.o _ HB6.o).define)|(go_at_call 65;refine (HIs.o 5 (by decide) (by decide) _ HB4.o).mono ?_;rintro e w5 ⟨rfl,hB⟩;have HB5:=za (HB4.o.trans (hB.mono HB4.o.size));have c6:=(HGl.o _ HB5.o).clock)|(go_at_call 65;refine (HIs.o 4 (by decide) (by decide) _ HB3.o).mono ?_;rintro e w4 ⟨rfl,hB⟩;have HB4:=za (HB3.o.trans (hB.mono HB3.o.size));have c5:=(HGl.o _ HB4.o).type)|(go_at_call 65;refine (HIs.o 3 (by decide) (by decide) _ HB2.o).mono ?_;rintro e w3 ⟨rfl,hB⟩;have HB3:=za (HB2.o.trans (hB.mono HB2.o.size));have c4:=(HGl.o _ HB3.o).name)|(go_at_call 65;refine (HIs.o 2 (by decide) (by decide) _ HB1.o).mono ?_;rintro e w2 ⟨rfl,hB⟩;have HB2:=za (HB1.o.trans (hB.mono HB1.o.size));have c3:=(HGl.o _ HB2.o).deep)|(go_at_call 65;refine (HIs.o 1 (by decide) (by decide) _ HB0.o).mono ?_;rintro e w1 ⟨rfl,hB⟩;have HB1:=za (HB0.o.trans (hB.mono HB0.o.size));have c2:=(HGl.o _ HB1.o).syn));go_ret;exact⟨rfl,HB10.o⟩
 . go_enter func29,ntmps29;go_wp2_with (first|(go_at_call 65;refine (HIs.o 10 (by decide) (by decide) _ HB9.o).mono ?_;rintro e w10 ⟨rfl,hB⟩;have HB10:=za (HB9.o.trans (hB.mono HB9.o.size)))|(go_at_call 65;refine (HIs.o 9 (by decide) (by decide) _ HB8.o).mono ?_;rintro e w9 ⟨rfl,hB⟩;have HB9:=za (HB8.o.trans (hB.mono HB8.o.size));have c10:=(HGl.o _ HB9.o).image)|(go_at_call 65;refine (HIs.o 8 (by decide) (by decide) _ HB7.o).mono ?_;rintro e w8 ⟨rfl,hB⟩;have HB8:=za (HB7.o.trans (hB.mono HB7.o.size));have c9:=(HGl.o _ HB8.o).limit)|(go_at_call 65;refine (HIs.o 7 (by decide) (by decide) _ HB6.o).mono ?_;rintro e w7 ⟨rfl,hB⟩;have HB7:=za (HB6.o.trans (hB.mono HB6.o.size));have c8:=(HGl.o _ HB7.o).cause)|(go_at_call 65;refine (HIs.o 6 (by decide) (by decide) _ HB5.o).mono ?_;rintro e w6 ⟨rfl,hB⟩;have HB6:=za (HB5.o.trans (hB.mono HB5.o.size));have c7:=(HGl.o _ HB6.o).define)|(go_at_call 65;refine (HIs.o 5 (by decide) (by decide) _ HB4.o).mono ?_;rintro e w5 ⟨rfl,hB⟩;have HB5:=za (HB4.o.trans (hB.mono HB4.o.size));have c6:=(HGl.o _ HB5.o).clock)|(go_at_call 65;refine (HIs.o 4 (by decide) (by decide) _ HB3.o).mono ?_;rintro e w4 ⟨rfl,hB⟩;have HB4:=za (HB3.o.trans (hB.mono HB3.o.size));have c5:=(HGl.o _ HB4.o).type)|(go_at_call 65;refine (HIs.o 3 (by decide) (by decide) _ HB2.o).mono ?_;rintro e w3 ⟨rfl,hB⟩;have HB3:=za (HB2.o.trans (hB.mono HB2.o.size));have c4:=(HGl.o _ HB3.o).name)|(go_at_call 65;refine (HIs.o 2 (by decide) (by decide) _ HB1.o).mono ?_;rintro e w2 ⟨rfl,hB⟩;have HB2:=za (HB1.o.trans (hB.mono HB1.o.size));have c3:=(HGl.o _ HB2.o).deep)|(go_at_call 65;refine (HIs.o 1 (by decide) (by decide) _ HB0.o).mono ?_;rintro e w1 ⟨rfl,hB⟩;have HB1:=za (HB0.o.trans (hB.mono HB0.o.size));have c2:=(HGl.o _ HB1.o).syn));go_ret;exact⟨rfl,HB10.o⟩
attribute [local go_sem ↓] Go.wp_at_zero Go.wp_at_succ
theorem zvk (S:Nat->Addr)(p:ByteArray)(er:Nat)(at':Int)(w:World)(h1:1<=er)(h2:er<=11)(hG:Gl S w)(hE:Sn S w)(hT:ErT w) :
 xK 12 #[zvh S p er at'] w λe w'=>e=.returned (.tuple #[xI (er:Nat),xI at'])/\xB w w':=by
 have HGl:=za (λW (hB:xB w W)=>hG.of (T:=λ_=>False) (Fr.of_below hB) (λ_ e=>e.elim));have HSn:Hid (∀W,xB w W->Sn S W):=λW hB i j i1 i2 j1 j2 W' hB'=>hE i j i1 i2 j1 j2 W' (hB.trans (hB'.mono hB.size));have HT:Hid (∀W,xB w W->ErT W):=λW hB=>(World.cell?_of_block (w:=w) (a:=(xD 7 0)) (hB.block _ (World.block_lt_of_cell? w (xD 7 0) hT))).trans hT;unfold zvh zeQ;have HAs:=za (λ(tb:Nat) (o1 o2:Value) W (hB:xB w W)=>zxw p (sen S er) at' rfl tb o1 o2 W (HT.o W hB));have HNu:=za (λW (hB:xB w W)=>zwl S p er at' W h1 h2 (HGl.o W hB) (HSn.o W hB));unfold zvh zeQ at HNu;unfold zeQ at HAs;go_enter func12,ntmps12;go_upto_region 5 with (go_at_call 28;refine (HAs.o w.heap.size _ _ _ (zq w _) (zc w _)).mono ?_;rintro e w1 ⟨rfl,HFb,HFr⟩);obtain⟨f0,f1,ff,fz⟩:=zp HFb;have HB1:xB w w1:=(((Fr.refl _ w).alloc _).trans HFr).below (B:=w.heap.size) (Nat.le_refl _) (λk e=>by omega);have HNd:=za (HNu.o w1.drew (HB1.drew))
 go_region_held3 (λw'=>w'.cell? (xD w.heap.size 1)=some (xI at'))
  (first|(with_reducible (repeat (first|assumption|refine zg ?_|refine zj _ ?_|refine zk (by omega) ?_|refine zd HB2.o ?_ (by first|omega|(rw[zsb];omega)))))|go_keep)
  (first|(go_at_call 29;refine HNd.o.mono ?_;rintro e w2 ⟨rfl,hB2⟩;have HB2:=za (zw hB2)))
 all_goals go_wp2_with fail
 all_goals refine bodyPost_ret (v:=.tuple #[xI (er:Nat),xI at']) (by simp[results,results12,go_sem]) rfl ⟨rfl,?_⟩
 all_goals exact HB1.trans (HB2.o.mono HB1.size)
end
section
open Go.RowKit
variable {N:Nat} {S:Nat->Addr} {w:World}
structure SnK (S:Nat->Addr) (w:World) (N:Nat):Prop where
 lo:21<=N
 blk:∀i,1<=i->i<=11->∃c t,w.heap[(S i).block]?=some (.cells c t (0,0))/\(S i).block<N
 ne:∀i j,1<=i->i<=11->1<=j->j<=11->i≠j->S i≠S j
 ert:ErT w
theorem SnK.old {w':World}(h:SnK S w N)(ho:Old N w w'):SnK S w' N:=by
 refine⟨h.lo,λi i1 i2=>?_,h.ne,?_⟩
 . obtain⟨c,t,h1,h2⟩:=h.blk i i1 i2;exact⟨c,t,(ho _ h2).trans h1,h2⟩
 . have:=h.lo;exact (World.cell?_of_block (w:=w) (a:=(xD 7 0)) (ho _ (by show 7<N;omega))).trans h.ert
theorem SnK.sn (h:SnK S w N):Sn S w:=by
 obtain⟨i0,hi0,hcmp⟩:=Option.map_eq_some_iff.1 Tryz.isComp;obtain⟨j0,hj0,hjs⟩:=Option.map_eq_some_iff.1 Tryz.isSize;intro i j i1 i2 j1 j2 W' hB;by_cases hij:i=j
 . subst hij;rw[decide_eq_true rfl];exact run_eql_iface_ptr_same (P:=prog) W' (S i) underlying42 underlying399 hi0 hcmp hj0
 . rw[decide_eq_false hij];obtain⟨c1,t1,q3,_⟩:=h.blk i i1 i2;obtain⟨c2,t2,r3,_⟩:=h.blk j j1 j2;exact run_eql_iface_ptr_other (P:=prog) W' underlying42 underlying399 hi0 hcmp hj0 (by rw[hjs];decide) (h.ne i j i1 i2 j1 j2 hij) ((hB.block _ (ze q3)).trans q3) ((hB.block _ (ze r3)).trans r3)
end
section
open Go.RowKit
variable {ts:List ByteArray} {B lb:Nat} {tv tv':Value} {w w':World}
theorem Tryz.infoStr:(prog.info? 9).map (λi=>(i.zero,i.size,i.bytes))=some (some (.string ⟨#[]⟩),1,16):=by kernel_rfl
theorem zxa (lb B:Nat)(tv:Value)(n:Nat)(xs:List Value)(g k c:Nat)(news:List Value)(w:World)(Hb:xH w lb #[tv] 81)(hown:w.ownsRow B 9 1 tv n xs)(hlB:lb<B)(hBw:B<=w.heap.size)(hl:news.length=k)(Hn:∀j u,news[j]?=some u->w.cell? (((xD g 0):Addr).add j)=some u)(H1:∀u∈news,u.oneCell'=true)(hk:n+k<=10000000000) :
 xK 77 #[xP lb,xS g k c] w (λe w'=>e=.returned (.tuple #[])/\∃v',w'.heap[lb]?=some (.cells #[v'] 81 (0,0))/\w'.ownsRow B 9 1 v' (n+k) (xs++news)/\Fr (λj=>j=lb∨tv.ownBlock=some j) w w'/\(∀j,v'.ownBlock=some j->tv.ownBlock=some j∨w.heap.size<=j)):=by
 obtain⟨h0,hf,hz⟩:=zu Hb;obtain⟨i0,hi,hi0,hi1,hi2⟩:=info_parts Tryz.infoStr;have mx:n+k<=maxLen:=by unfold maxLen;omega
 have by':(n+k)*16<=140737488355328:=by omega
 have Hown:=za hown;clear hown;go_enter func77,ntmps77;go_wp2_with (at_builtin;refine zbz _ rfl (.tmp 8) (.tmp 9) 79 rfl B 9 i0 _ 1 16 underlying79 hi hi0 hi1 hi2 rfl (by decide) tv n xs rfl Hown.o (xD g 0) k c news rfl (by omega) Hn H1 mx by' hBw ?_;intro v' w9 hown hgrow Hnew9;obtain⟨x9,cp9,rfl⟩:=zbP hown;have HF9:=Fr.of_grown hgrow;have Hb9:=(HF9.block lb hz (λh=>by have:=(Hown.o.lt _ h).1;omega)).trans Hb;obtain⟨m0,mf,mz⟩:=zu Hb9;have Hown9:=za hown;clear hown hgrow);go_end0;refine⟨rfl,_,zh _ _ _ _ Hb9,zi Hown9.o (λj H1 _ _=>zr (by omega) rfl),?_,Hnew9⟩;exact ((HF9.mono (λ_ _ h=>Or.inr h):Fr (λj=>j=lb∨tv.ownBlock=some j) w w9)).setCell (Or.inl (Or.inl rfl)) _
structure Ln (lb B:Nat) (w:World) (tv:Value) (ts:List ByteArray):Prop where
 blk:w.heap[lb]?=some (.cells #[tv] 81 (0,0))
 own:w.ownsRow B 9 1 tv ts.length (ts.map .string)
structure LFr (lb:Nat) (w:World) (tv:Value) (w':World) (tv':Value):Prop where
 fr:Fr (λj=>j=lb∨tv.ownBlock=some j) w w'
 new:∀j,tv'.ownBlock=some j->tv.ownBlock=some j∨w.heap.size<=j
theorem LFr.refl (lb:Nat)(w:World)(tv:Value):LFr lb w tv w tv:=⟨Fr.refl _ w,λ_ h=>Or.inl h⟩
theorem LFr.trans {w1 w2:World}{tv1 tv2:Value}(h:LFr lb w tv w1 tv1)(k:LFr lb w1 tv1 w2 tv2):LFr lb w tv w2 tv2:=by
 have hz:=h.fr.size;refine⟨h.fr.trans' k.fr (λi hi hs=>?_),λj hj=>?_⟩
 . rcases hs with hs|hs
   . exact Or.inl hs
   . rcases h.new i hs with h'|h'
     . exact Or.inr h'
     . omega
 . rcases k.new j hj with h'|h'
   . exact h.new j h'
   . right;omega
theorem LFr.alloc (h:LFr lb w tv w' tv')(o:Obj):LFr lb w tv (w'.alloc o) tv':=⟨h.fr.alloc o,h.new⟩
theorem LFr.undrew (h:LFr lb w.drew tv w' tv'):LFr lb w tv w' tv':=⟨h.fr.undrew,h.new⟩
def zwt (lb B:Nat)(w:World)(tv:Value)(ts:List ByteArray)(e:Ending)(w':World):Prop :=
 e=.returned (.tuple #[])/\∃tv',Ln lb B w' tv' ts/\LFr lb w tv w' tv'
theorem Ln.alloc (h:Ln lb B w tv ts)(o:Obj):Ln lb B (w.alloc o) tv ts :=
 ⟨(Below.heap_alloc _ _ _ (ze h.blk)).trans h.blk,zD h.own o⟩
theorem Ln.drew (h:Ln lb B w tv ts):Ln lb B w.drew tv ts:=⟨h.blk,h.own⟩
theorem LFr.kept (h:LFr lb w tv w' tv')(_hl:Ln lb B w tv ts){b:Nat}{c:Array Value}{e:TypeId}{f:Nat×Nat}(hb:w.heap[b]?=some (.cells c e f))(hne:¬b=lb)(ht:¬tv.ownBlock=some b):w'.heap[b]?=some (.cells c e f) :=
 (h.fr.block b (ze hb) (λhs=>by rcases hs with hs|hs;exact hne hs;exact ht hs)).trans hb
theorem zxo {us:List ByteArray}:∀u∈us.map Value.string,u.oneCell'=true:=by intro u hu;obtain⟨s,_,rfl⟩:=List.mem_map.1 hu;rfl
theorem zvy (lb B:Nat)(w:World)(tv:Value)(ts us:List ByteArray)(g k c:Nat)(f:Nat×Nat)(h:Ln lb B w tv ts)(hlB:lb<B)(hBw:B<=w.heap.size)(hg:w.heap[g]?=some (.cells (us.map Value.string).toArray 9 f))(hk:us.length=k)(hm:ts.length+us.length<=10000000000) :
 xK 77 #[xP lb,xS g k c] w (zwt lb B w tv (ts++us)):=by
 refine (zxa lb B tv ts.length _ g k c (us.map .string) w h.blk h.own hlB hBw (by simpa using hk) (zN hg rfl) zxo (by omega)).mono ?_;rintro e w' ⟨rfl,v',k1,k2,k3,k4⟩;refine⟨rfl,v',⟨k1,?_⟩,k3,k4⟩;rw[List.length_append,List.map_append,hk];exact k2
end
section
open Go.RowKit
def zwe (b:Bool):ByteArray:=if b then ⟨#[98,111,111,108]⟩ else ⟨#[105,110,116]⟩
theorem zw6 (w:World)(o1 o2:Obj):((w.alloc o1).alloc o2).drew.heap[w.heap.size+1]?=some o2:=by have h:=zc (w.alloc o1) o2;rw[zsb] at h;exact h
theorem zwy {lb:Nat}{w w':World}{tv tv':Value}{o1 o2:Obj}(h:LFr lb ((w.alloc o1).alloc o2).drew tv w' tv'):LFr lb w tv w' tv':=(((LFr.refl lb w tv).alloc o1).alloc o2).trans h.undrew
theorem zvP:zH 140:=λ_ _=>by kernel_rfl
theorem zwo:zH 77:=λ_ _=>by kernel_rfl
theorem zvV (lb B:Nat)(w:World)(tv:Value)(ts:List ByteArray)(nm ck:ByteArray)(a sg pl ca:Nat)(ty:Nat)(b:Bool)(hty:ty=if b then 1 else 0)(H:Ln lb B w tv ts)(hlB:lb<B)(hBw:B<=w.heap.size)(hm:ts.length+3<=10000000000) :
 xK 80 #[xP lb,.agg #[.string nm,xI a,xI ty,xI sg,xI pl,.string ck,xI ca]] w (zwt lb B w tv (ts++[nm,⟨#[58]⟩,zwe b])):=by
 subst hty;go_enter func80,ntmps80;have HD:∀o1 o2,Hid (Ln lb B ((w.alloc o1).alloc o2).drew tv ts):=λo1 o2=>((H.alloc o1).alloc o2).drew;cases b with
 | true =>
   go_upto_region 1 with fail;go_region_law (first|(refine zbL rfl 140 (.tmp 9) 151 rfl zvP (xI 1) rfl (zfm _) ?_;rintro e w2 ⟨rfl,rfl⟩;refine⟨_,rfl,?_⟩)|(refine zde rfl 77 (.tmp 4) (.tmp 11) 140 79 rfl zwo (xP lb) (xS (w.heap.size+1) 3 3) rfl rfl (zvy lb B _ tv ts [nm,⟨#[58]⟩,zwe true] (w.heap.size+1) 3 3 (0,0) (HD _ _).out hlB (by simp;omega) (zw6 w _ _) rfl (by simpa using hm)) ?_;rintro e w' ⟨rfl,tv2,HL2,hf2⟩;refine⟨_,rfl,?_⟩;have HF2:=za (zwy hf2);clear hf2));all_goals go_wp2_with fail
   all_goals go_end0
   all_goals exact⟨rfl,_,HL2,HF2.o⟩
 | false =>
   go_upto_region 1 with fail;go_region_law (first|(refine zbL rfl 140 (.tmp 9) 151 rfl zvP (xI 0) rfl (zhC _) ?_;rintro e w2 ⟨rfl,rfl⟩;refine⟨_,rfl,?_⟩)|(refine zde rfl 77 (.tmp 4) (.tmp 11) 140 79 rfl zwo (xP lb) (xS (w.heap.size+1) 3 3) rfl rfl (zvy lb B _ tv ts [nm,⟨#[58]⟩,zwe false] (w.heap.size+1) 3 3 (0,0) (HD _ _).out hlB (by simp;omega) (zw6 w _ _) rfl (by simpa using hm)) ?_;rintro e w' ⟨rfl,tv2,HL2,hf2⟩;refine⟨_,rfl,?_⟩;have HF2:=za (zwy hf2);clear hf2));all_goals go_wp2_with fail
   all_goals go_end0
   all_goals exact⟨rfl,_,HL2,HF2.o⟩
end
section
open Go.RowKit
variable {ts:List ByteArray} {B lb:Nat} {tv0:Value} {W w0:World}
structure LnI (lb B:Nat) (w0:World) (tv0:Value) (W:World) (ts:List ByteArray):Prop where
 lt:lb<B
 le:B<=w0.heap.size
 lo:∀j,tv0.ownBlock=some j->B<=j/\j<w0.heap.size
 ln:∃tv,Ln lb B W tv ts/\LFr lb w0 tv0 W tv
theorem LnI.start {tv:Value}(h:Ln lb B W tv ts)(h1:lb<B)(h2:B<=W.heap.size):LnI lb B W tv W ts :=
 ⟨h1,h2,λj e=>h.own.lt j e,tv,h,LFr.refl _ _ _⟩
theorem LnI.size (h:LnI lb B w0 tv0 W ts):w0.heap.size<=W.heap.size:=by obtain⟨tv,_,h2⟩:=h.ln;exact h2.fr.size
theorem LnI.alloc (h:LnI lb B w0 tv0 W ts)(o:Obj):LnI lb B w0 tv0 (W.alloc o) ts:=by obtain⟨tv,h1,h2⟩:=h.ln;exact⟨h.lt,h.le,h.lo,tv,h1.alloc o,h2.alloc o⟩
theorem LnI.drew (h:LnI lb B w0 tv0 W ts):LnI lb B w0 tv0 W.drew ts:=by obtain⟨tv,h1,h2⟩:=h.ln;exact⟨h.lt,h.le,h.lo,tv,h1.drew,⟨h2.fr.os,h2.fr.tape,h2.fr.output,h2.fr.size,h2.fr.block⟩,h2.new⟩
theorem LnI.old (h:LnI lb B w0 tv0 W ts){N:Nat}(hN:N<=lb):Old N w0 W:=by
 obtain⟨tv,_,h2⟩:=h.ln;have:=h.lt;have:=h.le;refine h2.fr.old (by omega) ?_;rintro k (rfl|hk)
 . exact hN
 . have:=(h.lo k hk).1;omega
theorem LnI.kept (h:LnI lb B w0 tv0 W ts){b:Nat}{o:Obj}(hb:w0.heap[b]?=some o)(hne:¬b=lb)(ht:¬tv0.ownBlock=some b):W.heap[b]?=some o:=by obtain⟨tv,_,h2⟩:=h.ln;exact (h2.fr.block b (by have:=Array.getElem?_eq_some_iff.1 hb;exact this.1) (λhs=>by rcases hs with hs|hs;exact hne hs;exact ht hs)).trans hb
def zu1 (lb B:Nat)(w0:World)(tv0:Value)(ts:List ByteArray)(e:Ending)(w':World):Prop:=e=.returned (.tuple #[])/\LnI lb B w0 tv0 w' ts
theorem zu0 (h:LnI lb B w0 tv0 W ts)(us:List ByteArray)(k:Nat)(hk:us.length=k)(hm:(ts++us).length<=10000000000)(o:Obj)(ho:o=.cells (us.map Value.string).toArray 9 (0,0)) :
 xK 77 #[xP lb,xS W.heap.size k k] (W.alloc o) (zu1 lb B w0 tv0 (ts++us)):=by
 obtain⟨tv,h1,h2⟩:=h.ln;have:=h.lt;have:=h.le;have hz:=h2.fr.size;subst ho;refine (zvy lb B _ tv ts us W.heap.size k k (0,0) (h1.alloc _) h.lt (by rw[zsb];omega) (zc W _) hk (by simpa using hm)).mono ?_;rintro e w' ⟨rfl,tv',k1,k2⟩;exact⟨rfl,h.lt,h.le,h.lo,tv',k1,(h2.alloc _).trans k2⟩
theorem zu2 (h:LnI lb B w0 tv0 W ts)(us:List ByteArray)(k:Nat)(hk:us.length=k)(hm:(ts++us).length<=10000000000)(o:Obj)(ho:o=.cells (us.map Value.string).toArray 9 (0,0)) :
 xK 77 #[xP lb,xS W.heap.size k k] (W.alloc o).drew (zu1 lb B w0 tv0 (ts++us)):=by
 obtain⟨tv,h1,h2⟩:=h.ln;have:=h.lt;have:=h.le;have hz:=h2.fr.size;subst ho;refine (zvy lb B _ tv ts us W.heap.size k k (0,0) (h1.alloc _).drew h.lt (by show B<=(W.alloc _).heap.size;rw[zsb];omega) (zc W _) hk (by simpa using hm)).mono ?_;rintro e w' ⟨rfl,tv',k1,k2⟩;exact⟨rfl,h.lt,h.le,h.lo,tv',k1,(h2.alloc _).trans k2.undrew⟩
theorem zvq (F:FuncId)(caps:Array Value)(hF:zH F)(us:List (List ByteArray))
 (hw:∀(i:Nat) (u:List ByteArray),us[i]?=some u->∀(W:World) (ts:List ByteArray),LnI lb B w0 tv0 W ts->(ts++u).length<=10000000000->xK F (#[xI i]++caps) W (zu1 lb B w0 tv0 (ts++u)))
 (W:World) (ts:List ByteArray) (h:LnI lb B w0 tv0 W ts) (hm:(ts++zu5 us).length<=10000000000) (hl:us.length<=10000000000) :
 xK 78 #[xP lb,xI us.length,.func (.func F) #[] caps] W (zu1 lb B w0 tv0 (ts++zu5 us)):=by
 have hcf:∀(args:Array Value) (w:World),(callFunc F args).run prog w=.ok (.enter F args) w:=hF;have H:=za h;have Hw:=za hw;have hlen:∀k,(zu6 false (us.take k)).length<=(zu6 false us).length:=by
  intro k;have e:∀(l:List (List ByteArray)) (b:Bool) (k:Nat),(zu6 b (l.take k)).length<=(zu6 b l).length:=by
   intro l;induction l with
   | nil=>intro b k;simp
   | cons x l ih =>
     intro b k;cases k with
     | zero=>simp[zu6]
     | succ k=>rw[List.take_succ_cons,zu6,zu6];simp only[List.length_append];have:=ih true k;omega
  exact e us false k
 have hm':ts.length+(zu6 false us).length+2<=10000000000:=by unfold zu5 at hm;simp only[List.length_append,List.length_cons,List.length_nil] at hm;omega
 clear h hw hm;have Hlen:=za hlen;clear hlen;go_enter func78,ntmps78;go_wp2_with (go_at_call 77;refine (zu0 H.o [lpW] 1 rfl (by simp only[List.length_append,List.length_cons,List.length_nil];omega) _ rfl).mono ?_;rintro e w1 ⟨rfl,h1⟩;have H1:=za h1;clear h1);go_loopg [11] (us.length+1) (λj i wr=>∃k:Nat,k+j=us.length+1/\k<=us.length/\i=xI k/\Hid (LnI lb B w0 tv0 wr (ts++[lpW]++zu6 false (us.take k))));case atStart=>exact⟨0,by omega,Nat.zero_le _,rfl,za (by simpa [zu6] using H1.o)⟩
 case round =>
  obtain⟨k,hkj,hk,rfl,HI⟩:=hrel;have hLk:=Hlen.o k;by_cases hlt:k<us.length
  . obtain⟨u,hu⟩:∃u,us[k]?=some u:=⟨_,zsc hlt⟩;have HS:=za (zwx hu false);have hLs:=Hlen.o (k+1);have HC:=za (Hw.o k u hu);have e1:(zu6 false (us.take (k+1))).length=(zu6 false (us.take k)).length+((if 0<k then 1 else 0)+u.length):=by rw[HS.o];simp only[List.length_append];split <;> split <;> simp_all
    clear hu;by_cases h0:k=0
    . have hu2:ts.length+1+(zu6 false (us.take k)).length+u.length<=10000000000:=(by rw[if_neg (by omega)] at e1;omega);have h0':¬((0:Int)<(k:Int)):=(by omega);have H0:=za h0;clear e1 hLs hLk h0;go_wp2_with fail;with_reducible refine (HC.o _ _ HI.o (by simp only[List.length_append,List.length_cons,List.length_nil];omega)).mono ?_
      rintro e w2 ⟨rfl,h2⟩;have H2:=za h2;clear h2;go_wp2_with fail;go_roundg (gk-1);case measure=>omega
      refine⟨k+1,by omega,by omega,by go_num,za ?_⟩;have:=H2.o;rw[HS.o];simpa [List.append_assoc,zu6,H0.o] using this
    . have h0':0<k:=(by omega);have hu2:ts.length+1+(zu6 false (us.take k)).length+1+u.length<=10000000000:=(by simp[h0'] at e1;omega);clear e1 hLs hLk;go_wp2_with (go_at_call 77;refine (zu0 HI.o [coW] 1 rfl (by simp only[List.length_append,List.length_cons,List.length_nil];omega) _ rfl).mono ?_;rintro e w2 ⟨rfl,h2⟩;have H2:=za h2;clear h2);with_reducible refine (HC.o _ _ H2.o (by simp only[List.length_append,List.length_cons,List.length_nil];omega)).mono ?_
      rintro e w3 ⟨rfl,h3⟩;have H3:=za h3;clear h3;go_wp2_with fail;go_roundg (gk-1);case measure=>omega
      refine⟨k+1,by omega,by omega,by go_num,za ?_⟩;have:=H3.o;rw[HS.o];simpa [List.append_assoc,h0'] using this
  . have ek:k=us.length:=by omega
    subst ek;rw[List.take_length] at HI;go_wp2_with (go_at_call 77;refine (zu0 HI.o [rpW] 1 rfl (by simp only[List.length_append,List.length_cons,List.length_nil];omega) _ rfl).mono ?_;rintro e w2 ⟨rfl,h2⟩;have H2:=za h2;clear h2);first|go_end0|refine bodyPost_ret (results_none rfl _ _ _) rfl ?_
    exact⟨rfl,by simpa [zu5,List.append_assoc] using H2.o⟩
end
end Go.Proofs.YtmfkofhgdjechaaGreatDoor
