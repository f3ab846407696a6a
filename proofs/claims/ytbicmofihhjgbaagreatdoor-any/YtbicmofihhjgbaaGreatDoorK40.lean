/- Part 41 of the proof: ErrD GlF ArB ArC PlA ErrE PlB. -/
import Derived.Test.YtbicmofihhjgbaaGreatDoorK39
set_option maxRecDepth 100000
set_option maxHeartbeats 8000000
namespace Go.Proofs.YtbicmofihhjgbaaGreatDoor
open Go.Proofs.Tryz
section
open Go.RowKit Go.Extern.Stop Go.Stop Go.Extern
def Sn (S:Nat->Addr)(w:World):Prop:=∀i j,1<=i->i<=11->1<=j->j<=11->∀W,xB w W->(binOp .eql 53 (sen S i) (sen S j)).run prog W=.ok (.bool (decide (i=j))) W
def zvh (S:Nat->Addr)(p:ByteArray)(er:Nat)(at':Int):Value:=zeQ p (.iface 71 (.agg #[sen S er,xI at']))
theorem zwl (S:Nat->Addr)(p:ByteArray)(er:Nat)(at':Int)(w:World)(h1:1<=er)(h2:er<=11)(hG:Gl S w)(hE:Sn S w) :
 xK 40 #[zvh S p er at'] w λe w'=>e=.returned (xI (er:Nat))/\xB w w':=by
 have HGl:=za (λW (hB:xB w W)=>hG.of (T:=λ_=>False) (Fr.of_below hB) (λ_ e=>e.elim));have HIs:=za (λj (j1:1<=j) (j2:j<=11) W (hB:xB w W)=>zxv p (S er) (S j) at' (decide (er=j)) W (λW' hB'=>hE er j h1 h2 j1 j2 W' (hB.trans (hB'.mono hB.size))));have HB0:=za (Below.refl w.heap.size w);have c1:=hG.long;unfold zvh;unfold sen zeQ at *;have:er=1∨er=2∨er=3∨er=4∨er=5∨er=6∨er=7∨er=8∨er=9∨er=10∨er=11:=by omega
 rcases this with rfl|rfl|rfl|rfl|rfl|rfl|rfl|rfl|rfl|rfl|rfl
 . go_enter func40,ntmps40;go_wp2_with (first|(go_at_call 77;refine (HIs.o 1 (by decide) (by decide) _ HB0.o).mono ?_;rintro e w1 ⟨rfl,hB⟩;have HB1:=za (HB0.o.trans (hB.mono HB0.o.size));have c2:=(HGl.o _ HB1.o).syn));go_ret;exact⟨rfl,HB1.o⟩
 . go_enter func40,ntmps40;go_wp2_with (first|(go_at_call 77;refine (HIs.o 2 (by decide) (by decide) _ HB1.o).mono ?_;rintro e w2 ⟨rfl,hB⟩;have HB2:=za (HB1.o.trans (hB.mono HB1.o.size));have c3:=(HGl.o _ HB2.o).deep)|(go_at_call 77;refine (HIs.o 1 (by decide) (by decide) _ HB0.o).mono ?_;rintro e w1 ⟨rfl,hB⟩;have HB1:=za (HB0.o.trans (hB.mono HB0.o.size));have c2:=(HGl.o _ HB1.o).syn));go_ret;exact⟨rfl,HB2.o⟩
 . go_enter func40,ntmps40;go_wp2_with (first|(go_at_call 77;refine (HIs.o 3 (by decide) (by decide) _ HB2.o).mono ?_;rintro e w3 ⟨rfl,hB⟩;have HB3:=za (HB2.o.trans (hB.mono HB2.o.size));have c4:=(HGl.o _ HB3.o).name)|(go_at_call 77;refine (HIs.o 2 (by decide) (by decide) _ HB1.o).mono ?_;rintro e w2 ⟨rfl,hB⟩;have HB2:=za (HB1.o.trans (hB.mono HB1.o.size));have c3:=(HGl.o _ HB2.o).deep)|(go_at_call 77;refine (HIs.o 1 (by decide) (by decide) _ HB0.o).mono ?_;rintro e w1 ⟨rfl,hB⟩;have HB1:=za (HB0.o.trans (hB.mono HB0.o.size));have c2:=(HGl.o _ HB1.o).syn));go_ret;exact⟨rfl,HB3.o⟩
 . go_enter func40,ntmps40;go_wp2_with (first|(go_at_call 77;refine (HIs.o 4 (by decide) (by decide) _ HB3.o).mono ?_;rintro e w4 ⟨rfl,hB⟩;have HB4:=za (HB3.o.trans (hB.mono HB3.o.size));have c5:=(HGl.o _ HB4.o).type)|(go_at_call 77;refine (HIs.o 3 (by decide) (by decide) _ HB2.o).mono ?_;rintro e w3 ⟨rfl,hB⟩;have HB3:=za (HB2.o.trans (hB.mono HB2.o.size));have c4:=(HGl.o _ HB3.o).name)|(go_at_call 77;refine (HIs.o 2 (by decide) (by decide) _ HB1.o).mono ?_;rintro e w2 ⟨rfl,hB⟩;have HB2:=za (HB1.o.trans (hB.mono HB1.o.size));have c3:=(HGl.o _ HB2.o).deep)|(go_at_call 77;refine (HIs.o 1 (by decide) (by decide) _ HB0.o).mono ?_;rintro e w1 ⟨rfl,hB⟩;have HB1:=za (HB0.o.trans (hB.mono HB0.o.size));have c2:=(HGl.o _ HB1.o).syn));go_ret;exact⟨rfl,HB4.o⟩
 . go_enter func40,ntmps40;go_wp2_with (first|(go_at_call 77;refine (HIs.o 5 (by decide) (by decide) _ HB4.o).mono ?_;rintro e w5 ⟨rfl,hB⟩;have HB5:=za (HB4.o.trans (hB.mono HB4.o.size));have c6:=(HGl.o _ HB5.o).clock)|(go_at_call 77;refine (HIs.o 4 (by decide) (by decide) _ HB3.o).mono ?_;rintro e w4 ⟨rfl,hB⟩;have HB4:=za (HB3.o.trans (hB.mono HB3.o.size));have c5:=(HGl.o _ HB4.o).type)|(go_at_call 77;refine (HIs.o 3 (by decide) (by decide) _ HB2.o).mono ?_;rintro e w3 ⟨rfl,hB⟩;have HB3:=za (HB2.o.trans (hB.mono HB2.o.size));have c4:=(HGl.o _ HB3.o).name)|(go_at_call 77;refine (HIs.o 2 (by decide) (by decide) _ HB1.o).mono ?_;rintro e w2 ⟨rfl,hB⟩;have HB2:=za (HB1.o.trans (hB.mono HB1.o.size));have c3:=(HGl.o _ HB2.o).deep)|(go_at_call 77;refine (HIs.o 1 (by decide) (by decide) _ HB0.o).mono ?_;rintro e w1 ⟨rfl,hB⟩;have HB1:=za (HB0.o.trans (hB.mono HB0.o.size));have c2:=(HGl.o _ HB1.o).syn));go_ret;exact⟨rfl,HB5.o⟩
 . go_enter func40,ntmps40;go_wp2_with (first|(go_at_call 77;refine (HIs.o 6 (by decide) (by decide) _ HB5.o).mono ?_;rintro e w6 ⟨rfl,hB⟩;have HB6:=za (HB5.o.trans (hB.mono HB5.o.size));have c7:=(HGl.o _ HB6.o).define)|(go_at_call 77;refine (HIs.o 5 (by decide) (by decide) _ HB4.o).mono ?_;rintro e w5 ⟨rfl,hB⟩;have HB5:=za (HB4.o.trans (hB.mono HB4.o.size));have c6:=(HGl.o _ HB5.o).clock)|(go_at_call 77;refine (HIs.o 4 (by decide) (by decide) _ HB3.o).mono ?_;rintro e w4 ⟨rfl,hB⟩;have HB4:=za (HB3.o.trans (hB.mono HB3.o.size));have c5:=(HGl.o _ HB4.o).type)|(go_at_call 77;refine (HIs.o 3 (by decide) (by decide) _ HB2.o).mono ?_;rintro e w3 ⟨rfl,hB⟩;have HB3:=za (HB2.o.trans (hB.mono HB2.o.size));have c4:=(HGl.o _ HB3.o).name)|(go_at_call 77;refine (HIs.o 2 (by decide) (by decide) _ HB1.o).mono ?_;rintro e w2 ⟨rfl,hB⟩;have HB2:=za (HB1.o.trans (hB.mono HB1.o.size));have c3:=(HGl.o _ HB2.o).deep)|(go_at_call 77;refine (HIs.o 1 (by decide) (by decide) _ HB0.o).mono ?_;rintro e w1 ⟨rfl,hB⟩;have HB1:=za (HB0.o.trans (hB.mono HB0.o.size));have c2:=(HGl.o _ HB1.o).syn));go_ret;exact⟨rfl,HB6.o⟩
 . go_enter func40,ntmps40;go_wp2_with (first|(go_at_call 77;refine (HIs.o 7 (by decide) (by decide) _ HB6.o).mono ?_;rintro e w7 ⟨rfl,hB⟩;have HB7:=za (HB6.o.trans (hB.mono HB6.o.size));have c8:=(HGl.o _ HB7.o).cause)|(go_at_call 77;refine (HIs.o 6 (by decide) (by decide) _ HB5.o).mono ?_;rintro e w6 ⟨rfl,hB⟩;have HB6:=za (HB5.o.trans (hB.mono HB5.o.size));have c7:=(HGl.o _ HB6.o).define)|(go_at_call 77;refine (HIs.o 5 (by decide) (by decide) _ HB4.o).mono ?_;rintro e w5 ⟨rfl,hB⟩;have HB5:=za (HB4.o.trans (hB.mono HB4.o.size));have c6:=(HGl.o _ HB5.o).clock)|(go_at_call 77;refine (HIs.o 4 (by decide) (by decide) _ HB3.o).mono ?_;rintro e w4 ⟨rfl,hB⟩;have HB4:=za (HB3.o.trans (hB.mono HB3.o.size));have c5:=(HGl.o _ HB4.o).type)|(go_at_call 77;refine (HIs.o 3 (by decide) (by decide) _ HB2.o).mono ?_;rintro e w3 ⟨rfl,hB⟩;have HB3:=za (HB2.o.trans (hB.mono HB2.o.size));have c4:=(HGl.o _ HB3.o).name)|(go_at_call 77;refine (HIs.o 2 (by decide) (by decide) _ HB1.o).mono ?_;rintro e w2 ⟨rfl,hB⟩;have HB2:=za (HB1.o.trans (hB.mono HB1.o.size));have c3:=(HGl.o _ HB2.o).deep)|(go_at_call 77;refine (HIs.o 1 (by decide) (by decide) _ HB0.o).mono ?_;rintro e w1 ⟨rfl,hB⟩;have HB1:=za (HB0.o.trans (hB.mono HB0.o.size));have c2:=(HGl.o _ HB1.o).syn));go_ret;exact⟨rfl,HB7.o⟩
 . go_enter func40,ntmps40;go_wp2_with (first|(go_at_call 77;refine (HIs.o 8 (by decide) (by decide) _ HB7.o).mono ?_;rintro e w8 ⟨rfl,hB⟩;have HB8:=za (HB7.o.trans (hB.mono HB7.o.size));have c9:=(HGl.o _ HB8.o).limit)|(go_at_call 77;refine (HIs.o 7 (by decide) (by decide) _ HB6.o).mono ?_;rintro e w7 ⟨rfl,hB⟩;have HB7:=za (HB6.o.trans (hB.mono HB6.o.size));have c8:=(HGl.o _ HB7.o).cause)|(go_at_call 77;refine (HIs.o 6 (by decide) (by decide) _ HB5.o).mono ?_;rintro e w6 ⟨rfl,hB⟩;have HB6:=za (HB5.o.trans (hB.mono HB5.o.size));have c7:=(HGl.o _ HB6.o).define)|(go_at_call 77;refine (HIs.o 5 (by decide) (by decide) _ HB4.o).mono ?_;rintro e w5 ⟨rfl,hB⟩;have HB5:=za (HB4.o.trans (hB.mono HB4.o.size));have c6:=(HGl.o _ HB5.o).clock)|(go_at_call 77;refine (HIs.o 4 (by decide) (by decide) _ HB3.o).mono ?_;rintro e w4 ⟨rfl,hB⟩;have HB4:=za (HB3.o.trans (hB.mono HB3.o.size));have c5:=(HGl.o _ HB4.o).type)|(go_at_call 77;refine (HIs.o 3 (by decide) (by decide) _ HB2.o).mono ?_;rintro e w3 ⟨rfl,hB⟩;have HB3:=za (HB2.o.trans (hB.mono HB2.o.size));have c4:=(HGl.o _ HB3.o).name)|(go_at_call 77;refine (HIs.o 2 (by decide) (by decide) _ HB1.o).mono ?_;rintro e w2 ⟨rfl,hB⟩;have HB2:=za (HB1.o.trans (hB.mono HB1.o.size));have c3:=(HGl.o _ HB2.o).deep)|(go_at_call 77;refine (HIs.o 1 (by decide) (by decide) _ HB0.o).mono ?_;rintro e w1 ⟨rfl,hB⟩;have HB1:=za (HB0.o.trans (hB.mono HB0.o.size));have c2:=(HGl.o _ HB1.o).syn));go_ret;exact⟨rfl,HB8.o⟩
 . go_enter func40,ntmps40;go_wp2_with (first|(go_at_call 77;refine (HIs.o 9 (by decide) (by decide) _ HB8.o).mono ?_;rintro e w9 ⟨rfl,hB⟩;have HB9:=za (HB8.o.trans (hB.mono HB8.o.size));have c10:=(HGl.o _ HB9.o).image)|(go_at_call 77;refine (HIs.o 8 (by decide) (by decide) _ HB7.o).mono ?_;rintro e w8 ⟨rfl,hB⟩;have HB8:=za (HB7.o.trans (hB.mono HB7.o.size));have c9:=(HGl.o _ HB8.o).limit)|(go_at_call 77;refine (HIs.o 7 (by decide) (by decide) _ HB6.o).mono ?_;rintro e w7 ⟨rfl,hB⟩;have HB7:=za (HB6.o.trans (hB.mono HB6.o.size));have c8:=(HGl.o _ HB7.o).cause)|(go_at_call 77;refine (HIs.o 6 (by decide) (by decide) _ HB5.o).mono ?_;rintro e w6 ⟨rfl,hB⟩;have HB6:=za (HB5.o.trans (hB.mono HB5.o.size));have c7:=(HGl.o _ HB6.o).define)|(go_at_call 77;refine (HIs.o 5 (by decide) (by decide) _ HB4.o).mono ?_;rintro e w5 ⟨rfl,hB⟩;have HB5:=za (HB4.o.trans (hB.mono HB4.o.size));have c6:=(HGl.o _ HB5.o).clock)|(go_at_call 77;refine (HIs.o 4 (by decide) (by decide) _ HB3.o).mono ?_;rintro e w4 ⟨rfl,hB⟩;have HB4:=za (HB3.o.trans (hB.mono HB3.o.size));have c5:=(HGl.o _ HB4.o).type)|(go_at_call 77;refine (HIs.o 3 (by decide) (by decide) _ HB2.o).mono ?_;rintro e w3 ⟨rfl,hB⟩;have HB3:=za (HB2.o.trans (hB.mono HB2.o.size));have c4:=(HGl.o _ HB3.o).name)|(go_at_call 77;refine (HIs.o 2 (by decide) (by decide) _ HB1.o).mono ?_;rintro e w2 ⟨rfl,hB⟩;have HB2:=za (HB1.o.trans (hB.mono HB1.o.size));have c3:=(HGl.o _ HB2.o).deep)|(go_at_call 77;refine (HIs.o 1 (by decide) (by decide) _ HB0.o).mono ?_;rintro e w1 ⟨rfl,hB⟩;have HB1:=za (HB0.o.trans (hB.mono HB0.o.size));have c2:=(HGl.o _ HB1.o).syn));go_ret;exact⟨rfl,HB9.o⟩
 . go_enter func40,ntmps40;go_wp2_with (first|(go_at_call 77;refine (HIs.o 10 (by decide) (by decide) _ HB9.o).mono ?_;rintro e w10 ⟨rfl,hB⟩;have HB10:=za (HB9.o.trans (hB.mono HB9.o.size)))|(go_at_call 77;refine (HIs.o 9 (by decide) (by decide) _ HB8.o).mono ?_;rintro e w9 ⟨rfl,hB⟩;have HB9:=za (HB8.o.trans (hB.mono HB8.o.size));have c10:=(HGl.o _ HB9.o).image)|(go_at_call 77;refine (HIs.o 8 (by decide) (by decide) _ HB7.o).mono ?_;rintro e w8 ⟨rfl,hB⟩;have HB8:=za (HB7.o.trans (hB.mono HB7.o.size));have c9:=(HGl.o _ HB8.o).limit)|(go_at_call 77;refine (HIs.o 7 (by decide) (by decide) _ HB6.o).mono ?_;rintro e w7 ⟨rfl,hB⟩;have HB7:=za (HB6.o.trans (hB.mono HB6.o.size));have c8:=(HGl.o _ HB7.o).cause)|(go_at_call 77;refine (HIs.o 6 (by decide) (by decide) _ HB5.o).mono ?_;rintro e w6 ⟨rfl,hB⟩;have HB6:=za (HB5.o.trans (hB.mono HB5.o.size));have c7:=(HGl.o _ HB6.o).define)|(go_at_call 77;refine (HIs.o 5 (by decide) (by decide) _ HB4.o).mono ?_;rintro e w5 ⟨rfl,hB⟩;have HB5:=za (HB4.o.trans (hB.mono HB4.o.size));have c6:=(HGl.o _ HB5.o).clock)|(go_at_call 77;refine (HIs.o 4 (by decide) (by decide) _ HB3.o).mono ?_;rintro e w4 ⟨rfl,hB⟩;have HB4:=za (HB3.o.trans (hB.mono HB3.o.size));have c5:=(HGl.o _ HB4.o).type)|(go_at_call 77;refine (HIs.o 3 (by decide) (by decide) _ HB2.o).mono ?_;rintro e w3 ⟨rfl,hB⟩;have HB3:=za (HB2.o.trans (hB.mono HB2.o.size));have c4:=(HGl.o _ HB3.o).name)|(go_at_call 77;refine (HIs.o 2 (by decide) (by decide) _ HB1.o).mono ?_;rintro e w2 ⟨rfl,hB⟩;have HB2:=za (HB1.o.trans (hB.mono HB1.o.size));have c3:=(HGl.o _ HB2.o).deep)|(go_at_call 77;refine (HIs.o 1 (by decide) (by decide) _ HB0.o).mono ?_;rintro e w1 ⟨rfl,hB⟩;have HB1:=za (HB0.o.trans (hB.mono HB0.o.size));have c2:=(HGl.o _ HB1.o).syn));go_ret;exact⟨rfl,HB10.o⟩
 . go_enter func40,ntmps40;go_wp2_with (first|(go_at_call 77;refine (HIs.o 10 (by decide) (by decide) _ HB9.o).mono ?_;rintro e w10 ⟨rfl,hB⟩;have HB10:=za (HB9.o.trans (hB.mono HB9.o.size)))|(go_at_call 77;refine (HIs.o 9 (by decide) (by decide) _ HB8.o).mono ?_;rintro e w9 ⟨rfl,hB⟩;have HB9:=za (HB8.o.trans (hB.mono HB8.o.size));have c10:=(HGl.o _ HB9.o).image)|(go_at_call 77;refine (HIs.o 8 (by decide) (by decide) _ HB7.o).mono ?_;rintro e w8 ⟨rfl,hB⟩;have HB8:=za (HB7.o.trans (hB.mono HB7.o.size));have c9:=(HGl.o _ HB8.o).limit)|(go_at_call 77;refine (HIs.o 7 (by decide) (by decide) _ HB6.o).mono ?_;rintro e w7 ⟨rfl,hB⟩;have HB7:=za (HB6.o.trans (hB.mono HB6.o.size));have c8:=(HGl.o _ HB7.o).cause)|(go_at_call 77;refine (HIs.o 6 (by decide) (by decide) _ HB5.o).mono ?_;rintro e w6 ⟨rfl,hB⟩;have HB6:=za (HB5.o.trans (hB.mono HB5.o.size));have c7:=(HGl.o _ HB6.o).define)|(go_at_call 77;refine (HIs.o 5 (by decide) (by decide) _ HB4.o).mono ?_;rintro e w5 ⟨rfl,hB⟩;have HB5:=za (HB4.o.trans (hB.mono HB4.o.size));have c6:=(HGl.o _ HB5.o).clock)|(go_at_call 77;refine (HIs.o 4 (by decide) (by decide) _ HB3.o).mono ?_;rintro e w4 ⟨rfl,hB⟩;have HB4:=za (HB3.o.trans (hB.mono HB3.o.size));have c5:=(HGl.o _ HB4.o).type)|(go_at_call 77;refine (HIs.o 3 (by decide) (by decide) _ HB2.o).mono ?_;rintro e w3 ⟨rfl,hB⟩;have HB3:=za (HB2.o.trans (hB.mono HB2.o.size));have c4:=(HGl.o _ HB3.o).name)|(go_at_call 77;refine (HIs.o 2 (by decide) (by decide) _ HB1.o).mono ?_;rintro e w2 ⟨rfl,hB⟩;have HB2:=za (HB1.o.trans (hB.mono HB1.o.size));have c3:=(HGl.o _ HB2.o).deep)|(go_at_call 77;refine (HIs.o 1 (by decide) (by decide) _ HB0.o).mono ?_;rintro e w1 ⟨rfl,hB⟩;have HB1:=za (HB0.o.trans (hB.mono HB0.o.size));have c2:=(HGl.o _ HB1.o).syn));go_ret;exact⟨rfl,HB10.o⟩
attribute [local go_sem ↓] Go.wp_at_zero Go.wp_at_succ
theorem zvk (S:Nat->Addr)(p:ByteArray)(er:Nat)(at':Int)(w:World)(h1:1<=er)(h2:er<=11)(hG:Gl S w)(hE:Sn S w)(hT:ErT w) :
 xK 27 #[zvh S p er at'] w λe w'=>e=.returned (.tuple #[xI (er:Nat),xI at'])/\xB w w':=by
 have HGl:=za (λW (hB:xB w W)=>hG.of (T:=λ_=>False) (Fr.of_below hB) (λ_ e=>e.elim));have HSn:Hid (∀W,xB w W->Sn S W):=λW hB i j i1 i2 j1 j2 W' hB'=>hE i j i1 i2 j1 j2 W' (hB.trans (hB'.mono hB.size));have HT:Hid (∀W,xB w W->ErT W):=λW hB=>(World.cell?_of_block (w:=w) (a:=(xD 7 0)) (hB.block _ (World.block_lt_of_cell? w (xD 7 0) hT))).trans hT;unfold zvh zeQ;have HAs:=za (λ(tb:Nat) (o1 o2:Value) W (hB:xB w W)=>zxw p (sen S er) at' rfl tb o1 o2 W (HT.o W hB));have HNu:=za (λW (hB:xB w W)=>zwl S p er at' W h1 h2 (HGl.o W hB) (HSn.o W hB));unfold zvh zeQ at HNu;unfold zeQ at HAs;go_enter func27,ntmps27;go_upto_region 5 with (go_at_call 39;refine (HAs.o w.heap.size _ _ _ (zq w _) (zc w _)).mono ?_;rintro e w1 ⟨rfl,HFb,HFr⟩);obtain⟨f0,f1,ff,fz⟩:=zp HFb;have HB1:xB w w1:=(((Fr.refl _ w).alloc _).trans HFr).below (B:=w.heap.size) (Nat.le_refl _) (λk e=>by omega);have HNd:=za (HNu.o w1.drew (HB1.drew))
 go_region_held3 (λw'=>w'.cell? (xD w.heap.size 1)=some (xI at'))
  (first|(with_reducible (repeat (first|assumption|refine zg ?_|refine zj _ ?_|refine zk (by omega) ?_|refine zd HB2.o ?_ (by first|omega|(rw[zsb];omega)))))|go_keep)
  (first|(go_at_call 40;refine HNd.o.mono ?_;rintro e w2 ⟨rfl,hB2⟩;have HB2:=za (zw hB2)))
 all_goals go_wp2_with fail
 all_goals refine bodyPost_ret (v:=.tuple #[xI (er:Nat),xI at']) (by simp[results,results27,go_sem]) rfl ⟨rfl,?_⟩
 all_goals exact HB1.trans (HB2.o.mono HB1.size)
end
section
open Go.RowKit
theorem zwc (S:Nat->Addr)(a:Option Addr)(cp g:Nat)(l:List Nat)(hu:zcR l=none)(w:World)(hG:Gl S w)(hS:zbW w)(hE:Sn S w)(hT:ErT w)(hy:By w (.slice a l.length cp) g l)(hg:g<w.heap.size) :
 xK 25 #[.slice a l.length cp] w (λe w'=>e=.returned (.tuple #[.pointer none,xI 10])/\xB w w'):=by
 have HU:=za (zk9 S a cp g l w hG hS hy hg);rw[hu] at HU;unfold zfJ at HU;have HAn:=za (λp W (hB:xB w W)=>zvk S zg5 10 p W (by decide) (by decide) (hG.of (T:=λ_=>False) (Fr.of_below hB) (λ_ e=>e.elim)) (λi j i1 i2 j1 j2 W' hB'=>hE i j i1 i2 j1 j2 W' (hB.trans (hB'.mono hB.size))) ((World.cell?_of_block (w:=w) (a:=(xD 7 0)) (hB.block _ (World.block_lt_of_cell? w (xD 7 0) hT))).trans hT));unfold zvh at HAn;unfold zcE at HU;unfold zeQ at HU HAn;go_enter func25,ntmps25
 go_wp2_with (first
  | (go_at_call 27;refine (HAn.o _ _ HB1.o).mono ?_;rintro e w2 ⟨rfl,hB⟩;have HB2:=za hB)
  | (go_at_call 36;refine HU.o.mono ?_;rintro e w1 ⟨hB,p,rfl⟩;have HB1:=za hB))
 exact bodyPost_ret (v:=.tuple #[.pointer none,xI 10]) (by simp[results,results25,go_sem]) rfl ⟨rfl,HB1.o.trans (HB2.o.mono HB1.o.size)⟩
theorem zvx (S:Nat->Addr)(m:Ma)(sv:Value)(c:Cd)(cells slots:List Int)(w:World)(v:Value)(g:Nat)(l:List Int)(hG:Gl S w)(hE:Sn S w)(hT:ErT w)(h:MM w m sv c cells slots)(hl:Nm w v g l)(hr:(zdE c.bools l).isSome=true) :
 xK 21 #[xP m.M,v] w (λe w'=>e=.returned (.tuple #[.slice none 0 0,xI 11])/\xB w w'):=by
 have HSt:=za (zvZ S m.N m.mb m.cb _ _ _ m.bv m.cv m.rv c w v g l hG h.mc.mem.blk h.mc.code hl hr);obtain⟨a0,af,az⟩:=zu h.blk;have HAn:=za (λp W (hB:xB w W)=>zvk S zvG 11 p W (by decide) (by decide) (hG.of (T:=λ_=>False) (Fr.of_below hB) (λ_ e=>e.elim)) (λi j i1 i2 j1 j2 W' hB'=>hE i j i1 i2 j1 j2 W' (hB.trans (hB'.mono hB.size))) ((World.cell?_of_block (w:=w) (a:=(xD 7 0)) (hB.block _ (World.block_lt_of_cell? w (xD 7 0) hT))).trans hT));unfold zvh at HAn;unfold zeQ at HSt HAn;go_enter func21,ntmps21
 go_wp2_with (first
  | (go_at_call 27;refine (HAn.o _ _ HB1.o).mono ?_;rintro e w2 ⟨rfl,hB⟩;have HB2:=za hB)
  | (go_at_call 33;refine HSt.o.mono ?_;rintro e w1 ⟨p,rfl,hB⟩;have HB1:=za hB))
 exact bodyPost_ret (v:=.tuple #[.slice none 0 0,xI 11]) (by simp[results,results21,go_sem]) rfl ⟨rfl,HB1.o.trans (HB2.o.mono HB1.o.size)⟩
structure Ar (w:World) (N:Nat) (v:Value) (l:List Int):Prop where
 ex:∃a c,v=.slice a l.length c/\l.length<=9223372036854775807/\(l≠[]->∃g o,a=some (xD g o)/\g<N/\∀j x,l[j]?=some x->w.cell? (xD g (o+j))=some (xI x))
 wf:∀x∈l,-9223372036854775808<=x/\x<=9223372036854775807
theorem Ar.fr {w w':World}{N:Nat}{v:Value}{l:List Int}(h:Ar w N v l)(ho:Old N w w'):Ar w' N v l:=by obtain⟨a,c,h1,h2,h3⟩:=h.ex;refine⟨⟨a,c,h1,h2,λhl=>?_⟩,h.wf⟩;obtain⟨g,o,e1,e2,e3⟩:=h3 hl;exact⟨g,o,e1,e2,λj x hj=>(World.cell?_of_block (w:=w) (ho g e2)).trans (e3 j x hj)⟩
theorem Ar.up {w:World}{N N':Nat}{v:Value}{l:List Int}(h:Ar w N v l)(hN:N<=N'):Ar w N' v l:=by obtain⟨a,c,h1,h2,h3⟩:=h.ex;refine⟨⟨a,c,h1,h2,λhl=>?_⟩,h.wf⟩;obtain⟨g,o,e1,e2,e3⟩:=h3 hl;exact⟨g,o,e1,by omega,e3⟩
theorem ztO {ops:Array Oper}{rest:List Oper}{o:Oper}{a:Act}{Q:Exit->Act->World->Prop}(W:World)(hgd:o.guard=none)(s x:Operand)(ho:o.op=.call { callee:=.builtin .append,args:=#[s,x],argTypes:=#[32,32] })
 (B:Nat) (xo:Option Addr) (co k:Nat) (xs:List Value) (y:Int) (hs:a.eval s=.slice xo k co) (hown:W.ownsRow B 2 1 (.slice xo k co) k xs) (hx:a.eval x=xS W.heap.size 1 1) (mx:k+1<=maxLen) (by':(k+1)*8<=140737488355328) (hB:B<=W.heap.size)
 (h:∀g cap w',w'.ownsRow B 2 1 (xS g (k+1) cap) (k+1) (xs++[xI y])->Fr (λj=>(Value.slice xo k co).ownBlock=some j) (W.alloc (.cells #[xI y] 2)) w'->wpList prog ops Q rest (a.put o.dst (xS g (k+1) cap)) w') :
 wpList prog ops Q (o::rest) a (W.alloc (.cells #[xI y] 2)):=by
 obtain⟨i0,hi,hi0,hi1,hi2⟩:=info_parts Tryz.infoI64;refine zbz _ hgd s x 32 ho B 2 i0 _ 1 8 underlying32 hi hi0 hi1 hi2 rfl (by decide) (.slice xo k co) k xs hs (zD hown _) (xD W.heap.size 0) 1 1 [xI y] hx rfl (zN (zc W _) rfl) zr0 mx by' (by simp;omega) ?_;intro v' w9 h9 hg _;obtain⟨g9,cap9,rfl,_⟩:=zM h9 (by omega);exact h g9 cap9 w9 h9 (Fr.of_grown hg)
end
section
open Go.RowKit
variable {l:List Int} {B:Nat} {w:World}
def inN (k:Nat)(ins:List Int)(n:Nat):List Int:=(List.range k).map (λi=>ins.getD (n*k+i) 0)
def zu8 (l:List Int):List Int:=l.map (λx=>zbV (odd x))
def zve (bools:List Bool)(l:List Int):List Int:=if (zdE bools l).isSome=true then zu8 l else l
theorem zvn (k:Nat)(ins:List Int)(n:Nat):(inN k ins n).length=k:=by simp[inN]
theorem zvm (l:List Int):(zu8 l).length=l.length:=by simp[zu8]
theorem zvW:∀(bs:List Bool) (l:List Int) (i:Nat),zeK bs (zu8 l) i=none
 | [],l,i=>by simp[zeK]
 | b::bs,[],i=>rfl
 | b::bs,x::l,i=>by show (if b=true/\zbV (odd x)≠0/\zbV (odd x)≠1 then some i else zeK bs (zu8 l) (i+1))=none;rw[if_neg,zvW bs l (i+1)];rintro⟨_,h1,h2⟩;revert h1 h2;unfold zbV;cases odd x <;> simp
theorem zxj {bs:List Bool}(h:l.length=bs.length):zdE bs (zu8 l)=none:=by unfold zdE;rw[zvm,if_pos h];exact zvW bs l 0
def plS (c:Cd)(ins:List Int)(n0:Nat)(cells:List Int):Nat->List Int×List Int
 | 0=>([],cells)
 | j+1=>((plS c ins n0 cells j).1++zcX c (zbm c (plS c ins n0 cells j).2 (zve c.bools (inN c.bools.length ins (n0+j)))),(zbm c (plS c ins n0 cells j).2 (zve c.bools (inN c.bools.length ins (n0+j)))).cells)
theorem zvs {v:Value}(h:w.ownsRow B 2 1 v l.length (zK l)):∃g,Nm w v g l/\(l≠[]->B<=g/\g<w.heap.size/\v.ownBlock=some g):=by
 obtain⟨a,cp,rfl⟩:=zB h;by_cases h0:l=[]
 . subst h0;refine⟨0,⟨a,cp,rfl,Nat.zero_le _,?_,λe=>absurd rfl e⟩,λe=>absurd rfl e⟩;rcases h.2 with ⟨e,_⟩|⟨g,cap,cur,e,_,_,h3,h4,_⟩
   . cases e;exact Nat.zero_le _
   . cases e;exact h4
 . rcases h.2 with ⟨_,e⟩|⟨g,cap,cur,e,hB,hb,h3,h4,_⟩
   . exact absurd (List.eq_nil_of_length_eq_zero e) h0
   . cases e;refine⟨g,⟨_,cp,rfl,h3,h4,λ_=>⟨0,rfl,λj x hj=>?_⟩⟩,λ_=>⟨hB,(h.lt g rfl).2,rfl⟩⟩;have:=zhv h (j:=j) (u:=(xI x)) (by simp[zK,hj]);rw[Nat.zero_add];exact this
theorem zw8 {g n cp k:Nat}{e:TypeId}{xs:List Value}(h:w.ownsRow B e 1 (xS g n cp) n xs)(u:Value):(w.setCell (xD g k) u).ownsRow B e 1 (xS g n cp) n (xs.set k u):=by
 refine⟨by rw[List.length_set];exact h.1,?_⟩;rcases h.2 with ⟨e,_⟩|⟨g',cap,cur,e,hB,hb,h3,h4,h5,h6⟩
 . cases e
 . cases e;refine Or.inr ⟨g,cp,cur.setIfInBounds k u,rfl,hB,zh w g k u hb,h3,h4,by simpa using h5,?_⟩;rw[Array.toList_setIfInBounds,<- h6,Nat.mul_one,List.take_set]
theorem zxn (v1 v2:Value)(g1 g2:Nat)(l:List Int)(w:World)(h1:Nm w v1 g1 l)(h2:Nm w v2 g2 l)(hl:l.length<=1000000) :
 xK 23 #[v1,v2] w (λe w'=>e=.returned (.bool true)/\xB w w'):=by
 obtain⟨a1,c1,rfl,_,_,k1⟩:=h1.ex;obtain⟨a2,c2,rfl,_,_,k2⟩:=h2.ex;have K1:=za k1;have K2:=za k2;clear k1 k2 h1 h2;go_enter func23,ntmps23;go_upto_region 4 with fail;go_loopg [5] (l.length+1) (λj iv wr=>∃k:Nat,k+j=l.length+1/\k<=l.length/\iv=xI k/\Hid (xB w wr)/\Hid (∀b o,wr.cell? (xD b o)=w.cell? (xD b o)));case atStart=>exact⟨0,by omega,Nat.zero_le _,rfl,Below.refl _ _,λ_ _=>rfl⟩
 case round =>
  obtain⟨k,hk,hkl,rfl,HB,HC⟩:=hrel;by_cases hlt:k<l.length
  . obtain⟨x,hx⟩:∃x,l[k]?=some x:=⟨_,zsc hlt⟩;have hne:l≠[]:=by intro e;rw[e] at hlt;simp at hlt
    obtain⟨o1,rfl,f1⟩:=K1.o hne;obtain⟨o2,rfl,f2⟩:=K2.o hne;have e1:xC wr g1 (o1+k) (xI x):=(HC.o _ _).trans (f1 k x hx);have e2:xC wr g2 (o2+k) (xI x):=(HC.o _ _).trans (f2 k x hx);clear f1 f2 hx K1 K2;go_upto_region 6 with fail;go_quiet (fail);go_wp2_with fail;go_roundg (gk-1);case measure=>omega
    exact⟨k+1,by omega,by omega,by go_num,⟨HB.o.os,HB.o.tape,HB.o.output,HB.o.size,HB.o.block⟩,λb o=>HC.o b o⟩
  . obtain rfl:k=l.length:=by omega
    go_wp2_with fail;go_ret;exact⟨rfl,HB.o⟩
end
section
open Go.RowKit
variable {N:Nat} {S:Nat->Addr} {w:World}
structure SnK (S:Nat->Addr) (w:World) (N:Nat):Prop where
 lo:21<=N
 blk:∀i,1<=i->i<=11->∃c t,w.heap[(S i).block]?=some (.cells c t (0,0))/\(S i).block<N
 ne:∀i j,1<=i->i<=11->1<=j->j<=11->i≠j->S i≠S j
 ert:ErT w
theorem SnK.old {w':World}(h:SnK S w N)(ho:Old N w w'):SnK S w' N:=by
 refine⟨h.lo,λi i1 i2=>?_,h.ne,?_⟩
 . obtain⟨c,t,h1,h2⟩:=h.blk i i1 i2;exact⟨c,t,(ho _ h2).trans h1,h2⟩
 . have:=h.lo;exact (World.cell?_of_block (w:=w) (a:=(xD 7 0)) (ho _ (by show 7<N;omega))).trans h.ert
theorem SnK.sn (h:SnK S w N):Sn S w:=by
 obtain⟨i0,hi0,hcmp⟩:=Option.map_eq_some_iff.1 Tryz.isComp;obtain⟨j0,hj0,hjs⟩:=Option.map_eq_some_iff.1 Tryz.isSize;intro i j i1 i2 j1 j2 W' hB;by_cases hij:i=j
 . subst hij;rw[decide_eq_true rfl];exact run_eql_iface_ptr_same (P:=prog) W' (S i) underlying53 underlying324 hi0 hcmp hj0
 . rw[decide_eq_false hij];obtain⟨c1,t1,q3,_⟩:=h.blk i i1 i2;obtain⟨c2,t2,r3,_⟩:=h.blk j j1 j2;exact run_eql_iface_ptr_other (P:=prog) W' underlying53 underlying324 hi0 hcmp hj0 (by rw[hjs];decide) (h.ne i j i1 i2 j1 j2 hij) ((hB.block _ (ze q3)).trans q3) ((hB.block _ (ze r3)).trans r3)
end
section
open Go.RowKit
variable {c:Cd} {x:Int} {cells ins l slots:List Int} {m:Ma} {N k n q:Nat} {S:Nat->Addr} {sv:Value} {w w':World}
structure Rdy (S:Nat->Addr) (w:World) (N:Nat) (m:Ma) (sv:Value) (c:Cd) (cells slots:List Int):Prop where
 gl:Gl S w
 sn:SnK S w N
 mm:MM w m sv c cells slots
 n0:N<=m.mb
 n1:N<=m.b1
 n2:N<=m.b2
 ns:∀j,sv.ownBlock=some j->N<=j
 sz:N<=w.heap.size
theorem Rdy.keep (h:Rdy S w N m sv c cells slots)(hB:xB w w'):Rdy S w' N m sv c cells slots :=
 ⟨h.gl.of (T:=λ_=>False) (Fr.of_below hB) (λ_ e=>e.elim),h.sn.old (zm hB h.sz),h.mm.keep hB,h.n0,h.n1,h.n2,h.ns,Nat.le_trans h.sz hB.size⟩
theorem Rdy.on {sv':Value}{cells' slots':List Int}(h:Rdy S w N m sv c cells slots)(hM:MM w' m sv' c cells' slots')(hF:MFr m.mb m.b1 m.b2 w sv w' sv'):Rdy S w' N m sv' c cells' slots':=by
 have ho:Old N w w':=hF.old h.sz h.n0 h.n1 h.n2 h.ns;refine⟨h.gl.of hF.fr (λk hk=>?_),h.sn.old ho,hM,h.n0,h.n1,h.n2,λj e=>?_,Nat.le_trans h.sz hF.fr.size⟩
 . have:=h.sn.lo;rcases hk with rfl|rfl|rfl|hk
   . exact Nat.le_trans this h.n0
   . exact Nat.le_trans this h.n1
   . exact Nat.le_trans this h.n2
   . exact Nat.le_trans this (h.ns k hk)
 . rcases hF.new j e with e|e
   . exact h.ns j e
   . exact Nat.le_trans h.sz e
theorem Rdy.lts (h:Rdy S w N m sv c cells slots):m.mb<w.heap.size/\m.b1<w.heap.size/\m.b2<w.heap.size/\(∀j,sv.ownBlock=some j->j<w.heap.size) :=
 ⟨ze h.mm.mc.mem.blk,ze h.mm.mc.mem.ce,ze h.mm.mc.mem.sl,λj e=>(h.mm.mc.mem.own.lt j e).2⟩
theorem Rdy.row {B:Nat}{T:Nat->Prop}(h:Rdy S w N m sv c cells slots)(hF:Fr T w w')(hT:∀j,T j->B<=j/\¬sv.ownBlock=some j)(b0:m.N<=B)(b1:m.M<B)(b2:m.mb<B)(b3:m.b1<B)(b4:m.b2<B)(b5:N<=B):Rdy S w' N m sv c cells slots:=by have ho:Old N w w':=hF.old h.sz (λk hk=>Nat.le_trans b5 (hT k hk).1);have hoM:Old m.N w w':=hF.old h.mm.mc.mem.hB (λk hk=>Nat.le_trans b0 (hT k hk).1);have hk:∀k,k<w.heap.size->¬T k->w'.heap[k]?=w.heap[k]?:=λk h1 h2=>hF.block k h1 h2;have m:=h.mm.mc.mem;refine⟨h.gl.of hF (λk hk=>Nat.le_trans h.sn.lo (Nat.le_trans b5 (hT k hk).1)),h.sn.old ho,⟨(hk _ (ze h.mm.blk) (λe=>by have:=(hT _ e).1;omega)).trans h.mm.blk,⟨h.mm.mc.code.old hoM,?_,h.mm.mc.n0,h.mm.mc.n1,h.mm.mc.n2,h.mm.mc.lc,h.mm.mc.ls⟩,h.mm.m0,h.mm.m1,h.mm.m2,h.mm.ms⟩,h.n0,h.n1,h.n2,h.ns,Nat.le_trans h.sz hF.size⟩;exact⟨(hk _ (ze m.blk) (λe=>by have:=(hT _ e).1;omega)).trans m.blk,(hk _ (ze m.ce) (λe=>by have:=(hT _ e).1;omega)).trans m.ce,(hk _ (ze m.sl) (λe=>by have:=(hT _ e).1;omega)).trans m.sl,zi m.own (λk _ h1 e=>hk k h1 (λe'=>(hT k e').2 e)),m.ne1,m.ne2,m.ne3,m.sm,m.s1,m.s2,Nat.le_trans m.hB hF.size⟩
theorem zvL (hq:q<k):(inN k ins n).take (q+1)=(inN k ins n).take q++[ins.getD (n*k+q) 0]:=by refine zeq ?_;simp[inN,hq]
theorem zxz (h:∀x∈ins,-9223372036854775808<=x/\x<=9223372036854775807):∀x∈inN k ins n,-9223372036854775808<=x/\x<=9223372036854775807:=by
 intro x hx;obtain⟨i,_,rfl⟩:=List.mem_map.1 hx;rw[List.getD_eq_getElem?_getD];cases hi:ins[n*k+i]? with
 | none=>simp
 | some y=>simpa using h y (List.mem_of_getElem? hi)
def zvl (l:List Int)(q:Nat):List Int:=zu8 (l.take q)++l.drop q
theorem zxb (h:l[q]?=some x):(zvl l q)[q]?=some x:=by have:=(List.getElem?_eq_some_iff.1 h).1;unfold zvl;rw[List.getElem?_append_right (by simp[zu8];omega)];simp only[zu8,List.length_map,List.length_take,List.getElem?_drop];rw[show q+(q-min q l.length)=q by omega];exact h
theorem zxi (h:l[q]?=some x):(zvl l q).set q (zbV (odd x))=zvl l (q+1):=by
 have hq:=(List.getElem?_eq_some_iff.1 h).1;unfold zvl;have hl:(zu8 (l.take q)).length=q:=by simp[zu8];omega
 rw[List.set_append_right (h:=by omega),hl,Nat.sub_self,List.drop_eq_getElem_cons hq,zsa,zeq h];unfold zu8;rw[List.map_append];simp only[List.map_cons,List.map_nil,List.append_assoc,List.cons_append,List.nil_append]
end
end Go.Proofs.YtbicmofihhjgbaaGreatDoor
