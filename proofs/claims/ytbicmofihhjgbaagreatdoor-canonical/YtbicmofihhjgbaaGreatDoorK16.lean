/- Part 17 of the proof. -/
import Derived.Lib.LaidTab
import Derived.Test.YtbicmofihhjgbaaGreatDoorK15
set_option maxRecDepth 100000
set_option maxHeartbeats 8000000
namespace Go.Proofs.YtbicmofihhjgbaaGreatDoor
open Go.Proofs.Tryz
section
open Go.RowKit Go.Extern.Stop Go.Stop Go.Extern
def Sn (S:Xs)(w:Xw):Prop:=∀i j,1<=i->i<=11->1<=j->j<=11->∀W,xB w W->(binOp .eql 53 (sen S i) (sen S j)).run prog W=.ok (.bool (decide (i=j))) W
def zvh (S:Xs)(p:Xb)(er:Nat)(at':Int):Value:=zeQ p (.iface 71 (.agg #[sen S er,xI at']))
theorem zwl (S:Xs)(p:Xb)(er:Nat)(at':Int)(w:Xw)(h1:1<=er)(h2:er<=11)(hG:Gl S w)(hE:Sn S w) :
 xK 40 #[zvh S p er at'] w λe w'=>e=.returned (xI (er:Nat))/\xB w w':=by
 have HGl:=za (λW (hB:xB w W)=>hG.of (T:=λ_=>False) (Fr.of_below hB) (λ_ e=>e.elim));have HIs:=za (λj (j1:1<=j) (j2:j<=11) W (hB:xB w W)=>zxv p (S er) (S j) at' (decide (er=j)) W (λW' hB'=>hE er j h1 h2 j1 j2 W' (hB.trans (hB'.mono hB.size))));have HB0:=za (Below.refl w.heap.size w);have c1:=hG.long;unfold zvh;unfold sen zeQ at *;have:er=1∨er=2∨er=3∨er=4∨er=5∨er=6∨er=7∨er=8∨er=9∨er=10∨er=11:=by omega
 rcases this with rfl|rfl|rfl|rfl|rfl|rfl|rfl|rfl|rfl|rfl|rfl
 . go_enter func40,ntmps40;go_wp2_with (first|(go_at_call 77;refine (HIs.o 1 (by decide) (by decide) _ HB0.o).mono ?_;rintro e w1 ⟨rfl,hB⟩;have HB1:=za (HB0.o.trans (hB.mono HB0.o.size));have c2:=(HGl.o _ HB1.o).syn));go_ret;exact⟨rfl,HB1.o⟩
 . go_enter func40,ntmps40;go_wp2_with (first|(go_at_call 77;refine (HIs.o 2 (by decide) (by decide) _ HB1.o).mono ?_;rintro e w2 ⟨rfl,hB⟩;have HB2:=za (HB1.o.trans (hB.mono HB1.o.size));have c3:=(HGl.o _ HB2.o).deep)|(go_at_call 77;refine (HIs.o 1 (by decide) (by decide) _ HB0.o).mono ?_;rintro e w1 ⟨rfl,hB⟩;have HB1:=za (HB0.o.trans (hB.mono HB0.o.size));have c2:=(HGl.o _ HB1.o).syn));go_ret;exact⟨rfl,HB2.o⟩
 . go_enter func40,ntmps40;go_wp2_with (first|(go_at_call 77;refine (HIs.o 3 (by decide) (by decide) _ HB2.o).mono ?_;rintro e w3 ⟨rfl,hB⟩;have HB3:=za (HB2.o.trans (hB.mono HB2.o.size));have c4:=(HGl.o _ HB3.o).name)|(go_at_call 77;refine (HIs.o 2 (by decide) (by decide) _ HB1.o).mono ?_;rintro e w2 ⟨rfl,hB⟩;have HB2:=za (HB1.o.trans (hB.mono HB1.o.size));have c3:=(HGl.o _ HB2.o).deep)|(go_at_call 77;refine (HIs.o 1 (by decide) (by decide) _ HB0.o).mono ?_;rintro e w1 ⟨rfl,hB⟩;have HB1:=za (HB0.o.trans (hB.mono HB0.o.size));have c2:=(HGl.o _ HB1.o).syn));go_ret;exact⟨rfl,HB3.o⟩
 . go_enter func40,ntmps40;go_wp2_with (first|(go_at_call 77;refine (HIs.o 4 (by decide) (by decide) _ HB3.o).mono ?_;rintro e w4 ⟨rfl,hB⟩;have HB4:=za (HB3.o.trans (hB.mono HB3.o.size));have c5:=(HGl.o _ HB4.o).type)|(go_at_call 77;refine (HIs.o 3 (by decide) (by decide) _ HB2.o).mono ?_;rintro e w3 ⟨rfl,hB⟩;have HB3:=za (HB2.o.trans (hB.mono HB2.o.size));have c4:=(HGl.o _ HB3.o).name)|(go_at_call 77;refine (HIs.o 2 (by decide) (by decide) _ HB1.o).mono ?_;rintro e w2 ⟨rfl,hB⟩;have HB2:=za (HB1.o.trans (hB.mono HB1.o.size));have c3:=(HGl.o _ HB2.o).deep)|(go_at_call 77;refine (HIs.o 1 (by decide) (by decide) _ HB0.o).mono ?_;rintro e w1 ⟨rfl,hB⟩;have HB1:=za (HB0.o.trans (hB.mono HB0.o.size));have c2:=(HGl.o _ HB1.o).syn));go_ret;exact⟨rfl,HB4.o⟩
 . go_enter func40,ntmps40;go_wp2_with (first|(go_at_call 77;refine (HIs.o 5 (by decide) (by decide) _ HB4.o).mono ?_;rintro e w5 ⟨rfl,hB⟩;have HB5:=za (HB4.o.trans (hB.mono HB4.o.size));have c6:=(HGl.o _ HB5.o).clock)|(go_at_call 77;refine (HIs.o 4 (by decide) (by decide) _ HB3.o).mono ?_;rintro e w4 ⟨rfl,hB⟩;have HB4:=za (HB3.o.trans (hB.mono HB3.o.size));have c5:=(HGl.o _ HB4.o).type)|(go_at_call 77;refine (HIs.o 3 (by decide) (by decide) _ HB2.o).mono ?_;rintro e w3 ⟨rfl,hB⟩;have HB3:=za (HB2.o.trans (hB.mono HB2.o.size));have c4:=(HGl.o _ HB3.o).name)|(go_at_call 77;refine (HIs.o 2 (by decide) (by decide) _ HB1.o).mono ?_;rintro e w2 ⟨rfl,hB⟩;have HB2:=za (HB1.o.trans (hB.mono HB1.o.size));have c3:=(HGl.o _ HB2.o).deep)|(go_at_call 77;refine (HIs.o 1 (by decide) (by decide) _ HB0.o).mono ?_;rintro e w1 ⟨rfl,hB⟩;have HB1:=za (HB0.o.trans (hB.mono HB0.o.size));have c2:=(HGl.o _ HB1.o).syn));go_ret;exact⟨rfl,HB5.o⟩
 . go_enter func40,ntmps40;go_wp2_with (first|(go_at_call 77;refine (HIs.o 6 (by decide) (by decide) _ HB5.o).mono ?_;rintro e w6 ⟨rfl,hB⟩;have HB6:=za (HB5.o.trans (hB.mono HB5.o.size));have c7:=(HGl.o _ HB6.o).define)|(go_at_call 77;refine (HIs.o 5 (by decide) (by decide) _ HB4.o).mono ?_;rintro e w5 ⟨rfl,hB⟩;have HB5:=za (HB4.o.trans (hB.mono HB4.o.size));have c6:=(HGl.o _ HB5.o).clock)|(go_at_call 77;refine (HIs.o 4 (by decide) (by decide) _ HB3.o).mono ?_;rintro e w4 ⟨rfl,hB⟩;have HB4:=za (HB3.o.trans (hB.mono HB3.o.size));have c5:=(HGl.o _ HB4.o).type)|(go_at_call 77;refine (HIs.o 3 (by decide) (by decide) _ HB2.o).mono ?_;rintro e w3 ⟨rfl,hB⟩;have HB3:=za (HB2.o.trans (hB.mono HB2.o.size));have c4:=(HGl.o _ HB3.o).name)|(go_at_call 77;refine (HIs.o 2 (by decide) (by decide) _ HB1.o).mono ?_;rintro e w2 ⟨rfl,hB⟩;have HB2:=za (HB1.o.trans (hB.mono HB1.o.size));have c3:=(HGl.o _ HB2.o).deep)|(go_at_call 77;refine (HIs.o 1 (by decide) (by decide) _ HB0.o).mono ?_;rintro e w1 ⟨rfl,hB⟩;have HB1:=za (HB0.o.trans (hB.mono HB0.o.size));have c2:=(HGl.o _ HB1.o).syn));go_ret;exact⟨rfl,HB6.o⟩
 . go_enter func40,ntmps40;go_wp2_with (first|(go_at_call 77;refine (HIs.o 7 (by decide) (by decide) _ HB6.o).mono ?_;rintro e w7 ⟨rfl,hB⟩;have HB7:=za (HB6.o.trans (hB.mono HB6.o.size));have c8:=(HGl.o _ HB7.o).cause)|(go_at_call 77;refine (HIs.o 6 (by decide) (by decide) _ HB5.o).mono ?_;rintro e w6 ⟨rfl,hB⟩;have HB6:=za (HB5.o.trans (hB.mono HB5.o.size));have c7:=(HGl.o _ HB6.o).define)|(go_at_call 77;refine (HIs.o 5 (by decide) (by decide) _ HB4.o).mono ?_;rintro e w5 ⟨rfl,hB⟩;have HB5:=za (HB4.o.trans (hB.mono HB4.o.size));have c6:=(HGl.o _ HB5.o).clock)|(go_at_call 77;refine (HIs.o 4 (by decide) (by decide) _ HB3.o).mono ?_;rintro e w4 ⟨rfl,hB⟩;have HB4:=za (HB3.o.trans (hB.mono HB3.o.size));have c5:=(HGl.o _ HB4.o).type)|(go_at_call 77;refine (HIs.o 3 (by decide) (by decide) _ HB2.o).mono ?_;rintro e w3 ⟨rfl,hB⟩;have HB3:=za (HB2.o.trans (hB.mono HB2.o.size));have c4:=(HGl.o _ HB3.o).name)|(go_at_call 77;refine (HIs.o 2 (by decide) (by decide) _ HB1.o).mono ?_;rintro e w2 ⟨rfl,hB⟩;have HB2:=za (HB1.o.trans (hB.mono HB1.o.size));have c3:=(HGl.o _ HB2.o).deep)|(go_at_call 77;refine (HIs.o 1 (by decide) (by decide) _ HB0.o).mono ?_;rintro e w1 ⟨rfl,hB⟩;have HB1:=za (HB0.o.trans (hB.mono HB0.o.size));have c2:=(HGl.o _ HB1.o).syn));go_ret;exact⟨rfl,HB7.o⟩
 . go_enter func40,ntmps40;go_wp2_with (first|(go_at_call 77;refine (HIs.o 8 (by decide) (by decide) _ HB7.o).mono ?_;rintro e w8 ⟨rfl,hB⟩;have HB8:=za (HB7.o.trans (hB.mono HB7.o.size));have c9:=(HGl.o _ HB8.o).limit)|(go_at_call 77;refine (HIs.o 7 (by decide) (by decide) _ HB6.o).mono ?_;rintro e w7 ⟨rfl,hB⟩;have HB7:=za (HB6.o.trans (hB.mono HB6.o.size));have c8:=(HGl.o _ HB7.o).cause)|(go_at_call 77;refine (HIs.o 6 (by decide) (by decide) _ HB5.o).mono ?_;rintro e w6 ⟨rfl,hB⟩;have HB6:=za (HB5.o.trans (hB.mono HB5.o.size));have c7:=(HGl.o _ HB6.o).define)|(go_at_call 77;refine (HIs.o 5 (by decide) (by decide) _ HB4.o).mono ?_;rintro e w5 ⟨rfl,hB⟩;have HB5:=za (HB4.o.trans (hB.mono HB4.o.size));have c6:=(HGl.o _ HB5.o).clock)|(go_at_call 77;refine (HIs.o 4 (by decide) (by decide) _ HB3.o).mono ?_;rintro e w4 ⟨rfl,hB⟩;have HB4:=za (HB3.o.trans (hB.mono HB3.o.size));have c5:=(HGl.o _ HB4.o).type)|(go_at_call 77;refine (HIs.o 3 (by decide) (by decide) _ HB2.o).mono ?_;rintro e w3 ⟨rfl,hB⟩;have HB3:=za (HB2.o.trans (hB.mono HB2.o.size));have c4:=(HGl.o _ HB3.o).name)|(go_at_call 77;refine (HIs.o 2 (by decide) (by decide) _ HB1.o).mono ?_;rintro e w2 ⟨rfl,hB⟩;have HB2:=za (HB1.o.trans (hB.mono HB1.o.size));have c3:=(HGl.o _ HB2.o).deep)|(go_at_call 77;refine (HIs.o 1 (by decide) (by decide) _ HB0.o).mono ?_;rintro e w1 ⟨rfl,hB⟩;have HB1:=za (HB0.o.trans (hB.mono HB0.o.size));have c2:=(HGl.o _ HB1.o).syn));go_ret;exact⟨rfl,HB8.o⟩
 . go_enter func40,ntmps40;go_wp2_with (first|(go_at_call 77;refine (HIs.o 9 (by decide) (by decide) _ HB8.o).mono ?_;rintro e w9 ⟨rfl,hB⟩;have HB9:=za (HB8.o.trans (hB.mono HB8.o.size));have c10:=(HGl.o _ HB9.o).image)|(go_at_call 77;refine (HIs.o 8 (by decide) (by decide) _ HB7.o).mono ?_;rintro e w8 ⟨rfl,hB⟩;have HB8:=za (HB7.o.trans (hB.mono HB7.o.size));have c9:=(HGl.o _ HB8.o).limit)|(go_at_call 77;refine (HIs.o 7 (by decide) (by decide) _ HB6.o).mono ?_;rintro e w7 ⟨rfl,hB⟩;have HB7:=za (HB6.o.trans (hB.mono HB6.o.size));have c8:=(HGl.o _ HB7.o).cause)|(go_at_call 77;refine (HIs.o 6 (by decide) (by decide) _ HB5.o).mono ?_;rintro e w6 ⟨rfl,hB⟩;have HB6:=za (HB5.o.trans (hB.mono HB5.o.size));have c7:=(HGl.o _ HB6.o).define)|(go_at_call 77;refine (HIs.o 5 (by decide) (by decide) _ HB4.o).mono ?_;rintro e w5 ⟨rfl,hB⟩;have HB5:=za (HB4.o.trans (hB.mono HB4.o.size));have c6:=(HGl.o _ HB5.o).clock)|(go_at_call 77;refine (HIs.o 4 (by decide) (by decide) _ HB3.o).mono ?_;rintro e w4 ⟨rfl,hB⟩;have HB4:=za (HB3.o.trans (hB.mono HB3.o.size));have c5:=(HGl.o _ HB4.o).type)|(go_at_call 77;refine (HIs.o 3 (by decide) (by decide) _ HB2.o).mono ?_;rintro e w3 ⟨rfl,hB⟩;have HB3:=za (HB2.o.trans (hB.mono HB2.o.size));have c4:=(HGl.o _ HB3.o).name)|(go_at_call 77;refine (HIs.o 2 (by decide) (by decide) _ HB1.o).mono ?_;rintro e w2 ⟨rfl,hB⟩;have HB2:=za (HB1.o.trans (hB.mono HB1.o.size));have c3:=(HGl.o _ HB2.o).deep)|(go_at_call 77;refine (HIs.o 1 (by decide) (by decide) _ HB0.o).mono ?_;rintro e w1 ⟨rfl,hB⟩;have HB1:=za (HB0.o.trans (hB.mono HB0.o.size));have c2:=(HGl.o _ HB1.o).syn));go_ret;exact⟨rfl,HB9.o⟩
 . go_enter func40,ntmps40;go_wp2_with (first|(go_at_call 77;refine (HIs.o 10 (by decide) (by decide) _ HB9.o).mono ?_;rintro e w10 ⟨rfl,hB⟩;have HB10:=za (HB9.o.trans (hB.mono HB9.o.size)))|(go_at_call 77;refine (HIs.o 9 (by decide) (by decide) _ HB8.o).mono ?_;rintro e w9 ⟨rfl,hB⟩;have HB9:=za (HB8.o.trans (hB.mono HB8.o.size));have c10:=(HGl.o _ HB9.o).image)|(go_at_call 77;refine (HIs.o 8 (by decide) (by decide) _ HB7.o).mono ?_;rintro e w8 ⟨rfl,hB⟩;have HB8:=za (HB7.o.trans (hB.mono HB7.o.size));have c9:=(HGl.o _ HB8.o).limit)|(go_at_call 77;refine (HIs.o 7 (by decide) (by decide) _ HB6.o).mono ?_;rintro e w7 ⟨rfl,hB⟩;have HB7:=za (HB6.o.trans (hB.mono HB6.o.size));have c8:=(HGl.o _ HB7.o).cause)|(go_at_call 77;refine (HIs.o 6 (by decide) (by decide) _ HB5.o).mono ?_;rintro e w6 ⟨rfl,hB⟩;have HB6:=za (HB5.o.trans (hB.mono HB5.o.size));have c7:=(HGl.o _ HB6.o).define)|(go_at_call 77;refine (HIs.o 5 (by decide) (by decide) _ HB4.o).mono ?_;rintro e w5 ⟨rfl,hB⟩;have HB5:=za (HB4.o.trans (hB.mono HB4.o.size));have c6:=(HGl.o _ HB5.o).clock)|(go_at_call 77;refine (HIs.o 4 (by decide) (by decide) _ HB3.o).mono ?_;rintro e w4 ⟨rfl,hB⟩;have HB4:=za (HB3.o.trans (hB.mono HB3.o.size));have c5:=(HGl.o _ HB4.o).type)|(go_at_call 77;refine (HIs.o 3 (by decide) (by decide) _ HB2.o).mono ?_;rintro e w3 ⟨rfl,hB⟩;have HB3:=za (HB2.o.trans (hB.mono HB2.o.size));have c4:=(HGl.o _ HB3.o).name)|(go_at_call 77;refine (HIs.o 2 (by decide) (by decide) _ HB1.o).mono ?_;rintro e w2 ⟨rfl,hB⟩;have HB2:=za (HB1.o.trans (hB.mono HB1.o.size));have c3:=(HGl.o _ HB2.o).deep)|(go_at_call 77;refine (HIs.o 1 (by decide) (by decide) _ HB0.o).mono ?_;rintro e w1 ⟨rfl,hB⟩;have HB1:=za (HB0.o.trans (hB.mono HB0.o.size));have c2:=(HGl.o _ HB1.o).syn));go_ret;exact⟨rfl,HB10.o⟩
 go_enter func40,ntmps40;go_wp2_with (first|(go_at_call 77;refine (HIs.o 10 (by decide) (by decide) _ HB9.o).mono ?_;rintro e w10 ⟨rfl,hB⟩;have HB10:=za (HB9.o.trans (hB.mono HB9.o.size)))|(go_at_call 77;refine (HIs.o 9 (by decide) (by decide) _ HB8.o).mono ?_;rintro e w9 ⟨rfl,hB⟩;have HB9:=za (HB8.o.trans (hB.mono HB8.o.size));have c10:=(HGl.o _ HB9.o).image)|(go_at_call 77;refine (HIs.o 8 (by decide) (by decide) _ HB7.o).mono ?_;rintro e w8 ⟨rfl,hB⟩;have HB8:=za (HB7.o.trans (hB.mono HB7.o.size));have c9:=(HGl.o _ HB8.o).limit)|(go_at_call 77;refine (HIs.o 7 (by decide) (by decide) _ HB6.o).mono ?_;rintro e w7 ⟨rfl,hB⟩;have HB7:=za (HB6.o.trans (hB.mono HB6.o.size));have c8:=(HGl.o _ HB7.o).cause)|(go_at_call 77;refine (HIs.o 6 (by decide) (by decide) _ HB5.o).mono ?_;rintro e w6 ⟨rfl,hB⟩;have HB6:=za (HB5.o.trans (hB.mono HB5.o.size));have c7:=(HGl.o _ HB6.o).define)|(go_at_call 77;refine (HIs.o 5 (by decide) (by decide) _ HB4.o).mono ?_;rintro e w5 ⟨rfl,hB⟩;have HB5:=za (HB4.o.trans (hB.mono HB4.o.size));have c6:=(HGl.o _ HB5.o).clock)|(go_at_call 77;refine (HIs.o 4 (by decide) (by decide) _ HB3.o).mono ?_;rintro e w4 ⟨rfl,hB⟩;have HB4:=za (HB3.o.trans (hB.mono HB3.o.size));have c5:=(HGl.o _ HB4.o).type)|(go_at_call 77;refine (HIs.o 3 (by decide) (by decide) _ HB2.o).mono ?_;rintro e w3 ⟨rfl,hB⟩;have HB3:=za (HB2.o.trans (hB.mono HB2.o.size));have c4:=(HGl.o _ HB3.o).name)|(go_at_call 77;refine (HIs.o 2 (by decide) (by decide) _ HB1.o).mono ?_;rintro e w2 ⟨rfl,hB⟩;have HB2:=za (HB1.o.trans (hB.mono HB1.o.size));have c3:=(HGl.o _ HB2.o).deep)|(go_at_call 77;refine (HIs.o 1 (by decide) (by decide) _ HB0.o).mono ?_;rintro e w1 ⟨rfl,hB⟩;have HB1:=za (HB0.o.trans (hB.mono HB0.o.size));have c2:=(HGl.o _ HB1.o).syn));go_ret;exact⟨rfl,HB10.o⟩
attribute [local go_sem ↓] Go.wp_at_zero Go.wp_at_succ
theorem zvk (S:Xs)(p:Xb)(er:Nat)(at':Int)(w:Xw)(h1:1<=er)(h2:er<=11)(hG:Gl S w)(hE:Sn S w)(hT:ErT w) :
 xK 27 #[zvh S p er at'] w λe w'=>e=.returned (.tuple #[xI (er:Nat),xI at'])/\xB w w':=by
 have HGl:=za (λW (hB:xB w W)=>hG.of (T:=λ_=>False) (Fr.of_below hB) (λ_ e=>e.elim));have HSn:Hid (∀W,xB w W->Sn S W):=λW hB i j i1 i2 j1 j2 W' hB'=>hE i j i1 i2 j1 j2 W' (hB.trans (hB'.mono hB.size));have HT:Hid (∀W,xB w W->ErT W):=λW hB=>(World.cell?_of_block (w:=w) (a:=(xD 7 0)) (hB.block _ (World.block_lt_of_cell? w (xD 7 0) hT))).trans hT;unfold zvh zeQ;have HAs:=za (λ(tb:Nat) (o1 o2:Xv) W (hB:xB w W)=>zxw p (sen S er) at' rfl tb o1 o2 W (HT.o W hB));have HNu:=za (λW (hB:xB w W)=>zwl S p er at' W h1 h2 (HGl.o W hB) (HSn.o W hB));unfold zvh zeQ at HNu;unfold zeQ at HAs;go_enter func27,ntmps27;go_upto_region 5 with (go_at_call 39;refine (HAs.o w.heap.size _ _ _ (zq w _) (zc w _)).mono ?_;rintro e w1 ⟨rfl,HFb,HFr⟩);obtain⟨f0,f1,ff,fz⟩:=zp HFb;have HB1:xB w w1:=(((Fr.refl _ w).alloc _).trans HFr).below (B:=w.heap.size) (zMK _) (λk e=>by omega);have HNd:=za (HNu.o w1.drew (HB1.drew))
 go_region_held3 (λw'=>w'.cell? (xD w.heap.size 1)=some (xI at'))
  (first|(with_reducible (repeat (first|assumption|refine zg ?_|refine zj _ ?_|refine zk (by omega) ?_|refine zd HB2.o ?_ (by first|omega|(rw[zsb];omega)))))|go_keep)
  (first|(go_at_call 40;refine HNd.o.mono ?_;rintro e w2 ⟨rfl,hB2⟩;have HB2:=za (zw hB2)))
 all_goals go_wp2_with fail
 all_goals refine bodyPost_ret (v:=.tuple #[xI (er:Nat),xI at']) (by simp[results,results27,go_sem]) rfl ⟨rfl,?_⟩
 all_goals exact HB1.trans (HB2.o.mono HB1.size)
end
section
open Go.RowKit
structure SnK (S:Xs) (w:Xw) (N:Nat):Prop where
 lo:21<=N
 blk:∀i,1<=i->i<=11->∃c t,w.heap[(S i).block]?=some (.cells c t (0,0))/\(S i).block<N
 ne:∀i j,1<=i->i<=11->1<=j->j<=11->i≠j->S i≠S j
 ert:ErT w
theorem SnK.sn {S:Xs}{w:Xw}{N:Nat}(h:SnK S w N):Sn S w:=by
 obtain⟨i0,hi0,hcmp⟩:=Option.map_eq_some_iff.1 Tryz.isComp;obtain⟨j0,hj0,hjs⟩:=Option.map_eq_some_iff.1 Tryz.isSize;intro i j i1 i2 j1 j2 W' hB;by_cases hij:i=j
 . subst hij;rw[decide_eq_true rfl];exact run_eql_iface_ptr_same (P:=prog) W' (S i) underlying53 underlying324 hi0 hcmp hj0
 rw[decide_eq_false hij];obtain⟨c1,t1,q3,_⟩:=h.blk i i1 i2;obtain⟨c2,t2,r3,_⟩:=h.blk j j1 j2;exact run_eql_iface_ptr_other (P:=prog) W' underlying53 underlying324 hi0 hcmp hj0 (by rw[hjs];decide) (h.ne i j i1 i2 j1 j2 hij) ((hB.block _ (ze q3)).trans q3) ((hB.block _ (ze r3)).trans r3)
end
section
open Go.RowKit
variable {ts:Xl} {B lb:Nat} {tv tv':Xv} {w w':Xw}
theorem Tryz.infoStr:(prog.info? 9).map (λi=>(i.zero,i.size,i.bytes))=some (some (.string ⟨#[]⟩),1,16):=by kernel_rfl
theorem zxa (lb B:Nat)(tv:Xv)(n:Nat)(xs:Xm)(g k c:Nat)(news:Xm)(w:Xw)(Hb:xH w lb #[tv] 93)(hown:w.ownsRow B 9 1 tv n xs)(hlB:lb<B)(hBw:B<=w.heap.size)(hl:news.length=k)(Hn:∀j u,news[j]?=some u->w.cell? (((xD g 0):Addr).add j)=some u)(H1:∀u∈news,u.oneCell'=true)(hk:n+k<=10000000000) :
 xK 89 #[xP lb,xS g k c] w (λe w'=>e=.returned (.tuple #[])/\∃v',w'.heap[lb]?=some (.cells #[v'] 93 (0,0))/\w'.ownsRow B 9 1 v' (n+k) (xs++news)/\Fr (λj=>j=lb∨tv.ownBlock=some j) w w'/\(∀j,v'.ownBlock=some j->tv.ownBlock=some j∨w.heap.size<=j)):=by
 obtain⟨h0,hf,hz⟩:=zu Hb;obtain⟨i0,hi,hi0,hi1,hi2⟩:=info_parts Tryz.infoStr;have mx:n+k<=maxLen:=by unfold maxLen;omega
 have by':(n+k)*16<=140737488355328:=by omega
 have Hown:=za hown;clear hown;go_enter func89,ntmps89;go_wp2_with (at_builtin;refine zbz _ rfl (.tmp 8) (.tmp 9) 91 rfl B 9 i0 _ 1 16 underlying91 hi hi0 hi1 hi2 rfl (by decide) tv n xs rfl Hown.o (xD g 0) k c news rfl (by omega) Hn H1 mx by' hBw ?_;intro v' w9 hown hgrow Hnew9;obtain⟨x9,cp9,rfl⟩:=zbP hown;have HF9:=Fr.of_grown hgrow;have Hb9:=(HF9.block lb hz (λh=>by have:=(Hown.o.lt _ h).1;omega)).trans Hb;obtain⟨m0,mf,mz⟩:=zu Hb9;have Hown9:=za hown;clear hown hgrow);go_end0;refine⟨rfl,_,zh _ _ _ _ Hb9,zi Hown9.o (λj H1 _ _=>zr (by omega) rfl),?_,Hnew9⟩;exact ((HF9.mono (λ_ _ h=>zM4 h):Fr (λj=>j=lb∨tv.ownBlock=some j) w w9)).setCell (zM3 (zM3 rfl)) _
structure Ln (lb B:Nat) (w:Xw) (tv:Xv) (ts:Xl):Prop where
 blk:w.heap[lb]?=some (.cells #[tv] 93 (0,0))
 own:w.ownsRow B 9 1 tv ts.length (ts.map .string)
structure LFr (lb:Nat) (w:Xw) (tv:Xv) (w':Xw) (tv':Xv):Prop where
 fr:Fr (λj=>j=lb∨tv.ownBlock=some j) w w'
 new:∀j,tv'.ownBlock=some j->tv.ownBlock=some j∨w.heap.size<=j
theorem LFr.refl (lb:Nat)(w:Xw)(tv:Xv):LFr lb w tv w tv:=⟨Fr.refl _ w,λ_ h=>zM3 h⟩
theorem LFr.trans {w1 w2:Xw}{tv1 tv2:Xv}(h:LFr lb w tv w1 tv1)(k:LFr lb w1 tv1 w2 tv2):LFr lb w tv w2 tv2:=by
 have hz:=h.fr.size;refine⟨h.fr.trans' k.fr (λi hi hs=>?_),λj hj=>?_⟩
 . rcases hs with hs|hs
   . exact zM3 hs
   rcases h.new i hs with h'|h'
   . exact zM4 h'
   omega
 rcases k.new j hj with h'|h'
 . exact h.new j h'
 right;omega
theorem LFr.alloc (h:LFr lb w tv w' tv')(o:Obj):LFr lb w tv (w'.alloc o) tv':=⟨h.fr.alloc o,h.new⟩
theorem LFr.undrew (h:LFr lb w.drew tv w' tv'):LFr lb w tv w' tv':=⟨h.fr.undrew,h.new⟩
def zwt (lb B:Nat)(w:Xw)(tv:Xv)(ts:Xl)(e:Ending)(w':Xw):Prop :=
 e=.returned (.tuple #[])/\∃tv',Ln lb B w' tv' ts/\LFr lb w tv w' tv'
theorem Ln.alloc (h:Ln lb B w tv ts)(o:Obj):Ln lb B (w.alloc o) tv ts :=
 ⟨(Below.heap_alloc _ _ _ (ze h.blk)).trans h.blk,zD h.own o⟩
theorem Ln.drew (h:Ln lb B w tv ts):Ln lb B w.drew tv ts:=⟨h.blk,h.own⟩
theorem zxo {us:Xl}:∀u∈us.map Value.string,u.oneCell'=true:=by intro u hu;obtain⟨s,_,rfl⟩:=List.mem_map.1 hu;rfl
theorem zvy (lb B:Nat)(w:Xw)(tv:Xv)(ts us:Xl)(g k c:Nat)(f:Nat×Nat)(h:Ln lb B w tv ts)(hlB:lb<B)(hBw:B<=w.heap.size)(hg:w.heap[g]?=some (.cells (us.map Value.string).toArray 9 f))(hk:us.length=k)(hm:ts.length+us.length<=10000000000) :
 xK 89 #[xP lb,xS g k c] w (zwt lb B w tv (ts++us)):=by
 refine (zxa lb B tv ts.length _ g k c (us.map .string) w h.blk h.own hlB hBw (by simpa using hk) (zN hg rfl) zxo (by omega)).mono ?_;rintro e w' ⟨rfl,v',k1,k2,k3,k4⟩;refine⟨rfl,v',⟨k1,?_⟩,k3,k4⟩;rw[zMM,List.map_append,hk];exact k2
end
section
open Go.RowKit
def zwe (b:Bool):ByteArray:=if b then ⟨#[98,111,111,108]⟩ else ⟨#[105,110,116]⟩
theorem zw6 (w:Xw)(o1 o2:Obj):((w.alloc o1).alloc o2).drew.heap[w.heap.size+1]?=some o2:=by have h:=zc (w.alloc o1) o2;rw[zsb] at h;exact h
theorem zwy {lb:Nat}{w w':Xw}{tv tv':Xv}{o1 o2:Obj}(h:LFr lb ((w.alloc o1).alloc o2).drew tv w' tv'):LFr lb w tv w' tv':=(((LFr.refl lb w tv).alloc o1).alloc o2).trans h.undrew
theorem zvP:zH 156:=λ_ _=>by kernel_rfl
theorem zwo:zH 89:=λ_ _=>by kernel_rfl
theorem zvV (lb B:Nat)(w:Xw)(tv:Xv)(ts:Xl)(nm ck:Xb)(a sg pl ca:Nat)(ty:Nat)(b:Bool)(hty:ty=if b then 1 else 0)(H:Ln lb B w tv ts)(hlB:lb<B)(hBw:B<=w.heap.size)(hm:ts.length+3<=10000000000) :
 xK 92 #[xP lb,.agg #[.string nm,xI a,xI ty,xI sg,xI pl,.string ck,xI ca]] w (zwt lb B w tv (ts++[nm,⟨#[58]⟩,zwe b])):=by
 subst hty;go_enter func92,ntmps92;have HD:∀o1 o2,Hid (Ln lb B ((w.alloc o1).alloc o2).drew tv ts):=λo1 o2=>((H.alloc o1).alloc o2).drew;cases b with
 | true =>
   go_upto_region 1 with fail;go_region_law (first|(refine zbL rfl 156 (.tmp 9) 129 rfl zvP (xI 1) rfl (zfm _) ?_;rintro e w2 ⟨rfl,rfl⟩;refine⟨_,rfl,?_⟩)|(refine zde rfl 89 (.tmp 4) (.tmp 11) 175 91 rfl zwo (xP lb) (xS (w.heap.size+1) 3 3) rfl rfl (zvy lb B _ tv ts [nm,⟨#[58]⟩,zwe true] (w.heap.size+1) 3 3 (0,0) (HD _ _).out hlB (by simp;omega) (zw6 w _ _) rfl (by simpa using hm)) ?_;rintro e w' ⟨rfl,tv2,HL2,hf2⟩;refine⟨_,rfl,?_⟩;have HF2:=za (zwy hf2);clear hf2));all_goals go_wp2_with fail
   all_goals go_end0
   all_goals exact⟨rfl,_,HL2,HF2.o⟩
 | false =>
   go_upto_region 1 with fail;go_region_law (first|(refine zbL rfl 156 (.tmp 9) 129 rfl zvP (xI 0) rfl (zhC _) ?_;rintro e w2 ⟨rfl,rfl⟩;refine⟨_,rfl,?_⟩)|(refine zde rfl 89 (.tmp 4) (.tmp 11) 175 91 rfl zwo (xP lb) (xS (w.heap.size+1) 3 3) rfl rfl (zvy lb B _ tv ts [nm,⟨#[58]⟩,zwe false] (w.heap.size+1) 3 3 (0,0) (HD _ _).out hlB (by simp;omega) (zw6 w _ _) rfl (by simpa using hm)) ?_;rintro e w' ⟨rfl,tv2,HL2,hf2⟩;refine⟨_,rfl,?_⟩;have HF2:=za (zwy hf2);clear hf2));all_goals go_wp2_with fail
   all_goals go_end0
   all_goals exact⟨rfl,_,HL2,HF2.o⟩
end
section
open Go.RowKit
variable {ts:Xl} {B lb:Nat} {tv0:Xv} {W w0:Xw}
structure LnI (lb B:Nat) (w0:Xw) (tv0:Xv) (W:Xw) (ts:Xl):Prop where
 lt:lb<B
 le:B<=w0.heap.size
 lo:∀j,tv0.ownBlock=some j->B<=j/\j<w0.heap.size
 ln:∃tv,Ln lb B W tv ts/\LFr lb w0 tv0 W tv
theorem LnI.start {tv:Xv}(h:Ln lb B W tv ts)(h1:lb<B)(h2:B<=W.heap.size):LnI lb B W tv W ts :=
 ⟨h1,h2,λj e=>h.own.lt j e,tv,h,LFr.refl _ _ _⟩
theorem LnI.size (h:LnI lb B w0 tv0 W ts):w0.heap.size<=W.heap.size:=by obtain⟨tv,_,h2⟩:=h.ln;exact h2.fr.size
theorem LnI.alloc (h:LnI lb B w0 tv0 W ts)(o:Obj):LnI lb B w0 tv0 (W.alloc o) ts:=by obtain⟨tv,h1,h2⟩:=h.ln;exact⟨h.lt,h.le,h.lo,tv,h1.alloc o,h2.alloc o⟩
theorem LnI.drew (h:LnI lb B w0 tv0 W ts):LnI lb B w0 tv0 W.drew ts:=by obtain⟨tv,h1,h2⟩:=h.ln;exact⟨h.lt,h.le,h.lo,tv,h1.drew,⟨h2.fr.os,h2.fr.tape,h2.fr.output,h2.fr.size,h2.fr.block⟩,h2.new⟩
theorem LnI.old (h:LnI lb B w0 tv0 W ts){N:Nat}(hN:N<=lb):Old N w0 W:=by
 obtain⟨tv,_,h2⟩:=h.ln;have:=h.lt;have:=h.le;refine h2.fr.old (by omega) ?_;rintro k (rfl|hk)
 . exact hN
 have:=(h.lo k hk).1;omega
theorem LnI.kept (h:LnI lb B w0 tv0 W ts){b:Nat}{o:Obj}(hb:w0.heap[b]?=some o)(hne:¬b=lb)(ht:¬tv0.ownBlock=some b):W.heap[b]?=some o:=by obtain⟨tv,_,h2⟩:=h.ln;exact (h2.fr.block b (by have:=Array.getElem?_eq_some_iff.1 hb;exact this.1) (λhs=>by rcases hs with hs|hs;exact hne hs;exact ht hs)).trans hb
def zu1 (lb B:Nat)(w0:Xw)(tv0:Xv)(ts:Xl)(e:Ending)(w':Xw):Prop:=e=.returned (.tuple #[])/\LnI lb B w0 tv0 w' ts
theorem zu0 (h:LnI lb B w0 tv0 W ts)(us:Xl)(k:Nat)(hk:us.length=k)(hm:(ts++us).length<=10000000000)(o:Obj)(ho:o=.cells (us.map Value.string).toArray 9 (0,0)) :
 xK 89 #[xP lb,xS W.heap.size k k] (W.alloc o) (zu1 lb B w0 tv0 (ts++us)):=by
 obtain⟨tv,h1,h2⟩:=h.ln;have:=h.lt;have:=h.le;have hz:=h2.fr.size;subst ho;refine (zvy lb B _ tv ts us W.heap.size k k (0,0) (h1.alloc _) h.lt (by rw[zsb];omega) (zc W _) hk (by simpa using hm)).mono ?_;rintro e w' ⟨rfl,tv',k1,k2⟩;exact⟨rfl,h.lt,h.le,h.lo,tv',k1,(h2.alloc _).trans k2⟩
theorem zu2 (h:LnI lb B w0 tv0 W ts)(us:Xl)(k:Nat)(hk:us.length=k)(hm:(ts++us).length<=10000000000)(o:Obj)(ho:o=.cells (us.map Value.string).toArray 9 (0,0)) :
 xK 89 #[xP lb,xS W.heap.size k k] (W.alloc o).drew (zu1 lb B w0 tv0 (ts++us)):=by
 obtain⟨tv,h1,h2⟩:=h.ln;have:=h.lt;have:=h.le;have hz:=h2.fr.size;subst ho;refine (zvy lb B _ tv ts us W.heap.size k k (0,0) (h1.alloc _).drew h.lt (by show B<=(W.alloc _).heap.size;rw[zsb];omega) (zc W _) hk (by simpa using hm)).mono ?_;rintro e w' ⟨rfl,tv',k1,k2⟩;exact⟨rfl,h.lt,h.le,h.lo,tv',k1,(h2.alloc _).trans k2.undrew⟩
theorem zvq (F:FuncId)(caps:Xa)(hF:zH F)(us:List (List ByteArray))
 (hw:∀(i:Nat) (u:Xl),us[i]?=some u->∀(W:Xw) (ts:Xl),LnI lb B w0 tv0 W ts->(ts++u).length<=10000000000->xK F (#[xI i]++caps) W (zu1 lb B w0 tv0 (ts++u)))
 (W:Xw) (ts:Xl) (h:LnI lb B w0 tv0 W ts) (hm:(ts++zu5 us).length<=10000000000) (hl:us.length<=10000000000) :
 xK 90 #[xP lb,xI us.length,.func (.func F) #[] caps] W (zu1 lb B w0 tv0 (ts++zu5 us)):=by
 have hcf:∀(args:Xa) (w:Xw),(callFunc F args).run prog w=.ok (.enter F args) w:=hF;have H:=za h;have Hw:=za hw;have hlen:∀k,(zu6 false (us.take k)).length<=(zu6 false us).length:=by
  intro k;have e:∀(l:List (List ByteArray)) (b:Bool) (k:Nat),(zu6 b (l.take k)).length<=(zu6 b l).length:=by
   intro l;induction l with
   | nil=>intro b k;simp
   | cons x l ih =>
     intro b k;cases k with
     | zero=>simp[zu6]
     | succ k=>rw[zMW,zu6,zu6];simp only[zMM];have:=ih true k;omega
  exact e us false k
 have hm':ts.length+(zu6 false us).length+2<=10000000000:=by unfold zu5 at hm;simp only[zMM,zMR,zNb] at hm;omega
 clear h hw hm;have Hlen:=za hlen;clear hlen;go_enter func90,ntmps90;go_wp2_with (go_at_call 89;refine (zu0 H.o [lpW] 1 rfl (by simp only[zMM,zMR,zNb];omega) _ rfl).mono ?_;rintro e w1 ⟨rfl,h1⟩;have H1:=za h1;clear h1);go_loopg [11] (us.length+1) (λj i wr=>∃k:Nat,k+j=us.length+1/\k<=us.length/\i=xI k/\Hid (LnI lb B w0 tv0 wr (ts++[lpW]++zu6 false (us.take k))));case atStart=>exact⟨0,by omega,zMN _,rfl,za (by simpa [zu6] using H1.o)⟩
 case round =>
  obtain⟨k,hkj,hk,rfl,HI⟩:=hrel;have hLk:=Hlen.o k;by_cases hlt:k<us.length
  . obtain⟨u,hu⟩:∃u,us[k]?=some u:=⟨_,zsc hlt⟩;have HS:=za (zwx hu false);have hLs:=Hlen.o (k+1);have HC:=za (Hw.o k u hu);have e1:(zu6 false (us.take (k+1))).length=(zu6 false (us.take k)).length+((if 0<k then 1 else 0)+u.length):=by rw[HS.o];simp only[zMM];split <;> split <;> simp_all
    clear hu;by_cases h0:k=0
    . have hu2:ts.length+1+(zu6 false (us.take k)).length+u.length<=10000000000:=(by rw[zM1 (by omega)] at e1;omega);have h0':¬((0:Int)<(k:Int)):=(by omega);have H0:=za h0;clear e1 hLs hLk h0;go_wp2_with fail;with_reducible refine (HC.o _ _ HI.o (by simp only[zMM,zMR,zNb];omega)).mono ?_
      rintro e w2 ⟨rfl,h2⟩;have H2:=za h2;clear h2;go_wp2_with fail;go_roundg (gk-1);case measure=>omega
      refine⟨k+1,by omega,by omega,by go_num,za ?_⟩;have:=H2.o;rw[HS.o];simpa [zMQ,zu6,H0.o] using this
    have h0':0<k:=(by omega);have hu2:ts.length+1+(zu6 false (us.take k)).length+1+u.length<=10000000000:=(by simp[h0'] at e1;omega);clear e1 hLs hLk;go_wp2_with (go_at_call 89;refine (zu0 HI.o [coW] 1 rfl (by simp only[zMM,zMR,zNb];omega) _ rfl).mono ?_;rintro e w2 ⟨rfl,h2⟩;have H2:=za h2;clear h2);with_reducible refine (HC.o _ _ H2.o (by simp only[zMM,zMR,zNb];omega)).mono ?_
    rintro e w3 ⟨rfl,h3⟩;have H3:=za h3;clear h3;go_wp2_with fail;go_roundg (gk-1);case measure=>omega
    refine⟨k+1,by omega,by omega,by go_num,za ?_⟩;have:=H3.o;rw[HS.o];simpa [zMQ,h0'] using this
  have ek:k=us.length:=by omega
  subst ek;rw[List.take_length] at HI;go_wp2_with (go_at_call 89;refine (zu0 HI.o [rpW] 1 rfl (by simp only[zMM,zMR,zNb];omega) _ rfl).mono ?_;rintro e w2 ⟨rfl,h2⟩;have H2:=za h2;clear h2);first|go_end0|refine bodyPost_ret (results_none rfl _ _ _) rfl ?_
  exact⟨rfl,by simpa [zu5,zMQ] using H2.o⟩
end
section
open Go.RowKit
variable {ts:Xl} {B lb:Nat} {tv0:Xv} {W w0:Xw}
theorem LnI.box (h:LnI lb B w0 tv0 W ts)(o:Obj):∃tv,LnI lb B (W.alloc o) tv (W.alloc o) ts/\(∀j,tv.ownBlock=some j->j<W.heap.size)/\lb<W.heap.size/\∀(w':Xw) (ts':Xl),LnI lb B (W.alloc o) tv w' ts'->LnI lb B w0 tv0 w' ts':=by obtain⟨tv,h1,h2⟩:=h.ln;have hz:=h2.fr.size;have:=h.le;have:=h.lt;refine⟨tv,LnI.start (h1.alloc o) h.lt (by rw[zsb];omega),λj e=>(h1.own.lt j e).2,by omega,λw' ts' k=>?_⟩;obtain⟨tv',k1,k2⟩:=k.ln;exact⟨h.lt,h.le,h.lo,tv',k1,(h2.alloc o).trans k2⟩
theorem LnI.box2 (h:LnI lb B w0 tv0 W ts)(o o':Obj):∃tv,LnI lb B ((W.alloc o).alloc o') tv ((W.alloc o).alloc o') ts/\(∀j,tv.ownBlock=some j->j<W.heap.size)/\lb<W.heap.size/\∀(w':Xw) (ts':Xl),LnI lb B ((W.alloc o).alloc o') tv w' ts'->LnI lb B w0 tv0 w' ts':=by obtain⟨tv,h1,h2⟩:=h.ln;have hz:=h2.fr.size;have:=h.le;have:=h.lt;refine⟨tv,LnI.start ((h1.alloc o).alloc o') h.lt (by simp only[zsb];omega),λj e=>(h1.own.lt j e).2,by omega,λw' ts' k=>?_⟩;obtain⟨tv',k1,k2⟩:=k.ln;exact⟨h.lt,h.le,h.lo,tv',k1,((h2.alloc o).alloc o').trans k2⟩
def vrV (v:Vr):Value:=.agg #[.string v.nm,xI v.a,xI (zaK v:Nat),xI (zaA v:Nat),xI v.on,.string v.ck,xI v.ca]
theorem zvw (h:LnI lb B w0 tv0 W ts)(v:Vr)(hm:(ts++zu7 v).length<=10000000000) :
 xK 92 #[xP lb,vrV v] W (zu1 lb B w0 tv0 (ts++zu7 v)):=by
 obtain⟨tv,h1,h2⟩:=h.ln;have:=h.le;have hz:=h2.fr.size;refine (zvV lb B W tv ts v.nm v.ck v.a (zaA v) v.on v.ca (zaK v) v.bl rfl h1 h.lt (by omega) (by simpa [zu7] using hm)).mono ?_;rintro e w' ⟨rfl,tv',k1,k2⟩;exact⟨rfl,h.lt,h.le,h.lo,tv',k1,h2.trans k2⟩
def LoC (v:Vr):Prop:=∀(lb B:Nat) (w0 W:Xw) (tv0:Xv) (ts:Xl),LnI lb B w0 tv0 W ts->(ts++zu9 v).length<=10000000000->xK 94 #[xP lb,vrV v] W (zu1 lb B w0 tv0 (ts++zu9 v))
theorem sg3 (v:Vr):zaA v=0∨zaA v=1∨zaA v=2:=by unfold zaA;split;split;simp;simp;simp
theorem zKG (v:Vr)(hs:zaA v=0):LoC v:=by
 intro lb B w0 W tv0 ts h hm;have Hs:=za hs;clear hs;obtain⟨tv,hb,ht,hlb,HB⟩:=h.box (.cells #[.string v.nm,xI v.a,xI (zaK v:Nat),xI (zaA v:Nat),xI v.on,.string v.ck,xI v.ca] 134);have hm1:(ts++zu7 v).length<=10000000000:=by simp only[zu9,zMM] at hm ⊢;omega
 have HD:=zvw hb v hm1;have HK:∀(w':Xw) (ts':Xl),LnI lb B _ tv w' ts'->xH w' W.heap.size #[.string v.nm,xI v.a,xI (zaK v:Nat),xI (zaA v:Nat),xI v.on,.string v.ck,xI v.ca] 134:=λw' ts' h'=>h'.kept (zc W _) (by omega) (λe=>by have:=ht _ e;omega);have HM:=hm;clear h hb hm hm1 ht;unfold vrV at HD ⊢;go_enter func94,ntmps94;go_wp2_with (go_at_call 92;refine HD.mono ?_);rintro e w1 ⟨rfl,H1⟩;have hb1:=HK _ _ H1;obtain⟨c0,c1,c2,c3,c4,c5,c6,cf,cz⟩:=zbZ hb1;clear hb1;have hs:=Hs.o;rw[hs] at c3;have HEl:zu9 v=zu7 v++[⟨#[59]⟩]:=by simp[zu9,onW,hs]
 rw[HEl] at HM;clear hs HD;go_wp2_with (go_at_call 89;refine (zu0 H1 [⟨#[59]⟩] 1 rfl (by simpa using HM) _ rfl).mono ?_;rintro e w2 ⟨rfl,h2⟩;have H2:=h2;clear h2);first|go_end0|refine bodyPost_ret (results_none rfl _ _ _) rfl ?_
 exact⟨rfl,HB _ _ (by rw[HEl];have hh:=H2;rw[zMQ] at hh;exact hh)⟩
theorem zwp (v:Vr):LoC v:=by
 by_cases h0:zaA v=0
 . exact zKG v h0
 intro lb B w0 W tv0 ts h hm;have Hz:=za h0;clear h0;obtain⟨tv,hb,ht,hlb,HB⟩:=h.box (.cells #[.string v.nm,xI v.a,xI (zaK v:Nat),xI (zaA v:Nat),xI v.on,.string v.ck,xI v.ca] 134);have hm1:(ts++zu7 v).length<=10000000000:=by simp only[zu9,zMM] at hm ⊢;omega
 have HD:=zvw hb v hm1;have HK:∀(w':Xw) (ts':Xl),LnI lb B _ tv w' ts'->xH w' W.heap.size #[.string v.nm,xI v.a,xI (zaK v:Nat),xI (zaA v:Nat),xI v.on,.string v.ck,xI v.ca] 134:=λw' ts' h'=>h'.kept (zc W _) (by omega) (λe=>by have:=ht _ e;omega);have HM:=hm;clear h hb hm hm1 ht;unfold vrV at HD ⊢;go_enter func94,ntmps94;go_wp2_with (go_at_call 92;refine HD.mono ?_);rintro e w1 ⟨rfl,H1⟩;have hb1:=HK _ _ H1;obtain⟨c0,c1,c2,c3,c4,c5,c6,cf,cz⟩:=zbZ hb1;clear hb1;have hsg:zaA v=1∨zaA v=2:=by have:=Hz.o;rcases sg3 v with h|h|h <;> omega
 rcases hsg with hs|hs
 . rw[hs] at c3;have HEl:zu9 v=zu7 v++([⟨#[111,110]⟩,v.ck]++[⟨#[59]⟩]):=by simp[zu9,onW,hs]
   rw[HEl] at HM;clear hs HD;go_wp2_with (first|(revert H2;intro H2;go_at_call 89;refine (zu0 H2 [⟨#[59]⟩] 1 rfl (by simpa using HM) _ rfl).mono ?_;rintro e w3 ⟨rfl,H3⟩)|(go_at_call 89;refine (zu0 H1 [⟨#[111,110]⟩,v.ck] 2 rfl (by have:=HM;simp only[zMM,zMR,zNb] at this ⊢;omega) _ rfl).mono ?_;rintro e w2 ⟨rfl,h2⟩;have H2:=h2;clear h2));first|go_end0|refine bodyPost_ret (results_none rfl _ _ _) rfl ?_
   exact⟨rfl,HB _ _ (by rw[HEl];have hh:=H3;rw[zMQ,zMQ] at hh;exact hh)⟩
 rw[hs] at c3;have HEl:zu9 v=zu7 v++([⟨#[111,110]⟩,⟨#[110,111,116]⟩,v.ck]++[⟨#[59]⟩]):=by simp[zu9,onW,hs]
 rw[HEl] at HM;clear hs HD;go_wp2_with (first|(revert H2;intro H2;go_at_call 89;refine (zu0 H2 [⟨#[59]⟩] 1 rfl (by simpa using HM) _ rfl).mono ?_;rintro e w3 ⟨rfl,H3⟩)|(go_at_call 89;refine (zu0 H1 [⟨#[111,110]⟩,⟨#[110,111,116]⟩,v.ck] 3 rfl (by have:=HM;simp only[zMM,zMR,zNb] at this ⊢;omega) _ rfl).mono ?_;rintro e w2 ⟨rfl,h2⟩;have H2:=h2;clear h2));first|go_end0|refine bodyPost_ret (results_none rfl _ _ _) rfl ?_
 exact⟨rfl,HB _ _ (by rw[HEl];have hh:=H3;rw[zMQ,zMQ] at hh;exact hh)⟩
theorem zwT:zH 91:=λ_ _=>by kernel_rfl
theorem zw2:zH 93:=λ_ _=>by kernel_rfl
theorem zwj {N:Nat}(h:LnI lb B w0 tv0 W ts)(hN:N<=lb)(n:Nod)(nb:Nat)(vs ev:Xv)(xs:Xm)(hT:NT w0 N n nb vs ev xs)(b1 b2:Nat)
 (hb1:xH w0 b1 #[xP lb] 175) (hb2:xH w0 b2 #[xP nb] 90) (H1:¬b1=lb) (h2:¬b2=lb) (t1:¬tv0.ownBlock=some b1) (t2:¬tv0.ownBlock=some b2)
 (i:Nat) (v:Vr) (hi:n.vars[i]?=some v) (hm:(ts++zu7 v).length<=10000000000) :
 xK 91 (#[xI i]++#[xP b1,xP b2]) W (zu1 lb B w0 tv0 (ts++zu7 v)):=by
 obtain⟨p0,pf,pz⟩:=zu (h.kept hb1 H1 t1);obtain⟨q0,qf,qz⟩:=zu (h.kept hb2 h2 t2);have hT':=hT.old (h.old hN);obtain⟨n0,n1,n2,n3,n4,n5,nf,nz⟩:=zt hT'.blk;obtain⟨x,cp,rfl⟩:=zB hT'.vown;obtain⟨g,rfl,v0,v1,v2,v3,v4,v5,v6⟩:=zaM hT'.vown hi;have h16:=hT.few;have hil:=(zMJ.1 hi).1;have HKp:(∀(w':Xw) (ts':Xl),LnI lb B w0 tv0 w' ts'->w'.cell? (xD b1 0)=some (xP lb)/\w'.cell? (xD b2 0)=some (xP nb)/\w'.cell? (xD nb 2)=some (xS g n.vars.length cp)/\w'.cell? (xD g (i*7))=some (.string v.nm)/\w'.cell? (xD g (i*7+1))=some (xI v.a)/\w'.cell? (xD g (i*7+2))=some (xI (zaK v:Nat))/\w'.cell? (xD g (i*7+3))=some (xI (zaA v:Nat))/\w'.cell? (xD g (i*7+4))=some (xI v.on)/\w'.cell? (xD g (i*7+5))=some (.string v.ck)/\w'.cell? (xD g (i*7+6))=some (xI v.ca)):=by intro w' ts' h';have hT2:=hT.old (h'.old hN);obtain⟨g',e',u0,u1,u2,u3,u4,u5,u6⟩:=zaM hT2.vown hi;cases e';exact⟨(zu (h'.kept hb1 H1 t1)).1,(zu (h'.kept hb2 h2 t2)).1,(zt hT2.blk).2.2.1,u0,u1,u2,u3,u4,u5,u6⟩
 have HD:=zvw h.drew v hm;clear h hT' hb1 hb2 hT hi;unfold vrV at HD
 show Calls prog _ #[xI i,xP b1,xP b2] W _;go_enter func91,ntmps91;go_region_held3 (λw'=>w'.cell? (xD b1 0)=some (xP lb)/\w'.cell? (xD b2 0)=some (xP nb)/\w'.cell? (xD nb 2)=some (xS g n.vars.length cp)/\w'.cell? (xD g (i*7))=some (.string v.nm)/\w'.cell? (xD g (i*7+1))=some (xI v.a)/\w'.cell? (xD g (i*7+2))=some (xI (zaK v:Nat))/\w'.cell? (xD g (i*7+3))=some (xI (zaA v:Nat))/\w'.cell? (xD g (i*7+4))=some (xI v.on)/\w'.cell? (xD g (i*7+5))=some (.string v.ck)/\w'.cell? (xD g (i*7+6))=some (xI v.ca)) (first|go_keep|exact HKp _ _ H1) (first|(go_at_call 92;refine HD.mono ?_;rintro e w1 ⟨rfl,H1⟩));all_goals first|go_end0|refine bodyPost_ret (results_none rfl _ _ _) rfl ?_
 all_goals exact⟨rfl,H1⟩
end
section
open Go.RowKit
variable {ts:Xl} {B N b i lb:Nat} {S:Xs} {t u0 u1:Tm} {tv0:Xv} {W w w0:Xw}
theorem zuZ {w':Xw}(h:Old N w w')(hb:b<N):w'.cell? (xD b i)=w.cell? ⟨b,i,none⟩:=by have:=h b hb;simp only[World.cell?,this]
theorem zvo {k:Nat}(h:k<24):zcY[k]?=some (wd k):=by have:zcY.length=24:=rfl;unfold wd;rw[zsc (by omega)];rfl
theorem TT.look {u:Tm}(h:TT w N t (xP b))(hu:t.ts[i]?=some u):∃g cp ub,xC w b 5 (xS g t.ts.length cp)/\xC w g i (xP ub)/\TT w N u (xP ub)/\g<N:=by obtain⟨b',args,vs,e,hb,hblk,hown,hlen,hsub,hgs⟩:=h.ptr;cases e;obtain⟨h0,h1,h2,h3,h4,h5,hf,hz⟩:=zt hblk;obtain⟨x,cp,rfl⟩:=zB hown;obtain⟨g,ub,rfl,hc,hT,_⟩:=TT.arg hown hlen hsub hu;exact⟨g,cp,ub,hlen▸h5,hc,hT,hgs g rfl⟩
theorem TT.six (h:TT w N t (xP b)):xC w b 0 (xI t.k)/\xC w b 2 (.string t.s)/\xC w b 4 (xI t.n)/\b<w.heap.size/\b<N:=by obtain⟨b',args,vs,e,hb,hblk,hown,hlen,hsub,hgs⟩:=h.ptr;cases e;obtain⟨h0,h1,h2,h3,h4,h5,hf,hz⟩:=zt hblk;exact⟨h0,h2,h4,hz,hb⟩
structure Kn (S:Xs) (w:Xw):Prop where
 gl:Gl S w
 tab:Lib.TabIs prog w "internal/strconv.uint64pow10" .u64 Lib.pow10Tab
theorem Tryz.gPow:prog.globalNamed "internal/strconv.uint64pow10"=some 18:=by kernel_rfl
theorem Kn.ln (h:Kn S w0)(hl:LnI lb B w0 tv0 W ts)(hlb:21<=lb):Kn S W:=by
 obtain⟨tv,_,h2⟩:=hl.ln;have:=hl.lt;refine⟨h.gl.of h2.fr (λk hk=>?_),?_⟩
 . rcases hk with rfl|hk
   . exact hlb
   have:=(hl.lo k hk).1;omega
 have h3:=h.tab;unfold Lib.TabIs World.var? at h3 ⊢;rw[Tryz.gPow] at h3 ⊢;simp only[Option.bind_some] at h3 ⊢;rw[hl.old (N:=21) hlb _ (by decide)];exact h3
def zvc (S:Xs)(t:Tm):Prop:=∀(lb B N:Nat) (w0:Xw) (tv0:Xv) (W:Xw) (ts:Xl) (v:Xv),N<=lb->21<=N->TT w0 N t v->Kn S w0->LnI lb B w0 tv0 W ts->(ts++exT t).length<=10000000000->xK 158 #[xP lb,v] W (zu1 lb B w0 tv0 (ts++exT t))
theorem zvT (HE:zvc S t)(lb B N:Nat)(w0:Xw)(tv0:Xv)(W:Xw)(ts:Xl)(v:Xv)(hN:N<=lb)(h21:21<=N)(HT:TT w0 N t v)(HK:Kn S w0)(H0:LnI lb B w0 tv0 W ts)(hm:(ts++zvi t.k (exT t)).length<=10000000000) :
 xK 211 #[xP lb,v] W (zu1 lb B w0 tv0 (ts++zvi t.k (exT t))):=by
 obtain⟨b,_,_,rfl,_⟩:=HT.ptr;obtain⟨c0,c2,c4,cz,_⟩:=(HT.old (H0.old hN)).six;have HM:=za hm;by_cases hk:t.k=4
 . have el:zvi t.k (exT t)=[lpW]++(exT t++[rpW]):=by unfold zvi;rw[zM2 hk]
   rw[el] at HM ⊢;rw[hk] at c0;go_enter func211,ntmps211;have tk:=trivial;go_wp2_with (clear tk;go_at_call 89;refine (zu0 H0 [lpW] 1 rfl (by have:=HM.o;simp only[zMM,zMR,zNb] at this ⊢;omega) _ rfl).mono ?_;rintro e w1 ⟨rfl,H1⟩);have tk:=trivial;go_wp2_with (clear tk;go_at_call 158;refine (HE lb B N w0 tv0 _ _ _ hN h21 HT HK H1 (by have:=HM.o;simp only[zMM,zMR,zNb] at this ⊢;omega)).mono ?_;rintro e w2 ⟨rfl,H2⟩);have tk:=trivial;go_wp2_with (clear tk;go_at_call 89;refine (zu0 H2 [rpW] 1 rfl (by have:=HM.o;simp only[zMM,zMR,zNb] at this ⊢;omega) _ rfl).mono ?_;rintro e w3 ⟨rfl,H3⟩);first|go_end0|refine bodyPost_ret (results_none rfl _ _ _) rfl ?_
   exact⟨rfl,by simpa [zMQ] using H3⟩
 have el:zvi t.k (exT t)=exT t:=by unfold zvi;rw[zM1 hk]
 rw[el] at HM ⊢;have hk':¬((t.k:Int)=4):=by omega
 go_enter func211,ntmps211;have tk:=trivial;go_wp2_with (clear tk;go_at_call 158;refine (HE lb B N w0 tv0 _ _ _ hN h21 HT HK H0 HM.o).mono ?_;rintro e w2 ⟨rfl,H2⟩);first|go_end0|refine bodyPost_ret (results_none rfl _ _ _) rfl ?_
 exact⟨rfl,H2⟩
theorem zx3 (hE:∀u∈t.ts,zvc S u)(hN:N<=lb)(h21:21<=N)(hT:TT w0 N t (xP b))(hKn:Kn S w0)(h:LnI lb B w0 tv0 W ts)(us:List Tm)(hts:t.ts=us)(h0:0<us.length)(L:Xl)(el:opW t.k t.s (us.map Tm.k) (exL us)=L)(hm:(ts++opW t.k t.s (t.ts.map Tm.k) (exL t.ts)).length<=10000000000)
 (k:∀(g cp:Nat) (ub:Nat->Nat),Hid (∀(w':Xw) (ts':Xl),LnI lb B w0 tv0 w' ts'->xC w' b 0 (xI t.k)/\xC w' b 2 (.string t.s)/\xC w' b 5 (xS g us.length cp))->Hid (∀i u,us[i]?=some u->(∀(w':Xw) (ts':Xl),LnI lb B w0 tv0 w' ts'->xC w' g i (xP (ub i)))/\(∀(w':Xw) (ts':Xl),LnI lb B w0 tv0 w' ts'->(ts'++exT u).length<=10000000000->xK 158 #[xP lb,xP (ub i)] w' (zu1 lb B w0 tv0 (ts'++exT u)))/\∀(w':Xw) (ts':Xl),LnI lb B w0 tv0 w' ts'->(ts'++zvi u.k (exT u)).length<=10000000000->xK 211 #[xP lb,xP (ub i)] w' (zu1 lb B w0 tv0 (ts'++zvi u.k (exT u))))->Hid (LnI lb B w0 tv0 W ts)->Hid (∀(w':Xw) (ts':Xl),LnI lb B w0 tv0 w' ts'->Gl S w')->Hid ((ts++L).length<=10000000000)->xK 194 #[xP lb,xP b] W (zu1 lb B w0 tv0 (ts++L))) :
 xK 194 #[xP lb,xP b] W (zu1 lb B w0 tv0 (ts++opW t.k t.s (t.ts.map Tm.k) (exL t.ts))):=by
 subst hts;rw[el] at hm ⊢;obtain⟨u0,hu0⟩:∃u,t.ts[0]?=some u:=⟨_,zsc h0⟩;obtain⟨g,cp,_,d,_,_,lt⟩:=hT.look hu0;have hbN:=hT.six.2.2.2.2;have hub:∀i,∃ub,∀u,t.ts[i]?=some u->w0.cell? (xD g i)=some (xP ub)/\TT w0 N u (xP ub):=by
  intro i;cases hi:t.ts[i]? with
  | none=>exact⟨0,λu hu=>by cases hu⟩
  | some u => obtain⟨g',cp',ub,d',e,hTu,_⟩:=hT.look hi;cases d.symm.trans d';exact⟨ub,λu' hu'=>by cases hu';exact⟨e,hTu⟩⟩
 refine k g cp (λi=>(hub i).choose) (λw' ts' h'=>?_) (λi u hu=>?_) h (λw' ts' h'=>(hKn.ln h' (by omega)).gl) hm
 . obtain⟨x0,x2,_,_,_⟩:=(hT.old (h'.old hN)).six;exact⟨x0,x2,(zuZ (h'.old hN) hbN).trans d⟩
 obtain⟨e,hTu⟩:=(hub i).choose_spec u hu;have hx:=hE u (zML hu);exact⟨λw' ts' h'=>(zuZ (h'.old hN) lt).trans e,λw' ts' h' hm'=>hx lb B N w0 tv0 w' ts' _ hN h21 hTu hKn h' hm',λw' ts' h' hm'=>zvT hx lb B N w0 tv0 w' ts' _ hN h21 hTu hKn h' hm'⟩
def zx5 (S:Xs)(t:Tm):Prop:=∀(lb B N:Nat) (w0:Xw) (tv0:Xv) (W:Xw) (ts:Xl) (v:Xv),N<=lb->21<=N->TT w0 N t v->Kn S w0->LnI lb B w0 tv0 W ts->(ts++opW t.k t.s (t.ts.map Tm.k) (exL t.ts)).length<=10000000000->xK 194 #[xP lb,v] W (zu1 lb B w0 tv0 (ts++opW t.k t.s (t.ts.map Tm.k) (exL t.ts)))
theorem zwz {u2:Tm}(hE:∀u∈t.ts,zvc S u)(hl:t.ts=[u0,u1,u2])(hk:t.k=5):zx5 S t:=by
 intro lb B N w0 tv0 W ts v hN h21 hT hKn h hm;obtain⟨b,_,_,rfl,_⟩:=hT.ptr;refine zx3 hE hN h21 hT hKn h [u0,u1,u2] hl (by simp) ([⟨#[105,102]⟩]++(exT u0++([⟨#[116,104,101,110]⟩]++(exT u1++([⟨#[101,108,115,101]⟩]++exT u2))))) (by unfold opW;rw[zM2 hk];rfl) hm ?_;intro g cp ub HKp HA H0 HG HM;go_enter func194,ntmps194;obtain⟨c0,c2,c5⟩:=HKp.o _ _ H0.o;rw[hk] at c0;have tk:=trivial;go_wp2_with (clear tk;go_at_call 89;refine (zu0 H0.o [⟨#[105,102]⟩] 1 rfl (by have:=HM.o;simp only[zMM,zMR,zNb] at this ⊢;omega) _ rfl).mono ?_);rintro e w1 ⟨rfl,H1⟩;obtain⟨c0,c2,c5⟩:=HKp.o _ _ H1;have E:=(HA.o 0 u0 rfl).1 _ _ H1;rw[hk] at c0;have tk:=trivial;go_wp2_with (clear tk;go_at_call 158;refine ((HA.o 0 u0 rfl).2.1 _ _ H1 (by have:=HM.o;simp only[zMM,zMR,zNb] at this ⊢;omega)).mono ?_);rintro e w2 ⟨rfl,H2⟩;obtain⟨c0,c2,c5⟩:=HKp.o _ _ H2;rw[hk] at c0;have tk:=trivial;go_wp2_with (clear tk;go_at_call 89;refine (zu0 H2 [⟨#[116,104,101,110]⟩] 1 rfl (by have:=HM.o;simp only[zMM,zMR,zNb] at this ⊢;omega) _ rfl).mono ?_);rintro e w3 ⟨rfl,H3⟩;obtain⟨c0,c2,c5⟩:=HKp.o _ _ H3;have E:=(HA.o 1 u1 rfl).1 _ _ H3;rw[hk] at c0;have tk:=trivial;go_wp2_with (clear tk;go_at_call 158;refine ((HA.o 1 u1 rfl).2.1 _ _ H3 (by have:=HM.o;simp only[zMM,zMR,zNb] at this ⊢;omega)).mono ?_);rintro e w4 ⟨rfl,H4⟩;obtain⟨c0,c2,c5⟩:=HKp.o _ _ H4;rw[hk] at c0;have tk:=trivial;go_wp2_with (clear tk;go_at_call 89;refine (zu0 H4 [⟨#[101,108,115,101]⟩] 1 rfl (by have:=HM.o;simp only[zMM,zMR,zNb] at this ⊢;omega) _ rfl).mono ?_);rintro e w5 ⟨rfl,H5⟩;obtain⟨c0,c2,c5⟩:=HKp.o _ _ H5;have E:=(HA.o 2 u2 rfl).1 _ _ H5;rw[hk] at c0;have tk:=trivial;go_wp2_with (clear tk;go_at_call 158;refine ((HA.o 2 u2 rfl).2.1 _ _ H5 (by have:=HM.o;simp only[zMM,zMR,zNb] at this ⊢;omega)).mono ?_);rintro e w6 ⟨rfl,H6⟩;go_wp2_with fail;first|go_end0|refine bodyPost_ret (results_none rfl _ _ _) rfl ?_
 exact⟨rfl,by simpa [zMQ] using H6⟩
theorem zwq (hE:∀u∈t.ts,zvc S u)(hl:t.ts=[u0,u1])(hk:t.k=6):zx5 S t:=by
 intro lb B N w0 tv0 W ts v hN h21 hT hKn h hm;obtain⟨b,_,_,rfl,_⟩:=hT.ptr;refine zx3 hE hN h21 hT hKn h [u0,u1] hl (by simp) ([⟨#[109,101,114,103,101]⟩,t.s]++(zvi u0.k (exT u0)++zvi u1.k (exT u1))) (by unfold opW;rw[zM1 (by omega),zM2 hk];rfl) hm ?_;intro g cp ub HKp HA H0 HG HM;go_enter func194,ntmps194;obtain⟨c0,c2,c5⟩:=HKp.o _ _ H0.o;rw[hk] at c0;have tk:=trivial;go_wp2_with (clear tk;go_at_call 89;refine (zu0 H0.o [⟨#[109,101,114,103,101]⟩,t.s] 2 rfl (by have:=HM.o;simp only[zMM,zMR,zNb] at this ⊢;omega) _ rfl).mono ?_);rintro e w1 ⟨rfl,H1⟩;obtain⟨c0,c2,c5⟩:=HKp.o _ _ H1;have E:=(HA.o 0 u0 rfl).1 _ _ H1;rw[hk] at c0;have tk:=trivial;go_wp2_with (clear tk;go_at_call 211;refine ((HA.o 0 u0 rfl).2.2 _ _ H1 (by have:=HM.o;simp only[zMM,zMR,zNb] at this ⊢;omega)).mono ?_);rintro e w2 ⟨rfl,H2⟩;obtain⟨c0,c2,c5⟩:=HKp.o _ _ H2;have E:=(HA.o 1 u1 rfl).1 _ _ H2;rw[hk] at c0;have tk:=trivial;go_wp2_with (clear tk;go_at_call 211;refine ((HA.o 1 u1 rfl).2.2 _ _ H2 (by have:=HM.o;simp only[zMM,zMR,zNb] at this ⊢;omega)).mono ?_);rintro e w3 ⟨rfl,H3⟩;go_wp2_with fail;first|go_end0|refine bodyPost_ret (results_none rfl _ _ _) rfl ?_
 exact⟨rfl,by simpa [zMQ] using H3⟩
theorem zwv (hE:∀u∈t.ts,zvc S u)(hl:t.ts=[u0])(hk:t.k=7):zx5 S t:=by
 intro lb B N w0 tv0 W ts v hN h21 hT hKn h hm;obtain⟨b,_,_,rfl,_⟩:=hT.ptr;refine zx3 hE hN h21 hT hKn h [u0] hl (by simp) (exT u0++[wd 7,t.s]) (by unfold opW;rw[zM1 (by omega),zM1 (by omega),zM2 (by omega),hk];rfl) hm ?_;intro g cp ub HKp HA H0 HG HM;have hwd:zcY[7]?=some (wd 7):=zvo (by omega);rw[hk] at HKp;go_enter func194,ntmps194;obtain⟨c0,c2,c5⟩:=HKp.o _ _ H0.o;have E:=(HA.o 0 u0 rfl).1 _ _ H0.o;have tk:=trivial;go_wp2_with (clear tk;go_at_call 158;refine ((HA.o 0 u0 rfl).2.1 _ _ H0.o (by have:=HM.o;simp only[zMM,zMR,zNb] at this ⊢;omega)).mono ?_);rintro e w1 ⟨rfl,H1⟩;obtain⟨c0,c2,c5⟩:=HKp.o _ _ H1;go_upto_region 18 with fail;go_region_held3 (λw'=>w'.cell? (xD b 0)=some (xI 7)/\w'.cell? (xD b 2)=some (.string t.s)) (first|go_keep|exact⟨(HKp.o _ _ H2).1,(HKp.o _ _ H2).2.1⟩) (first|(go_at_call 89;refine (zu2 H1 [wd 7,t.s] 2 rfl (by have:=HM.o;simp only[zMM,zMR,zNb] at this ⊢;omega) _ rfl).mono ?_;rintro e w2 ⟨rfl,H2⟩)|(go_at_call 192;refine (zm8 S 7 (wd 7) hwd _ (HG.o _ _ H1.drew)).mono ?_;rintro e wx ⟨rfl,rfl⟩));first|go_end0|refine bodyPost_ret (results_none rfl _ _ _) rfl ?_
 exact⟨rfl,by simpa [zMQ] using H2⟩
theorem zwB (hE:∀u∈t.ts,zvc S u)(hl:t.ts=[u0])(hk:t.k=8):zx5 S t:=by
 intro lb B N w0 tv0 W ts v hN h21 hT hKn h hm;obtain⟨b,_,_,rfl,_⟩:=hT.ptr;refine zx3 hE hN h21 hT hKn h [u0] hl (by simp) (exT u0++[wd 8,t.s]) (by unfold opW;rw[zM1 (by omega),zM1 (by omega),zM2 (by omega),hk];rfl) hm ?_;intro g cp ub HKp HA H0 HG HM;have hwd:zcY[8]?=some (wd 8):=zvo (by omega);rw[hk] at HKp;go_enter func194,ntmps194;obtain⟨c0,c2,c5⟩:=HKp.o _ _ H0.o;have E:=(HA.o 0 u0 rfl).1 _ _ H0.o;have tk:=trivial;go_wp2_with (clear tk;go_at_call 158;refine ((HA.o 0 u0 rfl).2.1 _ _ H0.o (by have:=HM.o;simp only[zMM,zMR,zNb] at this ⊢;omega)).mono ?_);rintro e w1 ⟨rfl,H1⟩;obtain⟨c0,c2,c5⟩:=HKp.o _ _ H1;go_upto_region 18 with fail;go_region_held3 (λw'=>w'.cell? (xD b 0)=some (xI 8)/\w'.cell? (xD b 2)=some (.string t.s)) (first|go_keep|exact⟨(HKp.o _ _ H2).1,(HKp.o _ _ H2).2.1⟩) (first|(go_at_call 89;refine (zu2 H1 [wd 8,t.s] 2 rfl (by have:=HM.o;simp only[zMM,zMR,zNb] at this ⊢;omega) _ rfl).mono ?_;rintro e w2 ⟨rfl,H2⟩)|(go_at_call 192;refine (zm8 S 8 (wd 8) hwd _ (HG.o _ _ H1.drew)).mono ?_;rintro e wx ⟨rfl,rfl⟩));first|go_end0|refine bodyPost_ret (results_none rfl _ _ _) rfl ?_
 exact⟨rfl,by simpa [zMQ] using H2⟩
theorem zwg (hE:∀u∈t.ts,zvc S u)(hl:t.ts=[u0])(hk:t.k=10):zx5 S t:=by
 intro lb B N w0 tv0 W ts v hN h21 hT hKn h hm;obtain⟨b,_,_,rfl,_⟩:=hT.ptr;refine zx3 hE hN h21 hT hKn h [u0] hl (by simp) ([wd 10]++exT u0) (by unfold opW;rw[zM1 (by omega),zM1 (by omega),zM1 (by omega),zM2 (by omega),hk];rfl) hm ?_;intro g cp ub HKp HA H0 HG HM;have hwd:zcY[10]?=some (wd 10):=zvo (by omega);go_enter func194,ntmps194;obtain⟨c0,c2,c5⟩:=HKp.o _ _ H0.o;rw[hk] at c0;have tk:=trivial;go_wp2_with (clear tk;go_at_call 192;refine (zm8 S 10 (wd 10) hwd _ (HG.o _ _ H0.o)).mono ?_);rintro e wx ⟨rfl,rfl⟩;have tk:=trivial;go_wp2_with (clear tk;go_at_call 89;refine (zu0 H0.o [wd 10] 1 rfl (by have:=HM.o;simp only[zMM,zMR,zNb] at this ⊢;omega) _ rfl).mono ?_);rintro e w1 ⟨rfl,H1⟩;obtain⟨c0,c2,c5⟩:=HKp.o _ _ H1;have E:=(HA.o 0 u0 rfl).1 _ _ H1;rw[hk] at c0;have tk:=trivial;go_wp2_with (clear tk;go_at_call 158;refine ((HA.o 0 u0 rfl).2.1 _ _ H1 (by have:=HM.o;simp only[zMM,zMR,zNb] at this ⊢;omega)).mono ?_);rintro e w2 ⟨rfl,H2⟩;go_wp2_with fail;first|go_end0|refine bodyPost_ret (results_none rfl _ _ _) rfl ?_
 exact⟨rfl,by simpa [zMQ] using H2⟩
theorem zwb (hE:∀u∈t.ts,zvc S u)(hl:t.ts=[u0])(hk:t.k=11):zx5 S t:=by
 intro lb B N w0 tv0 W ts v hN h21 hT hKn h hm;obtain⟨b,_,_,rfl,_⟩:=hT.ptr;refine zx3 hE hN h21 hT hKn h [u0] hl (by simp) ([wd 11]++exT u0) (by unfold opW;rw[zM1 (by omega),zM1 (by omega),zM1 (by omega),zM2 (by omega),hk];rfl) hm ?_;intro g cp ub HKp HA H0 HG HM;have hwd:zcY[11]?=some (wd 11):=zvo (by omega);go_enter func194,ntmps194;obtain⟨c0,c2,c5⟩:=HKp.o _ _ H0.o;rw[hk] at c0;have tk:=trivial;go_wp2_with (clear tk;go_at_call 192;refine (zm8 S 11 (wd 11) hwd _ (HG.o _ _ H0.o)).mono ?_);rintro e wx ⟨rfl,rfl⟩;have tk:=trivial;go_wp2_with (clear tk;go_at_call 89;refine (zu0 H0.o [wd 11] 1 rfl (by have:=HM.o;simp only[zMM,zMR,zNb] at this ⊢;omega) _ rfl).mono ?_);rintro e w1 ⟨rfl,H1⟩;obtain⟨c0,c2,c5⟩:=HKp.o _ _ H1;have E:=(HA.o 0 u0 rfl).1 _ _ H1;rw[hk] at c0;have tk:=trivial;go_wp2_with (clear tk;go_at_call 158;refine ((HA.o 0 u0 rfl).2.1 _ _ H1 (by have:=HM.o;simp only[zMM,zMR,zNb] at this ⊢;omega)).mono ?_);rintro e w2 ⟨rfl,H2⟩;go_wp2_with fail;first|go_end0|refine bodyPost_ret (results_none rfl _ _ _) rfl ?_
 exact⟨rfl,by simpa [zMQ] using H2⟩
theorem zwM (hE:∀u∈t.ts,zvc S u)(hl:t.ts=[u0,u1])(hk:t.k<24)(n5:¬t.k=5)(n6:¬t.k=6)(n7:¬t.k=7)(n8:¬t.k=8)(n10:¬t.k=10)(n11:¬t.k=11):zx5 S t:=by
 intro lb B N w0 tv0 W ts v hN h21 hT hKn h hm;obtain⟨b,_,_,rfl,_⟩:=hT.ptr;refine zx3 hE hN h21 hT hKn h [u0,u1] hl (by simp) (exT u0++([wd t.k]++exT u1)) (by unfold opW;rw[zM1 n5,zM1 n6,zM1 (by omega),zM1 (by omega)];rfl) hm ?_;intro g cp ub HKp HA H0 HG HM;have hwd:zcY[t.k]?=some (wd t.k):=zvo hk;have m5:¬((t.k:Int)=5):=by omega
 have m6:¬((t.k:Int)=6):=by omega
 have m7:¬((t.k:Int)=7):=by omega
 have m8:¬((t.k:Int)=8):=by omega
 have m10:¬((t.k:Int)=10):=by omega
 have m11:¬((t.k:Int)=11):=by omega
 go_enter func194,ntmps194;obtain⟨c0,c2,c5⟩:=HKp.o _ _ H0.o;have E:=(HA.o 0 u0 rfl).1 _ _ H0.o;have tk:=trivial;go_wp2_with (clear tk;go_at_call 158;refine ((HA.o 0 u0 rfl).2.1 _ _ H0.o (by have:=HM.o;simp only[zMM,zMR,zNb] at this ⊢;omega)).mono ?_);rintro e w1 ⟨rfl,H1⟩;obtain⟨c0,c2,c5⟩:=HKp.o _ _ H1;have tk:=trivial;go_wp2_with (clear tk;go_at_call 192;refine (zm8 S t.k (wd t.k) hwd _ (HG.o _ _ H1)).mono ?_);rintro e wx ⟨rfl,rfl⟩;have tk:=trivial;go_wp2_with (clear tk;go_at_call 89;refine (zu0 H1 [wd t.k] 1 rfl (by have:=HM.o;simp only[zMM,zMR,zNb] at this ⊢;omega) _ rfl).mono ?_);rintro e w2 ⟨rfl,H2⟩;obtain⟨c0,c2,c5⟩:=HKp.o _ _ H2;have E:=(HA.o 1 u1 rfl).1 _ _ H2;have tk:=trivial;go_wp2_with (clear tk;go_at_call 158;refine ((HA.o 1 u1 rfl).2.1 _ _ H2 (by have:=HM.o;simp only[zMM,zMR,zNb] at this ⊢;omega)).mono ?_);rintro e w3 ⟨rfl,H3⟩;go_wp2_with fail;first|go_end0|refine bodyPost_ret (results_none rfl _ _ _) rfl ?_
 exact⟨rfl,by simpa [zMQ] using H3⟩
theorem zvF (hE:∀u∈t.ts,zvc S u)(har:arB t.k t.ts.length=true)(h5:5<=t.k):zx5 S t:=by
 obtain⟨L,hL⟩:∃L,t.ts=L:=⟨_,rfl⟩;rw[hL] at har;unfold arB at har;rw[zM1 (by omega),zM1 (by omega)] at har;by_cases k5:t.k=5
 . rw[zM2 k5] at har
   match L,hL,har with
   | [_,_,_],hL,_=>exact zwz hE hL k5
 rw[zM1 k5] at har;by_cases k6:t.k=6
 . rw[zM2 k6] at har
   match L,hL,har with
   | [_,_],hL,_=>exact zwq hE hL k6
 rw[zM1 k6] at har;by_cases k8:t.k<=8
 . rw[zM2 k8] at har
   match L,hL,har with
   | [_],hL,_ =>
     by_cases k7:t.k=7
     . exact zwv hE hL k7
     exact zwB hE hL (by omega)
 rw[zM1 k8] at har;by_cases k11:t.k=10∨t.k=11
 . rw[zM1 (by omega),zM2 (by omega)] at har
   match L,hL,har with
   | [_],hL,_ =>
     rcases k11 with k|k
     . exact zwg hE hL k
     exact zwb hE hL k
 have h2:L.length=2/\t.k<24:=by
  by_cases k9:t.k=9
  . rw[zM2 k9] at har;exact⟨by simpa using har,by omega⟩
  rw[zM1 k9,zM1 (by omega)] at har;split at har
  . exact⟨by simpa using har,by omega⟩
  cases har
 match L,hL,h2 with
 | [_,_],hL,h2=>exact zwM hE hL h2.2 k5 k6 (by omega) (by omega) (by omega) (by omega)
end
end Go.Proofs.YtbicmofihhjgbaaGreatDoor
