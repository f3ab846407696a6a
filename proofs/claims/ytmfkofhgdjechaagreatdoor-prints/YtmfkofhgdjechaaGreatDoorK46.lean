/- Part 47 of the proof: ChkP FrF FxT FrG0 FrG LwA. -/
import Derived.Test.YtmfkofhgdjechaaGreatDoorK42
import Derived.Test.YtmfkofhgdjechaaGreatDoorK45
set_option maxRecDepth 100000
set_option maxHeartbeats 8000000
namespace Go.Proofs.YtmfkofhgdjechaaGreatDoor
open Go.Proofs.Tryz
open Go.RowKit
section
variable {ns:List Nod} {N:Nat}
attribute [local go_sem ↓] Go.wp_at_zero Go.wp_at_succ
theorem zpT:zH 98:=λ_ _=>by kernel_rfl
theorem zj2:zH 54:=λ_ _=>by kernel_rfl
theorem zkf:zH 55:=λ_ _=>by kernel_rfl
theorem zjo:zH 56:=λ_ _=>by kernel_rfl
theorem zgu:zH 57:=λ_ _=>by kernel_rfl
theorem ziX:zH 58:=λ_ _=>by kernel_rfl
theorem zd2 (S:Nat->Addr)(kd:Nat)(nm:ByteArray)(f:FuncId)(hf:zH f)(L:Sc->List Nat)(ns:List Nod)(gb ab:Nat)(t:TypeId)(w:World)
 (hA:∀c∈scs ns,∀lb bb sb nmv askv,N<=lb->N<=bb->zoD S kd lb bb sb nmv askv N f L c) (hP:PT w N ns (xP gb)) (hN:N<=w.heap.size) (hab:xH w ab #[.func (.func f) #[] #[]] t) :
 xK 60 #[.agg #[.string nm,sen S kd,.func (.func 98) #[] #[xP ab]],xP gb] w (λe w'=>e=.returned (zbp S kd (zO ((scs ns).flatMap L)))/\xB w w'):=by
 have hz:=ze hab;refine zkt S kd nm 98 zpT #[xP ab] gb _ w (λW hB hR=>?_);exact zoq S kd _ _ _ _ _ N f hf L ns (λc hc=>hA c hc _ _ _ _ _ (by omega) (by omega)) _ ab t none W hR (hP.old (zm hB hN)) (by have:=hB.size;omega) (by omega) (by omega) ((hB.block _ hz).trans hab) (by omega) (by omega)
theorem zoN (S:Nat->Addr)(kd:Nat)(nm:ByteArray)(ns:List Nod)(gb:Nat)(w:World)(hsz:∀n∈ns,n.terms.length<=1000000)(hP:PT w N ns (xP gb))(hN:N<=w.heap.size) :
 xK 60 #[.agg #[.string nm,sen S kd,.func (.func 59) #[] #[]],xP gb] w (λe w'=>e=.returned (zbp S kd (zO (zeZ ns)))/\xB w w'):=by
 refine zkt S kd nm 59 zqt #[] gb _ w (λW hB hR=>?_);exact ziJ S kd _ _ _ _ _ N ns hsz _ none W hR (hP.old (zm hB hN)) (by have:=hB.size;omega) (by omega) (by omega)
def zrz:Nat->ByteArray
 | 4=>⟨#[110,97,109,101,115]⟩
 | 5=>⟨#[116,121,112,101,115]⟩
 | 6=>⟨#[99,108,111,99,107,115]⟩
 | 7=>⟨#[100,101,102,105,110,105,116,105,111,110,115]⟩
 | 8=>⟨#[99,97,117,115,101,115]⟩
 | 9=>⟨#[109,101,109,111,114,121]⟩
 | _=>⟨#[]⟩
def zq3 (S:Nat->Addr):Option (Nat×Nat)->Value
 | none=>.nilIface
 | some (kd,p)=>zeQ (zrz kd) (zbp S kd (some p))
def zfq (ns:List Nod):Nat->List Nat
 | 0=>(scs ns).flatMap Sc.namesL
 | 1=>(scs ns).flatMap Sc.typesL
 | 2=>(scs ns).flatMap Sc.clocksL
 | 3=>(scs ns).flatMap Sc.definesL
 | 4=>(scs ns).flatMap Sc.causesL
 | 5=>zeZ ns
 | _=>[]
theorem zrb (h:∀n∈ns,zeJ n)(h6:ns.length<=6):∀c∈scs ns,zbr c:=by
 intro c hc;unfold scs at hc;obtain⟨i,hi,h1⟩:=List.mem_filterMap.1 hc;cases h2:ns[i]? with
 | none=>rw[h2] at h1;cases h1
 | some n => rw[h2] at h1;cases h1;refine⟨λm hm=>h m (List.mem_of_mem_take hm),h n (List.mem_of_getElem? h2),?_⟩;rw[List.length_take];omega
structure PrI (S:Nat->Addr) (N:Nat) (ns:List Nod) (gb:Nat) (w W:World):Prop where
 pt:PT W N ns (xP gb)
 row:W.heap[w.heap.size+1+1+1+1+1]?=some (.cells #[.string ⟨#[110,97,109,101,115]⟩,sen S 4,.func (.func 98) #[] #[xP w.heap.size],.string ⟨#[116,121,112,101,115]⟩,sen S 5,.func (.func 98) #[] #[xP (w.heap.size+1)],.string ⟨#[99,108,111,99,107,115]⟩,sen S 6,.func (.func 98) #[] #[xP (w.heap.size+1+1)],.string ⟨#[100,101,102,105,110,105,116,105,111,110,115]⟩,sen S 7,.func (.func 98) #[] #[xP (w.heap.size+1+1+1)],.string ⟨#[99,97,117,115,101,115]⟩,sen S 8,.func (.func 98) #[] #[xP (w.heap.size+1+1+1+1)],.string ⟨#[109,101,109,111,114,121]⟩,sen S 9,.func (.func 59) #[] #[]] 117 (0,0))
 b0:∃t,W.heap[w.heap.size]?=some (.cells #[.func (.func 54) #[] #[]] t (0,0))
 b1:∃t,W.heap[w.heap.size+1]?=some (.cells #[.func (.func 55) #[] #[]] t (0,0))
 b2:∃t,W.heap[w.heap.size+1+1]?=some (.cells #[.func (.func 56) #[] #[]] t (0,0))
 b3:∃t,W.heap[w.heap.size+1+1+1]?=some (.cells #[.func (.func 57) #[] #[]] t (0,0))
 b4:∃t,W.heap[w.heap.size+1+1+1+1]?=some (.cells #[.func (.func 58) #[] #[]] t (0,0))
 bel:xB w W
theorem PrI.keep {S:Nat->Addr}{gb:Nat}{w W W':World}(h:PrI S N ns gb w W)(hN:N<=w.heap.size)(hB:xB W W'):PrI S N ns gb w W' where
 pt:=h.pt.old (zm hB (Nat.le_trans hN h.bel.size))
 row:=(hB.block _ (ze h.row)).trans h.row
 b0:=by obtain⟨t,ht⟩:=h.b0;exact⟨t,(hB.block _ (ze ht)).trans ht⟩
 b1:=by obtain⟨t,ht⟩:=h.b1;exact⟨t,(hB.block _ (ze ht)).trans ht⟩
 b2:=by obtain⟨t,ht⟩:=h.b2;exact⟨t,(hB.block _ (ze ht)).trans ht⟩
 b3:=by obtain⟨t,ht⟩:=h.b3;exact⟨t,(hB.block _ (ze ht)).trans ht⟩
 b4:=by obtain⟨t,ht⟩:=h.b4;exact⟨t,(hB.block _ (ze ht)).trans ht⟩
 bel:=h.bel.trans (hB.mono h.bel.size)
theorem zo9 (w:World)(o1 o2 o3 o4 o5 o6:Obj):xB w ((((((w.alloc o1).alloc o2).alloc o3).alloc o4).alloc o5).alloc o6):=zg2 (zcz _ _ _ _)
theorem al6 (w:World)(o1 o2 o3 o4 o5 o6:Obj) :
 let W:=(((((w.alloc o1).alloc o2).alloc o3).alloc o4).alloc o5).alloc o6
 W.heap[w.heap.size]?=some o1/\W.heap[w.heap.size+1]?=some o2/\W.heap[w.heap.size+1+1]?=some o3/\W.heap[w.heap.size+1+1+1]?=some o4/\W.heap[w.heap.size+1+1+1+1]?=some o5/\W.heap[w.heap.size+1+1+1+1+1]?=some o6:=by
 have h (w:World) (o:Obj) (k:Nat):(w.alloc o).heap[k]?=if k=w.heap.size then some o else w.heap[k]?:=by show (w.heap.push o)[k]?=_;rw[Array.getElem?_push]
 intro W;refine⟨?_,?_,?_,?_,?_,?_⟩;all_goals simp only[W,h,zsb]
 all_goals repeat (first|rw[if_pos trivial]|rw[if_pos rfl]|rw[if_neg (by omega)])
theorem zdS {L:Sc->List Nat}(h:zO ((scs ns).flatMap L)=none):∀c∈scs ns,L c=[]:=by intro c hc;have:=zlT h;rw[List.flatMap_eq_nil_iff] at this;exact this c hc
theorem zjO (S:Nat->Addr)(N:Nat)(ns:List Nod)(hw:∀n∈ns,zeJ n)(Hsz:∀n∈ns,n.terms.length<=1000000)(gb:Nat)(w:World)(hG:Gl S w)(HP:PT w N ns (xP gb))(hN:N<=w.heap.size) :
 xK 27 #[xP gb] w (λe w'=>e=.returned (zq3 S (zbc ns))/\xB w w'):=by
 have h6:ns.length<=6:=by obtain⟨_,_,_,_,_,_,h⟩:=HP;exact h.few
 have Hok:=zrb hw h6;have g0:=hG.name;have g1:=hG.type;have g2:=hG.clock;have g3:=hG.define;have g4:=hG.cause;have g5:=hG.limit;have hgz:=hG.size;clear hG hw h6;have hsf:∀(a:Addr) (m:Mode) (fn:Go.Fn) (first cap:Array Value) (w:World),(store a (.func fn first cap) m).run prog w=stored prog w a (.func fn first cap) m:=λa m _ _ _ w=>run_store prog w a _ m rfl;unfold sen at *;go_enter func27,ntmps27;go_upto_region 1 with fail
 go_region_held3 (λw'=>w'.cell? (xD 1 0)=some (.iface 399 (.pointer (some (S 4))))/\w'.cell? (xD 2 0)=some (.iface 399 (.pointer (some (S 5))))/\w'.cell? (xD 3 0)=some (.iface 399 (.pointer (some (S 6))))/\w'.cell? (xD 4 0)=some (.iface 399 (.pointer (some (S 7))))/\w'.cell? (xD 5 0)=some (.iface 399 (.pointer (some (S 8))))/\w'.cell? (xD 6 0)=some (.iface 399 (.pointer (some (S 9)))))
  (first|(with_reducible (refine⟨?_,?_,?_,?_,?_,?_⟩ <;> repeat (first|assumption|refine zg ?_|refine zj _ ?_|refine zk (by omega) ?_)))|go_keep)
  (first|(go_at_call 53;refine (zjA _ _).mono ?_;rintro e w' ⟨rfl,t,rfl⟩))
 go_upto_region 2 with fail;refine zn (λW=>PrI S N ns gb w W) ⟨HP.old (zm (zo (zo9 w _ _ _ _ _ _)) hN),(al6 w _ _ _ _ _ _).2.2.2.2.2,⟨_,(al6 w _ _ _ _ _ _).1⟩,⟨_,(al6 w _ _ _ _ _ _).2.1⟩,⟨_,(al6 w _ _ _ _ _ _).2.2.1⟩,⟨_,(al6 w _ _ _ _ _ _).2.2.2.1⟩,⟨_,(al6 w _ _ _ _ _ _).2.2.2.2.1⟩,zo (zo9 w _ _ _ _ _ _)⟩ ?_;intro W hW;have HW:=za hW;clear hW g0 g1 g2 g3 g4 g5;go_wp2_with fail;go_loopg [27] 7 (λj i wr=>∃k:Nat,k+j=7/\k<=6/\i=xI k/\Hid (PrI S N ns gb w wr)/\Hid (∀j,j<k->zO (zfq ns j)=none));case atStart=>exact⟨0,by omega,by omega,rfl,HW.o,λj hj=>by omega⟩
 case round =>
  clear HW;obtain⟨k,hkj,hk,rfl,HI,HN⟩:=hrel;have hzr:=HI.o.bel.size;have hk':k=0∨k=1∨k=2∨k=3∨k=4∨k=5∨k=6:=by omega
  rcases hk' with rfl|rfl|rfl|rfl|rfl|rfl|rfl;have c0:wr.cell? (xD (w.heap.size+1+1+1+1+1) 0)=some (.string ⟨#[110,97,109,101,115]⟩):=by simp[World.cell?,HI.o.row,sen]
  have c1:wr.cell? (xD (w.heap.size+1+1+1+1+1) 1)=some (.iface 399 (.pointer (some (S 4)))):=by simp[World.cell?,HI.o.row,sen]
  have c2:wr.cell? (xD (w.heap.size+1+1+1+1+1) 2)=some (.func (.func 98) #[] #[xP w.heap.size]):=by simp[World.cell?,HI.o.row,sen]
  have hI2:=HI.o.keep hN (zq wr (.cells #[.string ⟨#[110,97,109,101,115]⟩,sen S 4,.func (.func 98) #[] #[xP w.heap.size]] 117));obtain⟨tb,htb⟩:=hI2.b0;have HR:=za (zd2 S 4 ⟨#[110,97,109,101,115]⟩ 54 zj2 Sc.namesL ns gb (w.heap.size) tb (wr.alloc (.cells #[.string ⟨#[110,97,109,101,115]⟩,sen S 4,.func (.func 98) #[] #[xP w.heap.size]] 117)) (λc hc lb bb sb nmv askv l1 l2 ev nv st W hR h hN=>ziZ S 4 lb bb sb nmv askv N c (Hok c hc).few (λq hq=>((Hok c hc).nd.eqs q hq).1) ev nv st W hR h hN l1 l2) hI2.pt (Nat.le_trans hN hI2.bel.size) htb);clear htb hI2;have hrz:=ze HI.o.row;obtain⟨pl,hl⟩:∃pl,zO ((scs ns).flatMap Sc.namesL)=pl:=⟨_,rfl⟩;rw[hl] at HR;have HN2:Hid (pl=none->∀j,j<1->zO (zfq ns j)=none):=by
   intro e j hj;by_cases e1:j=0
   . subst e1;exact hl.trans e
   . exact HN.o j (by omega)
  have HE:Hid (∀p,pl=some p->zbc ns=some (4,p)):=by intro p e;rw[e] at hl;unfold zbc;rw[hl]
  clear hl;rotate_left;have n0:zO ((scs ns).flatMap Sc.namesL)=none:=HN.o 0 (by omega);have c0:wr.cell? (xD (w.heap.size+1+1+1+1+1) 3)=some (.string ⟨#[116,121,112,101,115]⟩):=by simp[World.cell?,HI.o.row,sen]
  have c1:wr.cell? (xD (w.heap.size+1+1+1+1+1) 4)=some (.iface 399 (.pointer (some (S 5)))):=by simp[World.cell?,HI.o.row,sen]
  have c2:wr.cell? (xD (w.heap.size+1+1+1+1+1) 5)=some (.func (.func 98) #[] #[xP (w.heap.size+1)]):=by simp[World.cell?,HI.o.row,sen]
  have Hnm:Hid (∀c∈scs ns,zfw c):=λc hc=>zex (Hok c hc) (zdS n0 c hc);have hI2:=HI.o.keep hN (zq wr (.cells #[.string ⟨#[116,121,112,101,115]⟩,sen S 5,.func (.func 98) #[] #[xP (w.heap.size+1)]] 117));obtain⟨tb,htb⟩:=hI2.b1;have HR:=za (zd2 S 5 ⟨#[116,121,112,101,115]⟩ 55 zkf Sc.typesL ns gb (w.heap.size+1) tb (wr.alloc (.cells #[.string ⟨#[116,121,112,101,115]⟩,sen S 5,.func (.func 98) #[] #[xP (w.heap.size+1)]] 117)) (λc hc lb bb sb nmv askv l1 l2 ev nv st W hR h hN=>zjH S 5 lb bb sb nmv askv N c (Hok c hc) (Hnm.o c hc) ev nv st W hR h hN l1 l2) hI2.pt (Nat.le_trans hN hI2.bel.size) htb);clear htb hI2;have hrz:=ze HI.o.row;obtain⟨pl,hl⟩:∃pl,zO ((scs ns).flatMap Sc.typesL)=pl:=⟨_,rfl⟩;rw[hl] at HR;have HN2:Hid (pl=none->∀j,j<2->zO (zfq ns j)=none):=by
   intro e j hj;by_cases e1:j=1
   . subst e1;exact hl.trans e
   . exact HN.o j (by omega)
  have HE:Hid (∀p,pl=some p->zbc ns=some (5,p)):=by intro p e;rw[e] at hl;unfold zbc;rw[n0,hl]
  clear hl n0 Hnm;rotate_left;have n0:zO ((scs ns).flatMap Sc.namesL)=none:=HN.o 0 (by omega);have n1:zO ((scs ns).flatMap Sc.typesL)=none:=HN.o 1 (by omega);have c0:wr.cell? (xD (w.heap.size+1+1+1+1+1) 6)=some (.string ⟨#[99,108,111,99,107,115]⟩):=by simp[World.cell?,HI.o.row,sen]
  have c1:wr.cell? (xD (w.heap.size+1+1+1+1+1) 7)=some (.iface 399 (.pointer (some (S 6)))):=by simp[World.cell?,HI.o.row,sen]
  have c2:wr.cell? (xD (w.heap.size+1+1+1+1+1) 8)=some (.func (.func 98) #[] #[xP (w.heap.size+1+1)]):=by simp[World.cell?,HI.o.row,sen]
  have Hnm:Hid (∀c∈scs ns,zfw c):=λc hc=>zex (Hok c hc) (zdS n0 c hc);have hI2:=HI.o.keep hN (zq wr (.cells #[.string ⟨#[99,108,111,99,107,115]⟩,sen S 6,.func (.func 98) #[] #[xP (w.heap.size+1+1)]] 117));obtain⟨tb,htb⟩:=hI2.b2;have HR:=za (zd2 S 6 ⟨#[99,108,111,99,107,115]⟩ 56 zjo Sc.clocksL ns gb (w.heap.size+1+1) tb (wr.alloc (.cells #[.string ⟨#[99,108,111,99,107,115]⟩,sen S 6,.func (.func 98) #[] #[xP (w.heap.size+1+1)]] 117)) (λc hc lb bb sb nmv askv l1 l2 ev nv st W hR h hN=>ziv S 6 lb bb sb nmv askv N c (Hok c hc) ev nv st W hR h hN l1 l2) hI2.pt (Nat.le_trans hN hI2.bel.size) htb);clear htb hI2;have hrz:=ze HI.o.row;obtain⟨pl,hl⟩:∃pl,zO ((scs ns).flatMap Sc.clocksL)=pl:=⟨_,rfl⟩;rw[hl] at HR;have HN2:Hid (pl=none->∀j,j<3->zO (zfq ns j)=none):=by
   intro e j hj;by_cases e1:j=2
   . subst e1;exact hl.trans e
   . exact HN.o j (by omega)
  have HE:Hid (∀p,pl=some p->zbc ns=some (6,p)):=by intro p e;rw[e] at hl;unfold zbc;rw[n0,n1,hl]
  clear hl n0 n1 Hnm;rotate_left;have n0:zO ((scs ns).flatMap Sc.namesL)=none:=HN.o 0 (by omega);have n1:zO ((scs ns).flatMap Sc.typesL)=none:=HN.o 1 (by omega);have n2:zO ((scs ns).flatMap Sc.clocksL)=none:=HN.o 2 (by omega);have c0:wr.cell? (xD (w.heap.size+1+1+1+1+1) 9)=some (.string ⟨#[100,101,102,105,110,105,116,105,111,110,115]⟩):=by simp[World.cell?,HI.o.row,sen]
  have c1:wr.cell? (xD (w.heap.size+1+1+1+1+1) 10)=some (.iface 399 (.pointer (some (S 7)))):=by simp[World.cell?,HI.o.row,sen]
  have c2:wr.cell? (xD (w.heap.size+1+1+1+1+1) 11)=some (.func (.func 98) #[] #[xP (w.heap.size+1+1+1)]):=by simp[World.cell?,HI.o.row,sen]
  have Hnm:Hid (∀c∈scs ns,zfw c):=λc hc=>zex (Hok c hc) (zdS n0 c hc);have hI2:=HI.o.keep hN (zq wr (.cells #[.string ⟨#[100,101,102,105,110,105,116,105,111,110,115]⟩,sen S 7,.func (.func 98) #[] #[xP (w.heap.size+1+1+1)]] 117));obtain⟨tb,htb⟩:=hI2.b3;have HR:=za (zd2 S 7 ⟨#[100,101,102,105,110,105,116,105,111,110,115]⟩ 57 zgu Sc.definesL ns gb (w.heap.size+1+1+1) tb (wr.alloc (.cells #[.string ⟨#[100,101,102,105,110,105,116,105,111,110,115]⟩,sen S 7,.func (.func 98) #[] #[xP (w.heap.size+1+1+1)]] 117)) (λc hc lb bb sb nmv askv l1 l2 ev nv st W hR h hN=>zgb S 7 lb bb sb nmv askv N c (Hok c hc) (Hnm.o c hc) ev nv st W hR h hN l1 l2) hI2.pt (Nat.le_trans hN hI2.bel.size) htb);clear htb hI2;have hrz:=ze HI.o.row;obtain⟨pl,hl⟩:∃pl,zO ((scs ns).flatMap Sc.definesL)=pl:=⟨_,rfl⟩;rw[hl] at HR;have HN2:Hid (pl=none->∀j,j<4->zO (zfq ns j)=none):=by
   intro e j hj;by_cases e1:j=3
   . subst e1;exact hl.trans e
   . exact HN.o j (by omega)
  have HE:Hid (∀p,pl=some p->zbc ns=some (7,p)):=by intro p e;rw[e] at hl;unfold zbc;rw[n0,n1,n2,hl]
  clear hl n0 n1 n2 Hnm;rotate_left;have n0:zO ((scs ns).flatMap Sc.namesL)=none:=HN.o 0 (by omega);have n1:zO ((scs ns).flatMap Sc.typesL)=none:=HN.o 1 (by omega);have n2:zO ((scs ns).flatMap Sc.clocksL)=none:=HN.o 2 (by omega);have n3:zO ((scs ns).flatMap Sc.definesL)=none:=HN.o 3 (by omega);have c0:wr.cell? (xD (w.heap.size+1+1+1+1+1) 12)=some (.string ⟨#[99,97,117,115,101,115]⟩):=by simp[World.cell?,HI.o.row,sen]
  have c1:wr.cell? (xD (w.heap.size+1+1+1+1+1) 13)=some (.iface 399 (.pointer (some (S 8)))):=by simp[World.cell?,HI.o.row,sen]
  have c2:wr.cell? (xD (w.heap.size+1+1+1+1+1) 14)=some (.func (.func 98) #[] #[xP (w.heap.size+1+1+1+1)]):=by simp[World.cell?,HI.o.row,sen]
  have Hnm:Hid (∀c∈scs ns,zfw c):=λc hc=>zex (Hok c hc) (zdS n0 c hc);have hI2:=HI.o.keep hN (zq wr (.cells #[.string ⟨#[99,97,117,115,101,115]⟩,sen S 8,.func (.func 98) #[] #[xP (w.heap.size+1+1+1+1)]] 117));obtain⟨tb,htb⟩:=hI2.b4;have HR:=za (zd2 S 8 ⟨#[99,97,117,115,101,115]⟩ 58 ziX Sc.causesL ns gb (w.heap.size+1+1+1+1) tb (wr.alloc (.cells #[.string ⟨#[99,97,117,115,101,115]⟩,sen S 8,.func (.func 98) #[] #[xP (w.heap.size+1+1+1+1)]] 117)) (λc hc lb bb sb nmv askv l1 l2 ev nv st W hR h hN=>ziB S 8 lb bb sb nmv askv N c (Hok c hc) ev nv st W hR h hN l1 l2) hI2.pt (Nat.le_trans hN hI2.bel.size) htb);clear htb hI2;have hrz:=ze HI.o.row;obtain⟨pl,hl⟩:∃pl,zO ((scs ns).flatMap Sc.causesL)=pl:=⟨_,rfl⟩;rw[hl] at HR;have HN2:Hid (pl=none->∀j,j<5->zO (zfq ns j)=none):=by
   intro e j hj;by_cases e1:j=4
   . subst e1;exact hl.trans e
   . exact HN.o j (by omega)
  have HE:Hid (∀p,pl=some p->zbc ns=some (8,p)):=by intro p e;rw[e] at hl;unfold zbc;rw[n0,n1,n2,n3,hl]
  clear hl n0 n1 n2 n3 Hnm;rotate_left;have n0:zO ((scs ns).flatMap Sc.namesL)=none:=HN.o 0 (by omega);have n1:zO ((scs ns).flatMap Sc.typesL)=none:=HN.o 1 (by omega);have n2:zO ((scs ns).flatMap Sc.clocksL)=none:=HN.o 2 (by omega);have n3:zO ((scs ns).flatMap Sc.definesL)=none:=HN.o 3 (by omega);have n4:zO ((scs ns).flatMap Sc.causesL)=none:=HN.o 4 (by omega);have c0:wr.cell? (xD (w.heap.size+1+1+1+1+1) 15)=some (.string ⟨#[109,101,109,111,114,121]⟩):=by simp[World.cell?,HI.o.row,sen]
  have c1:wr.cell? (xD (w.heap.size+1+1+1+1+1) 16)=some (.iface 399 (.pointer (some (S 9)))):=by simp[World.cell?,HI.o.row,sen]
  have c2:wr.cell? (xD (w.heap.size+1+1+1+1+1) 17)=some (.func (.func 59) #[] #[]):=by simp[World.cell?,HI.o.row,sen]
  have Hnm:Hid (∀c∈scs ns,zfw c):=λc hc=>zex (Hok c hc) (zdS n0 c hc);have hI2:=HI.o.keep hN (zq wr (.cells #[.string ⟨#[109,101,109,111,114,121]⟩,sen S 9,.func (.func 59) #[] #[]] 117));have HR:=za (zoN S 9 ⟨#[109,101,109,111,114,121]⟩ ns gb (wr.alloc (.cells #[.string ⟨#[109,101,109,111,114,121]⟩,sen S 9,.func (.func 59) #[] #[]] 117)) Hsz hI2.pt (Nat.le_trans hN hI2.bel.size));clear hI2;have hrz:=ze HI.o.row;obtain⟨pl,hl⟩:∃pl,zO (zeZ ns)=pl:=⟨_,rfl⟩;rw[hl] at HR;have HN2:Hid (pl=none->∀j,j<6->zO (zfq ns j)=none):=by
   intro e j hj;by_cases e1:j=5
   . subst e1;exact hl.trans e
   . exact HN.o j (by omega)
  have HE:Hid (∀p,pl=some p->zbc ns=some (9,p)):=by intro p e;rw[e] at hl;unfold zbc;rw[n0,n1,n2,n3,n4,hl]
  clear hl n0 n1 n2 n3 n4 Hnm;rotate_left
  . have n0:zO ((scs ns).flatMap Sc.namesL)=none:=HN.o 0 (by omega);have n1:zO ((scs ns).flatMap Sc.typesL)=none:=HN.o 1 (by omega);have n2:zO ((scs ns).flatMap Sc.clocksL)=none:=HN.o 2 (by omega);have n3:zO ((scs ns).flatMap Sc.definesL)=none:=HN.o 3 (by omega);have n4:zO ((scs ns).flatMap Sc.causesL)=none:=HN.o 4 (by omega);have n5:zO (zeZ ns)=none:=HN.o 5 (by omega);have HE:Hid (zbc ns=none):=by unfold Hid zbc;rw[n0,n1,n2,n3,n4,n5]
    clear n0 n1 n2 n3 n4 n5;go_wp2_with fail;go_ret;rw[HE.o];exact⟨rfl,HI.o.bel⟩
  all_goals
   cases pl with
   | none =>
     have HN3:=za (HN2.o rfl);clear HN2 HE;unfold zbp sen at HR;go_wp2_with (go_at_call 60;refine HR.o.mono ?_;rintro e w2 ⟨rfl,hB2⟩;have HB2:=za (zE hB2);clear hB2);go_roundg (gk-1);case measure=>omega
     refine⟨_,?_,?_,?_,HI.o.keep hN HB2.o,HN3.o⟩
     . omega
     . omega
     . go_num
   | some p =>
     have HE2:=za (HE.o p rfl);clear HN2 HE;unfold zbp sen at HR
     go_wp2_with (first
      | (go_at_call 30;refine (zdo _ _ _ _).mono ?_;rintro e w3 ⟨rfl,rfl⟩)
      | (go_at_call 60;refine HR.o.mono ?_;rintro e w2 ⟨rfl,hB2⟩;have x0:=zd hB2 (zL (zc wr _)).1 (by simp);have HB2:=za (zE hB2);clear hB2))
     go_ret;rw[HE2.o];exact⟨rfl,HI.o.bel.trans (HB2.o.mono hzr)⟩
end
section
theorem zFs {ns:List Nod}{k p:Nat}(h:zbc ns=some (k,p)):4<=k/\k<=9:=by
 unfold zbc at h;repeat (split at h;· cases h;omega)
 cases h
def zAD (o:Option (Nat×Nat)):Nat×Nat:=o.getD (0,0)
theorem zAX (S:Nat->Addr)(src:ByteArray)(k p:Nat)(hk1:1<=k)(hk2:k<=11)(w:World)(hG:Gl S w)(hE:Sn S w)(hT:ErT w)(hR:xK 13 #[.string src] w (λe w'=>e=.returned (.tuple #[.pointer none,zvh S zfv k p])/\xB w w')) :
 xK 7 #[.string src] w (λe w'=>e=.returned (.tuple #[xI k,xI p])/\xB w w'):=by
 have HR:=za hR;have HAn:=za (λW (hB:xB w W)=>zvk S zfv k p W hk1 hk2 (hG.of (T:=λ_=>False) (Fr.of_below hB) (λ_ e=>e.elim)) (λi j i1 i2 j1 j2 W' hB'=>hE i j i1 i2 j1 j2 W' (hB.trans (hB'.mono hB.size))) ((World.cell?_of_block (w:=w) (a:=(xD 7 0)) (hB.block _ (World.block_lt_of_cell? w (xD 7 0) hT))).trans hT));unfold zvh zeQ at HR HAn;clear hR hG hE hT;have hch:xK 11 #[.string src] w (λe w'=>e=.returned (.tuple #[.pointer none,zvh S zfv k p])/\xB w w'):=by unfold zvh zeQ;clear HAn;go_enter func11,ntmps11;go_wp2_with (go_at_call 13;refine HR.o.mono ?_;rintro e w1 ⟨rfl,hB⟩;have HB1:=za hB);exact bodyPost_ret (v:=.tuple #[.pointer none,_]) (by simp[results,results11,go_sem]) rfl ⟨rfl,HB1.o⟩
 have HCh:=za hch;unfold zvh zeQ at HCh;clear hch HR;go_enter func7,ntmps7
 go_wp2_with (first
  | (go_at_call 12;refine (HAn.o _ HB1.o).mono ?_;rintro e w2 ⟨rfl,hB⟩;have HB2:=za hB)
  | (go_at_call 11;refine HCh.o.mono ?_;rintro e w1 ⟨rfl,hB⟩;have HB1:=za hB))
 exact bodyPost_ret (v:=.tuple #[xI k,xI p]) (by simp[results,results7,go_sem]) rfl ⟨rfl,HB1.o.trans (HB2.o.mono HB1.o.size)⟩
theorem zCK (S:Nat->Addr)(src:ByteArray)(ns:List Nod)(H5:∀n∈ns,zeJ n)(H6:∀n∈ns,n.terms.length<=1000000)(w:World)(HG:Gl S w)(hE:Sn S w)(hT:ErT w)
 (hR:xK 13 #[.string src] w (λe w'=>∃gb,e=.returned (.tuple #[xP gb,.nilIface])/\PT w' w'.heap.size ns (xP gb)/\xB w w')) :
 xK 7 #[.string src] w (λe w'=>e=.returned (.tuple #[.int .i64 (zAD (zbc ns)).1,.int .i64 (zAD (zbc ns)).2])/\xB w w'):=by
 have HRr:=za hR;have HPg:=za (λW gb (hB:xB w W) (hP:PT W W.heap.size ns (xP gb))=>zjO S W.heap.size ns H5 H6 gb W (HG.of (T:=λ_=>False) (Fr.of_below hB) (λ_ e=>e.elim)) hP (Nat.le_refl _));clear hR;cases hc:zbc ns with
 | none =>
   rw[hc] at HPg;rw[show zq3 S none=.nilIface from rfl] at HPg;clear hE hT HG H5 H6 hc;unfold zAD;simp only[Option.getD_none];have hch:xK 11 #[.string src] w (λe w'=>∃gb,e=.returned (.tuple #[xP gb,.nilIface])/\xB w w'):=by
    go_enter func11,ntmps11
    go_wp2_with (first
     | (go_at_call 27;revert HP1;intro HP1;refine (HPg.o _ _ HB1.o HP1.o).mono ?_;rintro e w2 ⟨rfl,hB⟩;have hz2:=hB.size;have HB2:=za hB)
     | (go_at_call 13;refine HRr.o.mono ?_;rintro e w1 ⟨gb,rfl,hP,hB⟩;have hz1:=hB.size;have HP1:=za hP;have HB1:=za hB))
    exact bodyPost_ret (v:=.tuple #[xP gb,_]) (by simp[results,results11,go_sem]) rfl ⟨gb,rfl,HB1.o.trans (HB2.o.mono hz1)⟩
   have HCh:=za hch;clear hch HRr HPg;go_enter func7,ntmps7
   go_wp2_with (first
    | (go_at_call 12;refine (zmA _).mono ?_;rintro e w2 ⟨rfl,rfl⟩)
    | (go_at_call 11;refine HCh.o.mono ?_;rintro e w1 ⟨gb,rfl,hB⟩;have HB1:=za hB))
   exact bodyPost_ret (v:=.tuple #[xI 0,xI 0]) (by simp[results,results7,go_sem]) rfl ⟨rfl,HB1.o⟩
 | some x =>
   obtain⟨kd,p⟩:=x;obtain⟨hk1,hk2⟩:=zFs hc;have HAn:=za (λW (hB:xB w W)=>zvk S (zrz kd) kd p W (by omega) (by omega) (HG.of (T:=λ_=>False) (Fr.of_below hB) (λ_ e=>e.elim)) (λi j i1 i2 j1 j2 W' hB'=>hE i j i1 i2 j1 j2 W' (hB.trans (hB'.mono hB.size))) ((World.cell?_of_block (w:=w) (a:=(xD 7 0)) (hB.block _ (World.block_lt_of_cell? w (xD 7 0) hT))).trans hT));rw[hc] at HPg;rw[show zq3 S (some (kd,p))=zvh S (zrz kd) kd p from rfl] at HPg;clear hE hT HG H5 H6 hc;obtain⟨nm,hnm⟩:∃nm,zrz kd=nm:=⟨_,rfl⟩;unfold zvh zeQ at HAn HPg;rw[hnm] at HPg HAn;unfold zAD;simp only[Option.getD_some];have hch:xK 11 #[.string src] w (λe w'=>∃gb,e=.returned (.tuple #[xP gb,zvh S nm kd p])/\xB w w'):=by
    unfold zvh zeQ;clear HAn;go_enter func11,ntmps11
    go_wp2_with (first
     | (go_at_call 27;revert HP1;intro HP1;refine (HPg.o _ _ HB1.o HP1.o).mono ?_;rintro e w2 ⟨rfl,hB⟩;have hz2:=hB.size;have HB2:=za hB)
     | (go_at_call 13;refine HRr.o.mono ?_;rintro e w1 ⟨gb,rfl,hP,hB⟩;have hz1:=hB.size;have HP1:=za hP;have HB1:=za hB))
    exact bodyPost_ret (v:=.tuple #[xP gb,_]) (by simp[results,results11,go_sem]) rfl ⟨gb,rfl,HB1.o.trans (HB2.o.mono hz1)⟩
   have HCh:=za hch;unfold zvh zeQ at HCh;clear hch HRr HPg;go_enter func7,ntmps7
   go_wp2_with (first
    | (go_at_call 12;refine (HAn.o _ HB1.o).mono ?_;rintro e w2 ⟨rfl,hB⟩;have HB2:=za hB)
    | (go_at_call 11;refine HCh.o.mono ?_;rintro e w1 ⟨gb,rfl,hB⟩;have HB1:=za hB))
   exact bodyPost_ret (v:=.tuple #[xI kd,xI p]) (by simp[results,results7,go_sem]) rfl ⟨rfl,HB1.o.trans (HB2.o.mono HB1.o.size)⟩
def zAN (src:ByteArray)(k p:Nat):Prop :=
 (1200<src.size/\k=1/\p=0)∨(src.size<=1200/\∃R,zgo (lev 17).ex (lev 18).ex 1300 src=R/\((R.1.er≠0/\k=R.1.er/\p=R.1.at')∨(R.1.er=0/\∃ns,ze5 R.2 ns/\k=(zAD (zbc ns)).1/\p=(zAD (zbc ns)).2)))
theorem zFJ {r17 r18:Fn}(g17:zv 17 r17)(g18:zv 18 r18){s:ByteArray}(hs:s.size<=1200):(zgo r17 r18 1300 s).1.er<=11:=by
 obtain⟨g,hg⟩:∃g,g=1300:=⟨_,rfl⟩;have hal:=zBj g17 g18 g (by omega) s (zzo hs);have h:=zmW g17 g18 (f:=g) (nodes:=[]) (zzo hs) rfl;rw[<- hg];rw[hal.1.er];have key:∀(f:Nat) (x:St×List Nd),Inv 0 x.1->x.1.op=0->Inv 0 (zyS r17 r18 g f x).1:=by
  intro f;induction f with
  | zero=>intro x h _;exact h
  | succ f ih =>
    intro x h ho;unfold zyS;split
    . have:=zmW g17 g18 (f:=g) (nodes:=x.2) h ho;exact ih _ this.1 this.2.1
    . exact h
 exact (key g _ h.1 h.2.1).ok.er
theorem zBd (S:Nat->Addr)(src:ByteArray)(k p:Nat)(h:zAN src k p)(w:World)(hG:Gl S w)(hE:Sn S w)(hT:ErT w) :
 xK 7 #[.string src] w (λe w'=>e=.returned (.tuple #[xI k,xI p])/\xB w w'):=by
 obtain⟨r17,r18,e17,e18,hX,hK,g17,g18⟩:=zk1;unfold zAN at h;rw[<- e17,<- e18] at h;rcases h with ⟨h1,rfl,rfl⟩|⟨h1,R,hR,⟨h2,rfl,rfl⟩|⟨h2,ns,h3,rfl,rfl⟩⟩
 . exact zAX S src 1 0 (by omega) (by omega) w hG hE hT (zzF hX hK g17 g18 S src 1 0 (Or.inl ⟨h1,rfl,rfl⟩) w hG)
 . have her:=zFJ g17 g18 h1;rw[hR] at her;exact zAX S src _ _ (by omega) her w hG hE hT (zzF hX hK g17 g18 S src _ _ (Or.inr ⟨h1,by rw[hR];exact h2,by rw[hR],by rw[hR]⟩) w hG)
 . obtain⟨f1,f2,ns',f3,f4,f5⟩:=zAc e17 e18 g17 g18 h1 hR h2;have:=zCJ h3 f3;subst this;exact zCK S src ns f4 (λn hn=>Nat.le_trans (f5 n hn) (by decide)) w hG hE hT (zBy hX hK g17 g18 S src R hR h1 h2 f2 ns f3 w hG)
end
section
variable {L:List Ex}
def zft {α β:Type}(f:α->Option β):List α->Option (List β)
 | []=>some []
 | a::l=>match f a with
   | none=>none
   | some b=>match zft f l with
     | none=>none
     | some m=>some (b::m)
theorem zma {α β:Type}{f:α->Option β}:∀{l:List α} {m:List β},zft f l=some m->m.length=l.length/\∀(i:Nat) (a:α) (b:β),l[i]?=some a->m[i]?=some b->f a=some b:=by
 intro l;induction l with
 | nil=>intro m h;cases h;exact⟨rfl,λi a b h=>by simp at h⟩
 | cons a l ih =>
   intro m h;unfold zft at h;split at h
   . cases h
   . rename_i b hb
     split at h
     . cases h
     . rename_i m' hm
       cases h;obtain⟨h1,h2⟩:=ih hm;refine⟨by simp[h1],λi x y hx hy=>?_⟩;cases i with
       | zero=>simp at hx hy;subst hx hy;exact hb
       | succ i=>exact h2 i x y (by simpa using hx) (by simpa using hy)
def ziR (L:List Ex):Nat->Nat->Option Tm
 | 0,_=>none
 | f+1,x=>match L[x]? with
   | none=>none
   | some ex=>match zft (ziR L f) ex.ins with
     | none=>none
     | some ts=>some (.mk (zag ex.op.toList ex.n) ex.a ex.s ex.nm (zbF ex.op.toList ex.n) ts)
theorem znM:∀{f x:Nat} {t:Tm},ziR L f x=some t->zeA L x t:=by
 intro f;induction f with
 | zero=>intro x t h;cases h
 | succ f ih =>
   intro x t h;unfold ziR at h;split at h
   . cases h
   . rename_i ex hx
     split at h
     . cases h
     . rename_i ts hts
       cases h;obtain⟨h1,h2⟩:=zma hts;exact zeA.mk x ex ts hx h1 (λi y t hy ht=>ih (h2 i y t hy ht))
theorem zeA.one {x:Nat}{t t':Tm}(h:zeA L x t)(h':zeA L x t'):t=t':=by
 induction h generalizing t' with
 | mk x ex ts hx hl hr ih =>
   cases h' with
   | mk _ ex' ts' hx' hl' hr' =>
     rw[hx] at hx';cases hx';have:ts=ts':=by
      apply List.ext_getElem?;intro i;by_cases hi:i<ts.length
      . have e1:=zsc hi;have e2:=zsc (show i<ts'.length by omega);have e3:=zsc (show i<ex.ins.length by omega);rw[e1,e2,ih i _ _ e3 e1 (hr' i _ _ e3 e2)]
      . rw[List.getElem?_eq_none (by omega),List.getElem?_eq_none (by omega)]
     rw[this]
def qnF (L:List Ex)(q:Eqn):Option Qn:=match ziR L 40 q.ex with
 | none=>none
 | some t=>some ⟨q.ns,q.ps,q.a,t⟩
def zqQ (d:Nd):Option Nod:=match zft (qnF d.exs) d.eqs with
 | none=>none
 | some l=>some ⟨d.nm,d.a,d.vars,d.ins,d.outs,l⟩
def ziP (l:List Nd):Option (List Nod):=zft zqQ l
theorem zpX:∀{l:List Eqn} {qs m:List Qn},zge L l qs->zft (qnF L) l=some m->qs=m:=by
 intro l;induction l with
 | nil=>rintro qs m rfl h;cases h;rfl
 | cons q l ih =>
   rintro qs m ⟨q',l',rfl,hq,hl⟩ h;unfold zft at h;split at h
   . cases h
   . rename_i b hb
     split at h
     . cases h
     . rename_i m' hm
       cases h;rw[ih hl hm];unfold qnF at hb;split at hb
       . cases hb
       . rename_i t ht
         cases hb;obtain⟨a1,a2,a3,a4⟩:=hq;obtain⟨c1,c2,c3,c4⟩:=q';simp only at a1 a2 a3 a4;subst a1 a2 a3;rw[a4.one (znM ht)]
theorem znV:∀{l:List Nd} {ns m:List Nod},ze5 l ns->ziP l=some m->ns=m:=by
 intro l;induction l with
 | nil=>rintro ns m rfl h;cases h;rfl
 | cons d l ih =>
   rintro ns m ⟨n,l',rfl,hn,hl⟩ h;unfold ziP zft at h;split at h
   . cases h
   . rename_i b hb
     split at h
     . cases h
     . rename_i m' hm
       cases h;rw[ih hl hm];unfold zqQ at hb;split at hb
       . cases hb
       . rename_i qs hq
         cases hb;obtain⟨b1,b2,b3,b4,b5,b6⟩:=hn;obtain⟨c1,c2,c3,c4,c5,c6⟩:=n;simp only at b1 b2 b3 b4 b5 b6;subst b1 b2 b3 b4 b5;rw[zpX b6 hq]
end
section
variable {src:ByteArray} {P:List Nod->Bool}
def rdG (src:ByteArray)(P:List Nod->Bool):Bool :=
 let R:=zgo (lev 17).ex (lev 18).ex 1300 src
 decide (src.size<=1200)&&decide (R.1.er=0) &&
  match ziP R.2 with
  | none=>false
  | some ns=>P ns
theorem zEq (h:rdG src P=true):src.size<=1200/\(zgo (lev 17).ex (lev 18).ex 1300 src).1.er=0/\∃ns,ziP (zgo (lev 17).ex (lev 18).ex 1300 src).2=some ns/\P ns=true:=by
 unfold rdG at h;simp only[Bool.and_eq_true,decide_eq_true_eq] at h;obtain⟨⟨h1,h2⟩,h4⟩:=h;split at h4
 . cases h4
 . rename_i ns hns
   exact⟨h1,h2,ns,hns,h4⟩
theorem zC2 {o:Option (Nat×Nat)}(h:rdG src P=true)(hP:∀ns,P ns=true->zbc ns=o):zAN src (zAD o).1 (zAD o).2:=by
 obtain⟨r17,r18,e17,e18,hX,hK,g17,g18⟩:=zk1;obtain⟨h1,h2,ms,h3,h4⟩:=zEq h;clear h;unfold zAN;rw[<- e17,<- e18] at h2 h3 ⊢;obtain⟨R,hR⟩:∃R,zgo r17 r18 1300 src=R:=⟨_,rfl⟩;rw[hR] at h2 h3;obtain⟨_,_,ns,f3,_,_⟩:=zAc e17 e18 g17 g18 h1 hR h2;have:=znV f3 h3;subst this;have hc:=hP _ h4;refine Or.inr ⟨h1,R,hR,Or.inr ⟨h2,ns,f3,?_,?_⟩⟩
 . rw[hc]
 . rw[hc]
theorem zE0 (S:Nat->Addr){T:ByteArray}(h:rdG src P=true)(hP:∀ns,P ns=true->zu3 ns=T.data.toList)(w:World)(hKn:Kn S w) :
 xK 8 #[.string src] w (λe w'=>e=.returned (.tuple #[.string T,xI 0,xI 0])/\xB w w'):=by
 obtain⟨r17,r18,e17,e18,hX,hK,g17,g18⟩:=zk1;obtain⟨h1,h2,ms,h3,h4⟩:=zEq h;rw[<- e17,<- e18] at h2 h3;obtain⟨R,hR⟩:∃R,zgo r17 r18 1300 src=R:=⟨_,rfl⟩;rw[hR] at h2 h3;obtain⟨f1,f2,ns,f3,f4,_⟩:=zAc e17 e18 g17 g18 h1 hR h2;have:=znV f3 h3;subst this;have hT:(⟨(zu3 ns).toArray⟩:ByteArray)=T:=by rw[hP _ h4]
 rw[<- hT];have hq1:∀n∈ns,∀q∈n.eqs,1<=q.ns.length:=λn hn q hq=>((f4 n hn).eqs q hq).2.1;have hsm:∀n∈ns,(zvg n).length<=9000000000:=λn hn=>by obtain⟨d,hd,hnd⟩:=zz9 f3 n hn;exact zBt hnd (f1 d hd) (hq1 n hn)
 have hln:=f3.len;have htl:=zA6 hsm;refine zAY S src ns f4 (λn hn q hq=>?_) (λn hn=>by have:=zBO n;have:=hsm n hn;omega) (by omega) w hKn (zBy hX hK g17 g18 S src R hR h1 h2 f2 ns f3 w hKn.gl);obtain⟨d,hd,hnd⟩:=zz9 f3 n hn;obtain⟨⟨x,hx⟩,hz⟩:=zCZ hnd.eqs q hq;have hz2:=zz5 hnd (f1 d hd);exact⟨zFQ (f1 d hd).s.exs hx,by rw[zFN];omega⟩
end
section
variable {W w:World}
def zFy:ByteArray:=⟨#[110,111,100,101,32,110,40,97,58,32,105,110,116,41,32,45,62,32,40,115,58,32,105,110,116,41,32,123,32,115,32,61,32,115,32,43,32,97,59,32,125]⟩
def zFb:ByteArray:=⟨#[110,111,100,101,32,110,40,97,58,105,110,116,41,45,62,40,115,58,105,110,116,41,123,115,61,97,43,40,48,53,32,102,98,121,32,115,41,59,125]⟩
def zE5:ByteArray:=⟨#[110,111,100,101,32,110,32,40,32,97,32,58,32,105,110,116,32,41,32,45,62,32,40,32,115,32,58,32,105,110,116,32,41,32,123,32,115,32,61,32,40,32,97,32,43,32,40,32,53,32,102,98,121,32,115,32,41,32,41,32,59,32,125,10]⟩
theorem zHn:rdG zFy (λns=>decide (zbc ns=some (8,5)))=true:=by decide +kernel
theorem zGp:rdG zFb (λns=>decide (zbc ns=none)&&decide (zu3 ns=zE5.data.toList))=true:=by decide +kernel
theorem Sn.bl {S:Nat->Addr}(h:Sn S w)(hB:xB w W):Sn S W:=λi j i1 i2 j1 j2 W' hB'=>h i j i1 i2 j1 j2 W' (hB.trans (hB'.mono hB.size))
theorem ErT.bl (h:ErT w)(hB:xB w W):ErT W:=(World.cell?_of_block (w:=w) (a:=(xD 7 0)) (hB.block _ (World.block_lt_of_cell? w (xD 7 0) h))).trans h
theorem zEP (S:Nat->Addr)(w:World)(hK:Kn S w)(hE:Sn S w)(hT:ErT w) :
 xK 5 #[] w (λe w'=>e=.returned (.bool true)/\xB w w'):=by
 have HC:=za (zBd S zFy 8 5 (zC2 (o:=some (8,5)) zHn (λns h=>of_decide_eq_true h)) w hK.gl hE hT);have HD:=za (λW (hb:xB w W)=>zBd S zFb 0 0 (zC2 (o:=none) zGp (λns h=>by simp only[Bool.and_eq_true,decide_eq_true_eq] at h;exact h.1)) W (hK.bl hb).gl (hE.bl hb) (hT.bl hb));have HP:=za (λW (hb:xB w W)=>zE0 S zGp (T:=zE5) (λns h=>by simp only[Bool.and_eq_true,decide_eq_true_eq] at h;exact h.2) W (hK.bl hb));unfold zFy at HC;unfold zFb at HD HP;unfold zE5 at HP;clear hK hE hT;go_enter func5,ntmps5
 go_wp2_with (first
  | (go_at_call 8;revert HB2;intro HB2;refine (HP.o _ HB2.o).mono ?_;rintro e w3 ⟨rfl,hb⟩;have HB3:=za (HB2.o.trans (hb.mono HB2.o.size)))
  | (go_at_call 7;revert HB1;intro HB1;refine (HD.o _ HB1.o).mono ?_;rintro e w2 ⟨rfl,hb⟩;have HB2:=za (HB1.o.trans (hb.mono HB1.o.size)))
  | (go_at_call 7;refine HC.o.mono ?_;rintro e w1 ⟨rfl,hb⟩;have HB1:=za hb))
 go_ret;exact⟨rfl,HB3.o⟩
end
section
theorem zDC (S:Nat->Addr)(kd n:Int)(s:ByteArray)(a:Option Addr)(len cap:Nat)(w:World)(hK:Kn S w)(hE:Sn S w)(hT:ErT w) :
 xK 16 #[.agg #[xI kd,xI n,.string s,.slice a len cap]] w (λe w'=>e=.returned (.bool true)/\xB w w'):=by
 obtain⟨T,k,p,hp,hq⟩:=zDE s;have HP:=za (λW (hb:xB w W)=>hp S W (hK.bl hb) (hE.bl hb) (hT.bl hb));have HQ:=za hq;clear hp hq hK hE hT;go_enter func16,ntmps16;go_wp2_with (go_at_call 8;refine (HP.o _ ((Below.refl _ _).alloc (Nat.le_refl _) _)).mono ?_);rintro e w1 ⟨rfl,hB1⟩;have hc:=zd hB1 (zU (zc w _)).2.2.1 (by simp);have HB1:=za (zE hB1);have hz1:=hB1.size;clear hB1 HP;go_wp2_with (go_at_call 40;refine (HQ.o _).mono ?_);rintro e w2 ⟨rfl,hB2⟩;have HB2:=za (HB1.o.trans (hB2.mono HB1.o.size));clear hB2 HQ hc;go_wp2_with fail;go_ret;exact⟨rfl,HB2.o⟩
theorem zFf (S:Nat->Addr)(wb:Nat)(n:Int)(s:ByteArray)(a:Option Addr)(len cap:Nat)(w:World)(hK:Kn S w)(hE:Sn S w)(hT:ErT w) :
 xK 9 #[xP wb,.agg #[xI 2,xI n,.string s,.slice a len cap]] w (λe w'=>e=.returned (.bool true)/\xB w w'):=by
 have HP:=za (λW (hb:xB w W)=>zDC S 2 n s a len cap W (hK.bl hb) (hE.bl hb) (hT.bl hb));clear hK hE hT;go_enter func9,ntmps9;go_wp2_with (go_at_call 16;refine (HP.o _ ((Below.refl _ _).alloc (Nat.le_refl _) _)).mono ?_);rintro e w1 ⟨rfl,hB1⟩;have HB1:=za (zE hB1);clear hB1 HP;go_wp2_with fail;go_ret;exact⟨rfl,HB1.o⟩
end
end Go.Proofs.YtmfkofhgdjechaaGreatDoor
