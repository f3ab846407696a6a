/- Part 45 of the proof: ChkP FixA. -/
import Derived.Test.YtedmpgjebafcjaaGreatDoorK40
import Derived.Test.YtedmpgjebafcjaaGreatDoorK42
import Derived.Test.YtedmpgjebafcjaaGreatDoorK43
set_option maxRecDepth 100000
set_option maxHeartbeats 8000000
namespace Go.Proofs.YtedmpgjebafcjaaGreatDoor
section
open Go.RowKit
attribute [local go_sem ↓] Go.wp_at_zero Go.wp_at_succ
theorem zpT:zH 95:=λ_ _=>by kernel_rfl
theorem zj2:zH 58:=λ_ _=>by kernel_rfl
theorem zkf:zH 59:=λ_ _=>by kernel_rfl
theorem zjo:zH 60:=λ_ _=>by kernel_rfl
theorem zgu:zH 61:=λ_ _=>by kernel_rfl
theorem ziX:zH 62:=λ_ _=>by kernel_rfl
theorem zd2 {N:Nat} (S:Nat->Addr) (kd:Nat) (nm:ByteArray) (f:FuncId) (hf:zH f) (L:Sc->List Nat) (ns:List Nod) (gb ab:Nat) (t:TypeId) (w:World)
 (hA:∀c∈scs ns,∀lb bb sb nmv askv,N<=lb->N<=bb->zoD S kd lb bb sb nmv askv N f L c) (hP:PT w N ns (.pointer (some ⟨gb,0,none⟩))) (hN:N<=w.heap.size) (hab:w.heap[ab]?=some (.cells #[.func (.func f) #[] #[]] t (0,0))) :
 Calls Tryz.prog 64 #[.agg #[.string nm,sen S kd,.func (.func 95) #[] #[.pointer (some ⟨ab,0,none⟩)]],.pointer (some ⟨gb,0,none⟩)] w (λe w'=>e=.returned (zbp S kd (zO ((scs ns).flatMap L)))/\Below w.heap.size w w'):=by
 have hz:=ze hab
 refine zkt S kd nm 95 zpT #[.pointer (some ⟨ab,0,none⟩)] gb _ w (λW hB hR=>?_)
 exact zoq S kd _ _ _ _ _ N f hf L ns (λc hc=>hA c hc _ _ _ _ _ (by omega) (by omega)) _ ab t none W hR (hP.old (zm hB hN)) (by have:=hB.size;omega) (by omega) (by omega) ((hB.block _ hz).trans hab) (by omega) (by omega)
theorem zoN {N:Nat} (S:Nat->Addr) (kd:Nat) (nm:ByteArray) (ns:List Nod) (gb:Nat) (w:World) (hsz:∀n∈ns,n.terms.length<=1000000) (hP:PT w N ns (.pointer (some ⟨gb,0,none⟩))) (hN:N<=w.heap.size) :
 Calls Tryz.prog 64 #[.agg #[.string nm,sen S kd,.func (.func 63) #[] #[]],.pointer (some ⟨gb,0,none⟩)] w (λe w'=>e=.returned (zbp S kd (zO (zeZ ns)))/\Below w.heap.size w w'):=by
 refine zkt S kd nm 63 zqt #[] gb _ w (λW hB hR=>?_)
 exact ziJ S kd _ _ _ _ _ N ns hsz _ none W hR (hP.old (zm hB hN)) (by have:=hB.size;omega) (by omega) (by omega)
def zrz:Nat->ByteArray
 | 4=>⟨#[110,97,109,101,115]⟩
 | 5=>⟨#[116,121,112,101,115]⟩
 | 6=>⟨#[99,108,111,99,107,115]⟩
 | 7=>⟨#[100,101,102,105,110,105,116,105,111,110,115]⟩
 | 8=>⟨#[99,97,117,115,101,115]⟩
 | 9=>⟨#[109,101,109,111,114,121]⟩
 | _=>⟨#[]⟩
def zq3 (S:Nat->Addr):Option (Nat×Nat)->Value
 | none=>.nilIface
 | some (kd,p)=>zeQ (zrz kd) (zbp S kd (some p))
def zfq (ns:List Nod):Nat->List Nat
 | 0=>(scs ns).flatMap Sc.namesL
 | 1=>(scs ns).flatMap Sc.typesL
 | 2=>(scs ns).flatMap Sc.clocksL
 | 3=>(scs ns).flatMap Sc.definesL
 | 4=>(scs ns).flatMap Sc.causesL
 | 5=>zeZ ns
 | _=>[]
theorem zrb {ns:List Nod} (h:∀n∈ns,zeJ n) (h6:ns.length<=6):∀c∈scs ns,zbr c:=by
 intro c hc
 unfold scs at hc
 obtain ⟨i,hi,h1⟩:=List.mem_filterMap.1 hc
 cases h2:ns[i]? with
 | none=>rw [h2] at h1;cases h1
 | some n =>
   rw [h2] at h1
   cases h1
   refine ⟨λm hm=>h m (List.mem_of_mem_take hm),h n (List.mem_of_getElem? h2),?_⟩
   rw [List.length_take];omega
structure PrI (S:Nat->Addr) (N:Nat) (ns:List Nod) (gb:Nat) (w W:World):Prop where
 pt:PT W N ns (.pointer (some ⟨gb,0,none⟩))
 row:W.heap[w.heap.size+1+1+1+1+1]?=some (.cells #[.string ⟨#[110,97,109,101,115]⟩,sen S 4,.func (.func 95) #[] #[.pointer (some ⟨w.heap.size,0,none⟩)],.string ⟨#[116,121,112,101,115]⟩,sen S 5,.func (.func 95) #[] #[.pointer (some ⟨w.heap.size+1,0,none⟩)],.string ⟨#[99,108,111,99,107,115]⟩,sen S 6,.func (.func 95) #[] #[.pointer (some ⟨w.heap.size+1+1,0,none⟩)],.string ⟨#[100,101,102,105,110,105,116,105,111,110,115]⟩,sen S 7,.func (.func 95) #[] #[.pointer (some ⟨w.heap.size+1+1+1,0,none⟩)],.string ⟨#[99,97,117,115,101,115]⟩,sen S 8,.func (.func 95) #[] #[.pointer (some ⟨w.heap.size+1+1+1+1,0,none⟩)],.string ⟨#[109,101,109,111,114,121]⟩,sen S 9,.func (.func 63) #[] #[]] 153 (0,0))
 b0:∃t,W.heap[w.heap.size]?=some (.cells #[.func (.func 58) #[] #[]] t (0,0))
 b1:∃t,W.heap[w.heap.size+1]?=some (.cells #[.func (.func 59) #[] #[]] t (0,0))
 b2:∃t,W.heap[w.heap.size+1+1]?=some (.cells #[.func (.func 60) #[] #[]] t (0,0))
 b3:∃t,W.heap[w.heap.size+1+1+1]?=some (.cells #[.func (.func 61) #[] #[]] t (0,0))
 b4:∃t,W.heap[w.heap.size+1+1+1+1]?=some (.cells #[.func (.func 62) #[] #[]] t (0,0))
 bel:Below w.heap.size w W
theorem PrI.keep {S:Nat->Addr} {N:Nat} {ns:List Nod} {gb:Nat} {w W W':World} (h:PrI S N ns gb w W) (hN:N<=w.heap.size) (hB:Below W.heap.size W W'):PrI S N ns gb w W' where
 pt:=h.pt.old (zm hB (Nat.le_trans hN h.bel.size))
 row:=(hB.block _ (ze h.row)).trans h.row
 b0:=by obtain ⟨t,ht⟩:=h.b0;exact ⟨t,(hB.block _ (ze ht)).trans ht⟩
 b1:=by obtain ⟨t,ht⟩:=h.b1;exact ⟨t,(hB.block _ (ze ht)).trans ht⟩
 b2:=by obtain ⟨t,ht⟩:=h.b2;exact ⟨t,(hB.block _ (ze ht)).trans ht⟩
 b3:=by obtain ⟨t,ht⟩:=h.b3;exact ⟨t,(hB.block _ (ze ht)).trans ht⟩
 b4:=by obtain ⟨t,ht⟩:=h.b4;exact ⟨t,(hB.block _ (ze ht)).trans ht⟩
 bel:=h.bel.trans (hB.mono h.bel.size)
theorem zo9 (w:World) (o1 o2 o3 o4 o5 o6:Obj):Below w.heap.size w ((((((w.alloc o1).alloc o2).alloc o3).alloc o4).alloc o5).alloc o6):=zg2 (zcz _ _ _ _)
theorem al6 (w:World) (o1 o2 o3 o4 o5 o6:Obj) :
 let W:=(((((w.alloc o1).alloc o2).alloc o3).alloc o4).alloc o5).alloc o6
 W.heap[w.heap.size]?=some o1/\W.heap[w.heap.size+1]?=some o2/\W.heap[w.heap.size+1+1]?=some o3/\W.heap[w.heap.size+1+1+1]?=some o4/\W.heap[w.heap.size+1+1+1+1]?=some o5/\W.heap[w.heap.size+1+1+1+1+1]?=some o6:=by
 have h (w:World) (o:Obj) (k:Nat):(w.alloc o).heap[k]?=if k=w.heap.size then some o else w.heap[k]?:=by
  show (w.heap.push o)[k]?=_
  rw [Array.getElem?_push]
 intro W
 refine ⟨?_,?_,?_,?_,?_,?_⟩
 all_goals simp only [W,h,zsb]
 all_goals repeat (first|rw [if_pos trivial]|rw [if_pos rfl]|rw [if_neg (by omega)])
theorem zdS {ns:List Nod} {L:Sc->List Nat} (h:zO ((scs ns).flatMap L)=none):∀c∈scs ns,L c=[]:=by
 intro c hc
 have:=zlT h
 rw [List.flatMap_eq_nil_iff] at this
 exact this c hc
theorem zjO (S:Nat->Addr) (N:Nat) (ns:List Nod) (hw:∀n∈ns,zeJ n) (hsz:∀n∈ns,n.terms.length<=1000000) (gb:Nat) (w:World) (hG:Gl S w) (hP:PT w N ns (.pointer (some ⟨gb,0,none⟩))) (hN:N<=w.heap.size) :
 Calls Tryz.prog 29 #[.pointer (some ⟨gb,0,none⟩)] w (λe w'=>e=.returned (zq3 S (zbc ns))/\Below w.heap.size w w'):=by
 have h6:ns.length<=6:=by obtain ⟨_,_,_,_,_,_,h⟩:=hP;exact h.few
 have hok:=zrb hw h6
 have g0:=hG.name
 have g1:=hG.type
 have g2:=hG.clock
 have g3:=hG.define
 have g4:=hG.cause
 have g5:=hG.limit
 have hgz:=hG.size
 have HP:=za hP
 have Hok:=za hok
 have Hsz:=za hsz
 clear hG hP hw h6 hok hsz
 have hsf:∀(a:Addr) (m:Mode) (fn:Go.Fn) (first cap:Array Value) (w:World),(store a (.func fn first cap) m).run Tryz.prog w=stored Tryz.prog w a (.func fn first cap) m:=λa m _ _ _ w=>run_store Tryz.prog w a _ m rfl
 unfold sen at *
 go_enter Tryz.func29,Tryz.ntmps29
 go_upto_region 1 with fail
 go_region_held3 (λw'=>w'.cell? ⟨5,0,none⟩=some (.iface 293 (.pointer (some (S 4))))/\w'.cell? ⟨6,0,none⟩=some (.iface 293 (.pointer (some (S 5))))/\w'.cell? ⟨7,0,none⟩=some (.iface 293 (.pointer (some (S 6))))/\w'.cell? ⟨8,0,none⟩=some (.iface 293 (.pointer (some (S 7))))/\w'.cell? ⟨9,0,none⟩=some (.iface 293 (.pointer (some (S 8))))/\w'.cell? ⟨10,0,none⟩=some (.iface 293 (.pointer (some (S 9)))))
  (first|(refine ⟨?_,?_,?_,?_,?_,?_⟩ <;> repeat (first|with_reducible exact g0|with_reducible exact g1|with_reducible exact g2|with_reducible exact g3|with_reducible exact g4|with_reducible exact g5|with_reducible refine zg ?_|with_reducible refine zj _ ?_|with_reducible refine zk (by omega) ?_))|go_keep)
  (first|(go_at_call 57;refine (zjA _ _).mono ?_;rintro e w' ⟨rfl,t,rfl⟩))
 go_upto_region 2 with fail
 refine zn (λW=>PrI S N ns gb w W) ⟨HP.out.old (zm (zo (zo9 w _ _ _ _ _ _)) hN),(al6 w _ _ _ _ _ _).2.2.2.2.2,⟨_,(al6 w _ _ _ _ _ _).1⟩,⟨_,(al6 w _ _ _ _ _ _).2.1⟩,⟨_,(al6 w _ _ _ _ _ _).2.2.1⟩,⟨_,(al6 w _ _ _ _ _ _).2.2.2.1⟩,⟨_,(al6 w _ _ _ _ _ _).2.2.2.2.1⟩,zo (zo9 w _ _ _ _ _ _)⟩ ?_
 intro W hW
 have HW:=za hW
 clear hW g0 g1 g2 g3 g4 g5
 go_wp2_with fail
 go_loopg [27] 7 (λj i wr=>∃k:Nat,k+j=7/\k<=6/\i=.int .i64 k/\Hid (PrI S N ns gb w wr)/\Hid (∀j,j<k->zO (zfq ns j)=none))
 case atStart=>exact ⟨0,by omega,by omega,rfl,HW.out,λj hj=>by omega⟩
 case round =>
  clear HW
  obtain ⟨k,hkj,hk,rfl,HI,HN⟩:=hrel
  have hzr:=HI.out.bel.size
  have hk':k=0∨k=1∨k=2∨k=3∨k=4∨k=5∨k=6:=by omega
  rcases hk' with rfl|rfl|rfl|rfl|rfl|rfl|rfl
  · have c0:wr.cell? ⟨w.heap.size+1+1+1+1+1,0,none⟩=some (.string ⟨#[110,97,109,101,115]⟩):=by simp [World.cell?,HI.out.row,sen]
    have c1:wr.cell? ⟨w.heap.size+1+1+1+1+1,1,none⟩=some (.iface 293 (.pointer (some (S 4)))):=by simp [World.cell?,HI.out.row,sen]
    have c2:wr.cell? ⟨w.heap.size+1+1+1+1+1,2,none⟩=some (.func (.func 95) #[] #[.pointer (some ⟨w.heap.size,0,none⟩)]):=by simp [World.cell?,HI.out.row,sen]
    have hI2:=HI.out.keep hN (zq wr (.cells #[.string ⟨#[110,97,109,101,115]⟩,sen S 4,.func (.func 95) #[] #[.pointer (some ⟨w.heap.size,0,none⟩)]] 153))
    obtain ⟨tb,htb⟩:=hI2.b0
    have HR:=za (zd2 S 4 ⟨#[110,97,109,101,115]⟩ 58 zj2 Sc.namesL ns gb (w.heap.size) tb (wr.alloc (.cells #[.string ⟨#[110,97,109,101,115]⟩,sen S 4,.func (.func 95) #[] #[.pointer (some ⟨w.heap.size,0,none⟩)]] 153)) (λc hc lb bb sb nmv askv l1 l2 ev nv st W hR h hN=>ziZ S 4 lb bb sb nmv askv N c (Hok.out c hc).few (λq hq=>((Hok.out c hc).nd.eqs q hq).1) ev nv st W hR h hN l1 l2) hI2.pt (Nat.le_trans hN hI2.bel.size) htb)
    clear htb hI2
    have hrz:=ze HI.out.row
    cases hl:zO ((scs ns).flatMap Sc.namesL) with
    | none =>
      rw [hl] at HR
      have HN2:Hid (∀j,j<1->zO (zfq ns j)=none):=by
       intro j hj
       by_cases e:j=0
       · subst e;exact hl
       · exact HN.out j (by omega)
      clear hl
      unfold zbp sen at HR
      go_wp2_with (go_at_call 64;refine HR.out.mono ?_;rintro e w2 ⟨rfl,hB2⟩;have HB2:=za (zE hB2);clear hB2)
      go_roundg (gk-1)
      case measure=>omega
      exact ⟨1,by omega,by omega,by go_num,HI.out.keep hN HB2.out,HN2.out⟩
    | some p =>
      rw [hl] at HR
      have HE:Hid (zbc ns=some (4,p)):=by unfold Hid zbc;rw [hl]
      clear hl
      unfold zbp sen at HR
      go_wp2_with (first
       | (go_at_call 22;refine (zdo _ _ _ _).mono ?_;rintro e w3 ⟨rfl,rfl⟩)
       | (go_at_call 64;refine HR.out.mono ?_;rintro e w2 ⟨rfl,hB2⟩;have x0:=zd hB2 (zL (zc wr _)).1 (by simp);have HB2:=za (zE hB2);clear hB2))
      go_ret
      rw [HE.out]
      exact ⟨rfl,HI.out.bel.trans (HB2.out.mono hzr)⟩
  · have n0:zO ((scs ns).flatMap Sc.namesL)=none:=HN.out 0 (by omega)
    have c0:wr.cell? ⟨w.heap.size+1+1+1+1+1,3,none⟩=some (.string ⟨#[116,121,112,101,115]⟩):=by simp [World.cell?,HI.out.row,sen]
    have c1:wr.cell? ⟨w.heap.size+1+1+1+1+1,4,none⟩=some (.iface 293 (.pointer (some (S 5)))):=by simp [World.cell?,HI.out.row,sen]
    have c2:wr.cell? ⟨w.heap.size+1+1+1+1+1,5,none⟩=some (.func (.func 95) #[] #[.pointer (some ⟨w.heap.size+1,0,none⟩)]):=by simp [World.cell?,HI.out.row,sen]
    have Hnm:Hid (∀c∈scs ns,zfw c):=λc hc=>zex (Hok.out c hc) (zdS n0 c hc)
    have hI2:=HI.out.keep hN (zq wr (.cells #[.string ⟨#[116,121,112,101,115]⟩,sen S 5,.func (.func 95) #[] #[.pointer (some ⟨w.heap.size+1,0,none⟩)]] 153))
    obtain ⟨tb,htb⟩:=hI2.b1
    have HR:=za (zd2 S 5 ⟨#[116,121,112,101,115]⟩ 59 zkf Sc.typesL ns gb (w.heap.size+1) tb (wr.alloc (.cells #[.string ⟨#[116,121,112,101,115]⟩,sen S 5,.func (.func 95) #[] #[.pointer (some ⟨w.heap.size+1,0,none⟩)]] 153)) (λc hc lb bb sb nmv askv l1 l2 ev nv st W hR h hN=>zjH S 5 lb bb sb nmv askv N c (Hok.out c hc) (Hnm.out c hc) ev nv st W hR h hN l1 l2) hI2.pt (Nat.le_trans hN hI2.bel.size) htb)
    clear htb hI2
    have hrz:=ze HI.out.row
    cases hl:zO ((scs ns).flatMap Sc.typesL) with
    | none =>
      rw [hl] at HR
      have HN2:Hid (∀j,j<2->zO (zfq ns j)=none):=by
       intro j hj
       by_cases e:j=1
       · subst e;exact hl
       · exact HN.out j (by omega)
      clear hl n0 Hnm
      unfold zbp sen at HR
      go_wp2_with (go_at_call 64;refine HR.out.mono ?_;rintro e w2 ⟨rfl,hB2⟩;have HB2:=za (zE hB2);clear hB2)
      go_roundg (gk-1)
      case measure=>omega
      exact ⟨2,by omega,by omega,by go_num,HI.out.keep hN HB2.out,HN2.out⟩
    | some p =>
      rw [hl] at HR
      have HE:Hid (zbc ns=some (5,p)):=by unfold Hid zbc;rw [n0,hl]
      clear hl n0 Hnm
      unfold zbp sen at HR
      go_wp2_with (first
       | (go_at_call 22;refine (zdo _ _ _ _).mono ?_;rintro e w3 ⟨rfl,rfl⟩)
       | (go_at_call 64;refine HR.out.mono ?_;rintro e w2 ⟨rfl,hB2⟩;have x0:=zd hB2 (zL (zc wr _)).1 (by simp);have HB2:=za (zE hB2);clear hB2))
      go_ret
      rw [HE.out]
      exact ⟨rfl,HI.out.bel.trans (HB2.out.mono hzr)⟩
  · have n0:zO ((scs ns).flatMap Sc.namesL)=none:=HN.out 0 (by omega)
    have n1:zO ((scs ns).flatMap Sc.typesL)=none:=HN.out 1 (by omega)
    have c0:wr.cell? ⟨w.heap.size+1+1+1+1+1,6,none⟩=some (.string ⟨#[99,108,111,99,107,115]⟩):=by simp [World.cell?,HI.out.row,sen]
    have c1:wr.cell? ⟨w.heap.size+1+1+1+1+1,7,none⟩=some (.iface 293 (.pointer (some (S 6)))):=by simp [World.cell?,HI.out.row,sen]
    have c2:wr.cell? ⟨w.heap.size+1+1+1+1+1,8,none⟩=some (.func (.func 95) #[] #[.pointer (some ⟨w.heap.size+1+1,0,none⟩)]):=by simp [World.cell?,HI.out.row,sen]
    have Hnm:Hid (∀c∈scs ns,zfw c):=λc hc=>zex (Hok.out c hc) (zdS n0 c hc)
    have hI2:=HI.out.keep hN (zq wr (.cells #[.string ⟨#[99,108,111,99,107,115]⟩,sen S 6,.func (.func 95) #[] #[.pointer (some ⟨w.heap.size+1+1,0,none⟩)]] 153))
    obtain ⟨tb,htb⟩:=hI2.b2
    have HR:=za (zd2 S 6 ⟨#[99,108,111,99,107,115]⟩ 60 zjo Sc.clocksL ns gb (w.heap.size+1+1) tb (wr.alloc (.cells #[.string ⟨#[99,108,111,99,107,115]⟩,sen S 6,.func (.func 95) #[] #[.pointer (some ⟨w.heap.size+1+1,0,none⟩)]] 153)) (λc hc lb bb sb nmv askv l1 l2 ev nv st W hR h hN=>ziv S 6 lb bb sb nmv askv N c (Hok.out c hc) ev nv st W hR h hN l1 l2) hI2.pt (Nat.le_trans hN hI2.bel.size) htb)
    clear htb hI2
    have hrz:=ze HI.out.row
    cases hl:zO ((scs ns).flatMap Sc.clocksL) with
    | none =>
      rw [hl] at HR
      have HN2:Hid (∀j,j<3->zO (zfq ns j)=none):=by
       intro j hj
       by_cases e:j=2
       · subst e;exact hl
       · exact HN.out j (by omega)
      clear hl n0 n1 Hnm
      unfold zbp sen at HR
      go_wp2_with (go_at_call 64;refine HR.out.mono ?_;rintro e w2 ⟨rfl,hB2⟩;have HB2:=za (zE hB2);clear hB2)
      go_roundg (gk-1)
      case measure=>omega
      exact ⟨3,by omega,by omega,by go_num,HI.out.keep hN HB2.out,HN2.out⟩
    | some p =>
      rw [hl] at HR
      have HE:Hid (zbc ns=some (6,p)):=by unfold Hid zbc;rw [n0,n1,hl]
      clear hl n0 n1 Hnm
      unfold zbp sen at HR
      go_wp2_with (first
       | (go_at_call 22;refine (zdo _ _ _ _).mono ?_;rintro e w3 ⟨rfl,rfl⟩)
       | (go_at_call 64;refine HR.out.mono ?_;rintro e w2 ⟨rfl,hB2⟩;have x0:=zd hB2 (zL (zc wr _)).1 (by simp);have HB2:=za (zE hB2);clear hB2))
      go_ret
      rw [HE.out]
      exact ⟨rfl,HI.out.bel.trans (HB2.out.mono hzr)⟩
  · have n0:zO ((scs ns).flatMap Sc.namesL)=none:=HN.out 0 (by omega)
    have n1:zO ((scs ns).flatMap Sc.typesL)=none:=HN.out 1 (by omega)
    have n2:zO ((scs ns).flatMap Sc.clocksL)=none:=HN.out 2 (by omega)
    have c0:wr.cell? ⟨w.heap.size+1+1+1+1+1,9,none⟩=some (.string ⟨#[100,101,102,105,110,105,116,105,111,110,115]⟩):=by simp [World.cell?,HI.out.row,sen]
    have c1:wr.cell? ⟨w.heap.size+1+1+1+1+1,10,none⟩=some (.iface 293 (.pointer (some (S 7)))):=by simp [World.cell?,HI.out.row,sen]
    have c2:wr.cell? ⟨w.heap.size+1+1+1+1+1,11,none⟩=some (.func (.func 95) #[] #[.pointer (some ⟨w.heap.size+1+1+1,0,none⟩)]):=by simp [World.cell?,HI.out.row,sen]
    have Hnm:Hid (∀c∈scs ns,zfw c):=λc hc=>zex (Hok.out c hc) (zdS n0 c hc)
    have hI2:=HI.out.keep hN (zq wr (.cells #[.string ⟨#[100,101,102,105,110,105,116,105,111,110,115]⟩,sen S 7,.func (.func 95) #[] #[.pointer (some ⟨w.heap.size+1+1+1,0,none⟩)]] 153))
    obtain ⟨tb,htb⟩:=hI2.b3
    have HR:=za (zd2 S 7 ⟨#[100,101,102,105,110,105,116,105,111,110,115]⟩ 61 zgu Sc.definesL ns gb (w.heap.size+1+1+1) tb (wr.alloc (.cells #[.string ⟨#[100,101,102,105,110,105,116,105,111,110,115]⟩,sen S 7,.func (.func 95) #[] #[.pointer (some ⟨w.heap.size+1+1+1,0,none⟩)]] 153)) (λc hc lb bb sb nmv askv l1 l2 ev nv st W hR h hN=>zgb S 7 lb bb sb nmv askv N c (Hok.out c hc) (Hnm.out c hc) ev nv st W hR h hN l1 l2) hI2.pt (Nat.le_trans hN hI2.bel.size) htb)
    clear htb hI2
    have hrz:=ze HI.out.row
    cases hl:zO ((scs ns).flatMap Sc.definesL) with
    | none =>
      rw [hl] at HR
      have HN2:Hid (∀j,j<4->zO (zfq ns j)=none):=by
       intro j hj
       by_cases e:j=3
       · subst e;exact hl
       · exact HN.out j (by omega)
      clear hl n0 n1 n2 Hnm
      unfold zbp sen at HR
      go_wp2_with (go_at_call 64;refine HR.out.mono ?_;rintro e w2 ⟨rfl,hB2⟩;have HB2:=za (zE hB2);clear hB2)
      go_roundg (gk-1)
      case measure=>omega
      exact ⟨4,by omega,by omega,by go_num,HI.out.keep hN HB2.out,HN2.out⟩
    | some p =>
      rw [hl] at HR
      have HE:Hid (zbc ns=some (7,p)):=by unfold Hid zbc;rw [n0,n1,n2,hl]
      clear hl n0 n1 n2 Hnm
      unfold zbp sen at HR
      go_wp2_with (first
       | (go_at_call 22;refine (zdo _ _ _ _).mono ?_;rintro e w3 ⟨rfl,rfl⟩)
       | (go_at_call 64;refine HR.out.mono ?_;rintro e w2 ⟨rfl,hB2⟩;have x0:=zd hB2 (zL (zc wr _)).1 (by simp);have HB2:=za (zE hB2);clear hB2))
      go_ret
      rw [HE.out]
      exact ⟨rfl,HI.out.bel.trans (HB2.out.mono hzr)⟩
  · have n0:zO ((scs ns).flatMap Sc.namesL)=none:=HN.out 0 (by omega)
    have n1:zO ((scs ns).flatMap Sc.typesL)=none:=HN.out 1 (by omega)
    have n2:zO ((scs ns).flatMap Sc.clocksL)=none:=HN.out 2 (by omega)
    have n3:zO ((scs ns).flatMap Sc.definesL)=none:=HN.out 3 (by omega)
    have c0:wr.cell? ⟨w.heap.size+1+1+1+1+1,12,none⟩=some (.string ⟨#[99,97,117,115,101,115]⟩):=by simp [World.cell?,HI.out.row,sen]
    have c1:wr.cell? ⟨w.heap.size+1+1+1+1+1,13,none⟩=some (.iface 293 (.pointer (some (S 8)))):=by simp [World.cell?,HI.out.row,sen]
    have c2:wr.cell? ⟨w.heap.size+1+1+1+1+1,14,none⟩=some (.func (.func 95) #[] #[.pointer (some ⟨w.heap.size+1+1+1+1,0,none⟩)]):=by simp [World.cell?,HI.out.row,sen]
    have Hnm:Hid (∀c∈scs ns,zfw c):=λc hc=>zex (Hok.out c hc) (zdS n0 c hc)
    have hI2:=HI.out.keep hN (zq wr (.cells #[.string ⟨#[99,97,117,115,101,115]⟩,sen S 8,.func (.func 95) #[] #[.pointer (some ⟨w.heap.size+1+1+1+1,0,none⟩)]] 153))
    obtain ⟨tb,htb⟩:=hI2.b4
    have HR:=za (zd2 S 8 ⟨#[99,97,117,115,101,115]⟩ 62 ziX Sc.causesL ns gb (w.heap.size+1+1+1+1) tb (wr.alloc (.cells #[.string ⟨#[99,97,117,115,101,115]⟩,sen S 8,.func (.func 95) #[] #[.pointer (some ⟨w.heap.size+1+1+1+1,0,none⟩)]] 153)) (λc hc lb bb sb nmv askv l1 l2 ev nv st W hR h hN=>ziB S 8 lb bb sb nmv askv N c (Hok.out c hc) ev nv st W hR h hN l1 l2) hI2.pt (Nat.le_trans hN hI2.bel.size) htb)
    clear htb hI2
    have hrz:=ze HI.out.row
    cases hl:zO ((scs ns).flatMap Sc.causesL) with
    | none =>
      rw [hl] at HR
      have HN2:Hid (∀j,j<5->zO (zfq ns j)=none):=by
       intro j hj
       by_cases e:j=4
       · subst e;exact hl
       · exact HN.out j (by omega)
      clear hl n0 n1 n2 n3 Hnm
      unfold zbp sen at HR
      go_wp2_with (go_at_call 64;refine HR.out.mono ?_;rintro e w2 ⟨rfl,hB2⟩;have HB2:=za (zE hB2);clear hB2)
      go_roundg (gk-1)
      case measure=>omega
      exact ⟨5,by omega,by omega,by go_num,HI.out.keep hN HB2.out,HN2.out⟩
    | some p =>
      rw [hl] at HR
      have HE:Hid (zbc ns=some (8,p)):=by unfold Hid zbc;rw [n0,n1,n2,n3,hl]
      clear hl n0 n1 n2 n3 Hnm
      unfold zbp sen at HR
      go_wp2_with (first
       | (go_at_call 22;refine (zdo _ _ _ _).mono ?_;rintro e w3 ⟨rfl,rfl⟩)
       | (go_at_call 64;refine HR.out.mono ?_;rintro e w2 ⟨rfl,hB2⟩;have x0:=zd hB2 (zL (zc wr _)).1 (by simp);have HB2:=za (zE hB2);clear hB2))
      go_ret
      rw [HE.out]
      exact ⟨rfl,HI.out.bel.trans (HB2.out.mono hzr)⟩
  · have n0:zO ((scs ns).flatMap Sc.namesL)=none:=HN.out 0 (by omega)
    have n1:zO ((scs ns).flatMap Sc.typesL)=none:=HN.out 1 (by omega)
    have n2:zO ((scs ns).flatMap Sc.clocksL)=none:=HN.out 2 (by omega)
    have n3:zO ((scs ns).flatMap Sc.definesL)=none:=HN.out 3 (by omega)
    have n4:zO ((scs ns).flatMap Sc.causesL)=none:=HN.out 4 (by omega)
    have c0:wr.cell? ⟨w.heap.size+1+1+1+1+1,15,none⟩=some (.string ⟨#[109,101,109,111,114,121]⟩):=by simp [World.cell?,HI.out.row,sen]
    have c1:wr.cell? ⟨w.heap.size+1+1+1+1+1,16,none⟩=some (.iface 293 (.pointer (some (S 9)))):=by simp [World.cell?,HI.out.row,sen]
    have c2:wr.cell? ⟨w.heap.size+1+1+1+1+1,17,none⟩=some (.func (.func 63) #[] #[]):=by simp [World.cell?,HI.out.row,sen]
    have Hnm:Hid (∀c∈scs ns,zfw c):=λc hc=>zex (Hok.out c hc) (zdS n0 c hc)
    have hI2:=HI.out.keep hN (zq wr (.cells #[.string ⟨#[109,101,109,111,114,121]⟩,sen S 9,.func (.func 63) #[] #[]] 153))
    have HR:=za (zoN S 9 ⟨#[109,101,109,111,114,121]⟩ ns gb (wr.alloc (.cells #[.string ⟨#[109,101,109,111,114,121]⟩,sen S 9,.func (.func 63) #[] #[]] 153)) Hsz.out hI2.pt (Nat.le_trans hN hI2.bel.size))
    clear hI2
    have hrz:=ze HI.out.row
    cases hl:zO (zeZ ns) with
    | none =>
      rw [hl] at HR
      have HN2:Hid (∀j,j<6->zO (zfq ns j)=none):=by
       intro j hj
       by_cases e:j=5
       · subst e;exact hl
       · exact HN.out j (by omega)
      clear hl n0 n1 n2 n3 n4 Hnm
      unfold zbp sen at HR
      go_wp2_with (go_at_call 64;refine HR.out.mono ?_;rintro e w2 ⟨rfl,hB2⟩;have HB2:=za (zE hB2);clear hB2)
      go_roundg (gk-1)
      case measure=>omega
      exact ⟨6,by omega,by omega,by go_num,HI.out.keep hN HB2.out,HN2.out⟩
    | some p =>
      rw [hl] at HR
      have HE:Hid (zbc ns=some (9,p)):=by unfold Hid zbc;rw [n0,n1,n2,n3,n4,hl]
      clear hl n0 n1 n2 n3 n4 Hnm
      unfold zbp sen at HR
      go_wp2_with (first
       | (go_at_call 22;refine (zdo _ _ _ _).mono ?_;rintro e w3 ⟨rfl,rfl⟩)
       | (go_at_call 64;refine HR.out.mono ?_;rintro e w2 ⟨rfl,hB2⟩;have x0:=zd hB2 (zL (zc wr _)).1 (by simp);have HB2:=za (zE hB2);clear hB2))
      go_ret
      rw [HE.out]
      exact ⟨rfl,HI.out.bel.trans (HB2.out.mono hzr)⟩
  · have n0:zO ((scs ns).flatMap Sc.namesL)=none:=HN.out 0 (by omega)
    have n1:zO ((scs ns).flatMap Sc.typesL)=none:=HN.out 1 (by omega)
    have n2:zO ((scs ns).flatMap Sc.clocksL)=none:=HN.out 2 (by omega)
    have n3:zO ((scs ns).flatMap Sc.definesL)=none:=HN.out 3 (by omega)
    have n4:zO ((scs ns).flatMap Sc.causesL)=none:=HN.out 4 (by omega)
    have n5:zO (zeZ ns)=none:=HN.out 5 (by omega)
    have HE:Hid (zbc ns=none):=by unfold Hid zbc;rw [n0,n1,n2,n3,n4,n5]
    clear n0 n1 n2 n3 n4 n5
    go_wp2_with fail
    go_ret
    rw [HE.out]
    exact ⟨rfl,HI.out.bel⟩
end
section
open Go.RowKit
def zft {α β:Type} (f:α->Option β):List α->Option (List β)
 | []=>some []
 | a::l=>match f a with
   | none=>none
   | some b=>match zft f l with
     | none=>none
     | some m=>some (b::m)
theorem zma {α β:Type} {f:α->Option β}:∀{l:List α} {m:List β},zft f l=some m->m.length=l.length/\∀(i:Nat) (a:α) (b:β),l[i]?=some a->m[i]?=some b->f a=some b:=by
 intro l
 induction l with
 | nil=>intro m h;cases h;exact ⟨rfl,λi a b h=>by simp at h⟩
 | cons a l ih =>
   intro m h
   unfold zft at h
   split at h
   · cases h
   · rename_i b hb
     split at h
     · cases h
     · rename_i m' hm
       cases h
       obtain ⟨h1,h2⟩:=ih hm
       refine ⟨by simp [h1],λi x y hx hy=>?_⟩
       cases i with
       | zero=>simp at hx hy;subst hx hy;exact hb
       | succ i=>exact h2 i x y (by simpa using hx) (by simpa using hy)
def ziR (L:List Ex):Nat->Nat->Option Tm
 | 0,_=>none
 | f+1,x=>match L[x]? with
   | none=>none
   | some ex=>match zft (ziR L f) ex.ins with
     | none=>none
     | some ts=>some (.mk (zag ex.op.toList ex.n) ex.a ex.s ex.nm (zbF ex.op.toList ex.n) ts)
theorem znM {L:List Ex}:∀{f x:Nat} {t:Tm},ziR L f x=some t->zeA L x t:=by
 intro f
 induction f with
 | zero=>intro x t h;cases h
 | succ f ih =>
   intro x t h
   unfold ziR at h
   split at h
   · cases h
   · rename_i ex hx
     split at h
     · cases h
     · rename_i ts hts
       cases h
       obtain ⟨h1,h2⟩:=zma hts
       exact zeA.mk x ex ts hx h1 (λi y t hy ht=>ih (h2 i y t hy ht))
theorem zeA.one {L:List Ex} {x:Nat} {t t':Tm} (h:zeA L x t) (h':zeA L x t'):t=t':=by
 induction h generalizing t' with
 | mk x ex ts hx hl hr ih =>
   cases h' with
   | mk _ ex' ts' hx' hl' hr' =>
     rw [hx] at hx'
     cases hx'
     have:ts=ts':=by
      apply List.ext_getElem?
      intro i
      by_cases hi:i<ts.length
      · have e1:=zsc hi
        have e2:=zsc (show i<ts'.length by omega)
        have e3:=zsc (show i<ex.ins.length by omega)
        rw [e1,e2,ih i _ _ e3 e1 (hr' i _ _ e3 e2)]
      · rw [List.getElem?_eq_none (by omega),List.getElem?_eq_none (by omega)]
     rw [this]
def qnF (L:List Ex) (q:Eqn):Option Qn:=match ziR L 40 q.ex with
 | none=>none
 | some t=>some ⟨q.ns,q.ps,q.a,t⟩
def zqQ (d:Nd):Option Nod:=match zft (qnF d.exs) d.eqs with
 | none=>none
 | some l=>some ⟨d.nm,d.a,d.vars,d.ins,d.outs,l⟩
def ziP (l:List Nd):Option (List Nod):=zft zqQ l
theorem zpX {L:List Ex}:∀{l:List Eqn} {qs m:List Qn},zge L l qs->zft (qnF L) l=some m->qs=m:=by
 intro l
 induction l with
 | nil=>rintro qs m rfl h;cases h;rfl
 | cons q l ih =>
   rintro qs m ⟨q',l',rfl,hq,hl⟩ h
   unfold zft at h
   split at h
   · cases h
   · rename_i b hb
     split at h
     · cases h
     · rename_i m' hm
       cases h
       rw [ih hl hm]
       unfold qnF at hb
       split at hb
       · cases hb
       · rename_i t ht
         cases hb
         obtain ⟨a1,a2,a3,a4⟩:=hq
         obtain ⟨c1,c2,c3,c4⟩:=q'
         simp only at a1 a2 a3 a4
         subst a1 a2 a3
         rw [a4.one (znM ht)]
theorem znV:∀{l:List Nd} {ns m:List Nod},ze5 l ns->ziP l=some m->ns=m:=by
 intro l
 induction l with
 | nil=>rintro ns m rfl h;cases h;rfl
 | cons d l ih =>
   rintro ns m ⟨n,l',rfl,hn,hl⟩ h
   unfold ziP zft at h
   split at h
   · cases h
   · rename_i b hb
     split at h
     · cases h
     · rename_i m' hm
       cases h
       rw [ih hl hm]
       unfold zqQ at hb
       split at hb
       · cases hb
       · rename_i qs hq
         cases hb
         obtain ⟨b1,b2,b3,b4,b5,b6⟩:=hn
         obtain ⟨c1,c2,c3,c4,c5,c6⟩:=n
         simp only at b1 b2 b3 b4 b5 b6
         subst b1 b2 b3 b4 b5
         rw [zpX b6 hq]
def wfB:Nat->Tm->Bool
 | 0,_=>false
 | f+1,.mk k _ _ _ _ ts=>arB k ts.length&&ts.all (wfB f)
theorem zmD:∀{f:Nat} {t:Tm},wfB f t=true->Wf t:=by
 intro f
 induction f with
 | zero=>intro t h;cases h
 | succ f ih =>
   intro t h
   cases t with
   | mk k a s nm n ts =>
     unfold wfB at h
     simp only [Bool.and_eq_true,List.all_eq_true] at h
     exact Wf.mk k a s nm n ts h.1 (λu hu=>ih (h.2 u hu))
def zjC (n:Nod):Bool :=
 decide (1<=n.ins)&&decide (1<=n.outs)&&decide (n.ins+n.outs<=n.vars.length)&&decide (n.vars.length<=16)&&n.eqs.all λq=>decide (q.ns.length=q.ps.length)&&decide (1<=q.ns.length)&&wfB 40 q.r&&(decide (q.ns.length<=1)||decide (q.r.k=4))
theorem zhT {n:Nod} (h:zjC n=true):zeJ n:=by
 unfold zjC at h
 simp only [Bool.and_eq_true,decide_eq_true_eq,List.all_eq_true,Bool.or_eq_true] at h
 obtain ⟨⟨⟨⟨h1,h2⟩,h3⟩,h4⟩,h5⟩:=h
 exact ⟨h1,h2,h3,h4,λq hq=>by
  obtain ⟨⟨⟨e1,e2⟩,e3⟩,e4⟩:=h5 q hq
  exact ⟨e1,e2,zmD e3,λh=>e4.resolve_left (by omega)⟩⟩
def chB (c:Sc):Nat->Nat×Nat->Bool
 | 0,k=>decide (k.2=0)
 | f+1,k=>decide (k.2=0)||(decide (k.1<=1000000)&&chB c f (c.up k))
theorem zqV {c:Sc}:∀{f:Nat} {k:Nat×Nat},chB c f k=true->zfT c f k:=by
 intro f
 induction f with
 | zero=>intro k h;simpa [chB,zfT] using h
 | succ f ih =>
   intro k h
   unfold chB at h
   simp only [Bool.or_eq_true,decide_eq_true_eq,Bool.and_eq_true] at h
   exact h.imp id (λh=>⟨h.1,ih h.2⟩)
def okB (c:Sc) (fu:Nat):Nat->Tm->Nat×Nat->Bool
 | 0,_,_=>false
 | f+1,t,k=>wfB 40 t&&chB c fu k&&(!(decide (t.k=4))||(c.called t.s).isSome) &&
    (if t.k=9 then (match t.ts with|_::u::_=>okB c fu f u k|_=>true)
     else (List.range t.ts.length).all λi=>match t.ts[i]? with|none=>true|some u=>okB c fu f u (c.operand t i k))
theorem zra (c:Sc) (fu:Nat):PtC c fu (λt k=>∃f,okB c fu f t k=true):=by
 have key:∀t k,(∃f,okB c fu f t k=true)->∃f,((wfB 40 t=true/\chB c fu k=true)/\(!(decide (t.k=4))||(c.called t.s).isSome)=true)/\(if t.k=9 then (match t.ts with|_::u::_=>okB c fu f u k|_=>true) else (List.range t.ts.length).all λi=>match t.ts[i]? with|none=>true|some u=>okB c fu f u (c.operand t i k))=true:=by
  rintro t k ⟨f,h⟩
  cases f with
  | zero=>cases h
  | succ f =>
    unfold okB at h
    simp only [Bool.and_eq_true] at h
    exact ⟨f,h⟩
 refine ⟨λt k h=>?_,λt k h=>?_,λt k h h4=>?_,λt k i u h hn hu=>?_,λt k x u l h h9 hts=>?_⟩
 · obtain ⟨f,⟨⟨h1,_⟩,_⟩,_⟩:=key t k h;exact zmD h1
 · obtain ⟨f,⟨⟨_,h1⟩,_⟩,_⟩:=key t k h;exact zqV h1
 · obtain ⟨f,⟨_,h1⟩,_⟩:=key t k h
   rw [decide_eq_true h4] at h1
   simp only [Bool.not_true,Bool.false_or] at h1
   exact Option.isSome_iff_exists.1 h1
 · obtain ⟨f,_,h1⟩:=key t k h
   have h9:¬t.k=9:=by unfold zak at hn;simpa using hn
   rw [if_neg h9,List.all_eq_true] at h1
   have:=h1 i (List.mem_range.2 (List.getElem?_eq_some_iff.1 hu).1)
   rw [hu] at this
   exact ⟨f,this⟩
 · obtain ⟨f,_,h1⟩:=key t k h
   rw [if_pos h9,hts] at h1
   exact ⟨f,h1⟩
def gdB (fu gas:Nat):Nat->Sc->Bool
 | 0,_=>false
 | f+1,c=>c.er.all zjC&&zjC c.nd&&decide (c.er.length<=6)&&decide (c.nd.eqs.length<=1000000)&&(c.nd.eqs.all λq=>okB c fu 40 q.r (c.of (c.idx (q.ns.headD ⟨#[]⟩))))&&decide (fbQ (zac c)<=gas) &&
    (List.range c.er.length).all λi=>match c.er[i]? with|none=>true|some n=>gdB fu gas f ⟨c.er.take i,n⟩
theorem zqW {fu gas:Nat}:∀{f:Nat} {c:Sc},gdB fu gas f c=true->GdC fu gas f c:=by
 intro f
 induction f with
 | zero=>intro c h;cases h
 | succ f ih =>
   intro c h
   unfold gdB at h
   simp only [Bool.and_eq_true,decide_eq_true_eq,List.all_eq_true] at h
   obtain ⟨⟨⟨⟨⟨⟨h1,h2⟩,h3⟩,h4⟩,h5⟩,h6⟩,h7⟩:=h
   refine ⟨⟨_,⟨⟨λn hn=>zhT (h1 n hn),zhT h2,h3⟩,h4,zra c fu,λq hq=>⟨40,h5 q hq⟩,h6⟩⟩,λs d hd=>?_⟩
   unfold Sc.called at hd
   split at hd
   · cases hd
   · rename_i i hi
     split at hd
     · cases hd
     · rename_i n hn
       cases hd
       have:=h7 i (List.mem_range.2 (List.getElem?_eq_some_iff.1 hn).1)
       rw [hn] at this
       exact ih this
end
end Go.Proofs.YtedmpgjebafcjaaGreatDoor
