/- Part 30 of the proof: ChkI ChkJ. -/
import Derived.Test.YtedmpgjebafcjaaGreatDoorK28
set_option maxRecDepth 100000
set_option maxHeartbeats 8000000
namespace Go.Proofs.YtedmpgjebafcjaaGreatDoor
section
open Go.RowKit
attribute [local go_sem ↓] Go.wp_at_zero Go.wp_at_succ
theorem zS {lb bb:Nat} {w W:World} {b i:Nat} {v:Value} (h:Fr (RT lb bb) w W) (hc:w.cell? ⟨b,i,none⟩=some v) (h1:¬b=lb) (h2:¬b=bb):W.cell? ⟨b,i,none⟩=some v:=by
 have hlt:b<w.heap.size:=by
  rcases Nat.lt_or_ge b w.heap.size with h|h
  · exact h
  · simp [World.cell?,Array.getElem?_eq_none h] at hc
 exact (World.cell?_of_block (w:=w) (h.block b hlt (λe=>by rcases e with e|e;exact h1 e;exact h2 e))).trans hc
structure zas (S:Nat->Addr) (kd lb bb sb:Nat) (nmv askv:Value) (N:Nat) (c:Sc) (ev nv:Value) (b1 b2:Nat) (st:Option Nat) (w:World):Prop where
 rp:RpI S kd lb bb sb nmv askv st w
 sc:ScV w N c ev nv
 x1:w.heap[b1]?=some (.cells #[ev,nv] 206 (0,0))
 x2:w.heap[b2]?=some (.cells #[zam lb bb sb] 204 (0,0))
 d1:¬b1=lb
 d2:¬b1=bb
 d3:¬b2=lb
 d4:¬b2=bb
 l1:N<=lb
 l2:N<=bb
 hN:N<=w.heap.size
theorem zas.keep {S:Nat->Addr} {kd lb bb sb:Nat} {nmv askv:Value} {N:Nat} {c:Sc} {ev nv:Value} {b1 b2:Nat} {st:Option Nat} {w w':World} (h:zas S kd lb bb sb nmv askv N c ev nv b1 b2 st w) (hB:Below w.heap.size w w'):zas S kd lb bb sb nmv askv N c ev nv b1 b2 st w' :=
 ⟨h.rp.keep hB,h.sc.old (zm hB h.hN),(hB.block _ (ze h.x1)).trans h.x1,(hB.block _ (ze h.x2)).trans h.x2,h.d1,h.d2,h.d3,h.d4,h.l1,h.l2,Nat.le_trans h.hN hB.size⟩
theorem zas.told {S:Nat->Addr} {kd lb bb sb:Nat} {nmv askv:Value} {N:Nat} {c:Sc} {ev nv:Value} {b1 b2:Nat} {st st':Option Nat} {w w':World} (h:zas S kd lb bb sb nmv askv N c ev nv b1 b2 st w) (hr:RpI S kd lb bb sb nmv askv st' w') (hf:Fr (RT lb bb) w w'):zas S kd lb bb sb nmv askv N c ev nv b1 b2 st' w':=by
 have hn:∀{b},¬b=lb->¬b=bb->¬RT lb bb b:=λh1 h2 e=>by rcases e with e|e;exact h1 e;exact h2 e
 exact ⟨hr,h.sc.old (hf.old h.hN (λk e=>by rcases e with e|e;exact e▸h.l1;exact e▸h.l2)),(hf.block _ (ze h.x1) (hn h.d1 h.d2)).trans h.x1,(hf.block _ (ze h.x2) (hn h.d3 h.d4)).trans h.x2,h.d1,h.d2,h.d3,h.d4,h.l1,h.l2,Nat.le_trans h.hN hf.size⟩
theorem zas.old {S:Nat->Addr} {kd lb bb sb:Nat} {nmv askv:Value} {N:Nat} {c:Sc} {ev nv:Value} {b1 b2:Nat} {st:Option Nat} {w w':World} (h:zas S kd lb bb sb nmv askv N c ev nv b1 b2 st w) (hf:Fr (RT lb bb) w w'):Old N w w':=hf.old h.hN (λk e=>by rcases e with e|e;exact e▸h.l1;exact e▸h.l2)
theorem zy {T:Nat->Prop} {w w':World} (h:Below w.heap.size w w'):Fr T w w':=Fr.of_below h
theorem zqK:zH 106:=λ_ _=>by kernel_rfl
theorem zqp:zH 100:=λ_ _=>by kernel_rfl
theorem zlV (S:Nat->Addr) (kd lb bb sb:Nat) (nmv askv:Value) (N:Nat) (c:Sc) (hc:zbr c) (ev nv:Value) (b1 b2:Nat) (hroot:∀q∈c.nd.eqs,zdg c q.r) (l1:N<=lb) (l2:N<=bb) :
 zjB N (RT lb bb) 106 #[.pointer (some ⟨b1,0,none⟩),.pointer (some ⟨b2,0,none⟩)] (zdg c) c.nd (λst _ t=>(zbQ c t).foldl rep st) (zas S kd lb bb sb nmv askv N c ev nv b1 b2) where
 enters:=zqK
 hT:=λk e=>by rcases e with e|e;exact e▸l1;exact e▸l2
 keep:=λs w w' h hB=>h.keep hB
 sub:=λt u h hu=>h.sub hu
 root:=hroot
 call:=by
  intro q lv rv t v st w hq hE hT hW hN hI hO
  have HI:=za hI
  have HTT:=za hT
  obtain ⟨xe,cpe,nb,rfl,rfl,hnb⟩:=hI.sc.shape
  obtain ⟨b,args,vs,rfl,hb,hblk,_⟩:=hT.ptr
  have hbz:=ze hblk
  have HBk:=za hblk
  obtain ⟨xl,cl,rfl⟩:=zB hE.own
  obtain ⟨rb,_,_,rfl,_⟩:=hE.tt.ptr
  obtain ⟨o1,o2,o3⟩:=hO _ (zey za5 _)
  have z1:=ze hI.x1
  have z2:=ze hI.x2
  have d1:=hI.d1
  have d2:=hI.d2
  have d3:=hI.d3
  have d4:=hI.d4
  have hblb:¬b=lb:=by omega
  have hbbb:¬b=bb:=by omega
  have HSm:=za (λW (hB:Below w.heap.size w W)=>zj3 W (hT.old (zm hB hN)))
  have HOp:=za (λW (hB:Old N w W) (hz:N<=W.heap.size) (hs:ScV W N c (.slice xe c.er.length cpe) (.pointer (some ⟨nb,0,none⟩)))=>ziU hc t (.pointer (some ⟨b,0,none⟩)) W (HTT.out.old hB) hs hz hO)
  clear hI hT hE hW hq hblk
  show Calls Tryz.prog _ #[.agg #[.slice xl q.ns.length cl,.int .i64 q.a,.pointer (some ⟨rb,0,none⟩)],.pointer (some ⟨b,0,none⟩),.pointer (some ⟨b1,0,none⟩),.pointer (some ⟨b2,0,none⟩)] w _
  have hstart:∀o,zas S kd lb bb sb nmv askv N c (.slice xe c.er.length cpe) (.pointer (some ⟨nb,0,none⟩)) b1 b2 st (w.alloc o)/\Below w.heap.size w (w.alloc o):=λo=>⟨HI.out.keep (zq w o),zq w o⟩
  have Hst:=za hstart
  clear hstart
  cases hsm:zci t.k with
  | false =>
    have HT:Hid (∀st:Option Nat,(zbQ c t).foldl rep st=(if c.operands t=true then [] else [t.a]).foldl rep st):=by
     intro st
     unfold zbQ
     have:(zaJ t.k&&t.k != 3&&c.decl t.s != 1)=false:=by unfold zci at hsm;rw [hsm];rfl
     rw [this];rfl
    have HT:=za (HT.out st)
    go_enter Tryz.func106,Tryz.ntmps106
    go_upto_region 1 with fail
    refine zn (λW=>zas S kd lb bb sb nmv askv N c (.slice xe c.er.length cpe) (.pointer (some ⟨nb,0,none⟩)) b1 b2 st W/\Below w.heap.size w W) (Hst.out _) ?_
    rintro W ⟨hIW,hBW⟩
    obtain ⟨s0,s1,sf,sz⟩:=zp hIW.x1
    obtain ⟨p0,pf,pz⟩:=zu hIW.x2
    obtain ⟨m0,m1,m2,m3,m4,m5,mf,mz⟩:=zt ((hBW.block b hbz).trans HBk.out)
    have HIW:=za hIW
    have HBW:=za hBW
    have HQ:=za (λqn=>zaX (HSm.out (W.drewN qn) (zI hBW qn)))
    rw [hsm] at HQ
    clear hIW hBW m0 m4 m5 mf sf pf
    go_quiet ((go_at_call 107;exact HQ.out _))
    go_upto_region 3 with fail
    refine zn (λW2=>zas S kd lb bb sb nmv askv N c (.slice xe c.er.length cpe) (.pointer (some ⟨nb,0,none⟩)) b1 b2 st W2/\Fr (RT lb bb) w W2) ⟨HIW.out.keep (zI (Below.refl _ _) _),zy (zI HBW.out _)⟩ ?_
    rintro W2 ⟨hI2,hF2⟩
    obtain ⟨s0,s1,sf,sz⟩:=zp hI2.x1
    obtain ⟨p0,pf,pz⟩:=zu hI2.x2
    have hO2:=HI.out.old hF2
    obtain ⟨m0,m1,m2,m3,m4,m5,mf,mz⟩:=zt ((hO2 b hb).trans HBk.out)
    have HI2:=za hI2
    have HF2:=za hF2
    have HD:=za (HOp.out W2 hO2 hI2.hN hI2.sc)
    clear hI2 hF2 hO2 m0 m2 m3 m4 m5 mf sf pf
    cases hop:c.operands t with
    | true =>
      rw [hop] at HD HT
      clear hop
      go_wp2_with (go_at_call 108;refine HD.out.mono ?_;rintro e w5 ⟨rfl,hB5⟩;have HB5:=za hB5;clear hB5)
      go_ret
      refine ⟨rfl,?_,HF2.out.trans (zy HB5.out)⟩
      rw [HT.out]
      exact HI2.out.keep HB5.out
    | false =>
      rw [hop] at HD HT
      clear hop
      go_upto_region 4 with (go_at_call 108;refine HD.out.mono ?_;rintro e w5 ⟨rfl,hB5⟩;have HB5:=za hB5;clear hB5)
      have g1:=zd HB5.out p0 pz
      have g2:=zd HB5.out m1 mz
      have HTell:=za (zaa S kd lb bb sb nmv askv st t.a w5.drew ((HI2.out.keep HB5.out).rp.keep (zo (Below.refl _ _))))
      unfold zam at g1
      go_region_held3 (λw'=>w'.cell? ⟨b2,0,none⟩=some (.func (.func 117) #[] #[.pointer (some ⟨lb,0,none⟩),.pointer (some ⟨bb,0,none⟩),.pointer (some ⟨sb,0,none⟩)])/\w'.cell? ⟨b,1,none⟩=some (.int .i64 t.a))
       (first|(refine ⟨?_,?_⟩ <;> first|with_reducible exact zg g1|with_reducible exact zg g2|with_reducible exact zS HFt.out g1 (by omega) (by omega)|with_reducible exact zS HFt.out g2 (by omega) (by omega))|go_keep)
       (first
         | (go_at_call 117;refine (HTell.out).mono ?_;rintro e w6 ⟨rfl,hRt,hFt'⟩;have HRt:=za hRt;have HFt:=za hFt'.undrew;clear hRt hFt'))
      go_wp2_with fail
      go_ret
      refine ⟨rfl,?_,(HF2.out.trans (zy HB5.out)).trans HFt.out⟩
      rw [HT.out]
      exact (HI2.out.keep HB5.out).told HRt.out HFt.out
  | true =>
    have hhas:c.has t.s=true:=o1 (by unfold zci at hsm;simp at hsm;exact hsm.1)
    by_cases hdc:c.decl t.s=1
    · have HT:Hid (∀st:Option Nat,(zbQ c t).foldl rep st=(if c.operands t=true then [] else [t.a]).foldl rep st):=by
       intro st
       unfold zbQ
       have:(zaJ t.k&&t.k != 3&&c.decl t.s != 1)=false:=by rw [hdc];simp
       rw [this];rfl
      have HT:=za (HT.out st)
      have hdc':((c.decl t.s:Int) != 1)=false:=by simp [hdc]
      go_enter Tryz.func106,Tryz.ntmps106
      go_upto_region 1 with fail
      refine zn (λW=>zas S kd lb bb sb nmv askv N c (.slice xe c.er.length cpe) (.pointer (some ⟨nb,0,none⟩)) b1 b2 st W/\Below w.heap.size w W) (Hst.out _) ?_
      rintro W ⟨hIW,hBW⟩
      obtain ⟨s0,s1,sf,sz⟩:=zp hIW.x1
      obtain ⟨p0,pf,pz⟩:=zu hIW.x2
      obtain ⟨m0,m1,m2,m3,m4,m5,mf,mz⟩:=zt ((hBW.block b hbz).trans HBk.out)
      have HIW:=za hIW
      have HBW:=za hBW
      have HQ:=za (HSm.out W.drew (zo hBW))
      rw [hsm] at HQ
      have HD:=za (zbD t.s (t.nm:Int) W.drew (hIW.sc.old (λ_ _=>rfl)) (by show N<=W.heap.size;exact hIW.hN) hhas)
      clear hIW hBW m0 m4 m5 mf sf pf
      go_region_held3 (λw'=>w'.cell? ⟨b1,0,none⟩=some (.slice xe c.er.length cpe)/\w'.cell? ⟨b1,1,none⟩=some (.pointer (some ⟨nb,0,none⟩))/\w'.cell? ⟨b,2,none⟩=some (.string t.s)/\w'.cell? ⟨b,3,none⟩=some (.int .i64 t.nm))
       (first|(refine ⟨?_,?_,?_,?_⟩ <;> repeat (first|with_reducible exact s0|with_reducible exact s1|with_reducible exact m2|with_reducible exact m3|with_reducible refine zg ?_|with_reducible refine zj _ ?_|with_reducible refine zk (by omega) ?_|with_reducible refine zd HB1.out ?_ (by first|omega|(rw [zsb];omega))))|go_keep)
       (first
         | (go_at_call 104;refine HD.out.mono ?_;rintro e w1 ⟨rfl,hB1⟩;have HB1:=za (zw hB1);clear hB1)
         | (go_at_call 107;refine HQ.out.mono ?_;rintro e w1 ⟨rfl,rfl⟩))
      go_upto_region 3 with fail
      refine zn (λW2=>zas S kd lb bb sb nmv askv N c (.slice xe c.er.length cpe) (.pointer (some ⟨nb,0,none⟩)) b1 b2 st W2/\Fr (RT lb bb) w W2) ⟨HIW.out.keep HB1.out,zy (HBW.out.trans (HB1.out.mono HBW.out.size))⟩ ?_
      rintro W2 ⟨hI2,hF2⟩
      obtain ⟨s0,s1,sf,sz⟩:=zp hI2.x1
      obtain ⟨p0,pf,pz⟩:=zu hI2.x2
      have hO2:=HI.out.old hF2
      obtain ⟨m0,m1,m2,m3,m4,m5,mf,mz⟩:=zt ((hO2 b hb).trans HBk.out)
      have HI2:=za hI2
      have HF2:=za hF2
      have HD:=za (HOp.out W2 hO2 hI2.hN hI2.sc)
      clear hI2 hF2 hO2 m0 m2 m3 m4 m5 mf sf pf
      cases hop:c.operands t with
      | true =>
        rw [hop] at HD HT
        clear hop
        go_wp2_with (go_at_call 108;refine HD.out.mono ?_;rintro e w5 ⟨rfl,hB5⟩;have HB5:=za hB5;clear hB5)
        go_ret
        refine ⟨rfl,?_,HF2.out.trans (zy HB5.out)⟩
        rw [HT.out]
        exact HI2.out.keep HB5.out
      | false =>
        rw [hop] at HD HT
        clear hop
        go_upto_region 4 with (go_at_call 108;refine HD.out.mono ?_;rintro e w5 ⟨rfl,hB5⟩;have HB5:=za hB5;clear hB5)
        have g1:=zd HB5.out p0 pz
        have g2:=zd HB5.out m1 mz
        have HTell:=za (zaa S kd lb bb sb nmv askv st t.a w5.drew ((HI2.out.keep HB5.out).rp.keep (zo (Below.refl _ _))))
        unfold zam at g1
        go_region_held3 (λw'=>w'.cell? ⟨b2,0,none⟩=some (.func (.func 117) #[] #[.pointer (some ⟨lb,0,none⟩),.pointer (some ⟨bb,0,none⟩),.pointer (some ⟨sb,0,none⟩)])/\w'.cell? ⟨b,1,none⟩=some (.int .i64 t.a))
         (first|(refine ⟨?_,?_⟩ <;> first|with_reducible exact zg g1|with_reducible exact zg g2|with_reducible exact zS HFt.out g1 (by omega) (by omega)|with_reducible exact zS HFt.out g2 (by omega) (by omega))|go_keep)
         (first
           | (go_at_call 117;refine (HTell.out).mono ?_;rintro e w6 ⟨rfl,hRt,hFt'⟩;have HRt:=za hRt;have HFt:=za hFt'.undrew;clear hRt hFt'))
        go_wp2_with fail
        go_ret
        refine ⟨rfl,?_,(HF2.out.trans (zy HB5.out)).trans HFt.out⟩
        rw [HT.out]
        exact (HI2.out.keep HB5.out).told HRt.out HFt.out
    · have HT:Hid (∀st:Option Nat,(zbQ c t).foldl rep st=(if c.operands t=true then [] else [t.a]).foldl rep (rep st t.nm)):=by
       intro st
       unfold zbQ
       have:(zaJ t.k&&t.k != 3&&c.decl t.s != 1)=true:=by unfold zci at hsm;rw [hsm];simp [hdc]
       rw [this];rfl
      have HT:=za (HT.out st)
      have hdc':((c.decl t.s:Int) != 1)=true:=by simp;omega
      go_enter Tryz.func106,Tryz.ntmps106
      go_upto_region 1 with fail
      refine zn (λW=>zas S kd lb bb sb nmv askv N c (.slice xe c.er.length cpe) (.pointer (some ⟨nb,0,none⟩)) b1 b2 st W/\Below w.heap.size w W) (Hst.out _) ?_
      rintro W ⟨hIW,hBW⟩
      obtain ⟨s0,s1,sf,sz⟩:=zp hIW.x1
      obtain ⟨p0,pf,pz⟩:=zu hIW.x2
      obtain ⟨m0,m1,m2,m3,m4,m5,mf,mz⟩:=zt ((hBW.block b hbz).trans HBk.out)
      have HIW:=za hIW
      have HBW:=za hBW
      have HQ:=za (HSm.out W.drew (zo hBW))
      rw [hsm] at HQ
      have HD:=za (zbD t.s (t.nm:Int) W.drew (hIW.sc.old (λ_ _=>rfl)) (by show N<=W.heap.size;exact hIW.hN) hhas)
      clear hIW hBW m0 m4 m5 mf sf pf
      go_region_held3 (λw'=>w'.cell? ⟨b1,0,none⟩=some (.slice xe c.er.length cpe)/\w'.cell? ⟨b1,1,none⟩=some (.pointer (some ⟨nb,0,none⟩))/\w'.cell? ⟨b,2,none⟩=some (.string t.s)/\w'.cell? ⟨b,3,none⟩=some (.int .i64 t.nm))
       (first|(refine ⟨?_,?_,?_,?_⟩ <;> repeat (first|with_reducible exact s0|with_reducible exact s1|with_reducible exact m2|with_reducible exact m3|with_reducible refine zg ?_|with_reducible refine zj _ ?_|with_reducible refine zk (by omega) ?_|with_reducible refine zd HB1.out ?_ (by first|omega|(rw [zsb];omega))))|go_keep)
       (first
         | (go_at_call 104;refine HD.out.mono ?_;rintro e w1 ⟨rfl,hB1⟩;have HB1:=za (zw hB1);clear hB1)
         | (go_at_call 107;refine HQ.out.mono ?_;rintro e w1 ⟨rfl,rfl⟩))
      go_upto_region 2 with fail
      have g1:=zd HB1.out p0 pz
      have g2:=zd HB1.out m3 mz
      have HTell:=za (zaa S kd lb bb sb nmv askv st t.nm w1.drew ((HIW.out.keep HB1.out).rp.keep (zo (Below.refl _ _))))
      unfold zam at g1
      go_region_held3 (λw'=>w'.cell? ⟨b2,0,none⟩=some (.func (.func 117) #[] #[.pointer (some ⟨lb,0,none⟩),.pointer (some ⟨bb,0,none⟩),.pointer (some ⟨sb,0,none⟩)])/\w'.cell? ⟨b,3,none⟩=some (.int .i64 t.nm))
       (first|(refine ⟨?_,?_⟩ <;> first|with_reducible exact zg g1|with_reducible exact zg g2|with_reducible exact zS HFt.out g1 (by omega) (by omega)|with_reducible exact zS HFt.out g2 (by omega) (by omega))|go_keep)
       (first
         | (go_at_call 117;refine (HTell.out).mono ?_;rintro e w2 ⟨rfl,hRt,hFt'⟩;have HRt:=za hRt;have HFt:=za hFt'.undrew;clear hRt hFt'))
      go_upto_region 3 with fail
      refine zn (λW2=>zas S kd lb bb sb nmv askv N c (.slice xe c.er.length cpe) (.pointer (some ⟨nb,0,none⟩)) b1 b2 (rep st t.nm) W2/\Fr (RT lb bb) w W2) ⟨(HIW.out.keep HB1.out).told HRt.out HFt.out,(zy (HBW.out.trans (HB1.out.mono HBW.out.size))).trans HFt.out⟩ ?_
      rintro W2 ⟨hI2,hF2⟩
      obtain ⟨s0,s1,sf,sz⟩:=zp hI2.x1
      obtain ⟨p0,pf,pz⟩:=zu hI2.x2
      have hO2:=HI.out.old hF2
      obtain ⟨m0,m1,m2,m3,m4,m5,mf,mz⟩:=zt ((hO2 b hb).trans HBk.out)
      have HI2:=za hI2
      have HF2:=za hF2
      have HD:=za (HOp.out W2 hO2 hI2.hN hI2.sc)
      clear hI2 hF2 hO2 m0 m2 m3 m4 m5 mf sf pf
      cases hop:c.operands t with
      | true =>
        rw [hop] at HD HT
        clear hop
        go_wp2_with (go_at_call 108;refine HD.out.mono ?_;rintro e w5 ⟨rfl,hB5⟩;have HB5:=za hB5;clear hB5)
        go_ret
        refine ⟨rfl,?_,HF2.out.trans (zy HB5.out)⟩
        rw [HT.out]
        exact HI2.out.keep HB5.out
      | false =>
        rw [hop] at HD HT
        clear hop
        go_upto_region 4 with (go_at_call 108;refine HD.out.mono ?_;rintro e w5 ⟨rfl,hB5⟩;have HB5:=za hB5;clear hB5)
        have g1:=zd HB5.out p0 pz
        have g2:=zd HB5.out m1 mz
        have HTell:=za (zaa S kd lb bb sb nmv askv (rep st t.nm) t.a w5.drew ((HI2.out.keep HB5.out).rp.keep (zo (Below.refl _ _))))
        unfold zam at g1
        go_region_held3 (λw'=>w'.cell? ⟨b2,0,none⟩=some (.func (.func 117) #[] #[.pointer (some ⟨lb,0,none⟩),.pointer (some ⟨bb,0,none⟩),.pointer (some ⟨sb,0,none⟩)])/\w'.cell? ⟨b,1,none⟩=some (.int .i64 t.a))
         (first|(refine ⟨?_,?_⟩ <;> first|with_reducible exact zg g1|with_reducible exact zg g2|with_reducible exact zS HFt.out g1 (by omega) (by omega)|with_reducible exact zS HFt.out g2 (by omega) (by omega))|go_keep)
         (first
           | (go_at_call 117;refine (HTell.out).mono ?_;rintro e w6 ⟨rfl,hRt,hFt'⟩;have HRt:=za hRt;have HFt:=za hFt'.undrew;clear hRt hFt'))
        go_wp2_with fail
        go_ret
        refine ⟨rfl,?_,(HF2.out.trans (zy HB5.out)).trans HFt.out⟩
        rw [HT.out]
        exact (HI2.out.keep HB5.out).told HRt.out HFt.out
end
section
open Go.RowKit
attribute [local go_sem ↓] Go.wp_at_zero Go.wp_at_succ
theorem zhm (c:Sc):∀(a b:List Vr),zau c (a++b)=zau c a++zau c b:=by
 intro a
 induction a with
 | nil=>intro b;rfl
 | cons v a ih=>intro b;rw [List.cons_append,zau,zau,ih,List.append_assoc]
theorem zeq {α:Type} {l:List α} {k:Nat} {v:α} (h:l[k]?=some v):l.take (k+1)=l.take k++[v]:=by
 obtain ⟨h1,h2⟩:=List.getElem?_eq_some_iff.1 h
 rw [List.take_succ_eq_append_getElem h1,h2]
structure zfw (c:Sc):Prop where
 root:∀q∈c.nd.eqs,zdg c q.r
 ck:∀v∈c.nd.vars,zaA v≠0->c.has v.ck=true
 left:∀q∈c.nd.eqs,∀s∈q.ns,c.has s=true
 many:∀q∈c.nd.eqs,2<=q.ns.length->∃d,c.called q.r.s=some d/\d.nd.outs=q.ns.length
theorem zmH {N:Nat} {c:Sc} {ev nv:Value} (hc:zbr c) (hn:zfw c) (q:Qn) (hq:q∈c.nd.eqs) (lv rv:Value) (w:World) (hE:EqV w N q lv rv) (h:ScV w N c ev nv) (hN:N<=w.heap.size) :
 Calls Tryz.prog 105 #[.agg #[ev,nv],.agg #[lv,.int .i64 q.a,rv]] w (λe w'=>e=.returned (.bool (c.holds q))/\Below w.heap.size w w'):=by
 obtain ⟨e1,e2,e3,e4⟩:=hc.nd.eqs q hq
 by_cases h1:q.ns.length=1
 · exact zlF hc q lv rv w hE h hN (hn.root q hq) (hn.left q hq) e1 h1
 · obtain ⟨d,hd,hdo⟩:=hn.many q hq (by omega)
   exact zk0 hc q lv rv w hE h hN (hn.left q hq) e1 (by omega) hd hdo
theorem zik {α:Type} {l:List α} {k:Nat} {v:α} (f:α->List Nat) (h:l[k]?=some v) (st:Option Nat):((l.take (k+1)).flatMap f).foldl rep st=(f v).foldl rep (((l.take k).flatMap f).foldl rep st):=by
 rw [zeq h,List.flatMap_append,List.foldl_append]
 simp
theorem zh9 {α:Type} (f:α->List Nat):∀(l:List α) (st:Option Nat),l.foldl (λst x=>(f x).foldl rep st) st=(l.flatMap f).foldl rep st:=by
 intro l
 induction l with
 | nil=>intro st;rfl
 | cons a l ih=>intro st;rw [List.foldl_cons,List.flatMap_cons,List.foldl_append,ih]
theorem zjH (S:Nat->Addr) (kd lb bb sb:Nat) (nmv askv:Value) (N:Nat) (c:Sc) (hc:zbr c) (hn:zfw c) (ev nv:Value) (st:Option Nat) (w:World) (hR:RpI S kd lb bb sb nmv askv st w) (h:ScV w N c ev nv) (hN:N<=w.heap.size) (l1:N<=lb) (l2:N<=bb) :
 Calls Tryz.prog 59 #[.agg #[ev,nv],zam lb bb sb] w (λe w'=>e=.returned (.tuple #[])/\RpI S kd lb bb sb nmv askv (c.typesL.foldl rep st) w'/\Fr (RT lb bb) w w'):=by
 obtain ⟨xe,cpe,nb,rfl,rfl,hnb⟩:=h.shape
 have hzl:=ze hR.l
 have hzb:=ze hR.b
 have hA0:∀o1 o2,((w.alloc o1).alloc o2).heap[w.heap.size]?=some o1/\((w.alloc o1).alloc o2).heap[w.heap.size+1]?=some o2:=λo1 o2=>al2 w o1 o2
 have hAs:zas S kd lb bb sb nmv askv N c (.slice xe c.er.length cpe) (.pointer (some ⟨nb,0,none⟩)) w.heap.size (w.heap.size+1) st ((w.alloc (.cells #[.slice xe c.er.length cpe,.pointer (some ⟨nb,0,none⟩)] 206)).alloc (.cells #[zam lb bb sb] 204)) :=
  ⟨hR.keep (zaD w _ _),h.old (zfr hN _ _),(hA0 _ _).1,(hA0 _ _).2,by omega,by omega,by omega,by omega,l1,l2,by simp;omega⟩
 have HAs:=za hAs
 obtain ⟨nb',vs,qv,xs,e9,hnt⟩:=h.nd
 cases e9
 obtain ⟨xv,cpv,rfl⟩:=zB hnt.vown
 obtain ⟨xq,cpq,rfl⟩:=zB hnt.own
 have HNt:=za hnt
 have hfew:=hnt.few
 have h16:c.nd.eqs.length<=9223372036854775807:=by
  rcases hnt.own.2 with ⟨_,h⟩|⟨g,cap,cur,hv,_,_,h3,h4,_⟩
  · omega
  · unfold maxLen at h4;omega
 have HTy:Hid (c.typesL.foldl rep st=((c.nd.eqs.flatMap λq=>(zaV za5 q.r).flatMap (zbQ c))).foldl rep ((c.nd.eqs.flatMap λq=>if c.holds q=true then [] else [q.a]).foldl rep ((zau c c.nd.vars).foldl rep st))):=by
  unfold Hid Sc.typesL;rw [List.foldl_append,List.foldl_append]
 have hst0:(zau c (c.nd.vars.take 0)).foldl rep st=st:=rfl
 have HFr0:=za (zy (T:=RT lb bb) (zaD w (.cells #[.slice xe c.er.length cpe,.pointer (some ⟨nb,0,none⟩)] 206) (.cells #[zam lb bb sb] 204)))
 clear hR h hA0 hAs hnt
 unfold zam at HAs HFr0 ⊢
 go_enter Tryz.func59,Tryz.ntmps59
 go_upto_region 1 with fail
 refine zn (λW=>zas S kd lb bb sb nmv askv N c (.slice xe c.er.length cpe) (.pointer (some ⟨nb,0,none⟩)) w.heap.size (w.heap.size+1) st W/\Fr (RT lb bb) w W) ⟨HAs.out,HFr0.out⟩ ?_
 rintro W ⟨hIW,hFW⟩
 have HIW:=za hIW
 have HFW:=za hFW
 obtain ⟨s0,s1,sf,sz⟩:=zp hIW.x1
 have hOW:=hFW.old hN (λk e=>by rcases e with e|e;exact e▸l1;exact e▸l2)
 obtain ⟨m0,m1,m2,m3,m4,m5,mf,mz⟩:=zt ((hOW nb HNt.out.lo).trans HNt.out.blk)
 clear hIW hFW hOW HAs HFr0
 have Hst0:=za hst0
 clear hst0
 go_wp2_with fail
 go_loopg [15] (c.nd.vars.length+1) (λj i wr=>∃k:Nat,k+j=c.nd.vars.length+1/\k<=c.nd.vars.length/\i=.int .i64 k/\Hid (zas S kd lb bb sb nmv askv N c (.slice xe c.er.length cpe) (.pointer (some ⟨nb,0,none⟩)) w.heap.size (w.heap.size+1) ((zau c (c.nd.vars.take k)).foldl rep st) wr)/\Hid (Fr (RT lb bb) w wr))
 case atStart=>exact ⟨0,by omega,Nat.zero_le _,rfl,HIW.out,HFW.out⟩
 case round =>
  obtain ⟨k,hkj,hk,rfl,HIk,HFk⟩:=hrel
  have hOk:=HFk.out.old hN (λk e=>by rcases e with e|e;exact e▸l1;exact e▸l2)
  obtain ⟨p0,p1,pf,pz⟩:=zp HIk.out.x1
  obtain ⟨q0,qf,qz⟩:=zu HIk.out.x2
  unfold zam at q0
  have hNr:=HIk.out.hN
  by_cases hlt:k<c.nd.vars.length
  · obtain ⟨v,hv⟩:∃v,c.nd.vars[k]?=some v:=⟨_,zsc hlt⟩
    obtain ⟨g,rfl,c0,c1,c2,c3,c4,c5,c6⟩:=zaM (HNt.out.old hOk).vown hv
    have hgN:=HNt.out.vlo g rfl
    have hT1:zau c (c.nd.vars.take (k+1))=zau c (c.nd.vars.take k)++((if (zaA v != 0&&c.decl v.ck != 1)=true then [v.on] else [])++[]):=by rw [zeq hv,zhm];rfl
    have hpz1:w.heap.size<wr.heap.size+1:=by omega
    have hqz1:w.heap.size+1<wr.heap.size+1:=by omega
    by_cases hsg:zaA v=0
    · have hsg':((zaA v:Int) != 0)=false:=by simp [hsg]
      have HT:Hid (∀s:Option Nat,(zau c (c.nd.vars.take (k+1))).foldl rep s=(zau c (c.nd.vars.take k)).foldl rep s):=by
       intro s;rw [hT1];simp [hsg]
      have HT:=za (HT.out st)
      clear hT1 hv hsg hOk
      generalize zaA v=sg at *
      go_wp2_with fail
      go_roundg (gk-1)
      case measure=>omega
      refine ⟨k+1,by omega,by omega,by go_num,?_,HFk.out.alloc _⟩
      rw [HT.out]
      exact HIk.out.keep (zq wr _)
    · have hsg':((zaA v:Int) != 0)=true:=by simp;omega
      have hhas:=hn.ck v (List.mem_of_getElem? hv) hsg
      have HD:=za (λo=>zbD v.ck (v.ca:Int) (wr.alloc o) (HIk.out.keep (zq wr o)).sc (by simp;omega) hhas)
      by_cases hdc:c.decl v.ck=1
      · have HT:Hid (∀s:Option Nat,(zau c (c.nd.vars.take (k+1))).foldl rep s=(zau c (c.nd.vars.take k)).foldl rep s):=by
         intro s;rw [hT1];simp [hdc]
        have HT:=za (HT.out st)
        have hdc':((c.decl v.ck:Int) != 1)=false:=by simp [hdc]
        clear hT1 hv hsg hOk hdc hhas
        generalize zaA v=sg at *
        generalize c.decl v.ck=dc at *
        go_wp2_with (go_at_call 104;refine (HD.out _).mono ?_;rintro e w1 ⟨rfl,hB1⟩;have HB1:=za (zE hB1);clear hB1)
        go_roundg (gk-1)
        case measure=>omega
        refine ⟨k+1,by omega,by omega,by go_num,?_,HFk.out.trans (zy HB1.out)⟩
        rw [HT.out]
        exact HIk.out.keep HB1.out
      · have HT:Hid (∀s:Option Nat,(zau c (c.nd.vars.take (k+1))).foldl rep s=rep ((zau c (c.nd.vars.take k)).foldl rep s) v.on):=by
         intro s;rw [hT1,List.foldl_append];simp [hdc,hsg]
        have HT:=za (HT.out st)
        have hdc':((c.decl v.ck:Int) != 1)=true:=by simp;omega
        clear hT1 hv hsg hOk hdc hhas
        generalize zaA v=sg at *
        generalize c.decl v.ck=dc at *
        go_wp2_with (first
         | (go_at_call 117;refine HTell.out.mono ?_;rintro e w2 ⟨rfl,hRt,hFt⟩;have HRt:=za hRt;have HFt:=za hFt;clear hRt hFt)
         | (go_at_call 104;refine (HD.out _).mono ?_;rintro e w1 ⟨rfl,hB1⟩;obtain ⟨x0,x1,x2,x3,x4,x5,x6,xf,xz⟩:=zbZ ((hB1.block wr.heap.size (by simp)).trans (zc wr _));have HB1:=za (zE hB1);have g0:=zd HB1.out q0 qz;have HTell:=za (zaa S kd lb bb sb nmv askv _ v.on w1 (HIk.out.keep HB1.out).rp);clear hB1))
        go_roundg (gk-1)
        case measure=>omega
        refine ⟨k+1,by omega,by omega,by go_num,?_,(HFk.out.trans (zy HB1.out)).trans HFt.out⟩
        rw [HT.out]
        exact (HIk.out.keep HB1.out).told HRt.out HFt.out
  · have ek:k=c.nd.vars.length:=by omega
    subst ek
    rw [List.take_length] at HIk
    obtain ⟨st1,hst1⟩:∃st1,(zau c c.nd.vars).foldl rep st=st1:=⟨_,rfl⟩
    rw [hst1] at HIk HTy
    obtain ⟨n0,n1,n2,n3,n4,n5,nf,nz⟩:=zt ((hOk nb HNt.out.lo).trans HNt.out.blk)
    clear hst1 HIW HFW s0 s1 m0 m1 m2 m3 m4 m5 hOk Hst0 q0 qf
    go_wp2_with fail
    go_loopg [44] (c.nd.eqs.length+1) (λj i ws=>∃k:Nat,k+j=c.nd.eqs.length+1/\k<=c.nd.eqs.length/\i=.int .i64 k/\Hid (zas S kd lb bb sb nmv askv N c (.slice xe c.er.length cpe) (.pointer (some ⟨nb,0,none⟩)) w.heap.size (w.heap.size+1) (((c.nd.eqs.take k).flatMap λq=>if c.holds q=true then [] else [q.a]).foldl rep st1) ws)/\Hid (Fr (RT lb bb) w ws))
    case atStart=>exact ⟨0,by omega,Nat.zero_le _,rfl,HIk.out,HFk.out⟩
    case round =>
     clear HIk HFk n0 n1 n2 n3 n4 n5 nf nz p0 p1 pf pz hkj hk hlt
     obtain ⟨k,hkj,hk,rfl,HIk,HFk⟩:=hrel
     have hOk:=HFk.out.old hN (λk e=>by rcases e with e|e;exact e▸l1;exact e▸l2)
     obtain ⟨p0,p1,pf,pz⟩:=zp HIk.out.x1
     obtain ⟨q0,qf,qz⟩:=zu HIk.out.x2
     unfold zam at q0
     have hNr:=HIk.out.hN
     by_cases hlt:k<c.nd.eqs.length
     · obtain ⟨q,hq⟩:∃q,c.nd.eqs[k]?=some q:=⟨_,zsc hlt⟩
       have hN2:=HNt.out.old hOk
       obtain ⟨g,lv,rv,rfl,c0,c1,c2,hE⟩:=zcd hN2.own hN2.eqs hq rfl
       obtain ⟨rb,_,_,rfl,_⟩:=hE.tt.ptr
       obtain ⟨xl,cl,rfl⟩:=zB hE.own
       have hgN:=HNt.out.elo g rfl
       have HEq:=za hE
       have HD:=za (λo=>zmH hc hn q (List.mem_of_getElem? hq) _ _ (wr.alloc o) (hE.old (zeW hNr o)) (HIk.out.keep (zq wr o)).sc (by simp;omega))
       have HFl:=za (zik (λq=>if c.holds q=true then [] else [q.a]) hq st1)
       have hpz1:w.heap.size<wr.heap.size+1:=by omega
       have hqz1:w.heap.size+1<wr.heap.size+1:=by omega
       clear hN2 hE hq hOk
       cases hho:c.holds q with
       | true =>
         simp only [hho] at HFl
         rw [hho] at HD
         clear hho
         go_wp2_with (go_at_call 105;refine (HD.out _).mono ?_;rintro e w1 ⟨rfl,hB1⟩;have HB1:=za (zE hB1);clear hB1)
         go_roundg (gk-1)
         case measure=>omega
         refine ⟨k+1,by omega,by omega,by go_num,?_,HFk.out.trans (zy HB1.out)⟩
         rw [HFl.out]
         exact HIk.out.keep HB1.out
       | false =>
         simp only [hho] at HFl
         rw [hho] at HD
         clear hho
         go_wp2_with (first
          | (go_at_call 117;refine HTell.out.mono ?_;rintro e w2 ⟨rfl,hRt,hFt⟩;have HRt:=za hRt;have HFt:=za hFt;clear hRt hFt)
          | (go_at_call 105;refine (HD.out _).mono ?_;rintro e w1 ⟨rfl,hB1⟩;obtain ⟨x0,x1,x2,xf,xz⟩:=zL ((hB1.block wr.heap.size (by simp)).trans (zc wr _));have HB1:=za (zE hB1);have g0:=zd HB1.out q0 qz;have HTell:=za (zaa S kd lb bb sb nmv askv _ q.a w1 (HIk.out.keep HB1.out).rp);clear hB1))
         go_roundg (gk-1)
         case measure=>omega
         refine ⟨k+1,by omega,by omega,by go_num,?_,(HFk.out.trans (zy HB1.out)).trans HFt.out⟩
         rw [HFl.out]
         exact (HIk.out.keep HB1.out).told HRt.out HFt.out
     · have ek:k=c.nd.eqs.length:=by omega
       subst ek
       rw [List.take_length] at HIk
       have hV:=zlV S kd lb bb sb nmv askv N c hc (.slice xe c.er.length cpe) (.pointer (some ⟨nb,0,none⟩)) w.heap.size (w.heap.size+1) hn.root l1 l2
       have HWk:=za (zfN hV nb _ _ xs _ wr (HNt.out.old hOk) hNr (λk e=>by have:=HFk.out.size;rcases e with e|e <;> omega) HIk.out)
       have hmf:∀(fn:Go.Fn) (first cap:Array Value) (w:World),(Instr.makeFunc fn first cap).run Tryz.prog w=.ok (.func fn first cap) w:=λ_ _ _ _=>rfl
       clear hV hOk q0 qf
       go_wp2_with (go_at_call 99;refine HWk.out.mono ?_;rintro e w1 ⟨rfl,hI1,hF1⟩;have HI1:=za hI1;have HF1:=za hF1;clear hI1 hF1)
       first|go_end0|refine bodyPost_ret (results_none rfl _ _ _) rfl ?_
       refine ⟨rfl,?_,HFk.out.trans HF1.out⟩
       rw [HTy.out]
       have:=HI1.out.rp
       simp only [zh9] at this
       exact this
end
end Go.Proofs.YtedmpgjebafcjaaGreatDoor
