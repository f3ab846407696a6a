/- Part 42 of the proof: ClkD. -/
import Derived.Test.YtedmpgjebafcjaaGreatDoorK29
set_option maxRecDepth 100000
set_option maxHeartbeats 8000000
namespace Go.Proofs.YtedmpgjebafcjaaGreatDoor
section
open Go.RowKit
attribute [local go_sem ↓] Go.wp_at_zero Go.wp_at_succ
structure CkI (S:Nat->Addr) (kd lb bb sb:Nat) (nmv askv:Value) (N:Nat) (c:Sc) (ev nv:Value) (cb b1 b2 b3:Nat) (st:Option Nat) (w:World):Prop where
 rp:RpI S kd lb bb sb nmv askv st w
 sc:ScV w N c ev nv
 ck:za7 w c cb
 x1:w.heap[b1]?=some (.cells #[ev,nv] 206 (0,0))
 x2:w.heap[b2]?=some (.cells #[.map (some cb)] 99 (0,0))
 x3:w.heap[b3]?=some (.cells #[zam lb bb sb] 204 (0,0))
 d:∀b,b=b1∨b=b2∨b=b3∨b=cb->¬b=lb/\¬b=bb
 l1:N<=lb
 l2:N<=bb
 hN:N<=w.heap.size
theorem CkI.keep {S:Nat->Addr} {kd lb bb sb:Nat} {nmv askv:Value} {N:Nat} {c:Sc} {ev nv:Value} {cb b1 b2 b3:Nat} {st:Option Nat} {w w':World} (h:CkI S kd lb bb sb nmv askv N c ev nv cb b1 b2 b3 st w) (hB:Below w.heap.size w w'):CkI S kd lb bb sb nmv askv N c ev nv cb b1 b2 b3 st w' :=
 ⟨h.rp.keep hB,h.sc.old (zm hB h.hN),h.ck.keep hB,(hB.block _ (ze h.x1)).trans h.x1,(hB.block _ (ze h.x2)).trans h.x2,(hB.block _ (ze h.x3)).trans h.x3,h.d,h.l1,h.l2,Nat.le_trans h.hN hB.size⟩
theorem CkI.told {S:Nat->Addr} {kd lb bb sb:Nat} {nmv askv:Value} {N:Nat} {c:Sc} {ev nv:Value} {cb b1 b2 b3:Nat} {st st':Option Nat} {w w':World} (h:CkI S kd lb bb sb nmv askv N c ev nv cb b1 b2 b3 st w) (hr:RpI S kd lb bb sb nmv askv st' w') (hf:Fr (RT lb bb) w w'):CkI S kd lb bb sb nmv askv N c ev nv cb b1 b2 b3 st' w':=by
 have hn:∀{b},(b=b1∨b=b2∨b=b3∨b=cb)->¬RT lb bb b:=λh1 e=>by rcases e with e|e;exact (h.d _ h1).1 e;exact (h.d _ h1).2 e
 exact ⟨hr,h.sc.old (hf.old h.hN (λk e=>by rcases e with e|e;exact e▸h.l1;exact e▸h.l2)),h.ck.of' (hf.block _ h.ck.lt (hn (by simp))),(hf.block _ (ze h.x1) (hn (by simp))).trans h.x1,(hf.block _ (ze h.x2) (hn (by simp))).trans h.x2,(hf.block _ (ze h.x3) (hn (by simp))).trans h.x3,h.d,h.l1,h.l2,Nat.le_trans h.hN hf.size⟩
theorem zqz:zH 145:=λ_ _=>by kernel_rfl
theorem zqL:zH 112:=λ_ _=>by kernel_rfl
theorem zg6 (k:Nat) (w:World):Calls Tryz.prog 146 #[.int .i64 (k:Int)] w (λe w'=>e=.returned (.int .i64 (zi8 k:Nat))/\w=w'):=by
 unfold zi8
 by_cases h:k=8
 · subst h
   rw [if_pos rfl]
   go_enter Tryz.func146,Tryz.ntmps146
   go_wp2_with fail
   go_ret
   exact ⟨rfl,rfl⟩
 · rw [if_neg h]
   have h':¬(k:Int)=8:=by omega
   clear h
   go_enter Tryz.func146,Tryz.ntmps146
   go_wp2_with fail
   go_ret
   exact ⟨rfl,rfl⟩
theorem zeV (w:World):Calls Tryz.prog 146 #[.int .i64 7] w (λe w'=>e=.returned (.int .i64 1)/\w=w'):=zg6 7 w
theorem ze1 (w:World):Calls Tryz.prog 146 #[.int .i64 8] w (λe w'=>e=.returned (.int .i64 2)/\w=w'):=zg6 8 w
theorem zpg (v:Value) (k:Nat×Nat) (w:World):Calls Tryz.prog 112 #[v,ckV k] w (λe w'=>e=.returned (.tuple #[])/\Below w.heap.size w w'):=by
 unfold ckV
 go_enter Tryz.func112,Tryz.ntmps112
 go_wp2_with fail
 first|go_end0|refine bodyPost_ret (results_none rfl _ _ _) rfl ?_
 exact ⟨rfl,zq w _⟩
theorem zn8 (ev nv:Value) (cb lb bb sb:Nat) (w:World) (xe:Option Addr) (n cp:Nat) (nb:Nat) (he:ev=.slice xe n cp) (hn:nv=.pointer (some ⟨nb,0,none⟩)) :
 Calls Tryz.prog 111 #[.agg #[ev,nv],.map (some cb),zam lb bb sb] w (λe w'=>e=.returned (.func (.func 145) #[] #[.pointer (some ⟨w.heap.size+1,0,none⟩),.pointer (some ⟨w.heap.size,0,none⟩),.pointer (some ⟨w.heap.size+1+1,0,none⟩)])/\Below w.heap.size w w'/\w'.heap[w.heap.size]?=some (.cells #[ev,nv] 206 (0,0))/\w'.heap[w.heap.size+1]?=some (.cells #[.map (some cb)] 99 (0,0))/\w'.heap[w.heap.size+1+1]?=some (.cells #[zam lb bb sb] 204 (0,0))/\w'.heap.size=w.heap.size+1+1+1):=by
 subst he hn
 unfold zam
 have hmf:∀(fn:Go.Fn) (first cap:Array Value) (w:World),(Instr.makeFunc fn first cap).run Tryz.prog w=.ok (.func fn first cap) w:=λ_ _ _ _=>rfl
 go_enter Tryz.func111,Tryz.ntmps111
 go_wp2_with fail
 go_ret
 exact ⟨rfl,zcz w _ _ _,(al3 w _ _ _).1,(al3 w _ _ _).2.1,(al3 w _ _ _).2.2,by simp⟩
theorem zpF (S:Nat->Addr) (kd lb bb sb:Nat) (nmv askv:Value) (N:Nat) (c:Sc) (ev nv:Value) (cb b1 b2 b3:Nat) (t:Tm) (v:Value) (k:Nat×Nat) (st:Option Nat) (w:World) (hT:TT w N t v) (hI:CkI S kd lb bb sb nmv askv N c ev nv cb b1 b2 b3 st w) :
 Calls Tryz.prog 145 #[v,ckV k,.pointer (some ⟨b2,0,none⟩),.pointer (some ⟨b1,0,none⟩),.pointer (some ⟨b3,0,none⟩)] w (λe w'=>e=.returned (.bool (c.isOn t k).2)/\CkI S kd lb bb sb nmv askv N c ev nv cb b1 b2 b3 ((c.isOn t k).1.foldl rep st) w'/\Fr (RT lb bb) w w'):=by
 obtain ⟨xe,cpe,nb,rfl,rfl,hnb⟩:=hI.sc.shape
 obtain ⟨b,args,vs,rfl,hb,hblk,_⟩:=hT.ptr
 have hN:=hI.hN
 have hbz:=ze hblk
 have l1:=hI.l1
 have l2:=hI.l2
 have HI:=za hI
 have HBk:=za hblk
 have d1:=hI.d b1 (by simp)
 have d2:=hI.d b2 (by simp)
 have d3:=hI.d b3 (by simp)
 obtain ⟨d11,d12⟩:=d1
 obtain ⟨d21,d22⟩:=d2
 obtain ⟨d31,d32⟩:=d3
 have hblb:¬b=lb:=by omega
 have hbbb:¬b=bb:=by omega
 have zl:=ze hI.rp.l
 have zb:=ze hI.rp.b
 clear hT hI hblk
 obtain ⟨k1,k2⟩:=k
 unfold ckV
 go_enter Tryz.func145,Tryz.ntmps145
 go_upto_region 1 with fail
 refine zn (λW=>CkI S kd lb bb sb nmv askv N c (.slice xe c.er.length cpe) (.pointer (some ⟨nb,0,none⟩)) cb b1 b2 b3 st W/\Below w.heap.size w W/\W.heap[w.heap.size]?=some (.cells #[.int .i64 (k1:Nat),.int .i64 (k2:Nat)] 169 (0,0))) ⟨HI.out.keep (zq w _),zq w _,zc w _⟩ ?_
 rintro W ⟨hIW,hBW,hKW⟩
 obtain ⟨s0,s1,sf,sz⟩:=zp hIW.x1
 obtain ⟨c0,cf,cz⟩:=zu hIW.x2
 obtain ⟨p0,pf,pz⟩:=zu hIW.x3
 obtain ⟨k0,k1',kf,kz⟩:=zp hKW
 obtain ⟨m0,m1,m2,m3,m4,m5,mf,mz⟩:=zt ((hBW.block b hbz).trans HBk.out)
 have hWz:w.heap.size<=W.heap.size:=hBW.size
 have HIx:=za (zaz t.s (t.nm:Int) W.drew (hIW.sc.old (λ_ _=>rfl)) (by show N<=W.heap.size;omega))
 have HIW:=za hIW
 have HBW:=za hBW
 unfold zam at p0
 clear hIW hBW hKW m4 m5 sf cf pf kf
 by_cases h3:t.k=3
 · have hk:=h3
   have m0':W.cell? ⟨b,0,none⟩=some (.int .i64 3):=by rw [m0,hk];rfl
   have hon:∀q,c.isOn t q=(if c.of (c.idx t.s)=q then [] else [t.nm],true):=λq=>if_pos (by rw [hk];decide)
   have Hon:=za hon
   clear m0 hk hon m1
   obtain ⟨⟨o1,o2⟩,ho⟩:∃o,c.of (c.idx t.s)=o:=⟨_,rfl⟩
   rw [ho] at Hon
   by_cases e1:o1=k1
   · by_cases e2:o2=k2
     · have e1':(o1:Int)=(k1:Int):=by omega
       have e2':(o2:Int)=(k2:Int):=by omega
       have HT:=za (Hon.out (k1,k2))
       rw [if_pos (by rw [e1,e2])] at HT
       clear e1 e2
       go_upto_region 4 with fail
       go_region_held3 (λw'=>w'.cell? ⟨b2,0,none⟩=some (.map (some cb))/\w'.cell? ⟨b1,0,none⟩=some (.slice xe c.er.length cpe)/\w'.cell? ⟨b1,1,none⟩=some (.pointer (some ⟨nb,0,none⟩))/\w'.cell? ⟨b,2,none⟩=some (.string t.s)/\w'.cell? ⟨b,3,none⟩=some (.int .i64 t.nm)/\w'.cell? ⟨w.heap.size,0,none⟩=some (.int .i64 (k1:Nat))/\w'.cell? ⟨w.heap.size,1,none⟩=some (.int .i64 (k2:Nat)))
        (first|(refine ⟨?_,?_,?_,?_,?_,?_,?_⟩ <;> repeat (first|with_reducible exact c0|with_reducible exact s0|with_reducible exact s1|with_reducible exact m2|with_reducible exact m3|with_reducible exact k0|with_reducible exact k1'|with_reducible refine zg ?_|with_reducible refine zj _ ?_|with_reducible refine zk (by omega) ?_|with_reducible refine zd HB2.out ?_ (by first|omega|(rw [zsb];omega))|with_reducible refine zd HB1.out ?_ (by first|omega|(rw [zsb];omega))))|go_keep)
        (first
          | (go_at_call 71;refine HOf.out.mono ?_;rintro e w2 ⟨rfl,hB2⟩;have HB2:=za hB2;have hz2:w1.heap.size<=w2.heap.size:=hB2.size;clear hB2)
          | (go_at_call 72;refine HIx.out.mono ?_;rintro e w1 ⟨rfl,hB1⟩;have HB1:=za (zw hB1);have hz1:W.heap.size<=w1.heap.size:=hB1.size;have HOf:=za (zbC (c.idx t.s) w1 (HIW.out.ck.keep HB1.out));(rw [ho] at HOf);clear hB1))
       go_wp2_with fail
       go_ret
       rw [HT.out]
       exact ⟨rfl,HIW.out.keep (HB1.out.trans (HB2.out.mono hz1)),(zy HBW.out).trans (zy (HB1.out.trans (HB2.out.mono hz1)))⟩
     · have e1':(o1:Int)=(k1:Int):=by omega
       have e2':¬(o2:Int)=(k2:Int):=by omega
       have HT:=za (Hon.out (k1,k2))
       rw [if_neg (by simp [e2])] at HT
       clear e1 e2
       go_upto_region 4 with fail
       go_region_held3 (λw'=>w'.cell? ⟨b2,0,none⟩=some (.map (some cb))/\w'.cell? ⟨b1,0,none⟩=some (.slice xe c.er.length cpe)/\w'.cell? ⟨b1,1,none⟩=some (.pointer (some ⟨nb,0,none⟩))/\w'.cell? ⟨b,2,none⟩=some (.string t.s)/\w'.cell? ⟨b,3,none⟩=some (.int .i64 t.nm)/\w'.cell? ⟨w.heap.size,0,none⟩=some (.int .i64 (k1:Nat))/\w'.cell? ⟨w.heap.size,1,none⟩=some (.int .i64 (k2:Nat)))
        (first|(refine ⟨?_,?_,?_,?_,?_,?_,?_⟩ <;> repeat (first|with_reducible exact c0|with_reducible exact s0|with_reducible exact s1|with_reducible exact m2|with_reducible exact m3|with_reducible exact k0|with_reducible exact k1'|with_reducible refine zg ?_|with_reducible refine zj _ ?_|with_reducible refine zk (by omega) ?_|with_reducible refine zd HB2.out ?_ (by first|omega|(rw [zsb];omega))|with_reducible refine zd HB1.out ?_ (by first|omega|(rw [zsb];omega))))|go_keep)
        (first
          | (go_at_call 71;refine HOf.out.mono ?_;rintro e w2 ⟨rfl,hB2⟩;have HB2:=za hB2;have hz2:w1.heap.size<=w2.heap.size:=hB2.size;clear hB2)
          | (go_at_call 72;refine HIx.out.mono ?_;rintro e w1 ⟨rfl,hB1⟩;have HB1:=za (zw hB1);have hz1:W.heap.size<=w1.heap.size:=hB1.size;have HOf:=za (zbC (c.idx t.s) w1 (HIW.out.ck.keep HB1.out));(rw [ho] at HOf);clear hB1))
       go_upto_region 5 with fail
       have HB3:=za (HB1.out.trans (HB2.out.mono hz1))
       have g1:=zd HB3.out p0 pz
       have g2:=zd HB3.out m3 mz
       have HTell:=za (zaa S kd lb bb sb nmv askv st t.nm w2.drew ((HIW.out.keep HB3.out).rp.keep (zo (Below.refl _ _))))
       go_region_held3 (λw'=>w'.cell? ⟨b3,0,none⟩=some (.func (.func 117) #[] #[.pointer (some ⟨lb,0,none⟩),.pointer (some ⟨bb,0,none⟩),.pointer (some ⟨sb,0,none⟩)])/\w'.cell? ⟨b,3,none⟩=some (.int .i64 t.nm))
        (first|(refine ⟨?_,?_⟩ <;> first|with_reducible exact zg g1|with_reducible exact zg g2|with_reducible exact zS HFt.out g1 (by omega) (by omega)|with_reducible exact zS HFt.out g2 (by omega) (by omega))|go_keep)
        (first|(go_at_call 117;refine (HTell.out).mono ?_;rintro e w6 ⟨rfl,hRt,hFt'⟩;have HRt:=za hRt;have HFt:=za hFt'.undrew;clear hRt hFt'))
       go_wp2_with fail
       go_ret
       rw [HT.out]
       refine ⟨rfl,?_,((zy HBW.out).trans (zy HB3.out)).trans HFt.out⟩
       exact (HIW.out.keep HB3.out).told HRt.out HFt.out
   · have e1':¬(o1:Int)=(k1:Int):=by omega
     have HT:=za (Hon.out (k1,k2))
     rw [if_neg (by simp [e1])] at HT
     clear e1
     go_upto_region 4 with fail
     go_region_held3 (λw'=>w'.cell? ⟨b2,0,none⟩=some (.map (some cb))/\w'.cell? ⟨b1,0,none⟩=some (.slice xe c.er.length cpe)/\w'.cell? ⟨b1,1,none⟩=some (.pointer (some ⟨nb,0,none⟩))/\w'.cell? ⟨b,2,none⟩=some (.string t.s)/\w'.cell? ⟨b,3,none⟩=some (.int .i64 t.nm)/\w'.cell? ⟨w.heap.size,0,none⟩=some (.int .i64 (k1:Nat))/\w'.cell? ⟨w.heap.size,1,none⟩=some (.int .i64 (k2:Nat)))
      (first|(refine ⟨?_,?_,?_,?_,?_,?_,?_⟩ <;> repeat (first|with_reducible exact c0|with_reducible exact s0|with_reducible exact s1|with_reducible exact m2|with_reducible exact m3|with_reducible exact k0|with_reducible exact k1'|with_reducible refine zg ?_|with_reducible refine zj _ ?_|with_reducible refine zk (by omega) ?_|with_reducible refine zd HB2.out ?_ (by first|omega|(rw [zsb];omega))|with_reducible refine zd HB1.out ?_ (by first|omega|(rw [zsb];omega))))|go_keep)
      (first
        | (go_at_call 71;refine HOf.out.mono ?_;rintro e w2 ⟨rfl,hB2⟩;have HB2:=za hB2;have hz2:w1.heap.size<=w2.heap.size:=hB2.size;clear hB2)
        | (go_at_call 72;refine HIx.out.mono ?_;rintro e w1 ⟨rfl,hB1⟩;have HB1:=za (zw hB1);have hz1:W.heap.size<=w1.heap.size:=hB1.size;have HOf:=za (zbC (c.idx t.s) w1 (HIW.out.ck.keep HB1.out));(rw [ho] at HOf);clear hB1))
     go_upto_region 5 with fail
     have HB3:=za (HB1.out.trans (HB2.out.mono hz1))
     have g1:=zd HB3.out p0 pz
     have g2:=zd HB3.out m3 mz
     have HTell:=za (zaa S kd lb bb sb nmv askv st t.nm w2.drew ((HIW.out.keep HB3.out).rp.keep (zo (Below.refl _ _))))
     go_region_held3 (λw'=>w'.cell? ⟨b3,0,none⟩=some (.func (.func 117) #[] #[.pointer (some ⟨lb,0,none⟩),.pointer (some ⟨bb,0,none⟩),.pointer (some ⟨sb,0,none⟩)])/\w'.cell? ⟨b,3,none⟩=some (.int .i64 t.nm))
      (first|(refine ⟨?_,?_⟩ <;> first|with_reducible exact zg g1|with_reducible exact zg g2|with_reducible exact zS HFt.out g1 (by omega) (by omega)|with_reducible exact zS HFt.out g2 (by omega) (by omega))|go_keep)
      (first|(go_at_call 117;refine (HTell.out).mono ?_;rintro e w6 ⟨rfl,hRt,hFt'⟩;have HRt:=za hRt;have HFt:=za hFt'.undrew;clear hRt hFt'))
     go_wp2_with fail
     go_ret
     rw [HT.out]
     refine ⟨rfl,?_,((zy HBW.out).trans (zy HB3.out)).trans HFt.out⟩
     exact (HIW.out.keep HB3.out).told HRt.out HFt.out
 by_cases h6:t.k=6
 · have hk:=h6
   have m0':W.cell? ⟨b,0,none⟩=some (.int .i64 6):=by rw [m0,hk];rfl
   have hon:∀q,c.isOn t q=(if c.of (c.idx t.s)=q then [] else [t.nm],true):=λq=>if_pos (by rw [hk];decide)
   have Hon:=za hon
   clear m0 hk hon m1
   obtain ⟨⟨o1,o2⟩,ho⟩:∃o,c.of (c.idx t.s)=o:=⟨_,rfl⟩
   rw [ho] at Hon
   by_cases e1:o1=k1
   · by_cases e2:o2=k2
     · have e1':(o1:Int)=(k1:Int):=by omega
       have e2':(o2:Int)=(k2:Int):=by omega
       have HT:=za (Hon.out (k1,k2))
       rw [if_pos (by rw [e1,e2])] at HT
       clear e1 e2
       go_upto_region 4 with fail
       go_region_held3 (λw'=>w'.cell? ⟨b2,0,none⟩=some (.map (some cb))/\w'.cell? ⟨b1,0,none⟩=some (.slice xe c.er.length cpe)/\w'.cell? ⟨b1,1,none⟩=some (.pointer (some ⟨nb,0,none⟩))/\w'.cell? ⟨b,2,none⟩=some (.string t.s)/\w'.cell? ⟨b,3,none⟩=some (.int .i64 t.nm)/\w'.cell? ⟨w.heap.size,0,none⟩=some (.int .i64 (k1:Nat))/\w'.cell? ⟨w.heap.size,1,none⟩=some (.int .i64 (k2:Nat)))
        (first|(refine ⟨?_,?_,?_,?_,?_,?_,?_⟩ <;> repeat (first|with_reducible exact c0|with_reducible exact s0|with_reducible exact s1|with_reducible exact m2|with_reducible exact m3|with_reducible exact k0|with_reducible exact k1'|with_reducible refine zg ?_|with_reducible refine zj _ ?_|with_reducible refine zk (by omega) ?_|with_reducible refine zd HB2.out ?_ (by first|omega|(rw [zsb];omega))|with_reducible refine zd HB1.out ?_ (by first|omega|(rw [zsb];omega))))|go_keep)
        (first
          | (go_at_call 71;refine HOf.out.mono ?_;rintro e w2 ⟨rfl,hB2⟩;have HB2:=za hB2;have hz2:w1.heap.size<=w2.heap.size:=hB2.size;clear hB2)
          | (go_at_call 72;refine HIx.out.mono ?_;rintro e w1 ⟨rfl,hB1⟩;have HB1:=za (zw hB1);have hz1:W.heap.size<=w1.heap.size:=hB1.size;have HOf:=za (zbC (c.idx t.s) w1 (HIW.out.ck.keep HB1.out));(rw [ho] at HOf);clear hB1))
       go_wp2_with fail
       go_ret
       rw [HT.out]
       exact ⟨rfl,HIW.out.keep (HB1.out.trans (HB2.out.mono hz1)),(zy HBW.out).trans (zy (HB1.out.trans (HB2.out.mono hz1)))⟩
     · have e1':(o1:Int)=(k1:Int):=by omega
       have e2':¬(o2:Int)=(k2:Int):=by omega
       have HT:=za (Hon.out (k1,k2))
       rw [if_neg (by simp [e2])] at HT
       clear e1 e2
       go_upto_region 4 with fail
       go_region_held3 (λw'=>w'.cell? ⟨b2,0,none⟩=some (.map (some cb))/\w'.cell? ⟨b1,0,none⟩=some (.slice xe c.er.length cpe)/\w'.cell? ⟨b1,1,none⟩=some (.pointer (some ⟨nb,0,none⟩))/\w'.cell? ⟨b,2,none⟩=some (.string t.s)/\w'.cell? ⟨b,3,none⟩=some (.int .i64 t.nm)/\w'.cell? ⟨w.heap.size,0,none⟩=some (.int .i64 (k1:Nat))/\w'.cell? ⟨w.heap.size,1,none⟩=some (.int .i64 (k2:Nat)))
        (first|(refine ⟨?_,?_,?_,?_,?_,?_,?_⟩ <;> repeat (first|with_reducible exact c0|with_reducible exact s0|with_reducible exact s1|with_reducible exact m2|with_reducible exact m3|with_reducible exact k0|with_reducible exact k1'|with_reducible refine zg ?_|with_reducible refine zj _ ?_|with_reducible refine zk (by omega) ?_|with_reducible refine zd HB2.out ?_ (by first|omega|(rw [zsb];omega))|with_reducible refine zd HB1.out ?_ (by first|omega|(rw [zsb];omega))))|go_keep)
        (first
          | (go_at_call 71;refine HOf.out.mono ?_;rintro e w2 ⟨rfl,hB2⟩;have HB2:=za hB2;have hz2:w1.heap.size<=w2.heap.size:=hB2.size;clear hB2)
          | (go_at_call 72;refine HIx.out.mono ?_;rintro e w1 ⟨rfl,hB1⟩;have HB1:=za (zw hB1);have hz1:W.heap.size<=w1.heap.size:=hB1.size;have HOf:=za (zbC (c.idx t.s) w1 (HIW.out.ck.keep HB1.out));(rw [ho] at HOf);clear hB1))
       go_upto_region 5 with fail
       have HB3:=za (HB1.out.trans (HB2.out.mono hz1))
       have g1:=zd HB3.out p0 pz
       have g2:=zd HB3.out m3 mz
       have HTell:=za (zaa S kd lb bb sb nmv askv st t.nm w2.drew ((HIW.out.keep HB3.out).rp.keep (zo (Below.refl _ _))))
       go_region_held3 (λw'=>w'.cell? ⟨b3,0,none⟩=some (.func (.func 117) #[] #[.pointer (some ⟨lb,0,none⟩),.pointer (some ⟨bb,0,none⟩),.pointer (some ⟨sb,0,none⟩)])/\w'.cell? ⟨b,3,none⟩=some (.int .i64 t.nm))
        (first|(refine ⟨?_,?_⟩ <;> first|with_reducible exact zg g1|with_reducible exact zg g2|with_reducible exact zS HFt.out g1 (by omega) (by omega)|with_reducible exact zS HFt.out g2 (by omega) (by omega))|go_keep)
        (first|(go_at_call 117;refine (HTell.out).mono ?_;rintro e w6 ⟨rfl,hRt,hFt'⟩;have HRt:=za hRt;have HFt:=za hFt'.undrew;clear hRt hFt'))
       go_wp2_with fail
       go_ret
       rw [HT.out]
       refine ⟨rfl,?_,((zy HBW.out).trans (zy HB3.out)).trans HFt.out⟩
       exact (HIW.out.keep HB3.out).told HRt.out HFt.out
   · have e1':¬(o1:Int)=(k1:Int):=by omega
     have HT:=za (Hon.out (k1,k2))
     rw [if_neg (by simp [e1])] at HT
     clear e1
     go_upto_region 4 with fail
     go_region_held3 (λw'=>w'.cell? ⟨b2,0,none⟩=some (.map (some cb))/\w'.cell? ⟨b1,0,none⟩=some (.slice xe c.er.length cpe)/\w'.cell? ⟨b1,1,none⟩=some (.pointer (some ⟨nb,0,none⟩))/\w'.cell? ⟨b,2,none⟩=some (.string t.s)/\w'.cell? ⟨b,3,none⟩=some (.int .i64 t.nm)/\w'.cell? ⟨w.heap.size,0,none⟩=some (.int .i64 (k1:Nat))/\w'.cell? ⟨w.heap.size,1,none⟩=some (.int .i64 (k2:Nat)))
      (first|(refine ⟨?_,?_,?_,?_,?_,?_,?_⟩ <;> repeat (first|with_reducible exact c0|with_reducible exact s0|with_reducible exact s1|with_reducible exact m2|with_reducible exact m3|with_reducible exact k0|with_reducible exact k1'|with_reducible refine zg ?_|with_reducible refine zj _ ?_|with_reducible refine zk (by omega) ?_|with_reducible refine zd HB2.out ?_ (by first|omega|(rw [zsb];omega))|with_reducible refine zd HB1.out ?_ (by first|omega|(rw [zsb];omega))))|go_keep)
      (first
        | (go_at_call 71;refine HOf.out.mono ?_;rintro e w2 ⟨rfl,hB2⟩;have HB2:=za hB2;have hz2:w1.heap.size<=w2.heap.size:=hB2.size;clear hB2)
        | (go_at_call 72;refine HIx.out.mono ?_;rintro e w1 ⟨rfl,hB1⟩;have HB1:=za (zw hB1);have hz1:W.heap.size<=w1.heap.size:=hB1.size;have HOf:=za (zbC (c.idx t.s) w1 (HIW.out.ck.keep HB1.out));(rw [ho] at HOf);clear hB1))
     go_upto_region 5 with fail
     have HB3:=za (HB1.out.trans (HB2.out.mono hz1))
     have g1:=zd HB3.out p0 pz
     have g2:=zd HB3.out m3 mz
     have HTell:=za (zaa S kd lb bb sb nmv askv st t.nm w2.drew ((HIW.out.keep HB3.out).rp.keep (zo (Below.refl _ _))))
     go_region_held3 (λw'=>w'.cell? ⟨b3,0,none⟩=some (.func (.func 117) #[] #[.pointer (some ⟨lb,0,none⟩),.pointer (some ⟨bb,0,none⟩),.pointer (some ⟨sb,0,none⟩)])/\w'.cell? ⟨b,3,none⟩=some (.int .i64 t.nm))
      (first|(refine ⟨?_,?_⟩ <;> first|with_reducible exact zg g1|with_reducible exact zg g2|with_reducible exact zS HFt.out g1 (by omega) (by omega)|with_reducible exact zS HFt.out g2 (by omega) (by omega))|go_keep)
      (first|(go_at_call 117;refine (HTell.out).mono ?_;rintro e w6 ⟨rfl,hRt,hFt'⟩;have HRt:=za hRt;have HFt:=za hFt'.undrew;clear hRt hFt'))
     go_wp2_with fail
     go_ret
     rw [HT.out]
     refine ⟨rfl,?_,((zy HBW.out).trans (zy HB3.out)).trans HFt.out⟩
     exact (HIW.out.keep HB3.out).told HRt.out HFt.out
 by_cases h7:t.k=7
 · have hk:=h7
   have m0':W.cell? ⟨b,0,none⟩=some (.int .i64 7):=by rw [m0,hk];rfl
   have hon:∀q,c.isOn t q=(if q=(c.idx t.s,1) then ([],true) else ([t.a],false)):=λq=>by unfold Sc.isOn;rw [if_neg (by rw [hk];decide),if_pos (by rw [hk];decide),hk];rfl
   have Hon:=za hon
   clear m0 hk hon
   by_cases e1:k1=c.idx t.s
   · by_cases e2:k2=1
     · have e1':(k1:Int)=(c.idx t.s:Int):=by omega
       have e2':(k2:Int)=1:=by omega
       have HT:=za (Hon.out (k1,k2))
       rw [if_pos (by rw [e1,e2])] at HT
       clear e1 e2
       go_upto_region 8 with fail
       go_region_held3 (λw'=>w'.cell? ⟨b1,0,none⟩=some (.slice xe c.er.length cpe)/\w'.cell? ⟨b1,1,none⟩=some (.pointer (some ⟨nb,0,none⟩))/\w'.cell? ⟨b,0,none⟩=some (.int .i64 7)/\w'.cell? ⟨b,2,none⟩=some (.string t.s)/\w'.cell? ⟨b,3,none⟩=some (.int .i64 t.nm)/\w'.cell? ⟨w.heap.size,0,none⟩=some (.int .i64 (k1:Nat))/\w'.cell? ⟨w.heap.size,1,none⟩=some (.int .i64 (k2:Nat)))
        (first|(refine ⟨?_,?_,?_,?_,?_,?_,?_⟩ <;> repeat (first|with_reducible exact s0|with_reducible exact s1|with_reducible exact m0'|with_reducible exact m2|with_reducible exact m3|with_reducible exact k0|with_reducible exact k1'|with_reducible refine zg ?_|with_reducible refine zj _ ?_|with_reducible refine zk (by omega) ?_|with_reducible refine zd HB1.out ?_ (by first|omega|(rw [zsb];omega))))|go_keep)
        (first
          | (go_at_call 146;refine (zeV _).mono ?_;rintro e w2 ⟨rfl,rfl⟩)
          | (go_at_call 72;refine HIx.out.mono ?_;rintro e w1 ⟨rfl,hB1⟩;have HB1:=za (zw hB1);have hz1:W.heap.size<=w1.heap.size:=hB1.size;clear hB1))
       go_wp2_with fail
       go_ret
       rw [HT.out]
       exact ⟨rfl,HIW.out.keep HB1.out,(zy HBW.out).trans (zy HB1.out)⟩
     · have e1':(k1:Int)=(c.idx t.s:Int):=by omega
       have e2':¬(k2:Int)=1:=by omega
       have HT:=za (Hon.out (k1,k2))
       rw [if_neg (by simp [e2])] at HT
       clear e1 e2
       go_upto_region 8 with fail
       go_region_held3 (λw'=>w'.cell? ⟨b1,0,none⟩=some (.slice xe c.er.length cpe)/\w'.cell? ⟨b1,1,none⟩=some (.pointer (some ⟨nb,0,none⟩))/\w'.cell? ⟨b,0,none⟩=some (.int .i64 7)/\w'.cell? ⟨b,2,none⟩=some (.string t.s)/\w'.cell? ⟨b,3,none⟩=some (.int .i64 t.nm)/\w'.cell? ⟨w.heap.size,0,none⟩=some (.int .i64 (k1:Nat))/\w'.cell? ⟨w.heap.size,1,none⟩=some (.int .i64 (k2:Nat)))
        (first|(refine ⟨?_,?_,?_,?_,?_,?_,?_⟩ <;> repeat (first|with_reducible exact s0|with_reducible exact s1|with_reducible exact m0'|with_reducible exact m2|with_reducible exact m3|with_reducible exact k0|with_reducible exact k1'|with_reducible refine zg ?_|with_reducible refine zj _ ?_|with_reducible refine zk (by omega) ?_|with_reducible refine zd HB1.out ?_ (by first|omega|(rw [zsb];omega))))|go_keep)
        (first
          | (go_at_call 146;refine (zeV _).mono ?_;rintro e w2 ⟨rfl,rfl⟩)
          | (go_at_call 72;refine HIx.out.mono ?_;rintro e w1 ⟨rfl,hB1⟩;have HB1:=za (zw hB1);have hz1:W.heap.size<=w1.heap.size:=hB1.size;clear hB1))
       go_upto_region 9 with fail
       have HB3:=za (HB1.out)
       have g1:=zd HB3.out p0 pz
       have g2:=zd HB3.out m1 mz
       have HTell:=za (zaa S kd lb bb sb nmv askv st t.a w1.drew ((HIW.out.keep HB3.out).rp.keep (zo (Below.refl _ _))))
       go_region_held3 (λw'=>w'.cell? ⟨b3,0,none⟩=some (.func (.func 117) #[] #[.pointer (some ⟨lb,0,none⟩),.pointer (some ⟨bb,0,none⟩),.pointer (some ⟨sb,0,none⟩)])/\w'.cell? ⟨b,1,none⟩=some (.int .i64 t.a))
        (first|(refine ⟨?_,?_⟩ <;> first|with_reducible exact zg g1|with_reducible exact zg g2|with_reducible exact zS HFt.out g1 (by omega) (by omega)|with_reducible exact zS HFt.out g2 (by omega) (by omega))|go_keep)
        (first|(go_at_call 117;refine (HTell.out).mono ?_;rintro e w6 ⟨rfl,hRt,hFt'⟩;have HRt:=za hRt;have HFt:=za hFt'.undrew;clear hRt hFt'))
       go_wp2_with fail
       go_ret
       rw [HT.out]
       refine ⟨rfl,?_,((zy HBW.out).trans (zy HB3.out)).trans HFt.out⟩
       exact (HIW.out.keep HB3.out).told HRt.out HFt.out
   · have e1':¬(k1:Int)=(c.idx t.s:Int):=by omega
     have HT:=za (Hon.out (k1,k2))
     rw [if_neg (by simp [e1])] at HT
     clear e1
     go_upto_region 8 with fail
     go_region_held3 (λw'=>w'.cell? ⟨b1,0,none⟩=some (.slice xe c.er.length cpe)/\w'.cell? ⟨b1,1,none⟩=some (.pointer (some ⟨nb,0,none⟩))/\w'.cell? ⟨b,0,none⟩=some (.int .i64 7)/\w'.cell? ⟨b,2,none⟩=some (.string t.s)/\w'.cell? ⟨b,3,none⟩=some (.int .i64 t.nm)/\w'.cell? ⟨w.heap.size,0,none⟩=some (.int .i64 (k1:Nat))/\w'.cell? ⟨w.heap.size,1,none⟩=some (.int .i64 (k2:Nat)))
      (first|(refine ⟨?_,?_,?_,?_,?_,?_,?_⟩ <;> repeat (first|with_reducible exact s0|with_reducible exact s1|with_reducible exact m0'|with_reducible exact m2|with_reducible exact m3|with_reducible exact k0|with_reducible exact k1'|with_reducible refine zg ?_|with_reducible refine zj _ ?_|with_reducible refine zk (by omega) ?_|with_reducible refine zd HB1.out ?_ (by first|omega|(rw [zsb];omega))))|go_keep)
      (first
        | (go_at_call 146;refine (zeV _).mono ?_;rintro e w2 ⟨rfl,rfl⟩)
        | (go_at_call 72;refine HIx.out.mono ?_;rintro e w1 ⟨rfl,hB1⟩;have HB1:=za (zw hB1);have hz1:W.heap.size<=w1.heap.size:=hB1.size;clear hB1))
     go_upto_region 9 with fail
     have HB3:=za (HB1.out)
     have g1:=zd HB3.out p0 pz
     have g2:=zd HB3.out m1 mz
     have HTell:=za (zaa S kd lb bb sb nmv askv st t.a w1.drew ((HIW.out.keep HB3.out).rp.keep (zo (Below.refl _ _))))
     go_region_held3 (λw'=>w'.cell? ⟨b3,0,none⟩=some (.func (.func 117) #[] #[.pointer (some ⟨lb,0,none⟩),.pointer (some ⟨bb,0,none⟩),.pointer (some ⟨sb,0,none⟩)])/\w'.cell? ⟨b,1,none⟩=some (.int .i64 t.a))
      (first|(refine ⟨?_,?_⟩ <;> first|with_reducible exact zg g1|with_reducible exact zg g2|with_reducible exact zS HFt.out g1 (by omega) (by omega)|with_reducible exact zS HFt.out g2 (by omega) (by omega))|go_keep)
      (first|(go_at_call 117;refine (HTell.out).mono ?_;rintro e w6 ⟨rfl,hRt,hFt'⟩;have HRt:=za hRt;have HFt:=za hFt'.undrew;clear hRt hFt'))
     go_wp2_with fail
     go_ret
     rw [HT.out]
     refine ⟨rfl,?_,((zy HBW.out).trans (zy HB3.out)).trans HFt.out⟩
     exact (HIW.out.keep HB3.out).told HRt.out HFt.out
 by_cases h8:t.k=8
 · have hk:=h8
   have m0':W.cell? ⟨b,0,none⟩=some (.int .i64 8):=by rw [m0,hk];rfl
   have hon:∀q,c.isOn t q=(if q=(c.idx t.s,2) then ([],true) else ([t.a],false)):=λq=>by unfold Sc.isOn;rw [if_neg (by rw [hk];decide),if_pos (by rw [hk];decide),hk];rfl
   have Hon:=za hon
   clear m0 hk hon
   by_cases e1:k1=c.idx t.s
   · by_cases e2:k2=2
     · have e1':(k1:Int)=(c.idx t.s:Int):=by omega
       have e2':(k2:Int)=2:=by omega
       have HT:=za (Hon.out (k1,k2))
       rw [if_pos (by rw [e1,e2])] at HT
       clear e1 e2
       go_upto_region 8 with fail
       go_region_held3 (λw'=>w'.cell? ⟨b1,0,none⟩=some (.slice xe c.er.length cpe)/\w'.cell? ⟨b1,1,none⟩=some (.pointer (some ⟨nb,0,none⟩))/\w'.cell? ⟨b,0,none⟩=some (.int .i64 8)/\w'.cell? ⟨b,2,none⟩=some (.string t.s)/\w'.cell? ⟨b,3,none⟩=some (.int .i64 t.nm)/\w'.cell? ⟨w.heap.size,0,none⟩=some (.int .i64 (k1:Nat))/\w'.cell? ⟨w.heap.size,1,none⟩=some (.int .i64 (k2:Nat)))
        (first|(refine ⟨?_,?_,?_,?_,?_,?_,?_⟩ <;> repeat (first|with_reducible exact s0|with_reducible exact s1|with_reducible exact m0'|with_reducible exact m2|with_reducible exact m3|with_reducible exact k0|with_reducible exact k1'|with_reducible refine zg ?_|with_reducible refine zj _ ?_|with_reducible refine zk (by omega) ?_|with_reducible refine zd HB1.out ?_ (by first|omega|(rw [zsb];omega))))|go_keep)
        (first
          | (go_at_call 146;refine (ze1 _).mono ?_;rintro e w2 ⟨rfl,rfl⟩)
          | (go_at_call 72;refine HIx.out.mono ?_;rintro e w1 ⟨rfl,hB1⟩;have HB1:=za (zw hB1);have hz1:W.heap.size<=w1.heap.size:=hB1.size;clear hB1))
       go_wp2_with fail
       go_ret
       rw [HT.out]
       exact ⟨rfl,HIW.out.keep HB1.out,(zy HBW.out).trans (zy HB1.out)⟩
     · have e1':(k1:Int)=(c.idx t.s:Int):=by omega
       have e2':¬(k2:Int)=2:=by omega
       have HT:=za (Hon.out (k1,k2))
       rw [if_neg (by simp [e2])] at HT
       clear e1 e2
       go_upto_region 8 with fail
       go_region_held3 (λw'=>w'.cell? ⟨b1,0,none⟩=some (.slice xe c.er.length cpe)/\w'.cell? ⟨b1,1,none⟩=some (.pointer (some ⟨nb,0,none⟩))/\w'.cell? ⟨b,0,none⟩=some (.int .i64 8)/\w'.cell? ⟨b,2,none⟩=some (.string t.s)/\w'.cell? ⟨b,3,none⟩=some (.int .i64 t.nm)/\w'.cell? ⟨w.heap.size,0,none⟩=some (.int .i64 (k1:Nat))/\w'.cell? ⟨w.heap.size,1,none⟩=some (.int .i64 (k2:Nat)))
        (first|(refine ⟨?_,?_,?_,?_,?_,?_,?_⟩ <;> repeat (first|with_reducible exact s0|with_reducible exact s1|with_reducible exact m0'|with_reducible exact m2|with_reducible exact m3|with_reducible exact k0|with_reducible exact k1'|with_reducible refine zg ?_|with_reducible refine zj _ ?_|with_reducible refine zk (by omega) ?_|with_reducible refine zd HB1.out ?_ (by first|omega|(rw [zsb];omega))))|go_keep)
        (first
          | (go_at_call 146;refine (ze1 _).mono ?_;rintro e w2 ⟨rfl,rfl⟩)
          | (go_at_call 72;refine HIx.out.mono ?_;rintro e w1 ⟨rfl,hB1⟩;have HB1:=za (zw hB1);have hz1:W.heap.size<=w1.heap.size:=hB1.size;clear hB1))
       go_upto_region 9 with fail
       have HB3:=za (HB1.out)
       have g1:=zd HB3.out p0 pz
       have g2:=zd HB3.out m1 mz
       have HTell:=za (zaa S kd lb bb sb nmv askv st t.a w1.drew ((HIW.out.keep HB3.out).rp.keep (zo (Below.refl _ _))))
       go_region_held3 (λw'=>w'.cell? ⟨b3,0,none⟩=some (.func (.func 117) #[] #[.pointer (some ⟨lb,0,none⟩),.pointer (some ⟨bb,0,none⟩),.pointer (some ⟨sb,0,none⟩)])/\w'.cell? ⟨b,1,none⟩=some (.int .i64 t.a))
        (first|(refine ⟨?_,?_⟩ <;> first|with_reducible exact zg g1|with_reducible exact zg g2|with_reducible exact zS HFt.out g1 (by omega) (by omega)|with_reducible exact zS HFt.out g2 (by omega) (by omega))|go_keep)
        (first|(go_at_call 117;refine (HTell.out).mono ?_;rintro e w6 ⟨rfl,hRt,hFt'⟩;have HRt:=za hRt;have HFt:=za hFt'.undrew;clear hRt hFt'))
       go_wp2_with fail
       go_ret
       rw [HT.out]
       refine ⟨rfl,?_,((zy HBW.out).trans (zy HB3.out)).trans HFt.out⟩
       exact (HIW.out.keep HB3.out).told HRt.out HFt.out
   · have e1':¬(k1:Int)=(c.idx t.s:Int):=by omega
     have HT:=za (Hon.out (k1,k2))
     rw [if_neg (by simp [e1])] at HT
     clear e1
     go_upto_region 8 with fail
     go_region_held3 (λw'=>w'.cell? ⟨b1,0,none⟩=some (.slice xe c.er.length cpe)/\w'.cell? ⟨b1,1,none⟩=some (.pointer (some ⟨nb,0,none⟩))/\w'.cell? ⟨b,0,none⟩=some (.int .i64 8)/\w'.cell? ⟨b,2,none⟩=some (.string t.s)/\w'.cell? ⟨b,3,none⟩=some (.int .i64 t.nm)/\w'.cell? ⟨w.heap.size,0,none⟩=some (.int .i64 (k1:Nat))/\w'.cell? ⟨w.heap.size,1,none⟩=some (.int .i64 (k2:Nat)))
      (first|(refine ⟨?_,?_,?_,?_,?_,?_,?_⟩ <;> repeat (first|with_reducible exact s0|with_reducible exact s1|with_reducible exact m0'|with_reducible exact m2|with_reducible exact m3|with_reducible exact k0|with_reducible exact k1'|with_reducible refine zg ?_|with_reducible refine zj _ ?_|with_reducible refine zk (by omega) ?_|with_reducible refine zd HB1.out ?_ (by first|omega|(rw [zsb];omega))))|go_keep)
      (first
        | (go_at_call 146;refine (ze1 _).mono ?_;rintro e w2 ⟨rfl,rfl⟩)
        | (go_at_call 72;refine HIx.out.mono ?_;rintro e w1 ⟨rfl,hB1⟩;have HB1:=za (zw hB1);have hz1:W.heap.size<=w1.heap.size:=hB1.size;clear hB1))
     go_upto_region 9 with fail
     have HB3:=za (HB1.out)
     have g1:=zd HB3.out p0 pz
     have g2:=zd HB3.out m1 mz
     have HTell:=za (zaa S kd lb bb sb nmv askv st t.a w1.drew ((HIW.out.keep HB3.out).rp.keep (zo (Below.refl _ _))))
     go_region_held3 (λw'=>w'.cell? ⟨b3,0,none⟩=some (.func (.func 117) #[] #[.pointer (some ⟨lb,0,none⟩),.pointer (some ⟨bb,0,none⟩),.pointer (some ⟨sb,0,none⟩)])/\w'.cell? ⟨b,1,none⟩=some (.int .i64 t.a))
      (first|(refine ⟨?_,?_⟩ <;> first|with_reducible exact zg g1|with_reducible exact zg g2|with_reducible exact zS HFt.out g1 (by omega) (by omega)|with_reducible exact zS HFt.out g2 (by omega) (by omega))|go_keep)
      (first|(go_at_call 117;refine (HTell.out).mono ?_;rintro e w6 ⟨rfl,hRt,hFt'⟩;have HRt:=za hRt;have HFt:=za hFt'.undrew;clear hRt hFt'))
     go_wp2_with fail
     go_ret
     rw [HT.out]
     refine ⟨rfl,?_,((zy HBW.out).trans (zy HB3.out)).trans HFt.out⟩
     exact (HIW.out.keep HB3.out).told HRt.out HFt.out
 have hon:∀q,c.isOn t q=([],true):=λq=>by unfold Sc.isOn;rw [if_neg (by omega),if_neg (by omega)]
 have HT:=za (hon (k1,k2))
 have g3:¬(t.k:Int)=3:=by omega
 have g6:¬(t.k:Int)=6:=by omega
 have g7:¬(t.k:Int)=7:=by omega
 have g8:¬(t.k:Int)=8:=by omega
 clear hon h3 h6 h7 h8
 go_wp2_with fail
 go_ret
 rw [HT.out]
 exact ⟨rfl,HIW.out,zy HBW.out⟩
theorem zqS (S:Nat->Addr) (kd lb bb sb:Nat) (nmv askv:Value) (N:Nat) (c:Sc) (ev nv:Value) (cb b1 b2 b3:Nat) :
 znz N c ev nv cb (λ_=>RT lb bb) 145 #[.pointer (some ⟨b2,0,none⟩),.pointer (some ⟨b1,0,none⟩),.pointer (some ⟨b3,0,none⟩)] 112 #[] (λ_ _=>True) (λt k=>(c.isOn t k).2) (λst t k=>(c.isOn t k).1.foldl rep st) (λst _ _=>st) (CkI S kd lb bb sb nmv askv N c ev nv cb b1 b2 b3) (λ_=>True) where
 bE:=λ_ _ _ _=>trivial
 bL:=λ_ _ _ _=>trivial
 entE:=zqz
 entL:=zqL
 hT:=λs w k hI e=>by
  have h:=hI.d cb (by simp)
  rcases e with e|e
  · subst e;exact ⟨hI.l1,ze hI.rp.l,λe=>h.1 e.symm⟩
  · subst e;exact ⟨hI.l2,ze hI.rp.b,λe=>h.2 e.symm⟩
 keep:=λs w w' h hB=>⟨h.keep hB,λ_ e=>e⟩
 sub:=λ_ _ _ _ _ _ _=>trivial
 callE:=λt v k s w hT hN hS hC hI _ _=>by
  refine (zpF S kd lb bb sb nmv askv N c ev nv cb b1 b2 b3 t v k s w hT hI).mono ?_
  rintro e w' ⟨h1,h2,h3⟩
  exact ⟨h1,h2,FT.const h3⟩
 callL:=λt v k s w hT hN hS hC hI _ _=>by
  refine (zpg v k w).mono ?_
  rintro e w' ⟨h1,h2⟩
  exact ⟨h1,hI.keep h2,FT.const (zy h2)⟩
theorem zp1 (c:Sc):∀(t:Tm) (k:Nat×Nat) (st:Option Nat),zcs c (λt k=>(c.isOn t k).2) (λst t k=>(c.isOn t k).1.foldl rep st) (λst _ _=>st) t k st=(onT c t k).foldl rep st:=by
 intro t
 induction t using Tm.ind with
 | h x a s nm n ts ih =>
   intro k st
   have hl:∀(l:List Tm),(∀u∈l,u∈ts)->∀(i:Nat) (st:Option Nat),zcu c (λt k=>(c.isOn t k).2) (λst t k=>(c.isOn t k).1.foldl rep st) (λst _ _=>st) (.mk x a s nm n ts) k l i st=(onL c (.mk x a s nm n ts) k l i).foldl rep st:=by
    intro l
    induction l with
    | nil=>intro _ i st;rfl
    | cons u l ihl =>
      intro hm i st
      rw [zcu,onL,List.foldl_append,ihl (λu hu=>hm u (List.mem_cons_of_mem _ hu)),ih u (hm u (List.mem_cons_self ..))]
   rw [zcs,onT,List.foldl_append]
   split
   · rw [hl ts (λ_ h=>h)]
   · rfl
end
end Go.Proofs.YtedmpgjebafcjaaGreatDoor
