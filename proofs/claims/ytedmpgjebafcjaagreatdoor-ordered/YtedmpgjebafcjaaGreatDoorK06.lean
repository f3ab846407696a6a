/- Part 7 of the proof: CoeC CoeD CoeE1 CoeE CoeF CoeG. -/
import Derived.Test.YtedmpgjebafcjaaGreatDoorK05
set_option maxRecDepth 100000
set_option maxHeartbeats 8000000
namespace Go.Proofs.YtedmpgjebafcjaaGreatDoor
section
open Go.RowKit
theorem zl9:zH 204:=λ_ _=>by kernel_rfl
theorem zjz {d:Nat} {M:Fn} (gM:zv d M) {st:St} {p:Nat} (hI:Inv p st) (he:st.er=0) (hk:2<=st.t.k) (ho:18<=st.op+(d+1)) (h16:st.op=16):(M st.enter).1.leave=st.fail 3 st.t.a:=by
 have h1:=Fwd.enter hI he hk
 have h2:=gM st.enter (p+1) h1.inv (by rw [St.enter_op];omega)
 have h3:st.enter.er≠0:=by unfold St.enter;rw [if_pos (by omega)];exact St.fail_er _ (by decide)
 rw [h2.er h3,zd0 h16]
theorem zm9 {d:Nat} {ru smp:Fn} (hU:zX d 200 ru) (gU:zv d ru) (hS:zX (d+1) 203 smp):zX (d+1) 200 (zdn ru smp):=by
 intro S pb st p w hI ho hR
 have hlt:=hR.lt
 have HOp:=za (zbd S pb st _ 2 [10,11] rfl (by decide) ((w.alloc (.cells #[.pointer (some ⟨pb,0,none⟩)] 199)).alloc (.cells #[.int .i64 10,.int .i64 11] 213)) (zcD _ _ _ _ rfl) (by decide) hI.ok.tk ((hR.alloc _).alloc _))
 rw [zrv st hR.tx,zsb] at HOp
 have hmf:∀(fn:Go.Fn) (first cap:Array Value) (w:World),(Instr.makeFunc fn first cap).run Tryz.prog w=.ok (.func fn first cap) w:=λ_ _ _ _=>rfl
 by_cases hc:(st.is 4 [45]||st.is 5 [110,111,116])=true
 · obtain ⟨kk,hkk,hkl⟩:∃kk,(if st.is 4 [45]=true then some 10 else if st.is 5 [110,111,116]=true then some 11 else none)=some kk/\zag (if st.is 4 [45]=true then zlo else zk5).toList 0=kk:=by
    by_cases h1:st.is 4 [45]=true
    · exact ⟨10,by rw [if_pos h1],by rw [if_pos h1];decide +kernel⟩
    · have h2:st.is 5 [110,111,116]=true:=by simpa [h1] using hc
      exact ⟨11,by rw [if_neg h1,if_pos h2],by rw [if_neg h1];decide +kernel⟩
   have hk4:4<=st.t.k:=by
    simp only [Bool.or_eq_true] at hc
    rcases hc with h|h
    · rw [Inv.is_k h];omega
    · rw [Inv.is_k h];omega
   have he:=hI.toBad.er (by omega)
   have hM:zdn ru smp st=(ru st.enter).1.leave.put ⟨if st.is 4 [45]=true then zlo else zk5,st.t.a,0,[(ru st.enter).2],sE,0⟩:=by unfold zdn;rw [if_pos ⟨he,hc⟩]
   rw [hkk] at HOp
   simp only [opV] at HOp
   rw [hM]
   generalize (if st.is 4 [45]=true then zlo else zk5)=op at *
   have HR:=za hR
   have Hkl:=za hkl
   have e1:=Fwd.enter hI he (by omega:2<=st.t.k)
   have hoE:18<=st.enter.op+d:=by rw [St.enter_op];omega
   have gE:=gU st.enter (p+1) e1.inv hoE
   have HI:=za hI
   have HD:=za (λh16=>zjz gU hI he (by omega:2<=st.t.k) ho h16)
   have HE:=za e1.inv
   have HB:=za hI.toBad
   have Hk4:=za hk4
   have HU:=za hU
   have HoE:=za hoE
   have HgE:=za gE
   clear hR hkk hc hM hI e1 gE hkl he hk4 hU hoE
   go_enter Tryz.func200,Tryz.ntmps200
   go_wp2_with (first|(go_at_call 184;refine HOp.out.mono ?_;rintro e w' ⟨rfl,rfl⟩)|(go_at_call 173;refine (zb8 S pb st kk _ ((HR.out.alloc _).alloc _)).mono ?_;rintro e w' ⟨rfl,rfl⟩))
   obtain ⟨w0,hw0⟩:∃w0,((((w.alloc (.cells #[.pointer (some ⟨pb,0,none⟩)] 199)).alloc (.cells #[.int .i64 10,.int .i64 11] 213)).alloc (.cells #[.int .i64 kk,.int .i64 st.t.a,.string ⟨#[]⟩,.int .i64 0,.int .i64 0,.slice none 0 0] 216)).alloc (.cells #[.pointer (some ⟨w.heap.size+1+1,0,none⟩)] 164))=w0:=⟨_,rfl⟩
   have b0:Box w0 w.heap.size 199 (.pointer (some ⟨pb,0,none⟩)):=by
    rw [<- hw0]
    exact (Below.heap_alloc _ _ _ (by simp;omega)).trans ((Below.heap_alloc _ _ _ (by simp;omega)).trans ((Below.heap_alloc _ _ _ (by simp)).trans (zc w _)))
   have b2:w0.heap[w.heap.size+1+1]?=some (.cells #[.int .i64 kk,.int .i64 st.t.a,.string ⟨#[]⟩,.int .i64 0,.int .i64 0,.slice none 0 0] 216 (0,0)):=by
    rw [<- hw0]
    refine (Below.heap_alloc _ _ _ (by simp)).trans ?_
    have:=zc ((w.alloc (.cells #[.pointer (some ⟨pb,0,none⟩)] 199)).alloc (.cells #[.int .i64 10,.int .i64 11] 213)) (.cells #[.int .i64 kk,.int .i64 st.t.a,.string ⟨#[]⟩,.int .i64 0,.int .i64 0,.slice none 0 0] 216)
    simpa using this
   have b3:Box w0 (w.heap.size+1+1+1) 164 (.pointer (some ⟨w.heap.size+1+1,0,none⟩)):=by
    rw [<- hw0]
    have:=zc (((w.alloc (.cells #[.pointer (some ⟨pb,0,none⟩)] 199)).alloc (.cells #[.int .i64 10,.int .i64 11] 213)).alloc (.cells #[.int .i64 kk,.int .i64 st.t.a,.string ⟨#[]⟩,.int .i64 0,.int .i64 0,.slice none 0 0] 216)) (.cells #[.pointer (some ⟨w.heap.size+1+1,0,none⟩)] 164)
    unfold Box
    simpa using this
   have hF0:Fr (·=pb) w w0:=by rw [<- hw0];exact ((((Fr.refl _ w).alloc _).alloc _).alloc _).alloc _
   have hL0:PL S w0 pb st:=by rw [<- hw0];exact (((HR.out.alloc _).alloc _).alloc _).alloc _
   rw [hw0]
   refine (zdz _ _ zl9 S pb st p w0 HI.out (Nat.le_trans (by decide) Hk4.out) hL0 (λe w'=>e=.returned (.tuple #[])/\Box w' (w.heap.size+1+1+1) 164 (.pointer (some ⟨w.heap.size+1+1,0,none⟩))/\zaW S pb w.heap.size w ((ru st.enter).1.leave.put ⟨op,st.t.a,0,[(ru st.enter).2],sE,0⟩).1 ((ru st.enter).1.leave.put ⟨op,st.t.a,0,[(ru st.enter).2],sE,0⟩).2 (.returned (.pointer (some ⟨w.heap.size+1+1,0,none⟩))) w') ?_ ?_).mono ?_
   · intro hlt16 w1 hL1 hF1
     refine (zlC HU.out S pb st.enter (p+1) w1 w.heap.size (w.heap.size+1+1+1) (w.heap.size+1+1) _ _ _ _ _ _ HE.out HoE.out hL1 (b0.fr hF1 (by omega)) (b3.fr hF1 (by omega)) ((hF1.block _ (ze b2) (by omega)).trans b2) (by omega) (by omega)).mono ?_
     rintro e w2 ⟨rfl,a2,g,hL2,hT2,hb2,hg2,hzg,hF2⟩
     refine ⟨rfl,(ru st.enter).1,hL2,by rw [HgE.out.op,St.enter_op];omega,by rw [HgE.out.op,St.enter_op];omega,?_⟩
     intro w3 hL3 hF3
     have hFw:Fr (·=pb) w w3:=(Fr.drop2 (hF0.trans hF1) hF2 (by omega)).trans hF3
     have hz1:w0.heap.size<=w1.heap.size:=hF1.size
     have hz0:w.heap.size<=w0.heap.size:=hF0.size
     refine ⟨rfl,Box.fr (Fr.keep2 hF2 (b3.fr hF1 (by omega)) (by omega) (by omega)) hF3 (by omega),_,rfl,hL3.put _,?_,hFw⟩
     intro he'
     have t2:=hT2.out he'
     refine TR.one (y:=(ru st.enter).2) (g:=g) (u:=.pointer a2) (by omega) (by omega) ?_ ((hF3.block g (ze hg2) (by omega)).trans hg2) rfl ?_
     · show _=some (Obj.cells #[.int .i64 (zag op.toList 0:Nat),.int .i64 st.t.a,.string ⟨#[]⟩,.int .i64 (0:Nat),.int .i64 (zbF op.toList 0:Nat),.slice (some ⟨g,0,none⟩) 1 1] 216 (0,0))
       rw [Hkl.out,zbK]
       exact (hF3.block _ (ze hb2) (by omega)).trans hb2
     · exact (t2.fr hF3 (λk h1 _ h2=>by omega)).down (by omega)
   · intro h16 w3 hL3 hF3
     rw [HD.out h16]
     exact ⟨rfl,b3.fr hF3 (by omega),_,rfl,hL3.put _,λhe'=>absurd he' (St.fail_er st (by decide)),hF0.trans hF3⟩
   · rintro e w4 ⟨rfl,hb4,hQ⟩
     obtain ⟨f0,ff,fz⟩:=zu hb4
     have HQ:=za hQ
     clear hQ hb4 b0 b2 b3 hF0 hL0 hw0
     go_wp2_with fail
     go_ret
     exact HQ.out
 · have hM:zdn ru smp st=smp st:=by unfold zdn;rw [if_neg (λh=>hc h.2)]
   have hn:(if st.is 4 [45]=true then some 10 else if st.is 5 [110,111,116]=true then some 11 else none)=(none:Option Nat):=by
    simp only [Bool.or_eq_true,not_or] at hc
    rw [if_neg hc.1,if_neg hc.2]
   rw [hn] at HOp
   simp only [opV] at HOp
   rw [hM]
   have H1:=za (hS S pb st p ((w.alloc (.cells #[.pointer (some ⟨pb,0,none⟩)] 199)).alloc (.cells #[.int .i64 10,.int .i64 11] 213)) hI ho ((hR.alloc _).alloc _))
   clear hR hI hM hn hc hS hU gU
   generalize smp st=R at *
   go_enter Tryz.func200,Tryz.ntmps200
   go_wp2_with (go_at_call 184;refine HOp.out.mono ?_;rintro e w' ⟨rfl,rfl⟩)
   refine H1.out.mono ?_
   rintro e w1 h1
   obtain ⟨a,rfl,h2,h3,h4⟩:=(h1.alloc (zaF _ _)).alloc (zaF _ _)
   go_wp2_with fail
   go_ret
   exact ⟨a,rfl,h2,h3,h4⟩
theorem St.fail_fail (s:St) {e a e' a':Nat} (he:e≠0):(s.fail e a).fail e' a'=s.fail e a:=by
 unfold St.fail
 by_cases h:s.er=0 <;> simp [h,he]
theorem St.fail_must (s:St) {e a k:Nat} {l:List UInt8} (he:e≠0) (hk:k≠1):(s.fail e a).must k l=s.fail e a:=by
 unfold St.must
 have:(s.fail e a).is k l=false:=by
  unfold St.is
  have:(s.fail e a).t.k=1:=by unfold St.fail;split <;> rfl
  rw [this]
  have h1:((1:Nat)==k)=false:=by simp;omega
  rw [h1];rfl
 rw [this]
 exact St.fail_fail s he
theorem St.enter_deep {s:St} (h:s.op=16):s.enter=({ s with op:=s.op+1 }:St).fail 3 s.t.a:=by unfold St.enter;rw [if_pos (by omega)]
theorem zl4:zH 211:=λ_ _=>by kernel_rfl
theorem zlq:(⟨#[41]⟩:ByteArray).toList=[41]:=by decide +kernel
theorem zlw {d:Nat} {rx:Fn} (hX:zX d 161 rx) (gX:zv d rx) (S:Nat->Addr) (pb:Nat) (st:St) (p:Nat) (w:World) (bp be:Nat) (v:Value) (hI:Inv p st) (ho:18<=st.op+d) (hR:PL S w pb st) (hbp:Box w bp 199 (.pointer (some ⟨pb,0,none⟩))) (hbe:Box w be 164 v) (n1:pb<be) (n2:¬bp=pb) (n3:¬bp=be) :
 Calls Tryz.prog 211 #[.pointer (some ⟨bp,0,none⟩),.pointer (some ⟨be,0,none⟩)] w λe w'=>e=.returned (.tuple #[])/\∃a,Box w' be 164 (.pointer a)/\PL S w' pb ((rx st).1.must 4 [41])/\Hid (((rx st).1.must 4 [41]).er=0->TR w' w.heap.size (rx st).1.L (rx st).2 (.pointer a))/\Fr (λk=>k=pb∨k=be) w w':=by
 have H1:=za (hX S pb st p w hI ho hR)
 have g1:=gX st p hI ho
 have HB1:=za g1.inv.toBad
 obtain ⟨c0,cf,cz⟩:=zu hbp
 have Hbp:=za hbp
 have Hbe:=za hbe
 have hze:=ze hbe
 have hlt:=hR.lt
 clear hR hI hX hbp hbe gX g1
 generalize rx st=y at *
 go_enter Tryz.func211,Tryz.ntmps211
 go_wp2_with fail
 refine H1.out.mono ?_
 rintro e w1 ⟨a1,rfl,hL1,hT1,hF1⟩
 have hz1:=hF1.size
 have hbp1:=Hbp.out.fr hF1 n2
 have hbe1:=Hbe.out.fr hF1 (by omega)
 obtain ⟨d0,df,dz⟩:=zu hbp1
 obtain ⟨f0,ff,fz⟩:=zu hbe1
 have HL1:=za hL1
 have HF1:=za hF1
 have Hbe1:=za hbe1
 clear hL1 hF1 hbp1 hbe1
 go_wp2_with (go_at_call 130;refine (zP S pb y.1 _ [41] zlq _ HB1.out (HL1.out.setOther n1 _ _)).mono ?_;rintro e w2 ⟨rfl,hL2,hF2⟩;have HL2:=za hL2;have HF2:=za hF2;clear hL2 hF2)
 go_end0
 have hm:y.1.expM [41]=y.1.must 4 [41]:=zan HL1.out.tx (by decide)
 have hb2:Box (w1.setCell ⟨be,0,none⟩ (.pointer a1)) be 164 (.pointer a1):=zh _ _ _ _ Hbe1.out
 refine ⟨rfl,a1,hb2.fr HF2.out (by omega),hm▸HL2.out,?_,?_⟩
 · intro he
   have he1:y.1.er=0:=by
    by_cases h:y.1.er=0
    · exact h
    · exfalso
      revert he
      unfold St.must
      split
      · rw [St.step_er];exact h
      · exact λhe=>St.fail_er _ (by decide) he
   exact ((hT1.out he1).fr ((Fr.refl (·=be) w1).set1 _ _) (λk h1 _ h2=>by omega)).fr HF2.out (λk h1 _ h2=>by omega)
 · exact (HF1.out.with2 be _ _).trans (HF2.out.mono (λ_ _ h=>Or.inl h))
theorem zme {d:Nat} {rx:Fn} (hX:zX d 161 rx) (gX:zv d rx) (S:Nat->Addr) (pb:Nat) (st:St) (p:Nat) (w:World) (hI:Inv p st) (hk:2<=st.t.k) (ho:18<=st.op+(d+1)) (hR:PL S w pb st) :
 Calls Tryz.prog 208 #[.pointer (some ⟨pb,0,none⟩)] w (zaW S pb w.heap.size w (zfQ rx st).1 (zfQ rx st).2):=by
 have hlt:=hR.lt
 have hmf:∀(fn:Go.Fn) (first cap:Array Value) (w:World),(Instr.makeFunc fn first cap).run Tryz.prog w=.ok (.func fn first cap) w:=λ_ _ _ _=>rfl
 have he:=hI.toBad.er (by omega)
 have e1:=Fwd.enter hI he hk
 have hoE:18<=st.enter.op+d:=by rw [St.enter_op];omega
 have gE:=gX st.enter (p+1) e1.inv hoE
 have HD:Hid (st.op=16->((rx st.enter).1.must 4 [41]).leave=st.fail 3 st.t.a):=by
  intro h16
  have h3:st.enter.er≠0:=by unfold St.enter;rw [if_pos (by omega)];exact St.fail_er _ (by decide)
  rw [gE.er h3]
  have h4:st.enter.must 4 [41]=st.enter:=by rw [St.enter_deep h16];exact St.fail_must _ (by decide) (by decide)
  rw [h4,zd0 h16]
 show Calls _ _ _ _ (zaW S pb w.heap.size w ((rx st.enter).1.must 4 [41]).leave (rx st.enter).2)
 have HR:=za hR
 have HI:=za hI
 have HE:=za e1.inv
 have HX:=za hX
 have GX:=za gX
 have HoE:=za hoE
 have HgE:=za gE
 clear hR hI hX gX e1 gE hoE he
 go_enter Tryz.func208,Tryz.ntmps208
 go_wp2_with fail
 obtain ⟨w0,hw0⟩:∃w0,((w.alloc (.cells #[.pointer (some ⟨pb,0,none⟩)] 199)).alloc (.cells #[.pointer none] 164))=w0:=⟨_,rfl⟩
 have b0:Box w0 w.heap.size 199 (.pointer (some ⟨pb,0,none⟩)):=by
  rw [<- hw0]
  exact (Below.heap_alloc _ _ _ (by simp)).trans (zc w _)
 have b1:Box w0 (w.heap.size+1) 164 (.pointer none):=by
  rw [<- hw0]
  have:=zc (w.alloc (.cells #[.pointer (some ⟨pb,0,none⟩)] 199)) (.cells #[.pointer none] 164)
  unfold Box
  simpa using this
 have hF0:Fr (·=pb) w w0:=by rw [<- hw0];exact ((Fr.refl _ w).alloc _).alloc _
 have hL0:PL S w0 pb st:=by rw [<- hw0];exact (HR.out.alloc _).alloc _
 rw [hw0]
 refine (zdz _ _ zl4 S pb st p w0 HI.out hk hL0 (λe w'=>e=.returned (.tuple #[])/\∃a,Box w' (w.heap.size+1) 164 (.pointer a)/\zaW S pb w.heap.size w ((rx st.enter).1.must 4 [41]).leave (rx st.enter).2 (.returned (.pointer a)) w') ?_ ?_).mono ?_
 · intro hlt16 w1 hL1 hF1
   refine (zlw HX.out GX.out S pb st.enter (p+1) w1 w.heap.size (w.heap.size+1) _ HE.out HoE.out hL1 (b0.fr hF1 (by omega)) (b1.fr hF1 (by omega)) (by omega) (by omega) (by omega)).mono ?_
   rintro e w2 ⟨rfl,a2,hb2,hL2,hT2,hF2⟩
   refine ⟨rfl,(rx st.enter).1.must 4 [41],hL2,by rw [St.must_op,HgE.out.op,St.enter_op];omega,by rw [St.must_op,HgE.out.op,St.enter_op];omega,?_⟩
   intro w3 hL3 hF3
   have hFw:Fr (·=pb) w w3:=(Fr.drop2 (hF0.trans hF1) hF2 (by omega)).trans hF3
   have hz1:w0.heap.size<=w1.heap.size:=hF1.size
   have hz0:w.heap.size<=w0.heap.size:=hF0.size
   refine ⟨rfl,a2,hb2.fr hF3 (by omega),a2,rfl,hL3,?_,hFw⟩
   intro he'
   have t2:=hT2.out he'
   have hLL:((rx st.enter).1.must 4 [41]).leave.L=(rx st.enter).1.L:=St.must_L _ _ _
   rw [hLL]
   exact (t2.fr hF3 (λk h1 _ h2=>by omega)).down (by omega)
 · intro h16 w3 hL3 hF3
   rw [HD.out h16]
   exact ⟨rfl,none,b1.fr hF3 (by omega),none,rfl,hL3,λhe'=>absurd he' (St.fail_er st (by decide)),hF0.trans hF3⟩
 · rintro e w4 ⟨rfl,a4,hb4,hQ⟩
   obtain ⟨f0,ff,fz⟩:=zu hb4
   have HQ:=za hQ
   clear hQ hb4 b0 b1 hF0 hL0 hw0
   go_wp2_with fail
   go_ret
   exact HQ.out
theorem znA:zH 174:=λ_ _=>by kernel_rfl
theorem zo8:(⟨#[102,98,121]⟩:ByteArray).toList=[102,98,121]:=by decide +kernel
theorem zmP {d:Nat} {rx:Fn} (hX:zX d 161 rx) (S:Nat->Addr) (pb:Nat) (st:St) (p:Nat) (w:World) (bf bp be eb:Nat) (a0:Option Addr) (v0 v1 v2 v3 v4 v5:Value) (hI:Inv p st) (ho:18<=st.op+d) (hR:PL S w pb st) (hbf:Box w bf 164 (.pointer a0)) (hbp:Box w bp 199 (.pointer (some ⟨pb,0,none⟩))) (hbe:Box w be 164 (.pointer (some ⟨eb,0,none⟩))) (heb:w.heap[eb]?=some (.cells #[v0,v1,v2,v3,v4,v5] 216 (0,0))) (n0:¬bf=pb) (n1:¬be=pb) (n3:pb<eb) :
 Calls Tryz.prog 174 #[.pointer (some ⟨bf,0,none⟩),.pointer (some ⟨bp,0,none⟩),.pointer (some ⟨be,0,none⟩)] w λe w'=>e=.returned (.tuple #[])/\∃a g,PL S w' pb (rx st).1/\Hid ((rx st).1.er=0->TR w' w.heap.size (rx st).1.L (rx st).2 (.pointer a)) /\
  w'.heap[eb]?=some (.cells #[v0,v1,v2,v3,v4,.slice (some ⟨g,0,none⟩) 2 2] 216 (0,0))/\w'.heap[g]?=some (.cells #[.pointer a0,.pointer a] 164 (0,0))/\w.heap.size<=g/\Fr (λk=>k=pb∨k=eb) w w':=by
 have n2:¬eb=pb:=by omega
 have HU:=za (λw1 h1=>hX S pb st p w1 hI ho h1)
 obtain ⟨g0,gf,gz⟩:=zu hbf
 obtain ⟨c0,cf,cz⟩:=zu hbp
 obtain ⟨e0,ef,ez⟩:=zu hbe
 have HR:=za hR
 have Hbe:=za hbe
 have Hbf:=za hbf
 have Heb:=za heb
 have hzb:=ze heb
 have hlt:=hR.lt
 clear hR hI hX hbp hbe heb hbf
 generalize rx st=y at *
 go_enter Tryz.func174,Tryz.ntmps174
 go_region_with (go_at_call 161;refine (HU.out _ HR.out.drew).mono ?_;rintro e w1 ⟨a1,rfl,hL1,hT1,hF1'⟩;have hF1:Fr (·=pb) w w1:=hF1'.undrew;have hz1:=hF1.size;have heb1:=(hF1.block eb hzb n2).trans Heb.out;obtain ⟨d0,d1,d2,d3,d4,d5,df,dz⟩:=zt heb1;obtain ⟨f0,ff,fz⟩:=zu (Hbe.out.fr hF1 n1);obtain ⟨i0,if',iz⟩:=zu (Hbf.out.fr hF1 n0);have HL1:=za hL1;have HF1:=za hF1;have Heb1:=za heb1;have hlt1:=hL1.lt;clear hL1 hF1 heb1 hF1')
 all_goals go_wp2_with fail
 all_goals go_end0
 all_goals
  have hk5:(w1.setCell ⟨eb,5,none⟩ (.slice (some ⟨w1.heap.size,0,none⟩) 2 2)).heap.size=w1.heap.size:=by simp [World.setCell]
  refine ⟨rfl,a1,w1.heap.size,?_,?_,?_,?_,hz1,?_⟩
  · exact (HL1.out.setOther n3 _ _).alloc _
  · exact λhe=>(hT1.out he).fr (((Fr.refl (·=eb) w1).set1 _ _).alloc _) (λk h1 _ h2=>by have h1':w.heap.size<=k:=h1;omega)
  · exact (Below.heap_alloc _ _ _ (by rw [hk5];exact dz)).trans (zh _ _ _ _ Heb1.out)
  · have:=zc (w1.setCell ⟨eb,5,none⟩ (.slice (some ⟨w1.heap.size,0,none⟩) 2 2)) (.cells #[.pointer a0,.pointer a1] 164)
    rw [hk5] at this
    exact this
  · exact (HF1.out.with2 eb _ _).alloc _
theorem zrL:zag zgW.toList 0=9:=by decide +kernel
theorem zoz {d:Nat} {rx eith:Fn} (hX:zX d 161 rx) (gX:zv d rx) (hE:zX (d+1) 172 eith) (gE:zv (d+1) eith):zX (d+1) 161 (zgk rx eith):=by
 intro S pb st p w hI ho hR
 have hlt:=hR.lt
 have hmf:∀(fn:Go.Fn) (first cap:Array Value) (w:World),(Instr.makeFunc fn first cap).run Tryz.prog w=.ok (.func fn first cap) w:=λ_ _ _ _=>rfl
 have g1:=gE st p hI ho
 have H1:=za (hE S pb st p (w.alloc (.cells #[.pointer (some ⟨pb,0,none⟩)] 199)) hI ho (hR.alloc _))
 have hM:zgk rx eith st=if (eith st).1.er=0/\(eith st).1.is 5 [102,98,121]=true then (rx (eith st).1.enter).1.leave.put ⟨zgW,(eith st).1.t.a,0,[(eith st).2,(rx (eith st).1.enter).2],sE,0⟩ else eith st:=rfl
 have G1:=za g1.inv
 have O1:Hid (18<=(eith st).1.op+(d+1)):=by unfold Hid;rw [g1.op];exact ho
 have HX:=za hX
 have GX:=za gX
 clear hR hI g1 hE gE hX gX
 generalize eith st=x at *
 cases hc:x.1.is 5 [102,98,121] with
 | false =>
   rw [hM,if_neg (by rw [hc];simp)]
   have Hc:=za hc
   clear hM hc
   go_enter Tryz.func161,Tryz.ntmps161
   go_wp2_with fail
   refine H1.out.mono ?_
   rintro e w1 h1
   obtain ⟨a0,e0,_,_,hFa⟩:=id h1
   have hz1:=hFa.size
   have hz1':w.heap.size<w1.heap.size:=by simp at hz1;omega
   have hb0:Box w1 w.heap.size 199 (.pointer (some ⟨pb,0,none⟩)):=(hFa.block _ (by simp) (by omega)).trans (zc w _)
   obtain ⟨p0,pf,pz⟩:=zu hb0
   clear hFa e0 hb0
   obtain ⟨a1,rfl,hL1,hT1,hF1⟩:=h1.alloc (zaF _ _)
   have HA:=za (zaP S pb x.1 ⟨#[102,98,121]⟩ _ zo8 (w1.alloc (.cells #[.pointer a1] 164)) G1.out.ok.tk (hL1.alloc _))
   rw [zar hL1.tx (by decide),Hc.out] at HA
   have HL1:=za hL1
   have HF1:=za hF1
   have hlt1:=hL1.lt
   clear hL1 hF1 h1
   go_wp2_with (go_at_call 92;refine HA.out.mono ?_;rintro e w' ⟨rfl,rfl⟩)
   go_ret
   exact ⟨a1,rfl,HL1.out.alloc _,λhe=>(hT1.out he).fr ((Fr.refl (·=pb) w1).alloc _) (λk _ _ _=>by omega),HF1.out.alloc _⟩
 | true =>
   have hk5:x.1.t.k=5:=Inv.is_k hc
   have he:=G1.out.toBad.er (by omega)
   rw [hM,if_pos ⟨he,hc⟩]
   have e1:=Fwd.enter G1.out he (by omega:2<=x.1.t.k)
   have hoE:18<=x.1.enter.op+d:=by rw [St.enter_op];have:=O1.out;omega
   have gE2:=GX.out x.1.enter (p+1) e1.inv hoE
   obtain ⟨E,hEL⟩:=gE2.L
   rw [St.enter_L] at hEL
   have HEL:=za hEL
   have HEr:=za (λ(h:(rx x.1.enter).1.er=0)=>(show x.1.er=0 from he))
   have HD:=za (λh16=>zjz GX.out G1.out he (by omega:2<=x.1.t.k) O1.out h16)
   have HgO:=za gE2.op
   have HE:=za e1.inv
   have HoE:=za hoE
   have Hc:=za hc
   have Hk5:=za hk5
   clear hM hc he e1 gE2 hoE hEL hk5
   go_enter Tryz.func161,Tryz.ntmps161
   go_wp2_with fail
   refine H1.out.mono ?_
   rintro e w1 ⟨a1,rfl,hL1,hT1,hF1⟩
   have hz1:=hF1.size
   have hz1':w.heap.size<w1.heap.size:=by simp at hz1;omega
   have hz2':w.heap.size<w1.heap.size+1:=by omega
   have hz3':w.heap.size<w1.heap.size+1+1:=by omega
   have hb0:Box w1 w.heap.size 199 (.pointer (some ⟨pb,0,none⟩)):=(hF1.block _ (by simp) (by omega)).trans (zc w _)
   obtain ⟨p0,pf,pz⟩:=zu hb0
   have HA:=za (zaP S pb x.1 ⟨#[102,98,121]⟩ _ zo8 (w1.alloc (.cells #[.pointer a1] 164)) G1.out.ok.tk (hL1.alloc _))
   rw [zar hL1.tx (by decide),Hc.out] at HA
   have HL1:=za hL1
   have HF1:=za hF1
   have Hb0:=za hb0
   have hlt1:=hL1.lt
   clear hL1 hF1 hb0
   go_wp2_with (first|(go_at_call 92;refine HA.out.mono ?_;rintro e w' ⟨rfl,rfl⟩)|(go_at_call 173;refine (zb8 S pb x.1 9 _ (HL1.out.alloc _)).mono ?_;rintro e w' ⟨rfl,rfl⟩))
   obtain ⟨w0,hw0⟩:∃w0,(((w1.alloc (.cells #[.pointer a1] 164)).alloc (.cells #[.int .i64 9,.int .i64 x.1.t.a,.string ⟨#[]⟩,.int .i64 0,.int .i64 0,.slice none 0 0] 216)).alloc (.cells #[.pointer (some ⟨w1.heap.size+1,0,none⟩)] 164))=w0:=⟨_,rfl⟩
   have b0:Box w0 w.heap.size 199 (.pointer (some ⟨pb,0,none⟩)):=by
    rw [<- hw0]
    exact (Below.heap_alloc _ _ _ (by simp;omega)).trans ((Below.heap_alloc _ _ _ (by simp;omega)).trans ((Below.heap_alloc _ _ _ hz1').trans Hb0.out))
   have b1:Box w0 w1.heap.size 164 (.pointer a1):=by
    rw [<- hw0]
    exact (Below.heap_alloc _ _ _ (by simp;omega)).trans ((Below.heap_alloc _ _ _ (by simp)).trans (zc w1 _))
   have b2:w0.heap[w1.heap.size+1]?=some (.cells #[.int .i64 9,.int .i64 x.1.t.a,.string ⟨#[]⟩,.int .i64 0,.int .i64 0,.slice none 0 0] 216 (0,0)):=by
    rw [<- hw0]
    refine (Below.heap_alloc _ _ _ (by simp)).trans ?_
    have:=zc (w1.alloc (.cells #[.pointer a1] 164)) (.cells #[.int .i64 9,.int .i64 x.1.t.a,.string ⟨#[]⟩,.int .i64 0,.int .i64 0,.slice none 0 0] 216)
    simpa using this
   have b3:Box w0 (w1.heap.size+1+1) 164 (.pointer (some ⟨w1.heap.size+1,0,none⟩)):=by
    rw [<- hw0]
    have:=zc ((w1.alloc (.cells #[.pointer a1] 164)).alloc (.cells #[.int .i64 9,.int .i64 x.1.t.a,.string ⟨#[]⟩,.int .i64 0,.int .i64 0,.slice none 0 0] 216)) (.cells #[.pointer (some ⟨w1.heap.size+1,0,none⟩)] 164)
    unfold Box
    simpa using this
   have hF01:Fr (·=pb) w1 w0:=by rw [<- hw0];exact (((Fr.refl _ w1).alloc _).alloc _).alloc _
   have hF0:Fr (·=pb) w w0:=(((Fr.refl _ w).alloc _).trans HF1.out).trans hF01
   have hL0:PL S w0 pb x.1:=by rw [<- hw0];exact ((HL1.out.alloc _).alloc _).alloc _
   rw [hw0]
   refine (zdz _ _ znA S pb x.1 p w0 G1.out (by rw [Hk5.out];decide) hL0 (λe w'=>e=.returned (.tuple #[])/\Box w' (w1.heap.size+1+1) 164 (.pointer (some ⟨w1.heap.size+1,0,none⟩))/\zaW S pb w.heap.size w ((rx x.1.enter).1.leave.put ⟨zgW,x.1.t.a,0,[x.2,(rx x.1.enter).2],sE,0⟩).1 ((rx x.1.enter).1.leave.put ⟨zgW,x.1.t.a,0,[x.2,(rx x.1.enter).2],sE,0⟩).2 (.returned (.pointer (some ⟨w1.heap.size+1,0,none⟩))) w') ?_ ?_).mono ?_
   · intro hlt16 w2 hL2 hF2
     refine (zmP HX.out S pb x.1.enter (p+1) w2 w1.heap.size w.heap.size (w1.heap.size+1+1) (w1.heap.size+1) a1 _ _ _ _ _ _ HE.out HoE.out hL2 (b1.fr hF2 (by omega)) (b0.fr hF2 (by omega)) (b3.fr hF2 (by omega)) ((hF2.block _ (ze b2) (by omega)).trans b2) (by omega) (by omega) (by omega)).mono ?_
     rintro e w3 ⟨rfl,a3,g,hL3,hT3,hb3,hg3,hzg,hF3⟩
     refine ⟨rfl,(rx x.1.enter).1,hL3,by rw [HgO.out,St.enter_op];omega,by rw [HgO.out,St.enter_op];omega,?_⟩
     intro w4 hL4 hF4
     have hFw:Fr (·=pb) w w4:=(Fr.drop2 (hF0.trans hF2) hF3 (by omega)).trans hF4
     have hFw1:Fr (·=pb) w1 w4:=(Fr.drop2 (hF01.trans hF2) hF3 (by omega)).trans hF4
     have hz02:w0.heap.size<=w2.heap.size:=hF2.size
     have hz01:w1.heap.size<=w0.heap.size:=hF01.size
     refine ⟨rfl,Box.fr (Fr.keep2 hF3 (b3.fr hF2 (by omega)) (by omega) (by omega)) hF4 (by omega),_,rfl,hL4.put _,?_,hFw⟩
     intro he'
     have t3:=hT3.out he'
     have t1:=hT1.out (HEr.out he')
     refine TR.two (y:=x.2) (z:=(rx x.1.enter).2) (g:=g) (u:=.pointer a1) (v:=.pointer a3) (by omega) (by omega) ?_ ((hF4.block g (ze hg3) (by omega)).trans hg3) rfl ?_ ?_
     · show _=some (Obj.cells #[.int .i64 (zag zgW.toList 0:Nat),.int .i64 x.1.t.a,.string ⟨#[]⟩,.int .i64 (0:Nat),.int .i64 (zbF zgW.toList 0:Nat),.slice (some ⟨g,0,none⟩) 2 2] 216 (0,0))
       rw [zrL,zbK]
       exact (hF4.block _ (ze hb3) (by omega)).trans hb3
     · show TR w4 w.heap.size (rx x.1.enter).1.L x.2 (.pointer a1)
       rw [HEL.out]
       exact ((t1.down (zaF _ _)).fr hFw1 (λk h1 _ h2=>by omega)).more E
     · exact (t3.fr hF4 (λk h1 _ h2=>by omega)).down (by omega)
   · intro h16 w3 hL3 hF3
     rw [HD.out h16]
     exact ⟨rfl,b3.fr hF3 (by omega),_,rfl,hL3.put _,λhe'=>absurd he' (St.fail_er x.1 (by decide)),hF0.trans hF3⟩
   · rintro e w4 ⟨rfl,hb4,hQ⟩
     obtain ⟨f0,ff,fz⟩:=zu hb4
     have HQ:=za hQ
     clear hQ hb4 b0 b1 b2 b3 hF0 hF01 hL0 hw0
     go_wp2_with fail
     go_ret
     exact HQ.out
theorem TR.leaf {w:World} {B:Nat} {L:List Ex} {ex:Ex} {b:Nat} (hB:B<=b)
 (hb:w.heap[b]?=some (.cells #[.int .i64 (zag ex.op.toList ex.n:Nat),.int .i64 ex.a,.string ex.s,.int .i64 ex.nm,.int .i64 (zbF ex.op.toList ex.n:Nat),.slice none 0 0] 216 (0,0)))
 (hi:ex.ins=[]):TR w B (L++[ex]) L.length (.pointer (some ⟨b,0,none⟩)):=by
 refine TR.mk L.length ex b _ [] (by simp) hB hb (World.ownsRow_nil _ _ _ _) (by simp [hi]) ?_
 intro i s t hs _
 rw [hi] at hs
 simp at hs
theorem zoZ:zag zfR.toList 0=3:=by decide +kernel
theorem zfU (s:ByteArray) (a:Nat) (w:World):Calls Tryz.prog 207 #[.agg #[.string s,.int .i64 a]] w λe w'=>e=.returned (.pointer (some ⟨w.heap.size+1,0,none⟩))/\Below w.heap.size w w'/\w'.heap[w.heap.size+1]?=some (.cells #[.int .i64 3,.int .i64 a,.string s,.int .i64 a,.int .i64 0,.slice none 0 0] 216 (0,0)):=by
 go_enter Tryz.func207,Tryz.ntmps207
 go_wp2
 go_ret
 refine ⟨rfl,((Below.refl _ _).alloc (Nat.le_refl _) _).alloc (by simp) _,?_⟩
 have:=zc (w.alloc (.cells #[.string s,.int .i64 a] 93)) (.cells #[.int .i64 3,.int .i64 a,.string s,.int .i64 a,.int .i64 0,.slice none 0 0] 216)
 simpa using this
def ziL (d:Nat) (M:Fn):Prop:=∀(S:Nat->Addr) (pb:Nat) (st:St) (p:Nat) (w:World),Inv p st->st.t.k≠2->18<=st.op+d->PL S w pb st ->
 Calls Tryz.prog 206 #[.pointer (some ⟨pb,0,none⟩)] w (zaW S pb w.heap.size w (M st).1 (M st).2)
def zdI (d:Nat) (rx:Fn):Prop:=∀(S:Nat->Addr) (pb:Nat) (st:St) (p:Nat) (w:World) (t:Tk),Inv p st->18<=st.op+d->1<=st.t.a->PL S w pb st ->
 Calls Tryz.prog 160 #[.pointer (some ⟨pb,0,none⟩),.agg #[.string t.s,.int .i64 t.a]] w (zaW S pb w.heap.size w (zao rx t st).1 (zao rx t st).2)
theorem zhL {t:Tk}:(((ck t:Nat):Int) != 3)=!(t.k==2):=by
 by_cases h:t.k=2
 · simp [ck,h]
 · have:ck t≠3:=by unfold ck;(repeat' split) <;> first|decide|(exfalso;omega)
   have h2:(t.k==2)=false:=by simp [h]
   rw [h2];simp;omega
theorem zkE {st:St} (hk:st.t.k=2):st.name=st.step:=by unfold St.name;rw [if_pos hk]
theorem zgJ {st:St} (hk:st.t.k=2):zcc st=.agg #[.string st.t.s,.int .i64 st.t.a]:=by unfold zcc;rw [if_pos hk]
theorem znY {d:Nat} {atm:Fn} (hU:ziL d atm):zX d 214 (zch atm):=by
 intro S pb st p w hI ho hR
 obtain ⟨q0,q1,q2,q3,q4,q5,q6⟩:=hR.cells
 have hck:=zhL (t:=st.t)
 have hlt:=hR.lt
 by_cases hk:st.t.k=2
 · have he:=hI.toBad.er (by omega)
   have hM:zch atm st=zjx st:=by unfold zch;rw [if_neg (by omega)]
   rw [hM]
   have hk2:(st.t.k==2)=true:=by simp [hk]
   rw [hk2] at hck
   have HN:=za (zaZ S pb st w hI.toBad hR)
   rw [zkE hk,zgJ hk] at HN
   clear hR hI hU hM hk hk2 he
   go_enter Tryz.func214,Tryz.ntmps214
   go_wp2_with (first|(go_at_call 207;refine (zfU _ _ _).mono ?_;rintro e w2 ⟨rfl,hb2,hh2⟩;have Hb2:=za hb2;have Hh2:=za hh2;clear hb2 hh2)|(go_at_call 131;refine HN.out.mono ?_;rintro e w1 ⟨rfl,hL1,hF1⟩;have HL1:=za hL1;have HF1:=za hF1;clear hL1 hF1))
   go_ret
   have hz1:=HF1.out.size
   refine ⟨_,rfl,(HL1.out.below Hb2.out).put _,λ_=>TR.leaf (ex:=⟨zfR,st.t.a,st.t.a,[],st.t.s,0⟩) (by omega) ?_ rfl,HF1.out.belowed Hb2.out⟩
   show _=some (Obj.cells #[.int .i64 (zag zfR.toList 0:Nat),.int .i64 st.t.a,.string st.t.s,.int .i64 st.t.a,.int .i64 (zbF zfR.toList 0:Nat),.slice none 0 0] 216 (0,0))
   rw [zoZ,zbK]
   exact Hh2.out
 · have hM:zch atm st=atm st:=by unfold zch;rw [if_pos (Or.inr hk)]
   rw [hM]
   have hk2:(st.t.k==2)=false:=by simp [hk]
   rw [hk2] at hck
   have H1:=za (hU S pb st p w hI hk ho hR)
   clear hR hI hU hM hk hk2
   generalize atm st=R at *
   go_enter Tryz.func214,Tryz.ntmps214
   go_wp2_with (go_at_call 206;refine H1.out.mono ?_;rintro e w1 ⟨a1,rfl,h2,h3,h4⟩;have H2:=za h2;have H4:=za h4;clear h2 h4)
   go_ret
   exact ⟨a1,rfl,H2.out,h3,H4.out⟩
theorem zfn:(⟨#[40]⟩:ByteArray).toList=[40]:=by decide +kernel
theorem znf {d:Nat} {rx ra:Fn} (hU:ziL (d+1) (zap rx ra)) (hK:zdI (d+1) rx):zX (d+1) 205 (zap rx ra):=by
 intro S pb st p w hI ho hR
 obtain ⟨q0,q1,q2,q3,q4,q5,q6⟩:=hR.cells
 have hck:=zhL (t:=st.t)
 have hlt:=hR.lt
 by_cases hk:st.t.k=2
 · have he:=hI.toBad.er (by omega)
   have hM:zap rx ra st=if st.step.is 4 [40]=true then zao rx st.t st.step else zjx st:=by unfold zap;rw [if_neg (by simp [he]),if_neg (by omega),if_pos hk]
   rw [hM]
   have hk2:(st.t.k==2)=true:=by simp [hk]
   rw [hk2] at hck
   have e1:=Fwd.use hI he (by omega:2<=st.t.k)
   have hta:1<=st.step.t.a:=by
    have h1:=hI.tok (by omega)
    have h2:=zV st.src st.t.t hI.ok.tt
    rw [St.step_ok he];simp only;omega
   have HN:=za (zaZ S pb st w hI.toBad hR)
   rw [zkE hk,zgJ hk] at HN
   have HB1:=za e1.inv.toBad
   cases hc:st.step.is 4 [40] with
   | true =>
     rw [if_pos rfl]
     have HK:=za (λw1 h1=>hK S pb st.step (p+1) w1 st.t e1.inv (by rw [St.step_op];exact ho) hta h1)
     have Hc:=za hc
     clear hR hI hU hM hk hk2 he e1 hta hc hK
     generalize zao rx st.t st.step=R at *
     go_enter Tryz.func205,Tryz.ntmps205
     go_wp2_with (go_at_call 131;refine HN.out.mono ?_;rintro e w1 ⟨rfl,hL1,hF1⟩;have HL1:=za hL1;have HF1:=za hF1;have hz1:=hF1.size;have hlt1:=hL1.lt;have HA:=za (zaP S pb st.step ⟨#[40]⟩ _ zfn (w1.alloc (.cells #[.string st.t.s,.int .i64 st.t.a] 93)) HB1.out.ok.tk (hL1.alloc _));rw [zaB hL1.tx (by decide),Hc.out] at HA;clear hL1 hF1)
     go_wp2_with (first|(go_at_call 92;refine HA.out.mono ?_;rintro e w' ⟨rfl,rfl⟩)|(go_at_call 160;refine (HK.out _ (HL1.out.alloc _)).mono ?_;rintro e w2 h2;obtain ⟨a2,rfl,k2,k3,k4⟩:=h2.alloc (zaF _ _);have K2:=za k2;have K4:=za k4;clear k2 k4 h2))
     go_ret
     exact ⟨a2,rfl,K2.out,λhe=>(k3.out he).down hz1,HF1.out.trans K4.out⟩
   | false =>
     rw [if_neg (by simp)]
     have Hc:=za hc
     clear hR hI hU hM hk hk2 he e1 hta hc hK
     go_enter Tryz.func205,Tryz.ntmps205
     go_wp2_with (go_at_call 131;refine HN.out.mono ?_;rintro e w1 ⟨rfl,hL1,hF1⟩;have HL1:=za hL1;have HF1:=za hF1;have hz1:=hF1.size;have hlt1:=hL1.lt;have HA:=za (zaP S pb st.step ⟨#[40]⟩ _ zfn (w1.alloc (.cells #[.string st.t.s,.int .i64 st.t.a] 93)) HB1.out.ok.tk (hL1.alloc _));rw [zaB hL1.tx (by decide),Hc.out] at HA;clear hL1 hF1)
     go_wp2_with (first|(go_at_call 92;refine HA.out.mono ?_;rintro e w' ⟨rfl,rfl⟩)|(go_at_call 207;refine (zfU _ _ _).mono ?_;rintro e w2 ⟨rfl,hb2,hh2⟩;have Hb2:=za hb2;have Hh2:=za hh2;clear hb2 hh2))
     go_ret
     have hh:=Hh2.out
     simp only [zsb] at hh
     refine ⟨some ⟨w1.heap.size+1+1,0,none⟩,rfl,((HL1.out.alloc _).below Hb2.out).put _,λ_=>TR.leaf (b:=w1.heap.size+1+1) (ex:=⟨zfR,st.t.a,st.t.a,[],st.t.s,0⟩) (by omega) ?_ rfl,(HF1.out.alloc _).belowed Hb2.out⟩
     show _=some (Obj.cells #[.int .i64 (zag zfR.toList 0:Nat),.int .i64 st.t.a,.string st.t.s,.int .i64 st.t.a,.int .i64 (zbF zfR.toList 0:Nat),.slice none 0 0] 216 (0,0))
     rw [zoZ,zbK]
     exact hh
 · have hk2:(st.t.k==2)=false:=by simp [hk]
   rw [hk2] at hck
   have H1:=za (hU S pb st p w hI hk ho hR)
   clear hR hI hU hk hk2 hK
   generalize zap rx ra st=R at *
   go_enter Tryz.func205,Tryz.ntmps205
   go_wp2_with (go_at_call 206;refine H1.out.mono ?_;rintro e w1 ⟨a1,rfl,h2,h3,h4⟩;have H2:=za h2;have H4:=za h4;clear h2 h4)
   go_ret
   exact ⟨a1,rfl,H2.out,h3,H4.out⟩
theorem zpZ (st:St) (_hk:st.t.k<=5) (hT:Tx st.src st.t):opM st [7,8]=if zdi st=true then some (zag st.t.s.toList 0) else none:=by
 obtain ⟨e7,e8,_⟩:=wdl
 simp only [opM,e7,e8]
 rw [zar hT (by decide),zar hT (by decide)]
 unfold zdi
 by_cases h1:st.is 5 [119,104,101,110]=true
 · have:st.t.s.toList=[119,104,101,110]:=by unfold St.is at h1;simp at h1;exact h1.2
   rw [h1,this,Bool.true_or,if_pos rfl,if_pos rfl];decide
 · by_cases h2:st.is 5 [119,104,101,110,111,116]=true
   · have:st.t.s.toList=[119,104,101,110,111,116]:=by unfold St.is at h2;simp at h2;exact h2.2
     have h1':st.is 5 [119,104,101,110]=false:=by simpa using h1
     rw [h1',h2,this];decide
   · simp [h1,h2]
end
end Go.Proofs.YtedmpgjebafcjaaGreatDoor
