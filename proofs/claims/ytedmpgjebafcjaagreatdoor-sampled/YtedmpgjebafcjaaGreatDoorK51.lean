/- Sampled holds: for every input the law returns true, and what was handed in reads behind the call as it read before; the package-level variables hold at the beginning what the program's own text lays into them (the card ties that). -/
import Derived.SevenTiedAt
import Derived.Stop.Joined
import Derived.Test.YtedmpgjebafcjaaGreatDoorCards
import Derived.Test.YtedmpgjebafcjaaGreatDoorTie
import Derived.Test.YtedmpgjebafcjaaGreatDoorK50
set_option maxRecDepth 100000
set_option maxHeartbeats 8000000
namespace Go.Proofs.YtedmpgjebafcjaaGreatDoor
section
open Go.ChangeShapes Go.WideShapes Go.ChangeAt Go.RowKit
theorem Tryz.gTab:Tryz.prog.globalNamed "math/bits.deBruijn64tab"=some 20:=by kernel_rfl
theorem Tryz.tTab:(Tryz.prog.globals[20]?).map (·.type)=some 314:=by kernel_rfl
theorem Tryz.cTab:Tryz.prog.cellsOf 314=64:=by kernel_rfl
theorem Tryz.cellsU8:Tryz.prog.cellsOf 5=1:=by kernel_rfl
theorem zp6 {W:World} (h0:laidMetH Tryz.prog Rows.sampledRow.laid W):21<=W.heap.size:=by
 obtain ⟨v,_,_,h1,_⟩:=zjE (zig h0) (k:=2) rfl Tryz.gTab Tryz.tTab Tryz.underlying314 Tryz.cellsU8 Tryz.cTab 0 (by decide)
 exact World.block_lt_of_cell? W ⟨20,0,none⟩ h1
theorem zhO (os:Go.Os) (started:os.Started) (H:Type) (enc:TypeId×Value->H) :
 ReturnsInHanded {} Tryz.checked os 3 .any (λw args=>(Rows.sampledSpec.pre enc Tryz.prog Tryz.f3 [] false w args/\laidMetH Tryz.prog Rows.sampledRow.laid w)/\sizedMet enc Tryz.prog Tryz.f3 (OpenSpec.ofChange Rows.sampledSpec) false w args)
  (Rows.sampledSpec.post enc Tryz.prog Tryz.f3 false true false false):=by
 refine returnsInHanded_of_change_and (C:=Tryz.checked) (X:=λw _=>laidMetH Tryz.prog Rows.sampledRow.laid w) (λ_ _ _ hh h=>h.of_heap hh) Tryz.own started (by kernel_rfl) Tryz.func3
  (ChangeSpec.witness_shaped (enc:=enc) (C:=Tryz.checked) (os:=os) (X:=λw _=>laidMetH Tryz.prog Rows.sampledRow.laid w) false (World.doorLaid Tryz.prog 314 os) #[.slice none 0 0,.slice none 0 0] 8 rfl (World.shaped_of_RefB (by kernel_rfl) (by kernel_rfl)) (by kernel_rfl) (by kernel_rfl) (by kernel_rfl) (znF os _)) ?_
 intro W base args ds gs before hval0 hW _ _ hL _
 have hval:∀(j:Nat) t v,Tryz.f3.params[j]?=some t->args[j]?=some v->Value.okWide Tryz.prog W .any base t v:=hval0
 have hW':=hW
 obtain ⟨p,q,hA0,hV,rfl,_,_⟩:=hW
 have hA:DataW.TrodAll enc Tryz.prog W 0 (λ_=>true) true Tryz.f3.params.toList args.toList ds p:=hA0
 rw [Tryz.params3] at hA hval
 obtain ⟨v0,v1,d0,d1,p0,p1,rfl,rfl,rfl,h0,h1⟩:=trodAll_two hA
 obtain ⟨rfl,rfl⟩:=trodVars_none hV
 obtain ⟨a0,len0,cap0,rfl⟩:=okWide_slice Tryz.underlying22 (hval 0 22 v0 rfl rfl)
 obtain ⟨a1,len1,cap1,rfl⟩:=okWide_slice Tryz.underlying22 (hval 1 22 v1 rfl rfl)
 clear hA0 hval0
 simp only [List.append_nil] at hW'
 have hlt:∀x∈p0++p1,x.block<W.heap.size:=λx hx=>by simpa using hW'.lt x (by simpa using hx)
 have hargs0:∀(W':World),Below W.heap.size W W'->DataW.Trod enc Tryz.prog W' 0 (λb=>decide (b<W.heap.size)) true 22 (.slice a0 len0 cap0) d0 p0 :=
  λW' hn=>Below.trod Tryz.laidOut (by kernel_rfl) (of_decide_eq_true (by kernel_rfl)) h0 hn (λx hx=>hlt x (by simp [hx]))
 have hargs1:∀(W':World),Below W.heap.size W W'->DataW.Trod enc Tryz.prog W' 0 (λb=>decide (b<W.heap.size)) true 22 (.slice a1 len1 cap1) d1 p1 :=
  λW' hn=>Below.trod Tryz.laidOut (by kernel_rfl) (of_decide_eq_true (by kernel_rfl)) h1 hn (λx hx=>hlt x (by simp [hx]))
 obtain ⟨f0,hf0⟩:=h0
 obtain ⟨f1,hf1⟩:=h1
 obtain ⟨l0,hA0⟩:=zo3 hf0 (λx hx=>hlt x (by simp [hx]))
 obtain ⟨l1,hA1⟩:=zo3 hf1 (λx hx=>hlt x (by simp [hx]))
 have hz:21<=W.heap.size:=zp6 hL
 obtain ⟨⟨S,hG⟩,hop,hS⟩:=zoe hL hz
 refine (zpx S _ _ l0 l1 W hG hop hS hA0 hA1).mono λe W' ⟨he,hnx⟩=>?_
 subst he
 refine ⟨_,rfl,_,_,_,[],(p0++p1),[],hW',?_,?_,rfl,hnx.frame _,λh=>by cases h⟩
 · exact trodAll_mk1 (shut_bool Tryz.underlying4 true)
 · exact trodAll_mk2 (hargs0 _ hnx) (hargs1 _ hnx)
theorem zae {a b:Bool} (h1:a=true) (h2:b=true):(a&&b)=true:=by rw [h1,h2];rfl
theorem ziy:joinedFacts Tryz.prog 3 Tryz.f3 Rows.sampledSpec Rows.sampledRow=true:=by
 unfold joinedFacts
 exact (zae (zae (zae (zae (zae (zae (zae (zae (zae (zae (zae (zae (zae (zae (zae (zae (zae (zae (zae (zae (zae (zae (zae (zae (zae (zae (zae (zae (zae (zae (zae jf0 Tryz.laidOut) Tryz.mapsR) jf3) jf4) jf5) jf6) jf7) jf8) jf9) zrD) zrE) zrM) zrQ) zrT) zrF) zr3) zrP) zrG) zr2) zrX) zrV) zrZ) zrK) Tryz.heard) Tryz.enter) zr1) zrC) zr4) zrU) zrI) zrO)
theorem zjq:Tryz.f3.isInstance Tryz.prog Rows.sampledRow.origin Rows.sampledRow.targs:=of_decide_eq_true (by kernel_rfl)
theorem zi4:Tryz.f3.isWrapper Tryz.prog Rows.sampledRow.wrapper Rows.sampledRow.mainSum:=by unfold Func.isWrapper;first|(rw [if_pos (by decide +kernel)];kernel_rfl)|(rw [if_neg (by decide +kernel)];exact ⟨rfl,rfl⟩)
theorem zfE:Tryz.prog.funcNamed "cadence/cadencekeep.Sampled"=some 3:=by kernel_rfl
theorem zjP:Rows.SampledSaid :=
 OpenClaim.holds_of_wide (p:=Tryz.pinned) (s:=Rows.sampledSpec) (c:=Rows.sampledRow) 3 Tryz.f3 rfl rfl rfl rfl rfl rfl rfl ⟨rfl,rfl,rfl,rfl,rfl⟩ rfl rfl rfl rfl rfl zfE Tryz.func3 ziy zjq zi4
  (λos started H enc _=>zhO os started H enc)
theorem zk4:Rows.sampledRow.wfByText (OpenSpec.ofChange Rows.sampledSpec)=true:=by kernel_rfl
theorem Tryz.main:Tryz.prog.mainIs=some (true,"85ebeb2ff86fcff32053cbf37fc533cace43c5bf82507a6d735a71fa134da4dc".toList):=by kernel_rfl
theorem Tryz.looked:true=Tryz.prog.looks []:=by kernel_rfl
theorem Tryz.noStand:Tryz.prog.wantsStandIn 22=false:=by kernel_rfl
theorem zi1:false=Rows.sampledRow.goesBy Tryz.prog:=by kernel_rfl
theorem sampled_holds:Rows.SampledCardSaid :=
 Claim7.holds_tied_plain_at .later [] [.data,.data,.data,.data,.handle,.sentinel,.sentinel,.sentinel,.sentinel,.sentinel,.sentinel,.sentinel,.sentinel,.sentinel,.sentinel,.sentinel,.sentinel,.sentinel,.data,.data] true (true,"85ebeb2ff86fcff32053cbf37fc533cace43c5bf82507a6d735a71fa134da4dc") true
  zjP (λ_ h=>by cases h) zk4 (λ_ h=>by cases h) sampled_row_tie rfl ⟨rfl,rfl⟩ Tryz.main rfl
  (λf fn hf hfn=>by
    obtain rfl:f=3:=Option.some.inj (zfE.symm.trans hf) |>.symm
    obtain rfl:fn=Tryz.f3:=(Option.some.inj (Tryz.func3.symm.trans hfn)).symm
    exact ⟨Tryz.looked,λj t ht=>by
     rw [Tryz.params3] at ht
     have h3:t=22:=by
      rcases j with _|_|j
      · simpa using ht.symm
      · simpa using ht.symm
      · simp at ht
     subst h3
     exact Tryz.noStand⟩)
  zi1
end
end Go.Proofs.YtedmpgjebafcjaaGreatDoor
