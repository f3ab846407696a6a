/- Part 28 of the proof: ChkG. -/
import Derived.Test.YtedmpgjebafcjaaGreatDoorK26
set_option maxRecDepth 100000
set_option maxHeartbeats 8000000
namespace Go.Proofs.YtedmpgjebafcjaaGreatDoor
section
open Go.RowKit
attribute [local go_sem ↓] Go.wp_at_zero Go.wp_at_succ
theorem zdA.cut {w:World} {N:Nat} {ts:List Tm} {a:Option Addr} {n cp:Nat} (h:zdA w N ts (.slice a n cp)) {k:Nat} (hk:k<=ts.length):zdA w N (ts.take k) (.slice a k cp):=by
 obtain ⟨a',cp',h1,h2,h3,h4⟩:=h.ex
 cases h1
 have hl:(ts.take k).length=k:=by simp;omega
 refine ⟨a,cp,by rw [hl],by omega,h3,λhne=>?_⟩
 have hts:ts≠[]:=by intro e;subst e;simp at hne
 obtain ⟨g,o,h5,h6,h7⟩:=h4 hts
 refine ⟨g,o,h5,h6,λi u hi=>h7 i u ?_⟩
 rw [List.getElem?_take] at hi
 split at hi
 · exact hi
 · cases hi
theorem zaX {f:FuncId} {args:Array Value} {w:World} {v:Value} {n:Nat} (h:Calls Tryz.prog f args (w.drewN n) (λe w'=>e=.returned v/\w.drewN n=w')):Calls Tryz.prog f args (w.drewN n) (λe w'=>e=.returned v/\∃m,w'=w.drewN m):=h.mono λ_ _ h=>⟨h.1,n,h.2.symm⟩
theorem zdA.rest {w:World} {N:Nat} {t:Tm} {ts:List Tm} {g o n cp:Nat} (h:zdA w N (t::ts) (.slice (some ⟨g,o,none⟩) n cp)):zdA w N ts (.slice (some ⟨g,o+1,none⟩) ts.length (cp-1)):=by
 obtain ⟨a',cp',h1,h2,h3,h4⟩:=h.ex
 cases h1
 simp only [List.length_cons] at h2
 refine ⟨_,cp-1,rfl,by omega,by omega,λhne=>?_⟩
 obtain ⟨g',o',h5,h6,h7⟩:=h4 (by simp)
 cases h5
 refine ⟨g,o+1,rfl,h6,λi u hi=>?_⟩
 obtain ⟨ub,h8,h9⟩:=h7 (i+1) u (by simpa using hi)
 exact ⟨ub,by rw [show o+1+i=o+(i+1) by omega];exact h8,h9⟩
theorem ziU {N:Nat} {c:Sc} {ev nv:Value} (hc:zbr c) (t:Tm) (v:Value) (w:World) (hT:TT w N t v) (h:ScV w N c ev nv) (hN:N<=w.heap.size) (hO:zdg c t) :
 Calls Tryz.prog 108 #[.agg #[ev,nv],v] w (λe w'=>e=.returned (.bool (c.operands t))/\Below w.heap.size w w'):=by
 have HTT:=za hT
 obtain ⟨b,args,vs,rfl,hb,hblk,hown,hlen,hsub,hgs⟩:=hT.ptr
 have hA0:=zkm hown hlen hsub hgs
 obtain ⟨xa,cpa,rfl⟩:=zB hown
 have HSc:=za h
 obtain ⟨xe,cpe,nb,rfl,rfl,hnb⟩:=h.shape
 have hbz:=ze hblk
 obtain ⟨o1,o2,o3⟩:=hO _ (zey za5 _)
 obtain ⟨k,a,s,nm,n,ts⟩:=t
 have hlen':vs.length=ts.length:=hlen
 have hblk':w.heap[b]?=some (.cells #[.int .i64 k,.int .i64 a,.string s,.int .i64 nm,.int .i64 n,.slice xa ts.length cpa] 216 (0,0)):=by rw [<- hlen'];exact hblk
 have HBk:=za hblk'
 have hA1:zdA w N ts (.slice xa ts.length cpa):=by rw [<- hlen'];exact hA0
 have HA:=za hA1
 have hOs:∀u∈ts,zdg c u:=λu hu=>hO.sub hu
 have HOs:=za hOs
 have HO:=za hO
 simp only [Tm.k,Tm.s,Tm.ts] at o1 o2 o3
 have h23:=zo0 o3
 obtain ⟨h0,h1,h2,h3,h4,h5,hf,hz⟩:=zt hblk'
 have hmx:ts.length<=cpa/\cpa<=9223372036854775807:=by
  obtain ⟨_,_,e,h2,h3,_⟩:=hA1.ex
  cases e
  exact ⟨h2,h3⟩
 clear hT hown h hlen hlen' hblk hsub hgs hblk' h1 h2 h3 h4 hf hA0 hA1 hOs hO
 have PRE:∀W,Below w.heap.size w W->ScV W N c (.slice xe c.er.length cpe) (.pointer (some ⟨nb,0,none⟩)):=λW hB=>HSc.out.old (zm hB hN)
 have hcases:(k=10∨k=17∨k=18∨k=19∨k=20∨k=21∨k=22∨k=23)∨(k=11∨k=12∨k=13∨k=14)∨(k=15∨k=16∨k=6)∨k=5∨k=9∨k=4∨(k=0∨k=1∨k=2∨k=3∨k=7∨k=8):=by omega
 rcases hcases with hk|hk|hk|rfl|rfl|rfl|hk
 · rcases hk with rfl|rfl|rfl|rfl|rfl|rfl|rfl|rfl
   all_goals
    go_enter Tryz.func108,Tryz.ntmps108
    go_upto_region 10 with fail
    refine zn (λW=>W.heap[w.heap.size]?=some (.cells #[.slice xe c.er.length cpe,.pointer (some ⟨nb,0,none⟩)] 206 (0,0))/\Below w.heap.size w W) ⟨zc w _,zq w _⟩ ?_
    rintro W ⟨hs,hB⟩
    obtain ⟨s0,s1,sf,sz⟩:=zp hs
    obtain ⟨m0,m1,m2,m3,m4,m5,mf,mz⟩:=zt ((hB.block b hbz).trans HBk.out)
    have HB:=za hB
    have hzW:=hB.size
    have HD:=za (zhS hc 0 ts (.slice xa ts.length cpa) W.drew (HA.out.old (zm (zo hB) hN)) (PRE W.drew (zo hB)) (by show N<=W.heap.size;omega) HOs.out)
    clear hs hB m0 m1 m2 m3 m4 mf sf
    go_region_held3 (λw'=>w'.cell? ⟨w.heap.size,0,none⟩=some (.slice xe c.er.length cpe)/\w'.cell? ⟨w.heap.size,1,none⟩=some (.pointer (some ⟨nb,0,none⟩))/\w'.cell? ⟨b,5,none⟩=some (.slice xa ts.length cpa))
     (first|(refine ⟨?_,?_,?_⟩ <;> repeat (first|with_reducible exact s0|with_reducible exact s1|with_reducible exact m5|with_reducible refine zg ?_|with_reducible refine zj _ ?_|with_reducible refine zk (by omega) ?_|with_reducible refine zd HB1.out ?_ (by first|omega|(rw [zsb];omega))))|go_keep)
     (first
       | (go_at_call 140;refine HD.out.mono ?_;rintro e w1 ⟨rfl,hB1⟩;have HB1:=za (zw hB1);clear hB1))
    all_goals go_wp2_with fail
    all_goals go_ret
    all_goals exact ⟨by rfl,HB.out.trans (HB1.out.mono (by omega))⟩
 · rcases hk with rfl|rfl|rfl|rfl
   all_goals
    go_enter Tryz.func108,Tryz.ntmps108
    go_upto_region 15 with fail
    refine zn (λW=>W.heap[w.heap.size]?=some (.cells #[.slice xe c.er.length cpe,.pointer (some ⟨nb,0,none⟩)] 206 (0,0))/\Below w.heap.size w W) ⟨zc w _,zq w _⟩ ?_
    rintro W ⟨hs,hB⟩
    obtain ⟨s0,s1,sf,sz⟩:=zp hs
    obtain ⟨m0,m1,m2,m3,m4,m5,mf,mz⟩:=zt ((hB.block b hbz).trans HBk.out)
    have HB:=za hB
    have hzW:=hB.size
    have HD:=za (zhS hc 1 ts (.slice xa ts.length cpa) W.drew (HA.out.old (zm (zo hB) hN)) (PRE W.drew (zo hB)) (by show N<=W.heap.size;omega) HOs.out)
    clear hs hB m0 m1 m2 m3 m4 mf sf
    go_region_held3 (λw'=>w'.cell? ⟨w.heap.size,0,none⟩=some (.slice xe c.er.length cpe)/\w'.cell? ⟨w.heap.size,1,none⟩=some (.pointer (some ⟨nb,0,none⟩))/\w'.cell? ⟨b,5,none⟩=some (.slice xa ts.length cpa))
     (first|(refine ⟨?_,?_,?_⟩ <;> repeat (first|with_reducible exact s0|with_reducible exact s1|with_reducible exact m5|with_reducible refine zg ?_|with_reducible refine zj _ ?_|with_reducible refine zk (by omega) ?_|with_reducible refine zd HB1.out ?_ (by first|omega|(rw [zsb];omega))))|go_keep)
     (first
       | (go_at_call 140;refine HD.out.mono ?_;rintro e w1 ⟨rfl,hB1⟩;have HB1:=za (zw hB1);clear hB1))
    all_goals go_wp2_with fail
    all_goals go_ret
    all_goals exact ⟨by rfl,HB.out.trans (HB1.out.mono (by omega))⟩
 · rcases hk with rfl|rfl|rfl
   all_goals
    obtain ⟨t1,t2,rest,rfl⟩:∃t1 t2 rest,ts=t1::t2::rest:=by
     rcases ts with _|⟨t1,_|⟨t2,rest⟩⟩
     · simp [arB] at o3
     · simp [arB] at o3
     · exact ⟨t1,t2,rest,rfl⟩
    go_enter Tryz.func108,Tryz.ntmps108
    go_upto_region 19 with fail
    refine zn (λW=>W.heap[w.heap.size]?=some (.cells #[.slice xe c.er.length cpe,.pointer (some ⟨nb,0,none⟩)] 206 (0,0))/\Below w.heap.size w W) ⟨zc w _,zq w _⟩ ?_
    rintro W ⟨hs,hB⟩
    obtain ⟨s0,s1,sf,sz⟩:=zp hs
    obtain ⟨m0,m1,m2,m3,m4,m5,mf,mz⟩:=zt ((hB.block b hbz).trans HBk.out)
    have HB:=za hB
    have hzW:=hB.size
    have HD:=za (zfS hc t1 t2 rest (.slice xa (t1::t2::rest).length cpa) W.drew (HA.out.old (zm (zo hB) hN)) (PRE W.drew (zo hB)) (by show N<=W.heap.size;omega) (HOs.out t1 (by simp)) (HOs.out t2 (by simp)))
    generalize hnn:(t1::t2::rest).length=nn at *
    clear hs hB m0 m1 m2 m3 m4 mf sf
    go_region_held3 (λw'=>w'.cell? ⟨w.heap.size,0,none⟩=some (.slice xe c.er.length cpe)/\w'.cell? ⟨w.heap.size,1,none⟩=some (.pointer (some ⟨nb,0,none⟩))/\w'.cell? ⟨b,5,none⟩=some (.slice xa nn cpa))
     (first|(refine ⟨?_,?_,?_⟩ <;> repeat (first|with_reducible exact s0|with_reducible exact s1|with_reducible exact m5|with_reducible refine zg ?_|with_reducible refine zj _ ?_|with_reducible refine zk (by omega) ?_|with_reducible refine zd HB1.out ?_ (by first|omega|(rw [zsb];omega))))|go_keep)
     (first
       | (go_at_call 141;refine HD.out.mono ?_;rintro e w1 ⟨rfl,hB1⟩;have HB1:=za (zw hB1);clear hB1))
    all_goals go_wp2_with fail
    all_goals go_ret
    all_goals exact ⟨by rfl,HB.out.trans (HB1.out.mono (by omega))⟩
 · obtain ⟨t1,t2,t3,rest,rfl⟩:∃t1 t2 t3 rest,ts=t1::t2::t3::rest:=by
    rcases ts with _|⟨t1,_|⟨t2,_|⟨t3,rest⟩⟩⟩
    · simp [arB] at o3
    · simp [arB] at o3
    · simp [arB] at o3
    · exact ⟨t1,t2,t3,rest,rfl⟩
   obtain ⟨x9,cp9,e9,_,_,hin⟩:=HA.out.ex
   cases e9
   obtain ⟨g,o,rfl,hgN,_⟩:=hin (by simp)
   have HE:Hid (c.operands (.mk 5 a s nm n (t1::t2::t3::rest))=(zcv c 1 [t1]&&zc9 c (t2::t3::rest))):=rfl
   have HR:=za HA.out.rest
   have HC:=za (HA.out.cut (k:=1) (by simp))
   have Hal:=za (λW (hB:Below w.heap.size w W)=>zhS hc 1 [t1] (.slice (some ⟨g,o,none⟩) 1 cpa) W (HC.out.old (zm hB hN)) (PRE W hB) (by have:=hB.size;omega) (λu hu=>HOs.out u (by simp at hu;simp [hu])))
   have Hak:=za (λW (hB:Below w.heap.size w W)=>zfS hc t2 t3 rest (.slice (some ⟨g,o+1,none⟩) (t2::t3::rest).length (cpa-1)) W (HR.out.old (zm hB hN)) (PRE W hB) (by have:=hB.size;omega) (HOs.out t2 (by simp)) (HOs.out t3 (by simp)))
   have hl1:(t2::t3::rest).length=(t1::t2::t3::rest).length-1:=by simp
   rw [hl1] at Hak
   have n3:3<=(t1::t2::t3::rest).length:=by simp
   generalize hnn:(t1::t2::t3::rest).length=nn at *
   have j0:(1:Int)<=(nn:Int):=by omega
   have j1:(1:Int)<=(cpa:Int):=by omega
   have j2:¬(cpa=1):=by omega
   have j3:¬((cpa:Int)=1):=by omega
   have a1:(⟨g,o,none⟩:Addr).add 1=⟨g,o+1,none⟩:=by simp [Addr.add]
   clear hin hnn hl1 HR HC
   cases hb1:zcv c 1 [t1] with
   | true =>
     rw [hb1] at HE Hal
     go_enter Tryz.func108,Tryz.ntmps108
     go_upto_region 21 with fail
     refine zn (λW=>W.heap[w.heap.size]?=some (.cells #[.slice xe c.er.length cpe,.pointer (some ⟨nb,0,none⟩)] 206 (0,0))/\Below w.heap.size w W) ⟨zc w _,zq w _⟩ ?_
     rintro W ⟨hs,hB⟩
     obtain ⟨s0,s1,sf,sz⟩:=zp hs
     obtain ⟨m0,m1,m2,m3,m4,m5,mf,mz⟩:=zt ((hB.block b hbz).trans HBk.out)
     have HB:=za hB
     have hzW:=hB.size
     have HD1:=za (Hal.out W.drew (zo hB))
     clear hs hB m0 m1 m2 m3 m4 mf sf hb1
     go_region_held3 (λw'=>w'.cell? ⟨w.heap.size,0,none⟩=some (.slice xe c.er.length cpe)/\w'.cell? ⟨w.heap.size,1,none⟩=some (.pointer (some ⟨nb,0,none⟩))/\w'.cell? ⟨b,5,none⟩=some (.slice (some ⟨g,o,none⟩) nn cpa))
      (first|(refine ⟨?_,?_,?_⟩ <;> repeat (first|with_reducible exact s0|with_reducible exact s1|with_reducible exact m5|with_reducible refine zg ?_|with_reducible refine zj _ ?_|with_reducible refine zk (by omega) ?_|with_reducible refine zd HB2.out ?_ (by first|omega|(rw [zsb];omega))|with_reducible refine zd HB1.out ?_ (by first|omega|(rw [zsb];omega))))|go_keep)
      (first
        | (go_at_call 141;refine HD2.out.mono ?_;rintro e w2 ⟨rfl,hB2⟩;have HB2:=za hB2;clear hB2)
        | (go_at_call 140;refine HD1.out.mono ?_;rintro e w1 ⟨rfl,hB1⟩;have HB1:=za (zw hB1);(have hzw1:W.heap.size<=w1.heap.size:=hB1.size);have HD2:=za (Hak.out w1 (HB.out.trans (HB1.out.mono hzW)));clear hB1))
     all_goals go_wp2_with fail
     all_goals go_ret
     all_goals exact ⟨by rw [HE.out];rfl,(HB.out.trans (HB1.out.mono hzW)).trans (HB2.out.mono (by omega))⟩
   | false =>
     rw [hb1] at HE Hal
     go_enter Tryz.func108,Tryz.ntmps108
     go_upto_region 21 with fail
     refine zn (λW=>W.heap[w.heap.size]?=some (.cells #[.slice xe c.er.length cpe,.pointer (some ⟨nb,0,none⟩)] 206 (0,0))/\Below w.heap.size w W) ⟨zc w _,zq w _⟩ ?_
     rintro W ⟨hs,hB⟩
     obtain ⟨s0,s1,sf,sz⟩:=zp hs
     obtain ⟨m0,m1,m2,m3,m4,m5,mf,mz⟩:=zt ((hB.block b hbz).trans HBk.out)
     have HB:=za hB
     have hzW:=hB.size
     have HD1:=za (Hal.out W.drew (zo hB))
     clear hs hB m0 m1 m2 m3 m4 mf sf hb1
     refine wp_region_noPanic ?_
     refine wp_region_held_drew (S:=(λw'=>w'.cell? ⟨w.heap.size,0,none⟩=some (.slice xe c.er.length cpe)/\w'.cell? ⟨w.heap.size,1,none⟩=some (.pointer (some ⟨nb,0,none⟩))/\w'.cell? ⟨b,5,none⟩=some (.slice (some ⟨g,o,none⟩) nn cpa))) (by kernel_rfl) ?_ (λhHeld=>?_)
     · (try dsimp only);(first|(refine ⟨?_,?_,?_⟩ <;> repeat (first|with_reducible exact s0|with_reducible exact s1|with_reducible exact m5|with_reducible refine zg ?_|with_reducible refine zj _ ?_|with_reducible refine zk (by omega) ?_|with_reducible refine zd HB1.out ?_ (by first|omega|(rw [zsb];omega))))|go_keep)
     refine tkH (i:=0) (v:=?v1) rfl (by kernel_rfl) (λ_ _ _ h=>h) (Or.inl ⟨by rfl,?h1⟩) (by assumption) ?_
     case h1=>(intro w hSw;(try dsimp only at hSw);go_simp;try with_reducible rfl)
     try simp only [Act.put,zr8,zr6,zr5,zsa,zr9]
     refine tkH (i:=1) (v:=?v2) rfl (by kernel_rfl) (λ_ _ _ h=>h) (Or.inl ⟨by rfl,?h2⟩) (by assumption) ?_
     case h2=>(intro w hSw;(try dsimp only at hSw);go_simp;try with_reducible rfl)
     try simp only [Act.put,zr8,zr6,zr7,zr5,zsa,zr9]
     refine tkH (i:=2) (v:=?v3) rfl (by kernel_rfl) (λ_ _ _ h=>h) (Or.inl ⟨by rfl,?h3⟩) (by assumption) ?_
     case h3=>(intro w hSw;(try dsimp only at hSw);go_simp;try with_reducible rfl)
     try simp only [Act.put,zr8,zr6,zr7,zr5,zsa,zr9]
     refine tkH (i:=3) (v:=?v4) rfl (by kernel_rfl) (λ_ _ _ h=>h) (Or.inl ⟨by rfl,?h4⟩) (by assumption) ?_
     case h4=>(intro w hSw;(try dsimp only at hSw);go_simp;try with_reducible rfl)
     try simp only [Act.put,zr8,zr6,zr7,zr5,zsa,zr9]
     refine tkH (i:=4) (v:=?v5) rfl (by kernel_rfl) (λ_ _ _ h=>h) (Or.inl ⟨by rfl,?h5⟩) (by assumption) ?_
     case h5=>(intro w hSw;(try dsimp only at hSw);go_simp;try with_reducible rfl)
     try simp only [Act.put,zr8,zr6,zr7,zr5,zsa,zr9]
     refine tkH (i:=5) (v:=?v6) rfl (by kernel_rfl) (λ_ _ _ h=>h) (Or.inl ⟨by rfl,?h6⟩) (by assumption) ?_
     case h6=>(intro w hSw;(try dsimp only at hSw);go_simp;try with_reducible rfl)
     try simp only [Act.put,zr8,zr6,zr7,zr5,zsa,zr9]
     refine wpAnyH_ready (rs:=[6]) (by kernel_rfl) (by simp) ?_
     refine AllReadyH.cons rfl (λK hK=>?_) ?_
     go_simp
     first|go_at_K|(((go_at_call 140;refine HD1.out.mono ?_;rintro e w1 ⟨rfl,hB1⟩;have HB1:=za (zw hB1);clear hB1));first|go_at_K|go_wp2_with fail)
     refine hK.out _ _ ?_ (λh9=>?_)
     · (try dsimp only);(first|(refine ⟨?_,?_,?_⟩ <;> repeat (first|with_reducible exact s0|with_reducible exact s1|with_reducible exact m5|with_reducible refine zg ?_|with_reducible refine zj _ ?_|with_reducible refine zk (by omega) ?_|with_reducible refine zd HB1.out ?_ (by first|omega|(rw [zsb];omega))))|go_keep)
     clear hK K hHeld;have hHeld:=h9;clear h9
     try simp only [Act.put,zr8,zr6,zr7,zr5,zsa,zr9]
     refine tkH (i:=7) (v:=?v7) rfl (by kernel_rfl) (λ_ _ _ h=>h) (Or.inl ⟨by rfl,?h7⟩) (by assumption) ?_
     case h7=>(intro w hSw;(try dsimp only at hSw);go_simp;try with_reducible rfl)
     try simp only [Act.put,zr8,zr6,zr7,zr5,zsa,zr9]
     refine tkH (i:=8) (v:=undef) rfl (by kernel_rfl) (λ_ _ _ h=>h) (Or.inr ⟨by rfl,rfl⟩) (by assumption) ?_
     try simp only [Act.put,zr8,zr6,zr7,zr5,zsa,zr9]
     refine tkH (i:=9) (v:=undef) rfl (by kernel_rfl) (λ_ _ _ h=>h) (Or.inr ⟨by rfl,rfl⟩) (by assumption) ?_
     try simp only [Act.put,zr8,zr6,zr7,zr5,zsa,zr9]
     refine tkH (i:=10) (v:=undef) rfl (by kernel_rfl) (λ_ _ _ h=>h) (Or.inr ⟨by rfl,rfl⟩) (by assumption) ?_
     try simp only [Act.put,zr8,zr6,zr7,zr5,zsa,zr9]
     refine tkH (i:=11) (v:=undef) rfl (by kernel_rfl) (λ_ _ _ h=>h) (Or.inr ⟨by rfl,rfl⟩) (by assumption) ?_
     try simp only [Act.put,zr8,zr6,zr7,zr5,zsa,zr9]
     refine tkH (i:=12) (v:=undef) rfl (by kernel_rfl) (λ_ _ _ h=>h) (Or.inr ⟨by rfl,rfl⟩) (by assumption) ?_
     try simp only [Act.put,zr8,zr6,zr7,zr5,zsa,zr9]
     refine tkH (i:=13) (v:=undef) rfl (by kernel_rfl) (λ_ _ _ h=>h) (Or.inr ⟨by rfl,rfl⟩) (by assumption) ?_
     try simp only [Act.put,zr8,zr6,zr7,zr5,zsa,zr9]
     refine tkH (i:=14) (v:=undef) rfl (by kernel_rfl) (λ_ _ _ h=>h) (Or.inr ⟨by rfl,rfl⟩) (by assumption) ?_
     try simp only [Act.put,zr8,zr6,zr7,zr5,zsa,zr9]
     refine tkH (i:=15) (v:=?v8) rfl (by kernel_rfl) (λ_ _ _ h=>h) (Or.inl ⟨by rfl,?h8⟩) (by assumption) ?_
     case h8=>(intro w hSw;(try dsimp only at hSw);go_simp;try with_reducible rfl)
     try simp only [Act.put,zr8,zr6,zr7,zr5,zsa,zr9]
     refine tkH (i:=16) (v:=?v9) rfl (by kernel_rfl) (λ_ _ _ h=>h) (Or.inl ⟨by rfl,?h9⟩) (by assumption) ?_
     case h9=>(intro w hSw;(try dsimp only at hSw);go_simp;try with_reducible rfl)
     try simp only [Act.put,zr8,zr6,zr7,zr5,zsa,zr9]
     refine wpAnyH_done (by kernel_rfl) ?_ _
     rotate_left
     exact AllReadyH.nil
     all_goals refine NoPanic.normal ?_
     all_goals go_wp2_with fail
     all_goals go_ret
     all_goals exact ⟨by rw [HE.out];rfl,HB.out.trans (HB1.out.mono hzW)⟩
 · obtain ⟨t1,t2,rest,rfl⟩:∃t1 t2 rest,ts=t1::t2::rest:=by
    rcases ts with _|⟨t1,_|⟨t2,rest⟩⟩
    · simp [arB] at o3
    · simp [arB] at o3
    · exact ⟨t1,t2,rest,rfl⟩
   obtain ⟨x9,cp9,e9,_,_,hin⟩:=HA.out.ex
   cases e9
   obtain ⟨g,o,rfl,hgN,hat⟩:=hin (by simp)
   obtain ⟨ub,hcu,hTu⟩:=hat 0 t1 rfl
   rw [Nat.add_zero] at hcu
   have HE:Hid (c.operands (.mk 9 a s nm n (t1::t2::rest))=(zcG t1&&zc9 c (t1::t2::rest))):=rfl
   have Hcn:=za (λW (hB:Below w.heap.size w W)=>zmE W (hTu.old (zm hB hN)) ((HOs.out t1 (by simp)) t1 (zey za5 _)).2.2)
   have Hak:=za (λW (hB:Below w.heap.size w W)=>zfS hc t1 t2 rest (.slice (some ⟨g,o,none⟩) (t1::t2::rest).length cpa) W (HA.out.old (zm hB hN)) (PRE W hB) (by have:=hB.size;omega) (HOs.out t1 (by simp)) (HOs.out t2 (by simp)))
   have n3:0<(t1::t2::rest).length:=by simp
   generalize hnn:(t1::t2::rest).length=nn at *
   have j0:(0:Int)<(nn:Int):=by omega
   have a0:(⟨g,o,none⟩:Addr).add 0=⟨g,o,none⟩:=by simp [Addr.add]
   clear hin hnn hat hTu
   cases hb1:zcG t1 with
   | true =>
     rw [hb1] at HE Hcn
     go_enter Tryz.func108,Tryz.ntmps108
     go_upto_region 23 with fail
     refine zn (λW=>W.heap[w.heap.size]?=some (.cells #[.slice xe c.er.length cpe,.pointer (some ⟨nb,0,none⟩)] 206 (0,0))/\Below w.heap.size w W) ⟨zc w _,zq w _⟩ ?_
     rintro W ⟨hs,hB⟩
     obtain ⟨s0,s1,sf,sz⟩:=zp hs
     obtain ⟨m0,m1,m2,m3,m4,m5,mf,mz⟩:=zt ((hB.block b hbz).trans HBk.out)
     have HB:=za hB
     have hzW:=hB.size
     have hcu':=zd hB hcu (by omega)
     have HD1:=za (Hcn.out W.drew (zo hB))
     have HD2:=za (Hak.out W.drew (zo hB))
     clear hs hB m0 m1 m2 m3 m4 mf sf hb1
     go_region_held3 (λw'=>w'.cell? ⟨w.heap.size,0,none⟩=some (.slice xe c.er.length cpe)/\w'.cell? ⟨w.heap.size,1,none⟩=some (.pointer (some ⟨nb,0,none⟩))/\w'.cell? ⟨b,5,none⟩=some (.slice (some ⟨g,o,none⟩) nn cpa)/\w'.cell? ⟨g,o,none⟩=some (.pointer (some ⟨ub,0,none⟩)))
      (first|(refine ⟨?_,?_,?_,?_⟩ <;> repeat (first|with_reducible exact s0|with_reducible exact s1|with_reducible exact m5|with_reducible exact hcu'|with_reducible refine zg ?_|with_reducible refine zj _ ?_|with_reducible refine zk (by omega) ?_|with_reducible refine zd HB2.out ?_ (by first|omega|(rw [zsb];omega))))|go_keep)
      (first
        | (go_at_call 141;refine HD2.out.mono ?_;rintro e w2 ⟨rfl,hB2⟩;have HB2:=za (zw hB2);clear hB2)
        | (go_at_call 142;refine HD1.out.mono ?_;rintro e w1 ⟨rfl,rfl⟩))
     all_goals go_wp2_with fail
     all_goals go_ret
     all_goals exact ⟨by rw [HE.out];rfl,HB.out.trans (HB2.out.mono (by omega))⟩
   | false =>
     rw [hb1] at HE Hcn
     go_enter Tryz.func108,Tryz.ntmps108
     go_upto_region 23 with fail
     refine zn (λW=>W.heap[w.heap.size]?=some (.cells #[.slice xe c.er.length cpe,.pointer (some ⟨nb,0,none⟩)] 206 (0,0))/\Below w.heap.size w W) ⟨zc w _,zq w _⟩ ?_
     rintro W ⟨hs,hB⟩
     obtain ⟨s0,s1,sf,sz⟩:=zp hs
     obtain ⟨m0,m1,m2,m3,m4,m5,mf,mz⟩:=zt ((hB.block b hbz).trans HBk.out)
     have HB:=za hB
     have hzW:=hB.size
     have hcu':=zd hB hcu (by omega)
     have HD1:=za (λq=>zaX (Hcn.out (W.drewN q) (zI hB q)))
     clear hs hB m0 m1 m2 m3 m4 mf sf hb1
     go_quiet ((go_at_call 142;exact HD1.out _))
     all_goals go_wp2_with fail
     all_goals go_ret
     all_goals exact ⟨by rw [HE.out];rfl,zI HB.out _⟩
 · obtain ⟨d,hd,hdi⟩:=o2 rfl
   have HE:Hid (c.operands (.mk 4 a s nm n ts)=zaQ c ts d.nd.vars):=by
    unfold Hid Sc.operands
    show (match c.called s with|none=>true|some d=>zaQ c ts d.nd.vars)=_
    rw [hd]
   go_enter Tryz.func108,Tryz.ntmps108
   go_upto_region 25 with fail
   refine zn (λW=>W.heap[w.heap.size]?=some (.cells #[.slice xe c.er.length cpe,.pointer (some ⟨nb,0,none⟩)] 206 (0,0))/\Below w.heap.size w W) ⟨zc w _,zq w _⟩ ?_
   rintro W ⟨hs,hB⟩
   obtain ⟨s0,s1,sf,sz⟩:=zp hs
   obtain ⟨m0,m1,m2,m3,m4,m5,mf,mz⟩:=zt ((hB.block b hbz).trans HBk.out)
   have HB:=za hB
   have hzW:=hB.size
   have HD:=za (zlM hc (.mk 4 a s nm n ts) (.pointer (some ⟨b,0,none⟩)) W (HTT.out.old (zm hB hN)) (PRE W hB) (by omega) HO.out hd hdi)
   clear hs hB m0 m1 m2 m3 m4 m5 mf sf
   go_wp2_with (go_at_call 143;refine HD.out.mono ?_;rintro e w1 ⟨rfl,hB1⟩;have HB1:=za hB1;clear hB1)
   go_ret
   exact ⟨by rw [HE.out];rfl,HB.out.trans (HB1.out.mono (by omega))⟩
 · rcases hk with rfl|rfl|rfl|rfl|rfl|rfl
   all_goals
    go_enter Tryz.func108,Tryz.ntmps108
    go_wp2_with fail
    go_ret
    exact ⟨rfl,zq _ _⟩
end
end Go.Proofs.YtedmpgjebafcjaaGreatDoor
