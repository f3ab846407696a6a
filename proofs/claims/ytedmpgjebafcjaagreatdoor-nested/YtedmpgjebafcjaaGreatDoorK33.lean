/- Part 34 of the proof: CmpF CmpG LnkA. -/
import Derived.Test.YtedmpgjebafcjaaGreatDoorK24
import Derived.Test.YtedmpgjebafcjaaGreatDoorK32
set_option maxRecDepth 100000
set_option maxHeartbeats 8000000
namespace Go.Proofs.YtedmpgjebafcjaaGreatDoor
section
open Go.RowKit
attribute [local go_sem ↓] Go.wp_at_zero Go.wp_at_succ
def zlY (k:Nat):Nat:=if k=5 then 5 else k-3
def zbt (w:World):Prop:=∀k,(k=5∨10<=k)->k<=23->w.cell? ⟨13,k,none⟩=some (.int .u8 (zlY k:Nat))
theorem zbt.old {w w':World} {N:Nat} (h:zbt w) (ho:Old N w w') (hN:21<=N):zbt w':=λk h1 h2=>(World.cell?_of_block (w:=w) (a:=⟨13,k,none⟩) (ho 13 (Nat.lt_of_lt_of_le (show 13<21 by decide) hN))).trans (h k h1 h2)
def zeb (bod:Sc->Nat->Cd->Cd) (c:Sc) (base fu:Nat) (K:Cd) (t:Tm) (k:Nat×Nat):Cd :=
 match c.called t.s with
 | none=>K
 | some d =>
   let b:=base+c.nd.vars.length+1
   (bod d b ((K.adds ((List.range t.ts.length).reverse.map λi=>(2,((b+i:Nat):Int)))).adds (whM c base fu k))).adds ((List.range d.nd.outs).map λi=>(1,((b+(d.nd.ins+i):Nat):Int)))
def zal (bod:Sc->Nat->Cd->Cd) (c:Sc) (base fu:Nat) (s:Cd×List Lt) (t:Tm) (k:Nat×Nat):Cd×List Lt :=
 if t.k<=2 then (s.1.add 0 (zav t),s.2)
 else if t.k=3 then (s.1.add 1 ((base+c.idx t.s:Nat):Int),s.2)
 else if t.k=7∨t.k=8 then s
 else if t.k=6 then (s.1.add 6 ((base+c.idx t.s:Nat):Int),s.2)
 else if t.k=9 then ((s.1.cell (zhD t.ts)).add 3 s.1.cells.length,s.2++(match t.ts with|_::a::_=>[⟨s.1.cells.length,a,k⟩]|_=>[]))
 else if t.k=4 then (zeb bod c base fu s.1 t k,s.2)
 else (s.1.add (zlY t.k) 0,s.2)
def BdK (K:Cd):Prop:=K.row.length<=1000000/\K.cells.length<=1000000
def BdW (s:Cd×List Lt):Prop:=BdK s.1/\s.2.length<=1000000
theorem zmN (c:Sc) (s:ByteArray):c.idx s<=c.nd.vars.length:=by
 unfold Sc.idx
 cases h:c.nd.find s with
 | none=>simp
 | some j=>have:=(zgO h).2.1;simp;omega
theorem zb3 {K:Cd} {op:Nat} {x:Int} (h:BdK (K.add op x)):BdK K:=by
 unfold BdK Cd.add at h
 simp at h
 exact ⟨by omega,h.2⟩
theorem zb4 {K:Cd} {l:List (Nat×Int)} (h:BdK (K.adds l)):BdK K:=by
 unfold BdK Cd.adds at h
 simp at h
 exact ⟨by omega,h.2⟩
theorem zi7 {bod:Sc->Nat->Cd->Cd} (hb:∀d b K,BdK (bod d b K)->BdK K) {c:Sc} {base fu:Nat} (s:Cd×List Lt) (t:Tm) (k:Nat×Nat) (h:BdW (zal bod c base fu s t k)):BdW s:=by
 unfold zal at h
 split at h
 · exact ⟨zb3 h.1,h.2⟩
 split at h
 · exact ⟨zb3 h.1,h.2⟩
 split at h
 · exact h
 split at h
 · exact ⟨zb3 h.1,h.2⟩
 split at h
 · have h1:=zb3 h.1
   refine ⟨⟨h1.1,?_⟩,?_⟩
   · have:=h1.2;unfold Cd.cell at this;simp at this;omega
   · have:=h.2;simp at this;omega
 split at h
 · refine ⟨?_,h.2⟩
   have h1:=h.1
   unfold zeb at h1
   split at h1
   · exact h1
   · exact zb4 (zb4 (hb _ _ _ (zb4 h1)))
 · exact ⟨zb3 h.1,h.2⟩
theorem zlB {N B wb kb qb cb base:Nat} {c:Sc} {ev nv lv:Value} (bod:Sc->Nat->Cd->Cd) (fu:Nat) (hN21:21<=N) (hbase:base<=100000) (t:Tm) (hWf:Wf t) (v:Value) (k:Nat×Nat) (s:Cd×List Lt) (w:World) (hT:TT w N t v) (h:WL N B wb kb qb cb base c ev nv lv s.1 s.2 w) (hop:zbt w) (_hbd:BdW (zal bod c base fu s t k)) (hbs:BdW s)
 (hcal:t.k=4->∀W,WL N B wb kb qb cb base c ev nv lv s.1 s.2 W->TT W N t v->zbt W->Calls Tryz.prog 152 #[.pointer (some ⟨wb,0,none⟩),.pointer (some ⟨qb,0,none⟩),v,ckV k] W (λe w'=>e=.returned (.tuple #[])/\(∃lv',WL N B wb kb qb cb base c ev nv lv' (zeb bod c base fu s.1 t k) s.2 w')/\FT (CT kb qb) W w')) :
 Calls Tryz.prog 123 #[.pointer (some ⟨wb,0,none⟩),.pointer (some ⟨qb,0,none⟩),v,ckV k] w (λe w'=>e=.returned (.tuple #[])/\(∃lv',WL N B wb kb qb cb base c ev nv lv' (zal bod c base fu s t k).1 (zal bod c base fu s t k).2 w')/\FT (CT kb qb) w w'):=by
 obtain ⟨xe,cpe,nb,rfl,rfl,hnb⟩:=h.wi.qi.sc.shape
 have hfew:c.nd.vars.length<=16:=by obtain ⟨_,_,_,_,_,hnt⟩:=h.wi.qi.sc.nd;exact hnt.few
 have hidx:=zmN c t.s
 obtain ⟨b,args,vs,rfl,hb,hblk,_⟩:=hT.ptr
 have HT:=za hT
 have HBk:=za hblk
 have HX:=za (CX.new h (.cells #[.int .i64 (k.1:Nat),.int .i64 (k.2:Nat)] 169))
 have H:=za h
 have Hop:=za hop
 have Hcal:=za hcal
 have hbs1:s.1.row.length<=1000000:=hbs.1.1
 have hbs2:s.1.cells.length<=1000000:=hbs.1.2
 have hbs3:s.2.length<=1000000:=hbs.2
 have HWf:=za hWf
 have hNw:=h.wi.qi.hN
 obtain ⟨Sf,hSf⟩:∃Sf,zal bod c base fu s t k=Sf:=⟨_,rfl⟩
 rw [hSf]
 have HSf:=za hSf
 clear hT h hop hcal hblk hbs hWf hSf
 unfold ckV
 go_enter Tryz.func123,Tryz.ntmps123
 go_upto_region 1 with fail
 refine zn (λW=>CX N B wb kb qb cb base c (.slice xe c.er.length cpe) (.pointer (some ⟨nb,0,none⟩)) w w.heap.size (.cells #[.int .i64 (k.1:Nat),.int .i64 (k.2:Nat)] 169) lv s.1 s.2 W) HX.out ?_
 intro W hX
 clear HX
 have hO:=hX.old H.out
 obtain ⟨m0,m1,m2,m3,m4,m5,mf,mz⟩:=zt ((hO b hb).trans HBk.out)
 obtain ⟨z0,z1,zf,zz⟩:=zp hX.bx
 have HTW:=za (HT.out.old hO)
 have HopW:=za (Hop.out.old hO hN21)
 have HX:=za hX
 clear hX hO m1 m4 m5
 by_cases hk:t.k=0
 · have HE:Hid (zal bod c base fu s t k=(s.1.add 0 (zav t),s.2)):=by unfold Hid zal;rw [if_pos (by omega)]
   have m0':W.cell? ⟨b,0,none⟩=some (.int .i64 0):=by rw [m0,hk];rfl
   clear m0 hk
   go_wp2_with (first
    | (go_at_call 36;refine (HX.out.add 0 (zav t) hbs1).mono ?_;rintro e w3 ⟨rfl,hX3⟩;have HX3:=za hX3;clear hX3)
    | (go_at_call 150;refine (zdp t HWf.out _ _ HTW.out).mono ?_;rintro e w2 ⟨rfl,rfl⟩))
   first|go_end0|refine bodyPost_ret (results_none rfl _ _ _) rfl ?_
   rw [<- HSf.out,HE.out]
   exact ⟨rfl,⟨_,HX3.out.wl⟩,HX3.out.ft⟩
 have h0:=hk
 clear hk
 by_cases hk:t.k=1
 · have HE:Hid (zal bod c base fu s t k=(s.1.add 0 (zav t),s.2)):=by unfold Hid zal;rw [if_pos (by omega)]
   have m0':W.cell? ⟨b,0,none⟩=some (.int .i64 1):=by rw [m0,hk];rfl
   clear m0 hk
   go_wp2_with (first
    | (go_at_call 36;refine (HX.out.add 0 (zav t) hbs1).mono ?_;rintro e w3 ⟨rfl,hX3⟩;have HX3:=za hX3;clear hX3)
    | (go_at_call 150;refine (zdp t HWf.out _ _ HTW.out).mono ?_;rintro e w2 ⟨rfl,rfl⟩))
   first|go_end0|refine bodyPost_ret (results_none rfl _ _ _) rfl ?_
   rw [<- HSf.out,HE.out]
   exact ⟨rfl,⟨_,HX3.out.wl⟩,HX3.out.ft⟩
 have h1:=hk
 clear hk
 by_cases hk:t.k=2
 · have HE:Hid (zal bod c base fu s t k=(s.1.add 0 (zav t),s.2)):=by unfold Hid zal;rw [if_pos (by omega)]
   have m0':W.cell? ⟨b,0,none⟩=some (.int .i64 2):=by rw [m0,hk];rfl
   clear m0 hk
   go_wp2_with (first
    | (go_at_call 36;refine (HX.out.add 0 (zav t) hbs1).mono ?_;rintro e w3 ⟨rfl,hX3⟩;have HX3:=za hX3;clear hX3)
    | (go_at_call 150;refine (zdp t HWf.out _ _ HTW.out).mono ?_;rintro e w2 ⟨rfl,rfl⟩))
   first|go_end0|refine bodyPost_ret (results_none rfl _ _ _) rfl ?_
   rw [<- HSf.out,HE.out]
   exact ⟨rfl,⟨_,HX3.out.wl⟩,HX3.out.ft⟩
 have h2:=hk
 clear hk
 by_cases hk:t.k=3
 · have HE:Hid (zal bod c base fu s t k=(s.1.add 1 ((base+c.idx t.s:Nat):Int),s.2)):=by unfold Hid zal;rw [if_neg (by omega),if_pos hk]
   have m0':W.cell? ⟨b,0,none⟩=some (.int .i64 3):=by rw [m0,hk];rfl
   clear m0 hk
   go_wp2_with (first
    | (go_at_call 36;refine (HX1.out.add 1 ((base+c.idx t.s:Nat):Int) hbs1).mono ?_;rintro e w3 ⟨rfl,hX3⟩;have HX3:=za hX3;clear hX3)
    | (go_at_call 74;refine (zfz t.s (t.nm:Int) _ HX.out.wl.wi.qi (by omega) (by omega)).mono ?_;rintro e w2 ⟨rfl,hB2⟩;have HX1:=za (HX.out.keep hB2);clear hB2))
   first|go_end0|refine bodyPost_ret (results_none rfl _ _ _) rfl ?_
   rw [<- HSf.out,HE.out]
   exact ⟨rfl,⟨_,HX3.out.wl⟩,HX3.out.ft⟩
 have h3:=hk
 clear hk
 by_cases hk:t.k=6
 · have HE:Hid (zal bod c base fu s t k=(s.1.add 6 ((base+c.idx t.s:Nat):Int),s.2)):=by unfold Hid zal;rw [if_neg (by omega),if_neg (by omega),if_neg (by omega),if_pos hk]
   have m0':W.cell? ⟨b,0,none⟩=some (.int .i64 6):=by rw [m0,hk];rfl
   clear m0 hk
   go_wp2_with (first
    | (go_at_call 36;refine (HX1.out.add 6 ((base+c.idx t.s:Nat):Int) hbs1).mono ?_;rintro e w3 ⟨rfl,hX3⟩;have HX3:=za hX3;clear hX3)
    | (go_at_call 74;refine (zfz t.s (t.nm:Int) _ HX.out.wl.wi.qi (by omega) (by omega)).mono ?_;rintro e w2 ⟨rfl,hB2⟩;have HX1:=za (HX.out.keep hB2);clear hB2))
   first|go_end0|refine bodyPost_ret (results_none rfl _ _ _) rfl ?_
   rw [<- HSf.out,HE.out]
   exact ⟨rfl,⟨_,HX3.out.wl⟩,HX3.out.ft⟩
 have h6:=hk
 clear hk
 by_cases hk:t.k=7
 · have HE:Hid (zal bod c base fu s t k=s):=by unfold Hid zal;rw [if_neg (by omega),if_neg (by omega),if_pos (by omega)]
   have m0':W.cell? ⟨b,0,none⟩=some (.int .i64 7):=by rw [m0,hk];rfl
   clear m0 hk
   go_wp2_with fail
   first|go_end0|refine bodyPost_ret (results_none rfl _ _ _) rfl ?_
   rw [<- HSf.out,HE.out]
   exact ⟨rfl,⟨_,HX.out.wl⟩,HX.out.ft⟩
 have h7:=hk
 clear hk
 by_cases hk:t.k=8
 · have HE:Hid (zal bod c base fu s t k=s):=by unfold Hid zal;rw [if_neg (by omega),if_neg (by omega),if_pos (by omega)]
   have m0':W.cell? ⟨b,0,none⟩=some (.int .i64 8):=by rw [m0,hk];rfl
   clear m0 hk
   go_wp2_with fail
   first|go_end0|refine bodyPost_ret (results_none rfl _ _ _) rfl ?_
   rw [<- HSf.out,HE.out]
   exact ⟨rfl,⟨_,HX.out.wl⟩,HX.out.ft⟩
 have h8:=hk
 clear hk
 by_cases hk:t.k=9
 · have har:=HWf.out.ar
   rw [hk] at har
   obtain ⟨a0,a1,hts⟩:∃a0 a1,t.ts=[a0,a1]:=by
    rcases hx:t.ts with _|⟨a0,_|⟨a1,_|⟨a2,l⟩⟩⟩
    · rw [hx] at har;simp [arB] at har
    · rw [hx] at har;simp [arB] at har
    · exact ⟨a0,a1,rfl⟩
    · rw [hx] at har;simp [arB] at har
   have HE:Hid (zal bod c base fu s t k=((s.1.cell (zav a0)).add 3 s.1.cells.length,s.2++[⟨s.1.cells.length,a1,k⟩])):=by
    unfold Hid zal
    rw [if_neg (by omega),if_neg (by omega),if_neg (by omega),if_neg (by omega),if_pos hk,hts,zhD]
   have HRe:=za (zhK t a0 a1 hts HWf.out (.pointer (some ⟨b,0,none⟩)) k s.1 s.2 W HTW.out HX.out.wl hbs1 hbs2 hbs3)
   unfold ckV at HRe
   have m0':W.cell? ⟨b,0,none⟩=some (.int .i64 9):=by rw [m0,hk];rfl
   clear m0 hk har hts
   go_wp2_with (go_at_call 151;refine HRe.out.mono ?_;rintro e w3 ⟨rfl,⟨lv3,hL3⟩,hF3⟩;have HX3:=za (HX.out.stepL hL3 hF3);clear hL3 hF3)
   first|go_end0|refine bodyPost_ret (results_none rfl _ _ _) rfl ?_
   rw [<- HSf.out,HE.out]
   exact ⟨rfl,⟨_,HX3.out.wl⟩,HX3.out.ft⟩
 have h9:=hk
 clear hk
 by_cases hk:t.k=4
 · have HE:Hid (zal bod c base fu s t k=(zeb bod c base fu s.1 t k,s.2)):=by
    unfold Hid zal
    rw [if_neg (by omega),if_neg (by omega),if_neg (by omega),if_neg (by omega),if_neg (by omega),if_pos hk]
   have HCa:=za (Hcal.out hk W HX.out.wl HTW.out HopW.out)
   unfold ckV at HCa
   have m0':W.cell? ⟨b,0,none⟩=some (.int .i64 4):=by rw [m0,hk];rfl
   clear m0 hk
   go_wp2_with (go_at_call 152;refine HCa.out.mono ?_;rintro e w3 ⟨rfl,⟨lv3,hL3⟩,hF3⟩;have HX3:=za (HX.out.stepL hL3 hF3);clear hL3 hF3)
   first|go_end0|refine bodyPost_ret (results_none rfl _ _ _) rfl ?_
   rw [<- HSf.out,HE.out]
   exact ⟨rfl,⟨_,HX3.out.wl⟩,HX3.out.ft⟩
 have h4:=hk
 clear hk
 have HE:Hid (zal bod c base fu s t k=(s.1.add (zlY t.k) 0,s.2)):=by
  unfold Hid zal
  rw [if_neg (by omega),if_neg (by omega),if_neg (by omega),if_neg (by omega),if_neg (by omega),if_neg (by omega)]
 have h23:t.k<=23:=by
  have har:=HWf.out.ar
  unfold arB at har
  rcases Nat.lt_or_ge 23 t.k with h|h
  · rw [if_neg (by omega),if_neg (by omega),if_neg (by omega),if_neg (by omega),if_neg (by omega),if_neg (by omega),if_neg (by omega),if_neg (by omega)] at har;cases har
  · exact h
 have ho:=HopW.out t.k (by omega) h23
 have g0:¬(t.k:Int)=0:=by omega
 have g1:¬(t.k:Int)=1:=by omega
 have g2:¬(t.k:Int)=2:=by omega
 have g3:¬(t.k:Int)=3:=by omega
 have g4:¬(t.k:Int)=4:=by omega
 have g6:¬(t.k:Int)=6:=by omega
 have g7:¬(t.k:Int)=7:=by omega
 have g8:¬(t.k:Int)=8:=by omega
 have g9:¬(t.k:Int)=9:=by omega
 have i0:(0:Int)<=(t.k:Int):=by omega
 have i1:(t.k:Int)<24:=by omega
 clear h0 h1 h2 h3 h4 h6 h7 h8 h9 h23
 go_wp2_with (go_at_call 36;refine (HX.out.add (zlY t.k) 0 hbs1).mono ?_;rintro e w3 ⟨rfl,hX3⟩;have HX3:=za hX3;clear hX3)
 first|go_end0|refine bodyPost_ret (results_none rfl _ _ _) rfl ?_
 rw [<- HSf.out,HE.out]
 exact ⟨rfl,⟨_,HX3.out.wl⟩,HX3.out.ft⟩
end
section
open Go.RowKit
attribute [local go_sem ↓] Go.wp_at_zero Go.wp_at_succ
def zlS (N B wb kb qb cb base:Nat) (c:Sc) (ev nv:Value) (bod:Sc->Nat->Cd->Cd) (fu:Nat) (Pt:Tm->Nat×Nat->Prop):Prop :=
 ∀t k,Pt t k->t.k=4->∀(s:Cd×List Lt) lv W v,WL N B wb kb qb cb base c ev nv lv s.1 s.2 W->TT W N t v->zbt W->BdW (zal bod c base fu s t k) ->
  Calls Tryz.prog 152 #[.pointer (some ⟨wb,0,none⟩),.pointer (some ⟨qb,0,none⟩),v,ckV k] W (λe w'=>e=.returned (.tuple #[])/\(∃lv',WL N B wb kb qb cb base c ev nv lv' (zeb bod c base fu s.1 t k) s.2 w')/\FT (CT kb qb) W w')
structure VlI (N B wb kb qb cb base:Nat) (c:Sc) (ev nv:Value) (z:Nat) (s:Cd×List Lt) (W:World):Prop where
 wl:∃lv,WL N B wb kb qb cb base c ev nv lv s.1 s.2 W
 ops:zbt W
 x1:W.heap[z]?=some (.cells #[.pointer (some ⟨wb,0,none⟩)] 161 (0,0))
 x2:W.heap[z+1]?=some (.cells #[.pointer (some ⟨qb,0,none⟩)] 83 (0,0))
 n1:¬CT kb qb W z
 n2:¬CT kb qb W (z+1)
theorem VlI.step {N B wb kb qb cb base:Nat} {c:Sc} {ev nv:Value} {z:Nat} {s s':Cd×List Lt} {W W':World} (hN:21<=N) (h:VlI N B wb kb qb cb base c ev nv z s W) (hw:∃lv,WL N B wb kb qb cb base c ev nv lv s'.1 s'.2 W') (hf:FT (CT kb qb) W W'):VlI N B wb kb qb cb base c ev nv z s' W':=by
 obtain ⟨lv,hl⟩:=h.wl
 exact ⟨hw,h.ops.old (hf.old hl.wi.qi.hN (λk e=>(hl.lt k e).1)) hN,(hf.fr.block _ (ze h.x1) h.n1).trans h.x1,(hf.fr.block _ (ze h.x2) h.n2).trans h.x2,hf.not (ze h.x1) h.n1,hf.not (ze h.x2) h.n2⟩
theorem VlI.keep {N B wb kb qb cb base:Nat} {c:Sc} {ev nv:Value} {z:Nat} {s:Cd×List Lt} {W W':World} (hN:21<=N) (h:VlI N B wb kb qb cb base c ev nv z s W) (hB:Below W.heap.size W W'):VlI N B wb kb qb cb base c ev nv z s W'/\∀k,CT kb qb W' k->CT kb qb W k:=by
 obtain ⟨lv,hl⟩:=h.wl
 exact ⟨h.step hN ⟨lv,hl.keep hB⟩ (FT.below hB (hl.tk hB)),hl.tk hB⟩
theorem zrn:zH 121:=λ_ _=>by kernel_rfl
theorem zrr:zH 122:=λ_ _=>by kernel_rfl
theorem zq5 {N:Nat} (t:Tm) (v:Value) (k:Nat×Nat) (w:World) (hT:TT w N t v) :
 Calls Tryz.prog 121 #[v,ckV k] w (λe w'=>e=.returned (.bool (zak t))/\Below w.heap.size w w'):=by
 obtain ⟨b,args,vs,rfl,hb,hblk,_⟩:=hT.ptr
 obtain ⟨m0,m1,m2,m3,m4,m5,mf,mz⟩:=zt hblk
 clear hT hblk m1 m2 m3 m4 m5
 unfold ckV
 by_cases h9:t.k=9
 · have HG:Hid (zak t=false):=by unfold Hid zak;simp [h9]
   have m0':w.cell? ⟨b,0,none⟩=some (.int .i64 9):=by rw [m0,h9];rfl
   clear h9 m0
   go_enter Tryz.func121,Tryz.ntmps121
   go_wp2_with fail
   go_ret
   rw [HG.out]
   exact ⟨rfl,zq w _⟩
 · have HG:Hid (zak t=true):=by unfold Hid zak;simp [h9]
   have h9':¬(t.k:Int)=9:=by omega
   clear h9
   go_enter Tryz.func121,Tryz.ntmps121
   go_wp2_with fail
   go_ret
   rw [HG.out]
   exact ⟨by simp [h9'],zq w _⟩
theorem zq1 {N B wb kb qb cb base:Nat} {c:Sc} {ev nv:Value} {z:Nat} (bod:Sc->Nat->Cd->Cd) (fu:Nat) (hN21:21<=N) (hbase:base<=100000) (t:Tm) (hWf:Wf t) (v:Value) (k:Nat×Nat) (s:Cd×List Lt) (w:World) (hT:TT w N t v) (h:VlI N B wb kb qb cb base c ev nv z s w) (hbd:BdW (zal bod c base fu s t k)) (hbs:BdW s)
 (hcal:t.k=4->∀lv W,WL N B wb kb qb cb base c ev nv lv s.1 s.2 W->TT W N t v->zbt W->Calls Tryz.prog 152 #[.pointer (some ⟨wb,0,none⟩),.pointer (some ⟨qb,0,none⟩),v,ckV k] W (λe w'=>e=.returned (.tuple #[])/\(∃lv',WL N B wb kb qb cb base c ev nv lv' (zeb bod c base fu s.1 t k) s.2 w')/\FT (CT kb qb) W w')) :
 Calls Tryz.prog 122 #[v,ckV k,.pointer (some ⟨z,0,none⟩),.pointer (some ⟨z+1,0,none⟩)] w (λe w'=>e=.returned (.tuple #[])/\VlI N B wb kb qb cb base c ev nv z (zal bod c base fu s t k) w'/\FT (CT kb qb) w w'):=by
 have HV:=za (λo=>(h.keep hN21 (zq w o)).1)
 obtain ⟨lv,hl⟩:=h.wl
 have HF:=za (λo=>zlB bod fu hN21 hbase t hWf v k s (w.alloc o) (hT.old (zeW hl.wi.qi.hN o)) (hl.keep (zq w o)) (h.keep hN21 (zq w o)).1.ops hbd hbs (λh4 W h1 h2 h3=>hcal h4 lv W h1 h2 h3))
 have HT0:=za (λo=>FT.below (zq w o) (hl.tk (zq w o)))
 obtain ⟨x0,xf,xz⟩:=zu h.x1
 obtain ⟨y0,yf,yz⟩:=zu h.x2
 obtain ⟨b,args,vs,rfl,hb,hblk,_⟩:=hT.ptr
 obtain ⟨Sf,hSf⟩:∃Sf,zal bod c base fu s t k=Sf:=⟨_,rfl⟩
 rw [hSf] at HF ⊢
 unfold ckV at HF ⊢
 clear h hl hT hblk hcal hSf hbd hbs hWf
 go_enter Tryz.func122,Tryz.ntmps122
 go_wp2_with (go_at_call 123;refine (HF.out _).mono ?_;rintro e w2 ⟨rfl,hL2,hF2⟩;have HL2:=za hL2;have HF2:=za hF2;clear hL2 hF2)
 first|go_end0|refine bodyPost_ret (results_none rfl _ _ _) rfl ?_
 exact ⟨rfl,(HV.out _).step hN21 HL2.out HF2.out,(HT0.out _).trans HF2.out⟩
theorem zpd {N B wb kb qb cb base:Nat} {c:Sc} {ev nv:Value} {z:Nat} (bod:Sc->Nat->Cd->Cd) (fu:Nat) (Pt:Tm->Nat×Nat->Prop) (hN21:21<=N) (hbase:base<=100000)
 (hPw:∀t k,Pt t k->Wf t) (hPs:∀t k i u,Pt t k->zak t=true->t.ts[i]?=some u->Pt u (c.operand t i k)) (hbod:∀d b K,BdK (bod d b K)->BdK K) (hC:zlS N B wb kb qb cb base c ev nv bod fu Pt) :
 znz N c ev nv cb (CT kb qb) 121 #[] 122 #[.pointer (some ⟨z,0,none⟩),.pointer (some ⟨z+1,0,none⟩)] Pt (λt _=>zak t) (λs _ _=>s) (zal bod c base fu) (VlI N B wb kb qb cb base c ev nv z) BdW where
 entE:=zrn
 entL:=zrr
 hT:=λs w k hI e=>by obtain ⟨lv,hl⟩:=hI.wl;exact hl.lt k e
 keep:=λs w w' h hB=>h.keep hN21 hB
 sub:=hPs
 bE:=λ_ _ _ h=>h
 bL:=λs t k h=>zi7 hbod s t k h
 callE:=λt v k s w hT hN hS hCk hI hP _=>by
  refine (zq5 t v k w hT).mono ?_
  rintro e w' ⟨h1,h2⟩
  obtain ⟨lv,hl⟩:=hI.wl
  exact ⟨h1,(hI.keep hN21 h2).1,FT.below h2 (hl.tk h2)⟩
 callL:=λt v k s w hT hN hS hCk hI hP hb=>zq1 bod fu hN21 hbase t (hPw t k hP) v k s w hT hI hb (zi7 hbod s t k hb) (λh4 lv W h1 h2 h3=>hC t k hP h4 s lv W v h1 h2 h3 hb)
def zbk (bod:Sc->Nat->Cd->Cd) (c:Sc) (base fu:Nat) (s:Cd×List Lt) (t:Tm) (k:Nat×Nat):Cd×List Lt:=zcs c (λt _=>zak t) (λs _ _=>s) (zal bod c base fu) t k s
theorem zir {N B wb kb qb cb base:Nat} {c:Sc} {ev nv lv:Value} (bod:Sc->Nat->Cd->Cd) (fu:Nat) (Pt:Tm->Nat×Nat->Prop) (hN21:21<=N) (hbase:base<=100000)
 (hPw:∀t k,Pt t k->Wf t) (hPs:∀t k i u,Pt t k->zak t=true->t.ts[i]?=some u->Pt u (c.operand t i k)) (hbod:∀d b K,BdK (bod d b K)->BdK K) (hC:zlS N B wb kb qb cb base c ev nv bod fu Pt)
 (t:Tm) (v:Value) (k:Nat×Nat) (s:Cd×List Lt) (w:World) (hT:TT w N t v) (h:WL N B wb kb qb cb base c ev nv lv s.1 s.2 w) (hop:zbt w) (hP:Pt t k) (hbd:BdW (zbk bod c base fu s t k)) :
 Calls Tryz.prog 70 #[.pointer (some ⟨wb,0,none⟩),.pointer (some ⟨qb,0,none⟩),v,ckV k] w (λe w'=>e=.returned (.tuple #[])/\(∃lv',WL N B wb kb qb cb base c ev nv lv' (zbk bod c base fu s t k).1 (zbk bod c base fu s t k).2 w')/\FT (CT kb qb) w w'):=by
 obtain ⟨xe,cpe,nb,rfl,rfl,hnb⟩:=h.wi.qi.sc.shape
 obtain ⟨b,args,vs,rfl,hb,hblk,_⟩:=hT.ptr
 have hmf:∀(fn:Go.Fn) (first cap:Array Value) (w:World),(Instr.makeFunc fn first cap).run Tryz.prog w=.ok (.func fn first cap) w:=λ_ _ _ _=>rfl
 have HT:=za hT
 have H:=za h
 have Hop:=za hop
 have HV:=za (zpd (z:=w.heap.size) bod fu Pt hN21 hbase hPw hPs hbod hC)
 have HP:=za hP
 have Hbd:=za hbd
 have hNw:=h.wi.qi.hN
 obtain ⟨Sf,hSf⟩:∃Sf,zbk bod c base fu s t k=Sf:=⟨_,rfl⟩
 rw [hSf]
 have HSf:=za hSf
 clear hT h hop hblk hC hPw hPs hbod hP hbd hSf
 unfold ckV
 go_enter Tryz.func70,Tryz.ntmps70
 go_upto_region 3 with fail
 refine zn (λW=>VlI N B wb kb qb cb base c (.slice xe c.er.length cpe) (.pointer (some ⟨nb,0,none⟩)) w.heap.size s W/\W.heap[w.heap.size+1+1]?=some (.cells #[.int .i64 (k.1:Nat),.int .i64 (k.2:Nat)] 169 (0,0))/\¬CT kb qb W (w.heap.size+1+1)/\FT (CT kb qb) w W) ⟨⟨⟨lv,H.out.keep (zcz w _ _ _)⟩,Hop.out.old (zot hNw _ _ _) hN21,(al3 w _ _ _).1,(al3 w _ _ _).2.1,λe=>by have:=(H.out.lt _ (H.out.tk (zcz w _ _ _) _ e)).2.1;omega,λe=>by have:=(H.out.lt _ (H.out.tk (zcz w _ _ _) _ e)).2.1;omega⟩,(al3 w _ _ _).2.2,λe=>by have:=(H.out.lt _ (H.out.tk (zcz w _ _ _) _ e)).2.1;omega,FT.below (zcz w _ _ _) (H.out.tk (zcz w _ _ _))⟩ ?_
 rintro W ⟨hV,hX,hnX,hF⟩
 obtain ⟨y0,yf,yz⟩:=zu hV.x2
 obtain ⟨z0,z1,zf,zz⟩:=zp hX
 obtain ⟨lv1,hl⟩:=hV.wl
 obtain ⟨m0,m1,m2,m3,m4,mf,mz⟩:=zcf hl.wi.qi.blk
 have hO:Old N w W:=hF.old hNw (λk e=>(H.out.lt k e).1)
 have HW:=za (zjG HV.out t k (.pointer (some ⟨b,0,none⟩)) s W.drew ((HT.out.old hO).old (λ_ _=>rfl)) hl.wi.qi.hN (hl.wi.qi.sc.old (λ_ _=>rfl)) (hl.wi.qi.ck.of' (w':=W.drew) rfl) (hV.keep hN21 (zo (Below.refl _ _))).1 HP.out Hbd.out)
 unfold ckV at HW
 have HFW:=za hF
 have n2:=hV.n2
 clear hV hX hl hF hO m3 m4 HV
 go_region_held3 (λw'=>w'.cell? ⟨w.heap.size+1,0,none⟩=some (.pointer (some ⟨qb,0,none⟩))/\w'.cell? ⟨w.heap.size+1+1,0,none⟩=some (.int .i64 (k.1:Nat))/\w'.cell? ⟨w.heap.size+1+1,1,none⟩=some (.int .i64 (k.2:Nat))/\w'.cell? ⟨qb,0,none⟩=some (.slice xe c.er.length cpe)/\w'.cell? ⟨qb,1,none⟩=some (.pointer (some ⟨nb,0,none⟩))/\w'.cell? ⟨qb,2,none⟩=some (.map (some cb)))
  (first|(refine ⟨?_,?_,?_,?_,?_,?_⟩ <;> repeat (first|with_reducible exact y0|with_reducible exact z0|with_reducible exact z1|with_reducible exact m0|with_reducible exact m1|with_reducible exact m2|with_reducible exact r0|with_reducible exact r1|with_reducible exact r2|with_reducible refine zg ?_|with_reducible refine FT.cell HF2.out ?_ (by assumption)))|go_keep)
  (first
    | (go_at_call 110;refine HW.out.mono ?_;rintro e w2 ⟨rfl,hV2,hF2⟩;obtain ⟨lv9,hl9⟩:=hV2.wl;obtain ⟨r0,r1,r2,r3,r4,rf,rz⟩:=zcf hl9.wi.qi.blk;have HV2:=za hV2;have HF2:Hid (FT (CT kb qb) W w2):=⟨hF2.fr.undrew,hF2.tk⟩;clear hV2 hF2 hl9))
 all_goals go_wp2_with fail
 all_goals first|go_end0|refine bodyPost_ret (results_none rfl _ _ _) rfl ?_
 all_goals rw [<- HSf.out]
 all_goals exact ⟨rfl,HV2.out.wl,HFW.out.trans HF2.out⟩
end
section
open Go.RowKit
attribute [local go_sem ↓] Go.wp_at_zero Go.wp_at_succ
def za8 (w:World) (b:Nat) (L:List (Nat×Nat)):Prop :=
 ∃l:List ((Int×Int)×Value),zbn w b pr l/\(∀p:Nat×Nat,(zaT (clk p) l).isSome=true↔p∈L)/\(∀k v,zaT k l=some v->v=.agg #[])
theorem za8.of' {w w':World} {b:Nat} {L:List (Nat×Nat)} (h:za8 w b L) (hb:w'.heap[b]?=w.heap[b]?):za8 w' b L:=by
 obtain ⟨l,h1,h2,h3⟩:=h
 exact ⟨l,h1.of hb,h2,h3⟩
theorem za8.lt {w:World} {b:Nat} {L:List (Nat×Nat)} (h:za8 w b L):b<w.heap.size:=by
 obtain ⟨l,h1,_⟩:=h
 exact h1.lt
theorem za8.keep {w w':World} {b:Nat} {L:List (Nat×Nat)} (h:za8 w b L) (hB:Below w.heap.size w w'):za8 w' b L:=h.of' (hB.block _ h.lt)
theorem zpI {p q:Nat×Nat} (h:clk p=clk q):p=q:=by
 simp only [clk,Prod.mk.injEq] at h
 exact Prod.ext (by omega) (by omega)
theorem zqM {w:World} {b:Nat} {L:List (Nat×Nat)} (h:za8 w b L) (p:Nat×Nat) :
 ∃w',(Instr.mapUpdate 229 (.map (some b)) (.agg #[.int .i64 (p.1:Nat),.int .i64 (p.2:Nat)]) (.agg #[])).run Tryz.prog w=.ok () w'/\za8 w' b (L++[p])/\Fr (·=b) w w':=by
 obtain ⟨l,h1,h2,h3⟩:=h
 obtain ⟨w',r,m,f⟩:=zgh Tryz.keyLink Tryz.underlying229 h1 (clk p) (.agg #[])
 refine ⟨w',r,⟨_,m,λq=>?_,λk v hk=>?_⟩,f⟩
 · rw [zgD,List.mem_append]
   by_cases e:clk p=clk q
   · rw [if_pos e]
     simp [zpI e]
   · rw [if_neg e,h2 q]
     refine ⟨Or.inl,λh=>h.resolve_right (λh=>e ?_)⟩
     rw [List.mem_singleton.1 h]
 · rw [zgD] at hk
   split at hk
   · exact (Option.some.inj hk).symm
   · exact h3 k v hk
theorem Tryz.zeroUnit (w:World):(zeroValue 259).run Tryz.prog w=.ok (.agg #[]) w:=by kernel_rfl
theorem zqm {w:World} {b:Nat} {L:List (Nat×Nat)} (h:za8 w b L) (p:Nat×Nat) :
 (Instr.lookup 229 (.map (some b)) (.agg #[.int .i64 (p.1:Nat),.int .i64 (p.2:Nat)]) true).run Tryz.prog w=.ok (.tuple #[.agg #[],.bool (decide (p∈L))]) w:=by
 obtain ⟨l,h1,h2,h3⟩:=h
 refine (zgI Tryz.keyLink Tryz.underlying229 Tryz.zeroUnit h1 (clk p) true).trans ?_
 rw [if_pos rfl]
 have e1:(zaT (clk p) l).getD (.agg #[])=.agg #[]:=by
  cases hl:zaT (clk p) l with
  | none=>rfl
  | some v=>exact h3 _ _ hl
 have e2:(zaT (clk p) l).isSome=decide (p∈L):=by
  rw [Bool.eq_iff_iff,h2 p];simp
 rw [e1,e2]
theorem zhH {b:Nat} {L:List (Nat×Nat)} (i j:Nat) (w:World) (h:za8 w b L) :
 Calls Tryz.prog 147 #[.map (some b),.int .i64 (i:Int),.int .i64 (j:Int)] w (λe w'=>e=.returned (.tuple #[])/\za8 w' b (L++[(i,j)])/\Fr (·=b) w w'):=by
 obtain ⟨w1,hr,hL,hF⟩:=zqM h (i,j)
 have HL:=za hL
 have HF:=za hF
 clear h hL hF
 simp only at hr
 go_enter Tryz.func147,Tryz.ntmps147
 go_wp2_with fail
 first|go_end0|refine bodyPost_ret (results_none rfl _ _ _) rfl ?_
 exact ⟨rfl,HL.out,HF.out⟩
theorem ze9 {b:Nat} {L:List (Nat×Nat)} (i j:Nat) (w:World) (h:za8 w b L) :
 Calls Tryz.prog 115 #[.map (some b),.int .i64 (i:Int),.int .i64 (j:Int)] w (λe w'=>e=.returned (.bool (decide ((i,j)∈L)))/\Below w.heap.size w w'):=by
 have hr:=zqm h (i,j)
 clear h
 simp only at hr
 go_enter Tryz.func115,Tryz.ntmps115
 go_wp2_with fail
 go_ret
 exact ⟨rfl,zq w _⟩
theorem zj6 (by' fr n m:Nat) (L:List (Nat×Nat)):zcA by' fr n (m+1) L=zcA by' fr n m (if (fr,by')∈L/\(by',n-(m+1))∈L then L++[(fr,n-(m+1))] else L):=rfl
theorem ziu (by' n m:Nat) (L:List (Nat×Nat)):zbJ by' n (m+1) L=zbJ by' n m (zcA by' (n-(m+1)) n n L):=rfl
theorem zj5 (n m:Nat) (L:List (Nat×Nat)):zeD n (m+1) L=zeD n m (zbJ (n-(m+1)) n n L):=rfl
theorem zgi {b:Nat} {w w1:World} (h:Below w.heap.size w w1):Fr (·=b) w w1:=Fr.of_below h
theorem zk8 {b:Nat} {L:List (Nat×Nat)} (n:Nat) (hn:n<=1000) (w:World) (h:za8 w b L) :
 Calls Tryz.prog 114 #[.map (some b),.int .i64 (n:Int)] w (λe w'=>e=.returned (.tuple #[])/\za8 w' b (zdT n L)/\Fr (·=b) w w'):=by
 have HL:=za h
 clear h
 go_enter Tryz.func114,Tryz.ntmps114
 go_wp2_with fail
 go_loopg [8] (n+1) (λj i wr=>∃(k:Nat) (L1:List (Nat×Nat)),k+j=n+1/\k<=n/\i=.int .i64 k/\Hid (za8 wr b L1)/\Hid (zdT n L=zeD n (j-1) L1)/\Hid (Fr (·=b) w wr))
 case atStart=>exact ⟨0,L,by omega,Nat.zero_le _,rfl,HL.out,rfl,Fr.refl _ _⟩
 case round =>
  obtain ⟨k,L1,hkj,hk,rfl,HL1,HD1,HF1⟩:=hrel
  by_cases hlt:k<n
  · obtain ⟨w1,rfl⟩:∃wo,wo=wr:=⟨_,rfl⟩
    obtain ⟨g1,rfl⟩:∃g,g=gk:=⟨_,rfl⟩
    go_wp2_with fail
    go_loopg [12] (n+1) (λj i wr=>∃(k2:Nat) (L2:List (Nat×Nat)),k2+j=n+1/\k2<=n/\i=.int .i64 k2/\Hid (za8 wr b L2)/\Hid (zbJ k n n L1=zbJ k n (j-1) L2)/\Hid (Fr (·=b) w wr))
    case atStart=>exact ⟨0,L1,by omega,Nat.zero_le _,rfl,HL1.out,rfl,HF1.out⟩
    case round =>
     obtain ⟨k2,L2,hkj2,hk2,rfl,HL2,HD2,HF2⟩:=hrel
     by_cases hlt2:k2<n
     · obtain ⟨w2,rfl⟩:∃wo,wo=wr:=⟨_,rfl⟩
       obtain ⟨g2,rfl⟩:∃g,g=gk:=⟨_,rfl⟩
       go_wp2_with fail
       go_loopg [16] (n+1) (λj i wr=>∃(k3:Nat) (L3:List (Nat×Nat)),k3+j=n+1/\k3<=n/\i=.int .i64 k3/\Hid (za8 wr b L3)/\Hid (zcA k k2 n n L2=zcA k k2 n (j-1) L3)/\Hid (Fr (·=b) w wr))
       case atStart=>exact ⟨0,L2,by omega,Nat.zero_le _,rfl,HL2.out,rfl,HF2.out⟩
       case round =>
        obtain ⟨k3,L3,hkj3,hk3,rfl,HL3,HD3,HF3⟩:=hrel
        by_cases hlt3:k3<n
        · obtain ⟨m,rfl⟩:∃m,gk=m+1+1:=⟨gk-1-1,by omega⟩
          have hE:=HD3.out
          rw [show m+1+1-1=m+1 from rfl,zj6,show n-(m+1)=k3 by omega] at hE
          have HE:=za hE
          have HH:=za (ze9 k2 k wr HL3.out)
          clear hE HD3
          by_cases h1:(k2,k)∈L3
          · rw [decide_eq_true h1] at HH
            by_cases h2:(k,k3)∈L3
            · rw [if_pos ⟨h1,h2⟩] at HE
              have H2:=za (λW (hB:Below wr.heap.size wr W)=>ze9 k k3 W (HL3.out.keep hB))
              rw [decide_eq_true h2] at H2
              clear h1 h2
              go_wp2_with (first
               | (go_at_call 147;refine HA.out.mono ?_;rintro e w5 ⟨rfl,hL5,hF5⟩;have HL5:=za hL5;have HF5:=za hF5;clear hL5 hF5)
               | (go_at_call 115;refine (H2.out _ HB3.out).mono ?_;rintro e w4 ⟨rfl,hB4⟩;have HB4:=za (HB3.out.trans (hB4.mono HB3.out.size));have HA:=za (zhH k2 k3 w4 (HL3.out.keep HB4.out));clear hB4)
               | (go_at_call 115;refine HH.out.mono ?_;rintro e w3 ⟨rfl,hB3⟩;have HB3:=za hB3;clear hB3))
              go_roundg (m+1)
              case measure=>omega
              exact ⟨k3+1,L3++[(k2,k3)],by omega,by omega,by go_num,HL5.out,HE.out,(HF3.out.trans (zgi HB4.out)).trans HF5.out⟩
            · rw [if_neg (λe=>h2 e.2)] at HE
              have H2:=za (λW (hB:Below wr.heap.size wr W)=>ze9 k k3 W (HL3.out.keep hB))
              rw [decide_eq_false h2] at H2
              clear h1 h2
              go_wp2_with (first
               | (go_at_call 115;refine (H2.out _ HB3.out).mono ?_;rintro e w4 ⟨rfl,hB4⟩;have HB4:=za (HB3.out.trans (hB4.mono HB3.out.size));clear hB4)
               | (go_at_call 115;refine HH.out.mono ?_;rintro e w3 ⟨rfl,hB3⟩;have HB3:=za hB3;clear hB3))
              go_roundg (m+1)
              case measure=>omega
              exact ⟨k3+1,L3,by omega,by omega,by go_num,HL3.out.keep HB4.out,HE.out,HF3.out.trans (zgi HB4.out)⟩
          · rw [if_neg (λe=>h1 e.1)] at HE
            rw [decide_eq_false h1] at HH
            clear h1
            go_wp2_with (go_at_call 115;refine HH.out.mono ?_;rintro e w3 ⟨rfl,hB3⟩;have HB3:=za hB3;clear hB3)
            go_roundg (m+1)
            case measure=>omega
            exact ⟨k3+1,L3,by omega,by omega,by go_num,HL3.out.keep HB3.out,HE.out,HF3.out.trans (zgi HB3.out)⟩
        · have:k3=n:=by omega
          subst this
          have:gk=1:=by omega
          subst this
          have HE:Hid (zcA k k2 k3 k3 L2=L3):=HD3.out
          clear HD3
          go_wp2_with fail
          go_roundg (g2-1)
          case measure=>omega
          refine ⟨k2+1,L3,by omega,by omega,by go_num,HL3.out,?_,HF3.out⟩
          have a:=HD2.out
          rw [show g2-1=(g2-1-1)+1 by omega,ziu,show k3-(g2-1-1+1)=k2 by omega,HE.out] at a
          exact a
     · have:k2=n:=by omega
       subst this
       have:gk=1:=by omega
       subst this
       have HE:Hid (zbJ k k2 k2 L1=L2):=HD2.out
       clear HD2
       go_wp2_with fail
       go_roundg (g1-1)
       case measure=>omega
       refine ⟨k+1,L2,by omega,by omega,by go_num,HL2.out,?_,HF2.out⟩
       have a:=HD1.out
       rw [show g1-1=(g1-1-1)+1 by omega,zj5,show k2-(g1-1-1+1)=k by omega,HE.out] at a
       exact a
  · have:k=n:=by omega
    subst this
    have:gk=1:=by omega
    subst this
    have HE:Hid (zdT k L=L1):=HD1.out
    clear HD1
    go_wp2_with fail
    first|go_end0|refine bodyPost_ret (results_none rfl _ _ _) rfl ?_
    exact ⟨rfl,by rw [HE.out];exact HL1.out,HF1.out⟩
end
end Go.Proofs.YtedmpgjebafcjaaGreatDoor
