/- Part 22 of the proof: CmpA ChkA ChkB. -/
import Derived.LaidEqlPtr
import Derived.Test.YtedmpgjebafcjaaGreatDoorK20
set_option maxRecDepth 100000
set_option maxHeartbeats 8000000
namespace Go.Proofs.YtedmpgjebafcjaaGreatDoor
section
open Go.RowKit
attribute [local go_sem ↓] Go.wp_at_zero Go.wp_at_succ
theorem Tryz.infoIns:(Tryz.prog.info? 70).map (λi=>(i.zero,i.size,i.bytes))=some (some (.agg #[.int .u8 0,.int .i64 0]),2,16):=by kernel_rfl
def zgV (w:World) (b o k:Nat):Prop:=∃v,w.cell? ⟨b,o,none⟩=some v/\v.ownBlock=some k
def KT (kb:Nat) (w:World) (k:Nat):Prop:=k=kb∨zgV w kb 0 k∨zgV w kb 3 k∨zgV w kb 5 k
def Cd.add (K:Cd) (op:Nat) (x:Int):Cd:={ K with row:=K.row++[(op,x)] }
structure KI (B wb kb:Nat) (bv cv rv:Value) (K:Cd) (w:World):Prop where
 wr:w.heap[wb]?=some (.cells #[.pointer (some ⟨kb,0,none⟩)] 104 (0,0))
 blk:w.heap[kb]?=some (.cells #[bv,.int .i64 K.outs,.int .i64 K.slots,cv,.int .i64 K.depth,rv] 67 (0,0))
 bown:w.ownsRow B 4 1 bv K.bools.length (K.bools.map .bool)
 cown:w.ownsRow B 2 1 cv K.cells.length (zK K.cells)
 rown:w.ownsRow B 70 2 rv K.row.length (zbs K.row)
 hwb:wb<B
 hkb:kb<B
 dk:¬wb=kb
 d1:∀k,bv.ownBlock=some k->¬cv.ownBlock=some k/\¬rv.ownBlock=some k
 d2:∀k,cv.ownBlock=some k->¬rv.ownBlock=some k
 hB:B<=w.heap.size
def KW (B wb kb:Nat) (K:Cd) (w:World):Prop:=∃bv cv rv,KI B wb kb bv cv rv K w
theorem KI.kt {B wb kb:Nat} {bv cv rv:Value} {K:Cd} {w:World} (h:KI B wb kb bv cv rv K w) (k:Nat):KT kb w k↔k=kb∨bv.ownBlock=some k∨cv.ownBlock=some k∨rv.ownBlock=some k:=by
 obtain ⟨m0,m1,m2,m3,m4,m5,mf,mz⟩:=zt h.blk
 unfold KT zgV
 rw [m0,m3,m5]
 constructor
 · rintro (e|⟨v,e1,e2⟩|⟨v,e1,e2⟩|⟨v,e1,e2⟩)
   · exact Or.inl e
   · cases e1;exact Or.inr (Or.inl e2)
   · cases e1;exact Or.inr (Or.inr (Or.inl e2))
   · cases e1;exact Or.inr (Or.inr (Or.inr e2))
 · rintro (e|e|e|e)
   · exact Or.inl e
   · exact Or.inr (Or.inl ⟨_,rfl,e⟩)
   · exact Or.inr (Or.inr (Or.inl ⟨_,rfl,e⟩))
   · exact Or.inr (Or.inr (Or.inr ⟨_,rfl,e⟩))
theorem KI.keep {B wb kb:Nat} {bv cv rv:Value} {K:Cd} {w w':World} (h:KI B wb kb bv cv rv K w) (hB:Below w.heap.size w w'):KI B wb kb bv cv rv K w' :=
 ⟨(hB.block _ (ze h.wr)).trans h.wr,(hB.block _ (ze h.blk)).trans h.blk,zi h.bown (λk _ hk _=>hB.block k hk),zi h.cown (λk _ hk _=>hB.block k hk),zi h.rown (λk _ hk _=>hB.block k hk),h.hwb,h.hkb,h.dk,h.d1,h.d2,Nat.le_trans h.hB hB.size⟩
theorem KW.keep {B wb kb:Nat} {K:Cd} {w w':World} (h:KW B wb kb K w) (hB:Below w.heap.size w w'):KW B wb kb K w':=by
 obtain ⟨bv,cv,rv,h⟩:=h
 exact ⟨bv,cv,rv,h.keep hB⟩
theorem KW.tk {B wb kb:Nat} {K:Cd} {w w':World} (h:KW B wb kb K w) (hB:Below w.heap.size w w'):∀k,KT kb w' k->KT kb w k:=by
 obtain ⟨bv,cv,rv,h⟩:=h
 intro k hk
 exact (h.kt k).2 (((h.keep hB).kt k).1 hk)
theorem KW.lt {B wb kb:Nat} {K:Cd} {w:World} (h:KW B wb kb K w):∀k,KT kb w k->k<w.heap.size:=by
 obtain ⟨bv,cv,rv,h⟩:=h
 intro k hk
 rcases (h.kt k).1 hk with e|e|e|e
 · subst e;exact ze h.blk
 · exact (h.bown.lt _ e).2
 · exact (h.cown.lt _ e).2
 · exact (h.rown.lt _ e).2
theorem KW.ge {B wb kb:Nat} {K:Cd} {w:World} (h:KW B wb kb K w):∀k,KT kb w k->k=kb∨B<=k:=by
 obtain ⟨bv,cv,rv,h⟩:=h
 intro k hk
 rcases (h.kt k).1 hk with e|e|e|e
 · exact Or.inl e
 · exact Or.inr (h.bown.lt _ e).1
 · exact Or.inr (h.cown.lt _ e).1
 · exact Or.inr (h.rown.lt _ e).1
theorem KW.ft {B wb kb:Nat} {K:Cd} {w w':World} (h:KW B wb kb K w) (hB:Below w.heap.size w w'):FT (KT kb) w w':=FT.below hB (h.tk hB)
theorem zrh {a b:Int}:∀u∈[Value.int .u8 a,.int .i64 b],u.oneCell'=true:=by simp [Value.oneCell']
theorem zcB {w:World} {B n:Nat} {e:TypeId} {sz:Nat} {vs:Value} {xs:List Value} (h:w.ownsRow B e sz vs n xs):∃x cp,vs=.slice x n cp:=by
 rcases h.2 with ⟨h1,h2⟩|⟨g,cap,cur,h1,_⟩
 · exact ⟨none,0,by rw [h1,h2]⟩
 · exact ⟨_,cap,h1⟩
theorem zmJ (l:List (Nat×Int)) (op:Nat) (x:Int):zbs (l++[(op,x)])=zbs l++[.int .u8 (op:Int),.int .i64 x]:=by
 unfold zbs;rw [List.flatMap_append];rfl
theorem KI.added {B wb kb:Nat} {bv cv rv v':Value} {K:Cd} {op:Nat} {x:Int} {w w9:World} {X:Obj} (h:KI B wb kb bv cv rv K w) (hF:Fr (λk=>rv.ownBlock=some k) (w.alloc X) w9)
 (hown:w9.ownsRow B 70 2 v' (K.row.length+1) (zbs K.row++[.int .u8 (op:Int),.int .i64 x])) (hnew:∀k,v'.ownBlock=some k->rv.ownBlock=some k∨w.heap.size+1<=k) :
 KW B wb kb (K.add op x) (w9.setCell ⟨kb,5,none⟩ v')/\FT (KT kb) w (w9.setCell ⟨kb,5,none⟩ v'):=by
 have hz:=h.hB
 have hwb:=h.hwb
 have hkb:=h.hkb
 have hs:(w.alloc X).heap.size=w.heap.size+1:=by simp
 have hz9:=hF.size
 have hb:∀k,k<w.heap.size->¬rv.ownBlock=some k->w9.heap[k]?=w.heap[k]?:=λk hk hn=>(hF.block k (by omega) hn).trans (Below.heap_alloc _ _ _ hk)
 have hb':∀k,k<w.heap.size->¬k=kb->¬rv.ownBlock=some k->(w9.setCell ⟨kb,5,none⟩ v').heap[k]?=w.heap[k]?:=λk hk h1 h2=>zr h1 (hb k hk h2)
 have hnr:∀k,k<B->¬rv.ownBlock=some k:=λk hk e=>by have:=(h.rown.lt _ e).1;omega
 have hI:KI B wb kb bv cv v' (K.add op x) (w9.setCell ⟨kb,5,none⟩ v'):=by
  refine ⟨(hb' wb (by omega) h.dk (hnr wb hwb)).trans h.wr,?_,zi h.bown (λk h1 h2 e=>hb' k h2 (by omega) (h.d1 k e).2),zi h.cown (λk h1 h2 e=>hb' k h2 (by omega) (h.d2 k e)),?_,hwb,hkb,h.dk,λk e=>⟨(h.d1 k e).1,λe'=>?_⟩,λk e e'=>?_,?_⟩
  · exact zh _ _ _ _ ((hb kb (by omega) (hnr kb hkb)).trans h.blk)
  · have:=zi hown (w':=w9.setCell ⟨kb,5,none⟩ v') (λk h1 h2 _=>zr (by omega) rfl)
    rw [<- zmJ] at this
    show World.ownsRow _ B 70 2 v' (K.row++[(op,x)]).length _
    rw [List.length_append]
    exact this
  · rcases hnew k e' with e2|e2
    · exact (h.d1 k e).2 e2
    · have:=(h.bown.lt _ e).2;omega
  · rcases hnew k e' with e2|e2
    · exact h.d2 k e e2
    · have:=(h.cown.lt _ e).2;omega
  · have:(w9.setCell ⟨kb,5,none⟩ v').heap.size=w9.heap.size:=by simp
    omega
 refine ⟨⟨bv,cv,v',hI⟩,⟨hF.os,hF.tape,hF.output,?_,λk hk hn=>?_⟩,λk hk=>?_⟩
 · have:(w9.setCell ⟨kb,5,none⟩ v').heap.size=w9.heap.size:=by simp
   omega
 · exact hb' k hk (λe=>hn ((h.kt k).2 (Or.inl e))) (λe=>hn ((h.kt k).2 (Or.inr (Or.inr (Or.inr e)))))
 · rcases (hI.kt k).1 hk with e|e|e|e
   · exact Or.inl ((h.kt k).2 (Or.inl e))
   · exact Or.inl ((h.kt k).2 (Or.inr (Or.inl e)))
   · exact Or.inl ((h.kt k).2 (Or.inr (Or.inr (Or.inl e))))
   · rcases hnew k e with e2|e2
     · exact Or.inl ((h.kt k).2 (Or.inr (Or.inr (Or.inr e2))))
     · exact Or.inr (by omega)
theorem zc7 (B wb kb:Nat) (K:Cd) (op:Nat) (x:Int) (w:World) (h:KW B wb kb K w) (hr:K.row.length<=1000000) :
 Calls Tryz.prog 36 #[.pointer (some ⟨wb,0,none⟩),.int .u8 (op:Int),.int .i64 x] w (λe w'=>e=.returned (.tuple #[])/\KW B wb kb (K.add op x) w'/\FT (KT kb) w w'):=by
 obtain ⟨bv,cv,rv,hI⟩:=h
 obtain ⟨xr,cpr,rfl⟩:=zcB hI.rown
 obtain ⟨a0,af,az⟩:=zu hI.wr
 obtain ⟨m0,m1,m2,m3,m4,m5,mf,mz⟩:=zt hI.blk
 obtain ⟨i0,hi,hi0,hi1,hi2⟩:=info_parts Tryz.infoIns
 have HI:=za hI
 have mx:K.row.length+1<=maxLen:=by unfold maxLen;omega
 have by':(K.row.length+1)*16<=140737488355328:=by omega
 have hwb:=hI.hwb
 have hkb:=hI.hkb
 have hBz:=hI.hB
 have hdk:=hI.dk
 clear hI m0 m1 m2 m3 m4 hr
 go_enter Tryz.func36,Tryz.ntmps36
 go_region_law (
  refine zJ _ rfl (.tmp 16) (.tmp 20) 65 rfl B 70 i0 _ 2 16 Tryz.underlying65 hi hi0 hi1 hi2 rfl (by decide) (.slice xr K.row.length cpr) K.row.length (zbs K.row) rfl (zD (HI.out.rown) _) ⟨w.heap.size,0,none⟩ 1 1 [.int .u8 (op:Int),.int .i64 x] rfl rfl (zN (zc w _) rfl) zrh mx by' (by simp;omega) ?_
  intro v' w9 hown9 hgrow hnew
  obtain ⟨g9,cap9,rfl,hg9⟩:=zM hown9 (by omega)
  have hF9:=(Fr.of_grown hgrow).undrew
  have hk9:=(hF9.block kb (by simp;omega) (λh=>by have:=(HI.out.rown.lt _ h).1;omega)).trans ((Below.heap_alloc _ _ _ (by omega)).trans HI.out.blk)
  have hw9:=(hF9.block wb (by simp;omega) (λh=>by have:=(HI.out.rown.lt _ h).1;omega)).trans ((Below.heap_alloc _ _ _ (by omega)).trans HI.out.wr)
  obtain ⟨b0,bf,bz⟩:=zu hw9
  have Hw9:=za hw9
  obtain ⟨q0,q1,q2,q3,q4,q5,qf,qz⟩:=zt hk9
  have Hk9:=za hk9
  have HF9:=za hF9
  have Hown9:=za hown9
  have Hnew9:=za hnew
  clear hown9 hgrow hnew hF9 hk9 hw9)
 all_goals go_wp2_with fail
 all_goals first|go_end0|refine bodyPost_ret (results_none rfl _ _ _) rfl ?_
 all_goals exact ⟨rfl,HI.out.added HF9.out Hown9.out (λk e=>(Hnew9.out k e).imp id (λh=>by have h':(w.alloc (.cells #[.int .u8 (op:Int),.int .i64 x] 70)).heap.size<=k:=h;rw [zsb] at h';exact h'))⟩
end
section
open Go.RowKit
attribute [local go_sem ↓] Go.wp_at_zero Go.wp_at_succ
def zbp (S:Nat->Addr) (kd:Nat):Option Nat->Value
 | none=>.nilIface
 | some p=>.iface 74 (.agg #[sen S kd,.int .i64 p])
structure RpI (S:Nat->Addr) (kd lb bb sb:Nat) (nmv askv:Value) (st:Option Nat) (w:World):Prop where
 l:w.heap[lb]?=some (.cells #[zbp S kd st] 43 (0,0))
 b:w.heap[bb]?=some (.cells #[.int .i64 (st.getD 0:Nat)] 3 (0,0))
 s:w.heap[sb]?=some (.cells #[nmv,sen S kd,askv] 153 (0,0))
 n1:lb≠bb
 n2:lb≠sb
 n3:bb≠sb
def RT (lb bb:Nat) (k:Nat):Prop:=k=lb∨k=bb
def zam (lb bb sb:Nat):Value:=.func (.func 117) #[] #[.pointer (some ⟨lb,0,none⟩),.pointer (some ⟨bb,0,none⟩),.pointer (some ⟨sb,0,none⟩)]
theorem RpI.keep {S:Nat->Addr} {kd lb bb sb:Nat} {nmv askv:Value} {st:Option Nat} {w w':World} (h:RpI S kd lb bb sb nmv askv st w) (hB:Below w.heap.size w w'):RpI S kd lb bb sb nmv askv st w' :=
 ⟨(hB.block _ (ze h.l)).trans h.l,(hB.block _ (ze h.b)).trans h.b,(hB.block _ (ze h.s)).trans h.s,h.n1,h.n2,h.n3⟩
theorem zhY {w:World} {b:Nat} {e:TypeId} {v0:Value} (h:w.heap[b]?=some (.cells #[v0] e (0,0))) (v:Value):(w.setCell ⟨b,0,none⟩ v).heap[b]?=some (.cells #[v] e (0,0)):=zh _ _ _ _ h
theorem zkD {S:Nat->Addr} {kd lb bb sb:Nat} {nmv askv:Value} {st:Option Nat} {w w1:World} (h:RpI S kd lb bb sb nmv askv st w) (hB:Below w.heap.size w w1) (p:Nat) :
 RpI S kd lb bb sb nmv askv (some p) ((w1.setCell ⟨lb,0,none⟩ (zbp S kd (some p))).setCell ⟨bb,0,none⟩ (.int .i64 p))/\Fr (RT lb bb) w ((w1.setCell ⟨lb,0,none⟩ (zbp S kd (some p))).setCell ⟨bb,0,none⟩ (.int .i64 p)):=by
 have h1:=h.keep hB
 refine ⟨⟨(zr h.n1 rfl).trans (zhY h1.l _),zhY ((zr (λe=>h.n1 e.symm) rfl).trans h1.b) _,(zr (λe=>h.n3 e.symm) rfl).trans ((zr (λe=>h.n2 e.symm) rfl).trans h1.s),h.n1,h.n2,h.n3⟩,?_⟩
 have hf:Fr (RT lb bb) w w1:=Fr.of_below hB
 exact (hf.setCell (Or.inl (Or.inl rfl)) _).setCell (Or.inl (Or.inr rfl)) _
theorem zaa (S:Nat->Addr) (kd lb bb sb:Nat) (nmv askv:Value) (st:Option Nat) (p:Nat) (w:World) (h:RpI S kd lb bb sb nmv askv st w) :
 Calls Tryz.prog 117 #[.int .i64 p,.pointer (some ⟨lb,0,none⟩),.pointer (some ⟨bb,0,none⟩),.pointer (some ⟨sb,0,none⟩)] w (λe w'=>e=.returned (.tuple #[])/\RpI S kd lb bb sb nmv askv (rep st p) w'/\Fr (RT lb bb) w w'):=by
 obtain ⟨l0,lf,lz⟩:=zu h.l
 obtain ⟨b0,bf,bz⟩:=zu h.b
 obtain ⟨s0,s1,s2,sf,sz⟩:=zL h.s
 have H:=za h
 have n1:¬lb=bb:=h.n1
 have n1':¬bb=lb:=λe=>h.n1 e.symm
 clear h
 unfold sen at s1
 cases st with
 | none =>
   have e0:rep none p=some p:=rfl
   rw [e0]
   unfold zbp at l0
   go_enter Tryz.func117,Tryz.ntmps117
   go_wp2_with (go_at_call 44;refine (zi3 S kd p _).mono ?_;rintro e w1 ⟨rfl,hB⟩;have hK:=H.out.keep hB;obtain ⟨l1,lf1,lz1⟩:=zu hK.l;obtain ⟨b1,bf1,bz1⟩:=zu hK.b;have HB:=za hB;clear hB hK)
   go_end0
   obtain ⟨k1,k2⟩:=zkD H.out HB.out p
   exact ⟨rfl,k1,k2⟩
 | some b =>
   unfold zbp at l0
   have b0':w.cell? ⟨bb,0,none⟩=some (.int .i64 (b:Nat)):=b0
   clear b0
   by_cases hlt:p<b
   · have e0:rep (some b) p=some p:=by show (if p<b then some p else some b)=_;rw [if_pos hlt]
     rw [e0]
     go_enter Tryz.func117,Tryz.ntmps117
     go_wp2_with (go_at_call 44;refine (zi3 S kd p _).mono ?_;rintro e w1 ⟨rfl,hB⟩;have hK:=H.out.keep hB;obtain ⟨l1,lf1,lz1⟩:=zu hK.l;obtain ⟨b1,bf1,bz1⟩:=zu hK.b;have HB:=za hB;clear hB hK)
     go_end0
     obtain ⟨k1,k2⟩:=zkD H.out HB.out p
     exact ⟨rfl,k1,k2⟩
   · have e0:rep (some b) p=some b:=by show (if p<b then some p else some b)=_;rw [if_neg hlt]
     rw [e0]
     go_enter Tryz.func117,Tryz.ntmps117
     go_wp2_with fail
     go_end0
     exact ⟨rfl,H.out,Fr.refl _ w⟩
theorem zf2 {N:Nat} {t:Tm} {v:Value} (w:World) (h:TT w N t v) :
 Calls Tryz.prog 101 #[v] w (λe w'=>e=.returned (.bool (zaJ t.k))/\w=w'):=by
 obtain ⟨b,args,vs,rfl,hb,hblk,_⟩:=h.ptr
 obtain ⟨h0,h1,h2,h3,h4,h5,hf,hz⟩:=zt hblk
 clear h
 have hc:t.k=3∨t.k=7∨t.k=8∨t.k=6∨(t.k≠3/\t.k≠7/\t.k≠8/\t.k≠6):=by omega
 generalize t.k=k at *
 rcases hc with rfl|rfl|rfl|rfl|⟨c1,c2,c3,c4⟩
 · go_enter Tryz.func101,Tryz.ntmps101
   go_wp2_with fail
   go_ret
   exact ⟨rfl,rfl⟩
 · go_enter Tryz.func101,Tryz.ntmps101
   go_wp2_with fail
   go_ret
   exact ⟨rfl,rfl⟩
 · go_enter Tryz.func101,Tryz.ntmps101
   go_wp2_with fail
   go_ret
   exact ⟨rfl,rfl⟩
 · go_enter Tryz.func101,Tryz.ntmps101
   go_wp2_with fail
   go_ret
   exact ⟨rfl,rfl⟩
 · have d1:((k:Int)==3)=false:=by simp;omega
   have d2:((k:Int)==7)=false:=by simp;omega
   have d3:((k:Int)==8)=false:=by simp;omega
   have d4:((k:Int)==6)=false:=by simp;omega
   have HK:Hid (zaJ k=false):=by unfold Hid zaJ;simp [c1,c2,c3,c4]
   clear c1 c2 c3 c4
   go_enter Tryz.func101,Tryz.ntmps101
   go_wp2_with fail
   go_ret
   exact ⟨by rw [HK.out];rfl,rfl⟩
end
section
open Go.RowKit
attribute [local go_sem ↓] Go.wp_at_zero Go.wp_at_succ
theorem zI {B:Nat} {a w:World} (h:Below B a w) (n:Nat):Below B a (w.drewN n):=⟨h.os,h.tape,h.output,h.size,h.block⟩
theorem Tryz.sizeEx:(Tryz.prog.info? 216).map (·.size)=some 6:=by kernel_rfl
theorem zoG (b:Nat) (w:World):(binOp .eql 164 (.pointer (some ⟨b,0,none⟩)) (.pointer (some ⟨b,0,none⟩))).run Tryz.prog w=.ok (.bool true) w:=by
 cases h:Tryz.prog.info? 216 with
 | none=>have:=Tryz.sizeEx;rw [h] at this;cases this
 | some j=>exact run_eql_ptr_same w _ Tryz.underlying164 h
theorem zmX {b b2:Nat} {w:World} {c1 c2:Array Value} {t1 t2:TypeId} (hne:b≠b2) (h1:w.heap[b]?=some (.cells c1 t1 (0,0))) (h2:w.heap[b2]?=some (.cells c2 t2 (0,0))):(binOp .eql 164 (.pointer (some ⟨b,0,none⟩)) (.pointer (some ⟨b2,0,none⟩))).run Tryz.prog w=.ok (.bool false) w:=by
 have hs:=Tryz.sizeEx
 cases h:Tryz.prog.info? 216 with
 | none=>rw [h] at hs;cases hs
 | some j =>
   rw [h] at hs
   have:j.size=6:=by simpa using hs
   exact run_eql_ptr_other w Tryz.underlying164 h (by omega) (by intro e;cases e;exact hne rfl) h1 h2
theorem znj {N:Nat} {q:Qn} {lv rv:Value} {t:Tm} {v:Value} (w:World) (hE:EqV w N q lv rv) (hT:TT w N t v) (hW:zfa q rv t v) :
 Calls Tryz.prog 103 #[.agg #[lv,.int .i64 q.a,rv],v] w (λe w'=>e=.returned (.int .i64 (zda q t:Nat))/\Below w.heap.size w w'):=by
 obtain ⟨b,_,_,rfl,_,hb,_⟩:=hT.ptr
 obtain ⟨b2,_,_,rfl,_,hb2,_⟩:=hE.tt.ptr
 obtain ⟨x,cp,rfl⟩:=zB hE.own
 by_cases hv:b=b2
 · subst hv
   have e:=hT.det hE.tt
   have HU:Hid (zda q t=q.ns.length):=by unfold Hid zda;rw [e,if_pos rfl]
   have hq:=zoG b
   clear hE hT hW e hb hb2
   go_enter Tryz.func103,Tryz.ntmps103
   go_wp2_with fail
   go_ret
   exact ⟨by rw [HU.out];rfl,zq _ _⟩
 · have HU:Hid (zda q t=1):=by
    unfold Hid zda
    rcases hW with ⟨_,e⟩|h
    · cases e;exact absurd rfl hv
    · rw [if_neg (by omega)]
   have hq:=λo=>zmX (w:=w.alloc o) hv ((Below.heap_alloc _ _ _ (ze hb)).trans hb) ((Below.heap_alloc _ _ _ (ze hb2)).trans hb2)
   clear hE hT hW hb hb2
   go_enter Tryz.func103,Tryz.ntmps103
   go_wp2_with fail
   go_ret
   exact ⟨by rw [HU.out];rfl,zq _ _⟩
theorem znK {N:Nat} {c:Sc} {ev nv:Value} {t:Tm} {v:Value} (u:Nat) (w:World) (h:ScV w N c ev nv) (hN:N<=w.heap.size) (h6:c.er.length<=6) (hT:TT w N t v) :
 Calls Tryz.prog 102 #[.agg #[ev,nv],v,.int .i64 u] w (λe w'=>e=.returned (.bool (c.fits t u))/\Below w.heap.size w w'):=by
 obtain ⟨b,args,vs,rfl,hb,hblk,hown,hlen,_⟩:=hT.ptr
 obtain ⟨xa,cpa,rfl⟩:=zB hown
 have HSc:=za h
 obtain ⟨xe,cpe,nb,rfl,rfl,_⟩:=h.shape
 have ec:Hid (c.fits t u=match c.called t.s with|none=>false|some d=>d.nd.ins==t.ts.length&&d.nd.outs==u):=rfl
 have hlen':vs.length=t.ts.length:=hlen
 have hbz:=ze hblk
 rw [hlen'] at hblk
 have HBk:=za hblk
 clear hT hown h hlen hlen' hblk
 go_enter Tryz.func102,Tryz.ntmps102
 go_upto_region 1 with fail
 refine zn (λW=>W.heap[w.heap.size]?=some (.cells #[.slice xe c.er.length cpe,.pointer (some ⟨nb,0,none⟩)] 206 (0,0))/\Below w.heap.size w W) ⟨zc w _,zq w _⟩ ?_
 rintro W ⟨hs,hB⟩
 obtain ⟨s0,s1,sf,sz⟩:=zp hs
 obtain ⟨h0,h1,h2,h3,h4,h5,hf,hz⟩:=zt ((hB.block b hbz).trans HBk.out)
 have hO:=zm hB hN
 have HB:=za hB
 have Hs:=za hs
 have hNW:N<=W.heap.size:=by omega
 have hS1:=HSc.out.old (w':=W.drew) hO
 have hS2:=λo=>HSc.out.old (w':=(W.alloc o).drew) (hO.trans (λk hk=>Below.heap_alloc _ _ _ (by omega)))
 clear hs hB h0 h1 h4
 cases hcal:c.called t.s with
 | none =>
   rw [hcal] at ec
   have HC1:=za (zc4 t.s (t.nm:Int) W.drew hS1 hNW h6 hcal)
   have HC2:=za (λo=>zc4 t.s (t.nm:Int) (W.alloc o).drew (hS2 o) (by show N<=(W.alloc o).heap.size;simp;omega) h6 hcal)
   clear hS1 hS2 hcal
   go_region_held3 (λw'=>w'.cell? ⟨w.heap.size,0,none⟩=some (.slice xe c.er.length cpe)/\w'.cell? ⟨w.heap.size,1,none⟩=some (.pointer (some ⟨nb,0,none⟩))/\w'.cell? ⟨b,2,none⟩=some (.string t.s)/\w'.cell? ⟨b,3,none⟩=some (.int .i64 t.nm))
    (first|(refine ⟨?_,?_,?_,?_⟩ <;> repeat (first|with_reducible exact s0|with_reducible exact s1|with_reducible exact h2|with_reducible exact h3|with_reducible refine zg ?_|with_reducible refine zj _ ?_|with_reducible refine zk (by omega) ?_|with_reducible refine zd HB1.out ?_ (by first|omega|(rw [zsb];omega))))|go_keep)
    (first
      | (go_at_call 96;refine HC1.out.mono ?_;rintro e w1 ⟨rfl,hB1⟩;have HB1:=za (zw hB1);clear hB1)
      | (go_at_call 96;refine (HC2.out _).mono ?_;rintro e w1 ⟨rfl,hB1⟩;have HB1:=za (zw hB1);obtain ⟨y0,y1,yf,yz⟩:=zp ((HB1.out.block W.heap.size (by rw [zsb];omega)).trans (zc W _));clear hB1))
   · go_wp2_with fail
     go_quiet (fail)
     go_wp2_with fail
     go_ret
     exact ⟨by rw [ec.out];rfl,zI ((HB.out.trans (HB1.out.mono (by omega))).alloc (by have:=HB1.out.size;omega) _) _⟩
   · go_wp2_with fail
     go_quiet (fail)
     go_wp2_with fail
     go_ret
     exact ⟨by rw [ec.out];rfl,zI (zC (zC (HB.out.trans ((zE HB1.out).mono (by omega))) (by omega) _) (by omega) _) _⟩
 | some d =>
   rw [hcal] at ec
   have HC1:=za (zah t.s (t.nm:Int) W.drew hS1 hNW h6 hcal)
   have HC2:=za (λo=>zah t.s (t.nm:Int) (W.alloc o).drew (hS2 o) (by show N<=(W.alloc o).heap.size;simp;omega) h6 hcal)
   clear hS1 hS2 hcal
   go_region_held3 (λw'=>w'.cell? ⟨w.heap.size,0,none⟩=some (.slice xe c.er.length cpe)/\w'.cell? ⟨w.heap.size,1,none⟩=some (.pointer (some ⟨nb,0,none⟩))/\w'.cell? ⟨b,2,none⟩=some (.string t.s)/\w'.cell? ⟨b,3,none⟩=some (.int .i64 t.nm))
    (first|(refine ⟨?_,?_,?_,?_⟩ <;> repeat (first|with_reducible exact s0|with_reducible exact s1|with_reducible exact h2|with_reducible exact h3|with_reducible refine zg ?_|with_reducible refine zj _ ?_|with_reducible refine zk (by omega) ?_|with_reducible refine zd HB1.out ?_ (by first|omega|(rw [zsb];omega))))|go_keep)
    (first
      | (go_at_call 96;refine HC1.out.mono ?_;rintro e w1 ⟨x2,cp2,n2,rfl,hsc,hB1⟩;have HB1:=za (zw hB1);have HS2:=za hsc;clear hB1 hsc)
      | (go_at_call 96;refine (HC2.out _).mono ?_;rintro e w1 ⟨x2,cp2,n2,rfl,hsc,hB1⟩;have HB1:=za (zw hB1);have HS2:=za hsc;obtain ⟨y0,y1,yf,yz⟩:=zp ((HB1.out.block W.heap.size (by rw [zsb];omega)).trans (zc W _));clear hB1 hsc))
   · go_wp2_with fail
     obtain ⟨nn,vs2,qv2,xs2,e9,hnt⟩:=HS2.out.nd
     cases e9
     obtain ⟨m0,m1,m2,m3,m4,m5,mf,mz⟩:=zt hnt.blk
     have hn2:=hnt.lo
     have hz1:=HB1.out.size
     try rw [zsb] at hz1
     refine zn (λW2=>(W2.cell? ⟨w1.heap.size,1,none⟩=some (.pointer (some ⟨n2,0,none⟩))/\W2.cell? ⟨n2,3,none⟩=some (.int .i64 d.nd.ins)/\W2.cell? ⟨n2,4,none⟩=some (.int .i64 d.nd.outs)/\W2.cell? ⟨b,5,none⟩=some (.slice xa t.ts.length cpa))/\Below w.heap.size w W2) ⟨⟨?_,?_,?_,?_⟩,((HB.out.trans (HB1.out.mono (by omega))).alloc (by omega) _)⟩ ?_
     · first|(simp;done)|exact za0 (zce y1)
     · repeat (first|with_reducible exact m3|with_reducible refine zj _ ?_|with_reducible refine zk (by omega) ?_)
     · repeat (first|with_reducible exact m4|with_reducible refine zj _ ?_|with_reducible refine zk (by omega) ?_)
     · repeat (first|with_reducible exact h5|with_reducible refine zj _ ?_|with_reducible refine zk (by omega) ?_|with_reducible refine zd HB1.out ?_ (by first|omega|(rw [zsb];omega)))
     rintro W2 ⟨⟨g0,g1,g2,g3⟩,hB2⟩
     have HE:Hid (c.fits t u=(d.nd.ins==t.ts.length&&d.nd.outs==u)):=ec.out
     have HB2:=za hB2
     clear hB2 HS2 HB1 hnt m0 m1 m2 m3 m4 m5 mf mz hz1 h2 h3 h5 hf hz s0 s1 sf
     by_cases hi:d.nd.ins=t.ts.length
     · have hi':((d.nd.ins:Int)==(t.ts.length:Int))=true:=by simp [hi]
       by_cases ho:d.nd.outs=u
       · have ho':((d.nd.outs:Int)==(u:Int))=true:=by simp [ho]
         have HE2:Hid (c.fits t u=true):=by unfold Hid;rw [HE.out];simp [hi,ho]
         clear hi ho
         go_quiet (fail)
         go_wp2_with fail
         go_ret
         exact ⟨by rw [HE2.out];rfl,zI HB2.out _⟩
       · have ho':((d.nd.outs:Int)==(u:Int))=false:=by simp;omega
         have HE2:Hid (c.fits t u=false):=by unfold Hid;rw [HE.out];simp [ho]
         clear hi ho
         go_quiet (fail)
         go_wp2_with fail
         go_ret
         exact ⟨by rw [HE2.out];rfl,zI HB2.out _⟩
     · have hi':((d.nd.ins:Int)==(t.ts.length:Int))=false:=by simp;omega
       have HE2:Hid (c.fits t u=false):=by unfold Hid;rw [HE.out];simp [hi]
       clear hi
       go_quiet (fail)
       go_wp2_with fail
       go_ret
       exact ⟨by rw [HE2.out];rfl,zI HB2.out _⟩
   · go_wp2_with fail
     obtain ⟨nn,vs2,qv2,xs2,e9,hnt⟩:=HS2.out.nd
     cases e9
     obtain ⟨m0,m1,m2,m3,m4,m5,mf,mz⟩:=zt hnt.blk
     have hn2:=hnt.lo
     have hz1:=HB1.out.size
     try rw [zsb] at hz1
     refine zn (λW2=>(W2.cell? ⟨W.heap.size,1,none⟩=some (.pointer (some ⟨n2,0,none⟩))/\W2.cell? ⟨n2,3,none⟩=some (.int .i64 d.nd.ins)/\W2.cell? ⟨n2,4,none⟩=some (.int .i64 d.nd.outs)/\W2.cell? ⟨b,5,none⟩=some (.slice xa t.ts.length cpa))/\Below w.heap.size w W2) ⟨⟨?_,?_,?_,?_⟩,(zC (zC (HB.out.trans ((zE HB1.out).mono (by omega))) (by omega) _) (by omega) _)⟩ ?_
     · first|(simp;done)|exact za0 (zce y1)
     · repeat (first|with_reducible exact m3|with_reducible refine zj _ ?_|with_reducible refine zk (by omega) ?_)
     · repeat (first|with_reducible exact m4|with_reducible refine zj _ ?_|with_reducible refine zk (by omega) ?_)
     · repeat (first|with_reducible exact h5|with_reducible refine zj _ ?_|with_reducible refine zk (by omega) ?_|with_reducible refine zd HB1.out ?_ (by first|omega|(rw [zsb];omega)))
     rintro W2 ⟨⟨g0,g1,g2,g3⟩,hB2⟩
     have HE:Hid (c.fits t u=(d.nd.ins==t.ts.length&&d.nd.outs==u)):=ec.out
     have HB2:=za hB2
     clear hB2 HS2 HB1 hnt m0 m1 m2 m3 m4 m5 mf mz hz1 h2 h3 h5 hf hz s0 s1 sf
     by_cases hi:d.nd.ins=t.ts.length
     · have hi':((d.nd.ins:Int)==(t.ts.length:Int))=true:=by simp [hi]
       by_cases ho:d.nd.outs=u
       · have ho':((d.nd.outs:Int)==(u:Int))=true:=by simp [ho]
         have HE2:Hid (c.fits t u=true):=by unfold Hid;rw [HE.out];simp [hi,ho]
         clear hi ho
         go_quiet (fail)
         go_wp2_with fail
         go_ret
         exact ⟨by rw [HE2.out];rfl,zI HB2.out _⟩
       · have ho':((d.nd.outs:Int)==(u:Int))=false:=by simp;omega
         have HE2:Hid (c.fits t u=false):=by unfold Hid;rw [HE.out];simp [ho]
         clear hi ho
         go_quiet (fail)
         go_wp2_with fail
         go_ret
         exact ⟨by rw [HE2.out];rfl,zI HB2.out _⟩
     · have hi':((d.nd.ins:Int)==(t.ts.length:Int))=false:=by simp;omega
       have HE2:Hid (c.fits t u=false):=by unfold Hid;rw [HE.out];simp [hi]
       clear hi
       go_quiet (fail)
       go_wp2_with fail
       go_ret
       exact ⟨by rw [HE2.out];rfl,zI HB2.out _⟩
end
end Go.Proofs.YtedmpgjebafcjaaGreatDoor
