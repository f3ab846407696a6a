/- Part 24 of the proof: CmpD. -/
import Derived.Test.YtedmpgjebafcjaaGreatDoorK22
set_option maxRecDepth 100000
set_option maxHeartbeats 8000000
namespace Go.Proofs.YtedmpgjebafcjaaGreatDoor
section
open Go.RowKit
attribute [local go_sem ↓] Go.wp_at_zero Go.wp_at_succ
theorem Tryz.infoMem:(Tryz.prog.info? 177).map (λi=>(i.zero,i.size,i.bytes))=some (some (.agg #[.int .i64 0,.pointer none,.int .i64 0,.int .i64 0]),4,32):=by kernel_rfl
def Cd.cell (K:Cd) (x:Int):Cd:={ K with cells:=K.cells++[x] }
theorem zmg (l:List Int) (x:Int):zK (l++[x])=zK l++[.int .i64 x]:=by simp [zK]
theorem KI.celled {B wb kb:Nat} {bv cv rv v':Value} {K:Cd} {x:Int} {w w9:World} {X:Obj} (h:KI B wb kb bv cv rv K w) (hF:Fr (λk=>cv.ownBlock=some k) (w.alloc X) w9)
 (hown:w9.ownsRow B 2 1 v' (K.cells.length+1) (zK K.cells++[.int .i64 x])) (hnew:∀k,v'.ownBlock=some k->cv.ownBlock=some k∨w.heap.size+1<=k) :
 KW B wb kb (K.cell x) (w9.setCell ⟨kb,3,none⟩ v')/\FT (KT kb) w (w9.setCell ⟨kb,3,none⟩ v'):=by
 have hz:=h.hB
 have hwb:=h.hwb
 have hkb:=h.hkb
 have hs:(w.alloc X).heap.size=w.heap.size+1:=by simp
 have hz9:=hF.size
 have hb:∀k,k<w.heap.size->¬cv.ownBlock=some k->w9.heap[k]?=w.heap[k]?:=λk hk hn=>(hF.block k (by omega) hn).trans (Below.heap_alloc _ _ _ hk)
 have hb':∀k,k<w.heap.size->¬k=kb->¬cv.ownBlock=some k->(w9.setCell ⟨kb,3,none⟩ v').heap[k]?=w.heap[k]?:=λk hk h1 h2=>zr h1 (hb k hk h2)
 have hnr:∀k,k<B->¬cv.ownBlock=some k:=λk hk e=>by have:=(h.cown.lt _ e).1;omega
 have hI:KI B wb kb bv v' rv (K.cell x) (w9.setCell ⟨kb,3,none⟩ v'):=by
  refine ⟨(hb' wb (by omega) h.dk (hnr wb hwb)).trans h.wr,?_,zi h.bown (λk h1 h2 e=>hb' k h2 (by omega) (h.d1 k e).1),?_,zi h.rown (λk h1 h2 e=>hb' k h2 (by omega) (λe'=>h.d2 k e' e)),hwb,hkb,h.dk,λk e=>⟨λe'=>?_,(h.d1 k e).2⟩,λk e e'=>?_,?_⟩
  · exact zh _ _ _ _ ((hb kb (by omega) (hnr kb hkb)).trans h.blk)
  · have:=zi hown (w':=w9.setCell ⟨kb,3,none⟩ v') (λk h1 h2 _=>zr (by omega) rfl)
    rw [<- zmg] at this
    show World.ownsRow _ B 2 1 v' (K.cells++[x]).length _
    rw [List.length_append]
    exact this
  · rcases hnew k e' with e2|e2
    · exact (h.d1 k e).1 e2
    · have:=(h.bown.lt _ e).2;omega
  · rcases hnew k e with e2|e2
    · exact h.d2 k e2 e'
    · have:=(h.rown.lt _ e').2;omega
  · have:(w9.setCell ⟨kb,3,none⟩ v').heap.size=w9.heap.size:=by simp
    omega
 refine ⟨⟨bv,v',rv,hI⟩,⟨hF.os,hF.tape,hF.output,?_,λk hk hn=>?_⟩,λk hk=>?_⟩
 · have:(w9.setCell ⟨kb,3,none⟩ v').heap.size=w9.heap.size:=by simp
   omega
 · exact hb' k hk (λe=>hn ((h.kt k).2 (Or.inl e))) (λe=>hn ((h.kt k).2 (Or.inr (Or.inr (Or.inl e)))))
 · rcases (hI.kt k).1 hk with e|e|e|e
   · exact Or.inl ((h.kt k).2 (Or.inl e))
   · exact Or.inl ((h.kt k).2 (Or.inr (Or.inl e)))
   · rcases hnew k e with e2|e2
     · exact Or.inl ((h.kt k).2 (Or.inr (Or.inr (Or.inl e2))))
     · exact Or.inr (by omega)
   · exact Or.inl ((h.kt k).2 (Or.inr (Or.inr (Or.inr e))))
structure Lt where
 cell:Nat
 next:Tm
 clock:Nat×Nat
def zeY (w:World) (N:Nat):List Lt->List Value->Prop
 | [],xs=>xs=[]
 | l::ls,xs=>∃v ys,xs=.int .i64 (l.cell:Int)::v::.int .i64 (l.clock.1:Nat)::.int .i64 (l.clock.2:Nat)::ys/\TT w N l.next v/\zeY w N ls ys
theorem zeY.old {w w':World} {N:Nat} (ho:Old N w w'):∀{ls:List Lt} {xs:List Value},zeY w N ls xs->zeY w' N ls xs:=by
 intro ls
 induction ls with
 | nil=>intro xs h;exact h
 | cons l ls ih =>
   rintro xs ⟨v,ys,h1,h2,h3⟩
   exact ⟨v,ys,h1,h2.old ho,ih h3⟩
theorem zeY.snoc {w:World} {N:Nat} (l:Lt) (v:Value) (hv:TT w N l.next v):∀{ls:List Lt} {xs:List Value},zeY w N ls xs->zeY w N (ls++[l]) (xs++[.int .i64 (l.cell:Int),v,.int .i64 (l.clock.1:Nat),.int .i64 (l.clock.2:Nat)]):=by
 intro ls
 induction ls with
 | nil=>intro xs h;cases h;exact ⟨v,[],rfl,hv,rfl⟩
 | cons l' ls ih =>
   rintro xs ⟨v',ys,h1,h2,h3⟩
   subst h1
   exact ⟨v',_,rfl,h2,ih h3⟩
def CT (kb qb:Nat) (w:World) (k:Nat):Prop:=KT kb w k∨k=qb∨zgV w qb 4 k
structure WL (N B wb kb qb cb base:Nat) (c:Sc) (ev nv lv:Value) (K:Cd) (ls:List Lt) (w:World):Prop where
 wi:WI N B wb kb qb cb base c ev nv lv K w
 row:∃xs,zbj w B 177 4 lv ls.length xs/\zeY w N ls xs
 dl:∀k,lv.ownBlock=some k->¬KT kb w k/\¬k=qb/\¬k=cb
 dq:¬qb=cb
 dw:¬qb=wb
 hNq:N<=qb
theorem WL.ct {N B wb kb qb cb base:Nat} {c:Sc} {ev nv lv:Value} {K:Cd} {ls:List Lt} {w:World} (h:WL N B wb kb qb cb base c ev nv lv K ls w) (k:Nat):CT kb qb w k↔KT kb w k∨k=qb∨lv.ownBlock=some k:=by
 obtain ⟨m0,m1,m2,m3,m4,mf,mz⟩:=zcf h.wi.qi.blk
 unfold CT
 constructor
 · rintro (e|e|⟨v,e1,e2⟩)
   · exact Or.inl e
   · exact Or.inr (Or.inl e)
   · rw [m4] at e1;cases e1;exact Or.inr (Or.inr e2)
 · rintro (e|e|e)
   · exact Or.inl e
   · exact Or.inr (Or.inl e)
   · exact Or.inr (Or.inr ⟨_,m4,e⟩)
theorem WL.keep {N B wb kb qb cb base:Nat} {c:Sc} {ev nv lv:Value} {K:Cd} {ls:List Lt} {w w':World} (h:WL N B wb kb qb cb base c ev nv lv K ls w) (hB:Below w.heap.size w w'):WL N B wb kb qb cb base c ev nv lv K ls w':=by
 obtain ⟨xs,h1,h2⟩:=h.row
 exact ⟨h.wi.keep hB,⟨xs,zbM h1 (λk _ hk _=>hB.block k hk),h2.old (zm hB h.wi.qi.hN)⟩,λk e=>⟨λe'=>(h.dl k e).1 (h.wi.kw.tk hB _ e'),(h.dl k e).2⟩,h.dq,h.dw,h.hNq⟩
theorem WL.tk {N B wb kb qb cb base:Nat} {c:Sc} {ev nv lv:Value} {K:Cd} {ls:List Lt} {w w':World} (h:WL N B wb kb qb cb base c ev nv lv K ls w) (hB:Below w.heap.size w w'):∀k,CT kb qb w' k->CT kb qb w k:=by
 intro k hk
 rcases ((h.keep hB).ct k).1 hk with e|e|e
 · exact (h.ct k).2 (Or.inl (h.wi.kw.tk hB _ e))
 · exact (h.ct k).2 (Or.inr (Or.inl e))
 · exact (h.ct k).2 (Or.inr (Or.inr e))
theorem WL.lt {N B wb kb qb cb base:Nat} {c:Sc} {ev nv lv:Value} {K:Cd} {ls:List Lt} {w:World} (h:WL N B wb kb qb cb base c ev nv lv K ls w):∀k,CT kb qb w k->N<=k/\k<w.heap.size/\¬k=cb:=by
 intro k hk
 obtain ⟨xs,h1,_⟩:=h.row
 have hb:=h.wi.kw.kb
 have hn:=h.wi.hNk
 rcases (h.ct k).1 hk with e|e|e
 · exact ⟨h.wi.ktN k e,h.wi.kw.lt k e,λe'=>h.wi.nc (e'▸e)⟩
 · subst e;exact ⟨h.hNq,ze h.wi.qi.blk,h.dq⟩
 · have:=h1.lt k e;exact ⟨by omega,this.2,(h.dl k e).2.2⟩
theorem WL.ftk {N B wb kb qb cb base:Nat} {c:Sc} {ev nv lv:Value} {K K':Cd} {ls:List Lt} {w w':World} (h:WL N B wb kb qb cb base c ev nv lv K ls w) (hk:KW B wb kb K' w') (hf:FT (KT kb) w w'):WL N B wb kb qb cb base c ev nv lv K' ls w'/\FT (CT kb qb) w w':=by
 obtain ⟨xs,h1,h2⟩:=h.row
 have hW:WL N B wb kb qb cb base c ev nv lv K' ls w':=⟨h.wi.ft hk hf,⟨xs,zbM h1 (λk _ hk e=>hf.fr.block k hk (h.dl k e).1),h2.old (hf.old h.wi.qi.hN h.wi.ktN)⟩,λk e=>⟨hf.not (h1.lt k e).2 (h.dl k e).1,(h.dl k e).2⟩,h.dq,h.dw,h.hNq⟩
 refine ⟨hW,hf.fr.mono (λk _ e=>Or.inl e),λk hk=>?_⟩
 rcases (hW.ct k).1 hk with e|e|e
 · exact (hf.tk k e).imp (λe=>Or.inl e) id
 · exact Or.inl (Or.inr (Or.inl e))
 · exact Or.inl ((h.ct k).2 (Or.inr (Or.inr e)))
theorem WL.put {N B wb kb qb cb base:Nat} {c:Sc} {ev nv lv v':Value} {K:Cd} {ls:List Lt} {w w9:World} {X:Obj} (l:Lt) (v:Value) (h:WL N B wb kb qb cb base c ev nv lv K ls w) (hv:TT w N l.next v) (hF:Fr (λk=>lv.ownBlock=some k) (w.alloc X) w9) (xs:List Value) (hxs:zeY w N ls xs)
 (hown:zbj w9 B 177 4 v' (ls.length+1) (xs++[.int .i64 (l.cell:Int),v,.int .i64 (l.clock.1:Nat),.int .i64 (l.clock.2:Nat)])) (hnew:∀k,v'.ownBlock=some k->lv.ownBlock=some k∨w.heap.size+1<=k) :
 WL N B wb kb qb cb base c ev nv v' K (ls++[l]) (w9.setCell ⟨qb,4,none⟩ v')/\FT (CT kb qb) w (w9.setCell ⟨qb,4,none⟩ v'):=by
 obtain ⟨_,hr,_⟩:=h.row
 have hs:(w.alloc X).heap.size=w.heap.size+1:=by simp
 have hz9:=hF.size
 have hsz:(w9.setCell ⟨qb,4,none⟩ v').heap.size=w9.heap.size:=by simp
 have hb:∀k,k<w.heap.size->¬lv.ownBlock=some k->w9.heap[k]?=w.heap[k]?:=λk hk hn=>(hF.block k (by omega) hn).trans (Below.heap_alloc _ _ _ hk)
 have hb':∀k,k<w.heap.size->¬k=qb->¬lv.ownBlock=some k->(w9.setCell ⟨qb,4,none⟩ v').heap[k]?=w.heap[k]?:=λk hk h1 h2=>zr h1 (hb k hk h2)
 have hkt:∀k,KT kb w k->¬k=qb/\¬lv.ownBlock=some k:=λk e=>⟨λe'=>h.wi.nq (e'▸e),λe'=>(h.dl k e').1 e⟩
 obtain ⟨bv,cv,rv,hI⟩:=h.wi.kw
 have hqz:=ze h.wi.qi.blk
 have hbk:=hI.hkb
 have hbw:=hI.hwb
 have hkbn:=hkt kb ((hI.kt kb).2 (Or.inl rfl))
 have hwbl:¬lv.ownBlock=some wb:=λe=>by have:=(hr.lt wb e).1;omega
 have hktb:∀k,k<w.heap.size->KT kb w k->w9.heap[k]?=w.heap[k]?/\(w9.setCell ⟨qb,4,none⟩ v').heap[k]?=w.heap[k]?:=λk hk e=>⟨hb k hk (hkt k e).2,hb' k hk (hkt k e).1 (hkt k e).2⟩
 have hnw:(w9.setCell ⟨qb,4,none⟩ v').heap[wb]?=w.heap[wb]?:=hb' wb (by have:=hI.hB;omega) (λe=>h.dw e.symm) hwbl
 have hO:Old N w (w9.setCell ⟨qb,4,none⟩ v'):=λk hk=>hb' k (Nat.lt_of_lt_of_le hk h.wi.qi.hN) (by have:=h.hNq;omega) (λe=>by have:=(hr.lt k e).1;have:=h.wi.hNk;omega)
 have hI':KI B wb kb bv cv rv K (w9.setCell ⟨qb,4,none⟩ v') :=
  ⟨hnw.trans hI.wr,(hb' kb (by have:=hI.hB;omega) hkbn.1 hkbn.2).trans hI.blk,zi hI.bown (λk _ hk e=>(hktb k hk ((hI.kt k).2 (Or.inr (Or.inl e)))).2),zi hI.cown (λk _ hk e=>(hktb k hk ((hI.kt k).2 (Or.inr (Or.inr (Or.inl e))))).2),zi hI.rown (λk _ hk e=>(hktb k hk ((hI.kt k).2 (Or.inr (Or.inr (Or.inr e))))).2),hI.hwb,hI.hkb,hI.dk,hI.d1,hI.d2,by have:=hI.hB;omega⟩
 have hktw:∀k,KT kb (w9.setCell ⟨qb,4,none⟩ v') k↔KT kb w k:=λk=>(hI'.kt k).trans (hI.kt k).symm
 have hcb:(w9.setCell ⟨qb,4,none⟩ v').heap[cb]?=w.heap[cb]?:=hb' cb h.wi.qi.ck.lt (λe=>h.dq e.symm) (λe=>(h.dl cb e).2.2 rfl)
 have hqlv:¬lv.ownBlock=some qb:=λe=>(h.dl qb e).2.1 rfl
 have hW:WL N B wb kb qb cb base c ev nv v' K (ls++[l]) (w9.setCell ⟨qb,4,none⟩ v'):=by
  refine ⟨⟨⟨bv,cv,rv,hI'⟩,⟨zh _ _ _ _ ((hb qb hqz hqlv).trans h.wi.qi.blk),h.wi.qi.sc.old hO,h.wi.qi.ck.of' hcb,by have:=h.wi.qi.hN;omega⟩,λe=>h.wi.nq ((hktw qb).1 e),λe=>h.wi.nc ((hktw cb).1 e),h.wi.hNk⟩,⟨xs++[.int .i64 (l.cell:Int),v,.int .i64 (l.clock.1:Nat),.int .i64 (l.clock.2:Nat)],?_,(hxs.snoc l v hv).old hO⟩,λk e=>?_,h.dq,h.dw,h.hNq⟩
  · rw [List.length_append]
    refine zbM hown (λk h1 h2 e=>zr (λe'=>?_) rfl)
    subst e'
    rcases hnew _ e with e2|e2
    · exact hqlv e2
    · omega
  · rcases hnew k e with e2|e2
    · exact ⟨λe'=>(h.dl k e2).1 ((hktw k).1 e'),(h.dl k e2).2⟩
    · exact ⟨λe'=>by have:=h.wi.kw.lt k ((hktw k).1 e');omega,by omega,by have:=h.wi.qi.ck.lt;omega⟩
 refine ⟨hW,⟨hF.os,hF.tape,hF.output,by omega,λk hk hn=>?_⟩,λk hk=>?_⟩
 · exact hb' k hk (λe=>hn ((h.ct k).2 (Or.inr (Or.inl e)))) (λe=>hn ((h.ct k).2 (Or.inr (Or.inr e))))
 · rcases (hW.ct k).1 hk with e|e|e
   · exact Or.inl ((h.ct k).2 (Or.inl ((hktw k).1 e)))
   · exact Or.inl ((h.ct k).2 (Or.inr (Or.inl e)))
   · rcases hnew k e with e2|e2
     · exact Or.inl ((h.ct k).2 (Or.inr (Or.inr e2)))
     · exact Or.inr (by omega)
end
end Go.Proofs.YtedmpgjebafcjaaGreatDoor
