/- Part 36 of the proof: OrdB OrdC OrdD BwA. -/
import Derived.LoopIn
import Derived.LoopNIn
import Derived.OwnWalkIn
import Derived.RangeFuncBound
import Derived.RangeFuncCalls
import Derived.RangeFuncLeaves
import Derived.RangeFuncNested
import Derived.Shelf.Abstract
import Derived.Shelf.RegionOpen
import Derived.TacticsInMore
import Derived.Test.YtedmpgjebafcjaaGreatDoorK34
set_option maxRecDepth 100000
set_option maxHeartbeats 8000000
namespace Go.Proofs.YtedmpgjebafcjaaGreatDoor
section
open Go.RowKit
attribute [local go_sem ↓] Go.wp_at_zero Go.wp_at_succ
abbrev Os:=List Bool×List Qn
def zba (pf:Nat->Os->Os) (c:Sc) (L:List (Nat×Nat)) (q:Qn):List Qn->Nat->Os->Os
 | [],_,s=>s
 | o::l,j,s=>zba pf c L q l (j+1) (if zcC c L q o=true then pf j s else s)
def zaq (c:Sc) (L:List (Nat×Nat)) (eqs:List Qn):Nat->Nat->Os->Os
 | 0,_,s=>s
 | f+1,i,s =>
   match eqs[i]? with
   | none=>s
   | some q=>if s.1.getD i false=true then s else ((zba (zaq c L eqs f) c L q eqs 0 (s.1.set i true,s.2)).1,(zba (zaq c L eqs f) c L q eqs 0 (s.1.set i true,s.2)).2++[q])
def zeG (pf:Nat->Os->Os) (n:Nat):Nat->Os->Os
 | 0,s=>s
 | m+1,s=>zeG pf n m (pf (n-(m+1)) s)
def zac (c:Sc):List Qn:=(zeG (zaq c c.linksL c.nd.eqs c.nd.eqs.length) c.nd.eqs.length c.nd.eqs.length (List.replicate c.nd.eqs.length false,[])).2
theorem zgf:∀(l:List Bool) (i:Nat),l[i]?=some false->(l.set i true).count false+1=l.count false:=by
 intro l
 induction l with
 | nil=>intro i h;simp at h
 | cons b l ih =>
   intro i h
   cases i with
   | zero=>simp at h;subst h;simp
   | succ i =>
     simp at h
     have:=ih i h
     rw [zr9,List.count_cons,List.count_cons]
     omega
theorem zhB (c:Sc) (L:List (Nat×Nat)) (eqs:List Qn):∀(f i:Nat) (s:Os),(zaq c L eqs f i s).1.length=s.1.length/\(s.1.length=eqs.length->(zaq c L eqs f i s).1.count false<=s.1.count false):=by
 intro f
 induction f with
 | zero=>intro i s;exact ⟨rfl,λ_=>Nat.le_refl _⟩
 | succ f ih =>
   have hl:∀(q:Qn) (l:List Qn) (j:Nat) (s:Os),(zba (zaq c L eqs f) c L q l j s).1.length=s.1.length/\(s.1.length=eqs.length->(zba (zaq c L eqs f) c L q l j s).1.count false<=s.1.count false):=by
    intro q l
    induction l with
    | nil=>intro j s;exact ⟨rfl,λ_=>Nat.le_refl _⟩
    | cons o l ihl =>
      intro j s
      rw [zba]
      obtain ⟨h1,h2⟩:=ihl (j+1) (if zcC c L q o=true then zaq c L eqs f j s else s)
      by_cases hn:zcC c L q o=true
      · rw [if_pos hn] at h1 h2 ⊢
        obtain ⟨h3,h4⟩:=ih j s
        exact ⟨h1.trans h3,λh=>Nat.le_trans (h2 (h3.trans h)) (h4 h)⟩
      · rw [if_neg hn] at h1 h2 ⊢
        exact ⟨h1,h2⟩
   intro i s
   rw [zaq]
   split
   · exact ⟨rfl,λ_=>Nat.le_refl _⟩
   · rename_i q hq
     split
     · exact ⟨rfl,λ_=>Nat.le_refl _⟩
     · rename_i hp
       obtain ⟨h1,h2⟩:=hl q eqs 0 (s.1.set i true,s.2)
       refine ⟨by rw [h1];simp,λh=>Nat.le_trans (h2 (by simpa using h)) ?_⟩
       have hi:=(List.getElem?_eq_some_iff.1 hq).1
       have:s.1[i]?=some false:=by
        rw [List.getD_eq_getElem?_getD] at hp
        rw [zsc (by omega)] at hp ⊢
        simp at hp
        rw [hp]
       have:=zgf s.1 i this
       show (s.1.set i true).count false<=_
       omega
theorem zcU.snoc {w:World} {N:Nat} {q:Qn} {lv rv:Value} (hq:EqV w N q lv rv):∀{qs:List Qn} {xs:List Value},zcU w N qs xs->zcU w N (qs++[q]) (xs++[lv,.int .i64 q.a,rv]):=by
 intro qs
 induction qs with
 | nil=>intro xs h;cases h;exact ⟨lv,rv,[],rfl,hq.own,hq.lo,hq.tt,rfl⟩
 | cons q' qs ih =>
   rintro xs ⟨lv',v',ys,rfl,h2,h3,h4,h5⟩
   exact ⟨lv',v',_,rfl,h2,h3,h4,ih h5⟩
def OT (pr ob:Nat) (w:World) (k:Nat):Prop:=k=pr∨k=ob∨zgV w ob 0 k
def plV (pbx zb hb fb ob:Nat):Value:=.func (.func 119) #[] #[.pointer (some ⟨pbx,0,none⟩),.pointer (some ⟨zb,0,none⟩),.pointer (some ⟨hb,0,none⟩),.pointer (some ⟨fb,0,none⟩),.pointer (some ⟨ob,0,none⟩)]
structure OD (N B mb zb hb pbx fb ob pr:Nat):Prop where
 a1:¬zb=pr/\¬zb=ob
 a2:¬hb=pr/\¬hb=ob
 a3:¬pbx=pr/\¬pbx=ob
 a4:¬fb=pr/\¬fb=ob
 a5:¬mb=pr/\¬mb=ob
 a6:¬pr=ob
 b:zb<B/\hb<B/\pbx<B/\fb<B/\ob<B/\pr<B/\mb<B
 n:N<=pr/\N<=ob
structure OI (N B:Nat) (c:Sc) (ev nv:Value) (L:List (Nat×Nat)) (mb zb hb pbx fb ob pr:Nat) (ov:Value) (s:Os) (w:World):Prop where
 x1:w.heap[pbx]?=some (.cells #[.slice (some ⟨pr,0,none⟩) c.nd.eqs.length c.nd.eqs.length] 64 (0,0))
 xr:w.heap[pr]?=some (.cells (zdC s.1).toArray 4 (0,0))
 x2:w.heap[zb]?=some (.cells #[ev,nv] 88 (0,0))
 x3:w.heap[hb]?=some (.cells #[.map (some mb)] 229 (0,0))
 x4:w.heap[fb]?=some (.cells #[plV pbx zb hb fb ob] 203 (0,0))
 x5:w.heap[ob]?=some (.cells #[ov] 95 (0,0))
 own:∃xs,w.ownsRow B 166 3 ov s.2.length xs/\zcU w N s.2 xs
 lk:za8 w mb L
 sc:ScV w N c ev nv
 len:s.1.length=c.nd.eqs.length
 hB:B<=w.heap.size
 hNB:N<=B
theorem OI.ot {N B:Nat} {c:Sc} {ev nv:Value} {L:List (Nat×Nat)} {mb zb hb pbx fb ob pr:Nat} {ov:Value} {s:Os} {w:World} (h:OI N B c ev nv L mb zb hb pbx fb ob pr ov s w) (k:Nat):OT pr ob w k↔k=pr∨k=ob∨ov.ownBlock=some k:=by
 obtain ⟨m0,mf,mz⟩:=zu h.x5
 unfold OT zgV
 rw [m0]
 constructor
 · rintro (e|e|⟨v,e1,e2⟩)
   · exact Or.inl e
   · exact Or.inr (Or.inl e)
   · cases e1;exact Or.inr (Or.inr e2)
 · rintro (e|e|e)
   · exact Or.inl e
   · exact Or.inr (Or.inl e)
   · exact Or.inr (Or.inr ⟨_,rfl,e⟩)
theorem OI.keep {N B:Nat} {c:Sc} {ev nv:Value} {L:List (Nat×Nat)} {mb zb hb pbx fb ob pr:Nat} {ov:Value} {s:Os} {w w':World} (h:OI N B c ev nv L mb zb hb pbx fb ob pr ov s w) (hB:Below w.heap.size w w'):OI N B c ev nv L mb zb hb pbx fb ob pr ov s w':=by
 obtain ⟨xs,h1,h2⟩:=h.own
 exact ⟨(hB.block _ (ze h.x1)).trans h.x1,(hB.block _ (ze h.xr)).trans h.xr,(hB.block _ (ze h.x2)).trans h.x2,(hB.block _ (ze h.x3)).trans h.x3,(hB.block _ (ze h.x4)).trans h.x4,(hB.block _ (ze h.x5)).trans h.x5,⟨xs,zi h1 (λk _ hk _=>hB.block k hk),h2.old (zm hB (Nat.le_trans h.hNB h.hB))⟩,h.lk.keep hB,h.sc.old (zm hB (Nat.le_trans h.hNB h.hB)),h.len,Nat.le_trans h.hB hB.size,h.hNB⟩
theorem OI.tk {N B:Nat} {c:Sc} {ev nv:Value} {L:List (Nat×Nat)} {mb zb hb pbx fb ob pr:Nat} {ov:Value} {s:Os} {w w':World} (h:OI N B c ev nv L mb zb hb pbx fb ob pr ov s w) (hB:Below w.heap.size w w'):∀k,OT pr ob w' k->OT pr ob w k:=λk e=>(h.ot k).2 (((h.keep hB).ot k).1 e)
theorem OI.lt {N B:Nat} {c:Sc} {ev nv:Value} {L:List (Nat×Nat)} {mb zb hb pbx fb ob pr:Nat} {ov:Value} {s:Os} {w:World} (h:OI N B c ev nv L mb zb hb pbx fb ob pr ov s w) (hD:OD N B mb zb hb pbx fb ob pr):∀k,OT pr ob w k->N<=k/\k<w.heap.size:=by
 intro k e
 obtain ⟨xs,h1,_⟩:=h.own
 have:=h.hNB
 rcases (h.ot k).1 e with e|e|e
 · subst e;exact ⟨hD.n.1,ze h.xr⟩
 · subst e;exact ⟨hD.n.2,ze h.x5⟩
 · have:=h1.lt k e;exact ⟨by omega,this.2⟩
theorem OI.mark {N B:Nat} {c:Sc} {ev nv:Value} {L:List (Nat×Nat)} {mb zb hb pbx fb ob pr:Nat} {ov:Value} {s:Os} {w:World} (h:OI N B c ev nv L mb zb hb pbx fb ob pr ov s w) (hD:OD N B mb zb hb pbx fb ob pr) (i:Nat) :
 OI N B c ev nv L mb zb hb pbx fb ob pr ov (s.1.set i true,s.2) (w.setCell ⟨pr,i,none⟩ (.bool true))/\FT (OT pr ob) w (w.setCell ⟨pr,i,none⟩ (.bool true)):=by
 obtain ⟨xs,h1,h2⟩:=h.own
 have hbb:=hD.b
 have hn:=hD.n
 have hk:∀k,¬k=pr->(w.setCell ⟨pr,i,none⟩ (.bool true)).heap[k]?=w.heap[k]?:=λk hk=>zr hk rfl
 have hs:(w.setCell ⟨pr,i,none⟩ (.bool true)).heap.size=w.heap.size:=by simp
 have hO:Old N w (w.setCell ⟨pr,i,none⟩ (.bool true)):=λk hk'=>hk k (by omega)
 have hI:OI N B c ev nv L mb zb hb pbx fb ob pr ov (s.1.set i true,s.2) (w.setCell ⟨pr,i,none⟩ (.bool true)):=by
  refine ⟨(hk _ hD.a3.1).trans h.x1,?_,(hk _ hD.a1.1).trans h.x2,(hk _ hD.a2.1).trans h.x3,(hk _ hD.a4.1).trans h.x4,(hk _ (λe=>hD.a6 e.symm)).trans h.x5,⟨xs,zi h1 (λk h3 _ _=>hk k (by omega)),h2.old hO⟩,h.lk.of' (hk _ hD.a5.1),h.sc.old hO,by simpa using h.len,by rw [hs];exact h.hB,h.hNB⟩
  rw [zh _ _ _ _ h.xr,zjw]
 refine ⟨hI,⟨rfl,rfl,rfl,by rw [hs];exact Nat.le_refl _,λk _ hn=>hk k (λe=>hn ((h.ot k).2 (Or.inl e)))⟩,λk e=>Or.inl ((h.ot k).2 ((hI.ot k).1 e))⟩
theorem OI.app {N B:Nat} {c:Sc} {ev nv:Value} {L:List (Nat×Nat)} {mb zb hb pbx fb ob pr:Nat} {ov ov':Value} {s:Os} {w w9:World} {X:Obj} (h:OI N B c ev nv L mb zb hb pbx fb ob pr ov s w) (hD:OD N B mb zb hb pbx fb ob pr) (q:Qn) (lv rv:Value) (hq:EqV w N q lv rv) (hF:Fr (λk=>ov.ownBlock=some k) (w.alloc X) w9) (xs:List Value) (hxs:zcU w N s.2 xs)
 (hown:w9.ownsRow B 166 3 ov' (s.2.length+1) (xs++[lv,.int .i64 q.a,rv])) (hnew:∀k,ov'.ownBlock=some k->ov.ownBlock=some k∨w.heap.size+1<=k) :
 OI N B c ev nv L mb zb hb pbx fb ob pr ov' (s.1,s.2++[q]) (w9.setCell ⟨ob,0,none⟩ ov')/\FT (OT pr ob) w (w9.setCell ⟨ob,0,none⟩ ov'):=by
 obtain ⟨_,h1,_⟩:=h.own
 have hbb:=hD.b
 have hn:=hD.n
 have hB:=h.hB
 have hNB:=h.hNB
 have hs0:(w.alloc X).heap.size=w.heap.size+1:=by simp
 have hs:(w9.setCell ⟨ob,0,none⟩ ov').heap.size=w9.heap.size:=by simp
 have hz9:=hF.size
 have hb9:∀k,k<w.heap.size->¬ov.ownBlock=some k->w9.heap[k]?=w.heap[k]?:=λk hk hn=>(hF.block k (by omega) hn).trans (Below.heap_alloc _ _ _ hk)
 have hlo:∀k,k<B->¬ov.ownBlock=some k:=λk hk e=>by have:=(h1.lt k e).1;omega
 have hk:∀k,k<w.heap.size->¬k=ob->¬ov.ownBlock=some k->(w9.setCell ⟨ob,0,none⟩ ov').heap[k]?=w.heap[k]?:=λk h1 h2 h3=>zr h2 (hb9 k h1 h3)
 have hkB:∀k,k<B->¬k=ob->(w9.setCell ⟨ob,0,none⟩ ov').heap[k]?=w.heap[k]?:=λk h1 h2=>hk k (by omega) h2 (hlo k h1)
 have hO:Old N w (w9.setCell ⟨ob,0,none⟩ ov'):=λk hk'=>hkB k (by omega) (by omega)
 have hI:OI N B c ev nv L mb zb hb pbx fb ob pr ov' (s.1,s.2++[q]) (w9.setCell ⟨ob,0,none⟩ ov'):=by
  refine ⟨(hkB _ hbb.2.2.1 hD.a3.2).trans h.x1,(hkB _ hbb.2.2.2.2.2.1 hD.a6).trans h.xr,(hkB _ hbb.1 hD.a1.2).trans h.x2,(hkB _ hbb.2.1 hD.a2.2).trans h.x3,(hkB _ hbb.2.2.2.1 hD.a4.2).trans h.x4,?_,⟨xs++[lv,.int .i64 q.a,rv],?_,(zcU.snoc hq hxs).old hO⟩,h.lk.of' (hkB _ hbb.2.2.2.2.2.2 hD.a5.2),h.sc.old hO,h.len,by omega,hNB⟩
  · exact zh _ _ _ _ ((hb9 ob (by omega) (hlo ob hbb.2.2.2.2.1)).trans h.x5)
  · show World.ownsRow _ B _ 3 ov' (s.2++[q]).length _
    rw [List.length_append]
    exact zi hown (λk h3 _ _=>zr (by omega) rfl)
 refine ⟨hI,⟨hF.os,hF.tape,hF.output,by omega,λk hk' hn=>hk k hk' (λe=>hn ((h.ot k).2 (Or.inr (Or.inl e)))) (λe=>hn ((h.ot k).2 (Or.inr (Or.inr e))))⟩,λk e=>?_⟩
 rcases (hI.ot k).1 e with e|e|e
 · exact Or.inl ((h.ot k).2 (Or.inl e))
 · exact Or.inl ((h.ot k).2 (Or.inr (Or.inl e)))
 · rcases hnew k e with e2|e2
   · exact Or.inl ((h.ot k).2 (Or.inr (Or.inr e2)))
   · exact Or.inr (by omega)
end
section
open Go.RowKit
attribute [local go_sem ↓] Go.wp_at_zero Go.wp_at_succ
theorem zhs (c:Sc) (L:List (Nat×Nat)) (eqs:List Qn):∀(f i:Nat) (s:Os),s.1.length=eqs.length->(zaq c L eqs f i s).2.length+(zaq c L eqs f i s).1.count false<=s.2.length+s.1.count false:=by
 intro f
 induction f with
 | zero=>intro i s _;exact Nat.le_refl _
 | succ f ih =>
   have hl:∀(q:Qn) (l:List Qn) (j:Nat) (s:Os),s.1.length=eqs.length->(zba (zaq c L eqs f) c L q l j s).2.length+(zba (zaq c L eqs f) c L q l j s).1.count false<=s.2.length+s.1.count false:=by
    intro q l
    induction l with
    | nil=>intro j s _;exact Nat.le_refl _
    | cons o l ihl =>
      intro j s hs
      rw [zba]
      by_cases hn:zcC c L q o=true
      · rw [if_pos hn]
        exact Nat.le_trans (ihl _ _ ((zhB c L eqs f j s).1.trans hs)) (ih j s hs)
      · rw [if_neg hn]
        exact ihl _ _ hs
   intro i s hs
   rw [zaq]
   split
   · exact Nat.le_refl _
   · rename_i q hq
     split
     · exact Nat.le_refl _
     · rename_i hp
       have h1:=hl q eqs 0 (s.1.set i true,s.2) (by simpa using hs)
       have hi:=(List.getElem?_eq_some_iff.1 hq).1
       have h2:s.1[i]?=some false:=by
        rw [List.getD_eq_getElem?_getD] at hp
        rw [zsc (by omega)] at hp ⊢
        simp at hp
        rw [hp]
       have h3:=zgf s.1 i h2
       simp only [List.length_append,List.length_singleton] at h1 ⊢
       omega
theorem zkd (pf:Nat->Os->Os) (c:Sc) (L:List (Nat×Nat)) (q:Qn) {l:List Qn} {k:Nat} {o:Qn} (h:l[k]?=some o) (s:Os):zba pf c L q (l.drop k) k s=zba pf c L q (l.drop (k+1)) (k+1) (if zcC c L q o=true then pf k s else s):=by
 obtain ⟨h1,h2⟩:=List.getElem?_eq_some_iff.1 h
 rw [List.drop_eq_getElem_cons h1,zba,h2]
theorem zrf {a b:Option Addr} {n c:Nat} {x:Int}:∀u∈[Value.slice a n c,.int .i64 x,.pointer b],u.oneCell'=true:=by simp [Value.oneCell']
theorem zl5 {N B:Nat} {c:Sc} (hc:zbr c) {xe:Option Addr} {cpe nb:Nat} {L:List (Nat×Nat)} {mb zb hb pbx fb ob pr:Nat} (hD:OD N B mb zb hb pbx fb ob pr) (hn:c.nd.eqs.length<=1000000) :
 ∀(f i:Nat) (s:Os) (ov:Value) (w:World),i<c.nd.eqs.length->s.1.count false<=f->s.2.length+s.1.count false<=c.nd.eqs.length->OI N B c (.slice xe c.er.length cpe) (.pointer (some ⟨nb,0,none⟩)) L mb zb hb pbx fb ob pr ov s w ->
  Calls Tryz.prog 119 #[.int .i64 (i:Int),.pointer (some ⟨pbx,0,none⟩),.pointer (some ⟨zb,0,none⟩),.pointer (some ⟨hb,0,none⟩),.pointer (some ⟨fb,0,none⟩),.pointer (some ⟨ob,0,none⟩)] w (λe w'=>e=.returned (.tuple #[])/\(∃ov',OI N B c (.slice xe c.er.length cpe) (.pointer (some ⟨nb,0,none⟩)) L mb zb hb pbx fb ob pr ov' (zaq c L c.nd.eqs f i s) w')/\FT (OT pr ob) w w'):=by
 intro f
 induction f with
 | zero =>
   intro i s ov w hi hcn hsm h
   have hpi:s.1[i]?=some true:=by
    have hl:=h.len
    cases hb:s.1[i]? with
    | none=>rw [List.getElem?_eq_none_iff] at hb;omega
    | some b =>
      cases b with
      | true=>rfl
      | false=>have:=zgf s.1 i hb;omega
   obtain ⟨a0,af,az⟩:=zu h.x1
   have b0:=zdF h.xr hpi
   have bz:=ze h.xr
   have HI:=za h
   have i0:(0:Int)<=(i:Int):=by omega
   have i1:(i:Int)<(c.nd.eqs.length:Int):=by omega
   clear h hpi
   go_enter Tryz.func119,Tryz.ntmps119
   go_wp2_with fail
   first|go_end0|refine bodyPost_ret (results_none rfl _ _ _) rfl ?_
   exact ⟨rfl,⟨ov,HI.out⟩,FT.below (Below.refl _ _) (λ_ e=>e)⟩
 | succ f ih =>
   intro i s ov w hi hcn hsm h
   obtain ⟨a0,af,az⟩:=zu h.x1
   have bz:=ze h.xr
   have i0:(0:Int)<=(i:Int):=by omega
   have i1:(i:Int)<(c.nd.eqs.length:Int):=by omega
   obtain ⟨q,hq⟩:∃q,c.nd.eqs[i]?=some q:=⟨_,zsc hi⟩
   obtain ⟨b,hb'⟩:∃b,s.1[i]?=some b:=⟨_,zsc (by have:=h.len;omega)⟩
   have b0:=zdF h.xr hb'
   cases b with
   | true =>
     have HP:Hid (zaq c L c.nd.eqs (f+1) i s=s):=by unfold Hid;rw [zaq];simp only [hq];rw [if_pos (by rw [List.getD_eq_getElem?_getD,hb'];rfl)]
     have HI:=za h
     clear h hb' hq ih
     go_enter Tryz.func119,Tryz.ntmps119
     go_wp2_with fail
     first|go_end0|refine bodyPost_ret (results_none rfl _ _ _) rfl ?_
     rw [HP.out]
     exact ⟨rfl,⟨ov,HI.out⟩,FT.below (Below.refl _ _) (λ_ e=>e)⟩
   | false =>
     obtain ⟨s2,hs2⟩:∃s2,zba (zaq c L c.nd.eqs f) c L q c.nd.eqs 0 (s.1.set i true,s.2)=s2:=⟨_,rfl⟩
     have HP:Hid (zaq c L c.nd.eqs (f+1) i s=(s2.1,s2.2++[q])):=by unfold Hid;rw [zaq];simp only [hq];rw [if_neg (by rw [List.getD_eq_getElem?_getD,hb'];simp),hs2]
     have hcs:=zgf s.1 i hb'
     obtain ⟨hM,hMF⟩:=h.mark hD i
     have bf:=zai h.xr i
     have hNw:N<=w.heap.size:=Nat.le_trans h.hNB h.hB
     obtain ⟨nb',vs,qv,xs,e9,hnt⟩:=h.sc.nd
     cases e9
     obtain ⟨xv,cpv,rfl⟩:=zB hnt.vown
     obtain ⟨xq,cpq,rfl⟩:=zB hnt.own
     obtain ⟨g,lv,rv,rfl,c0,c1,c2,hE⟩:=zcd hnt.own hnt.eqs hq rfl
     obtain ⟨rb,_,_,rfl,_⟩:=hE.tt.ptr
     obtain ⟨xl,cl,rfl⟩:=zB hE.own
     have hgN:=hnt.elo g rfl
     obtain ⟨n0,n1,n2,n3,n4,n5,nf,nz⟩:=zt hnt.blk
     have hnbN:=hnt.lo
     obtain ⟨z0,z1,zf,zz⟩:=zp h.x2
     have hpN:=hD.n.1
     have hgp:¬g=pr:=by omega
     have hnp:¬nb=pr:=by omega
     have hzp:=hD.a1.1
     have hap:=hD.a3.1
     have HNt:=za hnt
     have HE:=za hE
     have HX0:=za hM
     have HF0:=za hMF
     have H:=za h
     have Hs2:=za hs2
     have Hih:=za ih
     have hn16:c.nd.eqs.length<=9223372036854775807:=by omega
     have hqm:=List.mem_of_getElem? hq
     have Hw:=za (hc.nd.eqs q hqm)
     have HWf:=za (λo ho=>hc.nd.eqs o ho)
     clear h hM hMF hnt hE ih hs2 hb' hq n0 n1 n2 n3 n4
     go_enter Tryz.func119,Tryz.ntmps119
     go_upto_region 3 with fail
     refine zn (λW=>OI N B c (.slice xe c.er.length cpe) (.pointer (some ⟨nb,0,none⟩)) L mb zb hb pbx fb ob pr ov (s.1.set i true,s.2) W/\FT (OT pr ob) w W/\W.heap[w.heap.size]?=some (.cells #[.slice xl q.ns.length cl,.int .i64 q.a,.pointer (some ⟨rb,0,none⟩)] 166 (0,0))/\¬OT pr ob W w.heap.size) ?_ ?_
     · have hsz:(w.setCell ⟨pr,i,none⟩ (.bool true)).heap.size=w.heap.size:=by simp
       refine ⟨HX0.out.keep (zq _ _),HF0.out.trans (FT.below (zq _ _) (HX0.out.tk (zq _ _))),?_,λe=>?_⟩
       · have:=zc (w.setCell ⟨pr,i,none⟩ (.bool true)) (.cells #[.slice xl q.ns.length cl,.int .i64 q.a,.pointer (some ⟨rb,0,none⟩)] 166)
         rw [hsz] at this
         exact this
       · have:=(HX0.out.lt hD _ (HX0.out.tk (zq _ _) _ e)).2
         omega
     rintro W ⟨hX,hF,hQ,hnQ⟩
     have hO:Old N w W:=hF.old hNw (λk e=>(H.out.lt hD k e).1)
     obtain ⟨u0,u1,uf,uz⟩:=zp hX.x2
     obtain ⟨n0,n1,n2,n3,n4,n6,nf',nz'⟩:=zt ((hO nb hnbN).trans HNt.out.blk)
     have HX:=za hX
     have HF:=za hF
     have HQ:=za hQ
     clear hX hF hQ hO n0 n1 n2 n3 n4 HX0 HF0 z0 z1 zf zz a0 af az b0 bf bz c0 c1 c2 n5 nf nz
     go_wp2_with fail
     go_loopg [31] (c.nd.eqs.length+1) (λj x wr=>∃(k:Nat) (st:Os) (ov':Value),k+j=c.nd.eqs.length+1/\k<=c.nd.eqs.length/\x=.int .i64 k/\st.1.count false<=f/\st.2.length+st.1.count false+1<=c.nd.eqs.length/\Hid (OI N B c (.slice xe c.er.length cpe) (.pointer (some ⟨nb,0,none⟩)) L mb zb hb pbx fb ob pr ov' st wr)/\Hid (zba (zaq c L c.nd.eqs f) c L q (c.nd.eqs.drop k) k st=s2)/\Hid (FT (OT pr ob) w wr)/\Hid (wr.heap[w.heap.size]?=some (.cells #[.slice xl q.ns.length cl,.int .i64 q.a,.pointer (some ⟨rb,0,none⟩)] 166 (0,0))/\¬OT pr ob wr w.heap.size))
     case atStart=>exact ⟨0,(s.1.set i true,s.2),ov,by omega,Nat.zero_le _,rfl,by show (s.1.set i true).count false<=f;omega,by show s.2.length+(s.1.set i true).count false+1<=_;omega,HX.out,Hs2.out,HF.out,⟨HQ.out,hnQ⟩⟩
     case round =>
      clear HX HF HQ hnQ u0 u1 uf uz n6 nf' nz'
      obtain ⟨k,st,ov',hkj,hk,rfl,hst,hsum,HI,HD,HF,HQ⟩:=hrel
      have hO:Old N w wr:=HF.out.old hNw (λk e=>(H.out.lt hD k e).1)
      by_cases hlt:k<c.nd.eqs.length
      · obtain ⟨o,ho⟩:∃o,c.nd.eqs[k]?=some o:=⟨_,zsc hlt⟩
        have hN2:=HNt.out.old hO
        obtain ⟨g',lo,ro,eg,d0,d1,d2,hEo⟩:=zcd hN2.own hN2.eqs ho rfl
        cases eg
        obtain ⟨ro',_,_,rfl,_⟩:=hEo.tt.ptr
        obtain ⟨xo,co,rfl⟩:=zB hEo.own
        obtain ⟨y0,yf,yz⟩:=zu HI.out.x3
        obtain ⟨u0,u1,uf,uz⟩:=zp HI.out.x2
        obtain ⟨q0,q1,q2,qf,qz⟩:=zL HQ.out.1
        have hHd:=HD.out
        rw [zkd _ _ _ _ ho] at hHd
        have HDn:=za hHd
        have hwo:=HWf.out o (List.mem_of_getElem? ho)
        have hNr:N<=wr.heap.size:=Nat.le_trans HI.out.hNB HI.out.hB
        have HNe:=za (λob'=>zm6 q o (.slice xl q.ns.length cl) (.pointer (some ⟨rb,0,none⟩)) (.slice xo o.ns.length co) (.pointer (some ⟨ro',0,none⟩)) Hw.out.2.1 Hw.out.1 hwo.1 (wr.alloc ob') (HI.out.keep (zq wr ob')).sc (by rw [zsb];omega) (HI.out.keep (zq wr ob')).lk ((HE.out.old hO).old (zeW hNr ob')) (hEo.old (zeW hNr ob')))
        clear hN2 hEo ho hHd hO HD hwo
        cases hnd:zcC c L q o with
        | false =>
          rw [hnd] at HNe HDn
          clear hnd
          go_wp2_with (go_at_call 120;refine (HNe.out _).mono ?_;rintro e w1 ⟨rfl,hB1⟩;have HB1:=za (zE hB1);clear hB1)
          go_roundg (gk-1)
          case measure=>omega
          exact ⟨k+1,st,ov',by omega,by omega,by go_num,hst,hsum,HI.out.keep HB1.out,HDn.out,HF.out.trans (FT.below HB1.out (HI.out.tk HB1.out)),⟨(HB1.out.block _ qz).trans HQ.out.1,λe=>HQ.out.2 (HI.out.tk HB1.out _ e)⟩⟩
        | true =>
          rw [hnd] at HNe HDn
          clear hnd
          go_wp2_with (first
           | (go_at_call 119;refine (Hih.out k st ov' w1 hlt hst (by omega) HI1.out).mono ?_;rintro e w2 ⟨rfl,⟨ov2,hI2⟩,hF2⟩;have HI2:=za hI2;have HF2:=za hF2;clear hI2 hF2)
           | (go_at_call 120;refine (HNe.out _).mono ?_;rintro e w1 ⟨rfl,hB1⟩;have HB1:=za (zE hB1);have HI1:=za (HI.out.keep HB1.out);obtain ⟨t0,tf,tz⟩:=zu HI1.out.x4;unfold plV at t0;clear hB1))
          go_roundg (gk-1)
          case measure=>omega
          have hc2:=(zhB c L c.nd.eqs f k st).2 HI1.out.len
          have hs2:=zhs c L c.nd.eqs f k st HI1.out.len
          have hF3:=(FT.below HB1.out (HI.out.tk HB1.out)).trans HF2.out
          exact ⟨k+1,zaq c L c.nd.eqs f k st,ov2,by omega,by omega,by go_num,by omega,by omega,HI2.out,HDn.out,HF.out.trans hF3,⟨(hF3.fr.block _ qz HQ.out.2).trans HQ.out.1,hF3.not qz HQ.out.2⟩⟩
      · have ek:k=c.nd.eqs.length:=by omega
        subst ek
        rw [List.drop_length,zba] at HD
        obtain rfl:=HD.out
        obtain ⟨xs,hown,hxs⟩:=HI.out.own
        obtain ⟨xo,co,rfl⟩:=zcB hown
        obtain ⟨y0,yf,yz⟩:=zu HI.out.x5
        obtain ⟨q0,q1,q2,qf,qz⟩:=zL HQ.out.1
        obtain ⟨j0,hj,hj0,hj1,hj2⟩:=info_parts Tryz.infoEq
        have mx:st.2.length+1<=maxLen:=by unfold maxLen;omega
        have by':(st.2.length+1)*40<=140737488355328:=by omega
        have HEr:=za (HE.out.old hO)
        have Hown:=za hown
        have Hxs:=za hxs
        have hBz:=HI.out.hB
        have hoB:=hD.b.2.2.2.2.1
        clear hO hown hxs HD
        go_wp2_with (at_builtin;refine zbz _ rfl (.tmp 45) (.tmp 47) 95 rfl B 166 j0 _ 3 40 Tryz.underlying95 hj hj0 hj1 hj2 rfl (by decide) (.slice xo st.2.length co) st.2.length xs rfl (zD Hown.out _) ⟨wr.heap.size,0,none⟩ 1 1 [.slice xl q.ns.length cl,.int .i64 q.a,.pointer (some ⟨rb,0,none⟩)] rfl rfl (zN (zc wr _) rfl) zrf mx by' (by simp;omega) ?_;intro v' w9 hown9 hgrow hnew;obtain ⟨g9,cap9,rfl,hg9⟩:=zM hown9 (by omega);have hF9:=Fr.of_grown hgrow;have ho9:=(hF9.block ob (by simp;omega) (λh=>by have:=(Hown.out.lt _ h).1;omega)).trans ((Below.heap_alloc _ _ _ (by omega)).trans HI.out.x5);obtain ⟨v0,vf,vz⟩:=zu ho9;have HF9:=za hF9;have Hown9:=za hown9;have Hnew9:=za hnew;clear hown9 hgrow hnew hF9 ho9)
        first|go_end0|refine bodyPost_ret (results_none rfl _ _ _) rfl ?_
        have hA:=HI.out.app hD q _ _ HEr.out HF9.out xs Hxs.out Hown9.out (λk e=>(Hnew9.out k e).imp id (λh=>by rw [zsb] at h;exact h))
        rw [HP.out]
        exact ⟨rfl,⟨_,hA.1⟩,HF.out.trans hA.2⟩
end
section
open Go.RowKit
attribute [local go_sem ↓] Go.wp_at_zero Go.wp_at_succ
theorem al5 (w:World) (o1 o2 o3 o4 o5:Obj) :
 let W:=((((w.alloc o1).alloc o2).alloc o3).alloc o4).alloc o5
 W.heap[w.heap.size]?=some o1/\W.heap[w.heap.size+1]?=some o2/\W.heap[w.heap.size+1+1]?=some o3/\W.heap[w.heap.size+1+1+1]?=some o4/\W.heap[w.heap.size+1+1+1+1]?=some o5:=by
 have h (w:World) (o:Obj) (k:Nat):(w.alloc o).heap[k]?=if k=w.heap.size then some o else w.heap[k]?:=by
  show (w.heap.push o)[k]?=_
  rw [Array.getElem?_push]
 intro W
 refine ⟨?_,?_,?_,?_,?_⟩
 all_goals simp only [W,h,zsb]
 all_goals repeat (first|rw [if_pos trivial]|rw [if_pos rfl]|rw [if_neg (by omega)])
theorem ziN (w:World) (o1 o2 o3 o4 o5:Obj):Below w.heap.size w (((((w.alloc o1).alloc o2).alloc o3).alloc o4).alloc o5):=zhh (zcz _ _ _ _)
theorem zmO (pf:Nat->Os->Os) (n m:Nat) (s:Os):zeG pf n (m+1) s=zeG pf n m (pf (n-(m+1)) s):=rfl
theorem zoE (n:Nat) (hc:n<=3145728) (w:World):(Instr.makeSlice 64 (.int .i64 (n:Int)) (.int .i64 (n:Int))).run Tryz.prog w=.ok (.slice (some ⟨w.heap.size,0,none⟩) n n) (w.alloc (.cells (zdC (List.replicate n false)).toArray 4)):=zkG n hc w
theorem zki {N:Nat} {c:Sc} (hc:zbr c) (hn:c.nd.eqs.length<=1000000) {ev nv:Value} (w:World) (h:ScV w N c ev nv) (hN:N<=w.heap.size) :
 Calls Tryz.prog 69 #[.agg #[ev,nv]] w (λe w'=>∃ov xs,e=.returned ov/\w'.ownsRow w.heap.size 166 3 ov (zac c).length xs/\zcU w' N (zac c) xs/\Below w.heap.size w w'):=by
 obtain ⟨xe,cpe,nb,rfl,rfl,hnb⟩:=h.shape
 have HSc:=za h
 obtain ⟨nb',vs,qv,xs,e9,hnt⟩:=h.nd
 cases e9
 obtain ⟨xv,cpv,rfl⟩:=zB hnt.vown
 obtain ⟨xq,cpq,rfl⟩:=zB hnt.own
 have HNt:=za hnt
 have hmf:∀(fn:Go.Fn) (first cap:Array Value) (w:World),(Instr.makeFunc fn first cap).run Tryz.prog w=.ok (.func fn first cap) w:=λ_ _ _ _=>rfl
 have hsf:∀(a:Addr) (m:Mode) (fn:Go.Fn) (first cap:Array Value) (w:World),(store a (.func fn first cap) m).run Tryz.prog w=stored Tryz.prog w a (.func fn first cap) m:=λa m _ _ _ w=>run_store Tryz.prog w a _ m rfl
 have mk:=zoE c.nd.eqs.length (by omega)
 have HLo:=za (λo=>zgy hc (w.alloc o) (h.old (zeW hN o)) (by rw [zsb];omega))
 have Hc:=za hc
 clear h hnt hc
 go_enter Tryz.func69,Tryz.ntmps69
 go_upto_region 2 with (go_at_call 113;refine (HLo.out _).mono ?_;rintro e w1 ⟨mb,rfl,hmz,hLk,hB1⟩;have HLk:=za hLk;have hx1:=za ((hB1.block _ (by simp)).trans (zc w _));have HB1:=za (zE hB1);have hB1z:=hB1.size;clear hLk hB1)
 rw [zsb] at hmz hB1z
 obtain ⟨n0,n1,n2,n3,n4,n5,nf,nz⟩:=zt ((HB1.out.block nb (by omega)).trans HNt.out.blk)
 obtain ⟨s0,s1,sf,sz⟩:=zp hx1.out
 have hmb1:=HLk.out.lt
 go_upto_region 6 with fail
 have hD:OD N (w1.heap.size+5) mb w.heap.size w1.heap.size (w1.heap.size+1+1) (w1.heap.size+1+1+1+1) (w1.heap.size+1+1+1) (w1.heap.size+1):=⟨by omega,by omega,by omega,by omega,by omega,by omega,by omega,by omega⟩
 refine zn (λW=>OI N (w1.heap.size+5) c (.slice xe c.er.length cpe) (.pointer (some ⟨nb,0,none⟩)) c.linksL mb w.heap.size w1.heap.size (w1.heap.size+1+1) (w1.heap.size+1+1+1+1) (w1.heap.size+1+1+1) (w1.heap.size+1) (.slice none 0 0) (List.replicate c.nd.eqs.length false,[]) W/\Below w.heap.size w W) ⟨⟨(al5 w1 _ _ _ _ _).2.2.1,(al5 w1 _ _ _ _ _).2.1,((ziN w1 _ _ _ _ _).block _ sz).trans hx1.out,(al5 w1 _ _ _ _ _).1,(al5 w1 _ _ _ _ _).2.2.2.2,(al5 w1 _ _ _ _ _).2.2.2.1,⟨[],World.ownsRow_nil _ _ _ _,rfl⟩,HLk.out.keep (ziN w1 _ _ _ _ _),HSc.out.old (zm (HB1.out.trans ((ziN w1 _ _ _ _ _).mono (by omega))) hN),by simp,by simp only [zsb];omega,by omega⟩,HB1.out.trans ((ziN w1 _ _ _ _ _).mono (by omega))⟩ ?_
 rintro W ⟨hI,hB⟩
 have HD:=za hD
 have HP:=za (zl5 (xe:=xe) (cpe:=cpe) (nb:=nb) (L:=c.linksL) Hc.out hD hn c.nd.eqs.length)
 have HI:=za hI
 have HB:=za hB
 have hlb:∀k (W':World) (ov:Value) (s:Os),OI N (w1.heap.size+5) c (.slice xe c.er.length cpe) (.pointer (some ⟨nb,0,none⟩)) c.linksL mb w.heap.size w1.heap.size (w1.heap.size+1+1) (w1.heap.size+1+1+1+1) (w1.heap.size+1+1+1) (w1.heap.size+1) ov s W'->OT (w1.heap.size+1) (w1.heap.size+1+1+1) W' k->w.heap.size<=k:=by
  intro k W' ov s h e
  obtain ⟨xs,h1,_⟩:=h.own
  rcases (h.ot k).1 e with e|e|e
  · omega
  · omega
  · have:=(h1.lt k e).1;omega
 have Hlb:=za hlb
 obtain ⟨u0,u1,uf,uz⟩:=zp hI.x2
 obtain ⟨m0,m1,m2,m3,m4,m5,mf',mz⟩:=zt ((hB.block nb (by omega)).trans HNt.out.blk)
 clear hI hB hlb hD hx1 n0 n1 n2 n3 n4 n5 nf nz s0 s1 sf sz m0 m1 m2 m3 m4 HLo HLk mk hmf hsf
 go_wp2_with fail
 go_loopg [24] (c.nd.eqs.length+1) (λj x wr=>∃(k:Nat) (st:Os) (ov:Value),k+j=c.nd.eqs.length+1/\k<=c.nd.eqs.length/\x=.int .i64 k/\Hid (st.2.length+st.1.count false<=c.nd.eqs.length)/\Hid (OI N (w1.heap.size+5) c (.slice xe c.er.length cpe) (.pointer (some ⟨nb,0,none⟩)) c.linksL mb w.heap.size w1.heap.size (w1.heap.size+1+1) (w1.heap.size+1+1+1+1) (w1.heap.size+1+1+1) (w1.heap.size+1) ov st wr)/\Hid (zac c=(zeG (zaq c c.linksL c.nd.eqs c.nd.eqs.length) c.nd.eqs.length (j-1) st).2)/\Hid (Below w.heap.size w wr))
 case atStart=>exact ⟨0,_,_,by omega,Nat.zero_le _,rfl,by simp [Hid],HI.out,rfl,HB.out⟩
 case round =>
  clear HI HB u0 u1 uf uz m5 mf' mz
  obtain ⟨k,st,ov,hkj,hk,rfl,Hsum,HI,HO,HB⟩:=hrel
  by_cases hlt:k<c.nd.eqs.length
  · obtain ⟨m,rfl⟩:∃m,gk=m+1+1:=⟨gk-1-1,by omega⟩
    have hE:=HO.out
    rw [show m+1+1-1=m+1 from rfl,zmO,show c.nd.eqs.length-(m+1)=k by omega] at hE
    have HE:=za hE
    obtain ⟨t0,tf,tz⟩:=zu HI.out.x4
    unfold plV at t0
    have hcn:st.1.count false<=c.nd.eqs.length:=by have:=List.count_le_length (a:=false) (l:=st.1);have:=HI.out.len;omega
    have HPk:=za (HP.out k st ov wr hlt hcn Hsum.out HI.out)
    have Hcn:=za hcn
    clear hE HO hcn
    go_wp2_with (go_at_call 119;refine HPk.out.mono ?_;rintro e w2 ⟨rfl,⟨ov2,hI2⟩,hF2⟩;have HI2:=za hI2;have HF2:=za hF2;clear hI2 hF2)
    go_roundg (m+1)
    case measure=>omega
    have hs2:=zhs c c.linksL c.nd.eqs c.nd.eqs.length k st HI.out.len
    have hz:=HB.out.size
    refine ⟨k+1,_,ov2,by omega,by omega,by go_num,Nat.le_trans hs2 Hsum.out,HI2.out,HE.out,⟨HF2.out.fr.os.trans HB.out.os,HF2.out.fr.tape.trans HB.out.tape,HF2.out.fr.output.trans HB.out.output,Nat.le_trans hz HF2.out.fr.size,λk' hk'=>(HF2.out.fr.block k' (by omega) (λe=>by have:=Hlb.out k' _ _ _ HI.out e;omega)).trans (HB.out.block k' hk')⟩⟩
  · have ek:k=c.nd.eqs.length:=by omega
    subst ek
    have:gk=1:=by omega
    subst this
    have HE:Hid (zac c=st.2):=HO.out
    obtain ⟨xs,hown,hxs⟩:=HI.out.own
    obtain ⟨xo,co,rfl⟩:=zcB hown
    obtain ⟨y0,yf,yz⟩:=zu HI.out.x5
    have Hown:=za hown
    have Hxs:=za hxs
    clear HO hown hxs
    go_wp2_with fail
    go_ret
    rw [HE.out]
    exact ⟨_,rfl,xs,zR Hown.out (by omega),Hxs.out,HB.out⟩
end
section
open Go.RowKit Go.Shelf
attribute [local go_sem] Oper.semAt_some
def KpB (N b:Nat) (W W':World):Prop:=∀k,k=b∨k<N->W'.heap[k]?=W.heap[k]?
theorem KpB.cell {N b:Nat} {W W':World} (h:KpB N b W W') {k o:Nat} {v:Value} (hk:k=b∨k<N) (hc:W.cell? ⟨k,o,none⟩=some v):W'.cell? ⟨k,o,none⟩=some v:=(World.cell?_of_block (w:=W) (h k hk)).trans hc
def zbo {α:Type} (f:Nat->α) (n k:Nat):List α:=(List.range k).map λj=>f (n-1-j)
theorem zh8 {α:Type} (f:Nat->α) (n k:Nat):zbo f n (k+1)=zbo f n k++[f (n-1-k)]:=by simp [zbo,List.range_succ]
theorem zeU {α:Type} (f:Nat->α) (n k:Nat):(zbo f n k).length=k:=by simp [zbo]
abbrev Nx:=Nat×ByteArray×Nat
def zlb (x:Nx):Array Value:=#[.int .i64 (x.1:Int),.agg #[.string x.2.1,.int .i64 (x.2.2:Int)]]
def zdl (ns:List ByteArray) (ps:List Nat) (j:Nat):Nx:=(j,ns[j]?.getD ⟨#[]⟩,ps[j]?.getD 0)
theorem zmT (n:Nat) (hn:1<=n) (N l Bs gl cl:Nat) (ns:List ByteArray) (ps:List Nat) (hgl:gl<N) (h63:ns.length<=1000000) (J Jx:List Nx->World->Prop)
 (hY:∀pre x W,J pre W->pre.length<ns.length->YieldAt Fence.wide (n-1) Tryz.prog l (zlb x) W λe W' =>
   (e=.returned (.bool true)/\J (pre++[x]) W'/\KpB N Bs W W')∨(e=.returned (.bool false)/\Jx (pre++[x]) W'))
 (W:World) (hBs:W.cell? ⟨Bs,0,none⟩=some (.slice (some ⟨gl,0,none⟩) ns.length cl)) (hc:∀j,j<ns.length->W.cell? ⟨gl,j*2,none⟩=some (.string (ns[j]?.getD ⟨#[]⟩))/\W.cell? ⟨gl,j*2+1,none⟩=some (.int .i64 (ps[j]?.getD 0:Nat))) (h0:J [] W) :
 CallsIn Fence.wide n Tryz.prog 124 #[.func (.yield l) #[] #[],.pointer (some ⟨Bs,0,none⟩)] W λe W'=>(∃v,e=.returned v) /\
  ((∃ys,ys=zbo (zdl ns ps) ns.length ns.length/\J ys W')∨(∃pre,True/\Jx pre W')):=by
 refine callsIn_of_wp Tryz.func124 rfl trivial ?_ rfl
 simp only [Tryz.ntmps124,List.size_toArray,List.length_cons,List.length_nil,Nat.reduceAdd,Nat.reduceSub,Array.replicate_succ,Array.replicate_zero,List.push_toArray,List.append_toArray,List.nil_append,List.cons_append]
 gi_wp2
 gi_loopw [3] (λi wr=>∃m:Nat,m<=ns.length/\i=.int .i64 ((m:Int)-1)/\J (zbo (zdl ns ps) ns.length (ns.length-m)) wr/\KpB N Bs W wr)
  (λi _=>(intOf i+1).toNat)
 case atStart=>exact ⟨ns.length,Nat.le_refl _,by go_num,by rw [Nat.sub_self];exact h0,λ_ _=>rfl⟩
 case round =>
  obtain ⟨m,hm,rfl,hJs,hnx⟩:=hrel
  cases m with
  | zero =>
    rw [Nat.sub_zero] at hJs
    gi_wp2
    go_end0
    exact ⟨⟨_,rfl⟩,.inl ⟨_,rfl,hJs⟩⟩
  | succ m =>
    rw [show (((m+1:Nat):Int)-1)=(m:Int) by omega]
    obtain ⟨fn,tmps,assign,body,hy,hR⟩:=hY _ (zdl ns ps m) wr hJs (by rw [zeU];omega)
    obtain ⟨c0,c1⟩:=hc m (by omega)
    have d0:=hnx.cell (Or.inr hgl) c0
    have d1:=hnx.cell (Or.inr hgl) c1
    have dB:=hnx.cell (Or.inl rfl) hBs
    have i0:(0:Int)<=(m:Int):=by omega
    have i1:(m:Int)<(ns.length:Int):=by omega
    dsimp only [zlb,zdl] at hy
    gi_wp2
    refine hR.mono ?_
    have hup:zbo (zdl ns ps) ns.length (ns.length-m)=zbo (zdl ns ps) ns.length (ns.length-(m+1))++[zdl ns ps m]:=by
     rw [show ns.length-m=(ns.length-(m+1))+1 by omega,zh8,show ns.length-1-(ns.length-(m+1))=m by omega]
    rintro e W3 (⟨rfl,hJ3,hk3⟩|⟨rfl,hJx3⟩)
    · gi_wp2
      go_roundw
      case rel=>exact ⟨m,by omega,by go_num,by rw [hup];exact hJ3,λk hk=>(hk3 k hk).trans (hnx k hk)⟩
      case measure=>simp [intOf]
    · gi_wp2
      refine bodyPost_ret (results_none rfl _ _ _) rfl ?_
      exact ⟨⟨_,rfl⟩,.inr ⟨_,trivial,hJx3⟩⟩
end
end Go.Proofs.YtedmpgjebafcjaaGreatDoor
