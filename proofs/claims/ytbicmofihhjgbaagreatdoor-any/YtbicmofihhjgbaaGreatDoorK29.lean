/- Part 30 of the proof: CmpH. -/
import Derived.StillTailTactics
import Derived.Test.YtbicmofihhjgbaaGreatDoorK28
set_option maxRecDepth 100000
set_option maxHeartbeats 8000000
namespace Go.Proofs.YtbicmofihhjgbaaGreatDoor
open Go.Proofs.Tryz
open Go.RowKit Go.Shelf
section
variable {K K':Cd} {ls:List Lt} {B N base cb fu kb qb wb z:Nat} {c:Sc} {bod:Sc->Nat->Cd->Cd} {ev lv nv:Value} {W W' w:World}
attribute [local go_sem ↓] Go.wp_at_zero Go.wp_at_succ
def Cd.slotsTo (K:Cd)(n:Nat):Cd:={ K with slots:=max K.slots n }
def zbH (bod:Sc->Nat->Cd->Cd)(c:Sc)(base fu:Nat):List Qn->Cd×List Lt->Cd×List Lt
 | [],s=>s
 | q::l,s=>zbH bod c base fu l (((zbk bod c base fu s q.r (c.of (c.idx (q.ns.headD ⟨#[]⟩)))).1.adds (zdh c base (zbo (zdl q.ns q.ps) q.ns.length q.ns.length))),(zbk bod c base fu s q.r (c.of (c.idx (q.ns.headD ⟨#[]⟩)))).2)
def zcj (bod:Sc->Nat->Cd->Cd)(c:Sc)(base fu:Nat):Nat->Cd×List Lt->Cd
 | 0,s=>s.1
 | g+1,s=>match s.2 with
   | []=>s.1
   | m::r=>zcj bod c base fu g ((zbk bod c base fu (s.1.adds (whM c base fu m.clock),r) m.next m.clock).1.add 4 m.cell,(zbk bod c base fu (s.1.adds (whM c base fu m.clock),r) m.next m.clock).2)
def zcP (Pt:Tm->Nat×Nat->Prop)(bod:Sc->Nat->Cd->Cd)(c:Sc)(base fu:Nat):Nat->Cd×List Lt->Prop
 | 0,s=>s.2=[]
 | g+1,s=>match s.2 with
   | []=>True
   | m::r=>s.1.row.length+(whM c base fu m.clock).length<=1000000/\BdW (zbk bod c base fu (s.1.adds (whM c base fu m.clock),r) m.next m.clock)/\Pt m.next m.clock/\zfT c fu m.clock /\
     zcP Pt bod c base fu g ((zbk bod c base fu (s.1.adds (whM c base fu m.clock),r) m.next m.clock).1.add 4 m.cell,(zbk bod c base fu (s.1.adds (whM c base fu m.clock),r) m.next m.clock).2)
theorem zlX (c:Sc)(L:List (Nat×Nat))(eqs:List Qn):∀(f i:Nat) (s:Os),(∀q∈s.2,q∈eqs)->∀q∈(zaq c L eqs f i s).2,q∈eqs:=by
 intro f;induction f with
 | zero=>intro i s h;exact h
 | succ f ih =>
   have hl:∀(q:Qn) (l:List Qn) (j:Nat) (s:Os),(∀q∈s.2,q∈eqs)->∀q'∈(zba (zaq c L eqs f) c L q l j s).2,q'∈eqs:=by
    intro q l;induction l with
    | nil=>intro j s h;exact h
    | cons o l ihl =>
      intro j s h;rw[zba];by_cases hn:zcC c L q o=true
      . rw[if_pos hn];exact ihl _ _ (ih j s h)
      . rw[if_neg hn];exact ihl _ _ h
   intro i s h;rw[zaq];split
   . exact h
   . rename_i q hq
     split
     . exact h
     . intro q' hq';rcases List.mem_append.1 hq' with e|e
       . exact hl q eqs 0 (s.1.set i true,s.2) h q' e
       . rw[List.mem_singleton.1 e];exact List.mem_of_getElem? hq
theorem zhe (c:Sc):∀q∈zac c,q∈c.nd.eqs:=by
 unfold zac;have:∀(m:Nat) (s:Os),(∀q∈s.2,q∈c.nd.eqs)->∀q∈(zeG (zaq c c.linksL c.nd.eqs c.nd.eqs.length) c.nd.eqs.length m s).2,q∈c.nd.eqs:=by
  intro m;induction m with
  | zero=>intro s h;exact h
  | succ m ih=>intro s h;rw[zeG];exact ih _ (zlX _ _ _ _ _ _ h)
 exact this _ _ (λq h=>by simp at h)
theorem zrc (hb:∀d b K,BdK (bod d b K)->BdK K){s:Cd×List Lt}{t:Tm}{k:Nat×Nat}(h:BdW (zbk bod c base fu s t k)):BdW s:=zi6 (λ_ _ _ h=>h) (λs t k h=>zi7 hb s t k h) t k s h
theorem zq0 (hb:∀d b K,BdK (bod d b K)->BdK K):∀(l:List Qn) (s:Cd×List Lt),BdW (zbH bod c base fu l s)->BdW s:=by
 intro l;induction l with
 | nil=>intro s h;exact h
 | cons q l ih => intro s h;rw[zbH] at h;have h1:=ih _ h;exact zrc hb ⟨zb4 h1.1,h1.2⟩
theorem zmb {l:List Qn}{k:Nat}{q:Qn}(h:l[k]?=some q)(s:Cd×List Lt):zbH bod c base fu (l.drop k) s=zbH bod c base fu (l.drop (k+1)) (((zbk bod c base fu s q.r (c.of (c.idx (q.ns.headD ⟨#[]⟩)))).1.adds (zdh c base (zbo (zdl q.ns q.ps) q.ns.length q.ns.length))),(zbk bod c base fu s q.r (c.of (c.idx (q.ns.headD ⟨#[]⟩)))).2):=by obtain⟨h1,h2⟩:=List.getElem?_eq_some_iff.1 h;rw[List.drop_eq_getElem_cons h1,zbH,h2]
theorem KI.slotsSet {bv cv rv:Value}(h:KI B wb kb bv cv rv K W)(n:Nat):KI B wb kb bv cv rv (K.slotsTo n) (W.setCell (xD kb 2) (xI ((max K.slots n:Nat):Int)))/\FT (KT kb) W (W.setCell (xD kb 2) (xI ((max K.slots n:Nat):Int))):=by
 have hk:∀k,¬k=kb->(W.setCell (xD kb 2) (xI ((max K.slots n:Nat):Int))).heap[k]?=W.heap[k]?:=λk hk=>zr hk rfl;have hs:(W.setCell (xD kb 2) (xI ((max K.slots n:Nat):Int))).heap.size=W.heap.size:=by simp
 have hkb:=h.hkb
 have hI:KI B wb kb bv cv rv (K.slotsTo n) (W.setCell (xD kb 2) (xI ((max K.slots n:Nat):Int))) :=
  ⟨(hk _ h.dk).trans h.wr,zh _ _ _ _ h.blk,zi h.bown (λk h1 _ _=>hk k (by omega)),zi h.cown (λk h1 _ _=>hk k (by omega)),zi h.rown (λk h1 _ _=>hk k (by omega)),h.hwb,h.hkb,h.dk,h.d1,h.d2,by rw[hs];exact h.hB⟩
 refine⟨hI,⟨⟨rfl,rfl,rfl,by rw[hs];exact Nat.le_refl _,λk _ hn=>hk k (λe=>hn ((h.kt k).2 (Or.inl e)))⟩,λk e=>Or.inl ((h.kt k).2 ((hI.kt k).1 e))⟩⟩
theorem zjh (w:World)(h:CqI N qb cb base c ev nv lv w)(hb:base<=1000000) :
 xK 100 #[xP qb] w (λe w'=>e=.returned (xI ((base+c.nd.vars.length+1:Nat):Int))/\xB w w'):=by
 refine (zps w h hb).mono ?_;rintro e w' ⟨h1,n,rfl⟩;exact⟨h1,zI (Below.refl _ _) n⟩
structure BoI (N B wb kb qb cb base:Nat) (c:Sc) (ev nv lv:Value) (K:Cd) (ls:List Lt) (z:Nat) (w W:World):Prop where
 wl:WL N B wb kb qb cb base c ev nv lv K ls W
 ops:zbt W
 ft:FT (CT kb qb) w W
 x1:W.heap[z]?=some (.cells #[xP wb] 193 (0,0))
 x2:W.heap[z+1]?=some (.cells #[xP qb] 111 (0,0))
 n1:¬CT kb qb W z
 n2:¬CT kb qb W (z+1)
theorem BoI.step {lv':Value}{ls':List Lt}(hN:21<=N)(h:BoI N B wb kb qb cb base c ev nv lv K ls z w W)(hw:WL N B wb kb qb cb base c ev nv lv' K' ls' W')(hf:FT (CT kb qb) W W'):BoI N B wb kb qb cb base c ev nv lv' K' ls' z w W' :=
 ⟨hw,h.ops.old (hf.old h.wl.wi.qi.hN (λk e=>(h.wl.lt k e).1)) hN,h.ft.trans hf,(hf.fr.block _ (ze h.x1) h.n1).trans h.x1,(hf.fr.block _ (ze h.x2) h.n2).trans h.x2,hf.not (ze h.x1) h.n1,hf.not (ze h.x2) h.n2⟩
theorem BoI.stepK (hN:21<=N)(h:BoI N B wb kb qb cb base c ev nv lv K ls z w W)(hk:KW B wb kb K' W')(hf:FT (KT kb) W W'):BoI N B wb kb qb cb base c ev nv lv K' ls z w W':=h.step hN (h.wl.ftk hk hf).1 (h.wl.ftk hk hf).2
theorem BoI.keep (hN:21<=N)(h:BoI N B wb kb qb cb base c ev nv lv K ls z w W)(hB:xB W W'):BoI N B wb kb qb cb base c ev nv lv K ls z w W':=h.step hN (h.wl.keep hB) (FT.below hB (h.wl.tk hB))
theorem zoR (hc:zbr c)(hn:c.nd.eqs.length<=1000000)(bod:Sc->Nat->Cd->Cd)(fu gas:Nat)(Pt:Tm->Nat×Nat->Prop)(hN21:21<=N)(hbase:base<=100000)
 (hPw:∀t k,Pt t k->Wf t) (hPs:∀t k i u,Pt t k->zak t=true->t.ts[i]?=some u->Pt u (c.operand t i k)) (hbod:∀d b K,BdK (bod d b K)->BdK K) (hC:zlS N B wb kb qb cb base c ev nv bod fu Pt)
 (K:Cd) (w:World) (h:WL N B wb kb qb cb base c ev nv (.slice none 0 0) K [] w) (hop:zbt w)
 (hbs:K.row.length<=1000000) (hPr:∀q∈c.nd.eqs,Pt q.r (c.of (c.idx (q.ns.headD ⟨#[]⟩)))) (hLa:zcP Pt bod c base fu gas (zbH bod c base fu (zac c) ((K.slotsTo (base+c.nd.vars.length+1)).add 2 ((base+c.nd.vars.length:Nat):Int),[]))) (hbE:BdW (zbH bod c base fu (zac c) ((K.slotsTo (base+c.nd.vars.length+1)).add 2 ((base+c.nd.vars.length:Nat):Int),[]))) :
 xK 57 #[xP wb,xP qb] w (λe w'=>e=.returned (.tuple #[])/\(∃lv',WL N B wb kb qb cb base c ev nv lv' (zcj bod c base fu gas (zbH bod c base fu (zac c) ((K.slotsTo (base+c.nd.vars.length+1)).add 2 ((base+c.nd.vars.length:Nat):Int),[]))) [] w')/\FT (CT kb qb) w w'):=by
 obtain⟨xe,cpe,nb,rfl,rfl,hnb⟩:=h.wi.qi.sc.shape;have hI0:∀o1 o2,o1=Obj.cells #[xP wb] 193 (0,0)->o2=Obj.cells #[xP qb] 111 (0,0)->BoI N B wb kb qb cb base c (xE xe c cpe) (xP nb) (.slice none 0 0) K [] w.heap.size w ((w.alloc o1).alloc o2):=by
  intro o1 o2 e1 e2;have hB:=zaD w o1 o2;refine⟨h.keep hB,hop.old (zm hB h.wi.qi.hN) hN21,FT.below hB (h.tk hB),by rw[(zd8 w o1 o2).1,e1],by rw[(zd8 w o1 o2).2,e2],λe=>?_,λe=>?_⟩
  . have:=(h.lt _ (h.tk hB _ e)).2.1;omega
  . have:=(h.lt _ (h.tk hB _ e)).2.1;omega
 have HI0:=za hI0;have hNw:=h.wi.qi.hN;have HW0:=za h;clear hI0 h hop;refine callsIn_wide.1 (callsIn_of_wp_marks (F:=Fence.wide) (n:=9) func57 rfl trivial (wpIn_wide.2 ?_) rfl);simp only[ntmps57,List.size_toArray,List.length_cons,List.length_nil,Nat.reduceAdd,Nat.reduceSub,Array.replicate_succ,Array.replicate_zero,List.push_toArray,List.append_toArray,List.nil_append,List.cons_append];obtain⟨QM,hQM⟩:∃QM,bodyPostM Fence.wide 9 prog Tryz.f57 (λe w'=>e=.returned (.tuple #[])/\(∃lv',WL N B wb kb qb cb base c (xE xe c cpe) (xP nb) lv' (zcj bod c base fu gas (zbH bod c base fu (zac c) ((K.slotsTo (base+c.nd.vars.length+1)).add 2 ((base+c.nd.vars.length:Nat):Int),[]))) [] w')/\FT (CT kb qb) w w')=QM:=⟨_,rfl⟩;rw[hQM];have HQM:=za hQM;clear hQM;go_upto_region 1 with fail;refine zn (λW=>BoI N B wb kb qb cb base c (xE xe c cpe) (xP nb) (.slice none 0 0) K [] w.heap.size w W) (HI0.o _ _ rfl rfl) ?_;intro W hX;have HX:=za hX;clear hX HI0;go_cut [] from 9 to 24 (λwx=>Hid (BoI N B wb kb qb cb base c (xE xe c cpe) (xP nb) (.slice none 0 0) (K.slotsTo (base+c.nd.vars.length+1)) [] w.heap.size w wx))
 case first =>
  obtain⟨bv,cv,rv,hI⟩:=HX.o.wl.wi.kw;obtain⟨x0,xf,xz⟩:=zu HX.o.x1;obtain⟨y0,yf,yz⟩:=zu HX.o.x2;obtain⟨p0,pf,pz⟩:=zu hI.wr;obtain⟨m0,m1,m2,m3,m4,m5,mf,mz⟩:=zt hI.blk;have HEn:=za (zjh W.drew (HX.o.keep hN21 (zo (Below.refl _ _))).wl.wi.qi (by omega));have HI:=za hI;have hzk:¬w.heap.size=kb:=λe=>HX.o.n1 (Or.inl ((hI.kt _).2 (Or.inl e)));have hzk2:¬w.heap.size+1=kb:=λe=>HX.o.n2 (Or.inl ((hI.kt _).2 (Or.inl e)));have hwk:=hI.dk;clear hI m0 m1 m3 m4 m5;refine wp_region_noPanic ?_;refine wp_region_held_drew (S:=(λw'=>w'.cell? (xD w.heap.size 0)=some (xP wb)/\w'.cell? (xD (w.heap.size+1) 0)=some (xP qb)/\w'.cell? (xD wb 0)=some (xP kb))) (by kernel_rfl) ?_ (λhHeld=>?_)
  . (try dsimp only);(first|(with_reducible (refine⟨?_,?_,?_⟩ <;> repeat (first|assumption|refine zg ?_|refine zd HB1.o ?_ (by omega)|refine zk (by omega) ?_)))|go_keep)
  refine tkA 0 rfl (v:=?v1) (Or.inl ⟨by rfl,?h1⟩) ?_;case h1=>(intro w hSw;(try dsimp only at hSw);go_simp;try with_reducible rfl)
  try simp only[Act.put,zx2]
  refine tkA 1 rfl (v:=?v2) (Or.inl ⟨by rfl,?h2⟩) ?_;case h2=>(intro w hSw;(try dsimp only at hSw);go_simp;try with_reducible rfl)
  try simp only[Act.put,zx2]
  refine tkA 2 rfl (v:=?v3) (Or.inl ⟨by rfl,?h3⟩) ?_;case h3=>(intro w hSw;(try dsimp only at hSw);go_simp;try with_reducible rfl)
  try simp only[Act.put,zx2]
  refine tkA 3 rfl (v:=?v4) (Or.inl ⟨by rfl,?h4⟩) ?_;case h4=>(intro w hSw;(try dsimp only at hSw);go_simp;try with_reducible rfl)
  try simp only[Act.put,zx2]
  refine tkA 4 rfl (v:=?v5) (Or.inl ⟨by rfl,?h5⟩) ?_;case h5=>(intro w hSw;(try dsimp only at hSw);go_simp;try with_reducible rfl)
  try simp only[Act.put,zx2]
  refine tkA 5 rfl (v:=?v6) (Or.inl ⟨by rfl,?h6⟩) ?_;case h6=>(intro w hSw;(try dsimp only at hSw);go_simp;try with_reducible rfl)
  try simp only[Act.put,zx2]
  refine tkA 6 rfl (v:=?v7) (Or.inl ⟨by rfl,?h7⟩) ?_;case h7=>(intro w hSw;(try dsimp only at hSw);go_simp;try with_reducible rfl)
  try simp only[Act.put,zx2]
  refine tkA 7 rfl (v:=?v8) (Or.inl ⟨by rfl,?h8⟩) ?_;case h8=>(intro w hSw;(try dsimp only at hSw);go_simp;try with_reducible rfl)
  try simp only[Act.put,zx2]
  refine tkA 8 rfl (v:=?v9) (Or.inl ⟨by rfl,?h9⟩) ?_;case h9=>(intro w hSw;(try dsimp only at hSw);go_simp;try with_reducible rfl)
  try simp only[Act.put,zx2]
  refine tkA 9 rfl (v:=?v10) (Or.inl ⟨by rfl,?h10⟩) ?_;case h10=>(intro w hSw;(try dsimp only at hSw);go_simp;try with_reducible rfl)
  try simp only[Act.put,zx2]
  refine tkA 11 rfl (v:=?v11) (Or.inl ⟨by rfl,?h11⟩) ?_;case h11=>(intro w hSw;(try dsimp only at hSw);go_simp;try with_reducible rfl)
  try simp only[Act.put,zx2]
  refine wpAnyH_ready (rs:=[10,12]) (by kernel_rfl) (by simp) ?_;refine AllReadyH.cons rfl (λKz hKz=>?_) ?_;go_simp;refine hKz.out _ _ ?_ (λh9=>?_)
  . (try dsimp only);(first|(with_reducible (refine⟨?_,?_,?_⟩ <;> repeat (first|assumption|refine zg ?_|refine zd HB1.o ?_ (by omega)|refine zk (by omega) ?_)))|go_keep)
  clear hKz Kz hHeld;have hHeld:=h9;clear h9;try simp only[Act.put,zx2]
  refine wpAnyH_ready (rs:=[12]) (by kernel_rfl) (by simp) ?_;refine AllReadyH.cons rfl (λKz hKz=>?_) ?_;go_simp;first|go_at_K|(((go_at_call 100;refine HEn.o.mono ?_;rintro e w1 ⟨rfl,hB1⟩;have HB1:=za (zw hB1);have r2:=zd HB1.o m2 mz;have rf:=zai ((HB1.o.block _ mz).trans HI.o.blk);have rz:kb<w1.heap.size:=Nat.lt_of_lt_of_le mz HB1.o.size;clear hB1));first|go_at_K|go_wp2_with fail)
  refine hKz.out _ _ ?_ (λh9=>?_)
  . (try dsimp only);(first|(with_reducible (refine⟨?_,?_,?_⟩ <;> repeat (first|assumption|refine zg ?_|refine zd HB1.o ?_ (by omega)|refine zk (by omega) ?_)))|go_keep)
  clear hKz Kz hHeld;have hHeld:=h9;clear h9;try simp only[Act.put,zx2]
  refine wpAnyH_ready (rs:=[13]) (by kernel_rfl) (by simp) ?_;refine AllReadyH.cons rfl (λKz hKz=>?_) ?_;go_simp;first|go_at_K|(((go_at_call 100;refine HEn.o.mono ?_;rintro e w1 ⟨rfl,hB1⟩;have HB1:=za (zw hB1);have r2:=zd HB1.o m2 mz;have rf:=zai ((HB1.o.block _ mz).trans HI.o.blk);have rz:kb<w1.heap.size:=Nat.lt_of_lt_of_le mz HB1.o.size;clear hB1));first|go_at_K|go_wp2_with fail)
  refine hKz.out _ _ ?_ (λh9=>?_)
  . (try dsimp only);(first|(with_reducible (refine⟨?_,?_,?_⟩ <;> repeat (first|assumption|refine zg ?_|refine zd HB1.o ?_ (by omega)|refine zk (by omega) ?_)))|go_keep)
  clear hKz Kz hHeld;have hHeld:=h9;clear h9;try simp only[Act.put,zx2]
  refine tkA 14 rfl (v:=?v12) (Or.inl ⟨by rfl,?h12⟩) ?_;case h12=>(intro w hSw;(try dsimp only at hSw);go_simp;try with_reducible rfl)
  try simp only[Act.put,zx2]
  refine tkA 15 rfl (v:=?v13) (Or.inl ⟨by rfl,?h13⟩) ?_;case h13=>(intro w hSw;(try dsimp only at hSw);go_simp;try with_reducible rfl)
  try simp only[Act.put,zx2]
  refine wpAnyH_ready (rs:=[16]) (by kernel_rfl) (by simp) ?_;refine AllReadyH.cons rfl (λKz hKz=>?_) ?_;go_simp;refine hKz.out _ _ ?_ (λh9=>?_)
  . (try dsimp only);(first|(with_reducible (refine⟨?_,?_,?_⟩ <;> repeat (first|assumption|refine zg ?_|refine zd HB1.o ?_ (by omega)|refine zk (by omega) ?_)))|go_keep)
  clear hKz Kz hHeld;have hHeld:=h9;clear h9;try simp only[Act.put,zx2]
  refine wpAnyH_done (by kernel_rfl) ?_ _;rotate_left;exact AllReadyH.nil;exact AllReadyH.nil;exact AllReadyH.nil;refine AllReadyH.cons rfl (λKz hKz=>?_) ?_;go_simp;first|go_at_K|(((go_at_call 100;refine HEn.o.mono ?_;rintro e w1 ⟨rfl,hB1⟩;have HB1:=za (zw hB1);have r2:=zd HB1.o m2 mz;have rf:=zai ((HB1.o.block _ mz).trans HI.o.blk);have rz:kb<w1.heap.size:=Nat.lt_of_lt_of_le mz HB1.o.size;clear hB1));first|go_at_K|go_wp2_with fail)
  refine hKz.out _ _ ?_ (λh9=>?_)
  . (try dsimp only);(first|(with_reducible (refine⟨?_,?_,?_⟩ <;> repeat (first|assumption|refine zg ?_|refine zd HB1.o ?_ (by omega)|refine zk (by omega) ?_)))|go_keep)
  clear hKz Kz hHeld;have hHeld:=h9;clear h9;try simp only[Act.put,zx2]
  refine wpAnyH_ready (rs:=[10]) (by kernel_rfl) (by simp) ?_;refine AllReadyH.cons rfl (λKz hKz=>?_) ?_;go_simp;refine hKz.out _ _ ?_ (λh9=>?_)
  . (try dsimp only);(first|(with_reducible (refine⟨?_,?_,?_⟩ <;> repeat (first|assumption|refine zg ?_|refine zd HB1.o ?_ (by omega)|refine zk (by omega) ?_)))|go_keep)
  clear hKz Kz hHeld;have hHeld:=h9;clear h9;try simp only[Act.put,zx2]
  refine wpAnyH_ready (rs:=[13]) (by kernel_rfl) (by simp) ?_;refine AllReadyH.cons rfl (λKz hKz=>?_) ?_;go_simp;first|go_at_K|(((go_at_call 100;refine HEn.o.mono ?_;rintro e w1 ⟨rfl,hB1⟩;have HB1:=za (zw hB1);have r2:=zd HB1.o m2 mz;have rf:=zai ((HB1.o.block _ mz).trans HI.o.blk);have rz:kb<w1.heap.size:=Nat.lt_of_lt_of_le mz HB1.o.size;clear hB1));first|go_at_K|go_wp2_with fail)
  refine hKz.out _ _ ?_ (λh9=>?_)
  . (try dsimp only);(first|(with_reducible (refine⟨?_,?_,?_⟩ <;> repeat (first|assumption|refine zg ?_|refine zd HB1.o ?_ (by omega)|refine zk (by omega) ?_)))|go_keep)
  clear hKz Kz hHeld;have hHeld:=h9;clear h9;try simp only[Act.put,zx2]
  refine tkA 14 rfl (v:=?v14) (Or.inl ⟨by rfl,?h14⟩) ?_;case h14=>(intro w hSw;(try dsimp only at hSw);go_simp;try with_reducible rfl)
  try simp only[Act.put,zx2]
  refine tkA 15 rfl (v:=?v15) (Or.inl ⟨by rfl,?h15⟩) ?_;case h15=>(intro w hSw;(try dsimp only at hSw);go_simp;try with_reducible rfl)
  try simp only[Act.put,zx2]
  refine wpAnyH_ready (rs:=[16]) (by kernel_rfl) (by simp) ?_;refine AllReadyH.cons rfl (λKz hKz=>?_) ?_;go_simp;refine hKz.out _ _ ?_ (λh9=>?_)
  . (try dsimp only);(first|(with_reducible (refine⟨?_,?_,?_⟩ <;> repeat (first|assumption|refine zg ?_|refine zd HB1.o ?_ (by omega)|refine zk (by omega) ?_)))|go_keep)
  clear hKz Kz hHeld;have hHeld:=h9;clear h9;try simp only[Act.put,zx2]
  refine wpAnyH_done (by kernel_rfl) ?_ _;rotate_left;exact AllReadyH.nil;exact AllReadyH.nil;exact AllReadyH.nil;exact AllReadyH.nil;all_goals refine NoPanic.normal ?_
  all_goals go_wp2_with fail
  all_goals go_meet
  all_goals
   have hS:=(HI.o.keep HB1.o).slotsSet (base+c.nd.vars.length+1);have e:(max (K.slots:Int) ((base:Int)+(c.nd.vars.length:Int)+1))=((max K.slots (base+c.nd.vars.length+1):Nat):Int):=(by omega);rw[e];exact (HX.o.keep hN21 HB1.o).stepK hN21 ⟨_,_,_,hS.1⟩ hS.2
 case rest =>
  have HX1:Hid (BoI N B wb kb qb cb base c (xE xe c cpe) (xP nb) (.slice none 0 0) (K.slotsTo (base+c.nd.vars.length+1)) [] w.heap.size w wc):=hcut;clear hcut HX;obtain⟨K1,hK1⟩:∃K1,K.slotsTo (base+c.nd.vars.length+1)=K1:=⟨_,rfl⟩;rw[hK1] at HX1;have hb1:K1.row.length<=1000000:=by rw[<- hK1];exact hbs
  have HK1:=za hK1;clear hK1;go_upto_region 2 with fail;go_cut [] from 25 to 28 (λwx=>Hid (BoI N B wb kb qb cb base c (xE xe c cpe) (xP nb) (.slice none 0 0) (K1.add 2 ((base+c.nd.vars.length:Nat):Int)) [] w.heap.size w wx))
  case first =>
   obtain⟨x0,xf,xz⟩:=zu HX1.o.x1;obtain⟨y0,yf,yz⟩:=zu HX1.o.x2;have hn1:¬KT kb wc w.heap.size:=λe=>HX1.o.n1 (Or.inl e);have hn2:¬KT kb wc (w.heap.size+1):=λe=>HX1.o.n2 (Or.inl e);have HAc:=za (zhw wc.drew (HX1.o.keep hN21 (zo (Below.refl _ _))).wl.wi.qi (by omega));have HAd:=za (zc7 B wb kb K1 2 ((base+c.nd.vars.length:Nat):Int) wc.drew (HX1.o.keep hN21 (zo (Below.refl _ _))).wl.wi.kw hb1)
   go_region_held3 (λw'=>w'.cell? (xD w.heap.size 0)=some (xP wb)/\w'.cell? (xD (w.heap.size+1) 0)=some (xP qb))
    (first|(with_reducible (refine⟨?_,?_⟩ <;> repeat (first|assumption|refine zg ?_|refine FT.cell HF2.o ?_ (by assumption))))|go_keep)
    (first
      | (go_at_call 56;refine HAd.o.mono ?_;rintro e w2 ⟨rfl,hK2,hF2⟩;have HK2:=za hK2;have HF2:Hid (FT (KT kb) wc w2):=⟨hF2.fr.undrew,hF2.tk⟩;clear hK2 hF2)
      | (go_at_call 101;refine HAc.o.mono ?_;rintro e w1 ⟨rfl,rfl⟩))
   all_goals go_wp2_with fail
   all_goals go_meet
   all_goals exact HX1.o.stepK hN21 HK2.o HF2.o
  case rest =>
   obtain⟨K2,hK2⟩:∃K2,K1.add 2 ((base+c.nd.vars.length:Nat):Int)=K2:=⟨_,rfl⟩;have HX2:Hid (BoI N B wb kb qb cb base c (xE xe c cpe) (xP nb) (.slice none 0 0) K2 [] w.heap.size w wc):=(by rw[<- hK2];exact hcut);have HK2:=za hK2;clear hcut HX1 hb1 hK2;obtain⟨y0,yf,yz⟩:=zu HX2.o.x2;obtain⟨m0,m1,m2,m3,m4,mf,mz⟩:=zcf HX2.o.wl.wi.qi.blk;have HIn:=za (zki hc hn wc HX2.o.wl.wi.qi.sc HX2.o.wl.wi.qi.hN);clear m2 m3 m4;go_wp2_with (go_at_call 102;refine HIn.o.mono ?_;rintro e w1 ⟨ov,xs,rfl,hown,hxs,hB1⟩;obtain⟨xo,co,rfl⟩:=zcB hown;have Hown:=za hown;have Hxs:=za hxs;have HX3:=za (HX2.o.keep hN21 hB1);have HB1:=za hB1;clear hown hxs hB1);obtain⟨sf,hsf⟩:∃sf,zbH bod c base fu (zac c) (K2,[])=sf:=⟨_,rfl⟩;have hbsf:BdW sf:=(by rw[<- hsf,<- HK2.o,<- HK1.o];exact hbE);have Hbsf:=za hbsf;have HLa:Hid (zcP Pt bod c base fu gas sf):=(by unfold Hid;rw[<- hsf,<- HK2.o,<- HK1.o];exact hLa);have HSf:=za hsf;clear hsf hbsf HIn m0 m1 mf mz y0 yf yz hbs;refine wp_loop_ghost_k (λj a W=>∃(v35 v5 v36 v37 v38 v39 v40 v41 v42 v43 v44 v45 v46 v47 v48 v49 v50 v51 v52 v53 v54 v55 v56 v57 v58 v59 v60 v68:Value) (ds:List Deferred) (k:Nat) (lv:Value) (s:Cd×List Lt),(v35=xI (k:Nat)/\k+j=(zac c).length+1/\k<=(zac c).length/\Hid (BoI N B wb kb qb cb base c (xE xe c cpe) (xP nb) lv s.1 s.2 w.heap.size w W)/\Hid (zbH bod c base fu ((zac c).drop k) s=sf)/\Hid (W.ownsRow wc.heap.size 184 3 (.slice xo (zac c).length co) (zac c).length xs/\(∀g,xo=some (xD g 0)->¬CT kb qb W g))/\Hid (zdd w.heap.size W ds))/\a={ tmps:=#[xP wb,xP qb,xP w.heap.size,xP (w.heap.size+1),undef,v5,undef,undef,undef,u9,u10,u11,u12,u13,u14,u15,u16,u17,u18,u19,u20,u21,u22,u23,u24,u25,u26,u27,u28,xP qb,xP qb,xP qb,.agg #[xE xe c cpe,xP nb],.slice xo (zac c).length co,xI ((zac c).length:Nat),v35,v36,v37,v38,v39,v40,v41,v42,v43,v44,v45,v46,v47,v48,v49,v50,v51,v52,v53,v54,v55,v56,v57,v58,v59,v60,undef,undef,undef,undef,undef,undef,undef,v68,undef,undef,undef,undef,undef,undef,undef,undef,undef,undef,undef,undef,undef,undef,undef,undef,undef,undef,undef,undef,undef,undef,undef,undef,undef,undef,undef,undef,undef,undef,undef,undef,undef,undef,undef,undef],defers:=ds }) ((zac c).length+1) ?_ ?_
   . refine⟨xI 0,undef,undef,undef,undef,undef,undef,undef,undef,undef,undef,undef,undef,undef,undef,undef,undef,undef,undef,undef,undef,undef,undef,undef,undef,undef,undef,undef,[],0,.slice none 0 0,(K2,[]),⟨rfl,by omega,Nat.zero_le _,HX3.o,HSf.o,⟨Hown.o,?_⟩,.nil⟩,rfl⟩;intro g hg e;have e1:=HX2.o.wl.tk HB1.o g e;have e2:=(HX2.o.wl.lt g e1).2.1;have e3:=(Hown.o.lt g (by rw[hg];rfl)).1;omega
   . rintro gk a wr ⟨_,v5,v36,v37,v38,v39,v40,v41,v42,v43,v44,v45,v46,v47,v48,v49,v50,v51,v52,v53,v54,v55,v56,v57,v58,v59,v60,v68,ds,k,lv,s,⟨rfl,hkj,hk,HI,HD,HO,HDs⟩,rfl⟩ J Kn hJ hKn;by_cases hlt:k<(zac c).length
     . obtain⟨q,hq⟩:∃q,(zac c)[k]?=some q:=⟨_,zsc hlt⟩;have hO1:Old N w w1:=HX3.o.ft.old hNw (λk e=>(HW0.o.lt k e).1);have hOr:Old N w wr:=HI.o.ft.old hNw (λk e=>(HW0.o.lt k e).1);have hO:Old N w1 wr:=λb hb=>(hOr b hb).trans (hO1 b hb).symm;obtain⟨g,lq,rq,rfl,c0,c1,c2,hE⟩:=zcd (zR HO.o.1 (Nat.zero_le _)) (Hxs.o.old hO) hq rfl;obtain⟨rb,_,_,rfl,_⟩:=hE.tt.ptr;obtain⟨xl,cl,rfl⟩:=zB hE.own;have hqm:=zhe c q (List.mem_of_getElem? hq);obtain⟨hql,hq1,_⟩:=hc.nd.eqs q hqm;obtain⟨s0,ss,hss⟩:∃s ss,q.ns=s::ss:=by
        cases hx:q.ns with
        | nil=>rw[hx] at hq1;simp at hq1
        | cons s ss=>exact⟨s,ss,rfl⟩
       obtain⟨p0,pp,hpp⟩:∃p pp,q.ps=p::pp:=by
        cases hx:q.ps with
        | nil=>rw[hx] at hql;simp at hql;rw[hql] at hq1;simp at hq1
        | cons s ss=>exact⟨s,ss,rfl⟩
       obtain⟨gl,rfl,n0,n1⟩:=zbe hE.own (k:=0) (s:=s0) (p:=p0) (by rw[hss];rfl) (by rw[hpp];rfl) rfl;have hglN:=hE.lo gl rfl;have hkq:c.of (c.idx (q.ns.headD ⟨#[]⟩))=c.of (c.idx s0):=(by rw[hss];rfl);obtain⟨kq,hkq0⟩:∃kq,c.of (c.idx s0)=kq:=⟨_,rfl⟩;have hPq:=hPr q hqm;have hEd:=HD.o;rw[zmb hq] at hEd;rw[hkq,hkq0] at hPq hEd;obtain⟨sv,hsv⟩:∃sv,zbk bod c base fu s q.r kq=sv:=⟨_,rfl⟩;rw[hsv] at hEd;have hb2:BdW ((sv.1.adds (zdh c base (zbo (zdl q.ns q.ps) q.ns.length q.ns.length))),sv.2):=zq0 hbod _ _ (by rw[hEd];exact Hbsf.o);have hbv:BdW sv:=⟨zb4 hb2.1,hb2.2⟩;have hrl:sv.1.row.length+q.ns.length<=1000000:=(by have:=hb2.1.1;rw[Cd.adds_len] at this;simpa [zdh,zeU] using this);have hnl:q.ns.length<=1000000:=(by omega);have hcells:∀j,j<q.ns.length->wr.cell? (xD gl (j*2))=some (.string (q.ns[j]?.getD ⟨#[]⟩))/\wr.cell? (xD gl (j*2+1))=some (xI (q.ps[j]?.getD 0:Nat)):=(by intro j hj;obtain⟨s',hs'⟩:∃s,q.ns[j]?=some s:=⟨_,zsc hj⟩;obtain⟨p',hp'⟩:∃p,q.ps[j]?=some p:=⟨_,zsc (by omega)⟩;obtain⟨gl',e9,h1,h2⟩:=zbe hE.own hs' hp' rfl;cases e9;rw[hs',hp'];exact⟨h1,h2⟩);have Hcells:=za hcells;have HE:=za hE;have HEd:=za hEd;have Hbv:=za hbv;have HPq:=za hPq;have Hsv:=za hsv;have Hkq0:=za hkq0;have hlen0:(0:Int)<(q.ns.length:Int):=(by omega);have hlenN:0<q.ns.length:=hq1;have hlenE:¬q.ns=[]:=(by rw[hss];simp);have i0:(0:Int)<=(k:Int):=(by omega);have i1:(k:Int)<((zac c).length:Int):=(by omega);have h16:(zac c).length<=9223372036854775807:=by
        rcases HO.o.1.2 with ⟨_,h⟩|⟨g,cap,cur,hv,_,_,h3,h4,_⟩
        . omega
        . unfold maxLen at h4;omega
       have HTv:=za hE.tt;have hNr:=HI.o.wl.wi.qi.hN;have hgr:=ze HI.o.x1;clear hO1 hOr hO hE hq hqm hql hq1 hss hpp hkq hkq0 hPq hEd hsv hb2 hbv hcells HD;go_upto_region 6 with fail;refine zn (λV=>BoI N B wb kb qb cb base c (xE xe c cpe) (xP nb) lv s.1 s.2 w.heap.size w V/\xB wr V/\xH V wr.heap.size #[xS gl q.ns.length cl,xI q.a,xP rb] 184) ⟨HI.o.keep hN21 (zq wr _),zq wr _,zc wr _⟩ ?_;rintro V ⟨hIV,hBV,hQV⟩;have HIV:=za hIV;have HBV:=za hBV;have HQV:=za hQV;have hnQ:¬CT kb qb V wr.heap.size:=λe=>by have:=(HI.o.wl.lt _ (HI.o.wl.tk hBV _ e)).2.1;omega
       have hnG:¬CT kb qb V gl:=λe=>by have:=(hIV.wl.lt _ e).1;omega
       clear hIV hBV hQV;go_cut [] from 39 to 57 (λwx=>∃lv5,Hid (BoI N B wb kb qb cb base c (xE xe c cpe) (xP nb) lv5 sv.1 sv.2 w.heap.size w wx)/\Hid (FT (CT kb qb) V wx))
       case first =>
        obtain⟨x0,xf,xz⟩:=zu HIV.o.x1;obtain⟨y0,yf,yz⟩:=zu HIV.o.x2;obtain⟨m0,m1,m2,m3,m4,mf,mz⟩:=zcf HIV.o.wl.wi.qi.blk;obtain⟨q0,q1,q2,qf,qz⟩:=zL HQV.o;have hzV:=HBV.o.size;have d0:=zd HBV.o n0 (by omega);have d1:=zd HBV.o n1 (by omega);have hglV:gl<V.heap.size:=(by omega);have hz1:=HIV.o.n1;have hz2:=HIV.o.n2;have HI6:=za (zaz s0 (p0:Int) V.drew (HIV.o.wl.wi.qi.sc.old (λ_ _=>rfl)) HIV.o.wl.wi.qi.hN);have HVa:=za (λ(W':World) (hB:xB V W')=>zir bod fu Pt hN21 hbase hPw hPs hbod hC q.r (xP rb) kq s W' (HTv.o.old (λb hb=>((hB.block b (by omega)).trans (HBV.o.block b (by omega))))) (HIV.o.keep hN21 hB).wl (HIV.o.keep hN21 hB).ops HPq.o (by rw[Hsv.o];exact Hbv.o));rw[Hsv.o] at HVa;unfold ckV at HVa;clear m3 m4
        go_region_held3 (λw'=>w'.cell? (xD w.heap.size 0)=some (xP wb)/\w'.cell? (xD (w.heap.size+1) 0)=some (xP qb)/\w'.cell? (xD qb 0)=some (xE xe c cpe)/\w'.cell? (xD qb 1)=some (xP nb)/\w'.cell? (xD qb 2)=some (.map (some cb))/\w'.cell? (xD wr.heap.size 0)=some (xS gl q.ns.length cl)/\w'.cell? (xD wr.heap.size 2)=some (xP rb)/\w'.cell? (xD gl 0)=some (.string s0)/\w'.cell? (xD gl 1)=some (xI p0))
         (first|(with_reducible (refine⟨?_,?_,?_,?_,?_,?_,?_,?_,?_⟩ <;> repeat (first|assumption|refine zg ?_|refine FT.cell HF4.o ?_ (by assumption)|refine zd HB2.o ?_ (by omega)|refine zd HB1.o ?_ (by omega))))|go_keep)
         (first
           | (go_at_call 103;refine (HVa.o _ HB2.o).mono ?_;rintro e w4 ⟨rfl,⟨lv4,hL4⟩,hF4⟩;have HI4:=za ((HIV.o.keep hN21 HB2.o).step hN21 hL4 hF4);have HF4:=za ((FT.below HB2.o (HIV.o.wl.tk HB2.o)).trans hF4);obtain⟨k0,k1,k2,k3,k4,kf,kz⟩:=zcf hL4.wi.qi.blk;clear hL4 hF4)
           | (go_at_call 104;refine HOf.o.mono ?_;rintro e w3 ⟨rfl,hB2⟩;have HB2:=za (HB1.o.trans (hB2.mono HB1.o.size));clear hB2)
           | (go_at_call 105;refine HI6.o.mono ?_;rintro e w2 ⟨rfl,hB1⟩;have HB1:=za (zw hB1);have HOf:=za (zbC (c.idx s0) w2 (HIV.o.wl.wi.qi.ck.keep HB1.o));(rw[Hkq0.o] at HOf);clear hB1))
        all_goals go_wp2_with fail
        all_goals go_meet
        all_goals exact⟨lv4,HI4.o,HF4.o⟩
       case rest => obtain⟨lv5,HI5,HF5⟩:=hcut;obtain⟨w5,rfl⟩:∃w5,w5=wc:=⟨_,rfl⟩;have hQ5:=(HF5.o.fr.block _ (ze HQV.o) hnQ).trans HQV.o;obtain⟨q0,q1,q2,qf,qz⟩:=zL hQ5;clear hQ5 n0 n1 c0 c1 c2 HTv;go_wp2_with (go_at_call 106;refine (zn5 _ _ _ _).mono ?_;rintro e w6 ⟨rfl,rfl⟩);have hI6:=HI5.o.keep hN21 (zq w5 (.cells #[xS gl q.ns.length cl] 181));have HI6:=za hI6;have hF6:FT (CT kb qb) wr (w5.alloc (.cells #[xS gl q.ns.length cl] 181)):=((FT.below HBV.o (HI.o.wl.tk HBV.o)).trans HF5.o).trans (FT.below (zq w5 _) (HI5.o.wl.tk (zq w5 _)));have HF6:=za hF6;refine zk3 (z:=w.heap.size) (Bs:=w5.heap.size) (gl:=gl) (cl:=cl) (lv:=lv5) (K:=sv.1) (ls:=sv.2) q.ns q.ps hbase hglN hnl hrl _ ⟨by rw[show zdh c base []=[] from rfl,Cd.adds_nil];exact hI6.wl,FT.below (Below.refl _ _) (λ_ e=>e),hI6.x1,hI6.x2,hI6.n1,hI6.n2⟩ (by simp) (λe=>by have:=(HI5.o.wl.lt _ (HI5.o.wl.tk (zq w5 _) _ e)).2.1;omega) (zu (zc w5 _)).1 (λj hj=>⟨zj _ (HF5.o.cell (zd HBV.o (Hcells.o j hj).1 (by omega)) hnG),zj _ (HF5.o.cell (zd HBV.o (Hcells.o j hj).2 (by omega)) hnG)⟩) ?_;intro D W6 hD hN6 hDW;have hI7:=HI6.o.step hN21 hN6.wl hN6.ft;have hF7:=HF6.o.trans hN6.ft;have HI7:=za hI7;have HF7:=za hF7;have HDW:=za hDW;have hszD:w5.heap.size+1<=D:=(by rw[zsb] at hD;exact hD);clear hI6 hF6 hI7 hF7 hN6 hDW q0 q1 q2 qf qz;go_wp2_with fail;have hgw:=HO.o.2 g rfl;have hks:KeepsOthers wr W6:=HI.o.wl.others HF7.o;refine Handed.intro (gk-1) (by omega) (hJ _ _ _ ⟨_,_,_,_,_,_,_,_,_,_,_,_,_,_,_,_,_,_,_,_,_,_,_,_,_,_,_,_,{ target:=.collected D,args:=#[] }::ds,k+1,lv5,(sv.1.adds (zdh c base (zbo (zdl q.ns q.ps) q.ns.length q.ns.length)),sv.2),⟨by go_num,by omega,by omega,HI7.o,HEd.o,⟨zi HO.o.1 (λb h1 h2 e=>HF7.o.fr.block b h2 (by cases e;exact hgw)),λg' e=>by cases e;exact HF7.o.not (HO.o.1.lt g rfl).2 hgw⟩,?_⟩,rfl⟩);refine zdd.cons D ds (by have:=HI5.o.ft.fr.size;omega) HDW.o (λD' hD'=>?_) (HDs.o.others hks);have h1:=HDs.o.lt D' hD';have h2:=HBV.o.size;have h3:=HF5.o.fr.size;omega
     . have ek:k=(zac c).length:=(by omega);subst ek;rw[List.drop_length,zbH] at HD;have hsf:=HD.o;clear HD;go_wp2_with fail;go_loopg [] (gas+1) (λj wr=>∃(g:Nat) (lv2:Value) (s2:Cd×List Lt),g+1=j/\Hid (zcP Pt bod c base fu g s2)/\Hid (zcj bod c base fu gas sf=zcj bod c base fu g s2)/\Hid (BoI N B wb kb qb cb base c (xE xe c cpe) (xP nb) lv2 s2.1 s2.2 w.heap.size w wr)/\Hid (zdd w.heap.size wr ds));case atStart=>exact⟨gas,lv,s,rfl,by unfold Hid;rw[hsf];exact HLa.o,by unfold Hid;rw[hsf],HI.o,HDs.o⟩
       case round =>
        clear HI HO HDs hsf;obtain⟨g,lv2,s2,rfl,HLg,HM,HI,HDs⟩:=hrel;obtain⟨K3,ls⟩:=s2;obtain⟨ys,hrow,hlts⟩:=HI.o.wl.row;obtain⟨xl,cpl,rfl⟩:=zeR hrow;obtain⟨y0,yf,yz⟩:=zu HI.o.x2;obtain⟨m0,m1,m2,m3,m4,mf,mz⟩:=zcf HI.o.wl.wi.qi.blk;cases ls with
        | nil => have HMn:Hid (zcj bod c base fu gas sf=K3):=(by unfold Hid;rw[HM.o];cases g <;> rfl);have m4':xC wr qb 4 (.slice xl 0 cpl):=m4;clear hrow hlts m0 m1 m2 m3 m4 HLg HM;go_wp2_with fail;rw[<- HQM.o];refine zfL (B0:=w.heap.size) ?_ (λW=>results_none rfl _ _ _) ds wr HDs.o ⟨rfl,⟨_,by rw[HK1.o,HK2.o,HSf.o,HMn.o];exact HI.o.wl⟩,HI.o.ft⟩;rintro W D o hD hW ⟨_,⟨lv',hwl⟩,hft⟩;have hs:SCs w.heap.size W (W.putObj D o):=SCs.of (grownBy_putObj' W D o) (λr e=>by cases e;exact⟨hD,_,hW,rfl⟩);have h2:=hwl.sc hs HW0.o.wi.qi.ck.lt hNw;exact⟨rfl,⟨lv',h2.1⟩,hft.sc hs (λk e=>(h2.2 k).1 e) rfl rfl rfl⟩
        | cons m r =>
          obtain⟨v,ys',rfl,hTT,hlts'⟩:=hlts;obtain⟨bt,_,_,rfl,_⟩:=hTT.ptr;obtain⟨gx,ox,rfl,c0⟩:=zdb hrow (j:=0) rfl;obtain⟨_,_,e1,c1⟩:=zdb hrow (j:=1) rfl;cases e1;obtain⟨_,_,e2,c2⟩:=zdb hrow (j:=2) rfl;cases e2;obtain⟨_,_,e3,c3⟩:=zdb hrow (j:=3) rfl;cases e3;obtain⟨a',cp',hsl,hrow',hblk⟩:=zle underlying124 Tryz.sizeMem (n:=r.length) hrow;cases g with
          | zero=>exact absurd HLg.o (by unfold zcP;simp)
          | succ g =>
            have hL:=HLg.o;rw[zcP] at hL;obtain⟨hl1,hl2,hl3,hl4,hl5⟩:=hL;have hM:=HM.o;rw[zcj] at hM;simp only at hl1 hl2 hl3 hl4 hl5 hM;obtain⟨sv,hsv⟩:∃sv,zbk bod c base fu (K3.adds (whM c base fu m.clock),r) m.next m.clock=sv:=⟨_,rfl⟩;rw[hsv] at hl2 hl5 hM;have HL1:=za hl1;have HL2:=za hl2;have HL3:=za hl3;have HL4:=za hl4;have HL5:=za hl5;have HM':=za hM;have Hsv:=za hsv;have HTT:=za hTT;have Hlts:=za hlts';have Hrow:=za hrow';have Hblk:=za hblk;have c0':xC wr gx ox (xI (m.cell:Int)):=c0;have hlen:(0:Int)<((r.length:Int)+1):=(by omega);have m4':xC wr qb 4 (.slice (some (xD gx ox)) (r.length+1) cpl):=m4;have hNr:=HI.o.wl.wi.qi.hN;clear hrow hrow' hblk hTT hlts' hsv hM hl1 hl2 hl3 hl4 hl5 HM HLg c0 m0 m1 m2 m3 m4;go_upto_region 13 with fail;refine zn (λV=>BoI N B wb kb qb cb base c (xE xe c cpe) (xP nb) (.slice (some (xD gx ox)) (r.length+1) cpl) K3 (m::r) w.heap.size w V/\xB wr V/\xH V wr.heap.size #[xI (m.cell:Int),xP bt,xI (m.clock.1:Nat),xI (m.clock.2:Nat)] 206) ⟨HI.o.keep hN21 (zq wr _),zq wr _,zc wr _⟩ ?_;rintro V ⟨hIV,hBV,hQV⟩;have HIV:=za hIV;have HBV:=za hBV;have HQV:=za hQV;have hnQ:¬CT kb qb V wr.heap.size:=λe=>by have:=(HI.o.wl.lt _ (HI.o.wl.tk hBV _ e)).2.1;omega
            clear hIV hBV hQV c0' c1 c2 c3 m4';go_cut [] from 81 to 88 (λwx=>Hid (BoI N B wb kb qb cb base c (xE xe c cpe) (xP nb) (.slice a' r.length cp') K3 r w.heap.size w wx)/\Hid (FT (CT kb qb) V wx))
            case first =>
             obtain⟨y0,yf,yz⟩:=zu HIV.o.x2;obtain⟨m0,m1,m2,m3,m4,mf,mz⟩:=zcf HIV.o.wl.wi.qi.blk;have hzq:¬w.heap.size+1=qb:=λe=>HIV.o.n2 (Or.inr (Or.inl e));have hzq':¬qb=w.heap.size+1:=λe=>hzq e.symm;clear m0 m1 m2 m3;go_still_tail 6,(by kernel_rfl)
             all_goals go_wp2_with fail
             all_goals go_meet
             all_goals
              have hOV:Old N wr V:=λb hb=>HBV.o.block b (by omega);have hP:=HIV.o.wl.pop (lv':=.slice a' r.length cp') ys' (Hlts.o.old hOV) (zbM Hrow.o (λk _ h2 _=>HBV.o.block k h2)) Hblk.o;first|exact⟨HIV.o.step hN21 hP.1 hP.2,hP.2⟩|exact⟨(HIV.o.step hN21 hP.1 hP.2).keep hN21 (zo (Below.refl _ _)),hP.2.trans (FT.below (zo (Below.refl _ _)) (hP.1.tk (zo (Below.refl _ _))))⟩
            case rest =>
             obtain⟨HI5,HF5⟩:=hcut;have hQ5:=(HF5.o.fr.block _ (ze HQV.o) hnQ).trans HQV.o;obtain⟨q0,q1,q2,q3,qf,qz⟩:=zU hQ5;have HQ5:=za hQ5;have hnQ5:=HF5.o.not (ze HQV.o) hnQ;obtain⟨x0,xf,xz⟩:=zu HI5.o.x1;obtain⟨y0,yf,yz⟩:=zu HI5.o.x2;have HWh:=za (zgx (by omega) fu m.clock K3 wc HL4.o HI5.o.wl.wi HL1.o);unfold ckV at HWh;have HFw:=za ((FT.below HBV.o (HI.o.wl.tk HBV.o)).trans HF5.o);clear hQ5
             go_wp2_with (first
              | (go_at_call 108
                 refine HWh.o.mono ?_;rintro e w6 ⟨rfl,hK6,hF6⟩;have HI6:=za (HI5.o.stepK hN21 hK6 hF6);have hF6':=(HI5.o.wl.ftk hK6 hF6).2;have HFx:=za (HFw.o.trans hF6');have hQ6:=(hF6'.fr.block _ (ze HQ5.o) hnQ5).trans HQ5.o;have HQ6:=za hQ6;have hnQ6:=hF6'.not (ze HQ5.o) hnQ5;obtain⟨r0,r1,r2,r3,rf,rz⟩:=zU hQ6;obtain⟨s0,sf',sz⟩:=zu HI6.o.x1;obtain⟨t0,tf,tz⟩:=zu HI6.o.x2;have HVa:=za (zir bod fu Pt hN21 hbase hPw hPs hbod hC m.next (xP bt) m.clock (K3.adds (whM c base fu m.clock),r) w6 (HTT.o.old (HFx.o.old hNr (λk e=>(HI.o.wl.lt k e).1))) HI6.o.wl HI6.o.ops HL3.o (by rw[Hsv.o];exact HL2.o));rw[Hsv.o] at HVa;unfold ckV at HVa;clear hK6 hF6 hF6' hQ6 q0 q1 q2 q3 qf qz x0 xf xz y0 yf yz)
              | (go_at_call 103
                 refine HVa.o.mono ?_;rintro e w7 ⟨rfl,⟨lv7,hL7⟩,hF7⟩;have HI7:=za (HI6.o.step hN21 hL7 hF7);have HFy:=za (HFx.o.trans hF7);have hQ7:=(hF7.fr.block _ (ze HQ6.o) hnQ6).trans HQ6.o;obtain⟨q0,q1,q2,q3,qf,qz⟩:=zU hQ7;obtain⟨x0,xf,xz⟩:=zu HI7.o.x1;have HAd:=za (zc7 B wb kb sv.1 4 (m.cell:Int) w7 hL7.wi.kw HL2.o.1.1);clear hL7 hF7 hQ7 r0 r1 r2 r3 rf rz s0 sf' sz t0 tf tz)
              | (go_at_call 56
                 refine HAd.o.mono ?_;rintro e w8 ⟨rfl,hK8,hF8⟩;have HI8:=za (HI7.o.stepK hN21 hK8 hF8);have HFz:=za (HFy.o.trans (HI7.o.wl.ftk hK8 hF8).2);clear hK8 hF8))
             go_roundg (g+1);case measure=>omega
             exact⟨g,lv7,(sv.1.add 4 (m.cell:Int),sv.2),rfl,HL5.o,HM'.o,HI8.o,HDs.o.others (HI.o.wl.others HFz.o)⟩
end
end Go.Proofs.YtbicmofihhjgbaaGreatDoor
