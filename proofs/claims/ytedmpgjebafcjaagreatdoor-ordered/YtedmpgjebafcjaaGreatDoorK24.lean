/- Part 25 of the proof: CmpE. -/
import Derived.Test.YtedmpgjebafcjaaGreatDoorK23
set_option maxRecDepth 100000
set_option maxHeartbeats 8000000
namespace Go.Proofs.YtedmpgjebafcjaaGreatDoor
section
open Go.RowKit
attribute [local go_sem ↓] Go.wp_at_zero Go.wp_at_succ
structure CX (N B wb kb qb cb base:Nat) (c:Sc) (ev nv:Value) (w:World) (z:Nat) (o:Obj) (lv:Value) (K:Cd) (ls:List Lt) (W:World):Prop where
 wl:WL N B wb kb qb cb base c ev nv lv K ls W
 ft:FT (CT kb qb) w W
 bx:W.heap[z]?=some o
 nz:¬CT kb qb W z
theorem CX.stepL {N B wb kb qb cb base:Nat} {c:Sc} {ev nv:Value} {w:World} {z:Nat} {o:Obj} {lv lv':Value} {K K':Cd} {ls ls':List Lt} {W W':World} (h:CX N B wb kb qb cb base c ev nv w z o lv K ls W) (hw:WL N B wb kb qb cb base c ev nv lv' K' ls' W') (hf:FT (CT kb qb) W W'):CX N B wb kb qb cb base c ev nv w z o lv' K' ls' W' :=
 ⟨hw,h.ft.trans hf,(hf.fr.block _ (ze h.bx) h.nz).trans h.bx,hf.not (ze h.bx) h.nz⟩
theorem CX.stepK {N B wb kb qb cb base:Nat} {c:Sc} {ev nv:Value} {w:World} {z:Nat} {o:Obj} {lv:Value} {K K':Cd} {ls:List Lt} {W W':World} (h:CX N B wb kb qb cb base c ev nv w z o lv K ls W) (hk:KW B wb kb K' W') (hf:FT (KT kb) W W'):CX N B wb kb qb cb base c ev nv w z o lv K' ls W' :=
 h.stepL (h.wl.ftk hk hf).1 (h.wl.ftk hk hf).2
theorem CX.keep {N B wb kb qb cb base:Nat} {c:Sc} {ev nv:Value} {w:World} {z:Nat} {o:Obj} {lv:Value} {K:Cd} {ls:List Lt} {W W':World} (h:CX N B wb kb qb cb base c ev nv w z o lv K ls W) (hB:Below W.heap.size W W'):CX N B wb kb qb cb base c ev nv w z o lv K ls W' :=
 h.stepL (h.wl.keep hB) (FT.below hB (h.wl.tk hB))
theorem CX.add {N B wb kb qb cb base:Nat} {c:Sc} {ev nv:Value} {w:World} {z:Nat} {o:Obj} {lv:Value} {K:Cd} {ls:List Lt} {W:World} (h:CX N B wb kb qb cb base c ev nv w z o lv K ls W) (op:Nat) (x:Int) (hr:K.row.length<=1000000) :
 Calls Tryz.prog 36 #[.pointer (some ⟨wb,0,none⟩),.int .u8 (op:Int),.int .i64 x] W (λe w'=>e=.returned (.tuple #[])/\CX N B wb kb qb cb base c ev nv w z o lv (K.add op x) ls w'):=by
 refine (zc7 B wb kb K op x W h.wl.wi.kw hr).mono ?_
 rintro e w' ⟨h1,h2,h3⟩
 exact ⟨h1,h.stepK h2 h3⟩
theorem CX.new {N B wb kb qb cb base:Nat} {c:Sc} {ev nv:Value} {w:World} {lv:Value} {K:Cd} {ls:List Lt} (h:WL N B wb kb qb cb base c ev nv lv K ls w) (o:Obj):CX N B wb kb qb cb base c ev nv w w.heap.size o lv K ls (w.alloc o) :=
 ⟨h.keep (zq w o),FT.below (zq w o) (h.tk (zq w o)),zc w o,λe=>by have:=(h.lt _ (h.tk (zq w o) _ e)).2.1;omega⟩
theorem CX.old {N B wb kb qb cb base:Nat} {c:Sc} {ev nv:Value} {w:World} {z:Nat} {o:Obj} {lv lv0:Value} {K K0:Cd} {ls ls0:List Lt} {W:World} (h:CX N B wb kb qb cb base c ev nv w z o lv K ls W) (h0:WL N B wb kb qb cb base c ev nv lv0 K0 ls0 w):Old N w W:=h.ft.old h0.wi.qi.hN (λk e=>(h0.lt k e).1)
theorem znX {a:Int}:∀u∈[Value.int .i64 a],u.oneCell'=true:=by simp [Value.oneCell']
theorem zqE {a b c:Int} {p:Option Addr}:∀u∈[Value.int .i64 a,.pointer p,.int .i64 b,.int .i64 c],u.oneCell'=true:=by simp [Value.oneCell']
theorem zhK {N B wb kb qb cb base:Nat} {c:Sc} {ev nv lv:Value} (t a0 a1:Tm) (hts:t.ts=[a0,a1]) (hW:Wf t) (v:Value) (k:Nat×Nat) (K:Cd) (ls:List Lt) (w:World) (hT:TT w N t v) (h:WL N B wb kb qb cb base c ev nv lv K ls w) (hr:K.row.length<=1000000) (hc:K.cells.length<=1000000) (hl:ls.length<=1000000) :
 Calls Tryz.prog 151 #[.pointer (some ⟨wb,0,none⟩),.pointer (some ⟨qb,0,none⟩),v,ckV k] w (λe w'=>e=.returned (.tuple #[])/\(∃lv',WL N B wb kb qb cb base c ev nv lv' ((K.cell (zav a0)).add 3 K.cells.length) (ls++[⟨K.cells.length,a1,k⟩]) w')/\FT (CT kb qb) w w'):=by
 obtain ⟨b,args,vs,rfl,hb,hblk,hown,hlen,hsub,hgs⟩:=hT.ptr
 obtain ⟨x,cp,rfl⟩:=zB hown
 rw [hts] at hlen
 obtain ⟨y0,hy0⟩:∃y,vs[0]?=some y:=⟨_,zsc (by rw [hlen];simp)⟩
 obtain ⟨y1,hy1⟩:∃y,vs[1]?=some y:=⟨_,zsc (by rw [hlen];simp)⟩
 obtain ⟨g,rfl,e0⟩:=zbE hown hy0
 obtain ⟨g',eg,e1⟩:=zbE hown hy1
 cases eg
 have hT0:=hsub 0 a0 y0 (by rw [hts];rfl) hy0
 have hT1:=hsub 1 a1 y1 (by rw [hts];rfl) hy1
 obtain ⟨u0,_,_,rfl,_⟩:=hT0.ptr
 obtain ⟨u1,_,_,rfl,_⟩:=hT1.ptr
 have hgN:=hgs g rfl
 have hW0:=hW.sub (u:=a0) (by rw [hts];simp)
 have hv2:vs.length=2:=hlen
 rw [hv2] at hblk
 have HT0:=za hT0
 have HT1:=za hT1
 have HBk:=za hblk
 have HC0:=za (CX.new h (.cells #[.int .i64 (k.1:Nat),.int .i64 (k.2:Nat)] 169))
 have H:=za h
 have He0:=za e0
 have He1:=za e1
 have hNw:=h.wi.qi.hN
 obtain ⟨i0,hi,hi0,hi1,hi2⟩:=info_parts Tryz.infoI64
 obtain ⟨j0,hj,hj0,hj1,hj2⟩:=info_parts Tryz.infoMem
 have mx:K.cells.length+1<=maxLen:=by unfold maxLen;omega
 have by':(K.cells.length+1)*8<=140737488355328:=by omega
 have mx2:ls.length+1<=maxLen:=by unfold maxLen;omega
 have by2:(ls.length+1)*32<=140737488355328:=by omega
 clear hT h hblk hown hlen hsub hgs hy0 hy1 e0 e1 hT0 hT1 hts hW hv2
 obtain ⟨Kf,hKf⟩:∃Kf,(K.cell (zav a0)).add 3 K.cells.length=Kf:=⟨_,rfl⟩
 rw [hKf]
 have HKf:=za hKf
 clear hKf
 unfold ckV
 have hst:∃xc cpc,(w.alloc (.cells #[.int .i64 (k.1:Nat),.int .i64 (k.2:Nat)] 169)).cell? ⟨wb,0,none⟩=some (.pointer (some ⟨kb,0,none⟩))/\(w.alloc (.cells #[.int .i64 (k.1:Nat),.int .i64 (k.2:Nat)] 169)).cell? ⟨kb,3,none⟩=some (.slice xc K.cells.length cpc):=by
  obtain ⟨bv,cv,rv,hI⟩:=HC0.out.wl.wi.kw
  obtain ⟨xc,cpc,rfl⟩:=zcB hI.cown
  exact ⟨xc,cpc,(zu hI.wr).1,(zt hI.blk).2.2.2.1⟩
 obtain ⟨xc,cpc,p0,m3⟩:=hst
 go_enter Tryz.func151,Tryz.ntmps151
 go_upto_region 2 with fail
 refine zn (λW=>CX N B wb kb qb cb base c ev nv w w.heap.size (.cells #[.int .i64 (k.1:Nat),.int .i64 (k.2:Nat)] 169) lv K ls W) HC0.out ?_
 intro W hX
 clear p0 m3 HC0
 have HX:=za hX
 clear hX
 go_cut [] (λwx=>Hid (CX N B wb kb qb cb base c ev nv w w.heap.size (.cells #[.int .i64 (k.1:Nat),.int .i64 (k.2:Nat)] 169) lv (K.cell (zav a0)) ls wx))
 case first =>
  obtain ⟨bv,cv,rv,hI⟩:=HX.out.wl.wi.kw
  obtain ⟨xc,cpc,rfl⟩:=zcB hI.cown
  obtain ⟨p0,pf,pz⟩:=zu hI.wr
  obtain ⟨m0,m1,m2,m3,m4,m5,mf,mz⟩:=zt hI.blk
  have hO:=HX.out.old H.out
  obtain ⟨t0,t1,t2,t3,t4,t5,tf,tz⟩:=zt ((hO b hb).trans HBk.out)
  have e0:=(World.cell?_of_block (w:=w) (a:=⟨g,0,none⟩) (hO g hgN)).trans He0.out
  have HCo:=za (zdp a0 hW0 (.pointer (some ⟨u0,0,none⟩)) W.drew (HT0.out.old hO |>.old (λ_ _=>rfl)))
  have HI:=za hI
  have hkb:=hI.hkb
  have hwb:=hI.hwb
  have hBz:=hI.hB
  have hNk:=HX.out.wl.wi.hNk
  have hbk:¬b=kb:=by omega
  have hgk:¬g=kb:=by omega
  have hwk:=hI.dk
  clear hI hO m0 m1 m2 m4 m5 t0 t1 t2 t3 t4
  generalize zav a0=ca at *
  refine wp_region_noPanic ?_
  refine wp_region_held_drew (S:=(λw'=>w'.cell? ⟨wb,0,none⟩=some (.pointer (some ⟨kb,0,none⟩))/\w'.cell? ⟨b,5,none⟩=some (.slice (some ⟨g,0,none⟩) 2 cp)/\w'.cell? ⟨g,0,none⟩=some (.pointer (some ⟨u0,0,none⟩)))) (by kernel_rfl) ?_ (λhHeld=>?_)
  · (try dsimp only);(first|(refine ⟨?_,?_,?_⟩ <;> repeat (first|with_reducible exact p0|with_reducible exact t5|with_reducible exact e0|with_reducible exact b0|with_reducible exact d5|with_reducible exact f0|with_reducible refine zg ?_|with_reducible refine zj _ ?_|with_reducible refine zk (by omega) ?_))|go_keep)
  refine tkH (i:=0) (v:=?v1) rfl (by kernel_rfl) (λ_ _ _ h=>h) (Or.inl ⟨by rfl,?h1⟩) (by assumption) ?_
  case h1=>(intro w hSw;(try dsimp only at hSw);go_simp;try with_reducible rfl)
  try simp only [Act.put,zr8,zr6,zr5,zsa,zr9]
  refine tkH (i:=1) (v:=?v2) rfl (by kernel_rfl) (λ_ _ _ h=>h) (Or.inl ⟨by rfl,?h2⟩) (by assumption) ?_
  case h2=>(intro w hSw;(try dsimp only at hSw);go_simp;try with_reducible rfl)
  try simp only [Act.put,zr8,zr6,zr7,zr5,zsa,zr9]
  refine tkH (i:=2) (v:=?v3) rfl (by kernel_rfl) (λ_ _ _ h=>h) (Or.inl ⟨by rfl,?h3⟩) (by assumption) ?_
  case h3=>(intro w hSw;(try dsimp only at hSw);go_simp;try with_reducible rfl)
  try simp only [Act.put,zr8,zr6,zr7,zr5,zsa,zr9]
  refine tkH (i:=3) (v:=?v4) rfl (by kernel_rfl) (λ_ _ _ h=>h) (Or.inl ⟨by rfl,?h4⟩) (by assumption) ?_
  case h4=>(intro w hSw;(try dsimp only at hSw);go_simp;try with_reducible rfl)
  try simp only [Act.put,zr8,zr6,zr7,zr5,zsa,zr9]
  refine tkH (i:=4) (v:=?v5) rfl (by kernel_rfl) (λ_ _ _ h=>h) (Or.inl ⟨by rfl,?h5⟩) (by assumption) ?_
  case h5=>(intro w hSw;(try dsimp only at hSw);go_simp;try with_reducible rfl)
  try simp only [Act.put,zr8,zr6,zr7,zr5,zsa,zr9]
  refine tkH (i:=5) (v:=?v6) rfl (by kernel_rfl) (λ_ _ _ h=>h) (Or.inl ⟨by rfl,?h6⟩) (by assumption) ?_
  case h6=>(intro w hSw;(try dsimp only at hSw);go_simp;try with_reducible rfl)
  try simp only [Act.put,zr8,zr6,zr7,zr5,zsa,zr9]
  refine tkH (i:=6) (v:=?v7) rfl (by kernel_rfl) (λ_ _ _ h=>h) (Or.inl ⟨by rfl,?h7⟩) (by assumption) ?_
  case h7=>(intro w hSw;(try dsimp only at hSw);go_simp;try with_reducible rfl)
  try simp only [Act.put,zr8,zr6,zr7,zr5,zsa,zr9]
  refine tkH (i:=7) (v:=?v8) rfl (by kernel_rfl) (λ_ _ _ h=>h) (Or.inl ⟨by rfl,?h8⟩) (by assumption) ?_
  case h8=>(intro w hSw;(try dsimp only at hSw);go_simp;try with_reducible rfl)
  try simp only [Act.put,zr8,zr6,zr7,zr5,zsa,zr9]
  refine tkH (i:=8) (v:=?v9) rfl (by kernel_rfl) (λ_ _ _ h=>h) (Or.inl ⟨by rfl,?h9⟩) (by assumption) ?_
  case h9=>(intro w hSw;(try dsimp only at hSw);go_simp;try with_reducible rfl)
  try simp only [Act.put,zr8,zr6,zr7,zr5,zsa,zr9]
  refine tkH (i:=9) (v:=?v10) rfl (by kernel_rfl) (λ_ _ _ h=>h) (Or.inl ⟨by rfl,?h10⟩) (by assumption) ?_
  case h10=>(intro w hSw;(try dsimp only at hSw);go_simp;try with_reducible rfl)
  try simp only [Act.put,zr8,zr6,zr7,zr5,zsa,zr9]
  refine tkH (i:=11) (v:=?v11) rfl (by kernel_rfl) (λ_ _ _ h=>h) (Or.inl ⟨by rfl,?h11⟩) (by assumption) ?_
  case h11=>(intro w hSw;(try dsimp only at hSw);go_simp;try with_reducible rfl)
  try simp only [Act.put,zr8,zr6,zr7,zr5,zsa,zr9]
  refine tkH (i:=12) (v:=?v12) rfl (by kernel_rfl) (λ_ _ _ h=>h) (Or.inl ⟨by rfl,?h12⟩) (by assumption) ?_
  case h12=>(intro w hSw;(try dsimp only at hSw);go_simp;try with_reducible rfl)
  try simp only [Act.put,zr8,zr6,zr7,zr5,zsa,zr9]
  refine tkH (i:=13) (v:=?v13) rfl (by kernel_rfl) (λ_ _ _ h=>h) (Or.inl ⟨by rfl,?h13⟩) (by assumption) ?_
  case h13=>(intro w hSw;(try dsimp only at hSw);go_simp;try with_reducible rfl)
  try simp only [Act.put,zr8,zr6,zr7,zr5,zsa,zr9]
  refine tkH (i:=14) (v:=?v14) rfl (by kernel_rfl) (λ_ _ _ h=>h) (Or.inl ⟨by rfl,?h14⟩) (by assumption) ?_
  case h14=>(intro w hSw;(try dsimp only at hSw);go_simp;try with_reducible rfl)
  try simp only [Act.put,zr8,zr6,zr7,zr5,zsa,zr9]
  refine tkH (i:=15) (v:=?v15) rfl (by kernel_rfl) (λ_ _ _ h=>h) (Or.inl ⟨by rfl,?h15⟩) (by assumption) ?_
  case h15=>(intro w hSw;(try dsimp only at hSw);go_simp;try with_reducible rfl)
  try simp only [Act.put,zr8,zr6,zr7,zr5,zsa,zr9]
  refine tkH (i:=16) (v:=?v16) rfl (by kernel_rfl) (λ_ _ _ h=>h) (Or.inl ⟨by rfl,?h16⟩) (by assumption) ?_
  case h16=>(intro w hSw;(try dsimp only at hSw);go_simp;try with_reducible rfl)
  try simp only [Act.put,zr8,zr6,zr7,zr5,zsa,zr9]
  refine wpAnyH_ready (rs:=[10,17]) (by kernel_rfl) (by simp) ?_
  refine AllReadyH.cons rfl (λKz hKz=>?_) ?_
  go_simp
  refine hKz.out _ _ ?_ (λh9=>?_)
  · (try dsimp only);(first|(refine ⟨?_,?_,?_⟩ <;> repeat (first|with_reducible exact p0|with_reducible exact t5|with_reducible exact e0|with_reducible exact b0|with_reducible exact d5|with_reducible exact f0|with_reducible refine zg ?_|with_reducible refine zj _ ?_|with_reducible refine zk (by omega) ?_))|go_keep)
  clear hKz Kz hHeld;have hHeld:=h9;clear h9
  try simp only [Act.put,zr8,zr6,zr7,zr5,zsa,zr9]
  refine wpAnyH_ready (rs:=[17]) (by kernel_rfl) (by simp) ?_
  refine AllReadyH.cons rfl (λKz hKz=>?_) ?_
  go_simp
  first|go_at_K|(((go_at_call 150;refine HCo.out.mono ?_;rintro e w1 ⟨rfl,rfl⟩));first|go_at_K|go_wp2_with fail)
  refine hKz.out _ _ ?_ (λh9=>?_)
  · (try dsimp only);(first|(refine ⟨?_,?_,?_⟩ <;> repeat (first|with_reducible exact p0|with_reducible exact t5|with_reducible exact e0|with_reducible exact b0|with_reducible exact d5|with_reducible exact f0|with_reducible refine zg ?_|with_reducible refine zj _ ?_|with_reducible refine zk (by omega) ?_))|go_keep)
  clear hKz Kz hHeld;have hHeld:=h9;clear h9
  try simp only [Act.put,zr8,zr6,zr7,zr5,zsa,zr9]
  refine wpAnyH_ready (rs:=[18]) (by kernel_rfl) (by simp) ?_
  refine AllReadyH.cons rfl (λKz hKz=>?_) ?_
  go_simp
  refine hKz.out _ _ ?_ (λh9=>?_)
  · (try dsimp only);(first|(refine ⟨?_,?_,?_⟩ <;> repeat (first|with_reducible exact p0|with_reducible exact t5|with_reducible exact e0|with_reducible exact b0|with_reducible exact d5|with_reducible exact f0|with_reducible refine zg ?_|with_reducible refine zj _ ?_|with_reducible refine zk (by omega) ?_))|go_keep)
  clear hKz Kz hHeld;have hHeld:=h9;clear h9
  try simp only [Act.put,zr8,zr6,zr7,zr5,zsa,zr9]
  refine wpAnyH_ready (rs:=[19]) (by kernel_rfl) (by simp) ?_
  refine AllReadyH.cons rfl (λKz hKz=>?_) ?_
  ((refine zJ _ rfl (.tmp 27) (.tmp 35) 22 rfl B 2 i0 _ 1 8 Tryz.underlying22 hi hi0 hi1 hi2 rfl (by decide) (.slice xc K.cells.length cpc) K.cells.length (zK K.cells) rfl (zD HI.out.cown _) ⟨W.heap.size,0,none⟩ 1 1 [.int .i64 ca] rfl rfl (zN (zc W _) rfl) znX mx by' (by simp;omega) ?_;intro v' w9 hown9 hgrow hnew;obtain ⟨g9,cap9,rfl,hg9⟩:=zM hown9 (by omega);have hF9:=(Fr.of_grown hgrow).undrew;have hk9:=(hF9.block kb (by simp;omega) (λh=>by have:=(HI.out.cown.lt _ h).1;omega)).trans ((Below.heap_alloc _ _ _ (by omega)).trans HI.out.blk);have hw9:=(hF9.block wb (by simp;omega) (λh=>by have:=(HI.out.cown.lt _ h).1;omega)).trans ((Below.heap_alloc _ _ _ (by omega)).trans HI.out.wr);obtain ⟨b0,bf,bz⟩:=zu hw9;obtain ⟨q0,q1,q2,q3,q4,q5,qf,qz⟩:=zt hk9;have d5:=(World.cell?_of_block (w:=W) (a:=⟨b,5,none⟩) ((hF9.block b (by simp;omega) (λh=>by have:=(HI.out.cown.lt _ h).1;omega)).trans (Below.heap_alloc _ _ _ (by omega)))).trans t5;have f0:=(World.cell?_of_block (w:=W) (a:=⟨g,0,none⟩) ((hF9.block g (by simp;omega) (λh=>by have:=(HI.out.cown.lt _ h).1;omega)).trans (Below.heap_alloc _ _ _ (by omega)))).trans e0;have HF9:=za hF9;have Hown9:=za hown9;have Hnew9:=za hnew;clear hown9 hgrow hnew hF9 hk9 hw9))
  refine hKz.out _ _ ?_ (λh9=>?_)
  · (try dsimp only);(first|(refine ⟨?_,?_,?_⟩ <;> repeat (first|with_reducible exact p0|with_reducible exact t5|with_reducible exact e0|with_reducible exact b0|with_reducible exact d5|with_reducible exact f0|with_reducible refine zg ?_|with_reducible refine zj _ ?_|with_reducible refine zk (by omega) ?_))|go_keep)
  clear hKz Kz hHeld;have hHeld:=h9;clear h9
  try simp only [Act.put,zr8,zr6,zr7,zr5,zsa,zr9]
  refine tkH (i:=20) (v:=?v17) rfl (by kernel_rfl) (λ_ _ _ h=>h) (Or.inl ⟨by rfl,?h17⟩) (by assumption) ?_
  case h17=>(intro w hSw;(try dsimp only at hSw);go_simp;try with_reducible rfl)
  try simp only [Act.put,zr8,zr6,zr7,zr5,zsa,zr9]
  refine tkH (i:=21) (v:=?v18) rfl (by kernel_rfl) (λ_ _ _ h=>h) (Or.inl ⟨by rfl,?h18⟩) (by assumption) ?_
  case h18=>(intro w hSw;(try dsimp only at hSw);go_simp;try with_reducible rfl)
  try simp only [Act.put,zr8,zr6,zr7,zr5,zsa,zr9]
  refine wpAnyH_ready (rs:=[22]) (by kernel_rfl) (by simp) ?_
  refine AllReadyH.cons rfl (λKz hKz=>?_) ?_
  go_simp
  refine hKz.out _ _ ?_ (λh9=>?_)
  · (try dsimp only);(first|(refine ⟨?_,?_,?_⟩ <;> repeat (first|with_reducible exact p0|with_reducible exact t5|with_reducible exact e0|with_reducible exact b0|with_reducible exact d5|with_reducible exact f0|with_reducible refine zg ?_|with_reducible refine zj _ ?_|with_reducible refine zk (by omega) ?_))|go_keep)
  clear hKz Kz hHeld;have hHeld:=h9;clear h9
  try simp only [Act.put,zr8,zr6,zr7,zr5,zsa,zr9]
  refine wpAnyH_done (by kernel_rfl) ?_ _
  rotate_left
  exact AllReadyH.nil
  exact AllReadyH.nil
  exact AllReadyH.nil
  exact AllReadyH.nil
  refine AllReadyH.cons rfl (λKz hKz=>?_) ?_
  go_simp
  first|go_at_K|(((go_at_call 150;refine HCo.out.mono ?_;rintro e w1 ⟨rfl,rfl⟩));first|go_at_K|go_wp2_with fail)
  refine hKz.out _ _ ?_ (λh9=>?_)
  · (try dsimp only);(first|(refine ⟨?_,?_,?_⟩ <;> repeat (first|with_reducible exact p0|with_reducible exact t5|with_reducible exact e0|with_reducible exact b0|with_reducible exact d5|with_reducible exact f0|with_reducible refine zg ?_|with_reducible refine zj _ ?_|with_reducible refine zk (by omega) ?_))|go_keep)
  clear hKz Kz hHeld;have hHeld:=h9;clear h9
  try simp only [Act.put,zr8,zr6,zr7,zr5,zsa,zr9]
  refine wpAnyH_ready (rs:=[10,18]) (by kernel_rfl) (by simp) ?_
  refine AllReadyH.cons rfl (λKz hKz=>?_) ?_
  go_simp
  refine hKz.out _ _ ?_ (λh9=>?_)
  · (try dsimp only);(first|(refine ⟨?_,?_,?_⟩ <;> repeat (first|with_reducible exact p0|with_reducible exact t5|with_reducible exact e0|with_reducible exact b0|with_reducible exact d5|with_reducible exact f0|with_reducible refine zg ?_|with_reducible refine zj _ ?_|with_reducible refine zk (by omega) ?_))|go_keep)
  clear hKz Kz hHeld;have hHeld:=h9;clear h9
  try simp only [Act.put,zr8,zr6,zr7,zr5,zsa,zr9]
  refine wpAnyH_ready (rs:=[18]) (by kernel_rfl) (by simp) ?_
  refine AllReadyH.cons rfl (λKz hKz=>?_) ?_
  go_simp
  refine hKz.out _ _ ?_ (λh9=>?_)
  · (try dsimp only);(first|(refine ⟨?_,?_,?_⟩ <;> repeat (first|with_reducible exact p0|with_reducible exact t5|with_reducible exact e0|with_reducible exact b0|with_reducible exact d5|with_reducible exact f0|with_reducible refine zg ?_|with_reducible refine zj _ ?_|with_reducible refine zk (by omega) ?_))|go_keep)
  clear hKz Kz hHeld;have hHeld:=h9;clear h9
  try simp only [Act.put,zr8,zr6,zr7,zr5,zsa,zr9]
  refine wpAnyH_ready (rs:=[19]) (by kernel_rfl) (by simp) ?_
  refine AllReadyH.cons rfl (λKz hKz=>?_) ?_
  ((refine zJ _ rfl (.tmp 27) (.tmp 35) 22 rfl B 2 i0 _ 1 8 Tryz.underlying22 hi hi0 hi1 hi2 rfl (by decide) (.slice xc K.cells.length cpc) K.cells.length (zK K.cells) rfl (zD HI.out.cown _) ⟨W.heap.size,0,none⟩ 1 1 [.int .i64 ca] rfl rfl (zN (zc W _) rfl) znX mx by' (by simp;omega) ?_;intro v' w9 hown9 hgrow hnew;obtain ⟨g9,cap9,rfl,hg9⟩:=zM hown9 (by omega);have hF9:=(Fr.of_grown hgrow).undrew;have hk9:=(hF9.block kb (by simp;omega) (λh=>by have:=(HI.out.cown.lt _ h).1;omega)).trans ((Below.heap_alloc _ _ _ (by omega)).trans HI.out.blk);have hw9:=(hF9.block wb (by simp;omega) (λh=>by have:=(HI.out.cown.lt _ h).1;omega)).trans ((Below.heap_alloc _ _ _ (by omega)).trans HI.out.wr);obtain ⟨b0,bf,bz⟩:=zu hw9;obtain ⟨q0,q1,q2,q3,q4,q5,qf,qz⟩:=zt hk9;have d5:=(World.cell?_of_block (w:=W) (a:=⟨b,5,none⟩) ((hF9.block b (by simp;omega) (λh=>by have:=(HI.out.cown.lt _ h).1;omega)).trans (Below.heap_alloc _ _ _ (by omega)))).trans t5;have f0:=(World.cell?_of_block (w:=W) (a:=⟨g,0,none⟩) ((hF9.block g (by simp;omega) (λh=>by have:=(HI.out.cown.lt _ h).1;omega)).trans (Below.heap_alloc _ _ _ (by omega)))).trans e0;have HF9:=za hF9;have Hown9:=za hown9;have Hnew9:=za hnew;clear hown9 hgrow hnew hF9 hk9 hw9))
  refine hKz.out _ _ ?_ (λh9=>?_)
  · (try dsimp only);(first|(refine ⟨?_,?_,?_⟩ <;> repeat (first|with_reducible exact p0|with_reducible exact t5|with_reducible exact e0|with_reducible exact b0|with_reducible exact d5|with_reducible exact f0|with_reducible refine zg ?_|with_reducible refine zj _ ?_|with_reducible refine zk (by omega) ?_))|go_keep)
  clear hKz Kz hHeld;have hHeld:=h9;clear h9
  try simp only [Act.put,zr8,zr6,zr7,zr5,zsa,zr9]
  refine tkH (i:=20) (v:=?v19) rfl (by kernel_rfl) (λ_ _ _ h=>h) (Or.inl ⟨by rfl,?h19⟩) (by assumption) ?_
  case h19=>(intro w hSw;(try dsimp only at hSw);go_simp;try with_reducible rfl)
  try simp only [Act.put,zr8,zr6,zr7,zr5,zsa,zr9]
  refine tkH (i:=21) (v:=?v20) rfl (by kernel_rfl) (λ_ _ _ h=>h) (Or.inl ⟨by rfl,?h20⟩) (by assumption) ?_
  case h20=>(intro w hSw;(try dsimp only at hSw);go_simp;try with_reducible rfl)
  try simp only [Act.put,zr8,zr6,zr7,zr5,zsa,zr9]
  refine wpAnyH_ready (rs:=[22]) (by kernel_rfl) (by simp) ?_
  refine AllReadyH.cons rfl (λKz hKz=>?_) ?_
  go_simp
  refine hKz.out _ _ ?_ (λh9=>?_)
  · (try dsimp only);(first|(refine ⟨?_,?_,?_⟩ <;> repeat (first|with_reducible exact p0|with_reducible exact t5|with_reducible exact e0|with_reducible exact b0|with_reducible exact d5|with_reducible exact f0|with_reducible refine zg ?_|with_reducible refine zj _ ?_|with_reducible refine zk (by omega) ?_))|go_keep)
  clear hKz Kz hHeld;have hHeld:=h9;clear h9
  try simp only [Act.put,zr8,zr6,zr7,zr5,zsa,zr9]
  refine wpAnyH_done (by kernel_rfl) ?_ _
  rotate_left
  exact AllReadyH.nil
  exact AllReadyH.nil
  exact AllReadyH.nil
  refine AllReadyH.cons rfl (λKz hKz=>?_) ?_
  go_simp
  refine hKz.out _ _ ?_ (λh9=>?_)
  · (try dsimp only);(first|(refine ⟨?_,?_,?_⟩ <;> repeat (first|with_reducible exact p0|with_reducible exact t5|with_reducible exact e0|with_reducible exact b0|with_reducible exact d5|with_reducible exact f0|with_reducible refine zg ?_|with_reducible refine zj _ ?_|with_reducible refine zk (by omega) ?_))|go_keep)
  clear hKz Kz hHeld;have hHeld:=h9;clear h9
  try simp only [Act.put,zr8,zr6,zr7,zr5,zsa,zr9]
  refine wpAnyH_ready (rs:=[10]) (by kernel_rfl) (by simp) ?_
  refine AllReadyH.cons rfl (λKz hKz=>?_) ?_
  go_simp
  refine hKz.out _ _ ?_ (λh9=>?_)
  · (try dsimp only);(first|(refine ⟨?_,?_,?_⟩ <;> repeat (first|with_reducible exact p0|with_reducible exact t5|with_reducible exact e0|with_reducible exact b0|with_reducible exact d5|with_reducible exact f0|with_reducible refine zg ?_|with_reducible refine zj _ ?_|with_reducible refine zk (by omega) ?_))|go_keep)
  clear hKz Kz hHeld;have hHeld:=h9;clear h9
  try simp only [Act.put,zr8,zr6,zr7,zr5,zsa,zr9]
  refine wpAnyH_ready (rs:=[19]) (by kernel_rfl) (by simp) ?_
  refine AllReadyH.cons rfl (λKz hKz=>?_) ?_
  ((refine zJ _ rfl (.tmp 27) (.tmp 35) 22 rfl B 2 i0 _ 1 8 Tryz.underlying22 hi hi0 hi1 hi2 rfl (by decide) (.slice xc K.cells.length cpc) K.cells.length (zK K.cells) rfl (zD HI.out.cown _) ⟨W.heap.size,0,none⟩ 1 1 [.int .i64 ca] rfl rfl (zN (zc W _) rfl) znX mx by' (by simp;omega) ?_;intro v' w9 hown9 hgrow hnew;obtain ⟨g9,cap9,rfl,hg9⟩:=zM hown9 (by omega);have hF9:=(Fr.of_grown hgrow).undrew;have hk9:=(hF9.block kb (by simp;omega) (λh=>by have:=(HI.out.cown.lt _ h).1;omega)).trans ((Below.heap_alloc _ _ _ (by omega)).trans HI.out.blk);have hw9:=(hF9.block wb (by simp;omega) (λh=>by have:=(HI.out.cown.lt _ h).1;omega)).trans ((Below.heap_alloc _ _ _ (by omega)).trans HI.out.wr);obtain ⟨b0,bf,bz⟩:=zu hw9;obtain ⟨q0,q1,q2,q3,q4,q5,qf,qz⟩:=zt hk9;have d5:=(World.cell?_of_block (w:=W) (a:=⟨b,5,none⟩) ((hF9.block b (by simp;omega) (λh=>by have:=(HI.out.cown.lt _ h).1;omega)).trans (Below.heap_alloc _ _ _ (by omega)))).trans t5;have f0:=(World.cell?_of_block (w:=W) (a:=⟨g,0,none⟩) ((hF9.block g (by simp;omega) (λh=>by have:=(HI.out.cown.lt _ h).1;omega)).trans (Below.heap_alloc _ _ _ (by omega)))).trans e0;have HF9:=za hF9;have Hown9:=za hown9;have Hnew9:=za hnew;clear hown9 hgrow hnew hF9 hk9 hw9))
  refine hKz.out _ _ ?_ (λh9=>?_)
  · (try dsimp only);(first|(refine ⟨?_,?_,?_⟩ <;> repeat (first|with_reducible exact p0|with_reducible exact t5|with_reducible exact e0|with_reducible exact b0|with_reducible exact d5|with_reducible exact f0|with_reducible refine zg ?_|with_reducible refine zj _ ?_|with_reducible refine zk (by omega) ?_))|go_keep)
  clear hKz Kz hHeld;have hHeld:=h9;clear h9
  try simp only [Act.put,zr8,zr6,zr7,zr5,zsa,zr9]
  refine tkH (i:=20) (v:=?v21) rfl (by kernel_rfl) (λ_ _ _ h=>h) (Or.inl ⟨by rfl,?h21⟩) (by assumption) ?_
  case h21=>(intro w hSw;(try dsimp only at hSw);go_simp;try with_reducible rfl)
  try simp only [Act.put,zr8,zr6,zr7,zr5,zsa,zr9]
  refine tkH (i:=21) (v:=?v22) rfl (by kernel_rfl) (λ_ _ _ h=>h) (Or.inl ⟨by rfl,?h22⟩) (by assumption) ?_
  case h22=>(intro w hSw;(try dsimp only at hSw);go_simp;try with_reducible rfl)
  try simp only [Act.put,zr8,zr6,zr7,zr5,zsa,zr9]
  refine wpAnyH_ready (rs:=[22]) (by kernel_rfl) (by simp) ?_
  refine AllReadyH.cons rfl (λKz hKz=>?_) ?_
  go_simp
  refine hKz.out _ _ ?_ (λh9=>?_)
  · (try dsimp only);(first|(refine ⟨?_,?_,?_⟩ <;> repeat (first|with_reducible exact p0|with_reducible exact t5|with_reducible exact e0|with_reducible exact b0|with_reducible exact d5|with_reducible exact f0|with_reducible refine zg ?_|with_reducible refine zj _ ?_|with_reducible refine zk (by omega) ?_))|go_keep)
  clear hKz Kz hHeld;have hHeld:=h9;clear h9
  try simp only [Act.put,zr8,zr6,zr7,zr5,zsa,zr9]
  refine wpAnyH_done (by kernel_rfl) ?_ _
  rotate_left
  exact AllReadyH.nil
  exact AllReadyH.nil
  exact AllReadyH.nil
  exact AllReadyH.nil
  exact AllReadyH.nil
  all_goals refine NoPanic.normal ?_
  all_goals go_wp2_with fail
  all_goals go_meet
  all_goals have hC:=HI.out.celled HF9.out Hown9.out (λk e=>(Hnew9.out k e).imp id (λh=>by have h':(W.alloc (.cells #[.int .i64 ca] 2)).heap.size<=k:=h;rw [zsb] at h';exact h'))
  all_goals exact HX.out.stepK hC.1 hC.2
 case rest =>
  have HX1:Hid (CX N B wb kb qb cb base c ev nv w w.heap.size (.cells #[.int .i64 (k.1:Nat),.int .i64 (k.2:Nat)] 169) lv (K.cell (zav a0)) ls wc):=hcut
  clear hcut HX
  go_upto_region 3 with fail
  go_cut [] (λwx=>∃lv',Hid (CX N B wb kb qb cb base c ev nv w w.heap.size (.cells #[.int .i64 (k.1:Nat),.int .i64 (k.2:Nat)] 169) lv' (K.cell (zav a0)) (ls++[⟨K.cells.length,a1,k⟩]) wx))
  case first =>
   obtain ⟨xs,hrow,hlts⟩:=HX1.out.wl.row
   obtain ⟨xl,cpl,rfl⟩:=zeR hrow
   obtain ⟨m0,m1,m2,m3,m4,mf,mz⟩:=zcf HX1.out.wl.wi.qi.blk
   have hO:=HX1.out.old H.out
   obtain ⟨t0,t1,t2,t3,t4,t5,tf,tz⟩:=zt ((hO b hb).trans HBk.out)
   have e1:=(World.cell?_of_block (w:=w) (a:=⟨g,1,none⟩) (hO g hgN)).trans He1.out
   obtain ⟨z0,z1,zf,zz⟩:=zp HX1.out.bx
   have hnz:=HX1.out.nz
   have HT1':=za (HT1.out.old hO)
   have Hrow:=za hrow
   have Hlts:=za hlts
   have hBz:B<=wc.heap.size:=by obtain ⟨_,_,_,hI⟩:=HX1.out.wl.wi.kw;exact hI.hB
   have hNq:=HX1.out.wl.hNq
   have hNk:=HX1.out.wl.wi.hNk
   have hkB:=HX1.out.wl.wi.kw.kb
   have hbl:∀k',(Value.slice xl ls.length cpl).ownBlock=some k'->¬k'=b/\¬k'=g/\¬k'=w.heap.size/\¬k'=qb:=λk' e=>⟨λe'=>by have:=(hrow.lt k' e).1;omega,λe'=>by have:=(hrow.lt k' e).1;omega,λe'=>hnz ((HX1.out.wl.ct _).2 (Or.inr (Or.inr (e'▸e)))),(HX1.out.wl.dl k' e).2.1⟩
   have Hbl:=za hbl
   have hzq:¬w.heap.size=qb:=λe=>hnz ((HX1.out.wl.ct _).2 (Or.inr (Or.inl e)))
   have hbq:¬b=qb:=by omega
   have hgq:¬g=qb:=by omega
   clear hO m0 m1 m2 m3 t0 t1 t2 t3 t4 hrow hlts hbl
   refine wp_region_noPanic ?_
   refine wp_region_held_drew (S:=(λw'=>w'.cell? ⟨b,5,none⟩=some (.slice (some ⟨g,0,none⟩) 2 cp)/\w'.cell? ⟨g,1,none⟩=some (.pointer (some ⟨u1,0,none⟩))/\w'.cell? ⟨w.heap.size,0,none⟩=some (.int .i64 (k.1:Nat))/\w'.cell? ⟨w.heap.size,1,none⟩=some (.int .i64 (k.2:Nat)))) (by kernel_rfl) ?_ (λhHeld=>?_)
   · (try dsimp only);(first|(refine ⟨?_,?_,?_,?_⟩ <;> repeat (first|with_reducible exact t5|with_reducible exact e1|with_reducible exact z0|with_reducible exact z1|with_reducible exact d5|with_reducible exact f1|with_reducible exact y0|with_reducible exact y1|with_reducible refine zg ?_|with_reducible refine zj _ ?_|with_reducible refine zk (by omega) ?_))|go_keep)
   refine tkH (i:=0) (v:=?v23) rfl (by kernel_rfl) (λ_ _ _ h=>h) (Or.inl ⟨by rfl,?h23⟩) (by assumption) ?_
   case h23=>(intro w hSw;(try dsimp only at hSw);go_simp;try with_reducible rfl)
   try simp only [Act.put,zr8,zr6,zr5,zsa,zr9]
   refine tkH (i:=1) (v:=?v24) rfl (by kernel_rfl) (λ_ _ _ h=>h) (Or.inl ⟨by rfl,?h24⟩) (by assumption) ?_
   case h24=>(intro w hSw;(try dsimp only at hSw);go_simp;try with_reducible rfl)
   try simp only [Act.put,zr8,zr6,zr7,zr5,zsa,zr9]
   refine tkH (i:=2) (v:=?v25) rfl (by kernel_rfl) (λ_ _ _ h=>h) (Or.inl ⟨by rfl,?h25⟩) (by assumption) ?_
   case h25=>(intro w hSw;(try dsimp only at hSw);go_simp;try with_reducible rfl)
   try simp only [Act.put,zr8,zr6,zr7,zr5,zsa,zr9]
   refine tkH (i:=3) (v:=?v26) rfl (by kernel_rfl) (λ_ _ _ h=>h) (Or.inl ⟨by rfl,?h26⟩) (by assumption) ?_
   case h26=>(intro w hSw;(try dsimp only at hSw);go_simp;try with_reducible rfl)
   try simp only [Act.put,zr8,zr6,zr7,zr5,zsa,zr9]
   refine tkH (i:=5) (v:=?v27) rfl (by kernel_rfl) (λ_ _ _ h=>h) (Or.inl ⟨by rfl,?h27⟩) (by assumption) ?_
   case h27=>(intro w hSw;(try dsimp only at hSw);go_simp;try with_reducible rfl)
   try simp only [Act.put,zr8,zr6,zr7,zr5,zsa,zr9]
   refine tkH (i:=6) (v:=?v28) rfl (by kernel_rfl) (λ_ _ _ h=>h) (Or.inl ⟨by rfl,?h28⟩) (by assumption) ?_
   case h28=>(intro w hSw;(try dsimp only at hSw);go_simp;try with_reducible rfl)
   try simp only [Act.put,zr8,zr6,zr7,zr5,zsa,zr9]
   refine tkH (i:=7) (v:=?v29) rfl (by kernel_rfl) (λ_ _ _ h=>h) (Or.inl ⟨by rfl,?h29⟩) (by assumption) ?_
   case h29=>(intro w hSw;(try dsimp only at hSw);go_simp;try with_reducible rfl)
   try simp only [Act.put,zr8,zr6,zr7,zr5,zsa,zr9]
   refine tkH (i:=8) (v:=?v30) rfl (by kernel_rfl) (λ_ _ _ h=>h) (Or.inl ⟨by rfl,?h30⟩) (by assumption) ?_
   case h30=>(intro w hSw;(try dsimp only at hSw);go_simp;try with_reducible rfl)
   try simp only [Act.put,zr8,zr6,zr7,zr5,zsa,zr9]
   refine tkH (i:=9) (v:=?v31) rfl (by kernel_rfl) (λ_ _ _ h=>h) (Or.inl ⟨by rfl,?h31⟩) (by assumption) ?_
   case h31=>(intro w hSw;(try dsimp only at hSw);go_simp;try with_reducible rfl)
   try simp only [Act.put,zr8,zr6,zr7,zr5,zsa,zr9]
   refine tkH (i:=10) (v:=?v32) rfl (by kernel_rfl) (λ_ _ _ h=>h) (Or.inl ⟨by rfl,?h32⟩) (by assumption) ?_
   case h32=>(intro w hSw;(try dsimp only at hSw);go_simp;try with_reducible rfl)
   try simp only [Act.put,zr8,zr6,zr7,zr5,zsa,zr9]
   refine tkH (i:=11) (v:=?v33) rfl (by kernel_rfl) (λ_ _ _ h=>h) (Or.inl ⟨by rfl,?h33⟩) (by assumption) ?_
   case h33=>(intro w hSw;(try dsimp only at hSw);go_simp;try with_reducible rfl)
   try simp only [Act.put,zr8,zr6,zr7,zr5,zsa,zr9]
   refine tkH (i:=12) (v:=?v34) rfl (by kernel_rfl) (λ_ _ _ h=>h) (Or.inl ⟨by rfl,?h34⟩) (by assumption) ?_
   case h34=>(intro w hSw;(try dsimp only at hSw);go_simp;try with_reducible rfl)
   try simp only [Act.put,zr8,zr6,zr7,zr5,zsa,zr9]
   refine tkH (i:=13) (v:=?v35) rfl (by kernel_rfl) (λ_ _ _ h=>h) (Or.inl ⟨by rfl,?h35⟩) (by assumption) ?_
   case h35=>(intro w hSw;(try dsimp only at hSw);go_simp;try with_reducible rfl)
   try simp only [Act.put,zr8,zr6,zr7,zr5,zsa,zr9]
   refine wpAnyH_ready (rs:=[4,14]) (by kernel_rfl) (by simp) ?_
   refine AllReadyH.cons rfl (λKz hKz=>?_) ?_
   go_simp
   refine hKz.out _ _ ?_ (λh9=>?_)
   · (try dsimp only);(first|(refine ⟨?_,?_,?_,?_⟩ <;> repeat (first|with_reducible exact t5|with_reducible exact e1|with_reducible exact z0|with_reducible exact z1|with_reducible exact d5|with_reducible exact f1|with_reducible exact y0|with_reducible exact y1|with_reducible refine zg ?_|with_reducible refine zj _ ?_|with_reducible refine zk (by omega) ?_))|go_keep)
   clear hKz Kz hHeld;have hHeld:=h9;clear h9
   try simp only [Act.put,zr8,zr6,zr7,zr5,zsa,zr9]
   refine wpAnyH_ready (rs:=[14]) (by kernel_rfl) (by simp) ?_
   refine AllReadyH.cons rfl (λKz hKz=>?_) ?_
   go_simp
   refine hKz.out _ _ ?_ (λh9=>?_)
   · (try dsimp only);(first|(refine ⟨?_,?_,?_,?_⟩ <;> repeat (first|with_reducible exact t5|with_reducible exact e1|with_reducible exact z0|with_reducible exact z1|with_reducible exact d5|with_reducible exact f1|with_reducible exact y0|with_reducible exact y1|with_reducible refine zg ?_|with_reducible refine zj _ ?_|with_reducible refine zk (by omega) ?_))|go_keep)
   clear hKz Kz hHeld;have hHeld:=h9;clear h9
   try simp only [Act.put,zr8,zr6,zr7,zr5,zsa,zr9]
   refine wpAnyH_ready (rs:=[15]) (by kernel_rfl) (by simp) ?_
   refine AllReadyH.cons rfl (λKz hKz=>?_) ?_
   ((refine ze4 _ rfl (.tmp 43) (.tmp 53) 100 rfl B 177 j0 _ 4 32 Tryz.underlying100 hj hj0 hj1 hj2 rfl (by decide) (.slice xl ls.length cpl) ls.length xs rfl (zbM Hrow.out (λk' _ hk' _=>Below.heap_alloc _ _ _ hk')) ⟨wc.heap.size,0,none⟩ 1 1 [.int .i64 (K.cells.length:Int),.pointer (some ⟨u1,0,none⟩),.int .i64 (k.1:Nat),.int .i64 (k.2:Nat)] rfl rfl (zN (zc wc _) rfl) zqE mx2 by2 (by simp;omega) ?_;intro v' w9 hown9 hgrow hnew;obtain ⟨x9,cp9,rfl⟩:=zeR hown9;have hF9:=(Fr.of_grown hgrow).undrew;have hk9:=(hF9.block qb (by simp;omega) (λh=>(Hbl.out _ h).2.2.2 rfl)).trans ((Below.heap_alloc _ _ _ mz).trans HX1.out.wl.wi.qi.blk);obtain ⟨q0,q1,q2,q3,q4,qf,qz⟩:=zcf hk9;have d5:=(World.cell?_of_block (w:=wc) (a:=⟨b,5,none⟩) ((hF9.block b (by simp;omega) (λh=>(Hbl.out _ h).1 rfl)).trans (Below.heap_alloc _ _ _ tz))).trans t5;have f1:=(World.cell?_of_block (w:=wc) (a:=⟨g,1,none⟩) ((hF9.block g (by simp;omega) (λh=>(Hbl.out _ h).2.1 rfl)).trans (Below.heap_alloc _ _ _ (by omega)))).trans e1;have y0:=(World.cell?_of_block (w:=wc) (a:=⟨w.heap.size,0,none⟩) ((hF9.block w.heap.size (by simp;omega) (λh=>(Hbl.out _ h).2.2.1 rfl)).trans (Below.heap_alloc _ _ _ zz))).trans z0;have y1:=(World.cell?_of_block (w:=wc) (a:=⟨w.heap.size,1,none⟩) ((hF9.block w.heap.size (by simp;omega) (λh=>(Hbl.out _ h).2.2.1 rfl)).trans (Below.heap_alloc _ _ _ zz))).trans z1;have HF9:=za hF9;have Hown9:=za hown9;have Hnew9:=za hnew;clear hown9 hgrow hnew hF9 hk9))
   refine hKz.out _ _ ?_ (λh9=>?_)
   · (try dsimp only);(first|(refine ⟨?_,?_,?_,?_⟩ <;> repeat (first|with_reducible exact t5|with_reducible exact e1|with_reducible exact z0|with_reducible exact z1|with_reducible exact d5|with_reducible exact f1|with_reducible exact y0|with_reducible exact y1|with_reducible refine zg ?_|with_reducible refine zj _ ?_|with_reducible refine zk (by omega) ?_))|go_keep)
   clear hKz Kz hHeld;have hHeld:=h9;clear h9
   try simp only [Act.put,zr8,zr6,zr7,zr5,zsa,zr9]
   refine tkH (i:=16) (v:=?v36) rfl (by kernel_rfl) (λ_ _ _ h=>h) (Or.inl ⟨by rfl,?h36⟩) (by assumption) ?_
   case h36=>(intro w hSw;(try dsimp only at hSw);go_simp;try with_reducible rfl)
   try simp only [Act.put,zr8,zr6,zr7,zr5,zsa,zr9]
   refine tkH (i:=17) (v:=?v37) rfl (by kernel_rfl) (λ_ _ _ h=>h) (Or.inl ⟨by rfl,?h37⟩) (by assumption) ?_
   case h37=>(intro w hSw;(try dsimp only at hSw);go_simp;try with_reducible rfl)
   try simp only [Act.put,zr8,zr6,zr7,zr5,zsa,zr9]
   refine wpAnyH_ready (rs:=[18]) (by kernel_rfl) (by simp) ?_
   refine AllReadyH.cons rfl (λKz hKz=>?_) ?_
   go_simp
   refine hKz.out _ _ ?_ (λh9=>?_)
   · (try dsimp only);(first|(refine ⟨?_,?_,?_,?_⟩ <;> repeat (first|with_reducible exact t5|with_reducible exact e1|with_reducible exact z0|with_reducible exact z1|with_reducible exact d5|with_reducible exact f1|with_reducible exact y0|with_reducible exact y1|with_reducible refine zg ?_|with_reducible refine zj _ ?_|with_reducible refine zk (by omega) ?_))|go_keep)
   clear hKz Kz hHeld;have hHeld:=h9;clear h9
   try simp only [Act.put,zr8,zr6,zr7,zr5,zsa,zr9]
   refine wpAnyH_done (by kernel_rfl) ?_ _
   rotate_left
   exact AllReadyH.nil
   exact AllReadyH.nil
   exact AllReadyH.nil
   refine AllReadyH.cons rfl (λKz hKz=>?_) ?_
   go_simp
   refine hKz.out _ _ ?_ (λh9=>?_)
   · (try dsimp only);(first|(refine ⟨?_,?_,?_,?_⟩ <;> repeat (first|with_reducible exact t5|with_reducible exact e1|with_reducible exact z0|with_reducible exact z1|with_reducible exact d5|with_reducible exact f1|with_reducible exact y0|with_reducible exact y1|with_reducible refine zg ?_|with_reducible refine zj _ ?_|with_reducible refine zk (by omega) ?_))|go_keep)
   clear hKz Kz hHeld;have hHeld:=h9;clear h9
   try simp only [Act.put,zr8,zr6,zr7,zr5,zsa,zr9]
   refine wpAnyH_ready (rs:=[4]) (by kernel_rfl) (by simp) ?_
   refine AllReadyH.cons rfl (λKz hKz=>?_) ?_
   go_simp
   refine hKz.out _ _ ?_ (λh9=>?_)
   · (try dsimp only);(first|(refine ⟨?_,?_,?_,?_⟩ <;> repeat (first|with_reducible exact t5|with_reducible exact e1|with_reducible exact z0|with_reducible exact z1|with_reducible exact d5|with_reducible exact f1|with_reducible exact y0|with_reducible exact y1|with_reducible refine zg ?_|with_reducible refine zj _ ?_|with_reducible refine zk (by omega) ?_))|go_keep)
   clear hKz Kz hHeld;have hHeld:=h9;clear h9
   try simp only [Act.put,zr8,zr6,zr7,zr5,zsa,zr9]
   refine wpAnyH_ready (rs:=[15]) (by kernel_rfl) (by simp) ?_
   refine AllReadyH.cons rfl (λKz hKz=>?_) ?_
   ((refine ze4 _ rfl (.tmp 43) (.tmp 53) 100 rfl B 177 j0 _ 4 32 Tryz.underlying100 hj hj0 hj1 hj2 rfl (by decide) (.slice xl ls.length cpl) ls.length xs rfl (zbM Hrow.out (λk' _ hk' _=>Below.heap_alloc _ _ _ hk')) ⟨wc.heap.size,0,none⟩ 1 1 [.int .i64 (K.cells.length:Int),.pointer (some ⟨u1,0,none⟩),.int .i64 (k.1:Nat),.int .i64 (k.2:Nat)] rfl rfl (zN (zc wc _) rfl) zqE mx2 by2 (by simp;omega) ?_;intro v' w9 hown9 hgrow hnew;obtain ⟨x9,cp9,rfl⟩:=zeR hown9;have hF9:=(Fr.of_grown hgrow).undrew;have hk9:=(hF9.block qb (by simp;omega) (λh=>(Hbl.out _ h).2.2.2 rfl)).trans ((Below.heap_alloc _ _ _ mz).trans HX1.out.wl.wi.qi.blk);obtain ⟨q0,q1,q2,q3,q4,qf,qz⟩:=zcf hk9;have d5:=(World.cell?_of_block (w:=wc) (a:=⟨b,5,none⟩) ((hF9.block b (by simp;omega) (λh=>(Hbl.out _ h).1 rfl)).trans (Below.heap_alloc _ _ _ tz))).trans t5;have f1:=(World.cell?_of_block (w:=wc) (a:=⟨g,1,none⟩) ((hF9.block g (by simp;omega) (λh=>(Hbl.out _ h).2.1 rfl)).trans (Below.heap_alloc _ _ _ (by omega)))).trans e1;have y0:=(World.cell?_of_block (w:=wc) (a:=⟨w.heap.size,0,none⟩) ((hF9.block w.heap.size (by simp;omega) (λh=>(Hbl.out _ h).2.2.1 rfl)).trans (Below.heap_alloc _ _ _ zz))).trans z0;have y1:=(World.cell?_of_block (w:=wc) (a:=⟨w.heap.size,1,none⟩) ((hF9.block w.heap.size (by simp;omega) (λh=>(Hbl.out _ h).2.2.1 rfl)).trans (Below.heap_alloc _ _ _ zz))).trans z1;have HF9:=za hF9;have Hown9:=za hown9;have Hnew9:=za hnew;clear hown9 hgrow hnew hF9 hk9))
   refine hKz.out _ _ ?_ (λh9=>?_)
   · (try dsimp only);(first|(refine ⟨?_,?_,?_,?_⟩ <;> repeat (first|with_reducible exact t5|with_reducible exact e1|with_reducible exact z0|with_reducible exact z1|with_reducible exact d5|with_reducible exact f1|with_reducible exact y0|with_reducible exact y1|with_reducible refine zg ?_|with_reducible refine zj _ ?_|with_reducible refine zk (by omega) ?_))|go_keep)
   clear hKz Kz hHeld;have hHeld:=h9;clear h9
   try simp only [Act.put,zr8,zr6,zr7,zr5,zsa,zr9]
   refine tkH (i:=16) (v:=?v38) rfl (by kernel_rfl) (λ_ _ _ h=>h) (Or.inl ⟨by rfl,?h38⟩) (by assumption) ?_
   case h38=>(intro w hSw;(try dsimp only at hSw);go_simp;try with_reducible rfl)
   try simp only [Act.put,zr8,zr6,zr7,zr5,zsa,zr9]
   refine tkH (i:=17) (v:=?v39) rfl (by kernel_rfl) (λ_ _ _ h=>h) (Or.inl ⟨by rfl,?h39⟩) (by assumption) ?_
   case h39=>(intro w hSw;(try dsimp only at hSw);go_simp;try with_reducible rfl)
   try simp only [Act.put,zr8,zr6,zr7,zr5,zsa,zr9]
   refine wpAnyH_ready (rs:=[18]) (by kernel_rfl) (by simp) ?_
   refine AllReadyH.cons rfl (λKz hKz=>?_) ?_
   go_simp
   refine hKz.out _ _ ?_ (λh9=>?_)
   · (try dsimp only);(first|(refine ⟨?_,?_,?_,?_⟩ <;> repeat (first|with_reducible exact t5|with_reducible exact e1|with_reducible exact z0|with_reducible exact z1|with_reducible exact d5|with_reducible exact f1|with_reducible exact y0|with_reducible exact y1|with_reducible refine zg ?_|with_reducible refine zj _ ?_|with_reducible refine zk (by omega) ?_))|go_keep)
   clear hKz Kz hHeld;have hHeld:=h9;clear h9
   try simp only [Act.put,zr8,zr6,zr7,zr5,zsa,zr9]
   refine wpAnyH_done (by kernel_rfl) ?_ _
   rotate_left
   exact AllReadyH.nil
   exact AllReadyH.nil
   exact AllReadyH.nil
   exact AllReadyH.nil
   all_goals refine NoPanic.normal ?_
   all_goals go_wp2_with fail
   all_goals go_meet
   all_goals have hC:=HX1.out.wl.put ⟨K.cells.length,a1,k⟩ (.pointer (some ⟨u1,0,none⟩)) HT1'.out HF9.out xs Hlts.out Hown9.out (λk' e=>(Hnew9.out k' e).imp id (λh=>by have h':(wc.alloc (.cells #[.int .i64 (K.cells.length:Int),.pointer (some ⟨u1,0,none⟩),.int .i64 (k.1:Nat),.int .i64 (k.2:Nat)] 177)).heap.size<=k':=h;rw [zsb] at h';exact h'))
   all_goals exact ⟨_,HX1.out.stepL hC.1 hC.2⟩
  case rest =>
   obtain ⟨lv',HX2⟩:=hcut
   go_wp2_with (go_at_call 36;refine (HX2.out.add 3 (K.cells.length:Int) hr).mono ?_;rintro e w3 ⟨rfl,hX3⟩;have HX3:=za hX3;clear hX3)
   first|go_end0|refine bodyPost_ret (results_none rfl _ _ _) rfl ?_
   rw [<- HKf.out]
   exact ⟨rfl,⟨_,HX3.out.wl⟩,HX3.out.ft⟩
end
end Go.Proofs.YtedmpgjebafcjaaGreatDoor
