/- Part 20 of the proof: CmpE FacC. -/
import Derived.Test.YtbicmofihhjgbaaGreatDoorK18
set_option maxRecDepth 100000
set_option maxHeartbeats 8000000
namespace Go.Proofs.YtbicmofihhjgbaaGreatDoor
open Go.Proofs.Tryz
open Go.RowKit
section
variable {K K':Cd} {a:Int} {ls:List Lt} {B N base cb kb qb wb z:Nat} {o:Obj} {c:Sc} {ev lv nv:Value} {W W' w:World}
attribute [local go_sem ↓] Go.wp_at_zero Go.wp_at_succ
structure CX (N B wb kb qb cb base:Nat) (c:Sc) (ev nv:Value) (w:World) (z:Nat) (o:Obj) (lv:Value) (K:Cd) (ls:List Lt) (W:World):Prop where
 wl:WL N B wb kb qb cb base c ev nv lv K ls W
 ft:FT (CT kb qb) w W
 bx:W.heap[z]?=some o
 nz:¬CT kb qb W z
theorem CX.stepL {lv':Value}{ls':List Lt}(h:CX N B wb kb qb cb base c ev nv w z o lv K ls W)(hw:WL N B wb kb qb cb base c ev nv lv' K' ls' W')(hf:FT (CT kb qb) W W'):CX N B wb kb qb cb base c ev nv w z o lv' K' ls' W' :=
 ⟨hw,h.ft.trans hf,(hf.fr.block _ (ze h.bx) h.nz).trans h.bx,hf.not (ze h.bx) h.nz⟩
theorem CX.stepK (h:CX N B wb kb qb cb base c ev nv w z o lv K ls W)(hk:KW B wb kb K' W')(hf:FT (KT kb) W W'):CX N B wb kb qb cb base c ev nv w z o lv K' ls W' :=
 h.stepL (h.wl.ftk hk hf).1 (h.wl.ftk hk hf).2
theorem CX.keep (h:CX N B wb kb qb cb base c ev nv w z o lv K ls W)(hB:xB W W'):CX N B wb kb qb cb base c ev nv w z o lv K ls W' :=
 h.stepL (h.wl.keep hB) (FT.below hB (h.wl.tk hB))
theorem CX.add (h:CX N B wb kb qb cb base c ev nv w z o lv K ls W)(op:Nat)(x:Int)(hr:K.row.length<=1000000) :
 xK 56 #[xP wb,.int .u8 (op:Int),xI x] W (λe w'=>e=.returned (.tuple #[])/\CX N B wb kb qb cb base c ev nv w z o lv (K.add op x) ls w'):=by
 refine (zc7 B wb kb K op x W h.wl.wi.kw hr).mono ?_;rintro e w' ⟨h1,h2,h3⟩;exact⟨h1,h.stepK h2 h3⟩
theorem CX.new (h:WL N B wb kb qb cb base c ev nv lv K ls w)(o:Obj):CX N B wb kb qb cb base c ev nv w w.heap.size o lv K ls (w.alloc o) :=
 ⟨h.keep (zq w o),FT.below (zq w o) (h.tk (zq w o)),zc w o,λe=>by have:=(h.lt _ (h.tk (zq w o) _ e)).2.1;omega⟩
theorem CX.old {lv0:Value}{K0:Cd}{ls0:List Lt}(h:CX N B wb kb qb cb base c ev nv w z o lv K ls W)(h0:WL N B wb kb qb cb base c ev nv lv0 K0 ls0 w):Old N w W:=h.ft.old h0.wi.qi.hN (λk e=>(h0.lt k e).1)
theorem znX:∀u∈[xI a],u.oneCell'=true:=by simp[Value.oneCell']
theorem zqE {b c:Int}{p:Option Addr}:∀u∈[xI a,.pointer p,xI b,xI c],u.oneCell'=true:=by simp[Value.oneCell']
theorem zhK (t a0 a1:Tm)(hts:t.ts=[a0,a1])(hW:Wf t)(v:Value)(k:Nat×Nat)(K:Cd)(ls:List Lt)(w:World)(hT:TT w N t v)(H:WL N B wb kb qb cb base c ev nv lv K ls w)(hr:K.row.length<=1000000)(hc:K.cells.length<=1000000)(hl:ls.length<=1000000) :
 xK 197 #[xP wb,xP qb,v,ckV k] w (λe w'=>e=.returned (.tuple #[])/\(∃lv',WL N B wb kb qb cb base c ev nv lv' ((K.cell (zav a0)).add 3 K.cells.length) (ls++[⟨K.cells.length,a1,k⟩]) w')/\FT (CT kb qb) w w'):=by
 obtain⟨b,args,vs,rfl,hb,HBk,hown,hlen,hsub,hgs⟩:=hT.ptr;obtain⟨x,cp,rfl⟩:=zB hown;rw[hts] at hlen;obtain⟨y0,hy0⟩:∃y,vs[0]?=some y:=⟨_,zsc (by rw[hlen];simp)⟩;obtain⟨y1,hy1⟩:∃y,vs[1]?=some y:=⟨_,zsc (by rw[hlen];simp)⟩;obtain⟨g,rfl,He0⟩:=zbE hown hy0;obtain⟨g',eg,He1⟩:=zbE hown hy1;cases eg;have HT0:=hsub 0 a0 y0 (by rw[hts];rfl) hy0;have HT1:=hsub 1 a1 y1 (by rw[hts];rfl) hy1;obtain⟨u0,_,_,rfl,_⟩:=HT0.ptr;obtain⟨u1,_,_,rfl,_⟩:=HT1.ptr;have hgN:=hgs g rfl;have hW0:=hW.sub (u:=a0) (by rw[hts];simp);have hv2:vs.length=2:=hlen;rw[hv2] at HBk;have HC0:=za (CX.new H (.cells #[xI (k.1:Nat),xI (k.2:Nat)] 198));have hNw:=H.wi.qi.hN;obtain⟨i0,hi,hi0,hi1,hi2⟩:=info_parts Tryz.infoI64;obtain⟨j0,hj,hj0,hj1,hj2⟩:=info_parts Tryz.infoMem;have mx:K.cells.length+1<=maxLen:=by unfold maxLen;omega
 have by':(K.cells.length+1)*8<=140737488355328:=by omega
 have mx2:ls.length+1<=maxLen:=by unfold maxLen;omega
 have by2:(ls.length+1)*32<=140737488355328:=by omega
 obtain⟨Kf,HKf⟩:∃Kf,(K.cell (zav a0)).add 3 K.cells.length=Kf:=⟨_,rfl⟩;rw[HKf];unfold ckV;have hst:∃xc cpc,(w.alloc (.cells #[xI (k.1:Nat),xI (k.2:Nat)] 198)).cell? (xD wb 0)=some (xP kb)/\(w.alloc (.cells #[xI (k.1:Nat),xI (k.2:Nat)] 198)).cell? (xD kb 3)=some (.slice xc K.cells.length cpc):=by obtain⟨bv,cv,rv,HI⟩:=HC0.o.wl.wi.kw;obtain⟨xc,cpc,rfl⟩:=zcB HI.cown;exact⟨xc,cpc,(zu HI.wr).1,(zt HI.blk).2.2.2.1⟩
 obtain⟨xc,cpc,p0,m3⟩:=hst;go_enter func197,ntmps197;go_upto_region 2 with fail;refine zn (λW=>CX N B wb kb qb cb base c ev nv w w.heap.size (.cells #[xI (k.1:Nat),xI (k.2:Nat)] 198) lv K ls W) HC0.o ?_;intro W hX;have HX:=za hX;go_cut [] (λwx=>Hid (CX N B wb kb qb cb base c ev nv w w.heap.size (.cells #[xI (k.1:Nat),xI (k.2:Nat)] 198) lv (K.cell (zav a0)) ls wx));case first =>
  obtain⟨bv,cv,rv,HI⟩:=HX.o.wl.wi.kw;obtain⟨xc,cpc,rfl⟩:=zcB HI.cown;obtain⟨p0,pf,pz⟩:=zu HI.wr;obtain⟨m0,m1,m2,m3,m4,m5,mf,mz⟩:=zt HI.blk;have hO:=HX.o.old H;obtain⟨t0,t1,t2,t3,t4,t5,tf,tz⟩:=zt ((hO b hb).trans HBk);have He0:=(World.cell?_of_block (w:=w) (a:=(xD g 0)) (hO g hgN)).trans He0;have HCo:=za (zdp a0 hW0 (xP u0) W.drew (HT0.old hO |>.old (λ_ _=>rfl)));have hkb:=HI.hkb;have hwb:=HI.hwb;have hBz:=HI.hB;have hNk:=HX.o.wl.wi.hNk;have hbk:¬b=kb:=by omega
  have hgk:¬g=kb:=by omega
  have hwk:=HI.dk;generalize zav a0=ca at *;refine wp_region_noPanic ?_;refine wp_region_held_drew (S:=(λw'=>w'.cell? (xD wb 0)=some (xP kb)/\w'.cell? (xD b 5)=some (xS g 2 cp)/\w'.cell? (xD g 0)=some (xP u0))) (by kernel_rfl) ?_ (λhHeld=>?_)
  . (try dsimp only);(first|(with_reducible (refine⟨?_,?_,?_⟩ <;> repeat (first|assumption|refine zg ?_|refine zj _ ?_|refine zk (by omega) ?_)))|go_keep)
  refine tkA 0 rfl (v:=?v1) (Or.inl ⟨by rfl,?h1⟩) ?_;case h1=>(intro w hSw;(try dsimp only at hSw);go_simp;try with_reducible rfl)
  try simp only[Act.put,zx2]
  refine tkA 1 rfl (v:=?v2) (Or.inl ⟨by rfl,?h2⟩) ?_;case h2=>(intro w hSw;(try dsimp only at hSw);go_simp;try with_reducible rfl)
  try simp only[Act.put,zx2]
  refine tkA 2 rfl (v:=?v3) (Or.inl ⟨by rfl,?h3⟩) ?_;case h3=>(intro w hSw;(try dsimp only at hSw);go_simp;try with_reducible rfl)
  try simp only[Act.put,zx2]
  refine tkA 3 rfl (v:=?v4) (Or.inl ⟨by rfl,?h4⟩) ?_;case h4=>(intro w hSw;(try dsimp only at hSw);go_simp;try with_reducible rfl)
  try simp only[Act.put,zx2]
  refine tkA 4 rfl (v:=?v5) (Or.inl ⟨by rfl,?h5⟩) ?_;case h5=>(intro w hSw;(try dsimp only at hSw);go_simp;try with_reducible rfl)
  try simp only[Act.put,zx2]
  refine tkA 5 rfl (v:=?v6) (Or.inl ⟨by rfl,?h6⟩) ?_;case h6=>(intro w hSw;(try dsimp only at hSw);go_simp;try with_reducible rfl)
  try simp only[Act.put,zx2]
  refine tkA 6 rfl (v:=?v7) (Or.inl ⟨by rfl,?h7⟩) ?_;case h7=>(intro w hSw;(try dsimp only at hSw);go_simp;try with_reducible rfl)
  try simp only[Act.put,zx2]
  refine tkA 7 rfl (v:=?v8) (Or.inl ⟨by rfl,?h8⟩) ?_;case h8=>(intro w hSw;(try dsimp only at hSw);go_simp;try with_reducible rfl)
  try simp only[Act.put,zx2]
  refine tkA 8 rfl (v:=?v9) (Or.inl ⟨by rfl,?h9⟩) ?_;case h9=>(intro w hSw;(try dsimp only at hSw);go_simp;try with_reducible rfl)
  try simp only[Act.put,zx2]
  refine tkA 9 rfl (v:=?v10) (Or.inl ⟨by rfl,?h10⟩) ?_;case h10=>(intro w hSw;(try dsimp only at hSw);go_simp;try with_reducible rfl)
  try simp only[Act.put,zx2]
  refine tkA 11 rfl (v:=?v11) (Or.inl ⟨by rfl,?h11⟩) ?_;case h11=>(intro w hSw;(try dsimp only at hSw);go_simp;try with_reducible rfl)
  try simp only[Act.put,zx2]
  refine tkA 12 rfl (v:=?v12) (Or.inl ⟨by rfl,?h12⟩) ?_;case h12=>(intro w hSw;(try dsimp only at hSw);go_simp;try with_reducible rfl)
  try simp only[Act.put,zx2]
  refine tkA 13 rfl (v:=?v13) (Or.inl ⟨by rfl,?h13⟩) ?_;case h13=>(intro w hSw;(try dsimp only at hSw);go_simp;try with_reducible rfl)
  try simp only[Act.put,zx2]
  refine tkA 14 rfl (v:=?v14) (Or.inl ⟨by rfl,?h14⟩) ?_;case h14=>(intro w hSw;(try dsimp only at hSw);go_simp;try with_reducible rfl)
  try simp only[Act.put,zx2]
  refine tkA 15 rfl (v:=?v15) (Or.inl ⟨by rfl,?h15⟩) ?_;case h15=>(intro w hSw;(try dsimp only at hSw);go_simp;try with_reducible rfl)
  try simp only[Act.put,zx2]
  refine tkA 16 rfl (v:=?v16) (Or.inl ⟨by rfl,?h16⟩) ?_;case h16=>(intro w hSw;(try dsimp only at hSw);go_simp;try with_reducible rfl)
  try simp only[Act.put,zx2]
  refine wpAnyH_ready (rs:=[10,17]) (by kernel_rfl) (by simp) ?_;refine AllReadyH.cons rfl (λKz hKz=>?_) ?_;go_simp;refine hKz.out _ _ ?_ (λh9=>?_)
  . (try dsimp only);(first|(with_reducible (refine⟨?_,?_,?_⟩ <;> repeat (first|assumption|refine zg ?_|refine zj _ ?_|refine zk (by omega) ?_)))|go_keep)
  clear hKz Kz hHeld;have hHeld:=h9;try simp only[Act.put,zx2]
  refine wpAnyH_ready (rs:=[17]) (by kernel_rfl) (by simp) ?_;refine AllReadyH.cons rfl (λKz hKz=>?_) ?_;go_simp;first|go_at_K|(((go_at_call 196;refine HCo.o.mono ?_;rintro e w1 ⟨rfl,rfl⟩));first|go_at_K|go_wp2_with fail)
  refine hKz.out _ _ ?_ (λh9=>?_)
  . (try dsimp only);(first|(with_reducible (refine⟨?_,?_,?_⟩ <;> repeat (first|assumption|refine zg ?_|refine zj _ ?_|refine zk (by omega) ?_)))|go_keep)
  clear hKz Kz hHeld;have hHeld:=h9;try simp only[Act.put,zx2]
  refine wpAnyH_ready (rs:=[18]) (by kernel_rfl) (by simp) ?_;refine AllReadyH.cons rfl (λKz hKz=>?_) ?_;go_simp;refine hKz.out _ _ ?_ (λh9=>?_)
  . (try dsimp only);(first|(with_reducible (refine⟨?_,?_,?_⟩ <;> repeat (first|assumption|refine zg ?_|refine zj _ ?_|refine zk (by omega) ?_)))|go_keep)
  clear hKz Kz hHeld;have hHeld:=h9;try simp only[Act.put,zx2]
  refine wpAnyH_ready (rs:=[19]) (by kernel_rfl) (by simp) ?_;refine AllReadyH.cons rfl (λKz hKz=>?_) ?_
  ((refine zJ _ rfl (.tmp 27) (.tmp 35) 32 rfl B 2 i0 _ 1 8 underlying32 hi hi0 hi1 hi2 rfl (by decide) (.slice xc K.cells.length cpc) K.cells.length (zK K.cells) rfl (zD HI.cown _) (xD W.heap.size 0) 1 1 [xI ca] rfl rfl (zN (zc W _) rfl) znX mx by' (by simp;omega) ?_;intro v' w9 Hown9 hgrow Hnew9;obtain⟨g9,cap9,rfl,hg9⟩:=zM Hown9 (by omega);have HF9:=(Fr.of_grown hgrow).undrew;have hk9:=(HF9.block kb (by simp;omega) (λH=>by have:=(HI.cown.lt _ H).1;omega)).trans ((Below.heap_alloc _ _ _ (by omega)).trans HI.blk);have hw9:=(HF9.block wb (by simp;omega) (λH=>by have:=(HI.cown.lt _ H).1;omega)).trans ((Below.heap_alloc _ _ _ (by omega)).trans HI.wr);obtain⟨b0,bf,bz⟩:=zu hw9;obtain⟨q0,q1,q2,q3,q4,q5,qf,qz⟩:=zt hk9;have d5:=(World.cell?_of_block (w:=W) (a:=(xD b 5)) ((HF9.block b (by simp;omega) (λH=>by have:=(HI.cown.lt _ H).1;omega)).trans (Below.heap_alloc _ _ _ (by omega)))).trans t5;have f0:=(World.cell?_of_block (w:=W) (a:=(xD g 0)) ((HF9.block g (by simp;omega) (λH=>by have:=(HI.cown.lt _ H).1;omega)).trans (Below.heap_alloc _ _ _ (by omega)))).trans He0))
  refine hKz.out _ _ ?_ (λh9=>?_)
  . (try dsimp only);(first|(with_reducible (refine⟨?_,?_,?_⟩ <;> repeat (first|assumption|refine zg ?_|refine zj _ ?_|refine zk (by omega) ?_)))|go_keep)
  clear hKz Kz hHeld;have hHeld:=h9;try simp only[Act.put,zx2]
  refine tkA 20 rfl (v:=?v17) (Or.inl ⟨by rfl,?h17⟩) ?_;case h17=>(intro w hSw;(try dsimp only at hSw);go_simp;try with_reducible rfl)
  try simp only[Act.put,zx2]
  refine tkA 21 rfl (v:=?v18) (Or.inl ⟨by rfl,?h18⟩) ?_;case h18=>(intro w hSw;(try dsimp only at hSw);go_simp;try with_reducible rfl)
  try simp only[Act.put,zx2]
  refine wpAnyH_ready (rs:=[22]) (by kernel_rfl) (by simp) ?_;refine AllReadyH.cons rfl (λKz hKz=>?_) ?_;go_simp;refine hKz.out _ _ ?_ (λh9=>?_)
  . (try dsimp only);(first|(with_reducible (refine⟨?_,?_,?_⟩ <;> repeat (first|assumption|refine zg ?_|refine zj _ ?_|refine zk (by omega) ?_)))|go_keep)
  clear hKz Kz hHeld;have hHeld:=h9;try simp only[Act.put,zx2]
  refine wpAnyH_done (by kernel_rfl) ?_ _;rotate_left;exact AllReadyH.nil;exact AllReadyH.nil;exact AllReadyH.nil;exact AllReadyH.nil;refine AllReadyH.cons rfl (λKz hKz=>?_) ?_;go_simp;first|go_at_K|(((go_at_call 196;refine HCo.o.mono ?_;rintro e w1 ⟨rfl,rfl⟩));first|go_at_K|go_wp2_with fail)
  refine hKz.out _ _ ?_ (λh9=>?_)
  . (try dsimp only);(first|(with_reducible (refine⟨?_,?_,?_⟩ <;> repeat (first|assumption|refine zg ?_|refine zj _ ?_|refine zk (by omega) ?_)))|go_keep)
  clear hKz Kz hHeld;have hHeld:=h9;try simp only[Act.put,zx2]
  refine wpAnyH_ready (rs:=[10,18]) (by kernel_rfl) (by simp) ?_;refine AllReadyH.cons rfl (λKz hKz=>?_) ?_;go_simp;refine hKz.out _ _ ?_ (λh9=>?_)
  . (try dsimp only);(first|(with_reducible (refine⟨?_,?_,?_⟩ <;> repeat (first|assumption|refine zg ?_|refine zj _ ?_|refine zk (by omega) ?_)))|go_keep)
  clear hKz Kz hHeld;have hHeld:=h9;try simp only[Act.put,zx2]
  refine wpAnyH_ready (rs:=[18]) (by kernel_rfl) (by simp) ?_;refine AllReadyH.cons rfl (λKz hKz=>?_) ?_;go_simp;refine hKz.out _ _ ?_ (λh9=>?_)
  . (try dsimp only);(first|(with_reducible (refine⟨?_,?_,?_⟩ <;> repeat (first|assumption|refine zg ?_|refine zj _ ?_|refine zk (by omega) ?_)))|go_keep)
  clear hKz Kz hHeld;have hHeld:=h9;try simp only[Act.put,zx2]
  refine wpAnyH_ready (rs:=[19]) (by kernel_rfl) (by simp) ?_;refine AllReadyH.cons rfl (λKz hKz=>?_) ?_
  ((refine zJ _ rfl (.tmp 27) (.tmp 35) 32 rfl B 2 i0 _ 1 8 underlying32 hi hi0 hi1 hi2 rfl (by decide) (.slice xc K.cells.length cpc) K.cells.length (zK K.cells) rfl (zD HI.cown _) (xD W.heap.size 0) 1 1 [xI ca] rfl rfl (zN (zc W _) rfl) znX mx by' (by simp;omega) ?_;intro v' w9 Hown9 hgrow Hnew9;obtain⟨g9,cap9,rfl,hg9⟩:=zM Hown9 (by omega);have HF9:=(Fr.of_grown hgrow).undrew;have hk9:=(HF9.block kb (by simp;omega) (λH=>by have:=(HI.cown.lt _ H).1;omega)).trans ((Below.heap_alloc _ _ _ (by omega)).trans HI.blk);have hw9:=(HF9.block wb (by simp;omega) (λH=>by have:=(HI.cown.lt _ H).1;omega)).trans ((Below.heap_alloc _ _ _ (by omega)).trans HI.wr);obtain⟨b0,bf,bz⟩:=zu hw9;obtain⟨q0,q1,q2,q3,q4,q5,qf,qz⟩:=zt hk9;have d5:=(World.cell?_of_block (w:=W) (a:=(xD b 5)) ((HF9.block b (by simp;omega) (λH=>by have:=(HI.cown.lt _ H).1;omega)).trans (Below.heap_alloc _ _ _ (by omega)))).trans t5;have f0:=(World.cell?_of_block (w:=W) (a:=(xD g 0)) ((HF9.block g (by simp;omega) (λH=>by have:=(HI.cown.lt _ H).1;omega)).trans (Below.heap_alloc _ _ _ (by omega)))).trans He0))
  refine hKz.out _ _ ?_ (λh9=>?_)
  . (try dsimp only);(first|(with_reducible (refine⟨?_,?_,?_⟩ <;> repeat (first|assumption|refine zg ?_|refine zj _ ?_|refine zk (by omega) ?_)))|go_keep)
  clear hKz Kz hHeld;have hHeld:=h9;try simp only[Act.put,zx2]
  refine tkA 20 rfl (v:=?v19) (Or.inl ⟨by rfl,?h19⟩) ?_;case h19=>(intro w hSw;(try dsimp only at hSw);go_simp;try with_reducible rfl)
  try simp only[Act.put,zx2]
  refine tkA 21 rfl (v:=?v20) (Or.inl ⟨by rfl,?h20⟩) ?_;case h20=>(intro w hSw;(try dsimp only at hSw);go_simp;try with_reducible rfl)
  try simp only[Act.put,zx2]
  refine wpAnyH_ready (rs:=[22]) (by kernel_rfl) (by simp) ?_;refine AllReadyH.cons rfl (λKz hKz=>?_) ?_;go_simp;refine hKz.out _ _ ?_ (λh9=>?_)
  . (try dsimp only);(first|(with_reducible (refine⟨?_,?_,?_⟩ <;> repeat (first|assumption|refine zg ?_|refine zj _ ?_|refine zk (by omega) ?_)))|go_keep)
  clear hKz Kz hHeld;have hHeld:=h9;try simp only[Act.put,zx2]
  refine wpAnyH_done (by kernel_rfl) ?_ _;rotate_left;exact AllReadyH.nil;exact AllReadyH.nil;exact AllReadyH.nil;refine AllReadyH.cons rfl (λKz hKz=>?_) ?_;go_simp;refine hKz.out _ _ ?_ (λh9=>?_)
  . (try dsimp only);(first|(with_reducible (refine⟨?_,?_,?_⟩ <;> repeat (first|assumption|refine zg ?_|refine zj _ ?_|refine zk (by omega) ?_)))|go_keep)
  clear hKz Kz hHeld;have hHeld:=h9;try simp only[Act.put,zx2]
  refine wpAnyH_ready (rs:=[10]) (by kernel_rfl) (by simp) ?_;refine AllReadyH.cons rfl (λKz hKz=>?_) ?_;go_simp;refine hKz.out _ _ ?_ (λh9=>?_)
  . (try dsimp only);(first|(with_reducible (refine⟨?_,?_,?_⟩ <;> repeat (first|assumption|refine zg ?_|refine zj _ ?_|refine zk (by omega) ?_)))|go_keep)
  clear hKz Kz hHeld;have hHeld:=h9;try simp only[Act.put,zx2]
  refine wpAnyH_ready (rs:=[19]) (by kernel_rfl) (by simp) ?_;refine AllReadyH.cons rfl (λKz hKz=>?_) ?_
  ((refine zJ _ rfl (.tmp 27) (.tmp 35) 32 rfl B 2 i0 _ 1 8 underlying32 hi hi0 hi1 hi2 rfl (by decide) (.slice xc K.cells.length cpc) K.cells.length (zK K.cells) rfl (zD HI.cown _) (xD W.heap.size 0) 1 1 [xI ca] rfl rfl (zN (zc W _) rfl) znX mx by' (by simp;omega) ?_;intro v' w9 Hown9 hgrow Hnew9;obtain⟨g9,cap9,rfl,hg9⟩:=zM Hown9 (by omega);have HF9:=(Fr.of_grown hgrow).undrew;have hk9:=(HF9.block kb (by simp;omega) (λH=>by have:=(HI.cown.lt _ H).1;omega)).trans ((Below.heap_alloc _ _ _ (by omega)).trans HI.blk);have hw9:=(HF9.block wb (by simp;omega) (λH=>by have:=(HI.cown.lt _ H).1;omega)).trans ((Below.heap_alloc _ _ _ (by omega)).trans HI.wr);obtain⟨b0,bf,bz⟩:=zu hw9;obtain⟨q0,q1,q2,q3,q4,q5,qf,qz⟩:=zt hk9;have d5:=(World.cell?_of_block (w:=W) (a:=(xD b 5)) ((HF9.block b (by simp;omega) (λH=>by have:=(HI.cown.lt _ H).1;omega)).trans (Below.heap_alloc _ _ _ (by omega)))).trans t5;have f0:=(World.cell?_of_block (w:=W) (a:=(xD g 0)) ((HF9.block g (by simp;omega) (λH=>by have:=(HI.cown.lt _ H).1;omega)).trans (Below.heap_alloc _ _ _ (by omega)))).trans He0))
  refine hKz.out _ _ ?_ (λh9=>?_)
  . (try dsimp only);(first|(with_reducible (refine⟨?_,?_,?_⟩ <;> repeat (first|assumption|refine zg ?_|refine zj _ ?_|refine zk (by omega) ?_)))|go_keep)
  clear hKz Kz hHeld;have hHeld:=h9;try simp only[Act.put,zx2]
  refine tkA 20 rfl (v:=?v21) (Or.inl ⟨by rfl,?h21⟩) ?_;case h21=>(intro w hSw;(try dsimp only at hSw);go_simp;try with_reducible rfl)
  try simp only[Act.put,zx2]
  refine tkA 21 rfl (v:=?v22) (Or.inl ⟨by rfl,?h22⟩) ?_;case h22=>(intro w hSw;(try dsimp only at hSw);go_simp;try with_reducible rfl)
  try simp only[Act.put,zx2]
  refine wpAnyH_ready (rs:=[22]) (by kernel_rfl) (by simp) ?_;refine AllReadyH.cons rfl (λKz hKz=>?_) ?_;go_simp;refine hKz.out _ _ ?_ (λh9=>?_)
  . (try dsimp only);(first|(with_reducible (refine⟨?_,?_,?_⟩ <;> repeat (first|assumption|refine zg ?_|refine zj _ ?_|refine zk (by omega) ?_)))|go_keep)
  clear hKz Kz hHeld;have hHeld:=h9;try simp only[Act.put,zx2]
  refine wpAnyH_done (by kernel_rfl) ?_ _;rotate_left;exact AllReadyH.nil;exact AllReadyH.nil;exact AllReadyH.nil;exact AllReadyH.nil;exact AllReadyH.nil;all_goals refine NoPanic.normal ?_
  all_goals go_wp2_with fail
  all_goals go_meet
  all_goals have hC:=HI.celled HF9 Hown9 (λk e=>(Hnew9 k e).imp id (λH=>by have h':(W.alloc (.cells #[xI ca] 2)).heap.size<=k:=H;rw[zsb] at h';exact h'))
  all_goals exact HX.o.stepK hC.1 hC.2
 case rest =>
  have HX1:Hid (CX N B wb kb qb cb base c ev nv w w.heap.size (.cells #[xI (k.1:Nat),xI (k.2:Nat)] 198) lv (K.cell (zav a0)) ls wc):=hcut;go_upto_region 3 with fail;go_cut [] (λwx=>∃lv',Hid (CX N B wb kb qb cb base c ev nv w w.heap.size (.cells #[xI (k.1:Nat),xI (k.2:Nat)] 198) lv' (K.cell (zav a0)) (ls++[⟨K.cells.length,a1,k⟩]) wx));case first =>
   obtain⟨xs,Hrow,Hlts⟩:=HX1.o.wl.row;obtain⟨xl,cpl,rfl⟩:=zeR Hrow;obtain⟨m0,m1,m2,m3,m4,mf,mz⟩:=zcf HX1.o.wl.wi.qi.blk;have hO:=HX1.o.old H;obtain⟨t0,t1,t2,t3,t4,t5,tf,tz⟩:=zt ((hO b hb).trans HBk);have He1:=(World.cell?_of_block (w:=w) (a:=(xD g 1)) (hO g hgN)).trans He1;obtain⟨z0,z1,zf,zz⟩:=zp HX1.o.bx;have hnz:=HX1.o.nz;have HT1':=za (HT1.old hO);have hBz:B<=wc.heap.size:=(by obtain⟨_,_,_,HI⟩:=HX1.o.wl.wi.kw;exact HI.hB);have hNq:=HX1.o.wl.hNq;have hNk:=HX1.o.wl.wi.hNk;have hkB:=HX1.o.wl.wi.kw.kb;have Hbl:∀k',(Value.slice xl ls.length cpl).ownBlock=some k'->¬k'=b/\¬k'=g/\¬k'=w.heap.size/\¬k'=qb:=λk' e=>⟨λe'=>by have:=(Hrow.lt k' e).1;omega,λe'=>by have:=(Hrow.lt k' e).1;omega,λe'=>hnz ((HX1.o.wl.ct _).2 (Or.inr (Or.inr (e'▸e)))),(HX1.o.wl.dl k' e).2.1⟩;have hzq:¬w.heap.size=qb:=λe=>hnz ((HX1.o.wl.ct _).2 (Or.inr (Or.inl e)));have hbq:¬b=qb:=(by omega);have hgq:¬g=qb:=(by omega);refine wp_region_noPanic ?_;refine wp_region_held_drew (S:=(λw'=>w'.cell? (xD b 5)=some (xS g 2 cp)/\w'.cell? (xD g 1)=some (xP u1)/\w'.cell? (xD w.heap.size 0)=some (xI (k.1:Nat))/\w'.cell? (xD w.heap.size 1)=some (xI (k.2:Nat)))) (by kernel_rfl) ?_ (λhHeld=>?_)
   . (try dsimp only);(first|(with_reducible (refine⟨?_,?_,?_,?_⟩ <;> repeat (first|assumption|refine zg ?_|refine zj _ ?_|refine zk (by omega) ?_)))|go_keep)
   refine tkA 0 rfl (v:=?v23) (Or.inl ⟨by rfl,?h23⟩) ?_;case h23=>(intro w hSw;(try dsimp only at hSw);go_simp;try with_reducible rfl)
   try simp only[Act.put,zx2]
   refine tkA 1 rfl (v:=?v24) (Or.inl ⟨by rfl,?h24⟩) ?_;case h24=>(intro w hSw;(try dsimp only at hSw);go_simp;try with_reducible rfl)
   try simp only[Act.put,zx2]
   refine tkA 2 rfl (v:=?v25) (Or.inl ⟨by rfl,?h25⟩) ?_;case h25=>(intro w hSw;(try dsimp only at hSw);go_simp;try with_reducible rfl)
   try simp only[Act.put,zx2]
   refine tkA 3 rfl (v:=?v26) (Or.inl ⟨by rfl,?h26⟩) ?_;case h26=>(intro w hSw;(try dsimp only at hSw);go_simp;try with_reducible rfl)
   try simp only[Act.put,zx2]
   refine tkA 5 rfl (v:=?v27) (Or.inl ⟨by rfl,?h27⟩) ?_;case h27=>(intro w hSw;(try dsimp only at hSw);go_simp;try with_reducible rfl)
   try simp only[Act.put,zx2]
   refine tkA 6 rfl (v:=?v28) (Or.inl ⟨by rfl,?h28⟩) ?_;case h28=>(intro w hSw;(try dsimp only at hSw);go_simp;try with_reducible rfl)
   try simp only[Act.put,zx2]
   refine tkA 7 rfl (v:=?v29) (Or.inl ⟨by rfl,?h29⟩) ?_;case h29=>(intro w hSw;(try dsimp only at hSw);go_simp;try with_reducible rfl)
   try simp only[Act.put,zx2]
   refine tkA 8 rfl (v:=?v30) (Or.inl ⟨by rfl,?h30⟩) ?_;case h30=>(intro w hSw;(try dsimp only at hSw);go_simp;try with_reducible rfl)
   try simp only[Act.put,zx2]
   refine tkA 9 rfl (v:=?v31) (Or.inl ⟨by rfl,?h31⟩) ?_;case h31=>(intro w hSw;(try dsimp only at hSw);go_simp;try with_reducible rfl)
   try simp only[Act.put,zx2]
   refine tkA 10 rfl (v:=?v32) (Or.inl ⟨by rfl,?h32⟩) ?_;case h32=>(intro w hSw;(try dsimp only at hSw);go_simp;try with_reducible rfl)
   try simp only[Act.put,zx2]
   refine tkA 11 rfl (v:=?v33) (Or.inl ⟨by rfl,?h33⟩) ?_;case h33=>(intro w hSw;(try dsimp only at hSw);go_simp;try with_reducible rfl)
   try simp only[Act.put,zx2]
   refine tkA 12 rfl (v:=?v34) (Or.inl ⟨by rfl,?h34⟩) ?_;case h34=>(intro w hSw;(try dsimp only at hSw);go_simp;try with_reducible rfl)
   try simp only[Act.put,zx2]
   refine tkA 13 rfl (v:=?v35) (Or.inl ⟨by rfl,?h35⟩) ?_;case h35=>(intro w hSw;(try dsimp only at hSw);go_simp;try with_reducible rfl)
   try simp only[Act.put,zx2]
   refine wpAnyH_ready (rs:=[4,14]) (by kernel_rfl) (by simp) ?_;refine AllReadyH.cons rfl (λKz hKz=>?_) ?_;go_simp;refine hKz.out _ _ ?_ (λh9=>?_)
   . (try dsimp only);(first|(with_reducible (refine⟨?_,?_,?_,?_⟩ <;> repeat (first|assumption|refine zg ?_|refine zj _ ?_|refine zk (by omega) ?_)))|go_keep)
   clear hKz Kz hHeld;have hHeld:=h9;try simp only[Act.put,zx2]
   refine wpAnyH_ready (rs:=[14]) (by kernel_rfl) (by simp) ?_;refine AllReadyH.cons rfl (λKz hKz=>?_) ?_;go_simp;refine hKz.out _ _ ?_ (λh9=>?_)
   . (try dsimp only);(first|(with_reducible (refine⟨?_,?_,?_,?_⟩ <;> repeat (first|assumption|refine zg ?_|refine zj _ ?_|refine zk (by omega) ?_)))|go_keep)
   clear hKz Kz hHeld;have hHeld:=h9;try simp only[Act.put,zx2]
   refine wpAnyH_ready (rs:=[15]) (by kernel_rfl) (by simp) ?_;refine AllReadyH.cons rfl (λKz hKz=>?_) ?_
   ((refine ze4 _ rfl (.tmp 43) (.tmp 53) 124 rfl B 206 j0 _ 4 32 underlying124 hj hj0 hj1 hj2 rfl (by decide) (.slice xl ls.length cpl) ls.length xs rfl (zbM Hrow (λk' _ hk' _=>Below.heap_alloc _ _ _ hk')) (xD wc.heap.size 0) 1 1 [xI (K.cells.length:Int),xP u1,xI (k.1:Nat),xI (k.2:Nat)] rfl rfl (zN (zc wc _) rfl) zqE mx2 by2 (by simp;omega) ?_;intro v' w9 Hown9 hgrow Hnew9;obtain⟨x9,cp9,rfl⟩:=zeR Hown9;have HF9:=(Fr.of_grown hgrow).undrew;have hk9:=(HF9.block qb (by simp;omega) (λH=>(Hbl _ H).2.2.2 rfl)).trans ((Below.heap_alloc _ _ _ mz).trans HX1.o.wl.wi.qi.blk);obtain⟨q0,q1,q2,q3,q4,qf,qz⟩:=zcf hk9;have d5:=(World.cell?_of_block (w:=wc) (a:=(xD b 5)) ((HF9.block b (by simp;omega) (λH=>(Hbl _ H).1 rfl)).trans (Below.heap_alloc _ _ _ tz))).trans t5;have f1:=(World.cell?_of_block (w:=wc) (a:=(xD g 1)) ((HF9.block g (by simp;omega) (λH=>(Hbl _ H).2.1 rfl)).trans (Below.heap_alloc _ _ _ (by omega)))).trans He1;have y0:=(World.cell?_of_block (w:=wc) (a:=(xD w.heap.size 0)) ((HF9.block w.heap.size (by simp;omega) (λH=>(Hbl _ H).2.2.1 rfl)).trans (Below.heap_alloc _ _ _ zz))).trans z0;have y1:=(World.cell?_of_block (w:=wc) (a:=(xD w.heap.size 1)) ((HF9.block w.heap.size (by simp;omega) (λH=>(Hbl _ H).2.2.1 rfl)).trans (Below.heap_alloc _ _ _ zz))).trans z1))
   refine hKz.out _ _ ?_ (λh9=>?_)
   . (try dsimp only);(first|(with_reducible (refine⟨?_,?_,?_,?_⟩ <;> repeat (first|assumption|refine zg ?_|refine zj _ ?_|refine zk (by omega) ?_)))|go_keep)
   clear hKz Kz hHeld;have hHeld:=h9;try simp only[Act.put,zx2]
   refine tkA 16 rfl (v:=?v36) (Or.inl ⟨by rfl,?h36⟩) ?_;case h36=>(intro w hSw;(try dsimp only at hSw);go_simp;try with_reducible rfl)
   try simp only[Act.put,zx2]
   refine tkA 17 rfl (v:=?v37) (Or.inl ⟨by rfl,?h37⟩) ?_;case h37=>(intro w hSw;(try dsimp only at hSw);go_simp;try with_reducible rfl)
   try simp only[Act.put,zx2]
   refine wpAnyH_ready (rs:=[18]) (by kernel_rfl) (by simp) ?_;refine AllReadyH.cons rfl (λKz hKz=>?_) ?_;go_simp;refine hKz.out _ _ ?_ (λh9=>?_)
   . (try dsimp only);(first|(with_reducible (refine⟨?_,?_,?_,?_⟩ <;> repeat (first|assumption|refine zg ?_|refine zj _ ?_|refine zk (by omega) ?_)))|go_keep)
   clear hKz Kz hHeld;have hHeld:=h9;try simp only[Act.put,zx2]
   refine wpAnyH_done (by kernel_rfl) ?_ _;rotate_left;exact AllReadyH.nil;exact AllReadyH.nil;exact AllReadyH.nil;refine AllReadyH.cons rfl (λKz hKz=>?_) ?_;go_simp;refine hKz.out _ _ ?_ (λh9=>?_)
   . (try dsimp only);(first|(with_reducible (refine⟨?_,?_,?_,?_⟩ <;> repeat (first|assumption|refine zg ?_|refine zj _ ?_|refine zk (by omega) ?_)))|go_keep)
   clear hKz Kz hHeld;have hHeld:=h9;try simp only[Act.put,zx2]
   refine wpAnyH_ready (rs:=[4]) (by kernel_rfl) (by simp) ?_;refine AllReadyH.cons rfl (λKz hKz=>?_) ?_;go_simp;refine hKz.out _ _ ?_ (λh9=>?_)
   . (try dsimp only);(first|(with_reducible (refine⟨?_,?_,?_,?_⟩ <;> repeat (first|assumption|refine zg ?_|refine zj _ ?_|refine zk (by omega) ?_)))|go_keep)
   clear hKz Kz hHeld;have hHeld:=h9;try simp only[Act.put,zx2]
   refine wpAnyH_ready (rs:=[15]) (by kernel_rfl) (by simp) ?_;refine AllReadyH.cons rfl (λKz hKz=>?_) ?_
   ((refine ze4 _ rfl (.tmp 43) (.tmp 53) 124 rfl B 206 j0 _ 4 32 underlying124 hj hj0 hj1 hj2 rfl (by decide) (.slice xl ls.length cpl) ls.length xs rfl (zbM Hrow (λk' _ hk' _=>Below.heap_alloc _ _ _ hk')) (xD wc.heap.size 0) 1 1 [xI (K.cells.length:Int),xP u1,xI (k.1:Nat),xI (k.2:Nat)] rfl rfl (zN (zc wc _) rfl) zqE mx2 by2 (by simp;omega) ?_;intro v' w9 Hown9 hgrow Hnew9;obtain⟨x9,cp9,rfl⟩:=zeR Hown9;have HF9:=(Fr.of_grown hgrow).undrew;have hk9:=(HF9.block qb (by simp;omega) (λH=>(Hbl _ H).2.2.2 rfl)).trans ((Below.heap_alloc _ _ _ mz).trans HX1.o.wl.wi.qi.blk);obtain⟨q0,q1,q2,q3,q4,qf,qz⟩:=zcf hk9;have d5:=(World.cell?_of_block (w:=wc) (a:=(xD b 5)) ((HF9.block b (by simp;omega) (λH=>(Hbl _ H).1 rfl)).trans (Below.heap_alloc _ _ _ tz))).trans t5;have f1:=(World.cell?_of_block (w:=wc) (a:=(xD g 1)) ((HF9.block g (by simp;omega) (λH=>(Hbl _ H).2.1 rfl)).trans (Below.heap_alloc _ _ _ (by omega)))).trans He1;have y0:=(World.cell?_of_block (w:=wc) (a:=(xD w.heap.size 0)) ((HF9.block w.heap.size (by simp;omega) (λH=>(Hbl _ H).2.2.1 rfl)).trans (Below.heap_alloc _ _ _ zz))).trans z0;have y1:=(World.cell?_of_block (w:=wc) (a:=(xD w.heap.size 1)) ((HF9.block w.heap.size (by simp;omega) (λH=>(Hbl _ H).2.2.1 rfl)).trans (Below.heap_alloc _ _ _ zz))).trans z1))
   refine hKz.out _ _ ?_ (λh9=>?_)
   . (try dsimp only);(first|(with_reducible (refine⟨?_,?_,?_,?_⟩ <;> repeat (first|assumption|refine zg ?_|refine zj _ ?_|refine zk (by omega) ?_)))|go_keep)
   clear hKz Kz hHeld;have hHeld:=h9;try simp only[Act.put,zx2]
   refine tkA 16 rfl (v:=?v38) (Or.inl ⟨by rfl,?h38⟩) ?_;case h38=>(intro w hSw;(try dsimp only at hSw);go_simp;try with_reducible rfl)
   try simp only[Act.put,zx2]
   refine tkA 17 rfl (v:=?v39) (Or.inl ⟨by rfl,?h39⟩) ?_;case h39=>(intro w hSw;(try dsimp only at hSw);go_simp;try with_reducible rfl)
   try simp only[Act.put,zx2]
   refine wpAnyH_ready (rs:=[18]) (by kernel_rfl) (by simp) ?_;refine AllReadyH.cons rfl (λKz hKz=>?_) ?_;go_simp;refine hKz.out _ _ ?_ (λh9=>?_)
   . (try dsimp only);(first|(with_reducible (refine⟨?_,?_,?_,?_⟩ <;> repeat (first|assumption|refine zg ?_|refine zj _ ?_|refine zk (by omega) ?_)))|go_keep)
   clear hKz Kz hHeld;have hHeld:=h9;try simp only[Act.put,zx2]
   refine wpAnyH_done (by kernel_rfl) ?_ _;rotate_left;exact AllReadyH.nil;exact AllReadyH.nil;exact AllReadyH.nil;exact AllReadyH.nil;all_goals refine NoPanic.normal ?_
   all_goals go_wp2_with fail
   all_goals go_meet
   all_goals have hC:=HX1.o.wl.put ⟨K.cells.length,a1,k⟩ (xP u1) HT1'.o HF9 xs Hlts Hown9 (λk' e=>(Hnew9 k' e).imp id (λH=>by have h':(wc.alloc (.cells #[xI (K.cells.length:Int),xP u1,xI (k.1:Nat),xI (k.2:Nat)] 206)).heap.size<=k':=H;rw[zsb] at h';exact h'))
   all_goals exact⟨_,HX1.o.stepL hC.1 hC.2⟩
  case rest => obtain⟨lv',HX2⟩:=hcut;go_wp2_with (go_at_call 56;refine (HX2.o.add 3 (K.cells.length:Int) hr).mono ?_;rintro e w3 ⟨rfl,HX3⟩);go_end0;rw[<- HKf];exact⟨rfl,⟨_,HX3.wl⟩,HX3.ft⟩
end
section
variable {ns:List Nod} {N:Nat}
attribute [local go_sem ↓] Go.wp_at_zero Go.wp_at_succ
theorem NL.ne {w:World}{gv:Value}{xs:List Value}(h:NL w N ns gv xs):NE w N ns gv:=by
 have hc:=h.own;rcases h.own.2 with ⟨h1,h2⟩|⟨g,cap,cur,hv,_,_,h3,h4,_⟩
 . exact⟨none,0,by rw[h1,h2],by omega,by omega,λhne=>absurd (List.length_eq_zero_iff.1 h2) hne⟩
 . subst hv;refine⟨some (xD g 0),cap,rfl,h3,by unfold maxLen at h4;omega,λ_=>⟨g,rfl,h.lo g rfl,λi n hi=>?_⟩⟩;obtain⟨u,hu,hnp⟩:=h.at' i n hi;have:=hc.cells (g:=g) rfl i u hu;have e0:((xD g 0):Addr).add i=⟨g,i,none⟩:=by cases i <;> simp[Addr.add]
   rw[e0] at this;exact⟨u,this,hnp⟩
theorem zh3 {pv:Value}(k:Nat)(n:Nod)(w:World)(h:PT w N ns pv)(hN:N<=w.heap.size)(hk:ns[k]?=some n) :
 xK 55 #[pv,xI k] w (λe w'=>∃x cp nb,e=.returned (.agg #[.slice x k cp,xP nb])/\ScV w' N ⟨ns.take k,n⟩ (.slice x k cp) (xP nb)/\xB w w'):=by
 obtain⟨gb,gv,xs,rfl,hgb,hg,hl⟩:=h;have hlt:=(List.getElem?_eq_some_iff.1 hk).1;have hE:=hl.ne;have h6:=hl.few;obtain⟨x,cp,rfl,hcp,hmx,hin⟩:=hl.ne;obtain⟨g,rfl,hgN,hat⟩:=hin (by intro e;rw[e] at hlt;simp at hlt);obtain⟨u,hu,hnp⟩:=hat k n hk;have HNP:=za hnp;have HE:=za (hE.take hlt);obtain⟨nb,vs,qv,xs',rfl,hnt⟩:=hnp;obtain⟨p0,pf,pz⟩:=zu hg;have i1:(k:Int)<=(cp:Int):=by omega
 have i0:(0:Int)<=(k:Int):=by omega
 have i2:(k:Int)<(ns.length:Int):=by omega
 have hgw:g<w.heap.size:=by omega
 clear hE hin hat hnt hl hg hk;go_enter func55,ntmps55;go_wp2_with fail;refine zn (λW=>W=w.alloc (.cells #[.slice none 0 0,.pointer none] 114 (0,0))/\True) ⟨rfl,trivial⟩ ?_;rintro W ⟨hW,_⟩;have HW:=za (hW▸zq w (.cells #[.slice none 0 0,.pointer none] 114 (0,0)):xB w W);obtain⟨r0,r1,rf,rz⟩:=zp (hW▸zc w (.cells #[.slice none 0 0,.pointer none] 114 (0,0)):W.heap[w.heap.size]?=_);have s0:=zd HW.o p0 pz;have s1:=zd HW.o hu hgw;have hn1:¬w.heap.size=gb:=by omega
 have hn2:¬w.heap.size=g:=by omega
 have hn3:¬gb=w.heap.size:=by omega
 have hn4:¬g=w.heap.size:=by omega
 clear hW p0 hu;go_region_held3 (λw'=>w'.cell? (xD gb 0)=some (xS g ns.length cp)/\w'.cell? (xD g k)=some (xP nb)) (go_keep) (fail);go_wp2_with fail;have hBn:=zo (zC (i:=1) (zC (b:=w.heap.size) (i:=0) HW.o (Nat.le_refl _) (xS g k cp)) (b:=w.heap.size) (Nat.le_refl _) (xP nb));refine bodyPost_ret (v:=.agg #[xS g k cp,xP nb]) (by simp[results,results55,go_sem,r0,r1]) rfl ⟨_,_,_,rfl,?_,hBn⟩;exact⟨HE.o.old (zm hBn hN),HNP.o.old (zm hBn hN)⟩
end
end Go.Proofs.YtbicmofihhjgbaaGreatDoor
