/- Part 8. -/
import Derived.Deep.DrawnRows
import Derived.LaidEqlPtr
import Derived.Maps.OwnSet
import Derived.Test.YtenadialhccdiaaGreatDoorK06
set_option maxRecDepth 100000
set_option maxHeartbeats 8000000
namespace Go.Proofs.YtenadialhccdiaaGreatDoor
open Go.Proofs.Tryz
open Go.RowKit
section
attribute [local go_sem ↓] Go.wp_at_zero Go.wp_at_succ
theorem zpU (mb cb b1 b2 B:Nat)(sv:Xv)(cells slots st:List Int)(k:Nat)(old:Int)(Hk:cells[k]?=some old)(v c:Int)(w:Xw)(HM:MB w mb cb b1 b2 B sv cells slots (v::c::st))(hm:st.length+10<=10000000) :
 xK 39 #[xP mb,.agg #[.int .u8 4,xI k]] w (zcM mb cb b1 b2 B w sv (cells.set k (pk c v old)) slots st):=by
 obtain⟨h0,h1,h2,h3,hf,hz⟩:=zU HM.blk;obtain⟨_,hl1,hl2,_⟩:=HM.lt;have hlt:=(zMJ.1 Hk).1;have hk0:(0:Int)<=(k:Int):=by omega
 have hk8:(k:Int)<(cells.length:Int):=by omega
 have n1':¬mb=b1:=HM.ne1;have n1'':¬b1=mb:=λe=>HM.ne1 e.symm;have n2':¬w.heap.size=b1:=by omega
 have n2'':¬b1=w.heap.size:=by omega
 go_enter func39,ntmps39;go_upto_region 14 with ((go_at_call 74;refine (za6 mb cb b1 b2 B sv cells slots (c::st) v _ (HM.alloc _) (by simp;omega)).mono ?_;rintro e w1 ⟨rfl,sv1,HM1,HG1⟩;obtain⟨p1,q1,r1,s1,f1,z1⟩:=zU HM1.blk;have HF1:=za HG1.ofAlloc;obtain⟨u1,v1,y1,x1⟩:=zp (HM.box HG1)));have t1:=zbT HM1.ce Hk;refine wp_region_noPanic ?_;refine wp_region_held_drew (S:=(λw'=>w'.cell? (xD mb 1)=some (xS b1 cells.length cells.length)/\w'.cell? (xD w.heap.size 1)=some (xI k))) (by kernel_rfl) ?_ (λhHeld=>?_)
 . (try dsimp only);(go_keep)
 refine tkA 0 rfl (v:=?v1) (zM3 ⟨by rfl,?h1⟩) ?_;case h1=>(intro w hSw;(try dsimp only at hSw);go_simp;try with_reducible rfl)
 try simp only[Act.put,zx2]
 refine tkA 1 rfl (v:=?v2) (zM3 ⟨by rfl,?h2⟩) ?_;case h2=>(intro w hSw;(try dsimp only at hSw);go_simp;try with_reducible rfl)
 try simp only[Act.put,zx2]
 refine tkA 2 rfl (v:=?v3) (zM3 ⟨by rfl,?h3⟩) ?_;case h3=>(intro w hSw;(try dsimp only at hSw);go_simp;try with_reducible rfl)
 try simp only[Act.put,zx2]
 refine tkA 3 rfl (v:=?v4) (zM3 ⟨by rfl,?h4⟩) ?_;case h4=>(intro w hSw;(try dsimp only at hSw);go_simp;try with_reducible rfl)
 try simp only[Act.put,zx2]
 refine tkA 4 rfl (v:=?v5) (zM3 ⟨by rfl,?h5⟩) ?_;case h5=>(intro w hSw;(try dsimp only at hSw);go_simp;try with_reducible rfl)
 try simp only[Act.put,zx2]
 refine tkA 5 rfl (v:=?v6) (zM3 ⟨by rfl,?h6⟩) ?_;case h6=>(intro w hSw;(try dsimp only at hSw);go_simp;try with_reducible rfl)
 try simp only[Act.put,zx2]
 refine tkA 6 rfl (v:=?v7) (zM3 ⟨by rfl,?h7⟩) ?_;case h7=>(intro w hSw;(try dsimp only at hSw);go_simp;try with_reducible rfl)
 try simp only[Act.put,zx2]
 refine tkA 8 rfl (v:=?v8) (zM3 ⟨by rfl,?h8⟩) ?_;case h8=>(intro w hSw;(try dsimp only at hSw);go_simp;try with_reducible rfl)
 try simp only[Act.put,zx2]
 refine tkA 9 rfl (v:=?v9) (zM3 ⟨by rfl,?h9⟩) ?_;case h9=>(intro w hSw;(try dsimp only at hSw);go_simp;try with_reducible rfl)
 try simp only[Act.put,zx2]
 refine tkA 10 rfl (v:=?v10) (zM3 ⟨by rfl,?h10⟩) ?_;case h10=>(intro w hSw;(try dsimp only at hSw);go_simp;try with_reducible rfl)
 try simp only[Act.put,zx2]
 refine tkA 11 rfl (v:=?v11) (zM3 ⟨by rfl,?h11⟩) ?_;case h11=>(intro w hSw;(try dsimp only at hSw);go_simp;try with_reducible rfl)
 try simp only[Act.put,zx2]
 refine tkA 12 rfl (v:=?v12) (zM3 ⟨by rfl,?h12⟩) ?_;case h12=>(intro w hSw;(try dsimp only at hSw);go_simp;try with_reducible rfl)
 try simp only[Act.put,zx2]
 refine tkA 13 rfl (v:=?v13) (zM3 ⟨by rfl,?h13⟩) ?_;case h13=>(intro w hSw;(try dsimp only at hSw);go_simp;try with_reducible rfl)
 try simp only[Act.put,zx2]
 refine tkA 14 rfl (v:=?v14) (zM3 ⟨by rfl,?h14⟩) ?_;case h14=>(intro w hSw;(try dsimp only at hSw);go_simp;try with_reducible rfl)
 try simp only[Act.put,zx2]
 refine tkA 15 rfl (v:=?v15) (zM3 ⟨by rfl,?h15⟩) ?_;case h15=>(intro w hSw;(try dsimp only at hSw);go_simp;try with_reducible rfl)
 try simp only[Act.put,zx2]
 refine wpAnyH_ready (rs:=[7,16]) (by kernel_rfl) (by simp) ?_;refine AllReadyH.cons rfl (λK hK=>?_) ?_;go_simp;first|go_at_K|((first|(go_at_call 75;refine (zdy _ _ _ _).mono ?_;rintro e w9 ⟨rfl,rfl⟩)|(go_at_call 74;refine (za6 mb cb b1 b2 B sv1 cells slots st c _ HM1.drew (by omega)).mono ?_;rintro e w2 ⟨rfl,sv2,HM2,HF2⟩;obtain⟨q0,q1,q2,q3,qf,qz⟩:=zU HM2.blk;obtain⟨n0,n1,nf,nz⟩:=zp (HM.box (HG1.trans HF2.undrew));have t2:=zai HM2.ce;have t3:=zbT HM2.ce Hk));first|go_at_K|go_wp2_with fail)
 refine hK.out _ _ ?_ (λh9=>?_)
 . (try dsimp only);(go_keep)
 clear hK K hHeld;have hHeld:=h9;try simp only[Act.put,zx2]
 refine wpAnyH_ready (rs:=[16]) (by kernel_rfl) (by simp) ?_;refine AllReadyH.cons rfl (λK hK=>?_) ?_;go_simp;refine hK.out _ _ ?_ (λh9=>?_)
 . (try dsimp only);(go_keep)
 clear hK K hHeld;have hHeld:=h9;try simp only[Act.put,zx2]
 refine wpAnyH_ready (rs:=[17]) (by kernel_rfl) (by simp) ?_;refine AllReadyH.cons rfl (λK hK=>?_) ?_;go_simp;first|go_at_K|((first|(go_at_call 75;refine (zdy _ _ _ _).mono ?_;rintro e w9 ⟨rfl,rfl⟩)|(go_at_call 74;refine (za6 mb cb b1 b2 B sv1 cells slots st c _ HM1.drew (by omega)).mono ?_;rintro e w2 ⟨rfl,sv2,HM2,HF2⟩;obtain⟨q0,q1,q2,q3,qf,qz⟩:=zU HM2.blk;obtain⟨n0,n1,nf,nz⟩:=zp (HM.box (HG1.trans HF2.undrew));have t2:=zai HM2.ce;have t3:=zbT HM2.ce Hk));first|go_at_K|go_wp2_with fail)
 refine hK.out _ _ ?_ (λh9=>?_)
 . (try dsimp only);(go_keep)
 clear hK K hHeld;have hHeld:=h9;try simp only[Act.put,zx2]
 refine tkA 18 rfl (v:=?v16) (zM3 ⟨by rfl,?h16⟩) ?_;case h16=>(intro w hSw;(try dsimp only at hSw);go_simp;try with_reducible rfl)
 try simp only[Act.put,zx2]
 refine wpAnyH_ready (rs:=[19]) (by kernel_rfl) (by simp) ?_;refine AllReadyH.cons rfl (λK hK=>?_) ?_;go_simp;refine hK.out _ _ ?_ (λh9=>?_)
 . (try dsimp only);(go_keep)
 clear hK K hHeld;have hHeld:=h9;try simp only[Act.put,zx2]
 refine wpAnyH_done (by kernel_rfl) ?_ _;rotate_left;exact AllReadyH.nil;exact AllReadyH.nil;exact AllReadyH.nil;refine AllReadyH.cons rfl (λK hK=>?_) ?_;go_simp;refine hK.out _ _ ?_ (λh9=>?_)
 . (try dsimp only);(go_keep)
 clear hK K hHeld;have hHeld:=h9;try simp only[Act.put,zx2]
 refine wpAnyH_ready (rs:=[7]) (by kernel_rfl) (by simp) ?_;refine AllReadyH.cons rfl (λK hK=>?_) ?_;go_simp;first|go_at_K|((first|(go_at_call 75;refine (zdy _ _ _ _).mono ?_;rintro e w9 ⟨rfl,rfl⟩)|(go_at_call 74;refine (za6 mb cb b1 b2 B sv1 cells slots st c _ HM1.drew (by omega)).mono ?_;rintro e w2 ⟨rfl,sv2,HM2,HF2⟩;obtain⟨q0,q1,q2,q3,qf,qz⟩:=zU HM2.blk;obtain⟨n0,n1,nf,nz⟩:=zp (HM.box (HG1.trans HF2.undrew));have t2:=zai HM2.ce;have t3:=zbT HM2.ce Hk));first|go_at_K|go_wp2_with fail)
 refine hK.out _ _ ?_ (λh9=>?_)
 . (try dsimp only);(go_keep)
 clear hK K hHeld;have hHeld:=h9;try simp only[Act.put,zx2]
 refine wpAnyH_ready (rs:=[17]) (by kernel_rfl) (by simp) ?_;refine AllReadyH.cons rfl (λK hK=>?_) ?_;go_simp;first|go_at_K|((first|(go_at_call 75;refine (zdy _ _ _ _).mono ?_;rintro e w9 ⟨rfl,rfl⟩)|(go_at_call 74;refine (za6 mb cb b1 b2 B sv1 cells slots st c _ HM1.drew (by omega)).mono ?_;rintro e w2 ⟨rfl,sv2,HM2,HF2⟩;obtain⟨q0,q1,q2,q3,qf,qz⟩:=zU HM2.blk;obtain⟨n0,n1,nf,nz⟩:=zp (HM.box (HG1.trans HF2.undrew));have t2:=zai HM2.ce;have t3:=zbT HM2.ce Hk));first|go_at_K|go_wp2_with fail)
 refine hK.out _ _ ?_ (λh9=>?_)
 . (try dsimp only);(go_keep)
 clear hK K hHeld;have hHeld:=h9;try simp only[Act.put,zx2]
 refine tkA 18 rfl (v:=?v17) (zM3 ⟨by rfl,?h17⟩) ?_;case h17=>(intro w hSw;(try dsimp only at hSw);go_simp;try with_reducible rfl)
 try simp only[Act.put,zx2]
 refine wpAnyH_ready (rs:=[19]) (by kernel_rfl) (by simp) ?_;refine AllReadyH.cons rfl (λK hK=>?_) ?_;go_simp;refine hK.out _ _ ?_ (λh9=>?_)
 . (try dsimp only);(go_keep)
 clear hK K hHeld;have hHeld:=h9;try simp only[Act.put,zx2]
 refine wpAnyH_done (by kernel_rfl) ?_ _;rotate_left;exact AllReadyH.nil;exact AllReadyH.nil;exact AllReadyH.nil;exact AllReadyH.nil;all_goals refine NoPanic.normal ?_
 all_goals go_wp2_with fail
 all_goals go_end0
 all_goals exact⟨rfl,_,HM2.cell k _,(HF1.o.trans HF2.undrew).cell k _⟩
end
section
variable {cells slots st:List Int} {xs:Xm} {B b1 b2 cb mb n:Nat} {e:Xy} {sv:Xv} {w w':Xw}
attribute [local go_sem ↓] Go.wp_at_zero Go.wp_at_succ
structure Cd where
 bools:List Bool
 outs:Nat
 slots:Nat
 cells:List Int
 depth:Nat
 row:List (Nat×Int)
def zbs (l:List (Nat×Int)):List Value:=l.flatMap λi=>[.int .u8 i.1,xI i.2]
theorem zgC (l:List (Nat×Int)):(zbs l).length=l.length*2:=by
 induction l with
 | nil=>rfl
 | cons a l ih=>show (_::_::zbs l).length=_;simp[ih];omega
theorem zkl:∀(l:List (Nat×Int)) (k:Nat) (i:Nat×Int),l[k]?=some i->(zbs l)[k*2]?=some (.int .u8 i.1)/\(zbs l)[k*2+1]?=some (xI i.2):=by
 intro l;induction l with
 | nil=>intro k i h;simp at h
 | cons a l ih =>
   intro k i h;have e:zbs (a::l)=.int .u8 a.1::(xI a.2)::zbs l:=rfl;cases k with
   | zero=>simp at h;subst h;simp[e]
   | succ k => simp at h;obtain⟨h1,h2⟩:=ih k i h;rw[e,show (k+1)*2=k*2+1+1 by omega,show k*2+1+1+1=(k*2+1)+1+1 by omega];simp[h1,h2]
structure CB (w:Xw) (N cb:Nat) (bv cv rv:Xv) (c:Cd):Prop where
 blk:xH w cb #[bv,xI c.outs,xI c.slots,cv,xI c.depth,rv] 66
 bown:w.ownsRow 0 4 1 bv c.bools.length (c.bools.map .bool)
 cown:w.ownsRow 0 2 1 cv c.cells.length (zK c.cells)
 rown:w.ownsRow 0 71 2 rv c.row.length (zbs c.row)
 h0:cb<N
 h1:∀k,bv.ownBlock=some k->k<N
 h2:∀k,cv.ownBlock=some k->k<N
 h3:∀k,rv.ownBlock=some k->k<N
 outsB:c.bools.length+c.outs<=c.slots
 slotsB:c.slots<=255
 cellsB:c.cells.length<=255
 depthB:c.depth<=3145728
 rowB:c.row.length<=1048576
theorem CB.old {N:Nat}{bv cv rv:Xv}{c:Cd}(h:CB w N cb bv cv rv c)(ho:Old N w w'):CB w' N cb bv cv rv c :=
 ⟨(ho _ h.h0).trans h.blk,zi h.bown (λk _ _ e=>ho k (h.h1 k e)),zi h.cown (λk _ _ e=>ho k (h.h2 k e)),zi h.rown (λk _ _ e=>ho k (h.h3 k e)),h.h0,h.h1,h.h2,h.h3,h.outsB,h.slotsB,h.cellsB,h.depthB,h.rowB⟩
structure Mc (w:Xw) (N mb cb b1 b2:Nat) (bv cv rv sv:Xv) (c:Cd) (cells slots st:List Int):Prop where
 code:CB w N cb bv cv rv c
 mem:MB w mb cb b1 b2 N sv cells slots st
 n0:N<=mb
 n1:N<=b1
 n2:N<=b2
 lc:cells.length=c.cells.length
 ls:slots.length=c.slots
theorem zB {size:Nat}{vs:Xv}(h:w.ownsRow B e size vs n xs):∃x cp,vs=.slice x n cp:=by
 rcases h.2 with ⟨h1,h2⟩|⟨g,cap,cur,h1,_⟩
 . exact⟨none,0,by rw[h1,h2]⟩
 exact⟨_,cap,h1⟩
theorem zec (mb cb:Nat)(N:Nat)(c1 c2 c3 bv cv rv:Xv)(c:Cd)(w:Xw)(hb:xH w mb #[xP cb,c1,c2,c3] 114)(h:CB w N cb bv cv rv c) :
 xK 41 #[xP mb] w (λe w'=>e=.returned (xI c.bools.length)/\w=w'):=by
 obtain⟨h0,h1,h2,h3,hf,hz⟩:=zU hb;obtain⟨k0,k1,k2,k3,k4,k5,kf,kz⟩:=zt h.blk;obtain⟨x,cp,rfl⟩:=zB h.bown;clear h hb;go_enter func41,ntmps41;go_wp2_with fail;go_ret;exact⟨rfl,rfl⟩
theorem zjL (mb cb:Nat)(N:Nat)(c1 c2 c3 bv cv rv:Xv)(c:Cd)(w:Xw)(hb:xH w mb #[xP cb,c1,c2,c3] 114)(h:CB w N cb bv cv rv c) :
 xK 40 #[xP mb] w (λe w'=>e=.returned (xI c.outs)/\w=w'):=by
 obtain⟨h0,h1,h2,h3,hf,hz⟩:=zU hb;obtain⟨k0,k1,k2,k3,k4,k5,kf,kz⟩:=zt h.blk;clear h hb;go_enter func40,ntmps40;go_wp2_with fail;go_ret;exact⟨rfl,rfl⟩
theorem Tryz.i64size:(prog.info? 2).map (·.size)=some 1:=by kernel_rfl
theorem zp0 {x:Xp}{cp:Nat}(h:w.ownsRow B e 1 (.slice x n cp) n xs):0<xs.length->∃ad,x=some ad/\∀j v,xs[j]?=some v->w.cell? (ad.add j)=some v:=by
 intro hp;have hl:xs.length=n:=by simpa using h.1
 obtain⟨g,cap,hv,_⟩:=zM h (by omega);cases hv;exact⟨_,rfl,λj v hj=>h.cells (g:=g) rfl j v hj⟩
theorem MB.cells' {cells':List Int}(h:MB w mb cb b1 b2 B sv cells slots st)(hl:cells'.length=cells.length)(hg:w'.heap[b1]?=some (.cells (zK cells').toArray 2 (0,0)))(hf:Fr (·=b1) w w'):MB w' mb cb b1 b2 B sv cells' slots st :=
 ⟨by rw[hl];exact (hf.block mb (ze h.blk) h.ne1).trans h.blk,hg,(hf.block b2 (ze h.sl) (λe=>h.ne3 e.symm)).trans h.sl,zi h.own (λk _ hk e=>hf.block k hk (λe'=>h.s1 (e'▸e))),h.ne1,h.ne2,h.ne3,h.sm,h.s1,h.s2,zMO h.hB hf.size⟩
theorem MB.slots' {slots':List Int}(h:MB w mb cb b1 b2 B sv cells slots st)(hl:slots'.length=slots.length)(hg:w'.heap[b2]?=some (.cells (zK slots').toArray 2 (0,0)))(hf:Fr (·=b2) w w'):MB w' mb cb b1 b2 B sv cells slots' st :=
 ⟨by rw[hl];exact (hf.block mb (ze h.blk) h.ne2).trans h.blk,(hf.block b1 (ze h.ce) h.ne3).trans h.ce,hg,zi h.own (λk _ hk e=>hf.block k hk (λe'=>h.s2 (e'▸e))),h.ne1,h.ne2,h.ne3,h.sm,h.s1,h.s2,zMO h.hB hf.size⟩
theorem zm3 (N mb cb b1 b2:Nat)(bv cv rv sv:Xv)(c:Cd)(cells slots st:List Int)(w:Xw)(H:Mc w N mb cb b1 b2 bv cv rv sv c cells slots st) :
 xK 37 #[xP mb] w (λe w'=>e=.returned (.tuple #[])/\Mc w' N mb cb b1 b2 bv cv rv sv c c.cells slots st/\Fr (·=b1) w w'):=by
 obtain⟨h0,h1,h2,h3,hf,hz⟩:=zU H.mem.blk;obtain⟨k0,k1,k2,k3,k4,k5,kf,kz⟩:=zt H.code.blk;obtain⟨x,cp,rfl⟩:=zB H.code.cown;have hlc:=H.lc;have Hs:=za (zp0 H.code.cown);have Hu:=underlying22;have Hz1:=Tryz.i64size;rw[hlc] at h1;go_enter func37,ntmps37
 go_region_held3 (λw'=>w'.cell? (xD mb 0)=some (xP cb)/\w'.cell? (xD mb 1)=some (xS b1 c.cells.length c.cells.length)/\w'.cell? (xD cb 3)=some (.slice x c.cells.length cp)) (first|go_keep|(refine⟨?_,?_,?_⟩ <;> first|exact (HM.o).1|exact HM.o.2.1|exact HM.o.2.2))
  ((refine zmi rfl (.tmp 5) (.tmp 12) 22 22 (by rfl) 2 Hu Hz1 b1 c.cells.length c.cells.length x c.cells.length cp (by rfl) (by rfl) (zK cells) 2 H.mem.ce (zK c.cells) (by simp[zK]) Hs.o (by simp[zK,hlc]) zfs ?_;intro w1 HG1 HF1;have HM:Hid (w1.cell? (xD mb 0)=some (xP cb)/\w1.cell? (xD mb 1)=some (xS b1 c.cells.length c.cells.length)/\w1.cell? (xD cb 3)=some (.slice x c.cells.length cp)):=⟨(zWS (w:=w) (HF1.block mb hz H.mem.ne1)).trans h0,(zWS (w:=w) (HF1.block mb hz H.mem.ne1)).trans h1,(zWS (w:=w) (HF1.block cb kz (by have:=H.n1;have:=H.code.h0;omega))).trans k3⟩))
 all_goals go_wp2_with fail
 all_goals go_end0
 all_goals
  have hfr:Fr (·=b1) w w1:=HF1.undrew;refine⟨rfl,⟨H.code.old (hfr.old (zMO H.n1 (Nat.le_of_lt H.mem.lt.2.1)) (λk e=>e▸H.n1)),H.mem.cells' (by rw[hlc]) ?_ hfr,H.n0,H.n1,H.n2,rfl,H.ls⟩,hfr⟩;have:=HG1;rwa [List.drop_eq_nil_of_le (by simp[zK,hlc]),List.append_nil] at this
end
section
variable {nc ns:Nat}
structure Ms where
 cells:List Int
 slots:List Int
 st:List Int
def doM (m:Ms)(i:Nat×Int):Ms :=
 match i.1,m.st with
 | 0,st=>{ m with st:=i.2::st }
 | 1,st=>{ m with st:=m.slots.getD i.2.toNat 0::st }
 | 2,v::st=>{ m with slots:=m.slots.set i.2.toNat v,st:=st }
 | 3,st=>{ m with st:=m.cells.getD i.2.toNat 0::st }
 | 4,v::c::st=>{ m with cells:=m.cells.set i.2.toNat (pk c v (m.cells.getD i.2.toNat 0)),st:=st }
 | 5,no::yes::c::st=>{ m with st:=pk c yes no::st }
 | 6,no::yes::st=>{ m with st:=pk (m.slots.getD i.2.toNat 0) yes no::st }
 | 7,v::st=>{ m with st:=wrap64 (-v)::st }
 | 8,v::st=>{ m with st:=tru (v==0)::st }
 | op,b::a::st=>{ m with st:=opR op a b::st }
 | _,_=>m
def zY:List (Nat×Nat×Nat):=[(1,0,1),(2,0,1),(2,1,0),(3,0,1),(3,2,0),(0,3,1),(2,2,1),(0,1,1),(0,1,1),(0,2,1),(0,2,1),(0,2,1),(0,2,1),(0,2,1),(0,2,1),(0,2,1),(0,2,1),(0,2,1),(0,2,1),(0,2,1),(0,2,1)]
def zgT (ns nc h:Nat)(i:Nat×Int):Option Nat :=
 match zY[i.1]? with
 | none=>none
 | some s=>if s.2.1<=h/\(s.1=2->0<=i.2/\i.2.toNat<ns)/\(s.1=3->0<=i.2/\i.2.toNat<nc) then some (h-s.2.1+s.2.2) else none
def zd9 (ns nc:Nat):Nat->List (Nat×Int)->Option Nat
 | h,[]=>some h
 | h,i::l=>match zgT ns nc h i with
   | none=>none
   | some h'=>zd9 ns nc h' l
theorem zeB {k:Nat}{s:Nat×Nat×Nat}(h:zY[k]?=some s):k<=20:=by have:=(zMJ.1 h).1;simp[zY] at this;omega
theorem zqn {h h':Nat}{m:Ms}{i:Nat×Int}(hf:zgT ns nc h i=some h')(hs:m.st.length=h):(doM m i).st.length=h'/\(doM m i).cells.length=m.cells.length/\(doM m i).slots.length=m.slots.length/\h'<=h+1:=by
 unfold zgT at hf;split at hf
 . cases hf
 rename_i s hsh
 have h20:=zeB hsh;split at hf
 . rename_i hc
   cases hf;obtain⟨op,x⟩:=i;obtain⟨cells,slots,st⟩:=m;simp only at hs hsh h20;subst hs;have:op=0∨op=1∨op=2∨op=3∨op=4∨op=5∨op=6∨op=7∨op=8∨op=9∨op=10∨op=11∨op=12∨op=13∨op=14∨op=15∨op=16∨op=17∨op=18∨op=19∨op=20:=by omega
   obtain⟨hc1,_⟩:=hc
   rcases this with rfl|rfl|rfl|rfl|rfl|rfl|rfl|rfl|rfl|rfl|rfl|rfl|rfl|rfl|rfl|rfl|rfl|rfl|rfl|rfl|rfl <;>
    (simp only[zY,List.getElem?_cons_zero,List.getElem?_cons_succ,Option.some.injEq] at hsh;subst hsh;simp only at hc1;rcases st with _|⟨a,_|⟨b,_|⟨c,st⟩⟩⟩ <;> simp_all [doM] <;> omega)
 cases hf
def zeK:List Bool->List Int->Nat->Option Nat
 | b::bs,x::xs,i=>if b=true/\x≠0/\x≠1 then some i else zeK bs xs (i+1)
 | _,_,_=>none
def zdE (bools:Xk)(l:List Int):Option Nat:=if l.length=bools.length then zeK bools l 0 else some (min l.length bools.length)
def zea (m:Ms)(l:List (Nat×Int)):Ms:=l.foldl doM m
def zdY (ns:Nat)(ins:List Int):List Int:=ins++List.replicate (ns-ins.length) 0
def zbm (c:Cd)(cells ins:List Int):Ms:=zea ⟨cells,zdY c.slots ins,[]⟩ c.row
def zcX (c:Cd)(m:Ms):List Int:=(m.slots.drop c.bools.length).take c.outs
theorem zkI:∀(l:List (Nat×Int)) (h h':Nat) (m:Ms),zd9 ns nc h l=some h'->m.st.length=h->(zea m l).st.length=h'/\(zea m l).cells.length=m.cells.length/\(zea m l).slots.length=m.slots.length:=by
 intro l;induction l with
 | nil=>intro h h' m hf hs;cases hf;exact⟨hs,rfl,rfl⟩
 | cons i l ih =>
   intro h h' m hf hs;unfold zd9 at hf;split at hf
   . cases hf
   rename_i h1 hf1
   obtain⟨a,b,c,_⟩:=zqn hf1 hs;obtain⟨d,e,f⟩:=ih h1 h' (doM m i) hf a;exact⟨d,e.trans b,f.trans c⟩
end
section
theorem zgl {l:List Int}{k:Nat}(h:k<l.length):l[k]?=some (l.getD k 0):=by rw[List.getD_eq_getElem?_getD,zsc h];rfl
theorem zdc {x:Int}(h:0<=x):((x.toNat:Nat):Int)=x:=Int.toNat_of_nonneg h
theorem zqr (mb cb b1 b2 B:Nat)(sv:Xv)(m:Ms)(i:Nat×Int)(h h':Nat)(w:Xw)(hM:MB w mb cb b1 b2 B sv m.cells m.slots m.st)(hf:zgT m.slots.length m.cells.length h i=some h')(hs:m.st.length=h)(hm:h+10<=10000000) :
 xK 39 #[xP mb,.agg #[.int .u8 i.1,xI i.2]] w (zcM mb cb b1 b2 B w sv (doM m i).cells (doM m i).slots (doM m i).st):=by
 unfold zgT at hf;split at hf
 . cases hf
 rename_i s hsh
 have h20:=zeB hsh;split at hf
 . rename_i hc
   clear hf;obtain⟨op,x⟩:=i;obtain⟨cells,slots,st⟩:=m;simp only at hs hsh h20 hM;subst hs;obtain⟨hc1,hc2,hc3⟩:=hc;simp only at hc1 hc2 hc3;by_cases h9:9<=op
   . have:s.2.1=2:=by
      have:op=9∨op=10∨op=11∨op=12∨op=13∨op=14∨op=15∨op=16∨op=17∨op=18∨op=19∨op=20:=by omega
      rcases this with rfl|rfl|rfl|rfl|rfl|rfl|rfl|rfl|rfl|rfl|rfl|rfl <;> (simp only[zY,List.getElem?_cons_zero,List.getElem?_cons_succ,Option.some.injEq] at hsh;subst hsh;rfl)
     rw[this] at hc1;obtain⟨b,a,st,rfl⟩:∃b a st',st=b::a::st':=by
      rcases st with _|⟨b,_|⟨a,st⟩⟩
      . simp at hc1
      . simp at hc1
      exact⟨b,a,st,rfl⟩
     have e:doM ⟨cells,slots,b::a::st⟩ (op,x)=⟨cells,slots,opR op a b::st⟩:=by
      have:op=9∨op=10∨op=11∨op=12∨op=13∨op=14∨op=15∨op=16∨op=17∨op=18∨op=19∨op=20:=by omega
      rcases this with rfl|rfl|rfl|rfl|rfl|rfl|rfl|rfl|rfl|rfl|rfl|rfl <;> rfl
     rw[e];exact zpu mb cb b1 b2 B sv cells slots st op h9 a b x (λw=>zlh op h9 h20 a b w) w hM (by simp only[zMR] at hm;omega)
   have:op=0∨op=1∨op=2∨op=3∨op=4∨op=5∨op=6∨op=7∨op=8:=by omega
   rcases this with rfl|rfl|rfl|rfl|rfl|rfl|rfl|rfl|rfl <;> (simp only[zY,List.getElem?_cons_zero,List.getElem?_cons_succ,Option.some.injEq] at hsh;subst hsh;simp only at hc1 hc2 hc3)
   . exact zqa mb cb b1 b2 B sv cells slots st x w hM (by omega)
   . obtain⟨k1,k2⟩:=hc2 (by decide);have:=zpk mb cb b1 b2 B sv cells slots st x.toNat _ (zgl k2) w hM (by omega);rwa [zdc k1] at this
   . obtain⟨k1,k2⟩:=hc2 (by decide);obtain⟨v,st,rfl⟩:∃v st',st=v::st':=by
      rcases st with _|⟨b,st⟩
      . simp at hc1
      exact⟨b,st,rfl⟩
     have:=zp5 mb cb b1 b2 B sv cells slots st x.toNat v w hM k2 (by simp only[zMR] at hm;omega);rwa [zdc k1] at this
   . obtain⟨k1,k2⟩:=hc3 (by decide);have:=zqj mb cb b1 b2 B sv cells slots st x.toNat _ (zgl k2) w hM (by omega);rwa [zdc k1] at this
   . obtain⟨k1,k2⟩:=hc3 (by decide);obtain⟨v,c,st,rfl⟩:∃v c st',st=v::c::st':=by
      rcases st with _|⟨b,_|⟨a,st⟩⟩
      . simp at hc1
      . simp at hc1
      exact⟨b,a,st,rfl⟩
     have:=zpU mb cb b1 b2 B sv cells slots st x.toNat _ (zgl k2) v c w hM (by simp only[zMR] at hm;omega);rwa [zdc k1] at this
   . obtain⟨no,yes,c,st,rfl⟩:∃no yes c st',st=no::yes::c::st':=by
      rcases st with _|⟨b,_|⟨a,_|⟨c,st⟩⟩⟩
      . simp at hc1
      . simp at hc1
      . simp at hc1
      exact⟨b,a,c,st,rfl⟩
     exact zpM mb cb b1 b2 B sv cells slots st no yes c x w hM (by simp only[zMR] at hm;omega)
   . obtain⟨k1,k2⟩:=hc2 (by decide);obtain⟨no,yes,st,rfl⟩:∃v c st',st=v::c::st':=by
      rcases st with _|⟨b,_|⟨a,st⟩⟩
      . simp at hc1
      . simp at hc1
      exact⟨b,a,st,rfl⟩
     have:=zpA mb cb b1 b2 B sv cells slots st x.toNat _ (zgl k2) no yes w hM (by simp only[zMR] at hm;omega);rwa [zdc k1] at this
   . obtain⟨v,st,rfl⟩:∃v st',st=v::st':=by
      rcases st with _|⟨b,st⟩
      . simp at hc1
      exact⟨b,st,rfl⟩
     exact zpi mb cb b1 b2 B sv cells slots st v x w hM (by simp only[zMR] at hm;omega)
   obtain⟨v,st,rfl⟩:∃v st',st=v::st':=by
    rcases st with _|⟨b,st⟩
    . simp at hc1
    exact⟨b,st,rfl⟩
   exact zpV mb cb b1 b2 B sv cells slots st v x w hM (by simp only[zMR] at hm;omega)
 cases hf
end
section
variable {l:List Int} {k:Nat} {w:Xw}
attribute [local go_sem ↓] Go.wp_at_zero Go.wp_at_succ
structure Nm (w:Xw) (v:Xv) (g:Nat) (l:List Int):Prop where
 ex:∃a c,v=.slice a l.length c/\l.length<=c/\c<=maxLen/\(l≠[]->∃o,a=some (xD g o)/\∀j x,l[j]?=some x->xC w g (o+j) (xI x))
theorem Nm.of {w':Xw}{v:Xv}{g:Nat}(h:Nm w v g l)(hb:w'.heap[g]?=w.heap[g]?):Nm w' v g l:=by obtain⟨a,c,h1,h2,h3,h4⟩:=h.ex;refine⟨a,c,h1,h2,h3,λhl=>?_⟩;obtain⟨o,h5,h6⟩:=h4 hl;exact⟨o,h5,λj x hj=>(zWS (w:=w) hb).trans (h6 j x hj)⟩
theorem zlr {bs:Xk}{b:Bool}{x:Int}(hb:bs[k]?=some b)(hx:l[k]?=some x):zeK (bs.drop k) (l.drop k) k=if b=true/\x≠0/\x≠1 then some k else zeK (bs.drop (k+1)) (l.drop (k+1)) (k+1):=by obtain⟨h1,h2⟩:=zMJ.1 hb;obtain⟨h3,h4⟩:=zMJ.1 hx;rw[zMT h1,zMT h3,h2,h4];rfl
def zhk (S:Xs)(b:Bool)(e:Ending):Prop:=if b=true then ∃p:Int,e=.returned (.iface 59 (.agg #[sen S 11,xI p])) else e=.returned .nilIface
theorem zfc (S:Xs)(k:Nat)(a:Int)(w:Xw):xK 42 #[.iface 290 (.pointer (some (S k))),xI a] w λe w'=>e=.returned (.agg #[.iface 290 (.pointer (some (S k))),xI a])/\xB w w':=by go_enter func42,ntmps42;go_wp2;exact zWR (v:=.agg #[.iface 290 (.pointer (some (S k))),xI a]) (by simp[results,results42,go_sem]) rfl ⟨rfl,(zWQ _ _).alloc (zMK _) _⟩
theorem zbE {B n cp:Nat}{e:Xy}{a:Xp}{xs:Xm}(h:w.ownsRow B e 1 (.slice a n cp) n xs){u:Xv}(hk:xs[k]?=some u):∃g,a=some (xD g 0)/\xC w g k u:=by
 have hl:xs.length=n:=by simpa using h.1
 have hk':=(zMJ.1 hk).1;obtain⟨g,cap,hv,_⟩:=zM h (by omega);cases hv;exact⟨g,rfl,zhv h hk⟩
theorem ziw (S:Xs)(N mb cb:Nat)(c1 c2 c3 bv cv rv:Xv)(c:Cd)(w:Xw)(v:Xv)(g:Nat)(l:List Int)(hG:Gl S w)(hb:xH w mb #[xP cb,c1,c2,c3] 114)(h:CB w N cb bv cv rv c)(hl:Nm w v g l)(he:l.length=c.bools.length) :
 xK 38 #[xP mb,v] w (λe w'=>zhk S (zeK c.bools l 0).isSome e/\xB w w'):=by
 obtain⟨h0,h1,h2,h3,hf,hz⟩:=zU hb;obtain⟨k0,k1,k2,k3,k4,k5,kf,kz⟩:=zt h.blk;obtain⟨x,cpb,rfl⟩:=zB h.bown;obtain⟨a,cp,rfl,hcp,hmx,hin⟩:=hl.ex;unfold maxLen at hmx;have hbo:=h.slotsB;have hbo2:=h.outsB;have HI:=za (zec mb cb N c1 c2 c3 _ cv rv c w hb h);have Hb:=za h.bown;have hi:=hG.input;unfold sen at hi;have Hin:=za hin;rw[he] at hcp ⊢;clear hl hin hb h hG;go_enter func38,ntmps38;go_wp2_with (go_at_call 41;refine HI.o.mono ?_;rintro e w1 ⟨rfl,rfl⟩);go_loop [28] (λi=>∃k:Nat,k<=c.bools.length/\i=xI k/\Hid (zeK (c.bools.drop k) (l.drop k) k=zeK c.bools l 0)) (λi=>c.bools.length-(intOf i).toNat)
 case atStart=>exact⟨0,zMN _,rfl,rfl⟩
 case round =>
  obtain⟨k,hk,rfl,HS⟩:=hrel;by_cases hlt:k<c.bools.length
  . obtain⟨b,hbk⟩:∃b,c.bools[k]?=some b:=⟨_,zsc hlt⟩;obtain⟨y,hyk⟩:∃y,l[k]?=some y:=⟨_,zsc (by omega)⟩;obtain⟨o,rfl,hcell⟩:=Hin.o (by intro e;rw[e] at hyk;simp at hyk);have hc:=hcell k y hyk;obtain⟨gb,rfl,hcb⟩:=zbE Hb.o (k:=k) (u:=.bool b) (by simp[hbk]);have HD:=zlr hbk hyk;rw[HS.o] at HD;clear HS hcell hbk hyk Hin;by_cases hy0:b=true/\y≠0/\y≠1
    . obtain⟨rfl,y0,y1⟩:=hy0;rw[zM2 ⟨rfl,y0,y1⟩] at HD;have HD:=za HD;have y0':(y != 0)=true:=(by simpa using y0);have y1':(y != 1)=true:=(by simpa using y1);clear y0 y1;go_wp2_with (go_at_call 42;refine (zfc S 11 _ _).mono ?_;rintro e w1 ⟨rfl,hB⟩;have HB:=za hB;clear hB);go_ret;refine⟨?_,HB.o⟩;rw[HD.o];exact⟨_,rfl⟩
    rw[zM1 hy0] at HD;have HD:=za HD;have hb3:b=false∨(b=true/\y=0)∨(b=true/\y=1):=by
     cases b with
     | false=>exact zM3 rfl
     | true =>
       by_cases e0:y=0
       . exact zM4 (zM3 ⟨rfl,e0⟩)
       by_cases e1:y=1
       . exact zM4 (zM4 ⟨rfl,e1⟩)
       exact absurd ⟨rfl,e0,e1⟩ hy0
    clear hy0;rcases hb3 with rfl|⟨rfl,rfl⟩|⟨rfl,rfl⟩
    all_goals
     go_wp2_with fail;go_round
     case rel=>exact⟨k+1,by omega,by go_num,HD.o.symm⟩
     case measure=>simp[intOf];omega
  have hO:zeK c.bools l 0=none:=by rw[<- HS.o,List.drop_of_length_le (by omega)];rfl
  have HO:=za hO;clear HS hO;go_wp2_with fail;go_ret;exact⟨by rw[HO.o];rfl,zWQ _ _⟩
end
section
variable {b:Nat} {w:Xw}
structure zg1 {κ:Type} [DecidableEq κ] (P:Program) (K:Xy) (enc:κ->Value):Prop where
 check:∀(em:Bool) (k:κ) (w:Xw),(Instr.checkKey em 10000 K (enc k)).run P w=.ok () w
 find:∀(k:κ) (es:List MapEntry) (ks:List κ) (w:Xw),es.map (·.key)=ks.map enc ->
  (k ∉ ks->(Instr.findKey K (enc k) es).run P w=.ok none w) /\
  (∀j e,ks.idxOf? k=some j->es[j]?=some e->(Instr.findKey K (enc k) es).run P w=.ok (some (j,e.val)) w)
 stays:∀(k:κ) (w:Xw),(Instr.keyThatStays (enc k) (enc k)).run P w=.ok (enc k) w
section
variable {κ:Type} [DecidableEq κ]
def zbn (w:Xw)(b:Nat)(enc:κ->Value)(l:List (κ×Value)):Prop :=
 ∃es clock,w.heap[b]?=some (.map es clock)/\es.toList.map (λe=>(e.key,e.val))=l.map (λp=>(enc p.1,p.2))
def zaT (k:κ):List (κ×Value)->Option Value
 | []=>none
 | p::l=>if p.1=k then some p.2 else zaT k l
def upd (k:κ)(v:Xv):List (κ×Value)->List (κ×Value)
 | []=>[(k,v)]
 | p::l=>if p.1=k then (k,v)::l else p::upd k v l
theorem zgD (k k':κ)(v:Xv):∀l:List (κ×Value),zaT k' (upd k v l)=if k=k' then some v else zaT k' l:=by
 intro l;induction l with
 | nil=>simp[upd,zaT]
 | cons p l ih =>
   unfold upd;split
   . rename_i h
     unfold zaT;by_cases hk:k=k'
     . subst hk;simp
     have:¬p.1=k':=λe=>hk (h.symm.trans e);simp[hk,this]
   rename_i h
   unfold zaT;by_cases hp:p.1=k'
   . have:¬k=k':=λe=>h (hp.trans e.symm);simp[hp,this]
   simp[hp,ih]
theorem zbn.of {θ:Type}{w':Xw}{enc:θ->Value}{l:List (θ×Value)}(h:zbn w b enc l)(hb:w'.heap[b]?=w.heap[b]?):zbn w' b enc l:=by obtain⟨es,c,h1,h2⟩:=h;exact⟨es,c,hb.trans h1,h2⟩
theorem zbn.lt {θ:Type}{enc:θ->Value}{l:List (θ×Value)}(h:zbn w b enc l):b<w.heap.size:=by
 obtain⟨es,c,h1,h2⟩:=h;rcases Nat.lt_or_ge b w.heap.size with h|h
 . exact h
 rw[Array.getElem?_eq_none h] at h1;cases h1
theorem zmK {k:κ}:∀{l:List (κ×Value)},k ∉ l.map (·.1)->zaT k l=none:=by
 intro l;induction l with
 | nil=>intro _;rfl
 | cons p l ih => intro h;simp at h;unfold zaT;rw[zM1 (λe=>h.1 e.symm)];exact ih (by simpa using h.2)
theorem zkK {k:κ}:∀{l:List (κ×Value)} {j:Nat},(l.map (·.1)).idxOf? k=some j->∃p,l[j]?=some p/\p.1=k/\zaT k l=some p.2/\∀v,upd k v l=l.set j (k,v):=by
 intro l;induction l with
 | nil=>intro j h;simp at h
 | cons p l ih =>
   intro j h;rw[List.map_cons,List.idxOf?_cons] at h;by_cases hp:p.1=k
   . simp[hp] at h;subst h;exact⟨p,rfl,hp,by simp[zaT,hp],λv=>by simp[upd,hp]⟩
   simp[hp] at h;obtain⟨j',h1,rfl⟩:=h;obtain⟨q,h2,h3,h4,h5⟩:=ih (by simpa using h1);exact⟨q,by simpa using h2,h3,by simp[zaT,hp,h4],λv=>by simp[upd,hp,h5 v]⟩
theorem zh0 {k:κ}{v:Xv}:∀{l:List (κ×Value)},k ∉ l.map (·.1)->upd k v l=l++[(k,v)]:=by
 intro l;induction l with
 | nil=>intro _;rfl
 | cons p l ih => intro h;simp at h;unfold upd;rw[zM1 (λe=>h.1 e.symm),ih (by simpa using h.2)];rfl
theorem zhj {k:κ}{l:List κ}(h:k∈l):∃j,l.idxOf? k=some j:=by
 cases hj:l.idxOf? k with
 | none=>rw[List.idxOf?_eq_none_iff] at hj;exact absurd h hj
 | some j=>exact⟨j,rfl⟩
variable {P:Program} {K E T:Xy} {enc:κ->Value}
theorem zgI (hK:zg1 P K enc)(ht:P.underlying T=some (.map K E)){z:Xv}(hz:∀w,(zeroValue E).run P w=.ok z w){l:List (κ×Value)}(h:zbn w b enc l)(k:κ)(ok:Bool) :
 (Instr.lookup T (.map (some b)) (enc k) ok).run P w=.ok (if ok then .tuple #[(zaT k l).getD z,.bool (zaT k l).isSome] else (zaT k l).getD z) w:=by
 obtain⟨es,c,h1,h2⟩:=h;have hks:es.toList.map (·.key)=(l.map (·.1)).map enc:=by have:=congrArg (List.map Prod.fst) h2;simpa [List.map_map,Function.comp_def] using this
 have hg:(getObj b).run P w=.ok (.map es c) w:=MapKept.run_getObj_map h1;obtain⟨f1,f2⟩:=hK.find k es.toList (l.map (·.1)) w hks;by_cases hm:k∈l.map (·.1)
 . obtain⟨j,hj⟩:=zhj hm;obtain⟨p,e1,e2,e3,_⟩:=zkK hj;have hjl:=(zMJ.1 e1).1;obtain⟨e,he⟩:∃e,es.toList[j]?=some e:=⟨_,zsc (by have:=congrArg List.length h2;simp at this;simpa [this] using hjl)⟩;have hv:e.val=p.2:=by have:=congrArg (λx=>(x[j]?).map Prod.snd) h2;simp[List.getElem?_map,he,e1] at this;simpa using this
   have hf:=f2 j e hj he;rw[e3];simp[Instr.lookup,run_underlying ht,hg,hK.check,hf,hv]
 have hf:=f1 hm;rw[zmK hm];simp[Instr.lookup,run_underlying ht,hg,hK.check,hf,hz]
theorem zgh (hK:zg1 P K enc)(ht:P.underlying T=some (.map K E)){l:List (κ×Value)}(h:zbn w b enc l)(k:κ)(v:Xv) :
 ∃w',(Instr.mapUpdate T (.map (some b)) (enc k) v).run P w=.ok () w'/\zbn w' b enc (upd k v l)/\Fr (·=b) w w':=by
 have hlt:=h.lt;obtain⟨es,c,h1,h2⟩:=h;have hks:es.toList.map (·.key)=(l.map (·.1)).map enc:=by have:=congrArg (List.map Prod.fst) h2;simpa [List.map_map,Function.comp_def] using this
 have hg:(getObj b).run P w=.ok (.map es c) w:=MapKept.run_getObj_map h1;have hs:∀o,(setObj b o).run P w=.ok () { w with heap:=w.heap.setIfInBounds b o }:=λo=>MapKept.run_setObj_map o h1;have hfr:∀o,Fr (·=b) w { w with heap:=w.heap.setIfInBounds b o }:=λo=>⟨rfl,rfl,rfl,by simp,λk _ hn=>by simp[Ne.symm hn]⟩;obtain⟨f1,f2⟩:=hK.find k es.toList (l.map (·.1)) w hks;by_cases hm:k∈l.map (·.1)
 . obtain⟨j,hj⟩:=zhj hm;obtain⟨p,e1,e2,e3,e4⟩:=zkK hj;have hjl:=(zMJ.1 e1).1;obtain⟨e,he⟩:∃e,es.toList[j]?=some e:=⟨_,zsc (by have:=congrArg List.length h2;simp at this;simpa [this] using hjl)⟩;have he':es[j]?=some e:=by simpa using he
   have hkey:e.key=enc k:=(by have:=congrArg (λx=>(x[j]?).map Prod.fst) h2;simp[List.getElem?_map,he,e1,e2] at this;simpa using this);have hf:=f2 j e hj he;refine⟨{ w with heap:=w.heap.setIfInBounds b (.map (es.modify j λe=>{ e with key:=enc k,val:=v }) c) },?_,⟨es.modify j λe=>{ e with key:=enc k,val:=v },c,?_,?_⟩,hfr _⟩
   . simp[Instr.mapUpdate,run_underlying ht,hg,hK.check,hf,he',hkey,hK.stays];exact hs _
   . simp[hlt]
   rw[e4 v];apply List.ext_getElem?;intro i;have h2i:=congrArg (λx=>x[i]?) h2;simp only[List.getElem?_map] at h2i ⊢;rw[Array.getElem?_toList,Array.getElem?_modify,List.getElem?_set];rw[Array.getElem?_toList] at h2i;by_cases hij:j=i
   . subst hij;simp[he',hjl]
   simpa [hij] using h2i
 have hf:=f1 hm;refine⟨{ w with heap:=w.heap.setIfInBounds b (.map (es.push { key:=enc k,val:=v,born:=c }) (c+1)) },?_,⟨es.push { key:=enc k,val:=v,born:=c },c+1,?_,?_⟩,hfr _⟩
 . simp[Instr.mapUpdate,run_underlying ht,hg,hK.check,hf];exact hs _
 . simp[hlt]
 rw[zh0 hm];simp[h2]
end
theorem zgz {κ:Type} [DecidableEq κ] {P:Program}{K:Xy}{enc:κ->Value}(heq:∀(a b:κ) (w:Xw),(Op.equal K (enc a) (enc b)).run P w=.ok (decide (a=b)) w)(k:κ)(w:Xw) :
 ∀(es:List MapEntry) (ks:List κ) (i:Nat),es.map (·.key)=ks.map enc->(k ∉ ks->(Instr.findAsking K (enc k) es i).run P w=.ok none w)/\(∀j e,ks.idxOf? k=some j->es[j]?=some e->(Instr.findAsking K (enc k) es i).run P w=.ok (some (i+j,e.val)) w):=by
 intro es;induction es with
 | nil =>
   intro ks i h;cases ks with
   | nil=>exact⟨λ_=>rfl,λj e hj=>by simp at hj⟩
   | cons _ _=>simp at h
 | cons e es ih =>
   intro ks i h;cases ks with
   | nil=>simp at h
   | cons k' ks =>
     simp only[List.map_cons,List.cons.injEq] at h;obtain⟨h1,h2⟩:=h;obtain⟨i1,i2⟩:=ih ks (i+1) h2;by_cases hk:k=k'
     . subst hk;refine⟨λhn=>by simp at hn,λj e' hj he=>?_⟩;simp[List.idxOf?_cons] at hj;subst hj;simp at he;subst he;simp[Instr.findAsking,h1,heq]
     refine⟨λhn=>?_,λj e' hj he=>?_⟩
     . simp at hn;simp[Instr.findAsking,h1,heq,hk];exact i1 hn.2
     rw[List.idxOf?_cons] at hj;have:¬k'=k:=λe=>hk e.symm;simp[this] at hj;obtain⟨j',hj',rfl⟩:=hj;have:=i2 j' e' (by simpa using hj') (by simpa using he);simp[Instr.findAsking,h1,heq,hk];rw[this];congr 3;omega
theorem zqo (a b:Xb):(a==b)=decide (a=b):=by
 obtain⟨x⟩:=a;obtain⟨y⟩:=b;rw[Bool.eq_iff_iff];simp only[decide_eq_true_eq];constructor
 . intro h;unfold BEq.beq at h;have h':(x==y)=true:=h;rw[beq_iff_eq] at h';rw[h']
 intro h;cases h
 show (x==x)=true;simp
def pr (p:Int×Int):Value:=.agg #[xI p.1,xI p.2]
theorem Tryz.eqClock (a b:Int×Int)(w:Xw):(Op.equal 161 (pr a) (pr b)).run prog w=.ok (decide (a=b)) w:=by
 unfold pr Op.equal;simp[go_sem,Op.maxDepth];by_cases h1:a.1=b.1
 . by_cases h2:a.2=b.2
   . simp[h1,h2,Prod.ext_iff]
   simp[h1,h2,Prod.ext_iff]
 simp[h1,Prod.ext_iff]
theorem Tryz.keyClock:zg1 prog 161 pr where
 check em k w:=by
  unfold pr;have h:∀n:Nat,(Instr.checkKey em (n+2) 161 (.agg #[xI k.1,xI k.2])).run prog w=.ok () w:=by intro n;simp[Instr.checkKey,go_sem]
  exact h 9998
 find k es ks w h:=by
  have hu:(underlying 161).run prog w=.ok (.struct (prog.fieldsOf 161)) w:=by simp[go_sem]
  obtain⟨h1,h2⟩:=zgz Tryz.eqClock k w es ks 0 h;cases es with
  | nil =>
    cases ks with
    | nil=>exact⟨λ_=>by simp[Instr.findKey,hu,Instr.findNow],λj e hj=>by simp at hj⟩
    | cons _ _=>simp at h
  | cons e es =>
    have hn:∀f,Instr.findNow (.struct f) (pr k) (e::es) 0=none:=λf=>by simp[Instr.findNow,Instr.sameNow]
    refine⟨λhm=>?_,λj e' hj he=>?_⟩
    . simp[Instr.findKey,hu,hn];exact h1 hm
    simp[Instr.findKey,hu,hn];have:=h2 j e' hj he;rwa [Nat.zero_add] at this
 stays k w:=by unfold pr;simp[Instr.keyThatStays,Instr.sameBits]
theorem Tryz.eqLink (a b:Int×Int)(w:Xw):(Op.equal 256 (pr a) (pr b)).run prog w=.ok (decide (a=b)) w:=by
 unfold pr Op.equal;simp[go_sem,Op.maxDepth];by_cases h1:a.1=b.1
 . by_cases h2:a.2=b.2
   . simp[h1,h2,Prod.ext_iff]
   simp[h1,h2,Prod.ext_iff]
 simp[h1,Prod.ext_iff]
theorem Tryz.keyLink:zg1 prog 256 pr where
 check em k w:=by
  unfold pr;have h:∀n:Nat,(Instr.checkKey em (n+2) 256 (.agg #[xI k.1,xI k.2])).run prog w=.ok () w:=by intro n;simp[Instr.checkKey,go_sem]
  exact h 9998
 find k es ks w h:=by
  have hu:(underlying 256).run prog w=.ok (.struct (prog.fieldsOf 256)) w:=by simp[go_sem]
  obtain⟨h1,h2⟩:=zgz Tryz.eqLink k w es ks 0 h;cases es with
  | nil =>
    cases ks with
    | nil=>exact⟨λ_=>by simp[Instr.findKey,hu,Instr.findNow],λj e hj=>by simp at hj⟩
    | cons _ _=>simp at h
  | cons e es =>
    have hn:∀f,Instr.findNow (.struct f) (pr k) (e::es) 0=none:=λf=>by simp[Instr.findNow,Instr.sameNow]
    refine⟨λhm=>?_,λj e' hj he=>?_⟩
    . simp[Instr.findKey,hu,hn];exact h1 hm
    simp[Instr.findKey,hu,hn];have:=h2 j e' hj he;rwa [Nat.zero_add] at this
 stays k w:=by unfold pr;simp[Instr.keyThatStays,Instr.sameBits]
theorem zoO {κ:Type} [DecidableEq κ] {d:TypeDesc}{enc:κ->Value}(heq:∀a b:κ,Instr.sameNow d (enc a) (enc b)=some (decide (a=b)))(k:κ):∀(es:List MapEntry) (ks:List κ) (i:Nat),es.map (·.key)=ks.map enc->(k ∉ ks->Instr.findNow d (enc k) es i=some none)/\(∀j e,ks.idxOf? k=some j->es[j]?=some e->Instr.findNow d (enc k) es i=some (some (i+j,e.val))):=by
 intro es;induction es with
 | nil =>
   intro ks i h;cases ks with
   | nil=>exact⟨λ_=>rfl,λj e hj=>by simp at hj⟩
   | cons _ _=>simp at h
 | cons e es ih =>
   intro ks i h;cases ks with
   | nil=>simp at h
   | cons k' ks =>
     simp only[List.map_cons,List.cons.injEq] at h;obtain⟨h1,h2⟩:=h;obtain⟨i1,i2⟩:=ih ks (i+1) h2;by_cases hk:k=k'
     . subst hk;refine⟨λhn=>by simp at hn,λj e' hj he=>?_⟩;simp[List.idxOf?_cons] at hj;subst hj;simp at he;subst he;simp[Instr.findNow,h1,heq]
     refine⟨λhn=>?_,λj e' hj he=>?_⟩
     . simp at hn;simp[Instr.findNow,h1,heq,hk];exact i1 hn.2
     rw[List.idxOf?_cons] at hj;have:¬k'=k:=λe=>hk e.symm;simp[this] at hj;obtain⟨j',hj',rfl⟩:=hj;have:=i2 j' e' (by simpa using hj') (by simpa using he);simp[Instr.findNow,h1,heq,hk];rw[this];congr 3;omega
theorem Tryz.keyStr:zg1 prog 9 Value.string where
 check em k w:=by
  have h:∀n:Nat,(Instr.checkKey em (n+1) 9 (.string k)).run prog w=.ok () w:=by intro n;simp[Instr.checkKey,go_sem]
  exact h 9999
 find k es ks w h:=by
  have hu:(underlying 9).run prog w=.ok .string w:=by simp[go_sem]
  obtain⟨h1,h2⟩:=zoO (d:=.string) (enc:=Value.string) (λa b=>by simp[Instr.sameNow,zqo]) k es ks 0 h;refine⟨λhm=>?_,λj e' hj he=>?_⟩
  . simp[Instr.findKey,hu,h1 hm]
  simp[Instr.findKey,hu,h2 j e' hj he]
 stays k w:=by simp[Instr.keyThatStays,Instr.sameBits,zqo]
end
section
variable {a b:Xb}
attribute [local go_sem ↓] Go.wp_at_zero Go.wp_at_succ
theorem zmz (h:a=b):(a.toList==b.toList)=true:=by rw[h];simp
theorem zmx (h:¬a=b):(a.toList==b.toList)=false:=by rw[zM0];intro e;apply h;rw[ByteArray.toList_eq,ByteArray.toList_eq] at e;have:=Array.ext' e;cases a;cases b;simp_all
theorem zqi:∀(l:List Vr) (k:Nat) (v:Vr),l[k]?=some v->∀j u,(vrC v)[j]?=some u->(zb0 l)[k*7+j]?=some u:=by
 intro l;induction l with
 | nil=>intro k v h;simp at h
 | cons a l ih =>
   intro k v h j u hj;have e:zb0 (a::l)=vrC a++zb0 l:=rfl;have hl:(vrC a).length=7:=rfl;cases k with
   | zero => simp at h;subst h;rw[e,Nat.zero_mul,Nat.zero_add,zM6 (zMJ.1 hj).1];exact hj
   | succ k => simp at h;rw[e,zM5 (by omega),hl,show (k+1)*7+j-7=k*7+j by omega];exact ih k v h j u hj
def zaK (v:Vr):Nat:=if v.bl=true then 1 else 0
theorem zaM {w:Xw}{B n cp:Nat}{e:Xy}{a:Xp}{l:List Vr}(h:w.ownsRow B e 7 (.slice a n cp) n (zb0 l)){k:Nat}{v:Vr}(hk:l[k]?=some v) :
 ∃g,a=some (xD g 0)/\xC w g (k*7) (.string v.nm)/\xC w g (k*7+1) (xI v.a)/\xC w g (k*7+2) (xI (zaK v:Nat))/\xC w g (k*7+3) (xI (zaA v:Nat))/\xC w g (k*7+4) (xI v.on)/\xC w g (k*7+5) (.string v.ck)/\xC w g (k*7+6) (xI v.ca):=by
 have hvl:(zb0 l).length=l.length*7:=by
  clear h hk;induction l with
  | nil=>rfl
  | cons a l ih=>show (vrC a++zb0 l).length=_;rw[zMM,ih];simp[vrC];omega
 have hl:l.length=n:=by have:=h.1;omega
 have hk':=(zMJ.1 hk).1;obtain⟨g,cap,hv,_⟩:=zM h (by omega);cases hv;have hc:=h.cells (g:=g) rfl;have e0:∀j,((xD g 0):Addr).add j=⟨g,j,none⟩:=λj=>by cases j <;> simp[Addr.add]
 have hat:=zqi l k v hk;refine⟨g,rfl,?_,?_,?_,?_,?_,?_,?_⟩
 . have:=hc _ _ (hat 0 _ rfl);rwa [e0] at this
 . have:=hc _ _ (hat 1 _ rfl);rwa [e0] at this
 . have:=hc _ _ (hat 2 _ rfl);rwa [e0] at this
 . have:=hc _ _ (hat 3 _ rfl);rwa [e0] at this
 . have:=hc _ _ (hat 4 _ rfl);rwa [e0] at this
 . have:=hc _ _ (hat 5 _ rfl);rwa [e0] at this
 have:=hc _ _ (hat 6 _ rfl);rwa [e0] at this
def zk6 (o:Xo):Value:=.tuple #[xI (o.getD 0:Nat),.bool o.isSome]
theorem zgF {N:Nat}{n:Nod}{nb:Nat}{vs ev:Xv}{xs:Xm}(s:Xb)(w:Xw)(h:NT w N n nb vs ev xs) :
 xK 90 #[xP nb,.string s] w (λe w'=>e=.returned (zk6 (n.find s))/\xB w w'):=by
 obtain⟨h0,h1,h2,h3,h4,h5,hf,hz⟩:=zt h.blk;obtain⟨x,cp,rfl⟩:=zB h.vown;have HV:=za h.vown;have hfew:=h.few;clear h;go_enter func90,ntmps90;go_wp2_with fail;go_loopg [13] (n.vars.length+1) (λj i wr=>∃k:Nat,k+j=n.vars.length+1/\k<=n.vars.length/\i=xI k/\Hid (zfj s (n.vars.drop k) k=n.find s)/\Hid (xB w wr));case atStart=>exact⟨0,by omega,zMN _,rfl,rfl,zWQ _ _⟩
 case round =>
  obtain⟨k,hkj,hk,rfl,HS,HB⟩:=hrel;have HV':Hid (wr.ownsRow 0 101 7 (.slice x n.vars.length cp) n.vars.length (zb0 n.vars)):=zi HV.o (λb _ hb _=>HB.o.block b hb);by_cases hlt:k<n.vars.length
  . obtain⟨v,hv⟩:∃v,n.vars[k]?=some v:=⟨_,zsc hlt⟩;obtain⟨g,rfl,c0,c1,c2,c3,c4,c5,c6⟩:=zaM HV'.o hv;have HD:=zld (s:=s) hv;rw[HS.o] at HD;clear HS hv;by_cases hq:v.nm=s
    . rw[zM2 hq] at HD;have hq':=zmz hq;clear hq;go_wp2_with fail;refine zWR (v:=.tuple #[xI k,.bool true]) (by simp[results,results90,go_sem]) rfl ⟨by rw[HD];rfl,HB.o.trans ((zWQ _ _).alloc HB.o.size _)⟩
    rw[zM1 hq] at HD;have hq':=zmx hq;clear hq;go_wp2_with fail;go_roundg (gk-1);case measure=>omega
    exact⟨k+1,by omega,by omega,by go_num,HD.symm,HB.o.trans ((zWQ _ _).alloc HB.o.size _)⟩
  have HO:n.find s=none:=by rw[<- HS.o,List.drop_of_length_le (by omega)];rfl
  clear HS;go_wp2_with fail;refine zWR (v:=.tuple #[xI 0,.bool false]) (by simp[results,results90,go_sem]) rfl ⟨by rw[HO];rfl,HB.o⟩
end
section
variable {er:List Nod} {N:Nat} {c:Sc} {ev nv:Xv} {w w':Xw}
attribute [local go_sem ↓] Go.wp_at_zero Go.wp_at_succ
def NE (w:Xw)(N:Nat)(er:List Nod)(v:Xv):Prop :=
 ∃a cp,v=.slice a er.length cp/\er.length<=cp/\cp<=9223372036854775807/\(er≠[]->∃g,a=some (xD g 0)/\g<N/\∀i n,er[i]?=some n->∃u,w.cell? (xD g i)=some u/\NP w N n u)
theorem NE.old {w:Xw}{v:Xv}(h:NE w N er v)(ho:Old N w w'):NE w' N er v:=by obtain⟨a,cp,h1,h2,h3,h4⟩:=h;refine⟨a,cp,h1,h2,h3,λhne=>?_⟩;obtain⟨g,h5,h6,h7⟩:=h4 hne;refine⟨g,h5,h6,λi n hi=>?_⟩;obtain⟨u,h8,h9⟩:=h7 i n hi;exact⟨u,(zWS (w:=w) (ho g h6)).trans h8,h9.old ho⟩
structure ScV (w:Xw) (N:Nat) (c:Sc) (ev nv:Xv):Prop where
 er:NE w N c.er ev
 nd:NP w N c.nd nv
theorem ScV.old (h:ScV w N c ev nv)(ho:Old N w w'):ScV w' N c ev nv:=⟨h.er.old ho,h.nd.old ho⟩
theorem zaU {B:Nat}(h:Below B w w')(hB:B<=w.heap.size)(o:Obj):Below B w (w'.alloc o):=h.alloc (zMO hB h.size) o
theorem zaz (s:Xb)(a:Int)(w:Xw)(h:ScV w N c ev nv)(hN:N<=w.heap.size) :
 xK 65 #[.agg #[ev,nv],.agg #[.string s,xI a]] w (λe w'=>e=.returned (xI (c.idx s:Nat))/\xB w w'):=by
 obtain⟨nb,vs,qv,xs,rfl,hn⟩:=h.nd;have HF:=za (λo1 o2=>zgF s ((w.alloc o1).alloc o2) (hn.old (zfr hN o1 o2)));go_enter func65,ntmps65;go_wp2_with (go_at_call 90;refine (HF.o _ _).mono ?_;rintro e w1 ⟨rfl,HB⟩;unfold zk6);go_ret;exact⟨rfl,zhh HB⟩
theorem zgt (s:Xb)(a:Int)(w:Xw)(h:ScV w N c ev nv)(hN:N<=w.heap.size) :
 xK 91 #[.agg #[ev,nv],.agg #[.string s,xI a]] w (λe w'=>e=.returned (.bool (c.nd.find s).isSome)/\xB w w'):=by
 obtain⟨nb,vs,qv,xs,rfl,hn⟩:=h.nd;have HF:=za (λo1 o2=>zgF s ((w.alloc o1).alloc o2) (hn.old (zfr hN o1 o2)));go_enter func91,ntmps91;go_wp2_with (go_at_call 90;refine (HF.o _ _).mono ?_;rintro e w1 ⟨rfl,HB⟩;unfold zk6);go_ret;exact⟨rfl,zhh HB⟩
def zdW (N:Nat)(c:Sc)(s:Xb)(w':Xw)(e:Ending):Prop :=
 match c.called s with
 | none=>e=.returned (.tuple #[.agg #[.slice none 0 0,.pointer none],.bool false])
 | some c'=>∃ev' nv',e=.returned (.tuple #[.agg #[ev',nv'],.bool true])/\ScV w' N c' ev' nv'
theorem NE.take {a:Xp}{n cp k:Nat}(h:NE w N er (.slice a n cp))(hk:k<er.length):NE w N (er.take k) (.slice a k cp):=by
 obtain⟨a',cp',h1,h2,h3,h4⟩:=h;cases h1;have hl:(er.take k).length=k:=by simp;omega
 refine⟨a,cp,by rw[hl],by omega,h3,λ_=>?_⟩;obtain⟨g,h5,h6,h7⟩:=h4 (by intro e;subst e;simp at hk);refine⟨g,h5,h6,λi n hi=>h7 i n ?_⟩;rw[List.getElem?_take] at hi;split at hi
 . exact hi
 cases hi
theorem al3 (w:Xw)(o1 o2 o3:Obj):(((w.alloc o1).alloc o2).alloc o3).heap[w.heap.size]?=some o1/\(((w.alloc o1).alloc o2).alloc o3).heap[w.heap.size+1]?=some o2/\(((w.alloc o1).alloc o2).alloc o3).heap[w.heap.size+1+1]?=some o3:=by
 have h (w:Xw) (o:Obj) (k:Nat):(w.alloc o).heap[k]?=if k=w.heap.size then some o else w.heap[k]?:=by show (w.heap.push o)[k]?=_;rw[Array.getElem?_push]
 refine⟨?_,?_,?_⟩;all_goals simp only[h,zsb]
 . rw[zM1 (by omega),zM1 (by omega),zM2 trivial]
 . rw[zM1 (by omega),zM2 trivial]
 rw[zM2 trivial]
theorem zhA (s:Xb)(a:Int)(w:Xw)(h:ScV w N c ev nv)(hN:N<=w.heap.size)(h6:c.er.length<=6) :
 xK 89 #[.agg #[ev,nv],.agg #[.string s,xI a]] w (λe w'=>zdW N c s w' e/\xB w w'):=by
 have hE:=h.er;obtain⟨x,cp,rfl,hcp,hmx,hin⟩:=h.er;have HE:=za hE;have Hin:=za hin;go_enter func89,ntmps89;go_wp2_with fail;go_loopg [11] (c.er.length+1) (λj i wr=>∃k:Nat,k+j=c.er.length+1/\k<=c.er.length/\i=xI k/\Hid (zgg s (c.er.drop k) k=zgg s c.er 0)/\Hid (xH wr w.heap.size #[xE x c cp,nv] 79/\xH wr (w.heap.size+1) #[.string s,xI a] 84/\xH wr (w.heap.size+1+1) #[.slice none 0 0,.pointer none] 79)/\Hid (xB w wr));case atStart=>exact⟨0,by omega,zMN _,rfl,rfl,al3 w _ _ _,zcz w _ _ _⟩
 case round =>
  obtain⟨k,hkj,hk,rfl,HS,HX,HB⟩:=hrel;obtain⟨hx0,hx1,hx2⟩:=HX.o;obtain⟨p0,p1,pf,pz⟩:=zp hx0;obtain⟨q0,q1,qf,qz⟩:=zp hx1;obtain⟨r0,r1,rf,rz⟩:=zp hx2;by_cases hlt:k<c.er.length
  . obtain⟨n,Hn⟩:∃n,c.er[k]?=some n:=⟨_,zsc hlt⟩;have hE2:=HE.o.old (zm HB.o hN);have HE2:=za (hE2.take hlt);obtain⟨x',cp',e1,_,_,hin2⟩:=hE2;cases e1;obtain⟨g,rfl,hgN,hat⟩:=hin2 (by intro e;rw[e] at hlt;simp at hlt);obtain⟨u,hu,hnp⟩:=hat k n Hn;have HNP:=za hnp;obtain⟨nb,vs,qv,xs,rfl,hnt⟩:=hnp;obtain⟨n0,n1,n2,n3,n4,n5,nf,nz⟩:=zt hnt.blk;have hD:=zla (s:=s) Hn;rw[HS.o] at hD;have i1:(k:Int)<=(cp:Int):=by omega
    by_cases hq:n.nm=s
    . rw[zM2 hq] at hD;have hcal:c.called s=some ⟨c.er.take k,n⟩:=(by unfold Sc.called;rw[hD];simp only[Hn]);have HD:=za hcal;have hq':=zmz hq;go_wp2_with fail;go_region_held3 (λw'=>w'.cell? (xD nb 0)=some (.string n.nm)/\w'.cell? (xD (w.heap.size+1) 0)=some (.string s)) (go_keep) (fail);go_wp2_with fail;have hBn:=zo (zC (i:=1) (zC (b:=w.heap.size+1+1) (i:=0) HB.o (by omega) (xS g k cp)) (b:=w.heap.size+1+1) (by omega) (xP nb));refine zWR (v:=.tuple #[.agg #[xS g k cp,xP nb],.bool true]) (by simp[results,results89,go_sem,r0,r1]) rfl ⟨?_,hBn⟩;have hOn:Old N wr _:=λk hk=>(hBn.block k (by omega)).trans (HB.o.block k (by omega)).symm;unfold zdW;rw[HD.o];exact⟨_,_,rfl,HE2.o.old hOn,HNP.o.old hOn⟩
    rw[zM1 hq] at hD;have HD:=za hD;have hq':=zmx hq;go_wp2_with fail;go_region_held3 (λw'=>w'.cell? (xD nb 0)=some (.string n.nm)/\w'.cell? (xD (w.heap.size+1) 0)=some (.string s)) (go_keep) (fail);go_wp2_with fail;go_roundg (gk-1);case measure=>omega
    exact⟨k+1,by omega,by omega,by go_num,HD.o.symm,HX.o,⟨HB.o.os,HB.o.tape,HB.o.output,HB.o.size,HB.o.block⟩⟩
  have HO:c.called s=none:=by unfold Sc.called;rw[<- HS.o,List.drop_of_length_le (by omega)];rfl
  go_wp2_with fail;refine zWR (v:=.tuple #[.agg #[.slice none 0 0,.pointer none],.bool false]) (by simp[results,results89,go_sem,r0,r1]) rfl ⟨?_,zC (zC HB.o (by omega) _) (by omega) _⟩;unfold zdW;rw[HO]
theorem zc4 (s:Xb)(a:Int)(w:Xw)(h:ScV w N c ev nv)(hN:N<=w.heap.size)(h6:c.er.length<=6)(hc:c.called s=none) :
 xK 89 #[.agg #[ev,nv],.agg #[.string s,xI a]] w (λe w'=>e=.returned (.tuple #[.agg #[.slice none 0 0,.pointer none],.bool false])/\xB w w'):=by
 refine (zhA s a w h hN h6).mono ?_;rintro e w' ⟨h1,h2⟩;unfold zdW at h1;rw[hc] at h1;exact⟨h1,h2⟩
theorem ScV.shape (h:ScV w N c ev nv):∃x cp nb,ev=xE x c cp/\nv=xP nb/\nb<N:=by obtain⟨x,cp,h1,_⟩:=h.er;obtain⟨nb,_,_,_,h2,h3⟩:=h.nd;exact⟨x,cp,nb,h1,h2,h3.lo⟩
theorem zah {d:Sc}(s:Xb)(a:Int)(w:Xw)(h:ScV w N c ev nv)(hN:N<=w.heap.size)(h6:c.er.length<=6)(hc:c.called s=some d) :
 xK 89 #[.agg #[ev,nv],.agg #[.string s,xI a]] w (λe w'=>∃x cp nb,e=.returned (.tuple #[.agg #[xE x d cp,xP nb],.bool true])/\ScV w' N d (xE x d cp) (xP nb)/\xB w w'):=by
 refine (zhA s a w h hN h6).mono ?_;rintro e w' ⟨h1,h2⟩;unfold zdW at h1;rw[hc] at h1;obtain⟨ev',nv',h3,h4⟩:=h1;obtain⟨x,cp,nb,rfl,rfl,_⟩:=h4.shape;exact⟨x,cp,nb,h3,h4,h2⟩
end
section
variable {N:Nat} {t:Tm} {g:Tm->Bool} {v:Xv} {w:Xw}
attribute [local go_sem ↓] Go.wp_at_zero Go.wp_at_succ
theorem zmZ {ts:List Tm}{k:Nat}(h:ts[k]?=some t):zdk g (ts.take (k+1))=zdk g (ts.take k)++zaV g t:=by
 induction ts generalizing k with
 | nil=>simp at h
 | cons x ts ih =>
   cases k with
   | zero=>simp at h;subst h;simp[zdk]
   | succ k => simp at h;rw[zMW,zMW,zdk,zdk,ih h,zMQ]
structure Vis {σ:Type} (N:Nat) (T:Xj) (F:FuncId) (caps:Xa) (Pt:Tm->Value->Prop) (g:Tm->Bool) (step:σ->Tm->σ) (I:σ->World->Prop):Prop where
 enters:zH F
 hT:∀k,T k->N<=k
 keep:∀s w w',I s w->xB w w'->I s w'
 sub:∀t v u x,Pt t v->u∈t.ts->Pt u x
 call:∀t v s w,TT w N t v->N<=w.heap.size->I s w->Pt t v->xK F (#[v]++caps) w (λe w'=>e=.returned (.bool (g t))/\I (step s t) w'/\Fr T w w')
theorem TT.ptr (h:TT w N t v):∃b args vs,v=xP b/\b<N/\xH w b #[xI t.k,xI t.a,.string t.s,xI t.nm,xI t.n,args] 198/\w.ownsRow 0 156 1 args vs.length vs/\vs.length=t.ts.length/\(∀(i:Nat) (u:Tm) (x:Xv),t.ts[i]?=some u->vs[i]?=some x->TT w N u x)/\(∀g,args.ownBlock=some g->g<N):=by
 cases h with
 | mk k a s nm n ts b args vs hN hb ha hg hl hr=>exact⟨b,args,vs,rfl,hN,hb,ha,hl,hr,hg⟩
theorem ziV {σ:Type}{T:Xj}{F:FuncId}{caps:Xa}{Pt:Tm->Value->Prop}{step:σ->Tm->σ}{I:σ->World->Prop}(hV:Vis N T F caps Pt g step I) :
 ∀(t:Tm) (v:Xv) (s:σ) (w:Xw),TT w N t v->N<=w.heap.size->I s w->Pt t v->xK 134 #[v,.func (.func F) #[] caps] w (λe w'=>e=.returned (.tuple #[])/\I ((zaV g t).foldl step s) w'/\Fr T w w'):=by
 intro t;induction t using Tm.ind with
 | h kk a nm n p ts ih =>
   intro v s w h hN hI hP;obtain⟨b,args,vs,rfl,hb,hblk,hown,hlen,hsub,hgs⟩:=h.ptr;have HC:=za (hV.call _ _ s w h hN hI hP);have hcf:∀(args:Xa) (w:Xw),(callFunc F args).run prog w=.ok (.enter F args) w:=hV.enters;have HV:=za hV;have HP:=za hP;have Hsub:=za hsub;have Hown:=za hown;have HT:=za h;have Hih:=za ih;have Hblk:=za hblk;have Hgs:=za hgs;obtain⟨h0,h1,h2,h3,h4,h5,hf,hz⟩:=zt hblk;have hw6:w.ownsRow 0 156 1 args vs.length vs:=hown;obtain⟨x,cp,rfl⟩:=zB hown;have hlen':vs.length=ts.length:=hlen;rw[hlen'] at h5 Hown Hblk Hgs;cases hg:g (.mk kk a nm n p ts) with
   | false =>
     rw[hg] at HC;have e:zaV g (.mk kk a nm n p ts)=[.mk kk a nm n p ts]:=(by unfold zaV;rw[hg];simp);rw[e];go_enter func134,ntmps134;go_wp2_with fail;with_reducible refine HC.o.mono ?_
     rintro e w1 ⟨rfl,hI1,hF1⟩;have HI1:=za hI1;have HF1:=za hF1;go_wp2_with fail;first|go_end0|refine zWR (results_none rfl _ _ _) rfl ?_
     exact⟨rfl,HI1.o,HF1.o⟩
   | true =>
     rw[hg] at HC;have e:zaV g (.mk kk a nm n p ts)=.mk kk a nm n p ts::zdk g ts:=(by unfold zaV;rw[zM2 hg]);rw[e];go_enter func134,ntmps134;go_wp2_with fail;with_reducible refine HC.o.mono ?_
     rintro e w1 ⟨rfl,hI1,hF1⟩;have hO1:Old N w w1:=hF1.old hN HV.o.hT;have hz1:=hF1.size;obtain⟨p0,p1,p2,p3,p4,p5,pf,pz⟩:=zt ((hO1 b hb).trans Hblk.o);have HO1:=za hO1;have HI1:=za hI1;have HF1:=za hF1;go_wp2_with fail;have h16:ts.length<=9223372036854775807:=by
      have:=Hown.o;rcases this.2 with ⟨_,h⟩|⟨g,cap,cur,hv,_,_,h3,h4,_⟩
      . omega
      unfold maxLen at h4;omega
     go_loopg [15] (ts.length+1) (λj i wr=>∃k:Nat,k+j=ts.length+1/\k<=ts.length/\i=xI k/\Hid (I ((zdk g (ts.take k)).foldl step (step s (.mk kk a nm n p ts))) wr)/\Hid (Fr T w wr));case atStart=>exact⟨0,by omega,zMN _,rfl,HI1.o,HF1.o⟩
     case round =>
      obtain⟨k,hkj,hk,rfl,HIk,HFk⟩:=hrel;have hOk:Old N w wr:=HFk.o.old hN HV.o.hT;have hzk:=HFk.o.size;by_cases hlt:k<ts.length
      . obtain⟨t,ht⟩:∃t,ts[k]?=some t:=⟨_,zsc hlt⟩;obtain⟨u,hu⟩:∃u,vs[k]?=some u:=⟨_,zsc (by omega)⟩;have hown':wr.ownsRow 0 156 1 (.slice x ts.length cp) ts.length vs:=zi Hown.o (λj _ _ e=>hOk j (Hgs.o j e));obtain⟨g',rfl,hcell⟩:=zbE hown' hu;have hTu:=(Hsub.o k t u ht hu).old hOk;obtain⟨bu,_,_,rfl,_⟩:=hTu.ptr;have hPu:=HV.o.sub _ _ t (xP bu) HP.o (zML ht);have HW:=za (Hih.o t (zML ht) _ _ wr hTu (by omega) HIk.o hPu);have HS:=za (zmZ (g:=g) ht);go_wp2_with (go_at_call 134;refine HW.o.mono ?_;rintro e w2 ⟨rfl,hI2,hF2⟩;have HI2:=za hI2;have HF2:=za (HFk.o.trans hF2));go_roundg (gk-1);case measure=>omega
        refine⟨k+1,by omega,by omega,by go_num,?_,HF2.o⟩;rw[HS.o,zMP];exact HI2.o
      have ek:k=ts.length:=(by omega);subst ek;rw[List.take_length] at HIk;go_wp2_with fail;first|go_end0|refine zWR (results_none rfl _ _ _) rfl ?_
      exact⟨rfl,HIk.o,HFk.o⟩
theorem TT.det (h:TT w N t v):∀{t':Tm},TT w N t' v->t=t':=by
 induction h with
 | mk k a s nm n ts b args vs hN hb ha hg hl _ ih =>
   intro t' h';cases h' with
   | mk k' a' s' nm' n' ts' b args' vs' hN' hb' ha' hg' hl' hr' =>
     have e:=Obj.cells.inj (Option.some.inj (hb.symm.trans hb'));have e1:=e.1;simp only[Array.mk.injEq,List.cons.injEq,Value.int.injEq,Value.string.injEq,true_and,and_true,Int.ofNat_inj] at e1;obtain⟨ek,ea,es,enm,en,eargs⟩:=e1;subst ek ea es enm en eargs;have hvs:vs=vs':=by
      rcases ha.2 with ⟨h1,h2⟩|⟨g,cap,cur,h1,_,h3,h4,h5,h6,h7⟩
      . rcases ha'.2 with ⟨k1,k2⟩|⟨g',cap',cur',k1,_⟩
        . have:vs.length=0:=h2;have:vs'.length=0:=k2;rw[List.eq_nil_of_length_eq_zero ‹vs.length=0›,List.eq_nil_of_length_eq_zero ‹vs'.length=0›]
        rw[h1] at k1;cases k1
      rcases ha'.2 with ⟨k1,k2⟩|⟨g',cap',cur',k1,_,k3,k4,k5,k6,k7⟩
      . rw[h1] at k1;cases k1
      rw[h1] at k1;simp only[Value.slice.injEq,Option.some.injEq,Addr.mk.injEq,and_true] at k1;obtain⟨rfl,hl2,rfl⟩:=k1;rw[h3] at k3;have e4:=(Obj.cells.inj (Option.some.inj k3)).1;subst e4;rw[<- h7,<- k7,hl2]
     subst hvs;have:ts=ts':=by
      apply List.ext_getElem?;intro i;rcases Nat.lt_or_ge i ts.length with hi|hi
      . have e1:ts[i]?=some ts[i]:=zsc hi;have hi':i<ts'.length:=(by omega);have e2:ts'[i]?=some ts'[i]:=zsc hi';have hiv:i<vs.length:=(by omega);have e3:vs[i]?=some vs[i]:=zsc hiv;rw[e1,e2];congr 1;exact ih i _ _ e1 e3 (hr' i _ _ e2 e3)
      rw[List.getElem?_eq_none hi,List.getElem?_eq_none (by omega)]
     rw[this]
end
section
variable {caps:Xa} {F:FuncId} {N:Nat} {T:Xj} {n:Nod} {q:Qn} {Pt:Tm->Prop} {rv:Xv} {w:Xw}
attribute [local go_sem ↓] Go.wp_at_zero Go.wp_at_succ
structure EqV (w:Xw) (N:Nat) (q:Qn) (lv rv:Xv):Prop where
 own:w.ownsRow 0 84 2 lv q.ns.length (nmC q.ns q.ps)
 lo:∀g,lv.ownBlock=some g->g<N
 tt:TT w N q.r rv
theorem EqV.old {w':Xw}{lv:Xv}(h:EqV w N q lv rv)(ho:Old N w w'):EqV w' N q lv rv :=
 ⟨zi h.own (λg _ _ e=>ho g (h.lo g e)),h.lo,h.tt.old ho⟩
theorem zcU.at:∀{qs:List Qn} {xs:Xm},zcU w N qs xs->∀{k:Nat} {q:Qn},qs[k]?=some q->∃lv rv,xs[k*3]?=some lv/\xs[k*3+1]?=some (xI q.a)/\xs[k*3+2]?=some rv/\EqV w N q lv rv:=by
 intro qs;induction qs with
 | nil=>intro xs _ k q h;simp at h
 | cons q0 qs ih =>
   rintro xs ⟨lv,v,ys,rfl,h2,h3,h4,h5⟩ k q hq;cases k with
   | zero=>simp at hq;subst hq;exact⟨lv,v,rfl,rfl,rfl,h2,h3,h4⟩
   | succ k =>
     obtain⟨lv',rv',e1,e2,e3,e4⟩:=ih h5 (by simpa using hq);refine⟨lv',rv',?_,?_,?_,e4⟩
     . rw[show (k+1)*3=k*3+1+1+1 by omega];simpa using e1
     . rw[show (k+1)*3+1=k*3+1+1+1+1 by omega];simpa using e2
     rw[show (k+1)*3+2=k*3+2+1+1+1 by omega];simpa using e3
theorem zcd {n cp:Nat}{a:Xp}{qs:List Qn}{xs:Xm}(h:w.ownsRow 0 158 3 (.slice a n cp) n xs)(hE:zcU w N qs xs){k:Nat}(hk:qs[k]?=some q)(hn:n=qs.length) :
 ∃g lv rv,a=some (xD g 0)/\w.cell? (xD g (k*3))=some lv/\w.cell? (xD g (k*3+1))=some (xI q.a)/\w.cell? (xD g (k*3+2))=some rv/\EqV w N q lv rv:=by
 have hk':=(zMJ.1 hk).1;obtain⟨g,cap,hv,_⟩:=zM h (by omega);cases hv;obtain⟨lv,rv,e1,e2,e3,e4⟩:=hE.at hk;have hc:=h.cells (g:=g) rfl;have e0:∀j,((xD g 0):Addr).add j=⟨g,j,none⟩:=λj=>by cases j <;> simp[Addr.add]
 refine⟨g,lv,rv,rfl,?_,?_,?_,e4⟩
 . have:=hc _ _ e1;rwa [e0] at this
 . have:=hc _ _ e2;rwa [e0] at this
 have:=hc _ _ e3;rwa [e0] at this
def zfa (q:Qn)(rv:Xv)(t:Tm)(v:Xv):Prop:=(t=q.r/\v=rv)∨szT t<szT q.r
theorem zfa.sub {t:Tm}{v:Xv}(h:zfa q rv t v){u:Tm}(x:Xv)(hu:u∈t.ts):zfa q rv u x:=by
 have h1:szT u<szT t:=by
  cases t with
  | mk k a s nm n ts=>have:=zkw hu;simp only[szT];simp only[Tm.ts] at this;omega
 right;rcases h with ⟨rfl,_⟩|h
 . exact h1
 omega
structure zjB {σ:Type} (N:Nat) (T:Xj) (F:FuncId) (caps:Xa) (Pt:Tm->Prop) (n:Nod) (step:σ->Qn->Tm->σ) (I:σ->World->Prop):Prop where
 enters:zH F
 hT:∀k,T k->N<=k
 keep:∀s w w',I s w->xB w w'->I s w'
 sub:∀t u,Pt t->u∈t.ts->Pt u
 root:∀q∈n.eqs,Pt q.r
 call:∀q lv rv t v s w,q∈n.eqs->EqV w N q lv rv->TT w N t v->zfa q rv t v->N<=w.heap.size->I s w->Pt t->xK F (#[.agg #[lv,xI q.a,rv],v]++caps) w (λe w'=>e=.returned (.bool true)/\I (step s q t) w'/\Fr T w w')
theorem zox:zH 135:=λ_ _=>by kernel_rfl
theorem zmv {σ:Type}{step:σ->Qn->Tm->σ}{I:σ->World->Prop}(HV:zjB N T F caps Pt n step I)(q:Qn)(hq:q∈n.eqs)(lv rv:Xv)(b1 b2:Nat)(hb1:¬T b1)(hb2:¬T b2)(hMN:N<=b1) :
 Vis N T 135 #[xP b1,xP b2] (λt v=>Pt t/\zfa q rv t v) za5 (λs t=>step s q t) (λs w=>I s w/\xH w b1 #[.func (.func F) #[] caps] 201/\xH w b2 #[lv,xI q.a,rv] 158/\EqV w N q lv rv) where
 enters:=zox
 hT:=HV.hT
 keep:=λs w w' h hB=>⟨HV.keep s w w' h.1 hB,(hB.block _ (ze h.2.1)).trans h.2.1,(hB.block _ (ze h.2.2.1)).trans h.2.2.1,h.2.2.2.old (zm hB (by have:=ze h.2.1;omega))⟩
 sub:=λt v u x h hu=>⟨HV.sub t u h.1 hu,h.2.sub x hu⟩
 call:=by
  intro t v s w hT hN hI hP;obtain⟨hI0,HX1,HX2,HE⟩:=hI;obtain⟨p0,pf,pz⟩:=zu HX1;obtain⟨q0,q1,q2,qf,qz⟩:=zL HX2;have HC:=HV.call q lv rv t v s w hq HE hT hP.2 hN hI0 hP.1;have hcf:∀(args:Xa) (w:Xw),(callFunc F args).run prog w=.ok (.enter F args) w:=HV.enters;have h21:=pz;clear hI0 hP hT
  show Calls prog _ #[v,xP b1,xP b2] w _;go_enter func135,ntmps135;go_wp2_with fail;with_reducible refine HC.mono ?_
  rintro e w1 ⟨rfl,HI1,HF1⟩;go_wp2_with fail;go_ret;exact⟨rfl,⟨HI1,(HF1.block _ pz hb1).trans HX1,(HF1.block _ qz hb2).trans HX2,HE.old (HF1.old hN HV.hT)⟩,HF1⟩
theorem zfN {σ:Type}{step:σ->Qn->Tm->σ}{I:σ->World->Prop}(HV:zjB N T F caps Pt n step I)(nb:Nat)(vs ev:Xv)(xs:Xm)(s:σ)(w:Xw)(HN:NT w N n nb vs ev xs)(hN:N<=w.heap.size)(HTw:∀k,T k->k<w.heap.size)(hI:I s w) :
 xK 92 #[xP nb,.func (.func F) #[] caps] w (λe w'=>e=.returned (.tuple #[])/\I (n.eqs.foldl (λs q=>(zaV za5 q.r).foldl (λs t=>step s q t) s) s) w'/\Fr T w w'):=by
 obtain⟨h0,h1,h2,h3,h4,h5,hf,hz⟩:=zt HN.blk;obtain⟨x,cp,rfl⟩:=zB HN.own;have HI1:=HV.keep s w (w.alloc (.cells #[.func (.func F) #[] caps] 201)) hI (zq w _);have h16:n.eqs.length<=9223372036854775807:=by
  rcases HN.own.2 with ⟨_,HN⟩|⟨g,cap,cur,hv,_,_,h3,h4,_⟩
  . omega
  unfold maxLen at h4;omega
 have hnz:=HN.lo;clear hI;go_enter func92,ntmps92;go_wp2_with fail;go_loopg [11] (n.eqs.length+1) (λj i wr=>∃k:Nat,k+j=n.eqs.length+1/\k<=n.eqs.length/\i=xI k/\(I ((n.eqs.take k).foldl (λs q=>(zaV za5 q.r).foldl (λs t=>step s q t) s) s) wr)/\(xH wr w.heap.size #[.func (.func F) #[] caps] 201)/\(Fr T w wr));case atStart=>exact⟨0,by omega,zMN _,rfl,HI1,zc w _,(Fr.refl T w).alloc _⟩
 case round =>
  obtain⟨k,hkj,hk,rfl,HIk,HBk,HFk⟩:=hrel;have hOk:Old N w wr:=HFk.old hN HV.hT;have hzk:=HFk.size;have hzk2:=ze HBk;by_cases hlt:k<n.eqs.length
  . obtain⟨q,HQ⟩:∃q,n.eqs[k]?=some q:=⟨_,zsc hlt⟩;have hN2:=HN.old hOk;obtain⟨g,lv,rv,rfl,c0,c1,c2,hE⟩:=zcd hN2.own hN2.eqs HQ rfl;obtain⟨bb,_,_,rfl,_⟩:=hE.tt.ptr;obtain⟨xl,cl,rfl⟩:=zB hE.own;have hVis:=zmv HV q (zML HQ) (.slice xl q.ns.length cl) (xP bb) w.heap.size wr.heap.size (λe=>by have:=HTw _ e;omega) (λe=>by have:=HTw _ e;omega) (by omega);have hold1:Old N wr (wr.alloc (.cells #[.slice xl q.ns.length cl,xI q.a,xP bb] 158)):=λk hk=>zWP _ _ _ (by omega);have HW:=ziV hVis q.r (xP bb) _ (wr.alloc (.cells #[.slice xl q.ns.length cl,xI q.a,xP bb] 158)) (hE.tt.old hold1) (by rw[zsb];omega) ⟨HV.keep _ _ _ HIk (zq wr _),(zWP _ _ _ hzk2).trans HBk,zc wr _,hE.old hold1⟩ ⟨HV.root q (zML HQ),zM3 ⟨rfl,rfl⟩⟩;clear hN2 hE hVis hold1 hOk;go_wp2_with (go_at_call 134;refine HW.mono ?_;rintro e w2 ⟨rfl,HI2,hF2⟩;have HF2:=(((HFk.alloc _).trans hF2));clear hF2);go_roundg (gk-1);case measure=>omega
    refine⟨k+1,by omega,by omega,by go_num,?_,HI2.2.1,HF2⟩;obtain⟨e1,e2⟩:=zMJ.1 HQ;rw[List.take_succ_eq_append_getElem e1,e2,zMP];exact HI2.1
  have ek:k=n.eqs.length:=by omega
  subst ek;rw[List.take_length] at HIk;go_wp2_with fail;first|go_end0|refine zWR (results_none rfl _ _ _) rfl ?_
  exact⟨rfl,HIk,HFk⟩
end
section
variable {bb kd lb sb:Nat} {S:Xs} {st:Xo} {askv nmv:Xv} {w:Xw}
attribute [local go_sem ↓] Go.wp_at_zero Go.wp_at_succ
def zbp (S:Xs)(kd:Nat):Option Nat->Value
 | none=>.nilIface
 | some p=>.iface 59 (.agg #[sen S kd,xI p])
structure RpI (S:Xs) (kd lb bb sb:Nat) (nmv askv:Xv) (st:Xo) (w:Xw):Prop where
 l:w.heap[lb]?=some (.cells #[zbp S kd st] 41 (0,0))
 b:w.heap[bb]?=some (.cells #[xI (st.getD 0:Nat)] 3 (0,0))
 s:w.heap[sb]?=some (.cells #[nmv,sen S kd,askv] 130 (0,0))
 n1:lb≠bb
 n2:lb≠sb
 n3:bb≠sb
def RT (lb bb:Nat)(k:Nat):Prop:=k=lb∨k=bb
def zam (lb bb sb:Nat):Value:=.func (.func 110) #[] #[xP lb,xP bb,xP sb]
theorem RpI.keep {w':Xw}(h:RpI S kd lb bb sb nmv askv st w)(hB:xB w w'):RpI S kd lb bb sb nmv askv st w' :=
 ⟨(hB.block _ (ze h.l)).trans h.l,(hB.block _ (ze h.b)).trans h.b,(hB.block _ (ze h.s)).trans h.s,h.n1,h.n2,h.n3⟩
theorem zhY {b:Nat}{e:Xy}{v0:Xv}(h:xH w b #[v0] e)(v:Xv):xH (w.setCell (xD b 0) v) b #[v] e:=zh _ _ _ _ h
theorem zkD {w1:Xw}(h:RpI S kd lb bb sb nmv askv st w)(hB:xB w w1)(p:Nat) :
 RpI S kd lb bb sb nmv askv (some p) ((w1.setCell (xD lb 0) (zbp S kd (some p))).setCell (xD bb 0) (xI p))/\Fr (RT lb bb) w ((w1.setCell (xD lb 0) (zbp S kd (some p))).setCell (xD bb 0) (xI p)):=by
 have h1:=h.keep hB;refine⟨⟨(zr h.n1 rfl).trans (zhY h1.l _),zhY ((zr (λe=>h.n1 e.symm) rfl).trans h1.b) _,(zr (λe=>h.n3 e.symm) rfl).trans ((zr (λe=>h.n2 e.symm) rfl).trans h1.s),h.n1,h.n2,h.n3⟩,?_⟩;have hf:Fr (RT lb bb) w w1:=Fr.of_below hB;exact (hf.setCell (zM3 (zM3 rfl)) _).setCell (zM3 (zM4 rfl)) _
theorem zaa (S:Xs)(kd lb bb sb:Nat)(nmv askv:Xv)(st:Xo)(p:Nat)(w:Xw)(H:RpI S kd lb bb sb nmv askv st w) :
 xK 110 #[xI p,xP lb,xP bb,xP sb] w (λe w'=>e=.returned (.tuple #[])/\RpI S kd lb bb sb nmv askv (rep st p) w'/\Fr (RT lb bb) w w'):=by
 obtain⟨l0,lf,lz⟩:=zu H.l;obtain⟨b0,bf,bz⟩:=zu H.b;obtain⟨s0,s1,s2,sf,sz⟩:=zL H.s;have n1:¬lb=bb:=H.n1;have n1':¬bb=lb:=λe=>H.n1 e.symm;unfold sen at s1;cases st with
 | none => have e0:rep none p=some p:=rfl;rw[e0];unfold zbp at l0;go_enter func110,ntmps110;go_wp2_with (go_at_call 42;refine (zi3 S kd p _).mono ?_;rintro e w1 ⟨rfl,HB⟩;have hK:=H.keep HB;obtain⟨l1,lf1,lz1⟩:=zu hK.l;obtain⟨b1,bf1,bz1⟩:=zu hK.b;clear hK);go_end0;obtain⟨k1,k2⟩:=zkD H HB p;exact⟨rfl,k1,k2⟩
 | some b =>
   unfold zbp at l0;have b0':xC w bb 0 (xI (b:Nat)):=b0;clear b0;by_cases hlt:p<b
   . have e0:rep (some b) p=some p:=(by show (if p<b then some p else some b)=_;rw[zM2 hlt]);rw[e0];go_enter func110,ntmps110;go_wp2_with (go_at_call 42;refine (zi3 S kd p _).mono ?_;rintro e w1 ⟨rfl,HB⟩;have hK:=H.keep HB;obtain⟨l1,lf1,lz1⟩:=zu hK.l;obtain⟨b1,bf1,bz1⟩:=zu hK.b;clear hK);go_end0;obtain⟨k1,k2⟩:=zkD H HB p;exact⟨rfl,k1,k2⟩
   have e0:rep (some b) p=some b:=(by show (if p<b then some p else some b)=_;rw[zM1 hlt]);rw[e0];go_enter func110,ntmps110;go_wp2_with fail;go_end0;exact⟨rfl,H,Fr.refl _ w⟩
theorem zf2 {N:Nat}{t:Tm}{v:Xv}(w:Xw)(h:TT w N t v) :
 xK 94 #[v] w (λe w'=>e=.returned (.bool (zaJ t.k))/\w=w'):=by
 obtain⟨b,args,vs,rfl,hb,hblk,_⟩:=h.ptr;obtain⟨h0,h1,h2,h3,h4,h5,hf,hz⟩:=zt hblk;clear h;have hc:t.k=3∨t.k=7∨t.k=8∨t.k=6∨(t.k≠3/\t.k≠7/\t.k≠8/\t.k≠6):=by omega
 generalize t.k=k at *;rcases hc with rfl|rfl|rfl|rfl|⟨c1,c2,c3,c4⟩
 . go_enter func94,ntmps94;go_wp2_with fail;go_ret;exact⟨rfl,rfl⟩
 . go_enter func94,ntmps94;go_wp2_with fail;go_ret;exact⟨rfl,rfl⟩
 . go_enter func94,ntmps94;go_wp2_with fail;go_ret;exact⟨rfl,rfl⟩
 . go_enter func94,ntmps94;go_wp2_with fail;go_ret;exact⟨rfl,rfl⟩
 have d1:((k:Int)==3)=false:=by simp;omega
 have d2:((k:Int)==7)=false:=by simp;omega
 have d3:((k:Int)==8)=false:=by simp;omega
 have d4:((k:Int)==6)=false:=by simp;omega
 have HK:Hid (zaJ k=false):=by unfold Hid zaJ;simp[c1,c2,c3,c4]
 clear c1 c2 c3 c4;go_enter func94,ntmps94;go_wp2_with fail;go_ret;exact⟨by rw[HK.o];rfl,rfl⟩
end
section
variable {N:Nat} {t:Tm} {v:Xv} {w:Xw}
attribute [local go_sem ↓] Go.wp_at_zero Go.wp_at_succ
theorem zI {B:Nat}{a:Xw}(h:Below B a w)(n:Nat):Below B a (w.drewN n):=⟨h.os,h.tape,h.output,h.size,h.block⟩
theorem Tryz.sizeEx:(prog.info? 198).map (·.size)=some 6:=by kernel_rfl
theorem zoG (b:Nat)(w:Xw):(binOp .eql 156 (xP b) (xP b)).run prog w=.ok (.bool true) w:=by
 cases h:prog.info? 198 with
 | none=>have:=Tryz.sizeEx;rw[h] at this;cases this
 | some j=>exact run_eql_ptr_same w _ underlying156 h
theorem zmX {b b2:Nat}{c1 c2:Xa}{t1 t2:Xy}(hne:b≠b2)(h1:xH w b c1 t1)(h2:xH w b2 c2 t2):(binOp .eql 156 (xP b) (xP b2)).run prog w=.ok (.bool false) w:=by
 have hs:=Tryz.sizeEx;cases h:prog.info? 198 with
 | none=>rw[h] at hs;cases hs
 | some j =>
   rw[h] at hs;have:j.size=6:=by simpa using hs
   exact run_eql_ptr_other w underlying156 h (by omega) (by intro e;cases e;exact hne rfl) h1 h2
theorem znj {q:Qn}{lv rv:Xv}(w:Xw)(hE:EqV w N q lv rv)(hT:TT w N t v)(hW:zfa q rv t v) :
 xK 96 #[.agg #[lv,xI q.a,rv],v] w (λe w'=>e=.returned (xI (zda q t:Nat))/\xB w w'):=by
 obtain⟨b,_,_,rfl,_,hb,_⟩:=hT.ptr;obtain⟨b2,_,_,rfl,_,hb2,_⟩:=hE.tt.ptr;obtain⟨x,cp,rfl⟩:=zB hE.own;by_cases hv:b=b2
 . subst hv;have e:=hT.det hE.tt;have HU:Hid (zda q t=q.ns.length):=by unfold Hid zda;rw[e,zM2 rfl]
   have hq:=zoG b;go_enter func96,ntmps96;go_wp2_with fail;go_ret;exact⟨by rw[HU.o];rfl,zq _ _⟩
 have HU:Hid (zda q t=1):=by
  unfold Hid zda;rcases hW with ⟨_,e⟩|h
  . cases e;exact absurd rfl hv
  rw[zM1 (by omega)]
 have hq:=λo=>zmX (w:=w.alloc o) hv ((zWP _ _ _ (ze hb)).trans hb) ((zWP _ _ _ (ze hb2)).trans hb2);go_enter func96,ntmps96;go_wp2_with fail;go_ret;exact⟨by rw[HU.o];rfl,zq _ _⟩
theorem znK {c:Sc}{ev nv:Xv}(u:Nat)(w:Xw)(HSc:ScV w N c ev nv)(hN:N<=w.heap.size)(h6:c.er.length<=6)(hT:TT w N t v) :
 xK 95 #[.agg #[ev,nv],v,xI u] w (λe w'=>e=.returned (.bool (c.fits t u))/\xB w w'):=by
 obtain⟨b,args,vs,rfl,hb,HBk,hown,hlen,_⟩:=hT.ptr;obtain⟨xa,cpa,rfl⟩:=zB hown;obtain⟨xe,cpe,nb,rfl,rfl,_⟩:=HSc.shape;have ec:Hid (c.fits t u=match c.called t.s with|none=>false|some d=>d.nd.ins==t.ts.length&&d.nd.outs==u):=rfl;have hlen':vs.length=t.ts.length:=hlen;have hbz:=ze HBk;rw[hlen'] at HBk;go_enter func95,ntmps95;go_upto_region 1 with fail;refine zn (λW=>(xH W w.heap.size #[xE xe c cpe,xP nb] 188)/\xB w W) ⟨zc w _,zq w _⟩ ?_;rintro W ⟨Hs,HB⟩;obtain⟨s0,s1,sf,sz⟩:=zp Hs;obtain⟨h0,h1,h2,h3,h4,h5,hf,hz⟩:=zt ((HB.block b hbz).trans HBk);have hO:=zm HB hN;have hNW:N<=W.heap.size:=by omega
 have hS1:=HSc.old (w':=W.drew) hO;have hS2:=λo=>HSc.old (w':=(W.alloc o).drew) (hO.trans (λk hk=>zWP _ _ _ (by omega)));cases hcal:c.called t.s with
 | none =>
   rw[hcal] at ec;have HC1:=za (zc4 t.s (t.nm:Int) W.drew hS1 hNW h6 hcal);have HC2:=za (λo=>zc4 t.s (t.nm:Int) (W.alloc o).drew (hS2 o) (by show N<=(W.alloc o).heap.size;simp;omega) h6 hcal)
   go_region_held3 (λw'=>w'.cell? (xD w.heap.size 0)=some (xE xe c cpe)/\w'.cell? (xD w.heap.size 1)=some (xP nb)/\w'.cell? (xD b 2)=some (.string t.s)/\w'.cell? (xD b 3)=some (xI t.nm))
    (first|(with_reducible (refine⟨?_,?_,?_,?_⟩ <;> repeat (first|assumption|refine zg ?_|refine zj _ ?_|refine zk (by omega) ?_|refine zd HB1.o ?_ (by first|omega|(rw[zsb];omega)))))|go_keep)
    (first
      | (go_at_call 89;refine HC1.o.mono ?_;rintro e w1 ⟨rfl,hB1⟩;have HB1:=za (zw hB1))
      | (go_at_call 89;refine (HC2.o _).mono ?_;rintro e w1 ⟨rfl,hB1⟩;have HB1:=za (zw hB1);obtain⟨y0,y1,yf,yz⟩:=zp ((HB1.o.block W.heap.size (by rw[zsb];omega)).trans (zc W _))))
   . go_wp2_with fail;go_quiet (fail);go_wp2_with fail;go_ret;exact⟨by rw[ec.out];rfl,zI ((HB.trans (HB1.o.mono (by omega))).alloc (by have:=HB1.o.size;omega) _) _⟩
   go_wp2_with fail;go_quiet (fail);go_wp2_with fail;go_ret;exact⟨by rw[ec.out];rfl,zI (zC (zC (HB.trans ((zE HB1.o).mono (by omega))) (by omega) _) (by omega) _) _⟩
 | some d =>
   rw[hcal] at ec;have HC1:=za (zah t.s (t.nm:Int) W.drew hS1 hNW h6 hcal);have HC2:=za (λo=>zah t.s (t.nm:Int) (W.alloc o).drew (hS2 o) (by show N<=(W.alloc o).heap.size;simp;omega) h6 hcal)
   go_region_held3 (λw'=>w'.cell? (xD w.heap.size 0)=some (xE xe c cpe)/\w'.cell? (xD w.heap.size 1)=some (xP nb)/\w'.cell? (xD b 2)=some (.string t.s)/\w'.cell? (xD b 3)=some (xI t.nm))
    (first|(with_reducible (refine⟨?_,?_,?_,?_⟩ <;> repeat (first|assumption|refine zg ?_|refine zj _ ?_|refine zk (by omega) ?_|refine zd HB1.o ?_ (by first|omega|(rw[zsb];omega)))))|go_keep)
    (first
      | (go_at_call 89;refine HC1.o.mono ?_;rintro e w1 ⟨x2,cp2,n2,rfl,hsc,hB1⟩;have HB1:=za (zw hB1);have HS2:=za hsc)
      | (go_at_call 89;refine (HC2.o _).mono ?_;rintro e w1 ⟨x2,cp2,n2,rfl,hsc,hB1⟩;have HB1:=za (zw hB1);have HS2:=za hsc;obtain⟨y0,y1,yf,yz⟩:=zp ((HB1.o.block W.heap.size (by rw[zsb];omega)).trans (zc W _))))
   . go_wp2_with fail;obtain⟨nn,vs2,qv2,xs2,e9,hnt⟩:=HS2.o.nd;cases e9;obtain⟨m0,m1,m2,m3,m4,m5,mf,mz⟩:=zt hnt.blk;have hn2:=hnt.lo;have hz1:=HB1.o.size;try rw[zsb] at hz1
     refine zn (λW2=>(W2.cell? (xD w1.heap.size 1)=some (xP n2)/\W2.cell? (xD n2 3)=some (xI d.nd.ins)/\W2.cell? (xD n2 4)=some (xI d.nd.outs)/\W2.cell? (xD b 5)=some (.slice xa t.ts.length cpa))/\xB w W2) ⟨⟨?_,?_,?_,?_⟩,((HB.trans (HB1.o.mono (by omega))).alloc (by omega) _)⟩ ?_
     . first|(simp;done)|exact za0 (zce y1)
     . repeat (first|with_reducible exact m3|with_reducible refine zj _ ?_|with_reducible refine zk (by omega) ?_)
     . repeat (first|with_reducible exact m4|with_reducible refine zj _ ?_|with_reducible refine zk (by omega) ?_)
     . repeat (first|with_reducible exact h5|with_reducible refine zj _ ?_|with_reducible refine zk (by omega) ?_|with_reducible refine zd HB1.o ?_ (by first|omega|(rw[zsb];omega)))
     rintro W2 ⟨⟨g0,g1,g2,g3⟩,HB2⟩;have HE:Hid (c.fits t u=(d.nd.ins==t.ts.length&&d.nd.outs==u)):=ec.out;by_cases hi:d.nd.ins=t.ts.length
     . have hi':((d.nd.ins:Int)==(t.ts.length:Int))=true:=(by simp[hi]);by_cases ho:d.nd.outs=u
       . have ho':((d.nd.outs:Int)==(u:Int))=true:=(by simp[ho]);have HE2:Hid (c.fits t u=true):=(by unfold Hid;rw[HE.o];simp[hi,ho]);go_quiet (fail);go_wp2_with fail;go_ret;exact⟨by rw[HE2.o];rfl,zI HB2 _⟩
       have ho':((d.nd.outs:Int)==(u:Int))=false:=(by simp;omega);have HE2:Hid (c.fits t u=false):=(by unfold Hid;rw[HE.o];simp[ho]);go_quiet (fail);go_wp2_with fail;go_ret;exact⟨by rw[HE2.o];rfl,zI HB2 _⟩
     have hi':((d.nd.ins:Int)==(t.ts.length:Int))=false:=(by simp;omega);have HE2:Hid (c.fits t u=false):=(by unfold Hid;rw[HE.o];simp[hi]);go_quiet (fail);go_wp2_with fail;go_ret;exact⟨by rw[HE2.o];rfl,zI HB2 _⟩
   go_wp2_with fail;obtain⟨nn,vs2,qv2,xs2,e9,hnt⟩:=HS2.o.nd;cases e9;obtain⟨m0,m1,m2,m3,m4,m5,mf,mz⟩:=zt hnt.blk;have hn2:=hnt.lo;have hz1:=HB1.o.size;try rw[zsb] at hz1
   refine zn (λW2=>(W2.cell? (xD W.heap.size 1)=some (xP n2)/\W2.cell? (xD n2 3)=some (xI d.nd.ins)/\W2.cell? (xD n2 4)=some (xI d.nd.outs)/\W2.cell? (xD b 5)=some (.slice xa t.ts.length cpa))/\xB w W2) ⟨⟨?_,?_,?_,?_⟩,(zC (zC (HB.trans ((zE HB1.o).mono (by omega))) (by omega) _) (by omega) _)⟩ ?_
   . first|(simp;done)|exact za0 (zce y1)
   . repeat (first|with_reducible exact m3|with_reducible refine zj _ ?_|with_reducible refine zk (by omega) ?_)
   . repeat (first|with_reducible exact m4|with_reducible refine zj _ ?_|with_reducible refine zk (by omega) ?_)
   . repeat (first|with_reducible exact h5|with_reducible refine zj _ ?_|with_reducible refine zk (by omega) ?_|with_reducible refine zd HB1.o ?_ (by first|omega|(rw[zsb];omega)))
   rintro W2 ⟨⟨g0,g1,g2,g3⟩,HB2⟩;have HE:Hid (c.fits t u=(d.nd.ins==t.ts.length&&d.nd.outs==u)):=ec.out;by_cases hi:d.nd.ins=t.ts.length
   . have hi':((d.nd.ins:Int)==(t.ts.length:Int))=true:=(by simp[hi]);by_cases ho:d.nd.outs=u
     . have ho':((d.nd.outs:Int)==(u:Int))=true:=(by simp[ho]);have HE2:Hid (c.fits t u=true):=(by unfold Hid;rw[HE.o];simp[hi,ho]);go_quiet (fail);go_wp2_with fail;go_ret;exact⟨by rw[HE2.o];rfl,zI HB2 _⟩
     have ho':((d.nd.outs:Int)==(u:Int))=false:=(by simp;omega);have HE2:Hid (c.fits t u=false):=(by unfold Hid;rw[HE.o];simp[ho]);go_quiet (fail);go_wp2_with fail;go_ret;exact⟨by rw[HE2.o];rfl,zI HB2 _⟩
   have hi':((d.nd.ins:Int)==(t.ts.length:Int))=false:=(by simp;omega);have HE2:Hid (c.fits t u=false):=(by unfold Hid;rw[HE.o];simp[hi]);go_quiet (fail);go_wp2_with fail;go_ret;exact⟨by rw[HE2.o];rfl,zI HB2 _⟩
end
end Go.Proofs.YtenadialhccdiaaGreatDoor
