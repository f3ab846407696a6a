/- Part 29 of the proof: BwA BwB BwC BwD CmpP. -/
import Derived.LoopIn
import Derived.LoopNIn
import Derived.OwnWalkIn
import Derived.RangeFuncBound
import Derived.RangeFuncCalls
import Derived.RangeFuncLeaves
import Derived.RangeFuncNested
import Derived.Shelf.Abstract
import Derived.Shelf.RegionOpen
import Derived.TacticsInMore
import Derived.Test.YtbicmofihhjgbaaGreatDoorK27
set_option maxRecDepth 100000
set_option maxHeartbeats 8000000
namespace Go.Proofs.YtbicmofihhjgbaaGreatDoor
open Go.Proofs.Tryz
open Go.RowKit Go.Shelf
section
attribute [local go_sem] Oper.semAt_some
def KpB (N b:Nat)(W W':World):Prop:=∀k,k=b∨k<N->W'.heap[k]?=W.heap[k]?
theorem KpB.cell {N b:Nat}{W W':World}(h:KpB N b W W'){k o:Nat}{v:Value}(hk:k=b∨k<N)(hc:W.cell? (xD k o)=some v):W'.cell? (xD k o)=some v:=(World.cell?_of_block (w:=W) (h k hk)).trans hc
def zbo {α:Type}(f:Nat->α)(n k:Nat):List α:=(List.range k).map λj=>f (n-1-j)
theorem zh8 {α:Type}(f:Nat->α)(n k:Nat):zbo f n (k+1)=zbo f n k++[f (n-1-k)]:=by simp[zbo,List.range_succ]
theorem zeU {α:Type}(f:Nat->α)(n k:Nat):(zbo f n k).length=k:=by simp[zbo]
abbrev Nx:=Nat×ByteArray×Nat
def zlb (x:Nx):Array Value:=#[xI (x.1:Int),.agg #[.string x.2.1,xI (x.2.2:Int)]]
def zdl (ns:List ByteArray)(ps:List Nat)(j:Nat):Nx:=(j,ns[j]?.getD ⟨#[]⟩,ps[j]?.getD 0)
theorem zmT (n:Nat)(hn:1<=n)(N l Bs gl cl:Nat)(ns:List ByteArray)(ps:List Nat)(hgl:gl<N)(h63:ns.length<=1000000)(J Jx:List Nx->World->Prop)
 (hY:∀pre x W,J pre W->pre.length<ns.length->YieldAt Fence.wide (n-1) prog l (zlb x) W λe W' =>
   (e=.returned (.bool true)/\J (pre++[x]) W'/\KpB N Bs W W')∨(e=.returned (.bool false)/\Jx (pre++[x]) W'))
 (W:World) (hBs:xC W Bs 0 (xS gl ns.length cl)) (hc:∀j,j<ns.length->xC W gl (j*2) (.string (ns[j]?.getD ⟨#[]⟩))/\xC W gl (j*2+1) (xI (ps[j]?.getD 0:Nat))) (h0:J [] W) :
 CallsIn Fence.wide n prog 167 #[.func (.yield l) #[] #[],xP Bs] W λe W'=>(∃v,e=.returned v) /\
  ((∃ys,ys=zbo (zdl ns ps) ns.length ns.length/\J ys W')∨(∃pre,True/\Jx pre W')):=by
 refine callsIn_of_wp func167 rfl trivial ?_ rfl;simp only[ntmps167,List.size_toArray,List.length_cons,List.length_nil,Nat.reduceAdd,Nat.reduceSub,Array.replicate_succ,Array.replicate_zero,List.push_toArray,List.append_toArray,List.nil_append,List.cons_append];gi_wp2
 gi_loopw [3] (λi wr=>∃m:Nat,m<=ns.length/\i=xI ((m:Int)-1)/\J (zbo (zdl ns ps) ns.length (ns.length-m)) wr/\KpB N Bs W wr)
  (λi _=>(intOf i+1).toNat)
 case atStart=>exact⟨ns.length,Nat.le_refl _,by go_num,by rw[Nat.sub_self];exact h0,λ_ _=>rfl⟩
 case round =>
  obtain⟨m,hm,rfl,hJs,hnx⟩:=hrel;cases m with
  | zero =>
    rw[Nat.sub_zero] at hJs;gi_wp2
    go_end0;exact⟨⟨_,rfl⟩,.inl ⟨_,rfl,hJs⟩⟩
  | succ m =>
    rw[show (((m+1:Nat):Int)-1)=(m:Int) by omega];obtain⟨fn,tmps,assign,body,hy,hR⟩:=hY _ (zdl ns ps m) wr hJs (by rw[zeU];omega);obtain⟨c0,c1⟩:=hc m (by omega);have d0:=hnx.cell (Or.inr hgl) c0;have d1:=hnx.cell (Or.inr hgl) c1;have dB:=hnx.cell (Or.inl rfl) hBs;have i0:(0:Int)<=(m:Int):=(by omega);have i1:(m:Int)<(ns.length:Int):=(by omega);dsimp only[zlb,zdl] at hy;gi_wp2
    refine hR.mono ?_;have hup:zbo (zdl ns ps) ns.length (ns.length-m)=zbo (zdl ns ps) ns.length (ns.length-(m+1))++[zdl ns ps m]:=(by rw[show ns.length-m=(ns.length-(m+1))+1 by omega,zh8,show ns.length-1-(ns.length-(m+1))=m by omega]);rintro e W3 (⟨rfl,hJ3,hk3⟩|⟨rfl,hJx3⟩)
    . gi_wp2
      go_roundw
      case rel=>exact⟨m,by omega,by go_num,by rw[hup];exact hJ3,λk hk=>(hk3 k hk).trans (hnx k hk)⟩
      case measure=>simp[intOf]
    . gi_wp2
      refine bodyPost_ret (results_none rfl _ _ _) rfl ?_;exact⟨⟨_,rfl⟩,.inr ⟨_,trivial,hJx3⟩⟩
end
section
variable {K:Cd} {xs:List Value} {B B0 N base kb n size wb:Nat} {e:TypeId} {v:Value} {W W':World}
structure SCs (B:Nat) (W W':World):Prop where
 size:W.heap.size<=W'.heap.size
 blk:∀k,k<W.heap.size->(k<B∨∃c e f,W.heap[k]?=some (.cells c e f))->W'.heap[k]?=W.heap[k]?
theorem SCs.of {row:Option Nat}(hg:W.grownBy W' row)(hr:∀r,row=some r->B<=r/\∃o:Obj,W.heap[r]?=some o/\o.isCells=false):SCs B W W':=by
 refine⟨hg.size,λk hk h=>hg.block k hk (λe=>?_)⟩;obtain⟨h1,o,h2,h3⟩:=hr k e.symm;rcases h with h|⟨c,e,f,h⟩
 . omega
 . rw[h2] at h;cases h;simp[Obj.isCells] at h3
theorem SCs.cells (h:SCs B W W'){k:Nat}{c:Array Value}{f:Nat×Nat}(hk:W.heap[k]?=some (.cells c e f)):W'.heap[k]?=some (.cells c e f):=(h.blk k (ze hk) (Or.inr ⟨c,e,f,hk⟩)).trans hk
theorem SCs.own (h:SCs B W W')(ho:W.ownsRow base e size v n xs):W'.ownsRow base e size v n xs:=by
 refine⟨ho.1,?_⟩;rcases ho.2 with h1|⟨g,cap,cur,h1,h2,h3,h4⟩
 . exact Or.inl h1
 . exact Or.inr ⟨g,cap,cur,h1,h2,h.cells h3,h4⟩
theorem SCs.row (h:SCs B W W')(ho:zbj W base e size v n xs):zbj W' base e size v n xs:=by
 refine⟨ho.1,?_⟩;rcases ho.2 with h1|⟨g,o,cap,cur,h1,h2,h3,h4⟩
 . exact Or.inl h1
 . exact Or.inr ⟨g,o,cap,cur,h1,h2,h.cells h3,h4⟩
theorem SCs.old (h:SCs B W W')(hN:N<=W.heap.size)(hB:N<=B):Old N W W':=λk hk=>h.blk k (by omega) (Or.inl (by omega))
theorem KI.sc {bv cv rv:Value}(h:KI B wb kb bv cv rv K W)(hs:SCs B0 W W'):KI B wb kb bv cv rv K W' :=
 ⟨hs.cells h.wr,hs.cells h.blk,hs.own h.bown,hs.own h.cown,hs.own h.rown,h.hwb,h.hkb,h.dk,h.d1,h.d2,Nat.le_trans h.hB hs.size⟩
theorem WL.sc {qb cb:Nat}{c:Sc}{ev nv lv:Value}{ls:List Lt}(h:WL N B wb kb qb cb base c ev nv lv K ls W)(hs:SCs B0 W W')(hcb:cb<B0)(hNB:N<=B0):WL N B wb kb qb cb base c ev nv lv K ls W'/\∀k,CT kb qb W' k↔CT kb qb W k:=by
 obtain⟨bv,cv,rv,hI⟩:=h.wi.kw;obtain⟨xs,h1,h2⟩:=h.row;have hI':=hI.sc hs;have hkt:∀k,KT kb W' k↔KT kb W k:=λk=>(hI'.kt k).trans (hI.kt k).symm;have hO:=hs.old h.wi.qi.hN hNB
 have hW:WL N B wb kb qb cb base c ev nv lv K ls W' :=
  ⟨⟨⟨bv,cv,rv,hI'⟩,⟨hs.cells h.wi.qi.blk,h.wi.qi.sc.old hO,h.wi.qi.ck.of' (hs.blk cb h.wi.qi.ck.lt (Or.inl hcb)),Nat.le_trans h.wi.qi.hN hs.size⟩,λe=>h.wi.nq ((hkt qb).1 e),λe=>h.wi.nc ((hkt cb).1 e),h.wi.hNk⟩,⟨xs,hs.row h1,h2.old hO⟩,λk e=>⟨λe'=>(h.dl k e).1 ((hkt k).1 e'),(h.dl k e).2⟩,h.dq,h.dw,h.hNq⟩
 refine⟨hW,λk=>(hW.ct k).trans (Iff.trans ?_ (h.ct k).symm)⟩;rw[hkt k]
theorem FT.sc {T:World->Nat->Prop}{w:World}(h:FT T w W)(hs:SCs w.heap.size W W')(ht:∀k,T W' k->T W k)(hos:W'.os=W.os)(htp:W'.tape=W.tape)(hou:W'.output=W.output):FT T w W' :=
 ⟨⟨hos.trans h.fr.os,htp.trans h.fr.tape,hou.trans h.fr.output,Nat.le_trans h.fr.size hs.size,λk hk hn=>(hs.blk k (Nat.lt_of_lt_of_le hk h.fr.size) (Or.inl hk)).trans (h.fr.block k hk hn)⟩,λk e=>h.tk k (ht k e)⟩
theorem zh1 (n:Nat)(hn:1<=n)(N Bs gl cl:Nat)(ns:List ByteArray)(ps:List Nat)(hgl:gl<N)(h63:ns.length<=1000000)(w:World)(hBs:Bs<w.heap.size)(hN:N<=w.heap.size)
 (hb:xC w Bs 0 (xS gl ns.length cl)) (hc:∀j,j<ns.length->xC w gl (j*2) (.string (ns[j]?.getD ⟨#[]⟩))/\xC w gl (j*2+1) (xI (ps[j]?.getD 0:Nat))) :
 SeqStopsK Fence.wide n prog 167 #[xP Bs] zlb (KpB N Bs) (λys=>ys=zbo (zdl ns ps) ns.length ns.length) (λ_=>True) ns.length w:=λl J Jx W hW _ _ hY h0=>by
 exact zmT n hn N l Bs gl cl ns ps hgl h63 J Jx hY W (zd hW hb hBs) (λj hj=>⟨zd hW (hc j hj).1 (by omega),zd hW (hc j hj).2 (by omega)⟩) h0
end
section
variable {K:Cd} {ls:List Lt} {pre:List Nx} {B N base cb kb qb wb z:Nat} {c:Sc} {ev lv nv:Value} {W W' w:World}
attribute [local go_sem] Oper.semAt_some
theorem KW.others (h:KW B wb kb K W)(hf:FT (KT kb) W W'):KeepsOthers W W':=by
 obtain⟨bv,cv,rv,hI⟩:=h;refine⟨hf.fr.size,λk o hk ho=>(hf.fr.block k (Array.getElem?_eq_some_iff.1 hk).1 (λe=>?_)).trans hk⟩;have own:∀{e:TypeId} {sz:Nat} {v:Value} {n:Nat} {xs:List Value},W.ownsRow B e sz v n xs->v.ownBlock=some k->False:=by
  intro e sz v n xs h1 h2;rcases h1.2 with ⟨rfl,_⟩|⟨g,cap,cur,rfl,_,h3,_⟩
  . simp[Value.ownBlock] at h2
  . simp[Value.ownBlock] at h2;subst h2;rw[h3] at hk;cases hk;simp[Obj.isCells] at ho
 rcases (hI.kt k).1 e with e|e|e|e
 . subst e;rw[hI.blk] at hk;cases hk;simp[Obj.isCells] at ho
 . exact own hI.bown e
 . exact own hI.cown e
 . exact own hI.rown e
def zdh (c:Sc)(base:Nat)(l:List Nx):List (Nat×Int):=l.map λx=>(2,((base+c.idx x.2.1:Nat):Int))
structure NmI (N B wb kb qb cb base:Nat) (c:Sc) (ev nv lv:Value) (K:Cd) (ls:List Lt) (z:Nat) (w:World) (pre:List Nx) (W:World):Prop where
 wl:WL N B wb kb qb cb base c ev nv lv (K.adds (zdh c base pre)) ls W
 ft:FT (CT kb qb) w W
 x1:W.heap[z]?=some (.cells #[xP wb] 193 (0,0))
 x2:W.heap[z+1]?=some (.cells #[xP qb] 111 (0,0))
 n1:¬CT kb qb W z
 n2:¬CT kb qb W (z+1)
theorem NmI.keep (h:NmI N B wb kb qb cb base c ev nv lv K ls z w pre W)(hB:xB W W'):NmI N B wb kb qb cb base c ev nv lv K ls z w pre W' :=
 ⟨h.wl.keep hB,h.ft.trans (FT.below hB (h.wl.tk hB)),(hB.block _ (ze h.x1)).trans h.x1,(hB.block _ (ze h.x2)).trans h.x2,λe=>h.n1 (h.wl.tk hB _ e),λe=>h.n2 (h.wl.tk hB _ e)⟩
theorem zmI (c:Sc)(base:Nat)(K:Cd)(pre:List Nx)(x:Nx):(K.adds (zdh c base pre)).add 2 ((base+c.idx x.2.1:Nat):Int)=K.adds (zdh c base (pre++[x])):=by simp[Cd.add,Cd.adds,zdh]
theorem NmI.next (x:Nx)(h:NmI N B wb kb qb cb base c ev nv lv K ls z w pre W)(hk:KW B wb kb ((K.adds (zdh c base pre)).add 2 ((base+c.idx x.2.1:Nat):Int)) W')(hf:FT (KT kb) W W'):NmI N B wb kb qb cb base c ev nv lv K ls z w (pre++[x]) W':=by rw[zmI] at hk;obtain⟨h1,h2⟩:=h.wl.ftk hk hf;exact⟨h1,h.ft.trans h2,(h2.fr.block _ (ze h.x1) h.n1).trans h.x1,(h2.fr.block _ (ze h.x2) h.n2).trans h.x2,h2.not (ze h.x1) h.n1,h2.not (ze h.x2) h.n2⟩
theorem zdj (h:xB W W'):KeepsOthers W W':=⟨h.size,λk _ hk _=>(h.block k (Array.getElem?_eq_some_iff.1 hk).1).trans hk⟩
theorem zk3 {Bs gl cl:Nat}(ns:List ByteArray)(ps:List Nat)(hbase:base<=100000)(hgl:gl<N)(h63:ns.length<=1000000)(hrow:K.row.length+ns.length<=1000000)
 {Q:Exit->Act->World->Prop} {t0 t1 t4 t5 t6 t7 t8 t9 t10 t11 t12 t13 t14 t15 t16 t17 t18 t19 t20 t21 t22 t23 t24 t25 t26 t27 t28 t29 t30 t31 t32 t33 t34 t35 t36 t37 t38 t39 t40 t41 t42 t43 t44 t45 t46 t47 t48 t49 t50 t51 t52 t53 t54 t55 t56 t57 t58 t59 t61 t62 t63 t64 t65 t66 t67 t68 t69 t70 t71 t72 t73 t74 t75 t76 t77 t78 t79 t80 t81 t82 t83 t84 t85 t86 t87 t88 t89 t90 t91 t92 t93 t94 t95 t96 t97 t98 t99 t100 t101 t102 t103 t104:Value} {ds:List Deferred} (w:World) (h0:NmI N B wb kb qb cb base c ev nv lv K ls z w [] w) (hBz:Bs<w.heap.size) (hnB:¬CT kb qb w Bs)
 (hb:xC w Bs 0 (xS gl ns.length cl)) (hc:∀j,j<ns.length->xC w gl (j*2) (.string (ns[j]?.getD ⟨#[]⟩))/\xC w gl (j*2+1) (xI (ps[j]?.getD 0:Nat)))
 (hQ:∀(D:Nat) (W:World),w.heap.size<=D->NmI N B wb kb qb cb base c ev nv lv K ls z w (zbo (zdl ns ps) ns.length ns.length) W->W.heap[D]?=some (.deferred (some []))->Q .normal { tmps:=#[t0,t1,xP z,xP (z+1),t4,t5,t6,t7,t8,t9,t10,t11,t12,t13,t14,t15,t16,t17,t18,t19,t20,t21,t22,t23,t24,t25,t26,t27,t28,t29,t30,t31,t32,t33,t34,t35,t36,t37,t38,t39,t40,t41,t42,t43,t44,t45,t46,t47,t48,t49,t50,t51,t52,t53,t54,t55,t56,t57,t58,t59,.func (.func 167) #[] #[xP Bs],t61,t62,t63,t64,t65,t66,t67,t68,t69,t70,t71,t72,t73,t74,t75,t76,t77,t78,t79,t80,t81,t82,t83,t84,t85,t86,t87,t88,t89,t90,t91,t92,t93,t94,t95,t96,t97,t98,t99,t100,t101,t102,t103,t104],defers:={ target:=.collected D,args:=#[] }::ds } W) :
 (Code.rangeFunc (Operand.tmp 60) #[61,62]
 (Code.region 8
   #[{ dst:=some 7,op:=Op.alloc 117,type:=0,pos:= "compile.go:80",after:=#[],guard:=none },
    { dst:=none,op:=Op.store 117 (Operand.tmp 7) (Operand.tmp 62),type:=0,pos:= "compile.go:80",after:=#[{ on:=0,ground:=Ground.data },{ on:=0,ground:=Ground.phase }],guard:=none }]
   false)
 (Code.block 3
   (Code.region 9
     #[{ dst:=some 63,op:=Op.load 193 (Operand.tmp 2),type:=193,pos:= "compile.go:81",after:=#[],guard:=none },
      { dst:=some 64,op:=Op.load 111 (Operand.tmp 3),type:=111,pos:= "compile.go:81",after:=#[],guard:=none },
      { dst:=some 65,op:=Op.load 117 (Operand.tmp 7),type:=117,pos:= "compile.go:81",after:=#[],guard:=none },
      { dst:=some 66,op:=Op.call { callee:=Callee.value (Operand.func 107),args:=#[Operand.tmp 64,Operand.tmp 65],argTypes:=#[111,117] },type:=2,pos:= "compile.go:81",after:=#[{ on:=1,ground:=Ground.data },{ on:=2,ground:=Ground.data }],guard:=none },
      { dst:=some 67,op:=Op.call { callee:=Callee.value (Operand.func 56),args:=#[Operand.tmp 63,Operand.const (Value.int IntKind.u8 2),Operand.tmp 66],argTypes:=#[193,106,2] },type:=0,pos:= "compile.go:81",after:=#[{ on:=0,ground:=Ground.data },{ on:=3,ground:=Ground.data },{ on:=3,ground:=Ground.chain }],guard:=none }]
     true))).wp prog Q { tmps:=#[t0,t1,xP z,xP (z+1),t4,t5,t6,t7,t8,t9,t10,t11,t12,t13,t14,t15,t16,t17,t18,t19,t20,t21,t22,t23,t24,t25,t26,t27,t28,t29,t30,t31,t32,t33,t34,t35,t36,t37,t38,t39,t40,t41,t42,t43,t44,t45,t46,t47,t48,t49,t50,t51,t52,t53,t54,t55,t56,t57,t58,t59,.func (.func 167) #[] #[xP Bs],t61,t62,t63,t64,t65,t66,t67,t68,t69,t70,t71,t72,t73,t74,t75,t76,t77,t78,t79,t80,t81,t82,t83,t84,t85,t86,t87,t88,t89,t90,t91,t92,t93,t94,t95,t96,t97,t98,t99,t100,t101,t102,t103,t104],defers:=ds } w:=by
 have hcbw:=h0.wl.wi.qi.ck.lt;have hNw:=h0.wl.wi.qi.hN;have hzw:=ze h0.x1;have hfew:c.nd.vars.length<=16:=by obtain⟨_,_,_,_,_,hnt⟩:=h0.wl.wi.qi.sc.nd;exact hnt.few
 obtain⟨xe,cpe,nb,rfl,rfl,hnb⟩:=h0.wl.wi.qi.sc.shape;have hSC:∀{pre:List Nx} {W W':World} {row:Option Nat},NmI N B wb kb qb cb base c (xE xe c cpe) (xP nb) lv K ls z w pre W->W.grownBy W' row->(∀r,row=some r->w.heap.size<=r/\∃o:Obj,W.heap[r]?=some o/\o.isCells=false)->NmI N B wb kb qb cb base c (xE xe c cpe) (xP nb) lv K ls z w pre W':=by intro pre W W' row HI hg hr;have hs:=SCs.of hg hr;obtain⟨h1,h2⟩:=HI.wl.sc hs hcbw hNw;exact⟨h1,HI.ft.sc hs (λk e=>(h2 k).1 e) hg.os hg.tape hg.output,hs.cells HI.x1,hs.cells HI.x2,λe=>HI.n1 ((h2 z).1 e),λe=>HI.n2 ((h2 _).1 e)⟩
 have hKb:∀(W:World) (l:Nat) (o o':Obj),w.heap.size<=l->W.heap[l]?=some o->o.isCells=false->o.isWalk=false->KpB N Bs W (W.putObj l o'):=by intro W l o o' hl ho _ _ k hk;have hlt:=(Array.getElem?_eq_some_iff.1 ho).1;exact (grownBy_putObj' W l o').block k (by rcases hk with e|e <;> omega) (λe=>by cases e;rcases hk with e|e <;> omega)
 rw[<- wpIn_wide (n:=9)]
 refine wpIn_rangeFunc_ownH (F:=Fence.wide) (n:=9) rfl (by decide) (gf:=167) (lb:=#[xP Bs]) rfl trivial (enters_of func167 (by kernel_rfl) rfl)
  (zh1 8 (by decide) N Bs gl cl ns ps hgl h63 w hBz hNw hb hc)
  (λh1 h2 k hk=>(h2 k hk).trans (h1 k hk))
  hKb
  (Below.refl _ _) (λ_=>rfl)
  (NmI N B wb kb qb cb base c (xE xe c cpe) (xP nb) lv K ls z w) (λ_ _ _=>False)
  (λs A A' row hs hg hr=>hSC hs hg hr) (λ_ _ _ _ _ hs _ _=>hs) h0
  (λx a' W=>∃Bx,xH W Bx #[.string x.2.1,xI (x.2.2:Int)] 117/\a'={ tmps:=#[t0,t1,xP z,xP (z+1),t4,t5,t6,xP Bx,t8,t9,t10,t11,t12,t13,t14,t15,t16,t17,t18,t19,t20,t21,t22,t23,t24,t25,t26,t27,t28,t29,t30,t31,t32,t33,t34,t35,t36,t37,t38,t39,t40,t41,t42,t43,t44,t45,t46,t47,t48,t49,t50,t51,t52,t53,t54,t55,t56,t57,t58,t59,.func (.func 167) #[] #[xP Bs],xI (x.1:Int),.agg #[.string x.2.1,xI (x.2.2:Int)],t63,t64,t65,t66,t67,t68,t69,t70,t71,t72,t73,t74,t75,t76,t77,t78,t79,t80,t81,t82,t83,t84,t85,t86,t87,t88,t89,t90,t91,t92,t93,t94,t95,t96,t97,t98,t99,t100,t101,t102,t103,t104],defers:=[] }) ?hAx ?assign ?body ?done ?stop
 case hAx => rintro x a' _ A A' row ⟨Bx,h1,h2⟩ hg hr;exact⟨Bx,(SCs.of hg hr).cells h1,h2⟩
 case stop => rintro D c' pre W _ _ h _;exact h.elim
 case done => rintro D xs W hD rfl HI hK;exact hQ D W hD HI hK
 case assign =>
  rintro l pre x W Kk HI hK;simp only[zlb,List.zip_toArray,List.zip_cons_cons,List.zip_nil_right,List.size_toArray,List.length_cons,List.length_nil,Nat.zero_add,Nat.reduceAdd,List.foldl_toArray',List.foldl_cons,zr5,zr9,zsa,List.foldl_nil];gi_wp2
  have hzW:=HI.ft.fr.size;exact hK _ _ ((zdj (zq W _)).from _) (λk hk=>Below.heap_alloc _ _ _ (by rcases hk with e|e <;> omega)) (HI.keep (zq W _)) ⟨W.heap.size,zc W _,rfl⟩
 case body =>
  rintro l pre x a' W hl _ HI ⟨Bx,hBx,rfl⟩ hlt;obtain⟨x0,xf,xz⟩:=zu HI.x1;obtain⟨y0,yf,yz⟩:=zu HI.x2;obtain⟨b0,b1,bf,bz⟩:=zp hBx;have hzW:=HI.ft.fr.size;have hidx:=zmN c x.2.1;have hrl:(K.adds (zdh c base pre)).row.length<=1000000:=by rw[Cd.adds_len];simp[zdh];omega
  have HSl:=za (λW' (hB:xB W W')=>zfz x.2.1 (x.2.2:Int) W' (HI.keep hB).wl.wi.qi (by omega) (by omega));have HAd:=za (λW' (hB:xB W W')=>zc7 B wb kb _ 2 ((base+c.idx x.2.1:Nat):Int) W' (HI.keep hB).wl.wi.kw hrl);have hnB':¬CT kb qb W Bs:=HI.ft.not hBz hnB;have HNk:=HI.wl.wi.ktN;clear hBx h0 hb hc hQ hSC hKb hrl;have hfo:prog.follows Departure.mixedOrders=true:=by kernel_rfl
  gi_wp2
  gi_region_with_o (first
   | ((try refine⟨trivial,?_⟩);gi_at_call 56;refine (CallsIn.inRound l (callsIn_wide.2 (HAd.o _ HB2.o))).mono ?_;rintro e w3 ⟨rfl,HK3,HF3⟩)
   | ((try refine⟨trivial,?_⟩);gi_at_call 107;refine (CallsIn.inRound l (callsIn_wide.2 (HSl.o _ (by exact zo (Below.refl _ _))))).mono ?_;rintro e w2 ⟨rfl,hB2⟩;have HB2:=za (zw hB2);have x0':=zd HB2.o x0 xz;clear hB2))
  all_goals gi_wp2
  all_goals (try go_bits)
  all_goals
   have hk2:∀k,k=Bs∨k<N->¬KT kb w2 k/\k<W.heap.size:=λk hk=>⟨λe=>by
    have e':=HI.wl.wi.kw.tk HB2.o k e;rcases hk with e2|e2
    . subst e2;exact hnB' (Or.inl e')
    . have:=HNk k e';omega,by rcases hk with e|e <;> omega⟩
   exact⟨((zdj HB2.o).trans (KW.others (HI.keep HB2.o).wl.wi.kw HF3)).from _,λk hk=>(HF3.fr.block k (Nat.lt_of_lt_of_le (hk2 k hk).2 HB2.o.size) (hk2 k hk).1).trans (HB2.o.block k (hk2 k hk).2),(HI.keep HB2.o).next x HK3 HF3⟩
end
section
variable {ds:List Deferred} {B0:Nat} {W W':World}
theorem WL.others {N B wb kb qb cb base:Nat}{c:Sc}{ev nv lv:Value}{K:Cd}{ls:List Lt}(h:WL N B wb kb qb cb base c ev nv lv K ls W)(hf:FT (CT kb qb) W W'):KeepsOthers W W':=by
 obtain⟨bv,cv,rv,hI⟩:=h.wi.kw;obtain⟨xs,hrow,_⟩:=h.row;refine⟨hf.fr.size,λk o hk ho=>(hf.fr.block k (Array.getElem?_eq_some_iff.1 hk).1 (λe=>?_)).trans hk⟩;have own:∀{e:TypeId} {sz:Nat} {v:Value} {n:Nat} {xs:List Value},W.ownsRow B e sz v n xs->v.ownBlock=some k->False:=by
  intro e sz v n xs h1 h2;rcases h1.2 with ⟨rfl,_⟩|⟨g,cap,cur,rfl,_,h3,_⟩
  . simp[Value.ownBlock] at h2
  . simp[Value.ownBlock] at h2;subst h2;rw[h3] at hk;cases hk;simp[Obj.isCells] at ho
 rcases (h.ct k).1 e with e|e|e
 . rcases (hI.kt k).1 e with e|e|e|e
   . subst e;rw[hI.blk] at hk;cases hk;simp[Obj.isCells] at ho
   . exact own hI.bown e
   . exact own hI.cown e
   . exact own hI.rown e
 . subst e;rw[h.wi.qi.blk] at hk;cases hk;simp[Obj.isCells] at ho
 . rcases hrow.2 with ⟨rfl,_⟩|⟨g,o',cap,cur,rfl,_,h3,_⟩
   . simp[Value.ownBlock] at e
   . simp[Value.ownBlock] at e;subst e;rw[h3] at hk;cases hk;simp[Obj.isCells] at ho
inductive zdd (B0:Nat) (W:World):List Deferred->Prop
 | nil:zdd B0 W []
 | cons (D:Nat) (ds:List Deferred) (h1:B0<=D) (h2:W.heap[D]?=some (.deferred (some []))) (h3:∀D',{ target:=.collected D',args:=#[] }∈ds->¬D'=D) (h:zdd B0 W ds):zdd B0 W ({ target:=.collected D,args:=#[] }::ds)
theorem zdd.others (h:zdd B0 W ds)(hk:KeepsOthers W W'):zdd B0 W' ds:=by
 induction h with
 | nil=>exact .nil
 | cons D ds h1 h2 h3 _ ih=>exact .cons D ds h1 (hk.same D _ h2 rfl) h3 ih
theorem zdd.lt (h:zdd B0 W ds):∀D',{ target:=.collected D',args:=#[] }∈ds->D'<W.heap.size:=by
 induction h with
 | nil=>intro D' h;simp at h
 | cons D ds h1 h2 h3 _ ih =>
   intro D' h;rcases List.mem_cons.1 h with e|e
   . cases e;exact (Array.getElem?_eq_some_iff.1 h2).1
   . exact ih D' e
theorem zfL {P:Program}{fn:Func}{tmps:Array Value}{R:Ending->World->Prop}(hR:∀W D o,B0<=D->W.heap[D]?=some (.deferred (some []))->R (.returned (.tuple #[])) W->R (.returned (.tuple #[])) (W.putObj D o))
 (hres:∀W,(results fn tmps).run P W=.ok (.tuple #[]) W):∀(ds:List Deferred) (W:World),zdd B0 W ds->R (.returned (.tuple #[])) W->LeavesInM Fence.wide 9 P fn tmps R ds .returning W:=by
 intro ds;induction ds with
 | nil => intro W _ h;exact⟨_,hres W,h⟩
 | cons d ds ih =>
   intro W hd h;cases hd with
   | cons D _ h1 h2 h3 h4 =>
     refine⟨by simp,.inl ⟨D,_,rfl,run_takeDeferred h2,?_⟩⟩;refine ih _ ?_ (hR W D _ h1 h2 h);clear ih h;induction h4 with
     | nil=>exact .nil
     | cons D' ds g1 g2 g3 _ ih' => refine .cons D' ds g1 ?_ g3 (ih' (λD'' hD''=>h3 D'' (List.mem_cons_of_mem _ hD'')));exact ((grownBy_putObj' W D _).block D' (Array.getElem?_eq_some_iff.1 g2).1 (λe=>h3 D' (List.mem_cons_self ..) (by cases e;rfl))).trans g2
theorem zn5 (a:Option Addr)(n cp:Nat)(w:World) :
 xK 106 #[.slice a n cp] w (λe w'=>e=.returned (.func (.func 167) #[] #[xP w.heap.size])/\w'=w.alloc (.cells #[.slice a n cp] 181)):=by
 have hmf:∀(fn:Go.Fn) (first cap:Array Value) (w:World),(Instr.makeFunc fn first cap).run prog w=.ok (.func fn first cap) w:=λ_ _ _ _=>rfl;go_enter func106,ntmps106;go_wp2;go_ret;exact⟨rfl,rfl⟩
end
section
theorem Tryz.sizeMem (w:World):(sizeOf 206).run prog w=.ok 4 w:=by kernel_rfl
theorem WL.pop {N B wb kb qb cb base:Nat}{c:Sc}{ev nv lv lv':Value}{K:Cd}{m:Lt}{r:List Lt}{W:World}(h:WL N B wb kb qb cb base c ev nv lv K (m::r) W)(xs:List Value)(hxs:zeY W N r xs)(hrow:zbj W B 206 4 lv' r.length xs)(hblk:∀k,lv'.ownBlock=some k->lv.ownBlock=some k) :
 WL N B wb kb qb cb base c ev nv lv' K r (W.setCell (xD qb 4) lv')/\FT (CT kb qb) W (W.setCell (xD qb 4) lv'):=by
 obtain⟨bv,cv,rv,hI⟩:=h.wi.kw;have hk:∀k,¬k=qb->(W.setCell (xD qb 4) lv').heap[k]?=W.heap[k]?:=λk hk=>zr hk rfl;have hs:(W.setCell (xD qb 4) lv').heap.size=W.heap.size:=by simp
 have hkt:∀k,KT kb W k->¬k=qb:=λk e e'=>h.wi.nq (e'▸e);have hO:Old N W (W.setCell (xD qb 4) lv'):=λk hk'=>hk k (by have:=h.hNq;omega)
 have hI':KI B wb kb bv cv rv K (W.setCell (xD qb 4) lv') :=
  ⟨(hk _ (λe=>h.dw e.symm)).trans hI.wr,(hk _ (hkt _ ((hI.kt kb).2 (Or.inl rfl)))).trans hI.blk,zi hI.bown (λk _ _ e=>hk k (hkt k ((hI.kt k).2 (Or.inr (Or.inl e))))),zi hI.cown (λk _ _ e=>hk k (hkt k ((hI.kt k).2 (Or.inr (Or.inr (Or.inl e)))))),zi hI.rown (λk _ _ e=>hk k (hkt k ((hI.kt k).2 (Or.inr (Or.inr (Or.inr e)))))),hI.hwb,hI.hkb,hI.dk,hI.d1,hI.d2,by rw[hs];exact hI.hB⟩
 have hktw:∀k,KT kb (W.setCell (xD qb 4) lv') k↔KT kb W k:=λk=>(hI'.kt k).trans (hI.kt k).symm
 have hW:WL N B wb kb qb cb base c ev nv lv' K r (W.setCell (xD qb 4) lv') :=
  ⟨⟨⟨bv,cv,rv,hI'⟩,⟨zh _ _ _ _ h.wi.qi.blk,h.wi.qi.sc.old hO,h.wi.qi.ck.of' (hk _ (λe=>h.dq e.symm)),by rw[hs];exact h.wi.qi.hN⟩,λe=>h.wi.nq ((hktw qb).1 e),λe=>h.wi.nc ((hktw cb).1 e),h.wi.hNk⟩,⟨xs,zbM hrow (λk _ _ e=>hk k (h.dl k (hblk k e)).2.1),hxs.old hO⟩,λk e=>⟨λe'=>(h.dl k (hblk k e)).1 ((hktw k).1 e'),(h.dl k (hblk k e)).2⟩,h.dq,h.dw,h.hNq⟩
 refine⟨hW,⟨rfl,rfl,rfl,by rw[hs];exact Nat.le_refl _,λk _ hn=>hk k (λe=>hn ((h.ct k).2 (Or.inr (Or.inl e))))⟩,λk e=>?_⟩;rcases (hW.ct k).1 e with e|e|e
 . exact Or.inl ((h.ct k).2 (Or.inl ((hktw k).1 e)))
 . exact Or.inl ((h.ct k).2 (Or.inr (Or.inl e)))
 . exact Or.inl ((h.ct k).2 (Or.inr (Or.inr (hblk k e))))
end
end Go.Proofs.YtbicmofihhjgbaaGreatDoor
