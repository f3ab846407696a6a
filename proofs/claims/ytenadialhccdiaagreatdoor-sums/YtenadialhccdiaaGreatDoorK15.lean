/- Part 16. -/
import Derived.Test.YtenadialhccdiaaGreatDoorK14
set_option maxRecDepth 100000
set_option maxHeartbeats 8000000
namespace Go.Proofs.YtenadialhccdiaaGreatDoor
open Go.Proofs.Tryz
open Go.RowKit Go.Shelf
section
variable {K:Cd} {ls:List Lt} {pre:List Nx} {B N base cb kb qb wb z:Nat} {c:Sc} {ev lv nv:Xv} {W W' w:Xw}
attribute [local go_sem] Oper.semAt_some
theorem KW.others (h:KW B wb kb K W)(hf:FT (KT kb) W W'):KeepsOthers W W':=by
 obtain⟨bv,cv,rv,hI⟩:=h;refine⟨hf.fr.size,λk o hk ho=>(hf.fr.block k (Array.getElem?_eq_some_iff.1 hk).1 (λe=>?_)).trans hk⟩;have own:∀{e:Xy} {sz:Nat} {v:Xv} {n:Nat} {xs:Xm},W.ownsRow B e sz v n xs->v.ownBlock=some k->False:=by
  intro e sz v n xs h1 h2;rcases h1.2 with ⟨rfl,_⟩|⟨g,cap,cur,rfl,_,h3,_⟩
  . simp[Value.ownBlock] at h2
  simp[Value.ownBlock] at h2;subst h2;rw[h3] at hk;cases hk;simp[Obj.isCells] at ho
 rcases (hI.kt k).1 e with e|e|e|e
 . subst e;rw[hI.blk] at hk;cases hk;simp[Obj.isCells] at ho
 . exact own hI.bown e
 . exact own hI.cown e
 exact own hI.rown e
def zdh (c:Sc)(base:Nat)(l:List Nx):List (Nat×Int):=l.map λx=>(2,((base+c.idx x.2.1:Nat):Int))
structure NmI (N B wb kb qb cb base:Nat) (c:Sc) (ev nv lv:Xv) (K:Cd) (ls:List Lt) (z:Nat) (w:Xw) (pre:List Nx) (W:Xw):Prop where
 wl:WL N B wb kb qb cb base c ev nv lv (K.adds (zdh c base pre)) ls W
 ft:FT (CT kb qb) w W
 x1:W.heap[z]?=some (.cells #[xP wb] 152 (0,0))
 x2:W.heap[z+1]?=some (.cells #[xP qb] 74 (0,0))
 n1:¬CT kb qb W z
 n2:¬CT kb qb W (z+1)
theorem NmI.keep (h:NmI N B wb kb qb cb base c ev nv lv K ls z w pre W)(hB:xB W W'):NmI N B wb kb qb cb base c ev nv lv K ls z w pre W' :=
 ⟨h.wl.keep hB,h.ft.trans (FT.below hB (h.wl.tk hB)),(hB.block _ (ze h.x1)).trans h.x1,(hB.block _ (ze h.x2)).trans h.x2,λe=>h.n1 (h.wl.tk hB _ e),λe=>h.n2 (h.wl.tk hB _ e)⟩
theorem zmI (c:Sc)(base:Nat)(K:Cd)(pre:List Nx)(x:Nx):(K.adds (zdh c base pre)).add 2 ((base+c.idx x.2.1:Nat):Int)=K.adds (zdh c base (pre++[x])):=by simp[Cd.add,Cd.adds,zdh]
theorem NmI.next (x:Nx)(h:NmI N B wb kb qb cb base c ev nv lv K ls z w pre W)(hk:KW B wb kb ((K.adds (zdh c base pre)).add 2 ((base+c.idx x.2.1:Nat):Int)) W')(hf:FT (KT kb) W W'):NmI N B wb kb qb cb base c ev nv lv K ls z w (pre++[x]) W':=by rw[zmI] at hk;obtain⟨h1,h2⟩:=h.wl.ftk hk hf;exact⟨h1,h.ft.trans h2,(h2.fr.block _ (ze h.x1) h.n1).trans h.x1,(h2.fr.block _ (ze h.x2) h.n2).trans h.x2,h2.not (ze h.x1) h.n1,h2.not (ze h.x2) h.n2⟩
theorem zdj (h:xB W W'):KeepsOthers W W':=⟨h.size,λk _ hk _=>(h.block k (Array.getElem?_eq_some_iff.1 hk).1).trans hk⟩
theorem zk3 {Bs gl cl:Nat}(ns:Xl)(ps:Xn)(hbase:base<=100000)(hgl:gl<N)(h63:ns.length<=1000000)(hrow:K.row.length+ns.length<=1000000)
 {Q:Exit->Act->World->Prop} {t0 t1 t4 t5 t6 t7 t8 t9 t10 t11 t12 t13 t14 t15 t16 t17 t18 t19 t20 t21 t22 t23 t24 t25 t26 t27 t28 t29 t30 t31 t32 t33 t34 t35 t36 t37 t38 t39 t40 t41 t42 t43 t44 t45 t46 t47 t48 t49 t50 t51 t52 t53 t54 t55 t56 t57 t58 t59 t61 t62 t63 t64 t65 t66 t67 t68 t69 t70 t71 t72 t73 t74 t75 t76 t77 t78 t79 t80 t81 t82 t83 t84 t85 t86 t87 t88 t89 t90 t91 t92 t93 t94 t95 t96 t97 t98 t99 t100 t101 t102 t103 t104:Xv} {ds:List Deferred} (w:Xw) (h0:NmI N B wb kb qb cb base c ev nv lv K ls z w [] w) (hBz:Bs<w.heap.size) (hnB:¬CT kb qb w Bs)
 (hb:xC w Bs 0 (xS gl ns.length cl)) (hc:∀j,j<ns.length->xC w gl (j*2) (.string (ns[j]?.getD ⟨#[]⟩))/\xC w gl (j*2+1) (xI (ps[j]?.getD 0:Nat)))
 (hQ:∀(D:Nat) (W:Xw),w.heap.size<=D->NmI N B wb kb qb cb base c ev nv lv K ls z w (zbo (zdl ns ps) ns.length ns.length) W->W.heap[D]?=some (.deferred (some []))->Q .normal { tmps:=#[t0,t1,xP z,xP (z+1),t4,t5,t6,t7,t8,t9,t10,t11,t12,t13,t14,t15,t16,t17,t18,t19,t20,t21,t22,t23,t24,t25,t26,t27,t28,t29,t30,t31,t32,t33,t34,t35,t36,t37,t38,t39,t40,t41,t42,t43,t44,t45,t46,t47,t48,t49,t50,t51,t52,t53,t54,t55,t56,t57,t58,t59,.func (.func 121) #[] #[xP Bs],t61,t62,t63,t64,t65,t66,t67,t68,t69,t70,t71,t72,t73,t74,t75,t76,t77,t78,t79,t80,t81,t82,t83,t84,t85,t86,t87,t88,t89,t90,t91,t92,t93,t94,t95,t96,t97,t98,t99,t100,t101,t102,t103,t104],defers:={ target:=.collected D,args:=#[] }::ds } W) :
 (Code.rangeFunc (Operand.tmp 60) #[61,62]
 (Code.region 8
   #[{ dst:=some 7,op:=Op.alloc 84,type:=0,pos:= "compile.go:80",after:=#[],guard:=none },
    { dst:=none,op:=Op.store 84 (Operand.tmp 7) (Operand.tmp 62),type:=0,pos:= "compile.go:80",after:=#[{ on:=0,ground:=Ground.data },{ on:=0,ground:=Ground.phase }],guard:=none }]
   false)
 (Code.block 3
   (Code.region 9
     #[{ dst:=some 63,op:=Op.load 152 (Operand.tmp 2),type:=152,pos:= "compile.go:81",after:=#[],guard:=none },
      { dst:=some 64,op:=Op.load 74 (Operand.tmp 3),type:=74,pos:= "compile.go:81",after:=#[],guard:=none },
      { dst:=some 65,op:=Op.load 84 (Operand.tmp 7),type:=84,pos:= "compile.go:81",after:=#[],guard:=none },
      { dst:=some 66,op:=Op.call { callee:=Callee.value (Operand.func 67),args:=#[Operand.tmp 64,Operand.tmp 65],argTypes:=#[74,84] },type:=2,pos:= "compile.go:81",after:=#[{ on:=1,ground:=Ground.data },{ on:=2,ground:=Ground.data }],guard:=none },
      { dst:=some 67,op:=Op.call { callee:=Callee.value (Operand.func 29),args:=#[Operand.tmp 63,Operand.const (Value.int IntKind.u8 2),Operand.tmp 66],argTypes:=#[152,69,2] },type:=0,pos:= "compile.go:81",after:=#[{ on:=0,ground:=Ground.data },{ on:=3,ground:=Ground.data },{ on:=3,ground:=Ground.chain }],guard:=none }]
     true))).wp prog Q { tmps:=#[t0,t1,xP z,xP (z+1),t4,t5,t6,t7,t8,t9,t10,t11,t12,t13,t14,t15,t16,t17,t18,t19,t20,t21,t22,t23,t24,t25,t26,t27,t28,t29,t30,t31,t32,t33,t34,t35,t36,t37,t38,t39,t40,t41,t42,t43,t44,t45,t46,t47,t48,t49,t50,t51,t52,t53,t54,t55,t56,t57,t58,t59,.func (.func 121) #[] #[xP Bs],t61,t62,t63,t64,t65,t66,t67,t68,t69,t70,t71,t72,t73,t74,t75,t76,t77,t78,t79,t80,t81,t82,t83,t84,t85,t86,t87,t88,t89,t90,t91,t92,t93,t94,t95,t96,t97,t98,t99,t100,t101,t102,t103,t104],defers:=ds } w:=by
 have hcbw:=h0.wl.wi.qi.ck.lt;have hNw:=h0.wl.wi.qi.hN;have hzw:=ze h0.x1;have hfew:c.nd.vars.length<=16:=by obtain⟨_,_,_,_,_,hnt⟩:=h0.wl.wi.qi.sc.nd;exact hnt.few
 obtain⟨xe,cpe,nb,rfl,rfl,hnb⟩:=h0.wl.wi.qi.sc.shape;have hSC:∀{pre:List Nx} {W W':Xw} {row:Xo},NmI N B wb kb qb cb base c (xE xe c cpe) (xP nb) lv K ls z w pre W->W.grownBy W' row->(∀r,row=some r->w.heap.size<=r/\∃o:Obj,W.heap[r]?=some o/\o.isCells=false)->NmI N B wb kb qb cb base c (xE xe c cpe) (xP nb) lv K ls z w pre W':=by intro pre W W' row HI hg hr;have hs:=SCs.of hg hr;obtain⟨h1,h2⟩:=HI.wl.sc hs hcbw hNw;exact⟨h1,HI.ft.sc hs (λk e=>(h2 k).1 e) hg.os hg.tape hg.output,hs.cells HI.x1,hs.cells HI.x2,λe=>HI.n1 ((h2 z).1 e),λe=>HI.n2 ((h2 _).1 e)⟩
 have hKb:∀(W:Xw) (l:Nat) (o o':Obj),w.heap.size<=l->W.heap[l]?=some o->o.isCells=false->o.isWalk=false->KpB N Bs W (W.putObj l o'):=by intro W l o o' hl ho _ _ k hk;have hlt:=(Array.getElem?_eq_some_iff.1 ho).1;exact (grownBy_putObj' W l o').block k (by rcases hk with e|e <;> omega) (λe=>by cases e;rcases hk with e|e <;> omega)
 rw[<- wpIn_wide (n:=9)]
 refine wpIn_rangeFunc_ownH (F:=Fence.wide) (n:=9) rfl (by decide) (gf:=121) (lb:=#[xP Bs]) rfl trivial (enters_of func121 (by kernel_rfl) rfl)
  (zh1 8 (by decide) N Bs gl cl ns ps hgl h63 w hBz hNw hb hc)
  (λh1 h2 k hk=>(h2 k hk).trans (h1 k hk))
  hKb
  (zWQ _ _) (λ_=>rfl)
  (NmI N B wb kb qb cb base c (xE xe c cpe) (xP nb) lv K ls z w) (λ_ _ _=>False)
  (λs A A' row hs hg hr=>hSC hs hg hr) (λ_ _ _ _ _ hs _ _=>hs) h0
  (λx a' W=>∃Bx,xH W Bx #[.string x.2.1,xI (x.2.2:Int)] 84/\a'={ tmps:=#[t0,t1,xP z,xP (z+1),t4,t5,t6,xP Bx,t8,t9,t10,t11,t12,t13,t14,t15,t16,t17,t18,t19,t20,t21,t22,t23,t24,t25,t26,t27,t28,t29,t30,t31,t32,t33,t34,t35,t36,t37,t38,t39,t40,t41,t42,t43,t44,t45,t46,t47,t48,t49,t50,t51,t52,t53,t54,t55,t56,t57,t58,t59,.func (.func 121) #[] #[xP Bs],xI (x.1:Int),.agg #[.string x.2.1,xI (x.2.2:Int)],t63,t64,t65,t66,t67,t68,t69,t70,t71,t72,t73,t74,t75,t76,t77,t78,t79,t80,t81,t82,t83,t84,t85,t86,t87,t88,t89,t90,t91,t92,t93,t94,t95,t96,t97,t98,t99,t100,t101,t102,t103,t104],defers:=[] }) ?hAx ?assign ?body ?done ?stop
 case hAx => rintro x a' _ A A' row ⟨Bx,h1,h2⟩ hg hr;exact⟨Bx,(SCs.of hg hr).cells h1,h2⟩
 case stop => rintro D c' pre W _ _ h _;exact h.elim
 case done => rintro D xs W hD rfl HI hK;exact hQ D W hD HI hK
 case assign =>
  rintro l pre x W Kk HI hK;simp only[zlb,List.zip_toArray,List.zip_cons_cons,List.zip_nil_right,List.size_toArray,zMR,zNb,Nat.zero_add,Nat.reduceAdd,List.foldl_toArray',List.foldl_cons,zr5,zr9,zsa,List.foldl_nil];gi_wp2
  have hzW:=HI.ft.fr.size;exact hK _ _ ((zdj (zq W _)).from _) (λk hk=>zWP _ _ _ (by rcases hk with e|e <;> omega)) (HI.keep (zq W _)) ⟨W.heap.size,zc W _,rfl⟩
 case body =>
  rintro l pre x a' W hl _ HI ⟨Bx,hBx,rfl⟩ hlt;obtain⟨x0,xf,xz⟩:=zu HI.x1;obtain⟨y0,yf,yz⟩:=zu HI.x2;obtain⟨b0,b1,bf,bz⟩:=zp hBx;have hzW:=HI.ft.fr.size;have hidx:=zmN c x.2.1;have hrl:(K.adds (zdh c base pre)).row.length<=1000000:=by rw[Cd.adds_len];simp[zdh];omega
  have HSl:=za (λW' (hB:xB W W')=>zfz x.2.1 (x.2.2:Int) W' (HI.keep hB).wl.wi.qi (by omega) (by omega));have HAd:=za (λW' (hB:xB W W')=>zc7 B wb kb _ 2 ((base+c.idx x.2.1:Nat):Int) W' (HI.keep hB).wl.wi.kw hrl);have hnB':¬CT kb qb W Bs:=HI.ft.not hBz hnB;have HNk:=HI.wl.wi.ktN;clear hBx h0 hb hc hQ hSC hKb hrl;have hfo:prog.follows Departure.mixedOrders=true:=by kernel_rfl
  gi_wp2
  gi_region_with_o (first
   | ((try refine⟨trivial,?_⟩);gi_at_call 29;refine (CallsIn.inRound l (callsIn_wide.2 (HAd.o _ HB2.o))).mono ?_;rintro e w3 ⟨rfl,HK3,HF3⟩)
   | ((try refine⟨trivial,?_⟩);gi_at_call 67;refine (CallsIn.inRound l (callsIn_wide.2 (HSl.o _ (by exact zo (zWQ _ _))))).mono ?_;rintro e w2 ⟨rfl,hB2⟩;have HB2:=za (zw hB2);have x0':=zd HB2.o x0 xz;clear hB2))
  all_goals gi_wp2
  all_goals (try go_bits)
  all_goals
   have hk2:∀k,k=Bs∨k<N->¬KT kb w2 k/\k<W.heap.size:=λk hk=>⟨λe=>by
    have e':=HI.wl.wi.kw.tk HB2.o k e;rcases hk with e2|e2
    . subst e2;exact hnB' (zM3 e')
    have:=HNk k e';omega,by rcases hk with e|e <;> omega⟩
   exact⟨((zdj HB2.o).trans (KW.others (HI.keep HB2.o).wl.wi.kw HF3)).from _,λk hk=>(HF3.fr.block k (zM9 (hk2 k hk).2 HB2.o.size) (hk2 k hk).1).trans (HB2.o.block k (hk2 k hk).2),(HI.keep HB2.o).next x HK3 HF3⟩
end
section
variable {ds:List Deferred} {B0:Nat} {W W':Xw}
theorem WL.others {N B wb kb qb cb base:Nat}{c:Sc}{ev nv lv:Xv}{K:Cd}{ls:List Lt}(h:WL N B wb kb qb cb base c ev nv lv K ls W)(hf:FT (CT kb qb) W W'):KeepsOthers W W':=by
 obtain⟨bv,cv,rv,hI⟩:=h.wi.kw;obtain⟨xs,hrow,_⟩:=h.row;refine⟨hf.fr.size,λk o hk ho=>(hf.fr.block k (Array.getElem?_eq_some_iff.1 hk).1 (λe=>?_)).trans hk⟩;have own:∀{e:Xy} {sz:Nat} {v:Xv} {n:Nat} {xs:Xm},W.ownsRow B e sz v n xs->v.ownBlock=some k->False:=by
  intro e sz v n xs h1 h2;rcases h1.2 with ⟨rfl,_⟩|⟨g,cap,cur,rfl,_,h3,_⟩
  . simp[Value.ownBlock] at h2
  simp[Value.ownBlock] at h2;subst h2;rw[h3] at hk;cases hk;simp[Obj.isCells] at ho
 rcases (h.ct k).1 e with e|e|e
 . rcases (hI.kt k).1 e with e|e|e|e
   . subst e;rw[hI.blk] at hk;cases hk;simp[Obj.isCells] at ho
   . exact own hI.bown e
   . exact own hI.cown e
   exact own hI.rown e
 . subst e;rw[h.wi.qi.blk] at hk;cases hk;simp[Obj.isCells] at ho
 rcases hrow.2 with ⟨rfl,_⟩|⟨g,o',cap,cur,rfl,_,h3,_⟩
 . simp[Value.ownBlock] at e
 simp[Value.ownBlock] at e;subst e;rw[h3] at hk;cases hk;simp[Obj.isCells] at ho
inductive zdd (B0:Nat) (W:Xw):List Deferred->Prop
 | nil:zdd B0 W []
 | cons (D:Nat) (ds:List Deferred) (h1:B0<=D) (h2:W.heap[D]?=some (.deferred (some []))) (h3:∀D',{ target:=.collected D',args:=#[] }∈ds->¬D'=D) (h:zdd B0 W ds):zdd B0 W ({ target:=.collected D,args:=#[] }::ds)
theorem zdd.others (h:zdd B0 W ds)(hk:KeepsOthers W W'):zdd B0 W' ds:=by
 induction h with
 | nil=>exact .nil
 | cons D ds h1 h2 h3 _ ih=>exact .cons D ds h1 (hk.same D _ h2 rfl) h3 ih
theorem zdd.lt (h:zdd B0 W ds):∀D',{ target:=.collected D',args:=#[] }∈ds->D'<W.heap.size:=by
 induction h with
 | nil=>intro D' h;simp at h
 | cons D ds h1 h2 h3 _ ih =>
   intro D' h;rcases zNa.1 h with e|e
   . cases e;exact (Array.getElem?_eq_some_iff.1 h2).1
   exact ih D' e
theorem zfL {P:Program}{fn:Func}{tmps:Xa}{R:Ending->World->Prop}(hR:∀W D o,B0<=D->W.heap[D]?=some (.deferred (some []))->R (.returned (.tuple #[])) W->R (.returned (.tuple #[])) (W.putObj D o))
 (hres:∀W,(results fn tmps).run P W=.ok (.tuple #[]) W):∀(ds:List Deferred) (W:Xw),zdd B0 W ds->R (.returned (.tuple #[])) W->LeavesInM Fence.wide 9 P fn tmps R ds .returning W:=by
 intro ds;induction ds with
 | nil => intro W _ h;exact⟨_,hres W,h⟩
 | cons d ds ih =>
   intro W hd h;cases hd with
   | cons D _ h1 h2 h3 h4 =>
     refine⟨by simp,.inl ⟨D,_,rfl,run_takeDeferred h2,?_⟩⟩;refine ih _ ?_ (hR W D _ h1 h2 h);clear ih h;induction h4 with
     | nil=>exact .nil
     | cons D' ds g1 g2 g3 _ ih' => refine .cons D' ds g1 ?_ g3 (ih' (λD'' hD''=>h3 D'' (zMX _ hD'')));exact ((grownBy_putObj' W D _).block D' (Array.getElem?_eq_some_iff.1 g2).1 (λe=>h3 D' (zMS ..) (by cases e;rfl))).trans g2
theorem zn5 (a:Xp)(n cp:Nat)(w:Xw) :
 xK 66 #[.slice a n cp] w (λe w'=>e=.returned (.func (.func 121) #[] #[xP w.heap.size])/\w'=w.alloc (.cells #[.slice a n cp] 155)):=by
 have hmf:∀(fn:Go.Fn) (first cap:Xa) (w:Xw),(Instr.makeFunc fn first cap).run prog w=.ok (.func fn first cap) w:=λ_ _ _ _=>rfl;go_enter func66,ntmps66;go_wp2;go_ret;exact⟨rfl,rfl⟩
end
section
theorem Tryz.sizeMem (w:Xw):(sizeOf 169).run prog w=.ok 4 w:=by kernel_rfl
theorem WL.pop {N B wb kb qb cb base:Nat}{c:Sc}{ev nv lv lv':Xv}{K:Cd}{m:Lt}{r:List Lt}{W:Xw}(h:WL N B wb kb qb cb base c ev nv lv K (m::r) W)(xs:Xm)(hxs:zeY W N r xs)(hrow:zbj W B 169 4 lv' r.length xs)(hblk:∀k,lv'.ownBlock=some k->lv.ownBlock=some k) :
 WL N B wb kb qb cb base c ev nv lv' K r (W.setCell (xD qb 4) lv')/\FT (CT kb qb) W (W.setCell (xD qb 4) lv'):=by
 obtain⟨bv,cv,rv,hI⟩:=h.wi.kw;have hk:∀k,¬k=qb->(W.setCell (xD qb 4) lv').heap[k]?=W.heap[k]?:=λk hk=>zr hk rfl;have hs:(W.setCell (xD qb 4) lv').heap.size=W.heap.size:=by simp
 have hkt:∀k,KT kb W k->¬k=qb:=λk e e'=>h.wi.nq (e'▸e);have hO:Old N W (W.setCell (xD qb 4) lv'):=λk hk'=>hk k (by have:=h.hNq;omega)
 have hI':KI B wb kb bv cv rv K (W.setCell (xD qb 4) lv') :=
  ⟨(hk _ (λe=>h.dw e.symm)).trans hI.wr,(hk _ (hkt _ ((hI.kt kb).2 (zM3 rfl)))).trans hI.blk,zi hI.bown (λk _ _ e=>hk k (hkt k ((hI.kt k).2 (zM4 (zM3 e))))),zi hI.cown (λk _ _ e=>hk k (hkt k ((hI.kt k).2 (zM4 (zM4 (zM3 e)))))),zi hI.rown (λk _ _ e=>hk k (hkt k ((hI.kt k).2 (zM4 (zM4 (zM4 e)))))),hI.hwb,hI.hkb,hI.dk,hI.d1,hI.d2,by rw[hs];exact hI.hB⟩
 have hktw:∀k,KT kb (W.setCell (xD qb 4) lv') k↔KT kb W k:=λk=>(hI'.kt k).trans (hI.kt k).symm
 have hW:WL N B wb kb qb cb base c ev nv lv' K r (W.setCell (xD qb 4) lv') :=
  ⟨⟨⟨bv,cv,rv,hI'⟩,⟨zh _ _ _ _ h.wi.qi.blk,h.wi.qi.sc.old hO,h.wi.qi.ck.of' (hk _ (λe=>h.dq e.symm)),by rw[hs];exact h.wi.qi.hN⟩,λe=>h.wi.nq ((hktw qb).1 e),λe=>h.wi.nc ((hktw cb).1 e),h.wi.hNk⟩,⟨xs,zbM hrow (λk _ _ e=>hk k (h.dl k (hblk k e)).2.1),hxs.old hO⟩,λk e=>⟨λe'=>(h.dl k (hblk k e)).1 ((hktw k).1 e'),(h.dl k (hblk k e)).2⟩,h.dq,h.dw,h.hNq⟩
 refine⟨hW,⟨rfl,rfl,rfl,by rw[hs];exact zMK _,λk _ hn=>hk k (λe=>hn ((h.ct k).2 (zM4 (zM3 e))))⟩,λk e=>?_⟩;rcases (hW.ct k).1 e with e|e|e
 . exact zM3 ((h.ct k).2 (zM3 ((hktw k).1 e)))
 . exact zM3 ((h.ct k).2 (zM4 (zM3 e)))
 exact zM3 ((h.ct k).2 (zM4 (zM4 (hblk k e))))
end
end Go.Proofs.YtenadialhccdiaaGreatDoor
