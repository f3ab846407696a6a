/- Part 21. -/
import Derived.Test.YtcnelakggnfnhaaGreatDoorK19
set_option maxRecDepth 100000
set_option maxHeartbeats 8000000
namespace Go.Proofs.YtcnelakggnfnhaaGreatDoor
open Go.Proofs.Tryz
open Go.RowKit Go.Shelf
section
variable {K:Cd} {ls:List Lt} {f:List Nx} {B N a p b i m z:Nat} {c:Sc} {q lv t:Xv} {W d w:Xw}
attribute [local go_sem] Oper.semAt_some
theorem KW.others (h:KW B m b K W)(u:FT (KT b) W d):KeepsOthers W d:=by
 obtain⟨G,H,I,r⟩:=h;refine⟨u.fr.size,λk o l x=>(u.fr.block k (Array.getElem?_eq_some_iff.1 l).1 (λe=>?_)).trans l⟩;have j:∀{e:Xy} {y:Nat} {v:Xv} {n:Nat} {A:Xm},W.ownsRow B e y v n A->v.ownBlock=some k->False:=by
  intro e y v n A E s;rcases E.2 with ⟨rfl,_⟩|⟨g,C,D,rfl,_,F,_⟩
  . simp[Value.ownBlock] at s
  simp[Value.ownBlock] at s;subst s;rw[F] at l;cases l;simp[Obj.isCells] at x
 rcases (r.kt k).1 e with e|e|e|e
 . subst e;rw[r.aC] at l;cases l;simp[Obj.isCells] at x
 . exact j r.xv e
 . exact j r.hQ e
 exact j r.zA e
def Ny (c:Sc)(a:Nat)(l:List Nx):List (Nat×Int):=l.map λx=>(2,((a+c.idx x.2.1:Nat):Int))
structure Of (N B m b i p a:Nat) (c:Sc) (q t lv:Xv) (K:Cd) (ls:List Lt) (z:Nat) (w:Xw) (f:List Nx) (W:Xw):Prop where
 wl:WL N B m b i p a c q t lv (K.fv (Ny c a f)) ls W
 ft:FT (CT b i) w W
 x1:W.heap[z]?=some (.cells #[xP m] 152 (0,0))
 x2:W.heap[z+1]?=some (.cells #[xP i] 68 (0,0))
 n1:¬CT b i W z
 n2:¬CT b i W (z+1)
theorem Of.aq (h:Of N B m b i p a c q t lv K ls z w f W)(g:xB W d):Of N B m b i p a c q t lv K ls z w f d :=
 ⟨h.wl.aq g,h.ft.trans (FT.below g (h.wl.tk g)),(g.block _ (ze h.x1)).trans h.x1,(g.block _ (ze h.x2)).trans h.x2,λe=>h.n1 (h.wl.tk g _ e),λe=>h.n2 (h.wl.tk g _ e)⟩
theorem Wn (c:Sc)(a:Nat)(K:Cd)(f:List Nx)(x:Nx):(K.fv (Ny c a f)).add 2 ((a+c.idx x.2.1:Nat):Int)=K.fv (Ny c a (f++[x])):=by simp[Cd.add,Cd.fv,Ny]
theorem Of.next (x:Nx)(h:Of N B m b i p a c q t lv K ls z w f W)(g:KW B m b ((K.fv (Ny c a f)).add 2 ((a+c.idx x.2.1:Nat):Int)) d)(k:FT (KT b) W d):Of N B m b i p a c q t lv K ls z w (f++[x]) d:=by rw[Wn] at g;obtain⟨j,e⟩:=h.wl.N6 g k;exact⟨j,h.ft.trans e,(e.fr.block _ (ze h.x1) h.n1).trans h.x1,(e.fr.block _ (ze h.x2) h.n2).trans h.x2,e.not (ze h.x1) h.n1,e.not (ze h.x2) h.n2⟩
theorem Qa (h:xB W d):KeepsOthers W d:=⟨h.size,λk _ e _=>(h.block k (Array.getElem?_eq_some_iff.1 e).1).trans e⟩
theorem VY {Bs gl cl:Nat}(C:Xl)(ps:Xn)(a2:a<=100000)(a3:gl<N)(a1:C.length<=1000000)(bo:K.row.length+C.length<=1000000)
 {Q:Exit->Act->World->Prop} {t0 t1 t4 t5 t6 t7 t8 t9 t10 t11 t12 t13 t14 t15 t16 t17 t18 t19 t20 t21 t22 t23 t24 t25 t26 t27 t28 t29 t30 t31 t32 t33 t34 t35 t36 t37 t38 t39 t40 t41 t42 t43 t44 t45 t46 t47 t48 t49 t50 t51 t52 t53 t54 t55 t56 t57 t58 t59 t61 t62 t63 t64 t65 t66 t67 t68 t69 t70 t71 t72 t73 t74 t75 t76 t77 t78 t79 t80 t81 t82 t83 t84 t85 t86 t87 t88 t89 t90 t91 t92 t93 t94 t95 t96 t97 t98 t99 t100 t101 t102 t103 t104:Xv} {ds:List Deferred} (w:Xw) (J:Of N B m b i p a c q t lv K ls z w [] w) (S:Bs<w.heap.size) (a5:¬CT b i w Bs)
 (bg:xC w Bs 0 (xS gl C.length cl)) (hc:∀j,j<C.length->xC w gl (j*2) (.string (C[j]?.getD ⟨#[]⟩))/\xC w gl (j*2+1) (xI (ps[j]?.getD 0:Nat)))
 (be:∀(D:Nat) (W:Xw),w.heap.size<=D->Of N B m b i p a c q t lv K ls z w (MS (NJ C ps) C.length C.length) W->W.heap[D]?=some (.deferred (some []))->Q .normal { tmps:=#[t0,t1,xP z,xP (z+1),t4,t5,t6,t7,t8,t9,t10,t11,t12,t13,t14,t15,t16,t17,t18,t19,t20,t21,t22,t23,t24,t25,t26,t27,t28,t29,t30,t31,t32,t33,t34,t35,t36,t37,t38,t39,t40,t41,t42,t43,t44,t45,t46,t47,t48,t49,t50,t51,t52,t53,t54,t55,t56,t57,t58,t59,.func (.func 128) #[] #[xP Bs],t61,t62,t63,t64,t65,t66,t67,t68,t69,t70,t71,t72,t73,t74,t75,t76,t77,t78,t79,t80,t81,t82,t83,t84,t85,t86,t87,t88,t89,t90,t91,t92,t93,t94,t95,t96,t97,t98,t99,t100,t101,t102,t103,t104],defers:={ target:=.collected D,args:=#[] }::ds } W) :
 (Code.rangeFunc (Operand.tmp 60) #[61,62]
 (Code.region 8
   #[{ dst:=some 7,op:=Op.alloc 78,type:=0,pos:= "compile.go:80",after:=#[],guard:=none },
    { dst:=none,op:=Op.store 78 (Operand.tmp 7) (Operand.tmp 62),type:=0,pos:= "compile.go:80",after:=#[{ on:=0,ground:=Ground.data },{ on:=0,ground:=Ground.phase }],guard:=none }]
   false)
 (Code.block 3
   (Code.region 9
     #[{ dst:=some 63,op:=Op.load 152 (Operand.tmp 2),type:=152,pos:= "compile.go:81",after:=#[],guard:=none },
      { dst:=some 64,op:=Op.load 68 (Operand.tmp 3),type:=68,pos:= "compile.go:81",after:=#[],guard:=none },
      { dst:=some 65,op:=Op.load 78 (Operand.tmp 7),type:=78,pos:= "compile.go:81",after:=#[],guard:=none },
      { dst:=some 66,op:=Op.call { callee:=Callee.value (Operand.func 63),args:=#[Operand.tmp 64,Operand.tmp 65],argTypes:=#[68,78] },type:=2,pos:= "compile.go:81",after:=#[{ on:=1,ground:=Ground.data },{ on:=2,ground:=Ground.data }],guard:=none },
      { dst:=some 67,op:=Op.call { callee:=Callee.value (Operand.func 27),args:=#[Operand.tmp 63,Operand.const (Value.int IntKind.u8 2),Operand.tmp 66],argTypes:=#[152,63,2] },type:=0,pos:= "compile.go:81",after:=#[{ on:=0,ground:=Ground.data },{ on:=3,ground:=Ground.data },{ on:=3,ground:=Ground.chain }],guard:=none }]
     true))).wp prog Q { tmps:=#[t0,t1,xP z,xP (z+1),t4,t5,t6,t7,t8,t9,t10,t11,t12,t13,t14,t15,t16,t17,t18,t19,t20,t21,t22,t23,t24,t25,t26,t27,t28,t29,t30,t31,t32,t33,t34,t35,t36,t37,t38,t39,t40,t41,t42,t43,t44,t45,t46,t47,t48,t49,t50,t51,t52,t53,t54,t55,t56,t57,t58,t59,.func (.func 128) #[] #[xP Bs],t61,t62,t63,t64,t65,t66,t67,t68,t69,t70,t71,t72,t73,t74,t75,t76,t77,t78,t79,t80,t81,t82,t83,t84,t85,t86,t87,t88,t89,t90,t91,t92,t93,t94,t95,t96,t97,t98,t99,t100,t101,t102,t103,t104],defers:=ds } w:=by
 have X:=J.wl.wi.qi.ck.lt;have U:=J.wl.wi.qi.hN;have bv:=ze J.x1;have bk:c.nd.ak.length<=16:=by obtain⟨_,_,_,_,_,a6⟩:=J.wl.wi.qi.sc.nd;exact a6.bO
 obtain⟨bb,I,nb,rfl,rfl,bs⟩:=J.wl.wi.qi.sc.shape;have V:∀{f:List Nx} {W d:Xw} {y:Xo},Of N B m b i p a c (xE bb c I) (xP nb) lv K ls z w f W->W.grownBy d y->(∀r,y=some r->w.heap.size<=r/\∃o:Obj,W.heap[r]?=some o/\o.isCells=false)->Of N B m b i p a c (xE bb c I) (xP nb) lv K ls z w f d:=by intro f W d y g E Z;have G:=M4.of E Z;obtain⟨O,L⟩:=g.wl.sc G X U;exact⟨O,g.ft.sc G (λk e=>(L k).1 e) E.os E.tape E.output,G.cells g.x1,G.cells g.x2,λe=>g.n1 ((L z).1 e),λe=>g.n2 ((L _).1 e)⟩
 have T:∀(W:Xw) (l:Nat) (o o':Obj),w.heap.size<=l->W.heap[l]?=some o->o.isCells=false->o.isWalk=false->Oz N Bs W (W.putObj l o'):=by intro W l o o' bq bt _ _ k v;have a4:=(Array.getElem?_eq_some_iff.1 bt).1;exact (grownBy_putObj' W l o').block k (by rcases v with e|e <;> omega) (λe=>by cases e;rcases v with e|e <;> omega)
 rw[<- wpIn_wide (n:=9)]
 refine wpIn_rangeFunc_ownH (F:=Fence.wide) (n:=9) rfl (by decide) (gf:=128) (lb:=#[xP Bs]) rfl trivial (enters_of func128 (by kernel_rfl) rfl)
  (VF 8 (by decide) N Bs gl cl C ps a3 a1 w S U bg hc)
  (λO L k v=>(L k v).trans (O k v))
  T
  (yS _ _) (λ_=>rfl)
  (Of N B m b i p a c (xE bb c I) (xP nb) lv K ls z w) (λ_ _ _=>False)
  (λs A A' y G E Z=>V G E Z) (λ_ _ _ _ _ G _ _=>G) J
  (λx a' W=>∃Bx,xH W Bx #[.string x.2.1,xI (x.2.2:Int)] 78/\a'={ tmps:=#[t0,t1,xP z,xP (z+1),t4,t5,t6,xP Bx,t8,t9,t10,t11,t12,t13,t14,t15,t16,t17,t18,t19,t20,t21,t22,t23,t24,t25,t26,t27,t28,t29,t30,t31,t32,t33,t34,t35,t36,t37,t38,t39,t40,t41,t42,t43,t44,t45,t46,t47,t48,t49,t50,t51,t52,t53,t54,t55,t56,t57,t58,t59,.func (.func 128) #[] #[xP Bs],xI (x.1:Int),.agg #[.string x.2.1,xI (x.2.2:Int)],t63,t64,t65,t66,t67,t68,t69,t70,t71,t72,t73,t74,t75,t76,t77,t78,t79,t80,t81,t82,t83,t84,t85,t86,t87,t88,t89,t90,t91,t92,t93,t94,t95,t96,t97,t98,t99,t100,t101,t102,t103,t104],defers:=[] }) ?hAx ?assign ?body ?done ?stop
 case hAx => rintro x a' _ A A' y ⟨Bx,O,L⟩ E Z;exact⟨Bx,(M4.of E Z).cells O,L⟩
 case stop => rintro D c' f W _ _ h _;exact h.elim
 case done => rintro D xs W hD rfl g hK;exact be D W hD g hK
 case assign =>
  rintro l f x W bB g hK;simp only[Q3,List.zip_toArray,List.zip_cons_cons,List.zip_nil_right,List.size_toArray,bJ,cw,Nat.zero_add,Nat.reduceAdd,List.foldl_toArray',List.foldl_cons,K7,Q5,Mb,List.foldl_nil];gi_wp2
  have a9:=g.ft.fr.size;exact hK _ _ ((Qa (zq W _)).from _) (λk v=>mm _ _ _ (by rcases v with e|e <;> omega)) (g.aq (zq W _)) ⟨W.heap.size,zc W _,rfl⟩
 case body =>
  rintro l f x a' W bq _ g ⟨Bx,R,rfl⟩ a4;obtain⟨x0,bK,bA⟩:=zu g.x1;obtain⟨bL,bY,b2⟩:=zu g.x2;obtain⟨b0,b1,bC,bE⟩:=zp R;have a9:=g.ft.fr.size;have bl:=O8 c x.2.1;have ar:(K.fv (Ny c a f)).row.length<=1000000:=by rw[Cd.ON];simp[Ny];omega
  have a0:=za (λd (hB:xB W d)=>RE x.2.1 (x.2.2:Int) d (g.aq hB).wl.wi.qi (by omega) (by omega));have aA:=za (λd (hB:xB W d)=>O5 B m b _ 2 ((a+c.idx x.2.1:Nat):Int) d (g.aq hB).wl.wi.kw ar);have Y:¬CT b i W Bs:=g.ft.not S a5;have aV:=g.wl.wi.Pe;clear R J bg hc be V T ar;have bp:prog.follows Departure.mixedOrders=true:=by kernel_rfl
  gi_wp2
  gi_region_with_o (first
   | ((try refine⟨trivial,?_⟩);gi_at_call 27;refine (CallsIn.inRound l (callsIn_wide.2 (aA.o _ u.o))).mono ?_;rintro e w3 ⟨rfl,aL,H⟩)
   | ((try refine⟨trivial,?_⟩);gi_at_call 63;refine (CallsIn.inRound l (callsIn_wide.2 (a0.o _ (by exact zo (yS _ _))))).mono ?_;rintro e w2 ⟨rfl,P⟩;have u:=za (zw P);have bx:=zd u.o x0 bA;clear P))
  all_goals gi_wp2
  all_goals (try go_bits)
  all_goals
   have M:∀k,k=Bs∨k<N->¬KT b w2 k/\k<W.heap.size:=λk v=>⟨λe=>by
    have e':=g.wl.wi.kw.tk u.o k e;rcases v with e2|e2
    . subst e2;exact Y (ao e')
    have:=aV k e';omega,by rcases v with e|e <;> omega⟩
   exact⟨((Qa u.o).trans (KW.others (g.aq u.o).wl.wi.kw H)).from _,λk v=>(H.fr.block k (dD (M k v).2 u.o.size) (M k v).1).trans (u.o.block k (M k v).2),(g.aq u.o).next x aL H⟩
end
section
variable {b:List Deferred} {B0:Nat} {W f:Xw}
theorem WL.others {N B G w x z i:Nat}{c:Sc}{A F E:Xv}{K:Cd}{D:List Lt}(h:WL N B G w x z i c A F E K D W)(u:FT (CT w x) W f):KeepsOthers W f:=by
 obtain⟨H,I,L,j⟩:=h.wi.kw;obtain⟨t,l,_⟩:=h.row;refine⟨u.fr.size,λk o a m=>(u.fr.block k (Array.getElem?_eq_some_iff.1 a).1 (λe=>?_)).trans a⟩;have d:∀{e:Xy} {y:Nat} {v:Xv} {n:Nat} {t:Xm},W.ownsRow B e y v n t->v.ownBlock=some k->False:=by
  intro e y v n t C r;rcases C.2 with ⟨rfl,_⟩|⟨g,p,q,rfl,_,s,_⟩
  . simp[Value.ownBlock] at r
  simp[Value.ownBlock] at r;subst r;rw[s] at a;cases a;simp[Obj.isCells] at m
 rcases (h.ct k).1 e with e|e|e
 . rcases (j.kt k).1 e with e|e|e|e
   . subst e;rw[j.aC] at a;cases a;simp[Obj.isCells] at m
   . exact d j.xv e
   . exact d j.hQ e
   exact d j.zA e
 . subst e;rw[h.wi.qi.aC] at a;cases a;simp[Obj.isCells] at m
 rcases l.2 with ⟨rfl,_⟩|⟨g,J,p,q,rfl,_,s,_⟩
 . simp[Value.ownBlock] at e
 simp[Value.ownBlock] at e;subst e;rw[s] at a;cases a;simp[Obj.isCells] at m
inductive NS (B0:Nat) (W:Xw):List Deferred->Prop
 | nil:NS B0 W []
 | cons (D:Nat) (b:List Deferred) (h1:B0<=D) (h2:W.heap[D]?=some (.deferred (some []))) (h3:∀D',{ target:=.collected D',args:=#[] }∈b->¬D'=D) (h:NS B0 W b):NS B0 W ({ target:=.collected D,args:=#[] }::b)
theorem NS.others (h:NS B0 W b)(e:KeepsOthers W f):NS B0 f b:=by
 induction h with
 | nil=>exact .nil
 | cons D b a c d _ g=>exact .cons D b a (e.same D _ c rfl) d g
theorem NS.lt (h:NS B0 W b):∀a,{ target:=.collected a,args:=#[] }∈b->a<W.heap.size:=by
 induction h with
 | nil=>intro a h;simp at h
 | cons D b g c i _ d =>
   intro a h;rcases cC.1 h with e|e
   . cases e;exact (Array.getElem?_eq_some_iff.1 c).1
   exact d a e
theorem SM {P:Program}{fn:Func}{a:Xa}{R:Ending->World->Prop}(u:∀W D o,B0<=D->W.heap[D]?=some (.deferred (some []))->R (.returned (.tuple #[])) W->R (.returned (.tuple #[])) (W.putObj D o))
 (g:∀W,(results fn a).run P W=.ok (.tuple #[]) W):∀(b:List Deferred) (W:Xw),NS B0 W b->R (.returned (.tuple #[])) W->LeavesInM Fence.wide 9 P fn a R b .returning W:=by
 intro b;induction b with
 | nil => intro W _ h;exact⟨_,g W,h⟩
 | cons d b p =>
   intro W v h;cases v with
   | cons D _ s m n t =>
     refine⟨by simp,.inl ⟨D,_,rfl,run_takeDeferred m,?_⟩⟩;refine p _ ?_ (u W D _ s m h);clear p h;induction t with
     | nil=>exact .nil
     | cons i b q l r _ k => refine .cons i b q ?_ r (k (λj c=>n j (cS _ c)));exact ((grownBy_putObj' W D _).block i (Array.getElem?_eq_some_iff.1 l).1 (λe=>n i (Mx ..) (by cases e;rfl))).trans l
theorem WB (a:Xp)(n d:Nat)(w:Xw) :
 xK 62 #[.slice a n d] w (λe h=>e=.returned (.func (.func 128) #[] #[xP w.heap.size])/\h=w.alloc (.cells #[.slice a n d] 156)):=by
 have g:∀(fn:Go.Fn) (first c:Xa) (w:Xw),(Instr.makeFunc fn first c).run prog w=.ok (.func fn first c) w:=λ_ _ _ _=>rfl;go_enter func62,ntmps62;go_wp2;go_ret;exact⟨rfl,rfl⟩
end
section
theorem Tryz.Uu (w:Xw):(sizeOf 170).run prog w=.ok 4 w:=by kernel_rfl
theorem WL.pop {N B q l b p g:Nat}{c:Sc}{t w D lv':Xv}{K:Cd}{m:Lt}{r:List Lt}{W:Xw}(h:WL N B q l b p g c t w D K (m::r) W)(x:Xm)(v:OK W N r x)(o:Ni W B 170 4 lv' r.length x)(d:∀k,lv'.ownBlock=some k->D.ownBlock=some k) :
 WL N B q l b p g c t w lv' K r (W.setCell (xD b 4) lv')/\FT (CT l b) W (W.setCell (xD b 4) lv'):=by
 obtain⟨y,z,E,a⟩:=h.wi.kw;have i:∀k,¬k=b->(W.setCell (xD b 4) lv').heap[k]?=W.heap[k]?:=λk i=>zr i rfl;have u:(W.setCell (xD b 4) lv').heap.size=W.heap.size:=by simp
 have j:∀k,KT l W k->¬k=b:=λk e s=>h.wi.nq (s▸e);have A:bV N W (W.setCell (xD b 4) lv'):=λk F=>i k (by have:=h.NO;omega)
 have n:KI B q l y z E K (W.setCell (xD b 4) lv') :=
  ⟨(i _ (λe=>h.dw e.symm)).trans a.wr,(i _ (j _ ((a.kt l).2 (ao rfl)))).trans a.aC,zi a.xv (λk _ _ e=>i k (j k ((a.kt k).2 (ap (ao e))))),zi a.hQ (λk _ _ e=>i k (j k ((a.kt k).2 (ap (ap (ao e)))))),zi a.zA (λk _ _ e=>i k (j k ((a.kt k).2 (ap (ap (ap e)))))),a.MF,a.MC,a.dk,a.d1,a.d2,by rw[u];exact a.hB⟩
 have f:∀k,KT l (W.setCell (xD b 4) lv') k↔KT l W k:=λk=>(n.kt k).trans (a.kt k).symm
 have C:WL N B q l b p g c t w lv' K r (W.setCell (xD b 4) lv') :=
  ⟨⟨⟨y,z,E,n⟩,⟨zh _ _ _ _ h.wi.qi.aC,h.wi.qi.sc.am A,h.wi.qi.ck.gh (i _ (λe=>h.dq e.symm)),by rw[u];exact h.wi.qi.hN⟩,λe=>h.wi.nq ((f b).1 e),λe=>h.wi.nc ((f p).1 e),h.wi.NN⟩,⟨x,O4 o (λk _ _ e=>i k (h.dl k (d k e)).2.1),v.am A⟩,λk e=>⟨λs=>(h.dl k (d k e)).1 ((f k).1 s),(h.dl k (d k e)).2⟩,h.dq,h.dw,h.NO⟩
 refine⟨C,⟨rfl,rfl,rfl,by rw[u];exact an _,λk _ G=>i k (λe=>G ((h.ct k).2 (ap (ao e))))⟩,λk e=>?_⟩;rcases (C.ct k).1 e with e|e|e
 . exact ao ((h.ct k).2 (ao ((f k).1 e)))
 . exact ao ((h.ct k).2 (ap (ao e)))
 exact ao ((h.ct k).2 (ap (ap (d k e))))
end
end Go.Proofs.YtcnelakggnfnhaaGreatDoor
