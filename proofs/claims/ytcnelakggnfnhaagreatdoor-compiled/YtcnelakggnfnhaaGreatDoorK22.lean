/- Part 23. -/
import Derived.Test.YtcnelakggnfnhaaGreatDoorK21
set_option maxRecDepth 100000
set_option maxHeartbeats 8000000
namespace Go.Proofs.YtcnelakggnfnhaaGreatDoor
open Go.Proofs.Tryz
open Go.RowKit Go.Shelf
section
attribute [local go_sem] Oper.semAt_some
abbrev O9:={ x:Nat×Value // x.1<=1000000 }
def Q4 (x:O9):Array Value:=#[xI (x.1.1:Int),x.1.2]
def Ou (a:Xm)(j:Nat):O9:=⟨(min j 1000000,a[j]?.getD (.pointer none)),by simp;omega⟩
theorem WJ (n:Nat)(R:1<=n)(N l o G:Nat)(D:Xp)(a:Xm)(I:a.length<=1000000)(J y:List O9->World->Prop)
 (L:∀b x W,J b W->b.length<a.length->YieldAt Fence.wide (n-1) prog l (Q4 x) W λe f =>
   (e=.returned (.bool true)/\J (b++[x]) f/\Oz N o W f)∨(e=.returned (.bool false)/\y (b++[x]) f))
 (W:Xw) (r:xC W o 0 (.slice D a.length G)) (M:∀j,j<a.length->∃q,D=some (xD q 0)/\q<N/\xC W q j (a[j]?.getD (.pointer none))) (H:J [] W) :
 CallsIn Fence.wide n prog 199 #[.func (.yield l) #[] #[],xP o] W λe f=>(∃v,e=.returned v) /\
  ((∃E,E=MS (Ou a) a.length a.length/\J E f)∨(∃b,True/\y b f)):=by
 refine callsIn_of_wp func199 rfl trivial ?_ rfl;simp only[ntmps199,List.size_toArray,bJ,cw,Nat.reduceAdd,Nat.reduceSub,Array.replicate_succ,Array.replicate_zero,List.push_toArray,List.append_toArray,List.nil_append,List.cons_append];gi_wp2
 gi_loopw [3] (λi wr=>∃m:Nat,m<=a.length/\i=xI ((m:Int)-1)/\J (MS (Ou a) a.length (a.length-m)) wr/\Oz N o W wr)
  (λi _=>(intOf i+1).toNat)
 case atStart=>exact⟨a.length,an _,by go_num,by rw[Nat.sub_self];exact H,λ_ _=>rfl⟩
 case round =>
  obtain⟨m,Q,rfl,c,d⟩:=hrel;cases m with
  | zero =>
    rw[Nat.sub_zero] at c;gi_wp2
    go_end0;exact⟨⟨_,rfl⟩,.inl ⟨_,rfl,c⟩⟩
  | succ m =>
    rw[show (((m+1:Nat):Int)-1)=(m:Int) by omega];obtain⟨fn,C,p,z,B,K⟩:=L _ (Ou a m) wr c (by rw[QO];omega);obtain⟨q,rfl,t,F⟩:=M m (by omega);have d0:=d.cell (ap t) F;have P:=d.cell (ao rfl) r;have S:(0:Int)<=(m:Int):=(by omega);have T:(m:Int)<(a.length:Int):=(by omega);have g:min m 1000000=m:=(by omega);dsimp only[Q4,Ou] at B;rw[g] at B;gi_wp2
    refine K.mono ?_;have w:MS (Ou a) a.length (a.length-m)=MS (Ou a) a.length (a.length-(m+1))++[Ou a m]:=(by rw[show a.length-m=(a.length-(m+1))+1 by omega,SS,show a.length-1-(a.length-(m+1))=m by omega]);rintro e O (⟨rfl,s,u⟩|⟨rfl,h⟩)
    . gi_wp2
      go_roundw
      case rel=>exact⟨m,by omega,by go_num,by rw[w];exact s,λk A=>(u k A).trans (d k A)⟩
      case measure=>simp[intOf]
    gi_wp2
    refine ab (results_none rfl _ _ _) rfl ?_;exact⟨⟨_,rfl⟩,.inr ⟨_,trivial,h⟩⟩
theorem VL (n:Nat)(u:1<=n)(N b g:Nat)(f:Xp)(a:Xm)(d:a.length<=1000000)(w:Xw)(e:b<w.heap.size)(x:N<=w.heap.size)
 (r:xC w b 0 (.slice f a.length g)) (s:∀j,j<a.length->∃c,f=some (xD c 0)/\c<N/\xC w c j (a[j]?.getD (.pointer none))) :
 SeqStopsK Fence.wide n prog 199 #[xP b] Q4 (Oz N b) (λv=>v=MS (Ou a) a.length a.length) (λ_=>True) a.length w:=λl J i W h _ _ q k=>by
 exact WJ n u N l b g f a d J i q W (zd h r e) (λj t=>by
  obtain⟨c,m,o,p⟩:=s j t;exact⟨c,m,o,zd h p (by omega)⟩) k
theorem W4 (a:Xp)(n c:Nat)(w:Xw) :
 xK 185 #[.slice a n c] w (λe f=>e=.returned (.func (.func 199) #[] #[xP w.heap.size])/\f=w.alloc (.cells #[.slice a n c] 209)):=by
 have d:∀(fn:Go.Fn) (first b:Xa) (w:Xw),(Instr.makeFunc fn first b).run prog w=.ok (.func fn first b) w:=λ_ _ _ _=>rfl;go_enter func185,ntmps185;go_wp2;go_ret;exact⟨rfl,rfl⟩
theorem WL.inner {N B A b j p g a r R:Nat}{c d:Sc}{F P y s z O:Xv}{K D:Cd}{M:List Lt}{Q W f:Xw}(h:WL N B A b j p g c F P y K M W)(i:FT (CT b j) Q W)(ar:Q.heap.size<=a)(S:WL N B A b a r R d s z (.slice none 0 0) K [] W)(x:¬j=a)(u:¬p=a)(v:¬y.ownBlock=some a)
 (Z:WL N B A b a r R d s z O D [] f) (n:FT (CT b a) W f):WL N B A b j p g c F P y D M f/\FT (CT b j) Q f:=by
 have m:∀k,CT b a W k↔KT b W k∨k=a:=λk=>(S.ct k).trans ⟨λe=>by
  rcases e with e|e|e
  . exact ao e
  . exact ap e
  simp[Value.ownBlock] at e,λe=>e.elim ao (λe=>ap (ao e))⟩
 have C:∀k,k<W.heap.size->¬KT b W k->¬k=a->f.heap[k]?=W.heap[k]?:=λk q X Y=>n.fr.block k q (λe=>((m k).1 e).elim X Y);have l:∀k,KT b f k->KT b W k∨k=a∨W.heap.size<=k:=λk e=>by
  rcases n.tk k (ao e) with e|e
  . exact ((m k).1 e).elim ao (λe=>ap (ao e))
  exact ap (ap e)
 have T:bV N W f:=n.am h.wi.qi.hN (λk e=>(S.lt k e).1);obtain⟨xs,o,w⟩:=h.row;have t:∀k,y.ownBlock=some k->k<W.heap.size:=λk e=>(o.lt k e).2;have L:=ze h.wi.qi.aC;have I:¬KT b f j:=λe=>by
  rcases l j e with e|e|e
  . exact h.wi.nq e
  . exact x e
  omega
 have H:¬KT b f p:=λe=>by
  have:=h.wi.qi.ck.lt;rcases l p e with e|e|e
  . exact h.wi.nc e
  . exact u e
  omega
 have J:f.heap[j]?=W.heap[j]?:=C j L h.wi.nq x
 have U:WL N B A b j p g c F P y D M f :=
  ⟨⟨Z.wi.kw,⟨J.trans h.wi.qi.aC,h.wi.qi.sc.am T,h.wi.qi.ck.gh (C p h.wi.qi.ck.lt h.wi.nc u),aJ h.wi.qi.hN n.fr.size⟩,I,H,h.wi.NN⟩,⟨xs,O4 o (λk _ q e=>C k q (h.dl k e).1 (λE=>v (E▸e))),w.am T⟩,λk e=>⟨λE=>by
    have:=t k e;rcases l k E with e2|e2|e2
    . exact (h.dl k e).1 e2
    . exact v (e2▸e)
    omega,(h.dl k e).2⟩,h.dq,h.dw,h.NO⟩
 refine⟨U,⟨n.fr.os.trans i.fr.os,n.fr.tape.trans i.fr.tape,n.fr.output.trans i.fr.output,aJ i.fr.size n.fr.size,λk q V=>?_⟩,λk e=>?_⟩
 . have G:k<W.heap.size:=dD q i.fr.size;refine (C k G (λe=>?_) (by omega)).trans (i.fr.block k q V);exact (i.tk k (ao e)).elim V (λe=>by omega)
 have hz:=i.fr.size;rcases (U.ct k).1 e with e|e|e
 . rcases l k e with e|e|e
   . exact i.tk k (ao e)
   . exact ap (by omega)
   exact ap (by omega)
 . exact i.tk k ((h.ct k).2 (ap (ao e)))
 exact i.tk k ((h.ct k).2 (ap (ap e)))
end
section
variable {K K':Cd} {G:List Lt} {B N p H v q a g f t z kU u:Nat} {k:Nat×Nat} {c d:Sc} {I y E ar J C:Xv} {W m w:Xw}
attribute [local go_sem] Oper.semAt_some
structure MY (N B t a g v H f q p:Nat) (c d:Sc) (I J E y C ar:Xv) (K:Cd) (G:List Lt) (k:Nat×Nat) (z kU u:Nat) (w W:Xw):Prop where
 wl:WL N B t a g v H c I J E K G W
 qi:Ng N f q p d y C ar W
 ft:FT (CT a g) w W
 x1:W.heap[z]?=some (.cells #[xP t] 152 (0,0))
 x2:W.heap[z+1]?=some (.cells #[xI (k.1:Nat),xI (k.2:Nat)] 162 (0,0))
 x3:W.heap[kU]?=some (.cells #[y,C] 73 (0,0))
 x4:W.heap[u]?=some (.cells #[xP f] 68 (0,0))
 n1:¬CT a g W z
 n2:¬CT a g W (z+1)
 n3:¬CT a g W kU
 n4:¬CT a g W u
 n5:¬CT a g W f
 n6:¬CT a g W q
theorem MY.ad (h:MY N B t a g v H f q p c d I J E y C ar K G k z kU u w W)(j:WL N B t a g v H c I J E K' G m)(b:FT (CT a g) W m):MY N B t a g v H f q p c d I J E y C ar K' G k z kU u w m:=by have i:bV N W m:=b.am h.wl.wi.qi.hN (λk e=>(h.wl.lt k e).1);exact⟨j,⟨(b.fr.block _ (ze h.qi.aC) h.n5).trans h.qi.aC,h.qi.sc.am i,h.qi.ck.gh (b.fr.block _ h.qi.ck.lt h.n6),aJ h.qi.hN b.fr.size⟩,h.ft.trans b,(b.fr.block _ (ze h.x1) h.n1).trans h.x1,(b.fr.block _ (ze h.x2) h.n2).trans h.x2,(b.fr.block _ (ze h.x3) h.n3).trans h.x3,(b.fr.block _ (ze h.x4) h.n4).trans h.x4,b.not (ze h.x1) h.n1,b.not (ze h.x2) h.n2,b.not (ze h.x3) h.n3,b.not (ze h.x4) h.n4,b.not (ze h.qi.aC) h.n5,b.not h.qi.ck.lt h.n6⟩
theorem MY.Om (h:MY N B t a g v H f q p c d I J E y C ar K G k z kU u w W)(e:KW B t a K' m)(b:FT (KT a) W m):MY N B t a g v H f q p c d I J E y C ar K' G k z kU u w m:=h.ad (h.wl.N6 e b).1 (h.wl.N6 e b).2
theorem MY.aq (h:MY N B t a g v H f q p c d I J E y C ar K G k z kU u w W)(b:xB W m):MY N B t a g v H f q p c d I J E y C ar K G k z kU u w m:=h.ad (h.wl.aq b) (FT.below b (h.wl.tk b))
theorem MY.sc {j:Nat}(h:MY N B t a g v H f q p c d I J E y C ar K G k z kU u w W)(b:M4 j W m)(o:v<j)(n:q<j)(l:N<=j)(L:w.heap.size<=j)(r:m.os=W.os)(A:m.tape=W.tape)(s:m.output=W.output):MY N B t a g v H f q p c d I J E y C ar K G k z kU u w m:=by obtain⟨D,i⟩:=h.wl.sc b o l;have x:M4 w.heap.size W m:=⟨b.size,λk F e=>b.aC k F (e.imp (λe=>by omega) id)⟩;exact⟨D,⟨b.cells h.qi.aC,h.qi.sc.am (b.am h.qi.hN l),h.qi.ck.gh (b.aC q h.qi.ck.lt (ao n)),aJ h.qi.hN b.size⟩,h.ft.sc x (λk e=>(i k).1 e) r A s,b.cells h.x1,b.cells h.x2,b.cells h.x3,b.cells h.x4,λe=>h.n1 ((i _).1 e),λe=>h.n2 ((i _).1 e),λe=>h.n3 ((i _).1 e),λe=>h.n4 ((i _).1 e),λe=>h.n5 ((i _).1 e),λe=>h.n6 ((i _).1 e)⟩
theorem Ng.inner (h:MY N B t a g v H f q p c d I J E y C (.slice none 0 0) K G k z kU u w W)(b:¬f=q)(j:¬f=t)(i:N<=f):WL N B t a f q p d y C (.slice none 0 0) K [] W :=
 ⟨⟨h.wl.wi.kw,h.qi,λe=>h.n5 (ao e),λe=>h.n6 (ao e),h.wl.wi.NN⟩,⟨[],S0 _ _ _ _,rfl⟩,λk e=>by simp[Value.ownBlock] at e,b,j,i⟩
theorem MY.body (h:MY N B t a g v H f q p c d I J E y C (.slice none 0 0) K G k z kU u w W)(j:¬f=q)(T:¬f=t)(Y:N<=f)(R:w.heap.size<=f)(P:¬v=f)
 (S:WL N B t a f q p d y C ar K' [] m) (Q:FT (CT a f) W m):MY N B t a g v H f q p c d I J E y C ar K' G k z kU u w m:=by
 have U:=Ng.inner h j T Y;have o:¬g=f:=λe=>h.n5 (ap (ao e.symm));have l:∀x,E.ownBlock=some x->¬x=f/\¬x=q:=λx e=>⟨λL=>h.n5 ((h.wl.ct _).2 (ap (ap (L▸e)))),λL=>h.n6 ((h.wl.ct _).2 (ap (ap (L▸e))))⟩;obtain⟨M,X⟩:=h.wl.inner h.ft R U o P (λe=>(l _ e).1 rfl) S Q;have b:∀x,CT a f W x->KT a W x∨x=f:=λx e=>by
  rcases (U.ct x).1 e with e|e|e
  . exact ao e
  . exact ap e
  simp[Value.ownBlock] at e
 have r:¬z=f:=λe=>by have:=h.x1;rw[e,h.qi.aC] at this;cases this
 have s:¬z+1=f:=λe=>by have:=h.x2;rw[e,h.qi.aC] at this;cases this
 have A:¬kU=f:=λe=>by have:=h.x3;rw[e,h.qi.aC] at this;cases this
 have D:¬u=f:=λe=>by have:=h.x4;rw[e,h.qi.aC] at this;cases this
 have F:∀x,x<W.heap.size->¬CT a g W x->¬x=f->m.heap[x]?=W.heap[x]?:=λx V i O=>Q.fr.block x V (λe=>(b x e).elim (λe=>i (ao e)) O);have n:∀x,x<W.heap.size->¬CT a g W x->¬x=f->¬CT a g m x:=λx V i O e=>by
  rcases (M.ct x).1 e with e|e|e
  . rcases Q.tk x (ao e) with e|e
    . exact (b x e).elim (λe=>i (ao e)) O
    omega
  . exact i ((h.wl.ct x).2 (ap (ao e)))
  exact i ((h.wl.ct x).2 (ap (ap e)))
 refine⟨M,S.wi.qi,X,(F _ (ze h.x1) h.n1 r).trans h.x1,(F _ (ze h.x2) h.n2 s).trans h.x2,(F _ (ze h.x3) h.n3 A).trans h.x3,(F _ (ze h.x4) h.n4 D).trans h.x4,n _ (ze h.x1) h.n1 r,n _ (ze h.x2) h.n2 s,n _ (ze h.x3) h.n3 A,n _ (ze h.x4) h.n4 D,λe=>?_,n _ h.qi.ck.lt h.n6 (λe=>j e.symm)⟩;rcases (M.ct f).1 e with e|e|e
 . exact S.wi.nq e
 . exact o e.symm
 exact (l _ e).1 rfl
def N9 (b:Nat)(l:List O9):List (Nat×Int):=l.map λx=>(2,((b+x.1.1:Nat):Int))
theorem Wm (b:Nat)(K:Cd)(e:List O9)(x:O9):(K.fv (N9 b e)).add 2 ((b+x.1.1:Nat):Int)=K.fv (N9 b (e++[x])):=by simp[Cd.add,Cd.fv,N9]
theorem WU (b:Nat)(e:Xm)(h:e.length<=1000000):N9 b (MS (Ou e) e.length e.length)=(List.range e.length).reverse.map λi=>(2,((b+i:Nat):Int)):=by
 unfold N9 MS;rw[List.map_map];apply List.ext_getElem
 . simp
 intro i j l;simp only[List.length_map,List.length_range] at j;simp[Ou];omega
theorem VS {Bs cl:Nat}{xa:Xp}(S:Xm)(bk:p<=1000000)(bg:S.length<=1000000)(bt:K.row.length+S.length<=1000000)
 {Q:Exit->Act->World->Prop} {t0 t1 t2 t3 t5 t6 t7 t8 t9 t11 t12 t13 t14 t15 t16 t17 t18 t19 t20 t21 t22 t23 t24 t25 t26 t27 t28 t29 t30 t31 t32 t34 t35 t36 t37 t38 t39 t40 t41 t42 t43 t44 t45 t46 t47 t48 t49 t50 t51 t52 t53 t54 t55 t56 t57 t58 t59 t60 t61 t62 t63 t64 t65 t66 t67:Xv} {ds:List Deferred} (w0 w:Xw) (V:MY N B t a g v H f q p c d I J E y C ar K G k z kU u w0 w) (aV:Bs<w.heap.size) (bo:¬CT a g w Bs)
 (bs:xC w Bs 0 (.slice xa S.length cl)) (hc:∀j,j<S.length->∃gl,xa=some (xD gl 0)/\gl<N/\xC w gl j (S[j]?.getD (.pointer none)))
 (bq:∀(D:Nat) (W:Xw),w.heap.size<=D->MY N B t a g v H f q p c d I J E y C ar (K.fv (N9 p (MS (Ou S) S.length S.length))) G k z kU u w0 W->W.heap[D]?=some (.deferred (some []))->Q .normal { tmps:=#[t0,t1,t2,t3,xP z,t5,t6,t7,t8,t9,xP u,t11,t12,t13,t14,t15,t16,t17,t18,t19,t20,t21,t22,t23,t24,t25,t26,t27,t28,t29,t30,t31,t32,.func (.func 199) #[] #[xP Bs],t34,t35,t36,t37,t38,t39,t40,t41,t42,t43,t44,t45,t46,t47,t48,t49,t50,t51,t52,t53,t54,t55,t56,t57,t58,t59,t60,t61,t62,t63,t64,t65,t66,t67],defers:={ target:=.collected D,args:=#[] }::ds } W) :
 (Code.rangeFunc (Operand.tmp 33) #[34,35]
 (Code.region 4
   #[{ dst:=some 11,op:=Op.assign (Operand.tmp 34),type:=3,pos:= "compile.go:158",after:=#[],guard:=none }]
   false)
 (Code.block 1
   (Code.region 5
     #[{ dst:=some 36,op:=Op.load 152 (Operand.tmp 4),type:=152,pos:= "compile.go:159",after:=#[],guard:=none },
      { dst:=some 37,op:=Op.load 68 (Operand.tmp 10),type:=68,pos:= "compile.go:159",after:=#[],guard:=none },
      { dst:=some 38,op:=Op.move (Operand.tmp 11),type:=3,pos:= "compile.go:159",after:=#[],guard:=none },
      { dst:=some 39,op:=Op.call { callee:=Callee.value (Operand.func 122),args:=#[Operand.tmp 37,Operand.tmp 38],argTypes:=#[68,3] },type:=2,pos:= "compile.go:159",after:=#[{ on:=1,ground:=Ground.data },{ on:=2,ground:=Ground.data }],guard:=none },
      { dst:=some 40,op:=Op.call { callee:=Callee.value (Operand.func 27),args:=#[Operand.tmp 36,Operand.const (Value.int IntKind.u8 2),Operand.tmp 39],argTypes:=#[152,63,2] },type:=0,pos:= "compile.go:159",after:=#[{ on:=0,ground:=Ground.data },{ on:=3,ground:=Ground.data },{ on:=3,ground:=Ground.chain }],guard:=none }]
     true))).wp prog Q { tmps:=#[t0,t1,t2,t3,xP z,t5,t6,t7,t8,t9,xP u,t11,t12,t13,t14,t15,t16,t17,t18,t19,t20,t21,t22,t23,t24,t25,t26,t27,t28,t29,t30,t31,t32,.func (.func 199) #[] #[xP Bs],t34,t35,t36,t37,t38,t39,t40,t41,t42,t43,t44,t45,t46,t47,t48,t49,t50,t51,t52,t53,t54,t55,t56,t57,t58,t59,t60,t61,t62,t63,t64,t65,t66,t67],defers:=ds } w:=by
 have T:=V.wl.wi.qi.ck.lt;have a2:=V.qi.ck.lt;have X:=V.wl.wi.qi.hN;have bC:=ze V.x1;have bp:=V.ft.fr.size;have a1:∀{i:List O9} {W m:Xw} {O:Xo},MY N B t a g v H f q p c d I J E y C ar (K.fv (N9 p i)) G k z kU u w0 W/\FT (CT a g) w W->W.grownBy m O->(∀r,O=some r->w.heap.size<=r/\∃o:Obj,W.heap[r]?=some o/\o.isCells=false)->MY N B t a g v H f q p c d I J E y C ar (K.fv (N9 p i)) G k z kU u w0 m/\FT (CT a g) w m:=by intro i W m O L P a6;have Z:=M4.of P a6;exact⟨L.1.sc Z T a2 X bp P.os P.tape P.output,L.2.sc Z (λk e=>((L.1.wl.sc Z T X).2 k).1 e) P.os P.tape P.output⟩
 have a0:∀(W:Xw) (l:Nat) (o o':Obj),w.heap.size<=l->W.heap[l]?=some o->o.isCells=false->o.isWalk=false->Oz N Bs W (W.putObj l o'):=by intro W l o o' bx bA _ _ k M;have bl:=(Array.getElem?_eq_some_iff.1 bA).1;exact (grownBy_putObj' W l o').block k (by rcases M with e|e <;> omega) (λe=>by cases e;rcases M with e|e <;> omega)
 rw[<- wpIn_wide (n:=9)]
 refine wpIn_rangeFunc_ownH (F:=Fence.wide) (n:=9) rfl (by decide) (gf:=199) (lb:=#[xP Bs]) rfl trivial (enters_of func199 (by kernel_rfl) rfl)
  (VL 8 (by decide) N Bs cl xa S bg w aV X bs hc)
  (λh1 h2 k M=>(h2 k M).trans (h1 k M))
  a0
  (yS _ _) (λ_=>rfl)
  (λi W=>MY N B t a g v H f q p c d I J E y C ar (K.fv (N9 p i)) G k z kU u w0 W/\FT (CT a g) w W) (λ_ _ _=>False)
  (λs A A' O Z P a6=>a1 Z P a6) (λ_ _ _ _ _ Z _ _=>Z) ⟨by rw[show N9 p []=[] from rfl,Cd.Rc];exact V,FT.below (yS _ _) (λ_ e=>e)⟩
  (λx a' W=>a'={ tmps:=#[t0,t1,t2,t3,xP z,t5,t6,t7,t8,t9,xP u,xI (x.1.1:Int),t12,t13,t14,t15,t16,t17,t18,t19,t20,t21,t22,t23,t24,t25,t26,t27,t28,t29,t30,t31,t32,.func (.func 199) #[] #[xP Bs],xI (x.1.1:Int),x.1.2,t36,t37,t38,t39,t40,t41,t42,t43,t44,t45,t46,t47,t48,t49,t50,t51,t52,t53,t54,t55,t56,t57,t58,t59,t60,t61,t62,t63,t64,t65,t66,t67],defers:=[] }) ?hAx ?assign ?body ?done ?stop
 case hAx => rintro x a' _ A A' O h2 P a6;exact h2
 case stop => rintro D c' i W _ _ h _;exact h.elim
 case done => rintro D xs W hD rfl L hK;exact bq D W hD L.1 hK
 case assign =>
  rintro l i x W bL L hK;simp only[Q4,List.zip_toArray,List.zip_cons_cons,List.zip_nil_right,List.size_toArray,bJ,cw,Nat.zero_add,Nat.reduceAdd,List.foldl_toArray',List.foldl_cons,K7,Q5,Mb,List.foldl_nil];gi_wp2
  exact hK _ _ ((Qa (yS _ _)).from _) (λk M=>rfl) L rfl
 case body =>
  rintro l i x a' W bx _ ⟨L,U⟩ rfl bl;obtain⟨x0,bY,bK⟩:=zu L.x1;obtain⟨b0,b1,b3⟩:=zu L.x4;have bB:=U.fr.size;have hx:=x.2;have a4:(K.fv (N9 p i)).row.length<=1000000:=by rw[Cd.ON];simp[N9];omega
  have be:=za (λm (hB:xB W m)=>Qb x.1.1 m (L.aq hB).qi bk hx);have a9:=za (λm (hB:xB W m)=>O5 B t a _ 2 ((p+x.1.1:Nat):Int) m (L.aq hB).wl.wi.kw a4);have a3:¬CT a g W Bs:=U.not aV bo;have bb:=L.wl.wi.Pe;clear V bs hc bq a1 a0 a4;have bv:prog.follows Departure.mixedOrders=true:=by kernel_rfl
  gi_wp2
  gi_region_with_o (first
   | ((try refine⟨trivial,?_⟩);gi_at_call 27;refine (CallsIn.inRound l (callsIn_wide.2 (a9.o _ b.o))).mono ?_;rintro e w3 ⟨rfl,aA,R⟩)
   | ((try refine⟨trivial,?_⟩);gi_at_call 122;refine (CallsIn.inRound l (callsIn_wide.2 (be.o _ (by exact zo (yS _ _))))).mono ?_;rintro e w2 ⟨rfl,aL⟩;have b:aa (xB W w2):=(by rw[<- aL];exact zo (yS _ _));have bE:=zd b.o x0 bK;clear aL))
  all_goals gi_wp2
  all_goals (try go_bits)
  all_goals
   have Y:∀k,k=Bs∨k<N->¬KT a w2 k/\k<W.heap.size:=λk M=>⟨λe=>by
    have e':=L.wl.wi.kw.tk b.o k e;rcases M with e2|e2
    . subst e2;exact a3 (ao e')
    have:=bb k e';omega,by rcases M with e|e <;> omega⟩
   have a5:=(L.aq b.o).Om aA R;rw[Wm] at a5;exact⟨((Qa b.o).trans (KW.others (L.aq b.o).wl.wi.kw R)).from _,λk M=>(R.fr.block k (dD (Y k M).2 b.o.size) (Y k M).1).trans (b.o.block k (Y k M).2),a5,(U.trans (FT.below b.o (L.wl.tk b.o))).trans ((L.aq b.o).wl.N6 aA R).2⟩
end
end Go.Proofs.YtcnelakggnfnhaaGreatDoor
