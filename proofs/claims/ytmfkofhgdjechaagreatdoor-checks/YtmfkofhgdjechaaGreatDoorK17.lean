/- Part 18 of the proof. -/
import Derived.Carry
import Derived.Deep.MidRow
import Derived.LaidEql
import Derived.RowKitTokens
import Derived.Stop.Asserts
import Derived.Test.YtmfkofhgdjechaaGreatDoorK16
set_option maxRecDepth 100000
set_option maxHeartbeats 8000000
namespace Go.Proofs.YtmfkofhgdjechaaGreatDoor
open Go.Proofs.Tryz
section
open Go.RowKit
variable {N j l a m d g:Nat} {S:Xs} {f:Xo} {c:Sc} {n r p x:Xv} {w w':Xw}
attribute [local go_sem ↓] Go.wp_at_zero Go.wp_at_succ
theorem zS {W:Xw}{b i:Nat}{v:Xv}(h:Fr (RT d a) w W)(o:w.cell? (xD b i)=some v)(q:¬b=d)(s:¬b=a):W.cell? (xD b i)=some v:=by
 have k:b<w.heap.size:=by
  rcases Nat.lt_or_ge b w.heap.size with h|h
  . exact h
  simp[World.cell?,Array.getElem?_eq_none h] at o
 exact (World.cell?_of_block (w:=w) (h.block b k (λe=>by rcases e with e|e;exact q e;exact s e))).trans o
structure b5 (S:Xs) (m d a g:Nat) (p n:Xv) (N:Nat) (c:Sc) (r x:Xv) (j l:Nat) (f:Xo) (w:Xw):Prop where
 rp:cl S m d a g p n f w
 sc:br w N c r x
 x1:w.heap[j]?=some (.cells #[r,x] 205 (0,0))
 x2:w.heap[l]?=some (.cells #[bT d a g] 200 (0,0))
 d1:¬j=d
 d2:¬j=a
 d3:¬l=d
 d4:¬l=a
 l1:N<=d
 l2:N<=a
 hN:N<=w.heap.size
theorem b5.aq (h:b5 S m d a g p n N c r x j l f w)(b:xB w w'):b5 S m d a g p n N c r x j l f w' :=
 ⟨h.rp.aq b,h.sc.am (zm b h.hN),(b.block _ (ze h.x1)).trans h.x1,(b.block _ (ze h.x2)).trans h.x2,h.d1,h.d2,h.d3,h.d4,h.l1,h.l2,aJ h.hN b.size⟩
theorem b5.aX {i:Xo}(h:b5 S m d a g p n N c r x j l f w)(u:cl S m d a g p n i w')(o:Fr (RT d a) w w'):b5 S m d a g p n N c r x j l i w':=by
 have q:∀{b},¬b=d->¬b=a->¬RT d a b:=λs t e=>by rcases e with e|e;exact s e;exact t e
 exact⟨u,h.sc.am (o.am h.hN (λk e=>by rcases e with e|e;exact e▸h.l1;exact e▸h.l2)),(o.block _ (ze h.x1) (q h.d1 h.d2)).trans h.x1,(o.block _ (ze h.x2) (q h.d3 h.d4)).trans h.x2,h.d1,h.d2,h.d3,h.d4,h.l1,h.l2,aJ h.hN o.size⟩
theorem b5.am (h:b5 S m d a g p n N c r x j l f w)(b:Fr (RT d a) w w'):bV N w w':=b.am h.hN (λk e=>by rcases e with e|e;exact e▸h.l1;exact e▸h.l2)
theorem zy {T:Xj}(h:xB w w'):Fr T w w':=Fr.dp h
theorem KH:zH 111:=λ_ _=>by kernel_rfl
theorem K0:zH 105:=λ_ _=>by kernel_rfl
theorem It (S:Xs)(m d a g:Nat)(p n:Xv)(N:Nat)(c:Sc)(ds:eU c)(r x:Xv)(j l:Nat)(bx:∀q∈c.nd.eqs,gN c q.r)(l1:N<=d)(l2:N<=a) :
 nX N (RT d a) 111 #[xP j,xP l] (gN c) c.nd (λf _ t=>(fT c t).foldl aj f) (b5 S m d a g p n N c r x j l) where
 enters:=KH
 hT:=λk e=>by rcases e with e|e;exact e▸l1;exact e▸l2
 aq:=λs w w' h bE=>h.aq bE
 sub:=λt u h hu=>h.sub hu
 root:=bx
 call:=by
  intro q lv fv t v f w fd c1 hT ex hN a3 c2;have cm:=za a3;have cs:=za hT;obtain⟨Z,H,Y,rfl,rfl,eb⟩:=a3.sc.shape;obtain⟨b,c0,vs,rfl,cv,a4,_⟩:=hT.ptr;have bs:=ze a4;have V:=za a4;obtain⟨es,dn,rfl⟩:=zB c1.own;obtain⟨rb,_,_,rfl,_⟩:=c1.tt.ptr;obtain⟨er,fq,fr⟩:=c2 _ (nL b8 _);have fV:=ze a3.x1;have z2:=ze a3.x2;have d1:=a3.d1;have d2:=a3.d2;have d3:=a3.d3;have d4:=a3.d4;have c4:¬b=d:=by omega
  have c3:¬b=a:=by omega
  have bk:=za (λW (bE:xB w W)=>Hs W (hT.am (zm bE hN)));have be:=za (λW (bE:bV N w W) (eq:N<=W.heap.size) (em:br W N c (xE Z c H) (xP Y))=>Hi ds t (xP b) W (cs.o.am bE) em eq c2)
  show Calls prog _ #[.agg #[.slice es q.ns.length dn,xI q.a,xP rb],xP b,xP j,xP l] w _;have ak:∀o,b5 S m d a g p n N c (xE Z c H) (xP Y) j l f (w.alloc o)/\xB w (w.alloc o):=λo=>⟨cm.o.aq (zq w o),zq w o⟩;have bl:=za ak;cases I:j3 t.k with
  | false =>
    have J:aa (∀f:Xo,(fT c t).foldl aj f=(if c.operands t=true then [] else [t.a]).foldl aj f):=by
     intro f;unfold fT;have:(ch t.k&&t.k != 3&&c.decl t.s != 1)=false:=by unfold j3 at I;rw[I];rfl
     rw[this];rfl
    have J:=za (J.o f);go_enter func111,ntmps111;go_upto_region 1 with fail;refine zn (λW=>b5 S m d a g p n N c (xE Z c H) (xP Y) j l f W/\xB w W) (bl.o _) ?_;rintro W ⟨B,E⟩;obtain⟨b4,s1,ca,ck⟩:=zp B.x1;obtain⟨ar,b3,a0⟩:=zu B.x2;obtain⟨m0,m1,m2,m3,m4,m5,b0,al⟩:=zt ((E.block b bs).trans V.o);have X:=za B;have Q:=za E;have a2:=za (λc5=>nA (bk.o (W.drewN c5) (zI E c5)));rw[I] at a2;go_quiet ((go_at_call 112;exact a2.o _));go_upto_region 3 with fail;refine zn (λU=>b5 S m d a g p n N c (xE Z c H) (xP Y) j l f U/\Fr (RT d a) w U) ⟨X.o.aq (zI (Below.refl _ _) _),zy (zI Q.o _)⟩ ?_;rintro U ⟨y,M⟩;obtain⟨b4,s1,ca,ck⟩:=zp y.x1;obtain⟨ar,b3,a0⟩:=zu y.x2;have O:=cm.o.am M;obtain⟨m0,m1,m2,m3,m4,m5,b0,al⟩:=zt ((O b cv).trans V.o);have C:=za y;have L:=za M;have K:=za (be.o U O y.hN y.sc);cases P:c.operands t with
    | true => rw[P] at K J;go_wp2_with (go_at_call 113;refine K.o.mono ?_;rintro e a9 ⟨rfl,D⟩;have i:=za D);go_ret;refine⟨rfl,?_,L.o.trans (zy i.o)⟩;rw[J.o];exact C.o.aq i.o
    | false =>
      rw[P] at K J;go_upto_region 4 with (go_at_call 113;refine K.o.mono ?_;rintro e a9 ⟨rfl,D⟩;have i:=za D);have g1:=zd i.o ar a0;have g2:=zd i.o m1 al;have A:=za (eg S m d a g p n f t.a a9.drew ((C.o.aq i.o).rp.aq (zo (Below.refl _ _))));unfold bT at g1
      go_region_held3 (λw'=>w'.cell? (xD l 0)=some (.func (.func 124) #[] #[xP d,xP a,xP g])/\w'.cell? (xD b 1)=some (xI t.a))
       (first|(with_reducible (refine⟨?_,?_⟩ <;> repeat (first|assumption|refine zg ?_|refine zS z.o ?_ (by omega) (by omega))))|go_keep)
       (first
         | (go_at_call 124;refine (A.o).mono ?_;rintro e c9 ⟨rfl,T,F⟩;have R:=za T;have z:=za F.cQ))
      go_wp2_with fail;go_ret;refine⟨rfl,?_,(L.o.trans (zy i.o)).trans z.o⟩;rw[J.o];exact (C.o.aq i.o).aX R.o z.o
  | true =>
    have a5:c.has t.s=true:=er (by unfold j3 at I;simp at I;exact I.1);by_cases bt:c.decl t.s=1
    . have J:aa (∀f:Xo,(fT c t).foldl aj f=(if c.operands t=true then [] else [t.a]).foldl aj f):=by
       intro f;unfold fT;have:(ch t.k&&t.k != 3&&c.decl t.s != 1)=false:=by rw[bt];simp
       rw[this];rfl
      have J:=za (J.o f);have bL:((c.decl t.s:Int) != 1)=false:=(by simp[bt]);go_enter func111,ntmps111;go_upto_region 1 with fail;refine zn (λW=>b5 S m d a g p n N c (xE Z c H) (xP Y) j l f W/\xB w W) (bl.o _) ?_;rintro W ⟨B,E⟩;obtain⟨b4,s1,ca,ck⟩:=zp B.x1;obtain⟨ar,b3,a0⟩:=zu B.x2;obtain⟨m0,m1,m2,m3,m4,m5,b0,al⟩:=zt ((E.block b bs).trans V.o);have X:=za B;have Q:=za E;have a2:=za (bk.o W.drew (zo E));rw[I] at a2;have K:=za (me t.s (t.nm:Int) W.drew (B.sc.am (λ_ _=>rfl)) (by show N<=W.heap.size;exact B.hN) a5)
      go_region_held3 (λw'=>w'.cell? (xD j 0)=some (xE Z c H)/\w'.cell? (xD j 1)=some (xP Y)/\w'.cell? (xD b 2)=some (.string t.s)/\w'.cell? (xD b 3)=some (xI t.nm))
       (first|(with_reducible (refine⟨?_,?_,?_,?_⟩ <;> repeat (first|assumption|refine zg ?_|refine zj _ ?_|refine zk (by omega) ?_|refine zd G.o ?_ (by first|omega|(rw[au];omega)))))|go_keep)
       (first
         | (go_at_call 109;refine K.o.mono ?_;rintro e cn ⟨rfl,bp⟩;have G:=za (zw bp))
         | (go_at_call 112;refine a2.o.mono ?_;rintro e cn ⟨rfl,rfl⟩))
      go_upto_region 3 with fail;refine zn (λU=>b5 S m d a g p n N c (xE Z c H) (xP Y) j l f U/\Fr (RT d a) w U) ⟨X.o.aq G.o,zy (Q.o.trans (G.o.mono Q.o.size))⟩ ?_;rintro U ⟨y,M⟩;obtain⟨b4,s1,ca,ck⟩:=zp y.x1;obtain⟨ar,b3,a0⟩:=zu y.x2;have O:=cm.o.am M;obtain⟨m0,m1,m2,m3,m4,m5,b0,al⟩:=zt ((O b cv).trans V.o);have C:=za y;have L:=za M;have K:=za (be.o U O y.hN y.sc);cases P:c.operands t with
      | true => rw[P] at K J;go_wp2_with (go_at_call 113;refine K.o.mono ?_;rintro e a9 ⟨rfl,D⟩;have i:=za D);go_ret;refine⟨rfl,?_,L.o.trans (zy i.o)⟩;rw[J.o];exact C.o.aq i.o
      | false =>
        rw[P] at K J;go_upto_region 4 with (go_at_call 113;refine K.o.mono ?_;rintro e a9 ⟨rfl,D⟩;have i:=za D);have g1:=zd i.o ar a0;have g2:=zd i.o m1 al;have A:=za (eg S m d a g p n f t.a a9.drew ((C.o.aq i.o).rp.aq (zo (Below.refl _ _))));unfold bT at g1
        go_region_held3 (λw'=>w'.cell? (xD l 0)=some (.func (.func 124) #[] #[xP d,xP a,xP g])/\w'.cell? (xD b 1)=some (xI t.a))
         (first|(with_reducible (refine⟨?_,?_⟩ <;> repeat (first|assumption|refine zg ?_|refine zS z.o ?_ (by omega) (by omega))))|go_keep)
         (first
           | (go_at_call 124;refine (A.o).mono ?_;rintro e c9 ⟨rfl,T,F⟩;have R:=za T;have z:=za F.cQ))
        go_wp2_with fail;go_ret;refine⟨rfl,?_,(L.o.trans (zy i.o)).trans z.o⟩;rw[J.o];exact (C.o.aq i.o).aX R.o z.o
    have J:aa (∀f:Xo,(fT c t).foldl aj f=(if c.operands t=true then [] else [t.a]).foldl aj (aj f t.nm)):=by
     intro f;unfold fT;have:(ch t.k&&t.k != 3&&c.decl t.s != 1)=true:=by unfold j3 at I;rw[I];simp[bt]
     rw[this];rfl
    have J:=za (J.o f);have bL:((c.decl t.s:Int) != 1)=true:=(by simp;omega);go_enter func111,ntmps111;go_upto_region 1 with fail;refine zn (λW=>b5 S m d a g p n N c (xE Z c H) (xP Y) j l f W/\xB w W) (bl.o _) ?_;rintro W ⟨B,E⟩;obtain⟨b4,s1,ca,ck⟩:=zp B.x1;obtain⟨ar,b3,a0⟩:=zu B.x2;obtain⟨m0,m1,m2,m3,m4,m5,b0,al⟩:=zt ((E.block b bs).trans V.o);have X:=za B;have Q:=za E;have a2:=za (bk.o W.drew (zo E));rw[I] at a2;have K:=za (me t.s (t.nm:Int) W.drew (B.sc.am (λ_ _=>rfl)) (by show N<=W.heap.size;exact B.hN) a5)
    go_region_held3 (λw'=>w'.cell? (xD j 0)=some (xE Z c H)/\w'.cell? (xD j 1)=some (xP Y)/\w'.cell? (xD b 2)=some (.string t.s)/\w'.cell? (xD b 3)=some (xI t.nm))
     (first|(with_reducible (refine⟨?_,?_,?_,?_⟩ <;> repeat (first|assumption|refine zg ?_|refine zj _ ?_|refine zk (by omega) ?_|refine zd G.o ?_ (by first|omega|(rw[au];omega)))))|go_keep)
     (first
       | (go_at_call 109;refine K.o.mono ?_;rintro e cn ⟨rfl,bp⟩;have G:=za (zw bp))
       | (go_at_call 112;refine a2.o.mono ?_;rintro e cn ⟨rfl,rfl⟩))
    go_upto_region 2 with fail;have g1:=zd G.o ar a0;have g2:=zd G.o m3 al;have A:=za (eg S m d a g p n f t.nm cn.drew ((X.o.aq G.o).rp.aq (zo (Below.refl _ _))));unfold bT at g1
    go_region_held3 (λw'=>w'.cell? (xD l 0)=some (.func (.func 124) #[] #[xP d,xP a,xP g])/\w'.cell? (xD b 3)=some (xI t.nm))
     (first|(with_reducible (refine⟨?_,?_⟩ <;> repeat (first|assumption|refine zg ?_|refine zS z.o ?_ (by omega) (by omega))))|go_keep)
     (first
       | (go_at_call 124;refine (A.o).mono ?_;rintro e fx ⟨rfl,T,F⟩;have R:=za T;have z:=za F.cQ))
    go_upto_region 3 with fail;refine zn (λU=>b5 S m d a g p n N c (xE Z c H) (xP Y) j l (aj f t.nm) U/\Fr (RT d a) w U) ⟨(X.o.aq G.o).aX R.o z.o,(zy (Q.o.trans (G.o.mono Q.o.size))).trans z.o⟩ ?_;rintro U ⟨y,M⟩;obtain⟨b4,s1,ca,ck⟩:=zp y.x1;obtain⟨ar,b3,a0⟩:=zu y.x2;have O:=cm.o.am M;obtain⟨m0,m1,m2,m3,m4,m5,b0,al⟩:=zt ((O b cv).trans V.o);have C:=za y;have L:=za M;have K:=za (be.o U O y.hN y.sc);cases P:c.operands t with
    | true => rw[P] at K J;go_wp2_with (go_at_call 113;refine K.o.mono ?_;rintro e a9 ⟨rfl,D⟩;have i:=za D);go_ret;refine⟨rfl,?_,L.o.trans (zy i.o)⟩;rw[J.o];exact C.o.aq i.o
    | false =>
      rw[P] at K J;go_upto_region 4 with (go_at_call 113;refine K.o.mono ?_;rintro e a9 ⟨rfl,D⟩;have i:=za D);have g1:=zd i.o ar a0;have g2:=zd i.o m1 al;have A:=za (eg S m d a g p n (aj f t.nm) t.a a9.drew ((C.o.aq i.o).rp.aq (zo (Below.refl _ _))));unfold bT at g1
      go_region_held3 (λw'=>w'.cell? (xD l 0)=some (.func (.func 124) #[] #[xP d,xP a,xP g])/\w'.cell? (xD b 1)=some (xI t.a))
       (first|(with_reducible (refine⟨?_,?_⟩ <;> repeat (first|assumption|refine zg ?_|refine zS z.o ?_ (by omega) (by omega))))|go_keep)
       (first
         | (go_at_call 124;refine (A.o).mono ?_;rintro e c9 ⟨rfl,T,F⟩;have R:=za T;have z:=za F.cQ))
      go_wp2_with fail;go_ret;refine⟨rfl,?_,(L.o.trans (zy i.o)).trans z.o⟩;rw[J.o];exact (C.o.aq i.o).aX R.o z.o
end
section
open Go.RowKit
variable {k:Nat}
attribute [local go_sem ↓] Go.wp_at_zero Go.wp_at_succ
theorem G8 (c:Sc):∀(a b:List Vr),eI c (a++b)=eI c a++eI c b:=by
 intro a;induction a with
 | nil=>intro b;rfl
 | cons v a d=>intro b;rw[List.cons_append,eI,eI,d,bw]
theorem kN {α:Type}{l:List α}{v:α}(h:l[k]?=some v):l.take (k+1)=l.take k++[v]:=by obtain⟨a,b⟩:=aB.1 h;rw[List.take_succ_eq_append_getElem a,b]
structure ka (c:Sc):Prop where
 root:∀q∈c.nd.eqs,gN c q.r
 ck:∀v∈c.nd.ab,ba v≠0->c.has v.ck=true
 left:∀q∈c.nd.eqs,∀s∈q.ns,c.has s=true
 many:∀q∈c.nd.eqs,2<=q.ns.length->∃d,c.called q.r.s=some d/\d.nd.aG=q.ns.length
theorem IM {N:Nat}{c:Sc}{m p:Xv}(i:eU c)(b:ka c)(q:Qn)(a:q∈c.nd.eqs)(f g:Xv)(w:Xw)(n:hB w N q f g)(h:br w N c m p)(o:N<=w.heap.size) :
 xK 110 #[.agg #[m,p],.agg #[f,xI q.a,g]] w (λe t=>e=.returned (.bool (c.holds q))/\xB w t):=by
 obtain⟨l,u,v,x⟩:=i.nd.eqs q a;by_cases r:q.ns.length=1
 . exact Im i q f g w n h o (b.root q a) (b.left q a) l r
 obtain⟨d,s,j⟩:=b.many q a (by omega);exact HV i q f g w n h o (b.left q a) l (by omega) s j
theorem xU {α:Type}{l:List α}{v:α}(f:α->List Nat)(h:l[k]?=some v)(a:Xo):((l.take (k+1)).flatMap f).foldl aj a=(f v).foldl aj (((l.take k).flatMap f).foldl aj a):=by rw[kN h,List.flatMap_append,bc];simp
theorem xx {α:Type}(f:α->List Nat):∀(l:List α) (b:Xo),l.foldl (λb x=>(f x).foldl aj b) b=(l.flatMap f).foldl aj b:=by
 intro l;induction l with
 | nil=>intro b;rfl
 | cons a l c=>intro b;rw[List.foldl_cons,List.flatMap_cons,bc,c]
theorem HB (S:Xs)(G r p y:Nat)(n d:Xv)(N:Nat)(c:Sc)(cn:eU c)(b4:ka c)(ev cv:Xv)(x:Xo)(w:Xw)(hR:cl S G r p y n d x w)(h:br w N c ev cv)(hN:N<=w.heap.size)(l1:N<=r)(l2:N<=p) :
 xK 55 #[.agg #[ev,cv],bT r p y] w (λe w'=>e=.returned (.tuple #[])/\cl S G r p y n d (c.eP.foldl aj x) w'/\Fr (RT r p) w w'):=by
 obtain⟨R,u,C,rfl,rfl,es⟩:=h.shape;have fd:=ze hR.l;have ex:=ze hR.b;have Y:∀be bk,((w.alloc be).alloc bk).heap[w.heap.size]?=some be/\((w.alloc be).alloc bk).heap[w.heap.size+1]?=some bk:=λbe bk=>mO w be bk
 have b0:b5 S G r p y n d N c (xE R c u) (xP C) w.heap.size (w.heap.size+1) x ((w.alloc (.cells #[xE R c u,xP C] 205)).alloc (.cells #[bT r p y] 200)) :=
  ⟨hR.aq (cT w _ _),h.am (j8 hN _ _),(Y _ _).1,(Y _ _).2,by omega,by omega,by omega,by omega,l1,l2,by simp;omega⟩
 have V:=za b0;obtain⟨fq,vs,qv,xs,ds,f⟩:=h.nd;cases ds;obtain⟨xv,c5,rfl⟩:=zB f.bZ;obtain⟨h2,c4,rfl⟩:=zB f.own;have cs:=f.bO;have eb:c.nd.eqs.length<=9223372036854775807:=by
  rcases f.own.2 with ⟨_,h⟩|⟨g,L,c9,hv,_,_,h3,h4,_⟩
  . omega
  unfold maxLen at h4;omega
 have X:aa (c.eP.foldl aj x=((c.nd.eqs.flatMap λq=>(bh b8 q.r).flatMap (fT c))).foldl aj ((c.nd.eqs.flatMap λq=>if c.holds q=true then [] else [q.a]).foldl aj ((eI c c.nd.ab).foldl aj x))):=by unfold aa Sc.eP;rw[bc,bc]
 have a5:(eI c (c.nd.ab.take 0)).foldl aj x=x:=rfl;have I:=za (zy (T:=RT r p) (cT w (.cells #[xE R c u,xP C] 205) (.cells #[bT r p y] 200)));unfold bT at V I ⊢;go_enter func55,ntmps55;go_upto_region 1 with fail;refine zn (λW=>b5 S G r p y n d N c (xE R c u) (xP C) w.heap.size (w.heap.size+1) x W/\Fr (RT r p) w W) ⟨V.o,I.o⟩ ?_;rintro W ⟨ak,Z⟩;have bx:=za ak;have bs:=za Z;obtain⟨hm,s1,hu,hw⟩:=zp ak.x1;have b1:=Z.am hN (λk e=>by rcases e with e|e;exact e▸l1;exact e▸l2);obtain⟨m0,m1,m2,m3,m4,m5,g4,g5⟩:=zt ((b1 C f.lo).trans f.aC);have cm:=za a5;go_wp2_with fail;go_loopg [15] (c.nd.ab.length+1) (λj i wr=>∃k:Nat,k+j=c.nd.ab.length+1/\k<=c.nd.ab.length/\i=xI k/\aa (b5 S G r p y n d N c (xE R c u) (xP C) w.heap.size (w.heap.size+1) ((eI c (c.nd.ab.take k)).foldl aj x) wr)/\aa (Fr (RT r p) w wr));case atStart=>exact⟨0,by omega,aE _,rfl,bx.o,bs.o⟩
 case round =>
  obtain⟨k,b3,eq,rfl,a,l⟩:=hrel;have B:=l.o.am hN (λk e=>by rcases e with e|e;exact e▸l1;exact e▸l2);obtain⟨fr,fv,fx,fV⟩:=zp a.o.x1;obtain⟨bl,gc,ck⟩:=zu a.o.x2;unfold bT at bl;have M:=a.o.hN;by_cases Q:k<c.nd.ab.length
  . obtain⟨v,hv⟩:∃v,c.nd.ab[k]?=some v:=⟨_,av Q⟩;obtain⟨g,rfl,c1,c2,c3,gs,gt,g1,g2⟩:=hj (f.am B).bZ hv;have b2:=f.jc g rfl;have O:eI c (c.nd.ab.take (k+1))=eI c (c.nd.ab.take k)++((if (ba v != 0&&c.decl v.ck != 1)=true then [v.on] else [])++[]):=by rw[kN hv,G8];rfl
    have a2:w.heap.size<wr.heap.size+1:=(by omega);have a3:w.heap.size+1<wr.heap.size+1:=(by omega);by_cases F:ba v=0
    . have a4:((ba v:Int) != 0)=false:=(by simp[F]);have A:aa (∀s:Xo,(eI c (c.nd.ab.take (k+1))).foldl aj s=(eI c (c.nd.ab.take k)).foldl aj s):=(by intro s;rw[O];simp[F]);have A:=za (A.o x);generalize ba v=sg at *;go_wp2_with fail;go_roundg (gk-1);case measure=>omega
      refine⟨k+1,by omega,by omega,by go_num,?_,l.o.alloc _⟩;rw[A.o];exact a.o.aq (zq wr _)
    have a4:((ba v:Int) != 0)=true:=(by simp;omega);have a0:=b4.ck v (aM hv) F;have J:=za (λo=>me v.ck (v.ca:Int) (wr.alloc o) (a.o.aq (zq wr o)).sc (by simp;omega) a0);by_cases P:c.decl v.ck=1
    . have A:aa (∀s:Xo,(eI c (c.nd.ab.take (k+1))).foldl aj s=(eI c (c.nd.ab.take k)).foldl aj s):=(by intro s;rw[O];simp[P]);have A:=za (A.o x);have ar:((c.decl v.ck:Int) != 1)=false:=(by simp[P]);generalize ba v=sg at *;generalize c.decl v.ck=dn at *;go_wp2_with (go_at_call 109;refine (J.o _).mono ?_;rintro e U ⟨rfl,m⟩;have b:=za (zE m));go_roundg (gk-1);case measure=>omega
      refine⟨k+1,by omega,by omega,by go_num,?_,l.o.trans (zy b.o)⟩;rw[A.o];exact a.o.aq b.o
    have A:aa (∀s:Xo,(eI c (c.nd.ab.take (k+1))).foldl aj s=aj ((eI c (c.nd.ab.take k)).foldl aj s) v.on):=(by intro s;rw[O,bc];simp[P,F]);have A:=za (A.o x);have ar:((c.decl v.ck:Int) != 1)=true:=(by simp;omega);generalize ba v=sg at *;generalize c.decl v.ck=dn at *
    go_wp2_with (first
     | (go_at_call 124;refine t.o.mono ?_;rintro e ge ⟨rfl,K,z⟩)
     | (go_at_call 109;refine (J.o _).mono ?_;rintro e U ⟨rfl,m⟩;obtain⟨x0,x1,x2,x3,hQ,hT,h0,gl,go⟩:=eK ((m.block wr.heap.size (by simp)).trans (zc wr _));have b:=za (zE m);have g0:=zd b.o bl ck;have t:=za (eg S G r p y n d _ v.on U (a.o.aq b.o).rp)))
    go_roundg (gk-1);case measure=>omega
    refine⟨k+1,by omega,by omega,by go_num,?_,(l.o.trans (zy b.o)).trans z⟩;rw[A.o];exact (a.o.aq b.o).aX K z
  have bL:k=c.nd.ab.length:=by omega
  subst bL;rw[List.take_length] at a;obtain⟨H,a9⟩:∃H,(eI c c.nd.ab).foldl aj x=H:=⟨_,rfl⟩;rw[a9] at a X;obtain⟨g6,n1,n2,n3,g7,g8,g9,he⟩:=zt ((B C f.lo).trans f.aC);go_wp2_with fail;go_loopg [44] (c.nd.eqs.length+1) (λj i c0=>∃k:Nat,k+j=c.nd.eqs.length+1/\k<=c.nd.eqs.length/\i=xI k/\aa (b5 S G r p y n d N c (xE R c u) (xP C) w.heap.size (w.heap.size+1) (((c.nd.eqs.take k).flatMap λq=>if c.holds q=true then [] else [q.a]).foldl aj H) c0)/\aa (Fr (RT r p) w c0));case atStart=>exact⟨0,by omega,aE _,rfl,a.o,l.o⟩
  case round =>
   obtain⟨k,b3,eq,rfl,a,l⟩:=hrel;have B:=l.o.am hN (λk e=>by rcases e with e|e;exact e▸l1;exact e▸l2);obtain⟨fr,fv,fx,fV⟩:=zp a.o.x1;obtain⟨bl,gc,ck⟩:=zu a.o.x2;unfold bT at bl;have M:=a.o.hN;by_cases Q:k<c.nd.eqs.length
   . obtain⟨q,ca⟩:∃q,c.nd.eqs[k]?=some q:=⟨_,av Q⟩;have al:=f.am B;obtain⟨g,lv,hg,rfl,c1,c2,c3,HEq⟩:=lj al.own al.eqs ca rfl;obtain⟨rb,_,_,rfl,_⟩:=HEq.tt.ptr;obtain⟨h1,g3,rfl⟩:=zB HEq.own;have b2:=f.ko g rfl;have J:=za (λo=>IM cn b4 q (aM ca) _ _ (wr.alloc o) (HEq.am (mm M o)) (a.o.aq (zq wr o)).sc (by simp;omega));have D:=za (xU (λq=>if c.holds q=true then [] else [q.a]) ca H);have a2:w.heap.size<wr.heap.size+1:=(by omega);have a3:w.heap.size+1<wr.heap.size+1:=(by omega);cases E:c.holds q with
     | true =>
       simp only[E] at D;rw[E] at J;go_wp2_with (go_at_call 110;refine (J.o _).mono ?_;rintro e U ⟨rfl,m⟩;have b:=za (zE m));go_roundg (gk-1);case measure=>omega
       refine⟨k+1,by omega,by omega,by go_num,?_,l.o.trans (zy b.o)⟩;rw[D.o];exact a.o.aq b.o
     | false =>
       simp only[E] at D;rw[E] at J
       go_wp2_with (first
        | (go_at_call 124;refine t.o.mono ?_;rintro e ge ⟨rfl,K,z⟩)
        | (go_at_call 110;refine (J.o _).mono ?_;rintro e U ⟨rfl,m⟩;obtain⟨x0,x1,x2,gl,go⟩:=zL ((m.block wr.heap.size (by simp)).trans (zc wr _));have b:=za (zE m);have g0:=zd b.o bl ck;have t:=za (eg S G r p y n d _ q.a U (a.o.aq b.o).rp)))
       go_roundg (gk-1);case measure=>omega
       refine⟨k+1,by omega,by omega,by go_num,?_,(l.o.trans (zy b.o)).trans z⟩;rw[D.o];exact (a.o.aq b.o).aX K z
   have bL:k=c.nd.eqs.length:=(by omega);subst bL;rw[List.take_length] at a;have em:=It S G r p y n d N c cn (xE R c u) (xP C) w.heap.size (w.heap.size+1) b4.root l1 l2;have bE:=za (rD em C _ _ xs _ wr (f.am B) M (λk e=>by have:=l.o.size;rcases e with e|e <;> omega) a.o);have er:∀(fn:Go.Fn) (first L:Xa) (w:Xw),(Instr.makeFunc fn first L).run prog w=.ok (.func fn first L) w:=λ_ _ _ _=>rfl;go_wp2_with (go_at_call 104;refine bE.o.mono ?_;rintro e U ⟨rfl,bt,bp⟩);go_end0;refine⟨rfl,?_,l.o.trans bp⟩;rw[X.o];have:=bt.rp;simp only[xx] at this;exact this
end
section
variable {c:Sc} {u:Tm} {g:Tm->Bool}
theorem HP:∀{a:List Tm},u∈cN g a->∃t∈a,u∈bh g t:=by
 intro a;induction a with
 | nil=>intro h;rw[cN] at h;cases h
 | cons x a e =>
   intro h;rw[cN] at h;rcases bj.1 h with h|h
   . exact⟨x,ce,h⟩
   obtain⟨t,b,d⟩:=e h;exact⟨t,cS _ b,d⟩
theorem Wf.BP {t:Tm}(h:Wf t)(hu:u∈bh g t):Wf u:=by
 induction h generalizing u with
 | mk k a s nm n i h e f =>
   rw[bh] at hu;rcases cC.1 hu with rfl|hu
   . exact Wf.mk k a s nm n i h e
   split at hu
   . obtain⟨t,b,d⟩:=HP hu;exact f t b d
   cases hu
theorem HQ:∀{l:List Vr} {i:Nat},dQ c l i=[]->∀v∈l,ba v≠0->c.has v.ck=true:=by
 intro l;induction l with
 | nil=>intro i _ v hv;cases hv
 | cons x l e =>
   intro i h v hv b;rw[dQ,ec,ec] at h;rcases cC.1 hv with rfl|hv
   . have a:=h.1.2;cases d:c.has v.ck with
     | true=>rfl
     | false=>rw[d] at a;simp[b] at a
   exact e h.2 v hv b
theorem xM:∀{a:Xl} {b:Xn},a.length=b.length->z7 c a b=[]->∀s∈a,c.has s=true/\¬c.idx s<c.nd.ah:=by
 intro a;induction a with
 | nil=>intro b _ _ s hs;cases hs
 | cons x a j =>
   intro b e h s hs;cases b with
   | nil=>simp at e
   | cons p b =>
     rw[z7,ec] at h;rcases cC.1 hs with rfl|hs
     . have d:=h.1;constructor
       . cases f:c.has s with
         | true=>rfl
         | false=>rw[f] at d;simp at d
       intro i;rw[decide_eq_true i] at d;simp at d
     exact j (by simpa using e) h.2 s hs
theorem mw {α:Type}{f:α->List Nat}{l:List α}(h:l.flatMap f=[]):∀x∈l,f x=[]:=List.flatMap_eq_nil_iff.1 h
theorem ms (j:eU c)(h:c.cG=[]):ka c:=by
 unfold Sc.cG at h;rw[ec,ec,ec] at h;obtain⟨⟨⟨_,t⟩,v⟩,w⟩:=h;have m:∀q∈c.nd.eqs,∀u∈bh b8 q.r,(ch u.k=true->c.has u.s=true)/\(u.k=4->∃d,c.called u.s=some d/\d.nd.ah=u.ts.length/\d.nd.aG=hp q u):=by
  intro q a u f;have e:=mw (mw w q a) u f;unfold fF at e;rw[ec] at e;refine⟨λz=>?_,λk=>?_⟩
  . cases y:c.has u.s with
    | true=>rfl
    | false=>have:=e.1;rw[y,z] at this;simp at this
  have l:=e.2;cases b:c.fits u (hp q u) with
  | false=>rw[b,k] at l;simp at l
  | true =>
    unfold Sc.fits at b;split at b
    . cases b
    rename_i d x
    simp only[Bool.and_eq_true,beq_iff_eq] at b;exact⟨d,x,b.1,b.2⟩
 refine⟨λq a u f=>?_,HQ t,λq a s A=>(xM (j.nd.eqs q a).1 (mw v q a) s A).1,λq a h=>?_⟩
 . obtain⟨n,o⟩:=m q a u f;exact⟨n,λk=>by obtain⟨d,i,p,_⟩:=o k;exact⟨d,i,p⟩,((j.nd.eqs q a).2.2.1.BP f).ar⟩
 obtain⟨d,i,_,r⟩:=(m q a q.r (nL _ _)).2 ((j.nd.eqs q a).2.2.2 h);refine⟨d,i,?_⟩;rw[r];unfold hp;rw[ag rfl]
end
section
open Go.RowKit
structure qI (d:Nd):Prop where
 small:lG d
 az:d.az.length<=100000
 ah:∀e∈d.az,e.ah.length<=100000
 ab:d.ab.length<=16
 eqs:d.eqs.length<=2000
 ns:∀q∈d.eqs,q.ns.length<=100000
end
section
def jM:ByteArray:=⟨#[40]⟩
def kr:ByteArray:=⟨#[41]⟩
def p7:ByteArray:=⟨#[44]⟩
def eA:Bool->List (List ByteArray)->List ByteArray
 | _,[]=>[]
 | b,x::l=>(if b then [p7] else [])++(x++eA true l)
def gS (l:List (List ByteArray)):List ByteArray:=[jM]++(eA false l++[kr])
def jq (k:Nat)(l:Xl):List ByteArray:=if k=4 then [jM]++(l++[kr]) else l
def iy (k:Nat)(s:Xb)(a:Xn)(l:List (List ByteArray)):List ByteArray :=
 if k=5 then [⟨#[105,102]⟩]++(l.getD 0 []++([⟨#[116,104,101,110]⟩]++(l.getD 1 []++([⟨#[101,108,115,101]⟩]++l.getD 2 []))))
 else if k=6 then [⟨#[109,101,114,103,101]⟩,s]++(jq (a.getD 0 0) (l.getD 0 [])++jq (a.getD 1 0) (l.getD 1 []))
 else if k=7∨k=8 then l.getD 0 []++[wd k,s]
 else if k=10∨k=11 then [wd k]++l.getD 0 []
 else l.getD 0 []++([wd k]++l.getD 1 [])
def pQ (n:Nat):ByteArray:=⟨(Lib.itoa (n:Int)).toArray⟩
def lM (k:Nat)(s:Xb)(n:Nat)(a:Xn)(l:List (List ByteArray)):List ByteArray :=
 if k=0 then [pQ n]
 else if k=1∨k=2 then [wd k]
 else if k=3 then [s]
 else if k=4 then [s]++gS l
 else [jM]++(iy k s a l++[kr])
mutual
def eO:Tm->List ByteArray
 | .mk k _ s _ n a=>lM k s n (a.map Tm.k) (hH a)
def hH:List Tm->List (List ByteArray)
 | []=>[]
 | t::l=>eO t::hH l
end
theorem LO {l:List (List ByteArray)}{k:Nat}{x:Xl}(h:l[k]?=some x)(b:Bool):eA b (l.take (k+1))=eA b (l.take k)++((if b=true∨0<k then [p7] else [])++x):=by
 induction l generalizing k b with
 | nil=>simp at h
 | cons y l a =>
   cases k with
   | zero=>simp at h;subst h;simp[eA]
   | succ k => simp at h;rw[cI,cI,eA,eA,a h true];simp
def eB (v:Vr):List ByteArray:=[v.nm,⟨#[58]⟩,if v.bl then ⟨#[98,111,111,108]⟩ else ⟨#[105,110,116]⟩]
def tj (v:Vr):List ByteArray:=if ba v=1 then [⟨#[111,110]⟩,v.ck] else if ba v=2 then [⟨#[111,110]⟩,⟨#[110,111,116]⟩,v.ck] else []
def fZ (v:Vr):List ByteArray:=eB v++(tj v++[⟨#[59]⟩])
def gT (q:Qn):List ByteArray:=(if q.ns.length=1 then q.ns else gS (q.ns.map (λs=>[s])))++([⟨#[61]⟩]++(eO q.r++[⟨#[59]⟩]))
def ez (n:ay):List ByteArray :=
 [⟨#[110,111,100,101]⟩,n.nm]++(gS ((n.ab.take n.ah).map eB)++([⟨#[45,62]⟩]++(gS (((n.ab.drop n.ah).take n.aG).map eB)++((if 0<(n.ab.drop (n.ah+n.aG)).length then [⟨#[118,97,114]⟩] else [])++((n.ab.drop (n.ah+n.aG)).flatMap fZ++([⟨#[123]⟩]++(n.eqs.flatMap gT++[⟨#[125]⟩])))))))
def jp (n:ay):List UInt8:=([32]:Xu).intercalate ((ez n).map (·.data.toList))++[10]
def dU (a:List ay):List UInt8:=a.flatMap jp
def ay.hf (n:ay):List Tm:=n.eqs.flatMap λq=>bh b8 q.r
def iA (a:List Qn):Nat:=(a.map λq=>vz q.r).sum
def p1 (d:Nd):Prop:=(∃a,fM d.az d.eqs a/\iA a<=d.az.length)/\d.az.length<=1201
theorem F2:∀t:Tm,(b7 t).length=vz t:=by
 intro t;induction t using Tm.ind with
 | h k a s nm n f e =>
   have c:∀l:List Tm,(∀t∈l,(b7 t).length=vz t)->(cH l).length=k8 l:=by
    intro l;induction l with
    | nil=>intro _;rw[cH];rfl
    | cons t l b=>intro h;rw[cH,aP,zf,h t (ce ..),b (λt d=>h t (cS _ d))]
   rw[b7,qz,aP,c f e];simp;omega
theorem ER {d:Nd}(h:kY d):p1 d:=by
 obtain⟨⟨e,i⟩,f⟩:=h;have g:∀{l:List ax} {a b:Nat} {e:List Qn},eH d.az a l e b->a+iA e=b:=by
  intro l;induction l with
  | nil=>rintro a b e ⟨rfl,rfl⟩;rfl
  | cons q l k => rintro a b e ⟨n,m,c,rfl,_,f,_,j⟩;have:=k j;have:=f.len;rw[F2] at this;unfold iA at *;rw[List.map_cons,List.sum_cons];omega
 exact⟨⟨e,i.tq,by have:=g i;omega⟩,f⟩
theorem Di:∀{l:List Nd},(∀d∈l,p1 d)->∃a,dS l a/\∀n∈a,n.hf.length<=1201:=by
 intro l;induction l with
 | nil=>intro _;exact⟨[],rfl,λn h=>by cases h⟩
 | cons d l g =>
   intro h;obtain⟨a,c,e⟩:=g (λd f=>h d (cS _ f));obtain⟨⟨b,i,j⟩,k⟩:=h d (ce ..);refine⟨⟨d.nm,d.a,d.ab,d.ah,d.aG,b⟩::a,⟨_,a,rfl,⟨rfl,rfl,rfl,rfl,rfl,i⟩,c⟩,λn hn=>?_⟩;rcases cC.1 hn with rfl|hn
   . have:(ay.hf ⟨d.nm,d.a,d.ab,d.ah,d.aG,b⟩).length=iA b:=by unfold ay.hf iA;rw[List.length_flatMap];rfl
     rw[this];omega
   exact e n hn
end
section
open Go.RowKit
theorem B3 {L:List Ex}:∀{l:List ax} {b:List Qn},fM L l b->∀(i:Nat) (q:ax),l[i]?=some q->∃a,b[i]?=some a/\ft L q a/\vz a.r<=iA b:=by
 intro l;induction l with
 | nil=>intro b _ i q h;simp at h
 | cons o l k =>
   rintro b ⟨a,n,rfl,j,g⟩ i q c;cases i with
   | zero=>simp at c;subst c;exact⟨a,rfl,j,by unfold iA;simp⟩
   | succ i => obtain⟨m,d,e,f⟩:=k g i q (by simpa using c);exact⟨m,by simpa using d,e,by unfold iA at f ⊢;simp only[List.map_cons,List.sum_cons];omega⟩
end
section
open Go.RowKit
variable {L:List Ex} {d:Nd} {n:ay}
theorem bX.k7 {x:Nat}{t e:Tm}(h:bX L x t)(o:bX L x e):t=e:=by
 induction h generalizing e with
 | mk x l k r u v s =>
   cases o with
   | mk _ m b a q c =>
     rw[r] at a;cases a;have:k=b:=by
      apply List.ext_getElem?;intro i;by_cases p:i<k.length
      . have f:=av p;have g:=av (show i<b.length by omega);have j:=av (show i<l.ah.length by omega);rw[f,g,s i _ _ j f (c i _ _ j g)]
      rw[List.getElem?_eq_none (by omega),List.getElem?_eq_none (by omega)]
     rw[this]
theorem qC:∀{l:List ax} {e c:List Qn},fM L l e->fM L l c->e=c:=by
 intro l;induction l with
 | nil=>rintro e c rfl rfl;rfl
 | cons q l u => rintro e c ⟨a,D,rfl,s,f⟩ ⟨b,E,rfl,t,g⟩;rw[u f g];obtain⟨v,w,x,y⟩:=a;obtain⟨z,A,B,C⟩:=b;obtain⟨h,i,j,k⟩:=s;obtain⟨m,o,p,r⟩:=t;simp only at h i j k m o p r;subst h i j m o p;rw[k.k7 r]
theorem DY (t:Tm):1<=vz t:=by
 cases t with
 | mk k a s nm n b=>rw[qz];omega
theorem qG:∀(a:List Qn),a.length<=iA a
 | []=>an 0
 | q::a=>by have b:=qG a;have c:=DY q.r;unfold iA at b ⊢;simp only[List.map_cons,List.sum_cons,bJ];omega
structure og (d:Nd):Prop where
 s:lG d
 o:k9 d
 z:p1 d
theorem zl (a:ht d n)(h:og d):iA n.eqs<=1201:=by obtain⟨⟨f,b,c⟩,e⟩:=h.z;rw[qC a.eqs b];omega
theorem CI (a:ht d n)(h:og d):qI d:=by have f:=zl a h;have g:=qG n.eqs;have i:=a.eqs.len;have j:=h.z.2;exact⟨h.s,by omega,λe b=>by have:=(h.s.az e b).2.2.2.1;omega,h.o.ab.bO,by omega,λq c=>by have:=h.s.ns q c;omega⟩
theorem B5:∀{l:List Nd} {a:List ay},dS l a->∀(i:Nat) (d:Nd),l[i]?=some d->∃n,a[i]?=some n/\ht d n:=by
 intro l;induction l with
 | nil=>intro a _ i d h;simp at h
 | cons d0 l j =>
   rintro a ⟨n,m,rfl,g,f⟩ i d b;cases i with
   | zero=>simp at b;subst b;exact⟨n,rfl,g⟩
   | succ i => obtain⟨k,c,e⟩:=j f i d (by simpa using b);exact⟨k,by simpa using c,e⟩
end
section
open Go.RowKit Go.Extern.Stop Go.Stop Go.Extern
theorem Tryz.AW (v:Xv)(w:Xw):(Extern.ReflectliteType.typeOf #[.iface 399 v]).run prog w=.ok (.iface 241 (.agg #[.pointer (some (xD 21 399))])) w:=by kernel_rfl
def zb:Array Value->Sem Value:=Extern.ReflectliteType.method λt=>do Extern.Rtype.noPackHeld "Comparable" t;pure (.bool (<- typeInfo t).comparable)
theorem Tryz.AQ (v:Xv)(w:Xw):(Go.method 545 241 v "Comparable").run prog w=.ok (354,v) w:=by kernel_rfl
theorem Tryz.td (v:Xv)(w:Xw):(Go.method 545 133 v "Unwrap").run prog w=.ok (351,v) w:=by kernel_rfl
theorem Tryz.AR (v:Xv)(w:Xw):(Go.method 545 58 v "Unwrap").run prog w=.ok (345,v) w:=by kernel_rfl
theorem Tryz.Am (a:Xa)(w:Xw):(callFunc 354 a).run prog w=((zb a).run prog w).andThen λv b=>.ok (.value v) b:=run_callFunc_extern func354 (by kernel_rfl) (by kernel_rfl) (by kernel_rfl) (by kernel_rfl) a w
theorem Tryz.sH (a:Xa)(w:Xw):(callFunc 125 a).run prog w=((Extern.ReflectliteType.typeOf a).run prog w).andThen λv b=>.ok (.value v) b:=run_callFunc_extern func125 (by kernel_rfl) (by kernel_rfl) (by kernel_rfl) (by kernel_rfl) a w
theorem Tryz.AP (w:Xw):(zb #[.agg #[.pointer (some (xD 21 399))]]).run prog w=.ok (.bool true) w:=by kernel_rfl
theorem Tryz.AO:(prog.info? 399).map (·.comparable)=some true:=by kernel_rfl
theorem Tryz.AV:(prog.info? 401).map (·.size)=some 1:=by kernel_rfl
theorem Tryz.Bm (v:Xv)(a:Xy)(w:Xw):(Instr.typeAssert (.iface 399 v) a 327 true).run prog w=.ok (.tuple #[.nilIface,.bool false]) w:=run_typeAssert_lacksB underlying327 (by kernel_rfl) (by kernel_rfl) v a w
theorem Tryz.Bq (v:Xv)(a:Xy)(w:Xw):(Instr.typeAssert (.iface 399 v) a 249 true).run prog w=.ok (.tuple #[.nilIface,.bool false]) w:=run_typeAssert_lacksB underlying249 (by kernel_rfl) (by kernel_rfl) v a w
theorem Tryz.Br (v:Xv)(a:Xy)(w:Xw):(Instr.typeAssert (.iface 399 v) a 251 true).run prog w=.ok (.tuple #[.nilIface,.bool false]) w:=run_typeAssert_lacksB underlying251 (by kernel_rfl) (by kernel_rfl) v a w
theorem Tryz.Bo (v:Xv)(a:Xy)(w:Xw):(Instr.typeAssert (.iface 133 v) a 327 true).run prog w=.ok (.tuple #[.nilIface,.bool false]) w:=run_typeAssert_lacksB underlying327 (by kernel_rfl) (by kernel_rfl) v a w
theorem Tryz.s4 (v:Xv)(a:Xy)(w:Xw):(Instr.typeAssert (.iface 133 v) a 249 true).run prog w=.ok (.tuple #[.iface 133 v,.bool true]) w:=run_typeAssert_hasB underlying249 (by kernel_rfl) v a w
theorem Tryz.Bn (v:Xv)(a:Xy)(w:Xw):(Instr.typeAssert (.iface 58 v) a 327 true).run prog w=.ok (.tuple #[.nilIface,.bool false]) w:=run_typeAssert_lacksB underlying327 (by kernel_rfl) (by kernel_rfl) v a w
theorem Tryz.AD (v:Xv)(a:Xy)(w:Xw):(Instr.typeAssert (.iface 58 v) a 249 true).run prog w=.ok (.tuple #[.iface 58 v,.bool true]) w:=run_typeAssert_hasB underlying249 (by kernel_rfl) v a w
theorem y4 (p:Xb)(e:Xv)(w:Xw):xK 351 #[.agg #[.string p,e]] w λr a=>r=.returned e/\xB w a:=by go_enter func351,ntmps351;go_wp2;go_ret;refine⟨rfl,?_⟩;first|exact Below.refl _ _|exact zq w _
theorem Lu (k e:Xv)(w:Xw):xK 345 #[.agg #[k,e]] w λr a=>r=.returned k/\xB w a:=by go_enter func345,ntmps345;go_wp2;go_ret;refine⟨rfl,?_⟩;first|exact Below.refl _ _|exact zq w _
theorem L0 (p:Xb)(a b:Addr)(g:Int)(r:Bool)(w:Xw)(HEq:∀W,xB w W->(binOp .eql 42 (.iface 399 (.pointer (some a))) (.iface 399 (.pointer (some b)))).run prog W=.ok (.bool r) W) :
 xK 65 #[ew p (.iface 58 (.agg #[.iface 399 (.pointer (some a)),xI g])),.iface 399 (.pointer (some b))] w λe j=>e=.returned (.bool r)/\xB w j:=by
 have o:=Tryz.sH;have i:=Tryz.Am;have u:=Tryz.AQ;have t:=Tryz.td;have s:=Tryz.AR;have A:=Tryz.AW;have l:=Tryz.AP;have z:=Tryz.Bo;have D:=Tryz.s4;have y:=Tryz.Bn;have C:=Tryz.AD;have x:=Tryz.Bm;have B:=Tryz.Bq;have E:=Tryz.Br;have n:=λv h W=>run_eql_iface_types (P:=prog) 133 399 v h underlying42 (by decide) W;have m:=λv h W=>run_eql_iface_types (P:=prog) 58 399 v h underlying42 (by decide) W;unfold ew;go_enter func65,ntmps65;go_wp2;refine wp_loop_rounds 3 ?_;rw[rounds_succ];go_wp2_with (go_at_call 351;refine (y4 _ _ _).mono ?_;rintro e F ⟨rfl,d⟩);rw[rounds_succ];go_wp2_with (go_at_call 345;refine (Lu _ _ _).mono ?_;rintro e k ⟨rfl,f⟩);have c:=za (d.trans (f.mono d.size));have q:=HEq k c.o;rw[rounds_succ];cases r with
 | true => go_wp2;go_ret;exact⟨rfl,c.o⟩
 | false => go_wp2;go_ret;exact⟨rfl,c.o⟩
theorem Tryz.BO (t:Addr)(w:Xw):(ReflectliteValue.unpack (.iface 60 (.pointer (some t)))).run prog w
 = .ok (.agg #[.pointer (some (xD 21 60)),xP w.heap.size,.int .u64 150]) (w.alloc (.cells #[.pointer (some t)] 60)):=by kernel_rfl
theorem Tryz.BL (a:Addr)(w:Xw):(ReflectliteValue.methodAny (ReflectliteValue.valueError "reflectlite.Value.Type" 0) (λt _ _ _=>ReflectliteType.toType t) #[.agg #[.pointer (some (xD 21 60)),.pointer (some a),.int .u64 150]]).run prog w
 = .ok (.iface 241 (.agg #[.pointer (some (xD 21 60))])) w:=by kernel_rfl
theorem Tryz.Bi (h:Xv)(w:Xw):(Go.method 545 241 (.agg #[h]) "Kind").run prog w=.ok (341,h) w:=by kernel_rfl
theorem Tryz.Bg (h:Xv)(w:Xw):(Go.method 545 241 (.agg #[h]) "Elem").run prog w=.ok (355,.agg #[h]) w:=by kernel_rfl
theorem Tryz.Bh (h:Xv)(w:Xw):(Go.method 545 241 (.agg #[h]) "Implements").run prog w=.ok (356,.agg #[h]) w:=by kernel_rfl
theorem Tryz.Bf (h:Xv)(w:Xw):(Go.method 545 241 (.agg #[h]) "AssignableTo").run prog w=.ok (353,.agg #[h]) w:=by kernel_rfl
theorem Tryz.Ba (w:Xw):((ReflectliteType.abiMethod λt=>Functor.map (λa:Nat=>Value.int IntKind.u8 (a:Int)) (Rtype.kind t)) #[.pointer (some (xD 21 60))]).run prog w=.ok (.int .u8 22) w:=by kernel_rfl
theorem Tryz.A9 (w:Xw):((ReflectliteType.abiMethod λt=>Functor.map (λa:Nat=>Value.int IntKind.u8 (a:Int)) (Rtype.kind t)) #[.pointer (some (xD 21 58))]).run prog w=.ok (.int .u8 25) w:=by kernel_rfl
theorem Tryz.Au (w:Xw):(ReflectliteType.method ReflectliteType.elem #[.agg #[.pointer (some (xD 21 60))]]).run prog w=.ok (.iface 241 (.agg #[.pointer (some (xD 21 58))])) w:=by kernel_rfl
theorem Tryz.AE (w:Xw):(ReflectliteType.relation "Implements" ReflectliteType.implements_ #[.agg #[.pointer (some (xD 21 58))],.iface 241 (.agg #[.pointer (some (xD 21 42))])]).run prog w=.ok (.bool true) w:=by kernel_rfl
theorem Tryz.BJ (v:Xv)(w:Xw):(ReflectliteType.typeOf #[.iface 58 v]).run prog w=.ok (.iface 241 (.agg #[.pointer (some (xD 21 58))])) w:=by kernel_rfl
theorem Tryz.BK (v:Xv)(w:Xw):(ReflectliteType.typeOf #[.iface 133 v]).run prog w=.ok (.iface 241 (.agg #[.pointer (some (xD 21 133))])) w:=by kernel_rfl
theorem Tryz.Af (w:Xw):(ReflectliteType.relation "AssignableTo" ReflectliteType.assignableTo #[.agg #[.pointer (some (xD 21 58))],.iface 241 (.agg #[.pointer (some (xD 21 58))])]).run prog w=.ok (.bool true) w:=by kernel_rfl
theorem Tryz.Ag (w:Xw):(ReflectliteType.relation "AssignableTo" ReflectliteType.assignableTo #[.agg #[.pointer (some (xD 21 133))],.iface 241 (.agg #[.pointer (some (xD 21 58))])]).run prog w=.ok (.bool false) w:=by kernel_rfl
theorem Tryz.BN (k e:Xv)(w:Xw):(ReflectliteValue.unpack (.iface 58 (.agg #[k,e]))).run prog w
 = .ok (.agg #[.pointer (some (xD 21 58)),xP w.heap.size,.int .u64 153]) (w.alloc (.cells #[k,e] 58)):=by kernel_rfl
theorem Tryz.Bl (v:Xv)(a:Xy)(w:Xw):(Instr.typeAssert (.iface 133 v) a 246 true).run prog w=.ok (.tuple #[.nilIface,.bool false]) w:=run_typeAssert_lacksB underlying246 (by kernel_rfl) (by kernel_rfl) v a w
theorem tu (z:Sem Value)(f:TypeId->Addr->Nat->Nat->Sem Value)(v:Xv) :
 ReflectliteValue.method z f #[v]=(do match <- ReflectliteValue.parts v with|none=>z|some (t,a,fl)=>f t a fl (fl % 32)):=rfl
theorem Tryz.tl (a:Addr)(w:Xw):(ReflectliteValue.parts (.agg #[.pointer (some (xD 21 60)),.pointer (some a),.int .u64 150])).run prog w=.ok (some (60,a,150)) w:=by kernel_rfl
theorem Tryz.AU (a p:Addr)(W:Xw)(b:W.cell? a=some (.pointer (some p))) :
 (ReflectliteValue.method (ReflectliteValue.valueError "reflectlite.Value.IsNil" 0) ReflectliteValue.isNil #[.agg #[.pointer (some (xD 21 60)),.pointer (some a),.int .u64 150]]).run prog W=.ok (.bool false) W:=by
 rw[tu];simp only[Sem.run_bind,Tryz.tl,Result.andThen];simp[ReflectliteValue.isNil,loadVar,isAgg,underlying,underlying60,b,Result.andThen]
theorem Tryz.At (w:Xw):(Rtype.elem? 60).run prog w=.ok (some 58) w:=by kernel_rfl
theorem Tryz.Bj (p:Addr)(w:Xw):(ReflectliteValue.mk 58 p ReflectliteValue.flagAddr).run prog w=.ok (.agg #[.pointer (some (xD 21 58)),.pointer (some p),.int .u64 409]) w:=by kernel_rfl
theorem Tryz.Av (a p:Addr)(W:Xw)(b:W.cell? a=some (.pointer (some p))) :
 (ReflectliteValue.method (ReflectliteValue.valueError "reflectlite.Value.Elem" 0) ReflectliteValue.elem #[.agg #[.pointer (some (xD 21 60)),.pointer (some a),.int .u64 150]]).run prog W
   = .ok (.agg #[.pointer (some (xD 21 58)),.pointer (some p),.int .u64 409]) W:=by
 rw[tu];simp only[Sem.run_bind,Tryz.tl,Result.andThen];simp[ReflectliteValue.elem,loadVar,isAgg,underlying,underlying60,b,Result.andThen,Tryz.At,Tryz.Bj]
theorem Bv (v x:Xv):ReflectliteValue.set #[v,x]=(do
 let (some (dst,a,fl),some (src,b,_)):=(<- ReflectliteValue.parts v,<- ReflectliteValue.parts x)
  | unsupported (.noEntry "extern/(internal/reflectlite.Value).Set.zeroValue")
 if fl / ReflectliteValue.flagAddr % 2==0 then unsupported (.noEntry "extern/(internal/reflectlite.Value).Set.unaddressable")
 let c <- loadVar src b
 if <- Rtype.directlyAssignable dst src then storeVar dst a c
 else if <- Rtype.implements dst src then
  if (<- Rtype.kind src)==20 then
   match c with
   | .nilIface=>unsupported (.noEntry "extern/reflectlite: a nil value of one interface type handed on as a value of another")
   | _=>storeVar dst a c
  else storeVar dst a (.iface src c)
 else panicString ("reflectlite.Set: value of type "++(<- Rtype.spelt src)++ " is not assignable to type "++(<- Rtype.spelt dst))
 pure (.tuple #[])):=rfl
theorem Tryz.Bt (a:Addr)(w:Xw):(ReflectliteValue.parts (.agg #[.pointer (some (xD 21 58)),.pointer (some a),.int .u64 409])).run prog w=.ok (some (58,a,409)) w:=by kernel_rfl
theorem Tryz.Bs (a:Addr)(w:Xw):(ReflectliteValue.parts (.agg #[.pointer (some (xD 21 58)),.pointer (some a),.int .u64 153])).run prog w=.ok (some (58,a,153)) w:=by kernel_rfl
theorem Tryz.As (w:Xw):(Rtype.directlyAssignable 58 58).run prog w=.ok true w:=by kernel_rfl
theorem Tryz.Ae (w:Xw):(isAgg 58).run prog w=.ok true w:=by kernel_rfl
theorem Tryz.BE (w:Xw):(sizeOf 58).run prog w=.ok 2 w:=by kernel_rfl
theorem Tryz.BB (a b:Nat)(k e s t:Xv)(W:Xw)(o:k.oneCell'=true)(m:e.oneCell'=true)(l:xH W b #[k,e] 58)(r:xH W a #[s,t] 58) :
 (ReflectliteValue.set #[.agg #[.pointer (some (xD 21 58)),xP a,.int .u64 409],.agg #[.pointer (some (xD 21 58)),xP b,.int .u64 153]]).run prog W
   = .ok (.tuple #[]) ((W.setCell (xD a 0) k).setCell (xD a 1) e):=by
 have p:(loadVar 58 (xD b 0)).run prog W=.ok (.agg #[k,e]) W:=by
  have h:=run_loadCells_list (P:=prog) W (xD b 0) [k,e] (λj v c=>by
   obtain⟨d,f,_,_⟩:=zp l;rcases j with _|_|j
   . simp at c;subst c;exact d
   . simp at c;subst c;exact f
   simp at c)
  have i:(loadCells (xD b 0) 2).run prog W=.ok #[k,e] W:=h;unfold loadVar;simp only[Sem.run_bind,Tryz.Ae,Tryz.BE,Result.andThen,if_true,i];rfl
 have q:(storeVar 58 (xD a 0) (.agg #[k,e])).run prog W=.ok () ((W.setCell (xD a 0) k).setCell (xD a 1) e):=by
  refine run_storeVar_mid (P:=prog) W a 0 58 #[k,e] (λj c=>?_) (by kernel_rfl) (by simp[o,m]);obtain⟨d,f,g,_⟩:=zp r;have n:j<2:=c;rcases j with _|_|j
  . exact⟨by rw[Nat.zero_add,d];rfl,g _⟩
  . exact⟨by rw[Nat.zero_add,f];rfl,g _⟩
  omega
 rw[Bv];simp only[Sem.run_bind,Tryz.Bt,Tryz.Bs,Result.andThen];simp[ReflectliteValue.flagAddr,p,Tryz.As,q]
end
section
open Go.RowKit
variable {a:Nat} {c:Sc} {w w':Xw}
attribute [local go_sem ↓] Go.wp_at_zero Go.wp_at_succ
theorem mh (w:Xw)(b d:Obj):((w.alloc b).alloc d).heap[w.heap.size]?=some b/\((w.alloc b).alloc d).heap[w.heap.size+1]?=some d:=by refine⟨(Below.heap_alloc _ _ _ (by simp)).trans (zc w b),?_⟩;have:=zc (w.alloc b) d;rwa [au] at this
def eD (k:Nat×Nat):Int×Int:=((k.1:Int),(k.2:Int))
def eC (c:Sc):Nat->List ((Int×Int)×Value)
 | 0=>[]
 | i+1=>eC c i++[(((i:Int),1),pr (eD (c.of i))),(((i:Int),2),pr (eD (c.of i)))]
theorem Kq (c:Sc)(n:Nat):(eC c n).length=2*n:=by
 induction n with
 | zero=>rfl
 | succ n b=>rw[eC,aP,b];simp;omega
theorem KU (c:Sc)(n:Nat):∀p∈eC c n,∃j,j<n/\p.1.1=(j:Int):=by
 induction n with
 | zero=>intro p h;simp[eC] at h
 | succ n d =>
   intro p h;rw[eC,bj] at h;rcases h with h|h
   . obtain⟨j,e,b⟩:=d p h;exact⟨j,by omega,b⟩
   simp at h;rcases h with rfl|rfl
   . exact⟨n,by omega,rfl⟩
   exact⟨n,by omega,rfl⟩
theorem yb (c:Sc)(n:Nat)(s:Int):((n:Int),s) ∉ (eC c n).map (·.1):=by intro h;obtain⟨p,d,e⟩:=List.mem_map.1 h;obtain⟨j,f,b⟩:=KU c n p d;rw[e] at b;simp at b;omega
theorem JI {κ:Type} [DecidableEq κ] (k:κ)(m:List (κ×Value)):∀l:List (κ×Value),db k (l++m)=match db k l with|some v=>some v|none=>db k m:=by
 intro l;induction l with
 | nil=>rfl
 | cons p l b =>
   rw[List.cons_append];simp only[db];split
   . rfl
   exact b
theorem JV (c:Sc)(n j s:Nat):db ((j:Int),(s:Int)) (eC c n)=if j<n/\(s=1∨s=2) then some (pr (eD (c.of j))) else none:=by
 induction n with
 | zero=>simp[eC,db]
 | succ n i =>
   rw[eC,JI,i];by_cases d:j<n
   . by_cases b:s=1∨s=2
     . rw[ag ⟨d,b⟩,ag ⟨by omega,b⟩]
     rw[ae (λe=>b e.2),ae (λe=>b e.2)];simp only[db,Prod.mk.injEq];rw[ae (by omega),ae (by omega)]
   rw[ae (λe=>d e.1)];simp only[db,Prod.mk.injEq];by_cases f:j=n
   . subst f;by_cases g:s=1
     . subst g;simp
     by_cases h:s=2
     . subst h;simp
     rw[ae (by omega),ae (by omega),ae (by omega)]
   rw[ae (by omega),ae (by omega),ae (by omega)]
theorem Jy (c:Sc)(n:Nat)(v:Xv):hL ((n:Int),1) v (eC c n)=eC c n++[(((n:Int),1),v)]:=rR (yb c n 1)
theorem Je (c:Sc)(n:Nat)(u v:Xv):hL ((n:Int),2) v (eC c n++[(((n:Int),1),u)])=eC c n++[(((n:Int),1),u),(((n:Int),2),v)]:=by
 rw[rR]
 . simp
 rw[List.map_append,bj];rintro (h|h)
 . exact yb c n 2 h
 simp at h
def dF (w:Xw)(c:Sc)(a:Nat):Prop:=fb w a pr (eC c c.nd.ab.length)
theorem dF.gh (h:dF w c a)(b:w'.heap[a]?=w.heap[a]?):dF w' c a:=fb.of h b
theorem dF.lt (h:dF w c a):a<w.heap.size:=fb.lt h
theorem dF.aq (h:dF w c a)(b:xB w w'):dF w' c a:=h.gh (b.block _ h.lt)
theorem Tryz.GQ (w:Xw):(zeroValue 228).run prog w=.ok (pr (0,0)) w:=by unfold pr;kernel_rfl
theorem JQ (c:Sc)(i:Nat)(h:¬i<c.nd.ab.length):c.of i=(0,0):=by unfold Sc.of;rw[List.getElem?_eq_none (by omega)]
theorem yn (h:dF w c a)(k:Nat×Nat) :
 (Instr.lookup 224 (.map (some a)) (pr (eD k)) false).run prog w=.ok (pr (eD (c.up k))) w:=by
 rw[rN Tryz.qe underlying224 Tryz.GQ h (eD k) false];rw[show eD k=((k.1:Int),(k.2:Int)) from rfl,JV];refine congrArg (λv=>Result.ok v w) ?_
 show Option.getD _ _=_;unfold Sc.up;by_cases b:k.2=1∨k.2=2
 . rw[ag b];by_cases d:k.1<c.nd.ab.length
   . rw[ag ⟨d,b⟩];rfl
   rw[ae (λe=>d e.1),JQ c _ d];rfl
 rw[ae (λe=>b e.2),ae b];rfl
theorem Lp (h:dF w c a)(i:Nat) :
 (Instr.lookup 224 (.map (some a)) (.agg #[xI (i:Int),xI 1]) false).run prog w=.ok (.agg #[xI ((c.of i).1:Nat),xI ((c.of i).2:Nat)]) w:=by
 have:=yn h (i,1);rw[show c.up (i,1)=c.of i from ag (ao rfl)] at this;exact this
theorem K4 (h:dF w c a)(e:Xy):(Builtin.len_ #[224] e #[.map (some a)]).run prog w=.ok (xI ((2*c.nd.ab.length:Nat):Int)) w:=by
 obtain⟨d,b,f,g⟩:=h;have i:d.size=2*c.nd.ab.length:=by have:=congrArg List.length g;rw[List.length_map,List.length_map,Kq] at this;simpa using this
 rw[<- i];have j:prog.underlying 224=some (.map (prog.mapKeyOf 224) (prog.mapElemOf 224)):=by kernel_rfl
 exact run_len_map w 224 e a d b j f
theorem jW (i:Nat)(w:Xw)(h:dF w c a) :
 xK 116 #[.map (some a),xI (i:Int)] w (λe w'=>e=.returned (.agg #[xI ((c.of i).1:Nat),xI ((c.of i).2:Nat)])/\xB w w'):=by
 have b:=λo=>Lp (h.aq (zq w o)) i;go_enter func116,ntmps116;go_wp2_with fail;refine bodyPost_ret (v:=.agg #[xI ((c.of i).1:Nat),xI ((c.of i).2:Nat)]) (by simp[results,results116,go_sem]) rfl ⟨rfl,?_⟩;exact zq w _
theorem pa {b:Nat}{e:Xy}{g i:Xv}(h:xH w b #[g,i] e)(d f:Xv):((w.setCell (xD b 0) d).setCell (xD b 1) f).heap[b]?=some (.cells #[d,f] e (0,0)) :=
 zh _ _ _ _ (zh _ _ _ _ h)
theorem Js (c:Sc)(i:Nat)(m:Nat)(k:Nat×Nat):lx c i (m+1) k=if k=(0,0) then false else if k.1=i then true else lx c i m (c.up k):=rfl
theorem Ha (i:Nat)(w:Xw)(h:dF w c a)(O:c.nd.ab.length<=1000) :
 xK 115 #[.map (some a),xI (i:Int)] w (λe w'=>e=.returned (.bool (c.jF i))/\xB w w'):=by
 have L:=jW i w h;have B:=za h;have S:=h.lt;clear h;go_enter func115,ntmps115;go_upto_region 2 with (go_at_call 116;refine L.mono ?_;rintro e q ⟨rfl,H⟩);refine zn (λW=>dF W c a/\xB w W/\xH W q.heap.size #[xI ((c.of i).1:Nat),xI ((c.of i).2:Nat)] 228) ⟨(B.o.aq H).aq (zq q _),jh H (an _) _,zc q _⟩ ?_;rintro W ⟨p,u,v⟩;have A:w.heap.size<=q.heap.size:=H.size;have z:=K4 p;have s:=za p;have r:=za u;have t:=za v;clear p u v;go_wp2_with fail;go_loopg [11] (2*c.nd.ab.length+1) (λj x wr=>∃(k:Nat) (g:Nat×Nat),k+j=2*c.nd.ab.length+1/\k<=2*c.nd.ab.length/\x=xI k/\aa (dF wr c a)/\aa (xH wr q.heap.size #[xI (g.1:Nat),xI (g.2:Nat)] 228)/\aa (c.jF i=lx c i (j-1) g)/\aa (xB w wr));case atStart=>exact⟨0,c.of i,by omega,aE _,rfl,s.o,t.o,rfl,r.o⟩
 case round =>
  clear s t r z;obtain⟨k,g,P,R,rfl,B,D,C,b⟩:=hrel;obtain⟨J,K,T,U⟩:=zp D.o;by_cases Q:k<2*c.nd.ab.length
  . obtain⟨m,rfl⟩:∃m,gk=m+1+1:=⟨gk-1-1,by omega⟩;have d:=C.o;rw[show m+1+1-1=m+1 from rfl,Js] at d;have f:=yn B.o g;unfold pr eD at f;clear C;by_cases n:g=(0,0)
    . rw[ag n] at d;subst n;have l:=za d;clear d;go_wp2_with fail;go_ret;exact⟨by rw[l.o];rfl,b.o⟩
    rw[ae n] at d;by_cases E:g.1=i
    . rw[ag E] at d;have o:(g.1:Int)=(i:Int):=(by omega);have l:=za d;clear d E;obtain⟨F,G⟩:=g;simp only[Prod.mk.injEq] at n;simp only at o D l J K f;by_cases I:(F:Int)=0;have N:¬(G:Int)=0:=(by omega);simp only[I] at f;all_goals clear n
      . go_wp2_with fail;go_ret;exact⟨by rw[l.o];rfl,b.o⟩
      go_wp2_with fail;go_ret;exact⟨by rw[l.o];rfl,b.o⟩
    rw[ae E] at d;have o:¬(g.1:Int)=(i:Int):=(by omega);have l:=za d;clear d E;have y:¬a=q.heap.size:=(by omega);obtain⟨F,G⟩:=g;simp only[Prod.mk.injEq] at n;simp only at o D l J K f;by_cases I:(F:Int)=0;have N:¬(G:Int)=0:=(by omega);simp only[I] at f;all_goals clear n
    iterate 2
     . go_wp2_with fail;go_roundg (m+1);case measure=>omega
       exact⟨k+1,c.up (F,G),by omega,by omega,by go_num,B.o.gh ((Below.heap_setCell _ _ _ _ y).trans (Below.heap_setCell _ _ _ _ y)),pa D.o _ _,l.o,zC (zC b.o A _) A _⟩
  have M:k=2*c.nd.ab.length:=by omega
  subst M;have:gk=1:=by omega
  subst this;have l:aa (c.jF i=false):=C.o;clear C;go_wp2_with fail;go_ret;exact⟨by rw[l.o];rfl,b.o⟩
end
section
open Go.RowKit Go.Extern.Stop Go.Stop Go.Extern
def fw (w:Xw):Prop:=w.cell? (xD 7 0)=some (.iface 241 (.agg #[.pointer (some (xD 21 42))]))
theorem L1 (p:Xb)(k:Xv)(d:Int)(N:k.oneCell'=true)(b:Nat)(z A:Xv)(w:Xw)(x:fw w)(y:w.heap[b]?=some (.cells #[z,A] 58 (0,0))) :
 xK 28 #[ew p (.iface 58 (.agg #[k,xI d])),.iface 60 (xP b)] w λe l=>e=.returned (.bool true)/\l.heap[b]?=some (.cells #[k,xI d] 58 (0,0))/\Fr (λj=>j=b) w l:=by
 have r:=ze y;have B:∀a w,(callFunc 61 a).run prog w=(((λa=>ReflectliteValue.unpack (a.getD 0 (.tuple #[]))) a).run prog w).andThen λv l=>.ok (.value v) l:=run_callFunc_extern func61 (by kernel_rfl) (by kernel_rfl) (by kernel_rfl) (by kernel_rfl);have C:=@run_callFunc_extern prog 62 _ (ReflectliteValue.methodAny (ReflectliteValue.valueError "reflectlite.Value.Type" 0) (λt _ _ _=>ReflectliteType.toType t)) func62 (by kernel_rfl) (by kernel_rfl) (by kernel_rfl) (by kernel_rfl);have D:=@run_callFunc_extern prog 63 _ (ReflectliteValue.method (ReflectliteValue.valueError "reflectlite.Value.IsNil" 0) ReflectliteValue.isNil) func63 (by kernel_rfl) (by kernel_rfl) (by kernel_rfl) (by kernel_rfl);have I:=@run_callFunc_extern prog 341 _ (ReflectliteType.abiMethod λt=>do pure (.int .u8 (<- Rtype.kind t))) func341 (by kernel_rfl) (by kernel_rfl) (by kernel_rfl) (by kernel_rfl);have G:=@run_callFunc_extern prog 355 _ (ReflectliteType.method ReflectliteType.elem) func355 (by kernel_rfl) (by kernel_rfl) (by kernel_rfl) (by kernel_rfl);have H:=@run_callFunc_extern prog 356 _ (ReflectliteType.relation "Implements" ReflectliteType.implements_) func356 (by kernel_rfl) (by kernel_rfl) (by kernel_rfl) (by kernel_rfl);have L:=Tryz.sH;have E:=@run_callFunc_extern prog 353 _ (ReflectliteType.relation "AssignableTo" ReflectliteType.assignableTo) func353 (by kernel_rfl) (by kernel_rfl) (by kernel_rfl) (by kernel_rfl);have M:=@run_callFunc_extern prog 126 _ (ReflectliteValue.method (ReflectliteValue.valueError "reflectlite.Value.Elem" 0) ReflectliteValue.elem) func126 (by kernel_rfl) (by kernel_rfl) (by kernel_rfl) (by kernel_rfl);have K:=@run_callFunc_extern prog 127 _ ReflectliteValue.set func127 (by kernel_rfl) (by kernel_rfl) (by kernel_rfl) (by kernel_rfl);have a5:=Tryz.td;have be:=Tryz.BJ;have bk:=Tryz.BK;have a0:=Tryz.Bf;have V:=Tryz.Af;have X:=Tryz.Ag;have bp:=Tryz.BN;have bs:=Tryz.BO;have b0:=Tryz.BL;have a4:=Tryz.Bi;have a2:=Tryz.Bg;have a3:=Tryz.Bh;have ar:=Tryz.Ba;have al:=Tryz.A9;have Y:=Tryz.Au;have ak:=Tryz.AE;have a9:=Tryz.Bl;have bl:=Tryz.s4;have Z:7<w.heap.size:=World.block_lt_of_cell? w (xD 7 0) x;have o:=Tryz.AU (xD w.heap.size 0) (xD b 0) ((w.alloc (.cells #[xP b] 60)).alloc (.cells #[.pointer (some (xD 21 60)),xP w.heap.size,.int .u64 150] 122)) (by simp);have q:((w.alloc (.cells #[xP b] 60)).alloc (.cells #[.pointer (some (xD 21 60)),xP w.heap.size,.int .u64 150] 122)).cell? (xD 7 0)=some (.iface 241 (.agg #[.pointer (some (xD 21 42))])):=zj _ (zj _ x);unfold ew;go_enter func28,ntmps28;go_wp2;refine zn (λW=>(xB w W)/\w.heap.size+3<=W.heap.size/\W.heap[w.heap.size]?=some (.cells #[xP b] 60 (0,0))/\W.heap[w.heap.size+2]?=some (.cells #[.pointer (some (xD 21 60)),xP w.heap.size,.int .u64 150] 122 (0,0))) ⟨jh (jh (zq w _) (an _) _) (an _) _,by simp,?_,?_⟩ ?_
 . rw[Below.heap_alloc _ _ _ (by simp;omega),Below.heap_alloc _ _ _ (by simp)];exact zc w _
 . have u:=zc ((w.alloc (.cells #[xP b] 60)).alloc (.cells #[.pointer (some (xD 21 60)),xP w.heap.size,.int .u64 150] 122)) (.cells #[.pointer (some (xD 21 60)),xP w.heap.size,.int .u64 150] 122);rw[au,au] at u;exact u
 rintro U ⟨g,O,n,h⟩;clear o q;obtain⟨Q,R,T,bt,vz⟩:=zL h;refine wp_loop_rounds 2 ?_;rw[rounds_succ];go_wp2_with (go_at_call 351;refine (y4 _ _ _).mono ?_;rintro e m ⟨rfl,c⟩);have P:=c.size;have i:=(c.block w.heap.size (by omega)).trans n;obtain⟨bx,bE,bL,b1,b2⟩:=zL ((c.block (w.heap.size+2) (by omega)).trans h);have f:=(c.block b (by have:=g.size;omega)).trans ((g.block b r).trans y);have F:=Tryz.Av (xD w.heap.size 0) (xD b 0) m (zu i).1;have J:=Tryz.BB b m.heap.size k (xI d) z A (m.alloc (.cells #[k,xI d] 58)) N rfl (zc m _) ((Below.heap_alloc _ _ _ (ze f)).trans f);have s:=ze f;clear Q R T i;rw[rounds_succ];go_wp2;go_ret;refine⟨rfl,?_,?_⟩
 . exact (Below.heap_alloc _ _ _ (by simpa [World.setCell] using s)).trans (pa f k (xI d))
 exact (((((Fr.dp g).dr (Fr.dp (S:=λj=>j=b) c) (λ_ _ e=>e)).setCell (ao rfl) k).setCell (ao rfl) _).alloc _)
end
end Go.Proofs.YtmfkofhgdjechaaGreatDoor
