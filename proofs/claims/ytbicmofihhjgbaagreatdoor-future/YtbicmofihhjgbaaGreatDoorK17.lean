/- Part 18 of the proof. -/
import Derived.Test.YtbicmofihhjgbaaGreatDoorK16
set_option maxRecDepth 100000
set_option maxHeartbeats 8000000
namespace Go.Proofs.YtbicmofihhjgbaaGreatDoor
open Go.Proofs.Tryz
open Go.RowKit
section
variable {N g j a l lb f:Nat} {S:Xs} {d:Xo} {c:Sc} {m p n r:Xv} {w w':Xw}
attribute [local go_sem ↓] Go.wp_at_zero Go.wp_at_succ
theorem zS {W:Xw}{b i:Nat}{v:Xv}(h:Fr (RT lb a) w W)(o:w.cell? (xD b i)=some v)(q:¬b=lb)(s:¬b=a):W.cell? (xD b i)=some v:=by
 have k:b<w.heap.size:=by
  rcases Nat.lt_or_ge b w.heap.size with h|h
  . exact h
  simp[World.cell?,Array.getElem?_eq_none h] at o
 exact (World.cell?_of_block (w:=w) (h.block b k (λe=>by rcases e with e|e;exact q e;exact s e))).trans o
structure b5 (S:Xs) (l lb a f:Nat) (n m:Xv) (N:Nat) (c:Sc) (p r:Xv) (g j:Nat) (d:Xo) (w:Xw):Prop where
 rp:Fx S l lb a f n m d w
 sc:br w N c p r
 x1:w.heap[g]?=some (.cells #[p,r] 216 (0,0))
 x2:w.heap[j]?=some (.cells #[bT lb a f] 214 (0,0))
 d1:¬g=lb
 d2:¬g=a
 d3:¬j=lb
 d4:¬j=a
 l1:N<=lb
 l2:N<=a
 hN:N<=w.heap.size
theorem b5.aq (h:b5 S l lb a f n m N c p r g j d w)(b:xB w w'):b5 S l lb a f n m N c p r g j d w' :=
 ⟨h.rp.aq b,h.sc.am (zm b h.hN),(b.block _ (ze h.x1)).trans h.x1,(b.block _ (ze h.x2)).trans h.x2,h.d1,h.d2,h.d3,h.d4,h.l1,h.l2,aJ h.hN b.size⟩
theorem b5.aX {i:Xo}(h:b5 S l lb a f n m N c p r g j d w)(u:Fx S l lb a f n m i w')(o:Fr (RT lb a) w w'):b5 S l lb a f n m N c p r g j i w':=by
 have q:∀{b},¬b=lb->¬b=a->¬RT lb a b:=λs t e=>by rcases e with e|e;exact s e;exact t e
 exact⟨u,h.sc.am (o.am h.hN (λk e=>by rcases e with e|e;exact e▸h.l1;exact e▸h.l2)),(o.block _ (ze h.x1) (q h.d1 h.d2)).trans h.x1,(o.block _ (ze h.x2) (q h.d3 h.d4)).trans h.x2,h.d1,h.d2,h.d3,h.d4,h.l1,h.l2,aJ h.hN o.size⟩
theorem b5.am (h:b5 S l lb a f n m N c p r g j d w)(b:Fr (RT lb a) w w'):bV N w w':=b.am h.hN (λk e=>by rcases e with e|e;exact e▸h.l1;exact e▸h.l2)
theorem zy {T:Xj}(h:xB w w'):Fr T w w':=Fr.Mo h
theorem KH:zH 129:=λ_ _=>by kernel_rfl
theorem K0:zH 123:=λ_ _=>by kernel_rfl
theorem It (S:Xs)(l lb a f:Nat)(n m:Xv)(N:Nat)(c:Sc)(hc:eU c)(p r:Xv)(g j:Nat)(a9:∀q∈c.nd.eqs,gN c q.r)(l1:N<=lb)(l2:N<=a) :
 nX N (RT lb a) 129 #[xP g,xP j] (gN c) c.nd (λd _ t=>(fT c t).foldl aj d) (b5 S l lb a f n m N c p r g j) where
 enters:=KH
 hT:=λk e=>by rcases e with e|e;exact e▸l1;exact e▸l2
 aq:=λs w w' h hB=>h.aq hB
 sub:=λt u h hu=>h.sub hu
 root:=a9
 call:=by
  intro q lv rv t v d w bL bv hT bK hN aL hO;have bp:=za aL;have bq:=za hT;obtain⟨Y,G,X,rfl,rfl,bB⟩:=aL.sc.shape;obtain⟨b,bt,bY,rfl,bs,aV,_⟩:=hT.ptr;have a5:=ze aV;have U:=za aV;obtain⟨bE,cl,rfl⟩:=zB bv.own;obtain⟨rb,_,_,rfl,_⟩:=bv.tt.ptr;obtain⟨o1,o2,o3⟩:=hO _ (nL b8 _);have b0:=ze aL.x1;have z2:=ze aL.x2;have d1:=aL.d1;have d2:=aL.d2;have d3:=aL.d3;have d4:=aL.d4;have bA:¬b=lb:=by omega
  have bx:¬b=a:=by omega
  have a2:=za (λW (hB:xB w W)=>Hs W (hT.am (zm hB hN)));have a1:=za (λW (hB:bV N w W) (hz:N<=W.heap.size) (bC:br W N c (xE Y c G) (xP X))=>Hi hc t (xP b) W (bq.o.am hB) bC hz hO)
  show Calls prog _ #[.agg #[.slice bE q.ns.length cl,xI q.a,xP rb],xP b,xP g,xP j] w _;have Z:∀o,b5 S l lb a f n m N c (xE Y c G) (xP X) g j d (w.alloc o)/\xB w (w.alloc o):=λo=>⟨bp.o.aq (zq w o),zq w o⟩;have a3:=za Z;cases H:j3 t.k with
  | false =>
    have I:aa (∀d:Xo,(fT c t).foldl aj d=(if c.operands t=true then [] else [t.a]).foldl aj d):=by
     intro d;unfold fT;have:(NA t.k&&t.k != 3&&c.decl t.s != 1)=false:=by unfold j3 at H;rw[H];rfl
     rw[this];rfl
    have I:=za (I.o d);go_enter func129,ntmps129;go_upto_region 1 with fail;refine zn (λW=>b5 S l lb a f n m N c (xE Y c G) (xP X) g j d W/\xB w W) (a3.o _) ?_;rintro W ⟨A,D⟩;obtain⟨bl,s1,bo,sz⟩:=zp A.x1;obtain⟨p0,bk,ar⟩:=zu A.x2;obtain⟨m0,m1,m2,m3,m4,m5,bg,ab⟩:=zt ((D.block b a5).trans U.o);have V:=za A;have P:=za D;have aA:=za (λqn=>nA (a2.o (W.drewN qn) (zI D qn)));rw[H] at aA;go_quiet ((go_at_call 130;exact aA.o _));go_upto_region 3 with fail;refine zn (λT=>b5 S l lb a f n m N c (xE Y c G) (xP X) g j d T/\Fr (RT lb a) w T) ⟨V.o.aq (zI (Below.refl _ _) _),zy (zI P.o _)⟩ ?_;rintro T ⟨x,L⟩;obtain⟨bl,s1,bo,sz⟩:=zp x.x1;obtain⟨p0,bk,ar⟩:=zu x.x2;have M:=bp.o.am L;obtain⟨m0,m1,m2,m3,m4,m5,bg,ab⟩:=zt ((M b bs).trans U.o);have B:=za x;have K:=za L;have J:=za (a1.o T M x.hN x.sc);cases O:c.operands t with
    | true => rw[O] at J I;go_wp2_with (go_at_call 131;refine J.o.mono ?_;rintro e w5 ⟨rfl,C⟩;have i:=za C);go_ret;refine⟨rfl,?_,K.o.trans (zy i.o)⟩;rw[I.o];exact B.o.aq i.o
    | false =>
      rw[O] at J I;go_upto_region 4 with (go_at_call 131;refine J.o.mono ?_;rintro e w5 ⟨rfl,C⟩;have i:=za C);have g1:=zd i.o p0 ar;have g2:=zd i.o m1 ab;have z:=za (eg S l lb a f n m d t.a w5.drew ((B.o.aq i.o).rp.aq (zo (Below.refl _ _))));unfold bT at g1
      go_region_held3 (λw'=>w'.cell? (xD j 0)=some (.func (.func 140) #[] #[xP lb,xP a,xP f])/\w'.cell? (xD b 1)=some (xI t.a))
       (first|(with_reducible (refine⟨?_,?_⟩ <;> repeat (first|assumption|refine zg ?_|refine zS y.o ?_ (by omega) (by omega))))|go_keep)
       (first
         | (go_at_call 140;refine (z.o).mono ?_;rintro e w6 ⟨rfl,R,E⟩;have Q:=za R;have y:=za E.cQ))
      go_wp2_with fail;go_ret;refine⟨rfl,?_,(K.o.trans (zy i.o)).trans y.o⟩;rw[I.o];exact (B.o.aq i.o).aX Q.o y.o
  | true =>
    have a0:c.has t.s=true:=o1 (by unfold j3 at H;simp at H;exact H.1);by_cases a6:c.decl t.s=1
    . have I:aa (∀d:Xo,(fT c t).foldl aj d=(if c.operands t=true then [] else [t.a]).foldl aj d):=by
       intro d;unfold fT;have:(NA t.k&&t.k != 3&&c.decl t.s != 1)=false:=by rw[a6];simp
       rw[this];rfl
      have I:=za (I.o d);have be:((c.decl t.s:Int) != 1)=false:=(by simp[a6]);go_enter func129,ntmps129;go_upto_region 1 with fail;refine zn (λW=>b5 S l lb a f n m N c (xE Y c G) (xP X) g j d W/\xB w W) (a3.o _) ?_;rintro W ⟨A,D⟩;obtain⟨bl,s1,bo,sz⟩:=zp A.x1;obtain⟨p0,bk,ar⟩:=zu A.x2;obtain⟨m0,m1,m2,m3,m4,m5,bg,ab⟩:=zt ((D.block b a5).trans U.o);have V:=za A;have P:=za D;have aA:=za (a2.o W.drew (zo D));rw[H] at aA;have J:=za (me t.s (t.nm:Int) W.drew (A.sc.am (λ_ _=>rfl)) (by show N<=W.heap.size;exact A.hN) a0)
      go_region_held3 (λw'=>w'.cell? (xD g 0)=some (xE Y c G)/\w'.cell? (xD g 1)=some (xP X)/\w'.cell? (xD b 2)=some (.string t.s)/\w'.cell? (xD b 3)=some (xI t.nm))
       (first|(with_reducible (refine⟨?_,?_,?_,?_⟩ <;> repeat (first|assumption|refine zg ?_|refine zj _ ?_|refine zk (by omega) ?_|refine zd F.o ?_ (by first|omega|(rw[au];omega)))))|go_keep)
       (first
         | (go_at_call 127;refine J.o.mono ?_;rintro e w1 ⟨rfl,a4⟩;have F:=za (zw a4))
         | (go_at_call 130;refine aA.o.mono ?_;rintro e w1 ⟨rfl,rfl⟩))
      go_upto_region 3 with fail;refine zn (λT=>b5 S l lb a f n m N c (xE Y c G) (xP X) g j d T/\Fr (RT lb a) w T) ⟨V.o.aq F.o,zy (P.o.trans (F.o.mono P.o.size))⟩ ?_;rintro T ⟨x,L⟩;obtain⟨bl,s1,bo,sz⟩:=zp x.x1;obtain⟨p0,bk,ar⟩:=zu x.x2;have M:=bp.o.am L;obtain⟨m0,m1,m2,m3,m4,m5,bg,ab⟩:=zt ((M b bs).trans U.o);have B:=za x;have K:=za L;have J:=za (a1.o T M x.hN x.sc);cases O:c.operands t with
      | true => rw[O] at J I;go_wp2_with (go_at_call 131;refine J.o.mono ?_;rintro e w5 ⟨rfl,C⟩;have i:=za C);go_ret;refine⟨rfl,?_,K.o.trans (zy i.o)⟩;rw[I.o];exact B.o.aq i.o
      | false =>
        rw[O] at J I;go_upto_region 4 with (go_at_call 131;refine J.o.mono ?_;rintro e w5 ⟨rfl,C⟩;have i:=za C);have g1:=zd i.o p0 ar;have g2:=zd i.o m1 ab;have z:=za (eg S l lb a f n m d t.a w5.drew ((B.o.aq i.o).rp.aq (zo (Below.refl _ _))));unfold bT at g1
        go_region_held3 (λw'=>w'.cell? (xD j 0)=some (.func (.func 140) #[] #[xP lb,xP a,xP f])/\w'.cell? (xD b 1)=some (xI t.a))
         (first|(with_reducible (refine⟨?_,?_⟩ <;> repeat (first|assumption|refine zg ?_|refine zS y.o ?_ (by omega) (by omega))))|go_keep)
         (first
           | (go_at_call 140;refine (z.o).mono ?_;rintro e w6 ⟨rfl,R,E⟩;have Q:=za R;have y:=za E.cQ))
        go_wp2_with fail;go_ret;refine⟨rfl,?_,(K.o.trans (zy i.o)).trans y.o⟩;rw[I.o];exact (B.o.aq i.o).aX Q.o y.o
    have I:aa (∀d:Xo,(fT c t).foldl aj d=(if c.operands t=true then [] else [t.a]).foldl aj (aj d t.nm)):=by
     intro d;unfold fT;have:(NA t.k&&t.k != 3&&c.decl t.s != 1)=true:=by unfold j3 at H;rw[H];simp[a6]
     rw[this];rfl
    have I:=za (I.o d);have be:((c.decl t.s:Int) != 1)=true:=(by simp;omega);go_enter func129,ntmps129;go_upto_region 1 with fail;refine zn (λW=>b5 S l lb a f n m N c (xE Y c G) (xP X) g j d W/\xB w W) (a3.o _) ?_;rintro W ⟨A,D⟩;obtain⟨bl,s1,bo,sz⟩:=zp A.x1;obtain⟨p0,bk,ar⟩:=zu A.x2;obtain⟨m0,m1,m2,m3,m4,m5,bg,ab⟩:=zt ((D.block b a5).trans U.o);have V:=za A;have P:=za D;have aA:=za (a2.o W.drew (zo D));rw[H] at aA;have J:=za (me t.s (t.nm:Int) W.drew (A.sc.am (λ_ _=>rfl)) (by show N<=W.heap.size;exact A.hN) a0)
    go_region_held3 (λw'=>w'.cell? (xD g 0)=some (xE Y c G)/\w'.cell? (xD g 1)=some (xP X)/\w'.cell? (xD b 2)=some (.string t.s)/\w'.cell? (xD b 3)=some (xI t.nm))
     (first|(with_reducible (refine⟨?_,?_,?_,?_⟩ <;> repeat (first|assumption|refine zg ?_|refine zj _ ?_|refine zk (by omega) ?_|refine zd F.o ?_ (by first|omega|(rw[au];omega)))))|go_keep)
     (first
       | (go_at_call 127;refine J.o.mono ?_;rintro e w1 ⟨rfl,a4⟩;have F:=za (zw a4))
       | (go_at_call 130;refine aA.o.mono ?_;rintro e w1 ⟨rfl,rfl⟩))
    go_upto_region 2 with fail;have g1:=zd F.o p0 ar;have g2:=zd F.o m3 ab;have z:=za (eg S l lb a f n m d t.nm w1.drew ((V.o.aq F.o).rp.aq (zo (Below.refl _ _))));unfold bT at g1
    go_region_held3 (λw'=>w'.cell? (xD j 0)=some (.func (.func 140) #[] #[xP lb,xP a,xP f])/\w'.cell? (xD b 3)=some (xI t.nm))
     (first|(with_reducible (refine⟨?_,?_⟩ <;> repeat (first|assumption|refine zg ?_|refine zS y.o ?_ (by omega) (by omega))))|go_keep)
     (first
       | (go_at_call 140;refine (z.o).mono ?_;rintro e w2 ⟨rfl,R,E⟩;have Q:=za R;have y:=za E.cQ))
    go_upto_region 3 with fail;refine zn (λT=>b5 S l lb a f n m N c (xE Y c G) (xP X) g j (aj d t.nm) T/\Fr (RT lb a) w T) ⟨(V.o.aq F.o).aX Q.o y.o,(zy (P.o.trans (F.o.mono P.o.size))).trans y.o⟩ ?_;rintro T ⟨x,L⟩;obtain⟨bl,s1,bo,sz⟩:=zp x.x1;obtain⟨p0,bk,ar⟩:=zu x.x2;have M:=bp.o.am L;obtain⟨m0,m1,m2,m3,m4,m5,bg,ab⟩:=zt ((M b bs).trans U.o);have B:=za x;have K:=za L;have J:=za (a1.o T M x.hN x.sc);cases O:c.operands t with
    | true => rw[O] at J I;go_wp2_with (go_at_call 131;refine J.o.mono ?_;rintro e w5 ⟨rfl,C⟩;have i:=za C);go_ret;refine⟨rfl,?_,K.o.trans (zy i.o)⟩;rw[I.o];exact B.o.aq i.o
    | false =>
      rw[O] at J I;go_upto_region 4 with (go_at_call 131;refine J.o.mono ?_;rintro e w5 ⟨rfl,C⟩;have i:=za C);have g1:=zd i.o p0 ar;have g2:=zd i.o m1 ab;have z:=za (eg S l lb a f n m (aj d t.nm) t.a w5.drew ((B.o.aq i.o).rp.aq (zo (Below.refl _ _))));unfold bT at g1
      go_region_held3 (λw'=>w'.cell? (xD j 0)=some (.func (.func 140) #[] #[xP lb,xP a,xP f])/\w'.cell? (xD b 1)=some (xI t.a))
       (first|(with_reducible (refine⟨?_,?_⟩ <;> repeat (first|assumption|refine zg ?_|refine zS y.o ?_ (by omega) (by omega))))|go_keep)
       (first
         | (go_at_call 140;refine (z.o).mono ?_;rintro e w6 ⟨rfl,R,E⟩;have Q:=za R;have y:=za E.cQ))
      go_wp2_with fail;go_ret;refine⟨rfl,?_,(K.o.trans (zy i.o)).trans y.o⟩;rw[I.o];exact (B.o.aq i.o).aX Q.o y.o
end
section
variable {k:Nat}
attribute [local go_sem ↓] Go.wp_at_zero Go.wp_at_succ
theorem G8 (c:Sc):∀(a b:List Vr),eI c (a++b)=eI c a++eI c b:=by
 intro a;induction a with
 | nil=>intro b;rfl
 | cons v a d=>intro b;rw[List.cons_append,eI,eI,d,bw]
theorem kN {α:Type}{l:List α}{v:α}(h:l[k]?=some v):l.take (k+1)=l.take k++[v]:=by obtain⟨a,b⟩:=aB.1 h;rw[List.take_succ_eq_append_getElem a,b]
structure ka (c:Sc):Prop where
 root:∀q∈c.nd.eqs,gN c q.r
 ck:∀v∈c.nd.ak,ba v≠0->c.has v.ck=true
 left:∀q∈c.nd.eqs,∀s∈q.ns,c.has s=true
 many:∀q∈c.nd.eqs,2<=q.ns.length->∃d,c.called q.r.s=some d/\d.nd.aG=q.ns.length
theorem IM {N:Nat}{c:Sc}{m p:Xv}(i:eU c)(b:ka c)(q:Qn)(a:q∈c.nd.eqs)(f g:Xv)(w:Xw)(n:Nz w N q f g)(h:br w N c m p)(o:N<=w.heap.size) :
 xK 128 #[.agg #[m,p],.agg #[f,xI q.a,g]] w (λe t=>e=.returned (.bool (c.holds q))/\xB w t):=by
 obtain⟨l,u,v,x⟩:=i.nd.eqs q a;by_cases r:q.ns.length=1
 . exact Im i q f g w n h o (b.root q a) (b.left q a) l r
 obtain⟨d,s,j⟩:=b.many q a (by omega);exact HV i q f g w n h o (b.left q a) l (by omega) s j
theorem xU {α:Type}{l:List α}{v:α}(f:α->List Nat)(h:l[k]?=some v)(a:Xo):((l.take (k+1)).flatMap f).foldl aj a=(f v).foldl aj (((l.take k).flatMap f).foldl aj a):=by rw[kN h,List.flatMap_append,bc];simp
theorem xx {α:Type}(f:α->List Nat):∀(l:List α) (b:Xo),l.foldl (λb x=>(f x).foldl aj b) b=(l.flatMap f).foldl aj b:=by
 intro l;induction l with
 | nil=>intro b;rfl
 | cons a l c=>intro b;rw[List.foldl_cons,List.flatMap_cons,bc,c]
theorem HB (S:Xs)(F lb p x:Nat)(n d:Xv)(N:Nat)(c:Sc)(hc:eU c)(bl:ka c)(ev nv:Xv)(u:Xo)(w:Xw)(hR:Fx S F lb p x n d u w)(h:br w N c ev nv)(hN:N<=w.heap.size)(l1:N<=lb)(l2:N<=p) :
 xK 67 #[.agg #[ev,nv],bT lb p x] w (λe w'=>e=.returned (.tuple #[])/\Fx S F lb p x n d (c.eP.foldl aj u) w'/\Fr (RT lb p) w w'):=by
 obtain⟨Q,t,B,rfl,rfl,bL⟩:=h.shape;have b0:=ze hR.l;have bY:=ze hR.b;have X:∀o1 o2,((w.alloc o1).alloc o2).heap[w.heap.size]?=some o1/\((w.alloc o1).alloc o2).heap[w.heap.size+1]?=some o2:=λo1 o2=>mO w o1 o2
 have bb:b5 S F lb p x n d N c (xE Q c t) (xP B) w.heap.size (w.heap.size+1) u ((w.alloc (.cells #[xE Q c t,xP B] 216)).alloc (.cells #[bT lb p x] 214)) :=
  ⟨hR.aq (cT w _ _),h.am (j8 hN _ _),(X _ _).1,(X _ _).2,by omega,by omega,by omega,by omega,l1,l2,by simp;omega⟩
 have U:=za bb;obtain⟨b1,cm,cg,xs,bB,f⟩:=h.nd;cases bB;obtain⟨ct,bx,rfl⟩:=zB f.bZ;obtain⟨cs,bv,rfl⟩:=zB f.own;have bs:=f.bO;have bC:c.nd.eqs.length<=9223372036854775807:=by
  rcases f.own.2 with ⟨_,h⟩|⟨g,K,bA,hv,_,_,h3,h4,_⟩
  . omega
  unfold maxLen at h4;omega
 have V:aa (c.eP.foldl aj u=((c.nd.eqs.flatMap λq=>(bh b8 q.r).flatMap (fT c))).foldl aj ((c.nd.eqs.flatMap λq=>if c.holds q=true then [] else [q.a]).foldl aj ((eI c c.nd.ak).foldl aj u))):=by unfold aa Sc.eP;rw[bc,bc]
 have a1:(eI c (c.nd.ak.take 0)).foldl aj u=u:=rfl;have H:=za (zy (T:=RT lb p) (cT w (.cells #[xE Q c t,xP B] 216) (.cells #[bT lb p x] 214)));unfold bT at U H ⊢;go_enter func67,ntmps67;go_upto_region 1 with fail;refine zn (λW=>b5 S F lb p x n d N c (xE Q c t) (xP B) w.heap.size (w.heap.size+1) u W/\Fr (RT lb p) w W) ⟨U.o,H.o⟩ ?_;rintro W ⟨Z,Y⟩;have a6:=za Z;have a4:=za Y;obtain⟨ch,s1,ck,sz⟩:=zp Z.x1;have be:=Y.am hN (λk e=>by rcases e with e|e;exact e▸l1;exact e▸l2);obtain⟨m0,m1,m2,m3,m4,m5,cd,ce⟩:=zt ((be B f.lo).trans f.aC);have bq:=za a1;go_wp2_with fail;go_loopg [15] (c.nd.ak.length+1) (λj i wr=>∃k:Nat,k+j=c.nd.ak.length+1/\k<=c.nd.ak.length/\i=xI k/\aa (b5 S F lb p x n d N c (xE Q c t) (xP B) w.heap.size (w.heap.size+1) ((eI c (c.nd.ak.take k)).foldl aj u) wr)/\aa (Fr (RT lb p) w wr));case atStart=>exact⟨0,by omega,aE _,rfl,a6.o,a4.o⟩
 case round =>
  obtain⟨k,bk,bE,rfl,a,l⟩:=hrel;have A:=l.o.am hN (λk e=>by rcases e with e|e;exact e▸l1;exact e▸l2);obtain⟨p0,b2,b3,b4⟩:=zp a.o.x1;obtain⟨q0,qf,bp⟩:=zu a.o.x2;unfold bT at q0;have L:=a.o.hN;by_cases P:k<c.nd.ak.length
  . obtain⟨v,hv⟩:∃v,c.nd.ak[k]?=some v:=⟨_,av P⟩;obtain⟨g,rfl,c0,c1,c2,c3,c4,c5,c6⟩:=hj (f.am A).bZ hv;have bg:=f.jc g rfl;have M:eI c (c.nd.ak.take (k+1))=eI c (c.nd.ak.take k)++((if (ba v != 0&&c.decl v.ck != 1)=true then [v.on] else [])++[]):=by rw[kN hv,G8];rfl
    have aL:w.heap.size<wr.heap.size+1:=(by omega);have aV:w.heap.size+1<wr.heap.size+1:=(by omega);by_cases E:ba v=0
    . have a0:((ba v:Int) != 0)=false:=(by simp[E]);have z:aa (∀s:Xo,(eI c (c.nd.ak.take (k+1))).foldl aj s=(eI c (c.nd.ak.take k)).foldl aj s):=(by intro s;rw[M];simp[E]);have z:=za (z.o u);generalize ba v=sg at *;go_wp2_with fail;go_roundg (gk-1);case measure=>omega
      refine⟨k+1,by omega,by omega,by go_num,?_,l.o.alloc _⟩;rw[z.o];exact a.o.aq (zq wr _)
    have a0:((ba v:Int) != 0)=true:=(by simp;omega);have aA:=bl.ck v (aM hv) E;have I:=za (λo=>me v.ck (v.ca:Int) (wr.alloc o) (a.o.aq (zq wr o)).sc (by simp;omega) aA);by_cases O:c.decl v.ck=1
    . have z:aa (∀s:Xo,(eI c (c.nd.ak.take (k+1))).foldl aj s=(eI c (c.nd.ak.take k)).foldl aj s):=(by intro s;rw[M];simp[O]);have z:=za (z.o u);have ar:((c.decl v.ck:Int) != 1)=false:=(by simp[O]);generalize ba v=sg at *;generalize c.decl v.ck=dc at *;go_wp2_with (go_at_call 127;refine (I.o _).mono ?_;rintro e R ⟨rfl,m⟩;have b:=za (zE m));go_roundg (gk-1);case measure=>omega
      refine⟨k+1,by omega,by omega,by go_num,?_,l.o.trans (zy b.o)⟩;rw[z.o];exact a.o.aq b.o
    have z:aa (∀s:Xo,(eI c (c.nd.ak.take (k+1))).foldl aj s=aj ((eI c (c.nd.ak.take k)).foldl aj s) v.on):=(by intro s;rw[M,bc];simp[O,E]);have z:=za (z.o u);have ar:((c.decl v.ck:Int) != 1)=true:=(by simp;omega);generalize ba v=sg at *;generalize c.decl v.ck=dc at *
    go_wp2_with (first
     | (go_at_call 140;refine r.o.mono ?_;rintro e w2 ⟨rfl,J,y⟩)
     | (go_at_call 127;refine (I.o _).mono ?_;rintro e R ⟨rfl,m⟩;obtain⟨x0,x1,x2,x3,x4,x5,cn,ca,cb⟩:=eK ((m.block wr.heap.size (by simp)).trans (zc wr _));have b:=za (zE m);have g0:=zd b.o q0 bp;have r:=za (eg S F lb p x n d _ v.on R (a.o.aq b.o).rp)))
    go_roundg (gk-1);case measure=>omega
    refine⟨k+1,by omega,by omega,by go_num,?_,(l.o.trans (zy b.o)).trans y⟩;rw[z.o];exact (a.o.aq b.o).aX J y
  have ek:k=c.nd.ak.length:=by omega
  subst ek;rw[List.take_length] at a;obtain⟨G,a2⟩:∃G,(eI c c.nd.ak).foldl aj u=G:=⟨_,rfl⟩;rw[a2] at a V;obtain⟨n0,n1,n2,n3,n4,n5,nf,nz⟩:=zt ((A B f.lo).trans f.aC);go_wp2_with fail;go_loopg [44] (c.nd.eqs.length+1) (λj i bt=>∃k:Nat,k+j=c.nd.eqs.length+1/\k<=c.nd.eqs.length/\i=xI k/\aa (b5 S F lb p x n d N c (xE Q c t) (xP B) w.heap.size (w.heap.size+1) (((c.nd.eqs.take k).flatMap λq=>if c.holds q=true then [] else [q.a]).foldl aj G) bt)/\aa (Fr (RT lb p) w bt));case atStart=>exact⟨0,by omega,aE _,rfl,a.o,l.o⟩
  case round =>
   obtain⟨k,bk,bE,rfl,a,l⟩:=hrel;have A:=l.o.am hN (λk e=>by rcases e with e|e;exact e▸l1;exact e▸l2);obtain⟨p0,b2,b3,b4⟩:=zp a.o.x1;obtain⟨q0,qf,bp⟩:=zu a.o.x2;unfold bT at q0;have L:=a.o.hN;by_cases P:k<c.nd.eqs.length
   . obtain⟨q,bo⟩:∃q,c.nd.eqs[k]?=some q:=⟨_,av P⟩;have ab:=f.am A;obtain⟨g,lv,rv,rfl,c0,c1,c2,HEq⟩:=lj ab.own ab.eqs bo rfl;obtain⟨rb,_,_,rfl,_⟩:=HEq.tt.ptr;obtain⟨co,cl,rfl⟩:=zB HEq.own;have bg:=f.ko g rfl;have I:=za (λo=>IM hc bl q (aM bo) _ _ (wr.alloc o) (HEq.am (OJ L o)) (a.o.aq (zq wr o)).sc (by simp;omega));have C:=za (xU (λq=>if c.holds q=true then [] else [q.a]) bo G);have aL:w.heap.size<wr.heap.size+1:=(by omega);have aV:w.heap.size+1<wr.heap.size+1:=(by omega);cases D:c.holds q with
     | true =>
       simp only[D] at C;rw[D] at I;go_wp2_with (go_at_call 128;refine (I.o _).mono ?_;rintro e R ⟨rfl,m⟩;have b:=za (zE m));go_roundg (gk-1);case measure=>omega
       refine⟨k+1,by omega,by omega,by go_num,?_,l.o.trans (zy b.o)⟩;rw[C.o];exact a.o.aq b.o
     | false =>
       simp only[D] at C;rw[D] at I
       go_wp2_with (first
        | (go_at_call 140;refine r.o.mono ?_;rintro e w2 ⟨rfl,J,y⟩)
        | (go_at_call 128;refine (I.o _).mono ?_;rintro e R ⟨rfl,m⟩;obtain⟨x0,x1,x2,ca,cb⟩:=zL ((m.block wr.heap.size (by simp)).trans (zc wr _));have b:=za (zE m);have g0:=zd b.o q0 bp;have r:=za (eg S F lb p x n d _ q.a R (a.o.aq b.o).rp)))
       go_roundg (gk-1);case measure=>omega
       refine⟨k+1,by omega,by omega,by go_num,?_,(l.o.trans (zy b.o)).trans y⟩;rw[C.o];exact (a.o.aq b.o).aX J y
   have ek:k=c.nd.eqs.length:=(by omega);subst ek;rw[List.take_length] at a;have hV:=It S F lb p x n d N c hc (xE Q c t) (xP B) w.heap.size (w.heap.size+1) bl.root l1 l2;have a9:=za (rD hV B _ _ xs _ wr (f.am A) L (λk e=>by have:=l.o.size;rcases e with e|e <;> omega) a.o);have bK:∀(fn:Go.Fn) (first K:Xa) (w:Xw),(Instr.makeFunc fn first K).run prog w=.ok (.func fn first K) w:=λ_ _ _ _=>rfl;go_wp2_with (go_at_call 122;refine a9.o.mono ?_;rintro e R ⟨rfl,a5,a3⟩);go_end0;refine⟨rfl,?_,l.o.trans a3⟩;rw[V.o];have:=a5.rp;simp only[xx] at this;exact this
end
section
attribute [local go_sem ↓] Go.wp_at_zero Go.wp_at_succ
theorem HZ (S:Xs)(X lb y M:Nat)(p f:Xv)(N:Nat)(c:Sc)(h6:c.er.length<=6)(ev nv:Xv)(D K:Nat)(l1:N<=lb)(l2:N<=y) :
 nX N (RT lb y) 123 #[xP D,xP K] (λ_=>True) c.nd (λz q t=>(fF c q t).foldl aj z) (b5 S X lb y M p f N c ev nv D K) where
 enters:=K0
 hT:=λk e=>by rcases e with e|e;exact e▸l1;exact e▸l2
 aq:=λs w m h hB=>h.aq hB
 sub:=λt u h hu=>trivial
 root:=λ_ _=>trivial
 call:=by
  intro q lv rv t v z w cs cd hT cm hN a9 hO;have bx:=za a9;have bC:=za hT;have HEq:=za cd;have cb:=za cm;obtain⟨O,j,L,rfl,rfl,cn⟩:=a9.sc.shape;obtain⟨b,cg,ct,rfl,bK,bq,_⟩:=hT.ptr;have a3:=ze bq;have B:=za bq;obtain⟨Z,T,rfl⟩:=zB cd.own;obtain⟨Y,_,_,rfl,_⟩:=cd.tt.ptr;have cv:=ze a9.x1;have z2:=ze a9.x2;have zl:=ze a9.rp.l;have cz:=ze a9.rp.b;have d1:=a9.d1;have d2:=a9.d2;have d3:=a9.d3;have d4:=a9.d4;have ck:¬b=lb:=by omega
  have ch:¬b=y:=by omega
  have aV:=za (λW (hB:xB w W)=>rq W (hT.am (zm hB hN)));have bE:=za (λW (hB:bV N w W)=>JA W (HEq.o.am hB) (bC.o.am hB) cb.o);have bB:=za (λW (hB:bV N w W) (hz:N<=W.heap.size) (co:br W N c (xE O c j) (xP L))=>Jo (hp q t) W co hz h6 (bC.o.am hB));have bL:¬w.heap.size=lb:=by omega
  have bY:¬w.heap.size=y:=by omega
  show Calls prog _ #[.agg #[.slice Z q.ns.length T,xI q.a,xP Y],xP b,xP D,xP K] w _;have bg:b5 S X lb y M p f N c (xE O c j) (xP L) D K z (w.alloc (.cells #[.slice Z q.ns.length T,xI q.a,xP Y] 184)):=bx.o.aq (zq w _);have a0:=za bg;by_cases be:t.k=4
  . have C:NA t.k=false:=by rw[be];rfl
    rw[be] at B;cases U:c.fits t (hp q t) with
    | true =>
      have bb:aa ((fF c q t).foldl aj z=z):=(by unfold aa fF;rw[C,U];simp);go_enter func123,ntmps123;go_upto_region 1 with fail;refine zn (λW=>b5 S X lb y M p f N c (xE O c j) (xP L) D K z W/\xB w W/\xH W w.heap.size #[.slice Z q.ns.length T,xI q.a,xP Y] 184) ⟨a0.o,zq w _,zc w _⟩ ?_;rintro W ⟨d,i,o⟩;obtain⟨bo,s1,bp,sz⟩:=zp d.x1;obtain⟨p0,bl,a6⟩:=zu d.x2;obtain⟨m0,m1,m2,m3,m4,m5,bk,a5⟩:=zt ((i.block b a3).trans B.o);have E:=za d;have A:=za i;have G:=za o;have ar:=ze o;have R:=za (λqn=>nA (aV.o (W.drewN qn) (zI i qn)));rw[C] at R;go_quiet ((go_at_call 124;exact R.o _));go_upto_region 3 with fail;refine zn (λl=>b5 S X lb y M p f N c (xE O c j) (xP L) D K z l/\Fr (RT lb y) w l/\xH l w.heap.size #[.slice Z q.ns.length T,xI q.a,xP Y] 184) ⟨E.o.aq (zI (Below.refl _ _) _),zy (zI A.o _),G.o⟩ ?_;rintro l ⟨g,n,I⟩;obtain⟨bo,s1,bp,sz⟩:=zp g.x1;obtain⟨p0,bl,a6⟩:=zu g.x2;obtain⟨b1,b2,b3,rf,b4⟩:=zL I;have r:=bx.o.am n;obtain⟨m0,m1,m2,m3,m4,m5,bk,a5⟩:=zt ((r b bK).trans B.o);have x:=za g;have F:=za n;have ca:=za (bE.o l.drew r);have a2:=g.hN;have ce:xC l b 0 (xI 4):=m0
      go_region_held3 (λm=>m.cell? (xD D 0)=some (xE O c j)/\m.cell? (xD D 1)=some (xP L)/\m.cell? (xD w.heap.size 0)=some (.slice Z q.ns.length T)/\m.cell? (xD w.heap.size 1)=some (xI q.a)/\m.cell? (xD w.heap.size 2)=some (xP Y)/\m.cell? (xD b 0)=some (xI 4))
       (first|(with_reducible (refine⟨?_,?_,?_,?_,?_,?_⟩ <;> repeat (first|assumption|refine zg ?_|refine zj _ ?_|refine zk (by omega) ?_|refine zd ab.o ?_ (by first|omega|(rw[au];omega))|refine zd a.o ?_ (by first|omega|(rw[au];omega)))))|go_keep)
       (first
         | (go_at_call 125;refine aL.o.mono ?_;rintro e w5 ⟨rfl,bt⟩;have ab:=za bt)
         | (go_at_call 126;refine ca.o.mono ?_;rintro e w4 ⟨rfl,H⟩;have a:=za (zw H);(have b0:l.heap.size<=w4.heap.size:=H.size);have aL:=za (bB.o w4 (r.trans (zm a.o a2)) (by omega) (x.o.aq a.o).sc);rw[U] at aL))
      go_wp2_with fail;go_ret;refine⟨rfl,?_,F.o.trans (zy (a.o.trans (ab.o.mono (by have:=a.o.size;omega))))⟩;rw[bb.o];exact x.o.aq (a.o.trans (ab.o.mono (by have:=a.o.size;omega)))
    | false =>
      have bb:aa ((fF c q t).foldl aj z=aj z t.nm):=(by unfold aa fF;rw[C,U,be];rfl);go_enter func123,ntmps123;go_upto_region 1 with fail;refine zn (λW=>b5 S X lb y M p f N c (xE O c j) (xP L) D K z W/\xB w W/\xH W w.heap.size #[.slice Z q.ns.length T,xI q.a,xP Y] 184) ⟨a0.o,zq w _,zc w _⟩ ?_;rintro W ⟨d,i,o⟩;obtain⟨bo,s1,bp,sz⟩:=zp d.x1;obtain⟨p0,bl,a6⟩:=zu d.x2;obtain⟨m0,m1,m2,m3,m4,m5,bk,a5⟩:=zt ((i.block b a3).trans B.o);have E:=za d;have A:=za i;have G:=za o;have ar:=ze o;have R:=za (λqn=>nA (aV.o (W.drewN qn) (zI i qn)));rw[C] at R;go_quiet ((go_at_call 124;exact R.o _));go_upto_region 3 with fail;refine zn (λl=>b5 S X lb y M p f N c (xE O c j) (xP L) D K z l/\Fr (RT lb y) w l/\xH l w.heap.size #[.slice Z q.ns.length T,xI q.a,xP Y] 184) ⟨E.o.aq (zI (Below.refl _ _) _),zy (zI A.o _),G.o⟩ ?_;rintro l ⟨g,n,I⟩;obtain⟨bo,s1,bp,sz⟩:=zp g.x1;obtain⟨p0,bl,a6⟩:=zu g.x2;obtain⟨b1,b2,b3,rf,b4⟩:=zL I;have r:=bx.o.am n;obtain⟨m0,m1,m2,m3,m4,m5,bk,a5⟩:=zt ((r b bK).trans B.o);have x:=za g;have F:=za n;have ca:=za (bE.o l.drew r);have a2:=g.hN;have ce:xC l b 0 (xI 4):=m0
      go_region_held3 (λm=>m.cell? (xD D 0)=some (xE O c j)/\m.cell? (xD D 1)=some (xP L)/\m.cell? (xD w.heap.size 0)=some (.slice Z q.ns.length T)/\m.cell? (xD w.heap.size 1)=some (xI q.a)/\m.cell? (xD w.heap.size 2)=some (xP Y)/\m.cell? (xD b 0)=some (xI 4))
       (first|(with_reducible (refine⟨?_,?_,?_,?_,?_,?_⟩ <;> repeat (first|assumption|refine zg ?_|refine zj _ ?_|refine zk (by omega) ?_|refine zd ab.o ?_ (by first|omega|(rw[au];omega))|refine zd a.o ?_ (by first|omega|(rw[au];omega)))))|go_keep)
       (first
         | (go_at_call 125;refine aL.o.mono ?_;rintro e w5 ⟨rfl,bt⟩;have ab:=za bt)
         | (go_at_call 126;refine ca.o.mono ?_;rintro e w4 ⟨rfl,H⟩;have a:=za (zw H);(have b0:l.heap.size<=w4.heap.size:=H.size);have aL:=za (bB.o w4 (r.trans (zm a.o a2)) (by omega) (x.o.aq a.o).sc);rw[U] at aL))
      go_upto_region 4 with fail;have aA:=za (a.o.trans (ab.o.mono (by have:=a.o.size;omega)));have g1:=zd aA.o p0 a6;have g2:=zd aA.o m3 a5;have P:=za (eg S X lb y M p f z t.nm w5.drew ((x.o.aq aA.o).rp.aq (zo (Below.refl _ _))));unfold bT at g1
      go_region_held3 (λm=>m.cell? (xD K 0)=some (.func (.func 140) #[] #[xP lb,xP y,xP M])/\m.cell? (xD b 3)=some (xI t.nm))
       (first|(with_reducible (refine⟨?_,?_⟩ <;> repeat (first|assumption|refine zg ?_|refine zS J.o ?_ (by omega) (by omega))))|go_keep)
       (first
         | (go_at_call 140;refine (P.o).mono ?_;rintro e w6 ⟨rfl,bv,a1⟩;have bs:=za bv;have J:=za a1.cQ))
      go_wp2_with fail;go_ret;refine⟨rfl,?_,(F.o.trans (zy aA.o)).trans J.o⟩;rw[bb.o];exact (x.o.aq aA.o).aX bs.o J.o
  have cl:((t.k:Int)==4)=false:=by simp;omega
  have a4:(t.k==4)=false:=by simp[be]
  cases C:NA t.k with
  | false => have bb:aa ((fF c q t).foldl aj z=z):=(by unfold aa fF;rw[C,a4];rfl);go_enter func123,ntmps123;go_upto_region 1 with fail;refine zn (λW=>b5 S X lb y M p f N c (xE O c j) (xP L) D K z W/\xB w W/\xH W w.heap.size #[.slice Z q.ns.length T,xI q.a,xP Y] 184) ⟨a0.o,zq w _,zc w _⟩ ?_;rintro W ⟨d,i,o⟩;obtain⟨bo,s1,bp,sz⟩:=zp d.x1;obtain⟨p0,bl,a6⟩:=zu d.x2;obtain⟨m0,m1,m2,m3,m4,m5,bk,a5⟩:=zt ((i.block b a3).trans B.o);have E:=za d;have A:=za i;have G:=za o;have ar:=ze o;have R:=za (λqn=>nA (aV.o (W.drewN qn) (zI i qn)));rw[C] at R;go_quiet ((go_at_call 124;exact R.o _));go_upto_region 3 with fail;refine zn (λl=>b5 S X lb y M p f N c (xE O c j) (xP L) D K z l/\Fr (RT lb y) w l/\xH l w.heap.size #[.slice Z q.ns.length T,xI q.a,xP Y] 184) ⟨E.o.aq (zI (Below.refl _ _) _),zy (zI A.o _),G.o⟩ ?_;rintro l ⟨g,n,I⟩;obtain⟨bo,s1,bp,sz⟩:=zp g.x1;obtain⟨p0,bl,a6⟩:=zu g.x2;obtain⟨b1,b2,b3,rf,b4⟩:=zL I;have r:=bx.o.am n;obtain⟨m0,m1,m2,m3,m4,m5,bk,a5⟩:=zt ((r b bK).trans B.o);have x:=za g;have F:=za n;go_quiet (fail);go_wp2_with fail;go_ret;refine⟨rfl,?_,F.o.trans (zy (zI (Below.refl _ _) _))⟩;rw[bb.o];exact x.o.aq (zI (Below.refl _ _) _)
  | true =>
    cases V:c.has t.s with
    | true =>
      have bb:aa ((fF c q t).foldl aj z=z):=(by unfold aa fF;rw[C,a4,V];rfl);go_enter func123,ntmps123;go_upto_region 1 with fail;refine zn (λW=>b5 S X lb y M p f N c (xE O c j) (xP L) D K z W/\xB w W/\xH W w.heap.size #[.slice Z q.ns.length T,xI q.a,xP Y] 184) ⟨a0.o,zq w _,zc w _⟩ ?_;rintro W ⟨d,i,o⟩;obtain⟨bo,s1,bp,sz⟩:=zp d.x1;obtain⟨p0,bl,a6⟩:=zu d.x2;obtain⟨m0,m1,m2,m3,m4,m5,bk,a5⟩:=zt ((i.block b a3).trans B.o);have E:=za d;have A:=za i;have G:=za o;have ar:=ze o;have R:=za (aV.o W.drew (zo i));rw[C] at R;have bA:=za (pv t.s (t.nm:Int) W.drew (d.sc.am (λ_ _=>rfl)) (by show N<=W.heap.size;exact d.hN));have Q:(c.nd.find t.s).isSome=true:=V;rw[Q] at bA
      go_region_held3 (λm=>m.cell? (xD D 0)=some (xE O c j)/\m.cell? (xD D 1)=some (xP L)/\m.cell? (xD b 2)=some (.string t.s)/\m.cell? (xD b 3)=some (xI t.nm))
       (first|(with_reducible (refine⟨?_,?_,?_,?_⟩ <;> repeat (first|assumption|refine zg ?_|refine zj _ ?_|refine zk (by omega) ?_|refine zd a.o ?_ (by first|omega|(rw[au];omega)))))|go_keep)
       (first
         | (go_at_call 121;refine bA.o.mono ?_;rintro e w1 ⟨rfl,H⟩;have a:=za (zw H))
         | (go_at_call 124;refine R.o.mono ?_;rintro e w1 ⟨rfl,rfl⟩))
      go_upto_region 3 with fail;refine zn (λl=>b5 S X lb y M p f N c (xE O c j) (xP L) D K z l/\Fr (RT lb y) w l/\xH l w.heap.size #[.slice Z q.ns.length T,xI q.a,xP Y] 184) ⟨E.o.aq a.o,zy (A.o.trans (a.o.mono A.o.size)),(a.o.block _ ar).trans G.o⟩ ?_;rintro l ⟨g,n,I⟩;obtain⟨bo,s1,bp,sz⟩:=zp g.x1;obtain⟨p0,bl,a6⟩:=zu g.x2;obtain⟨b1,b2,b3,rf,b4⟩:=zL I;have r:=bx.o.am n;obtain⟨m0,m1,m2,m3,m4,m5,bk,a5⟩:=zt ((r b bK).trans B.o);have x:=za g;have F:=za n;go_quiet (fail);go_wp2_with fail;go_ret;refine⟨rfl,?_,F.o.trans (zy (zI (Below.refl _ _) _))⟩;rw[bb.o];exact x.o.aq (zI (Below.refl _ _) _)
    | false =>
      have bb:aa ((fF c q t).foldl aj z=aj z t.nm):=(by unfold aa fF;rw[C,a4,V];rfl);go_enter func123,ntmps123;go_upto_region 1 with fail;refine zn (λW=>b5 S X lb y M p f N c (xE O c j) (xP L) D K z W/\xB w W/\xH W w.heap.size #[.slice Z q.ns.length T,xI q.a,xP Y] 184) ⟨a0.o,zq w _,zc w _⟩ ?_;rintro W ⟨d,i,o⟩;obtain⟨bo,s1,bp,sz⟩:=zp d.x1;obtain⟨p0,bl,a6⟩:=zu d.x2;obtain⟨m0,m1,m2,m3,m4,m5,bk,a5⟩:=zt ((i.block b a3).trans B.o);have E:=za d;have A:=za i;have G:=za o;have ar:=ze o;have R:=za (aV.o W.drew (zo i));rw[C] at R;have bA:=za (pv t.s (t.nm:Int) W.drew (d.sc.am (λ_ _=>rfl)) (by show N<=W.heap.size;exact d.hN));have Q:(c.nd.find t.s).isSome=false:=V;rw[Q] at bA
      go_region_held3 (λm=>m.cell? (xD D 0)=some (xE O c j)/\m.cell? (xD D 1)=some (xP L)/\m.cell? (xD b 2)=some (.string t.s)/\m.cell? (xD b 3)=some (xI t.nm))
       (first|(with_reducible (refine⟨?_,?_,?_,?_⟩ <;> repeat (first|assumption|refine zg ?_|refine zj _ ?_|refine zk (by omega) ?_|refine zd a.o ?_ (by first|omega|(rw[au];omega)))))|go_keep)
       (first
         | (go_at_call 121;refine bA.o.mono ?_;rintro e w1 ⟨rfl,H⟩;have a:=za (zw H))
         | (go_at_call 124;refine R.o.mono ?_;rintro e w1 ⟨rfl,rfl⟩))
      go_upto_region 2 with fail;have g1:=zd a.o p0 a6;have g2:=zd a.o m3 a5;have P:=za (eg S X lb y M p f z t.nm w1.drew ((E.o.aq a.o).rp.aq (zo (Below.refl _ _))));unfold bT at g1
      go_region_held3 (λm=>m.cell? (xD K 0)=some (.func (.func 140) #[] #[xP lb,xP y,xP M])/\m.cell? (xD b 3)=some (xI t.nm))
       (first|(with_reducible (refine⟨?_,?_⟩ <;> repeat (first|assumption|refine zg ?_|refine zS J.o ?_ (by omega) (by omega))))|go_keep)
       (first
         | (go_at_call 140;refine (P.o).mono ?_;rintro e w2 ⟨rfl,bv,a1⟩;have bs:=za bv;have J:=za a1.cQ))
      go_upto_region 3 with fail;refine zn (λl=>b5 S X lb y M p f N c (xE O c j) (xP L) D K (aj z t.nm) l/\Fr (RT lb y) w l/\xH l w.heap.size #[.slice Z q.ns.length T,xI q.a,xP Y] 184) ⟨(E.o.aq a.o).aX bs.o J.o,(zy (A.o.trans (a.o.mono A.o.size))).trans J.o,(J.o.block _ (by have:=a.o.size;omega) (λe=>by rcases e with e|e;exact bL e;exact bY e)).trans ((a.o.block _ ar).trans G.o)⟩ ?_;rintro l ⟨g,n,I⟩;obtain⟨bo,s1,bp,sz⟩:=zp g.x1;obtain⟨p0,bl,a6⟩:=zu g.x2;obtain⟨b1,b2,b3,rf,b4⟩:=zL I;have r:=bx.o.am n;obtain⟨m0,m1,m2,m3,m4,m5,bk,a5⟩:=zt ((r b bK).trans B.o);have x:=za g;have F:=za n;go_quiet (fail);go_wp2_with fail;go_ret;refine⟨rfl,?_,F.o.trans (zy (zI (Below.refl _ _) _))⟩;rw[bb.o];exact x.o.aq (zI (Below.refl _ _) _)
end
end Go.Proofs.YtbicmofihhjgbaaGreatDoor
