/- Part 12. -/
import Derived.Test.YtcnelakggnfnhaaGreatDoorK10
set_option maxRecDepth 100000
set_option maxHeartbeats 8000000
namespace Go.Proofs.YtcnelakggnfnhaaGreatDoor
open Go.Proofs.Tryz
open Go.RowKit
section
variable {N g j a l lb f:Nat} {S:Xs} {d:Xo} {c:Sc} {m p n r:Xv} {w w':Xw}
attribute [local go_sem ↓] Go.wp_at_zero Go.wp_at_succ
theorem zS {W:Xw}{b i:Nat}{v:Xv}(h:Fr (RT lb a) w W)(o:w.cell? (xD b i)=some v)(q:¬b=lb)(s:¬b=a):W.cell? (xD b i)=some v:=by
 have k:b<w.heap.size:=by
  rcases Nat.lt_or_ge b w.heap.size with h|h
  . exact h
  simp[World.cell?,Array.getElem?_eq_none h] at o
 exact (Z6 (w:=w) (h.block b k (λe=>by rcases e with e|e;exact q e;exact s e))).trans o
structure b5 (S:Xs) (l lb a f:Nat) (n m:Xv) (N:Nat) (c:Sc) (p r:Xv) (g j:Nat) (d:Xo) (w:Xw):Prop where
 rp:Fx S l lb a f n m d w
 sc:br w N c p r
 x1:w.heap[g]?=some (.cells #[p,r] 201 (0,0))
 x2:w.heap[j]?=some (.cells #[bT lb a f] 199 (0,0))
 d1:¬g=lb
 d2:¬g=a
 d3:¬j=lb
 d4:¬j=a
 l1:N<=lb
 l2:N<=a
 hN:N<=w.heap.size
theorem b5.aq (h:b5 S l lb a f n m N c p r g j d w)(b:xB w w'):b5 S l lb a f n m N c p r g j d w' :=
 ⟨h.rp.aq b,h.sc.am (zm b h.hN),(b.block _ (ze h.x1)).trans h.x1,(b.block _ (ze h.x2)).trans h.x2,h.d1,h.d2,h.d3,h.d4,h.l1,h.l2,aJ h.hN b.size⟩
theorem b5.aX {i:Xo}(h:b5 S l lb a f n m N c p r g j d w)(u:Fx S l lb a f n m i w')(o:Fr (RT lb a) w w'):b5 S l lb a f n m N c p r g j i w':=by
 have q:∀{b},¬b=lb->¬b=a->¬RT lb a b:=λs t e=>by rcases e with e|e;exact s e;exact t e
 exact⟨u,h.sc.am (o.am h.hN (λk e=>by rcases e with e|e;exact e▸h.l1;exact e▸h.l2)),(o.block _ (ze h.x1) (q h.d1 h.d2)).trans h.x1,(o.block _ (ze h.x2) (q h.d3 h.d4)).trans h.x2,h.d1,h.d2,h.d3,h.d4,h.l1,h.l2,aJ h.hN o.size⟩
theorem b5.am (h:b5 S l lb a f n m N c p r g j d w)(b:Fr (RT lb a) w w'):bV N w w':=b.am h.hN (λk e=>by rcases e with e|e;exact e▸h.l1;exact e▸h.l2)
theorem zy {T:Xj}(h:xB w w'):Fr T w w':=Fr.Mo h
theorem KH:zH 106:=λ_ _=>by kernel_rfl
theorem K0:zH 100:=λ_ _=>by kernel_rfl
theorem It (S:Xs)(l lb a f:Nat)(n m:Xv)(N:Nat)(c:Sc)(hc:eU c)(p r:Xv)(g j:Nat)(be:∀q∈c.nd.eqs,gN c q.r)(l1:N<=lb)(l2:N<=a) :
 nX N (RT lb a) 106 #[xP g,xP j] (gN c) c.nd (λd _ t=>(fT c t).foldl aj d) (b5 S l lb a f n m N c p r g j) where
 enters:=KH
 hT:=λk e=>by rcases e with e|e;exact e▸l1;exact e▸l2
 aq:=λs w w' h hB=>h.aq hB
 sub:=λt u h hu=>h.sub hu
 root:=be
 call:=by
  intro q lv rv t v d w b0 bx hT bY hN aV hO;have bq:=za aV;have bs:=za hT;obtain⟨Y,G,X,rfl,rfl,bC⟩:=aV.sc.shape;obtain⟨b,bv,vs,rfl,bt,a0,_⟩:=hT.ptr;have a6:=ze a0;have U:=za a0;obtain⟨bL,cl,rfl⟩:=zB bx.own;obtain⟨bK,_,_,rfl,_⟩:=bx.tt.ptr;obtain⟨o1,o2,o3⟩:=hO _ (nL b8 _);have b3:=ze aV.x1;have z2:=ze aV.x2;have d1:=aV.d1;have d2:=aV.d2;have d3:=aV.d3;have d4:=aV.d4;have bB:¬b=lb:=by omega
  have bA:¬b=a:=by omega
  have a3:=za (λW (hB:xB w W)=>Hs W (hT.am (zm hB hN)));have a2:=za (λW (hB:bV N w W) (hz:N<=W.heap.size) (bE:br W N c (xE Y c G) (xP X))=>Hi hc t (xP b) W (bs.o.am hB) bE hz hO)
  show Calls prog _ #[.agg #[.slice bL q.ns.length cl,xI q.a,xP bK],xP b,xP g,xP j] w _;have Z:∀o,b5 S l lb a f n m N c (xE Y c G) (xP X) g j d (w.alloc o)/\xB w (w.alloc o):=λo=>⟨bq.o.aq (zq w o),zq w o⟩;have a4:=za Z;cases H:j3 t.k with
  | false =>
    have I:aa (∀d:Xo,(fT c t).foldl aj d=(if c.operands t=true then [] else [t.a]).foldl aj d):=by
     intro d;unfold fT;have:(NA t.k&&t.k != 3&&c.decl t.s != 1)=false:=by unfold j3 at H;rw[H];rfl
     rw[this];rfl
    have I:=za (I.o d);go_enter func106,ntmps106;go_upto_region 1 with fail;refine zn (λW=>b5 S l lb a f n m N c (xE Y c G) (xP X) g j d W/\xB w W) (a4.o _) ?_;rintro W ⟨A,D⟩;obtain⟨bo,s1,bp,sz⟩:=zp A.x1;obtain⟨p0,bl,aA⟩:=zu A.x2;obtain⟨m0,m1,m2,m3,m4,m5,bk,ar⟩:=zt ((D.block b a6).trans U.o);have V:=za A;have P:=za D;have aL:=za (λqn=>nA (a3.o (W.drewN qn) (zI D qn)));rw[H] at aL;go_quiet ((go_at_call 107;exact aL.o _));go_upto_region 3 with fail;refine zn (λT=>b5 S l lb a f n m N c (xE Y c G) (xP X) g j d T/\Fr (RT lb a) w T) ⟨V.o.aq (zI (yS _ _) _),zy (zI P.o _)⟩ ?_;rintro T ⟨x,L⟩;obtain⟨bo,s1,bp,sz⟩:=zp x.x1;obtain⟨p0,bl,aA⟩:=zu x.x2;have M:=bq.o.am L;obtain⟨m0,m1,m2,m3,m4,m5,bk,ar⟩:=zt ((M b bt).trans U.o);have B:=za x;have K:=za L;have J:=za (a2.o T M x.hN x.sc);cases O:c.operands t with
    | true => rw[O] at J I;go_wp2_with (go_at_call 108;refine J.o.mono ?_;rintro e w5 ⟨rfl,C⟩;have i:=za C);go_ret;refine⟨rfl,?_,K.o.trans (zy i.o)⟩;rw[I.o];exact B.o.aq i.o
    | false =>
      rw[O] at J I;go_upto_region 4 with (go_at_call 108;refine J.o.mono ?_;rintro e w5 ⟨rfl,C⟩;have i:=za C);have g1:=zd i.o p0 aA;have g2:=zd i.o m1 ar;have z:=za (eg S l lb a f n m d t.a w5.drew ((B.o.aq i.o).rp.aq (zo (yS _ _))));unfold bT at g1
      go_region_held3 (λw'=>w'.cell? (xD j 0)=some (.func (.func 117) #[] #[xP lb,xP a,xP f])/\w'.cell? (xD b 1)=some (xI t.a))
       (first|(with_reducible (refine⟨?_,?_⟩ <;> repeat (first|assumption|refine zg ?_|refine zS y.o ?_ (by omega) (by omega))))|go_keep)
       (first
         | (go_at_call 117;refine (z.o).mono ?_;rintro e w6 ⟨rfl,R,E⟩;have Q:=za R;have y:=za E.cQ))
      go_wp2_with fail;go_ret;refine⟨rfl,?_,(K.o.trans (zy i.o)).trans y.o⟩;rw[I.o];exact (B.o.aq i.o).aX Q.o y.o
  | true =>
    have a1:c.has t.s=true:=o1 (by unfold j3 at H;simp at H;exact H.1);by_cases a9:c.decl t.s=1
    . have I:aa (∀d:Xo,(fT c t).foldl aj d=(if c.operands t=true then [] else [t.a]).foldl aj d):=by
       intro d;unfold fT;have:(NA t.k&&t.k != 3&&c.decl t.s != 1)=false:=by rw[a9];simp
       rw[this];rfl
      have I:=za (I.o d);have bg:((c.decl t.s:Int) != 1)=false:=(by simp[a9]);go_enter func106,ntmps106;go_upto_region 1 with fail;refine zn (λW=>b5 S l lb a f n m N c (xE Y c G) (xP X) g j d W/\xB w W) (a4.o _) ?_;rintro W ⟨A,D⟩;obtain⟨bo,s1,bp,sz⟩:=zp A.x1;obtain⟨p0,bl,aA⟩:=zu A.x2;obtain⟨m0,m1,m2,m3,m4,m5,bk,ar⟩:=zt ((D.block b a6).trans U.o);have V:=za A;have P:=za D;have aL:=za (a3.o W.drew (zo D));rw[H] at aL;have J:=za (me t.s (t.nm:Int) W.drew (A.sc.am (λ_ _=>rfl)) (by show N<=W.heap.size;exact A.hN) a1)
      go_region_held3 (λw'=>w'.cell? (xD g 0)=some (xE Y c G)/\w'.cell? (xD g 1)=some (xP X)/\w'.cell? (xD b 2)=some (.string t.s)/\w'.cell? (xD b 3)=some (xI t.nm))
       (first|(with_reducible (refine⟨?_,?_,?_,?_⟩ <;> repeat (first|assumption|refine zg ?_|refine zj _ ?_|refine zk (by omega) ?_|refine zd F.o ?_ (by first|omega|(rw[au];omega)))))|go_keep)
       (first
         | (go_at_call 104;refine J.o.mono ?_;rintro e w1 ⟨rfl,a5⟩;have F:=za (zw a5))
         | (go_at_call 107;refine aL.o.mono ?_;rintro e w1 ⟨rfl,rfl⟩))
      go_upto_region 3 with fail;refine zn (λT=>b5 S l lb a f n m N c (xE Y c G) (xP X) g j d T/\Fr (RT lb a) w T) ⟨V.o.aq F.o,zy (P.o.trans (F.o.mono P.o.size))⟩ ?_;rintro T ⟨x,L⟩;obtain⟨bo,s1,bp,sz⟩:=zp x.x1;obtain⟨p0,bl,aA⟩:=zu x.x2;have M:=bq.o.am L;obtain⟨m0,m1,m2,m3,m4,m5,bk,ar⟩:=zt ((M b bt).trans U.o);have B:=za x;have K:=za L;have J:=za (a2.o T M x.hN x.sc);cases O:c.operands t with
      | true => rw[O] at J I;go_wp2_with (go_at_call 108;refine J.o.mono ?_;rintro e w5 ⟨rfl,C⟩;have i:=za C);go_ret;refine⟨rfl,?_,K.o.trans (zy i.o)⟩;rw[I.o];exact B.o.aq i.o
      | false =>
        rw[O] at J I;go_upto_region 4 with (go_at_call 108;refine J.o.mono ?_;rintro e w5 ⟨rfl,C⟩;have i:=za C);have g1:=zd i.o p0 aA;have g2:=zd i.o m1 ar;have z:=za (eg S l lb a f n m d t.a w5.drew ((B.o.aq i.o).rp.aq (zo (yS _ _))));unfold bT at g1
        go_region_held3 (λw'=>w'.cell? (xD j 0)=some (.func (.func 117) #[] #[xP lb,xP a,xP f])/\w'.cell? (xD b 1)=some (xI t.a))
         (first|(with_reducible (refine⟨?_,?_⟩ <;> repeat (first|assumption|refine zg ?_|refine zS y.o ?_ (by omega) (by omega))))|go_keep)
         (first
           | (go_at_call 117;refine (z.o).mono ?_;rintro e w6 ⟨rfl,R,E⟩;have Q:=za R;have y:=za E.cQ))
        go_wp2_with fail;go_ret;refine⟨rfl,?_,(K.o.trans (zy i.o)).trans y.o⟩;rw[I.o];exact (B.o.aq i.o).aX Q.o y.o
    have I:aa (∀d:Xo,(fT c t).foldl aj d=(if c.operands t=true then [] else [t.a]).foldl aj (aj d t.nm)):=by
     intro d;unfold fT;have:(NA t.k&&t.k != 3&&c.decl t.s != 1)=true:=by unfold j3 at H;rw[H];simp[a9]
     rw[this];rfl
    have I:=za (I.o d);have bg:((c.decl t.s:Int) != 1)=true:=(by simp;omega);go_enter func106,ntmps106;go_upto_region 1 with fail;refine zn (λW=>b5 S l lb a f n m N c (xE Y c G) (xP X) g j d W/\xB w W) (a4.o _) ?_;rintro W ⟨A,D⟩;obtain⟨bo,s1,bp,sz⟩:=zp A.x1;obtain⟨p0,bl,aA⟩:=zu A.x2;obtain⟨m0,m1,m2,m3,m4,m5,bk,ar⟩:=zt ((D.block b a6).trans U.o);have V:=za A;have P:=za D;have aL:=za (a3.o W.drew (zo D));rw[H] at aL;have J:=za (me t.s (t.nm:Int) W.drew (A.sc.am (λ_ _=>rfl)) (by show N<=W.heap.size;exact A.hN) a1)
    go_region_held3 (λw'=>w'.cell? (xD g 0)=some (xE Y c G)/\w'.cell? (xD g 1)=some (xP X)/\w'.cell? (xD b 2)=some (.string t.s)/\w'.cell? (xD b 3)=some (xI t.nm))
     (first|(with_reducible (refine⟨?_,?_,?_,?_⟩ <;> repeat (first|assumption|refine zg ?_|refine zj _ ?_|refine zk (by omega) ?_|refine zd F.o ?_ (by first|omega|(rw[au];omega)))))|go_keep)
     (first
       | (go_at_call 104;refine J.o.mono ?_;rintro e w1 ⟨rfl,a5⟩;have F:=za (zw a5))
       | (go_at_call 107;refine aL.o.mono ?_;rintro e w1 ⟨rfl,rfl⟩))
    go_upto_region 2 with fail;have g1:=zd F.o p0 aA;have g2:=zd F.o m3 ar;have z:=za (eg S l lb a f n m d t.nm w1.drew ((V.o.aq F.o).rp.aq (zo (yS _ _))));unfold bT at g1
    go_region_held3 (λw'=>w'.cell? (xD j 0)=some (.func (.func 117) #[] #[xP lb,xP a,xP f])/\w'.cell? (xD b 3)=some (xI t.nm))
     (first|(with_reducible (refine⟨?_,?_⟩ <;> repeat (first|assumption|refine zg ?_|refine zS y.o ?_ (by omega) (by omega))))|go_keep)
     (first
       | (go_at_call 117;refine (z.o).mono ?_;rintro e w2 ⟨rfl,R,E⟩;have Q:=za R;have y:=za E.cQ))
    go_upto_region 3 with fail;refine zn (λT=>b5 S l lb a f n m N c (xE Y c G) (xP X) g j (aj d t.nm) T/\Fr (RT lb a) w T) ⟨(V.o.aq F.o).aX Q.o y.o,(zy (P.o.trans (F.o.mono P.o.size))).trans y.o⟩ ?_;rintro T ⟨x,L⟩;obtain⟨bo,s1,bp,sz⟩:=zp x.x1;obtain⟨p0,bl,aA⟩:=zu x.x2;have M:=bq.o.am L;obtain⟨m0,m1,m2,m3,m4,m5,bk,ar⟩:=zt ((M b bt).trans U.o);have B:=za x;have K:=za L;have J:=za (a2.o T M x.hN x.sc);cases O:c.operands t with
    | true => rw[O] at J I;go_wp2_with (go_at_call 108;refine J.o.mono ?_;rintro e w5 ⟨rfl,C⟩;have i:=za C);go_ret;refine⟨rfl,?_,K.o.trans (zy i.o)⟩;rw[I.o];exact B.o.aq i.o
    | false =>
      rw[O] at J I;go_upto_region 4 with (go_at_call 108;refine J.o.mono ?_;rintro e w5 ⟨rfl,C⟩;have i:=za C);have g1:=zd i.o p0 aA;have g2:=zd i.o m1 ar;have z:=za (eg S l lb a f n m (aj d t.nm) t.a w5.drew ((B.o.aq i.o).rp.aq (zo (yS _ _))));unfold bT at g1
      go_region_held3 (λw'=>w'.cell? (xD j 0)=some (.func (.func 117) #[] #[xP lb,xP a,xP f])/\w'.cell? (xD b 1)=some (xI t.a))
       (first|(with_reducible (refine⟨?_,?_⟩ <;> repeat (first|assumption|refine zg ?_|refine zS y.o ?_ (by omega) (by omega))))|go_keep)
       (first
         | (go_at_call 117;refine (z.o).mono ?_;rintro e w6 ⟨rfl,R,E⟩;have Q:=za R;have y:=za E.cQ))
      go_wp2_with fail;go_ret;refine⟨rfl,?_,(K.o.trans (zy i.o)).trans y.o⟩;rw[I.o];exact (B.o.aq i.o).aX Q.o y.o
end
section
variable {k:Nat}
attribute [local go_sem ↓] Go.wp_at_zero Go.wp_at_succ
theorem G8 (c:Sc):∀(a b:List Vr),eI c (a++b)=eI c a++eI c b:=by
 intro a;induction a with
 | nil=>intro b;rfl
 | cons v a d=>intro b;rw[List.cons_append,eI,eI,d,bw]
theorem kN {α:Type}{l:List α}{v:α}(h:l[k]?=some v):l.take (k+1)=l.take k++[v]:=by obtain⟨a,b⟩:=aB.1 h;rw[List.take_succ_eq_append_getElem a,b]
structure ka (c:Sc):Prop where
 root:∀q∈c.nd.eqs,gN c q.r
 ck:∀v∈c.nd.ak,ba v≠0->c.has v.ck=true
 left:∀q∈c.nd.eqs,∀s∈q.ns,c.has s=true
 many:∀q∈c.nd.eqs,2<=q.ns.length->∃d,c.called q.r.s=some d/\d.nd.aG=q.ns.length
theorem IM {N:Nat}{c:Sc}{m p:Xv}(i:eU c)(b:ka c)(q:Qn)(a:q∈c.nd.eqs)(f g:Xv)(w:Xw)(n:aak w N q f g)(h:br w N c m p)(o:N<=w.heap.size) :
 xK 105 #[.agg #[m,p],.agg #[f,xI q.a,g]] w (λe t=>e=.returned (.bool (c.holds q))/\xB w t):=by
 obtain⟨l,u,v,x⟩:=i.nd.eqs q a;by_cases r:q.ns.length=1
 . exact Im i q f g w n h o (b.root q a) (b.left q a) l r
 obtain⟨d,s,j⟩:=b.many q a (by omega);exact HV i q f g w n h o (b.left q a) l (by omega) s j
theorem xU {α:Type}{l:List α}{v:α}(f:α->List Nat)(h:l[k]?=some v)(a:Xo):((l.take (k+1)).flatMap f).foldl aj a=(f v).foldl aj (((l.take k).flatMap f).foldl aj a):=by rw[kN h,List.flatMap_append,bc];simp
theorem xx {α:Type}(f:α->List Nat):∀(l:List α) (b:Xo),l.foldl (λb x=>(f x).foldl aj b) b=(l.flatMap f).foldl aj b:=by
 intro l;induction l with
 | nil=>intro b;rfl
 | cons a l c=>intro b;rw[List.foldl_cons,List.flatMap_cons,bc,c]
theorem HB (S:Xs)(F lb p x:Nat)(n d:Xv)(N:Nat)(c:Sc)(hc:eU c)(bo:ka c)(ev nv:Xv)(u:Xo)(w:Xw)(hR:Fx S F lb p x n d u w)(h:br w N c ev nv)(hN:N<=w.heap.size)(l1:N<=lb)(l2:N<=p) :
 xK 43 #[.agg #[ev,nv],bT lb p x] w (λe w'=>e=.returned (.tuple #[])/\Fx S F lb p x n d (c.aaj.foldl aj u) w'/\Fr (RT lb p) w w'):=by
 obtain⟨Q,t,B,rfl,rfl,bY⟩:=h.shape;have b1:=ze hR.l;have b0:=ze hR.b;have X:∀o1 o2,((w.alloc o1).alloc o2).heap[w.heap.size]?=some o1/\((w.alloc o1).alloc o2).heap[w.heap.size+1]?=some o2:=λo1 o2=>mO w o1 o2
 have be:b5 S F lb p x n d N c (xE Q c t) (xP B) w.heap.size (w.heap.size+1) u ((w.alloc (.cells #[xE Q c t,xP B] 201)).alloc (.cells #[bT lb p x] 199)) :=
  ⟨hR.aq (cT w _ _),h.am (j8 hN _ _),(X _ _).1,(X _ _).2,by omega,by omega,by omega,by omega,l1,l2,by simp;omega⟩
 have U:=za be;obtain⟨b2,vs,ch,xs,bC,f⟩:=h.nd;cases bC;obtain⟨cv,bA,rfl⟩:=zB f.bZ;obtain⟨ct,bx,rfl⟩:=zB f.own;have bt:=f.bO;have bE:c.nd.eqs.length<=9223372036854775807:=by
  rcases f.own.2 with ⟨_,h⟩|⟨g,K,bB,hv,_,_,h3,h4,_⟩
  . omega
  unfold maxLen at h4;omega
 have V:aa (c.aaj.foldl aj u=((c.nd.eqs.flatMap λq=>(bh b8 q.r).flatMap (fT c))).foldl aj ((c.nd.eqs.flatMap λq=>if c.holds q=true then [] else [q.a]).foldl aj ((eI c c.nd.ak).foldl aj u))):=by unfold aa Sc.aaj;rw[bc,bc]
 have a2:(eI c (c.nd.ak.take 0)).foldl aj u=u:=rfl;have H:=za (zy (T:=RT lb p) (cT w (.cells #[xE Q c t,xP B] 201) (.cells #[bT lb p x] 199)));unfold bT at U H ⊢;go_enter func43,ntmps43;go_upto_region 1 with fail;refine zn (λW=>b5 S F lb p x n d N c (xE Q c t) (xP B) w.heap.size (w.heap.size+1) u W/\Fr (RT lb p) w W) ⟨U.o,H.o⟩ ?_;rintro W ⟨Z,Y⟩;have a9:=za Z;have a5:=za Y;obtain⟨cm,s1,cn,sz⟩:=zp Z.x1;have bg:=Y.am hN (λk e=>by rcases e with e|e;exact e▸l1;exact e▸l2);obtain⟨m0,m1,m2,m3,m4,m5,ce,cg⟩:=zt ((bg B f.lo).trans f.aC);have bs:=za a2;go_wp2_with fail;go_loopg [15] (c.nd.ak.length+1) (λj i wr=>∃k:Nat,k+j=c.nd.ak.length+1/\k<=c.nd.ak.length/\i=xI k/\aa (b5 S F lb p x n d N c (xE Q c t) (xP B) w.heap.size (w.heap.size+1) ((eI c (c.nd.ak.take k)).foldl aj u) wr)/\aa (Fr (RT lb p) w wr));case atStart=>exact⟨0,by omega,aE _,rfl,a9.o,a5.o⟩
 case round =>
  obtain⟨k,bl,bK,rfl,a,l⟩:=hrel;have A:=l.o.am hN (λk e=>by rcases e with e|e;exact e▸l1;exact e▸l2);obtain⟨p0,b3,b4,ca⟩:=zp a.o.x1;obtain⟨q0,qf,bq⟩:=zu a.o.x2;unfold bT at q0;have L:=a.o.hN;by_cases P:k<c.nd.ak.length
  . obtain⟨v,hv⟩:∃v,c.nd.ak[k]?=some v:=⟨_,av P⟩;obtain⟨g,rfl,c0,c1,c2,c3,c4,c5,c6⟩:=hj (f.am A).bZ hv;have bk:=f.jc g rfl;have M:eI c (c.nd.ak.take (k+1))=eI c (c.nd.ak.take k)++((if (ba v != 0&&c.decl v.ck != 1)=true then [v.on] else [])++[]):=by rw[kN hv,G8];rfl
    have aV:w.heap.size<wr.heap.size+1:=(by omega);have a0:w.heap.size+1<wr.heap.size+1:=(by omega);by_cases E:ba v=0
    . have a1:((ba v:Int) != 0)=false:=(by simp[E]);have z:aa (∀s:Xo,(eI c (c.nd.ak.take (k+1))).foldl aj s=(eI c (c.nd.ak.take k)).foldl aj s):=(by intro s;rw[M];simp[E]);have z:=za (z.o u);generalize ba v=sg at *;go_wp2_with fail;go_roundg (gk-1);case measure=>omega
      refine⟨k+1,by omega,by omega,by go_num,?_,l.o.alloc _⟩;rw[z.o];exact a.o.aq (zq wr _)
    have a1:((ba v:Int) != 0)=true:=(by simp;omega);have aL:=bo.ck v (aM hv) E;have I:=za (λo=>me v.ck (v.ca:Int) (wr.alloc o) (a.o.aq (zq wr o)).sc (by simp;omega) aL);by_cases O:c.decl v.ck=1
    . have z:aa (∀s:Xo,(eI c (c.nd.ak.take (k+1))).foldl aj s=(eI c (c.nd.ak.take k)).foldl aj s):=(by intro s;rw[M];simp[O]);have z:=za (z.o u);have aA:((c.decl v.ck:Int) != 1)=false:=(by simp[O]);generalize ba v=sg at *;generalize c.decl v.ck=dc at *;go_wp2_with (go_at_call 104;refine (I.o _).mono ?_;rintro e R ⟨rfl,m⟩;have b:=za (zE m));go_roundg (gk-1);case measure=>omega
      refine⟨k+1,by omega,by omega,by go_num,?_,l.o.trans (zy b.o)⟩;rw[z.o];exact a.o.aq b.o
    have z:aa (∀s:Xo,(eI c (c.nd.ak.take (k+1))).foldl aj s=aj ((eI c (c.nd.ak.take k)).foldl aj s) v.on):=(by intro s;rw[M,bc];simp[O,E]);have z:=za (z.o u);have aA:((c.decl v.ck:Int) != 1)=true:=(by simp;omega);generalize ba v=sg at *;generalize c.decl v.ck=dc at *
    go_wp2_with (first
     | (go_at_call 117;refine r.o.mono ?_;rintro e w2 ⟨rfl,J,y⟩)
     | (go_at_call 104;refine (I.o _).mono ?_;rintro e R ⟨rfl,m⟩;obtain⟨x0,x1,x2,x3,x4,x5,co,cb,cd⟩:=eK ((m.block wr.heap.size (by simp)).trans (zc wr _));have b:=za (zE m);have g0:=zd b.o q0 bq;have r:=za (eg S F lb p x n d _ v.on R (a.o.aq b.o).rp)))
    go_roundg (gk-1);case measure=>omega
    refine⟨k+1,by omega,by omega,by go_num,?_,(l.o.trans (zy b.o)).trans y⟩;rw[z.o];exact (a.o.aq b.o).aX J y
  have ek:k=c.nd.ak.length:=by omega
  subst ek;rw[List.take_length] at a;obtain⟨G,a3⟩:∃G,(eI c c.nd.ak).foldl aj u=G:=⟨_,rfl⟩;rw[a3] at a V;obtain⟨n0,n1,n2,n3,n4,n5,nf,nz⟩:=zt ((A B f.lo).trans f.aC);go_wp2_with fail;go_loopg [44] (c.nd.eqs.length+1) (λj i bv=>∃k:Nat,k+j=c.nd.eqs.length+1/\k<=c.nd.eqs.length/\i=xI k/\aa (b5 S F lb p x n d N c (xE Q c t) (xP B) w.heap.size (w.heap.size+1) (((c.nd.eqs.take k).flatMap λq=>if c.holds q=true then [] else [q.a]).foldl aj G) bv)/\aa (Fr (RT lb p) w bv));case atStart=>exact⟨0,by omega,aE _,rfl,a.o,l.o⟩
  case round =>
   obtain⟨k,bl,bK,rfl,a,l⟩:=hrel;have A:=l.o.am hN (λk e=>by rcases e with e|e;exact e▸l1;exact e▸l2);obtain⟨p0,b3,b4,ca⟩:=zp a.o.x1;obtain⟨q0,qf,bq⟩:=zu a.o.x2;unfold bT at q0;have L:=a.o.hN;by_cases P:k<c.nd.eqs.length
   . obtain⟨q,bp⟩:∃q,c.nd.eqs[k]?=some q:=⟨_,av P⟩;have ar:=f.am A;obtain⟨g,lv,rv,rfl,c0,c1,c2,HEq⟩:=lj ar.own ar.eqs bp rfl;obtain⟨ck,_,_,rfl,_⟩:=HEq.tt.ptr;obtain⟨cs,cl,rfl⟩:=zB HEq.own;have bk:=f.ko g rfl;have I:=za (λo=>IM hc bo q (aM bp) _ _ (wr.alloc o) (HEq.am (OJ L o)) (a.o.aq (zq wr o)).sc (by simp;omega));have C:=za (xU (λq=>if c.holds q=true then [] else [q.a]) bp G);have aV:w.heap.size<wr.heap.size+1:=(by omega);have a0:w.heap.size+1<wr.heap.size+1:=(by omega);cases D:c.holds q with
     | true =>
       simp only[D] at C;rw[D] at I;go_wp2_with (go_at_call 105;refine (I.o _).mono ?_;rintro e R ⟨rfl,m⟩;have b:=za (zE m));go_roundg (gk-1);case measure=>omega
       refine⟨k+1,by omega,by omega,by go_num,?_,l.o.trans (zy b.o)⟩;rw[C.o];exact a.o.aq b.o
     | false =>
       simp only[D] at C;rw[D] at I
       go_wp2_with (first
        | (go_at_call 117;refine r.o.mono ?_;rintro e w2 ⟨rfl,J,y⟩)
        | (go_at_call 105;refine (I.o _).mono ?_;rintro e R ⟨rfl,m⟩;obtain⟨x0,x1,x2,cb,cd⟩:=zL ((m.block wr.heap.size (by simp)).trans (zc wr _));have b:=za (zE m);have g0:=zd b.o q0 bq;have r:=za (eg S F lb p x n d _ q.a R (a.o.aq b.o).rp)))
       go_roundg (gk-1);case measure=>omega
       refine⟨k+1,by omega,by omega,by go_num,?_,(l.o.trans (zy b.o)).trans y⟩;rw[C.o];exact (a.o.aq b.o).aX J y
   have ek:k=c.nd.eqs.length:=(by omega);subst ek;rw[List.take_length] at a;have hV:=It S F lb p x n d N c hc (xE Q c t) (xP B) w.heap.size (w.heap.size+1) bo.root l1 l2;have bb:=za (rD hV B _ _ xs _ wr (f.am A) L (λk e=>by have:=l.o.size;rcases e with e|e <;> omega) a.o);have bL:∀(fn:Go.Fn) (first K:Xa) (w:Xw),(Instr.makeFunc fn first K).run prog w=.ok (.func fn first K) w:=λ_ _ _ _=>rfl;go_wp2_with (go_at_call 99;refine bb.o.mono ?_;rintro e R ⟨rfl,a6,a4⟩);go_end0;refine⟨rfl,?_,l.o.trans a4⟩;rw[V.o];have:=a6.rp;simp only[xx] at this;exact this
end
end Go.Proofs.YtcnelakggnfnhaaGreatDoor
