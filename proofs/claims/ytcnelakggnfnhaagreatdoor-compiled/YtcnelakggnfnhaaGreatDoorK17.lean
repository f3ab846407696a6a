/- Part 18. -/
import Derived.Test.YtcnelakggnfnhaaGreatDoorK16
set_option maxRecDepth 100000
set_option maxHeartbeats 8000000
namespace Go.Proofs.YtcnelakggnfnhaaGreatDoor
open Go.Proofs.Tryz
open Go.RowKit
section
variable {n:ay}
attribute [local go_sem ↓] Go.wp_at_zero Go.wp_at_succ
theorem H2 {α β γ:Type}(f:γ->β->γ)(g:α->List β):∀(l:List α) (s:γ),(l.flatMap g).foldl f s=l.foldl (λs a=>(g a).foldl f s) s:=by
 intro l;induction l with
 | nil=>intro s;rfl
 | cons a l b=>intro s;rw[List.flatMap_cons,bc,List.foldl_cons,b]
theorem Jz:∀(l:Xn) (s:Nat),l.foldl (·+·) s=s+iK l:=by
 intro l;induction l with
 | nil=>intro s;rfl
 | cons a l b=>intro s;unfold iK;rw[List.foldl_cons,List.foldl_cons,b,b (0+a)];omega
theorem IV (m:List (ByteArray×Nat))(b:∀s,fa s m<=61):∀(l:List Tm) (s:Nat),s+62*l.length<=4611686018427387904->l.foldl (hX m) (s:Int)=((s+iK (l.map (fE m)):Nat):Int):=by
 intro l;induction l with
 | nil=>intro s _;rfl
 | cons t l d =>
   intro s c;rw[bJ] at c;have e:fE m t<=62:=by
    unfold fE;have:=b t.s;split
    . omega
    split <;> omega
   have a:hX m (s:Int) t=((s+fE m t:Nat):Int):=by
    unfold hX;split
    . unfold wrap64;omega
    rename_i h
    unfold fE;rw[ae (by omega),ae (by omega)];rfl
   rw[List.foldl_cons,a,d _ (by omega),List.map_cons];unfold iK;rw[List.foldl_cons,Jz _ (0+fE m t)];unfold iK;omega
theorem JD (n:ay)(m:List (ByteArray×Nat)):hl n m<=61:=Nat.min_le_right _ _
theorem H9 {N:Nat}{g:Nat}{p j:Xv}{r:Xm}(b:Nat)(m:List (ByteArray×Nat))(o:∀s,fa s m<=61)(D:n.Nh.length<=1000000)(w:Xw)(h:NT w N n g p j r)(l:gM w b m)(z:N<=w.heap.size) :
 xK 116 #[xP g,.map (some b)] w (λe F=>e=.returned (xI (hl n m:Nat))/\xB w F):=by
 have C:∀(fn:Go.Fn) (first d:Xa) (w:Xw),(Instr.makeFunc fn first d).run prog w=.ok (.func fn first d) w:=λ_ _ _ _=>rfl;have A:=l.lt;have f:=za (λa c (v:a=Obj.cells #[.map (some b)] 227 (0,0)) (x:c=Obj.cells #[xI 0] 3 (0,0))=>rD (IG N n (w.heap.size+1) w.heap.size b m o (by omega)) g p j r 0 ((w.alloc a).alloc c) (h.am (j8 z a c)) (by rw[au,au];omega) (λk e=>by subst e;rw[au,au];omega) ⟨by rw[(mh w a c).2,x],by rw[(mh w a c).1,v],l.aq (cT w a c),by omega,by omega⟩);have B:n.eqs.foldl (λs q=>(bh b8 q.r).foldl (λs t=>hX m s t) s) (0:Int)=((iK (n.Nh.map (fE m)):Nat):Int):=by rw[<- H2 (hX m) (λq=>bh b8 q.r) n.eqs 0];have:=IV m o n.Nh 0 (by omega);rw[Nat.zero_add] at this;exact this
 rw[B] at f;have i:aa (hl n m=min (iK (n.Nh.map (fE m))) 61):=rfl;generalize iK (n.Nh.map (fE m))=E at f i;go_enter func116,ntmps116;go_wp2_with (go_at_call 99;refine (f.o _ _ rfl rfl).mono ?_;rintro e J ⟨rfl,y,u⟩;obtain⟨G,H,I⟩:=zu y.x1);all_goals go_ret
 all_goals rw[i.o]
 all_goals refine⟨?_,jj (cT w _ _) u (by omega)⟩
 all_goals first|(refine congrArg Ending.returned ?_;refine congrArg (Value.int IntKind.i64) ?_;first|omega|(split <;> omega))|trace_state
theorem IP {b:List ay}{k:Nat}(h:b[k]?=some n)(m:List (ByteArray×Nat))(a:Nat):hr (b.drop k) m a=hr (b.drop (k+1)) ((n.nm,hl n m)::m) (hl n m):=by obtain⟨c,d⟩:=aB.1 h;rw[dE c,hr,d]
theorem K2:zH 47:=λ_ _=>by kernel_rfl
theorem Hg (S:Xs)(T lb q F:Nat)(l c:Xv)(N:Nat)(b:List ay)(K:∀n∈b,n.Nh.length<=1000000)(Y:Xv)(o:Xo)(w:Xw)(ar:Fx S T lb q F l c o w)(aL:PT w N b Y)(hN:N<=w.heap.size)(_l1:N<=lb)(_l2:N<=q) :
 xK 47 #[Y,bT lb q F] w (λe Z=>e=.returned (.tuple #[])/\Fx S T lb q F l c ((ih b).foldl aj o) Z/\Fr (RT lb q) w Z):=by
 obtain⟨a6,a9,xs,rfl,a0,B,E⟩:=aL;obtain⟨bl,aA,rfl⟩:=zB E.own;have a3:=@run_makeMap prog;have X:=E.bO;obtain⟨g0,gf,gz⟩:=zu B;unfold bT;go_enter func47,ntmps47;go_wp2_with fail;go_loopg [14,5] (b.length+1) (λj i x wr=>∃(k a:Nat) (m:List (ByteArray×Nat)),k+j=b.length+1/\k<=b.length/\i=xI k/\x=xI a/\a<=61/\aa (∀s,fa s m<=61)/\aa (hr b [] 0=hr (b.drop k) m a)/\aa (gM wr w.heap.size m)/\aa (xB w wr));case atStart=>exact⟨0,0,[],by omega,aE _,rfl,rfl,by omega,λs=>by simp[fa],rfl,⟨[],⟨#[],0,zc w _,rfl⟩,λs=>rfl⟩,zq w _⟩
 case round =>
  obtain⟨k,a,m,a1,bb,rfl,rfl,a2,V,D,U,p⟩:=hrel;have hO:=zm p.o hN;by_cases O:k<b.length
  . obtain⟨n,P⟩:∃n,b[k]?=some n:=⟨_,av O⟩;have A:=E.am hO;obtain⟨v,hv,Q⟩:=A.at' k n P;obtain⟨g',rfl,M⟩:=nB A.own hv;obtain⟨nb,vs,bg,bo,rfl,C⟩:=Q;have aV:=E.lo g' rfl;obtain⟨m0,m1,m2,m3,m4,m5,be,a5⟩:=zt C.aC;have R:=p.o.size;have r:=za (H9 w.heap.size m V.o (K n (aM P)) wr C U.o (by omega));have d:=za (IP P m a);rw[<- D.o] at d;have g:=JD n m;have u:aa (∀s,fa s ((n.nm,hl n m)::m)<=61):=by
     intro s;rw[fa];split
     . exact g
     exact V.o s
    generalize hl n m=W at r d g u;go_wp2_with (go_at_call 116;refine r.o.mono ?_;rintro e w1 ⟨rfl,h⟩;obtain⟨w2,a4,H,L⟩:=KK (U.o.aq h) n.nm W;have bk:=zd h m0 a5;have G:=za (jj (p.o.trans (h.mono R)) L (an _)));go_roundg (gk-1);case measure=>omega
    exact⟨k+1,W,_,by omega,by omega,by go_num,rfl,g,u.o,d.o,H,G.o⟩
  have ek:k=b.length:=by omega
  subst ek;rw[List.drop_length,hr] at D;have t:=za (ar.aq p.o);by_cases y:60<a
  . have d:aa ((ih b).foldl aj o=aj o 0):=by unfold aa ih;rw[D.o,ag y];rfl
    have z:(60:Int)<(a:Int):=(by omega);have f:=za (eg S T lb q F l c o 0 wr t.o);go_wp2_with (go_at_call 117;refine f.o.mono ?_;rintro e w2 ⟨rfl,J,I⟩);first|go_end0|refine ab (results_none rfl _ _ _) rfl ?_
    rw[d.o];exact⟨rfl,J,(zy p.o).trans I⟩
  have d:aa ((ih b).foldl aj o=o):=by unfold aa ih;rw[D.o,ae y];rfl
  have z:¬(60:Int)<(a:Int):=by omega
  go_wp2_with fail;first|go_end0|refine ab (results_none rfl _ _ _) rfl ?_
  rw[d.o];exact⟨rfl,t.o,zy p.o⟩
end
section
variable {b:List ay} {N:Nat}
attribute [local go_sem ↓] Go.wp_at_zero Go.wp_at_succ
theorem Kf:zH 95:=λ_ _=>by kernel_rfl
theorem Hr:zH 42:=λ_ _=>by kernel_rfl
theorem H8:zH 43:=λ_ _=>by kernel_rfl
theorem HT:zH 44:=λ_ _=>by kernel_rfl
theorem GY:zH 45:=λ_ _=>by kernel_rfl
theorem Hj:zH 46:=λ_ _=>by kernel_rfl
theorem nF (S:Xs)(g:Nat)(m:Xb)(f:FuncId)(s:zH f)(L:Sc->List Nat)(b:List ay)(i h:Nat)(t:Xy)(w:Xw)
 (n:∀c∈kd b,∀lb l v k a,N<=lb->N<=l->sp S g lb l v k a N f L c) (p:PT w N b (xP i)) (o:N<=w.heap.size) (d:xH w h #[.func (.func f) #[] #[]] t) :
 xK 48 #[.agg #[.string m,aW S g,.func (.func 95) #[] #[xP h]],xP i] w (λe x=>e=.returned (gI S g (zO ((kd b).flatMap L)))/\xB w x):=by
 have u:=ze d;refine yu S g m 95 Kf #[xP h] i _ w (λW j q=>?_);exact J1 S g _ _ _ _ _ N f s L b (λc r=>n c r _ _ _ _ _ (by omega) (by omega)) _ h t none W q (p.am (zm j o)) (by have:=j.size;omega) (by omega) (by omega) ((j.block _ u).trans d) (by omega) (by omega)
theorem JO (S:Xs)(a:Nat)(g:Xb)(b:List ay)(c:Nat)(w:Xw)(d:∀n∈b,n.Nh.length<=1000000)(i:PT w N b (xP c))(h:N<=w.heap.size) :
 xK 48 #[.agg #[.string g,aW S a,.func (.func 47) #[] #[]],xP c] w (λe k=>e=.returned (gI S a (zO (ih b)))/\xB w k):=by
 refine yu S a g 47 K2 #[] c _ w (λW f j=>?_);exact Hg S a _ _ _ _ _ N b d _ none W j (i.am (zm f h)) (by have:=f.size;omega) (by omega) (by omega)
def pN:Nat->ByteArray
 | 4=>⟨#[110,97,109,101,115]⟩
 | 5=>⟨#[116,121,112,101,115]⟩
 | 6=>⟨#[99,108,111,99,107,115]⟩
 | 7=>⟨#[100,101,102,105,110,105,116,105,111,110,115]⟩
 | 8=>⟨#[99,97,117,115,101,115]⟩
 | 9=>⟨#[109,101,109,111,114,121]⟩
 | _=>⟨#[]⟩
def sv (S:Xs):Option (Nat×Nat)->Value
 | none=>.nilIface
 | some (a,p)=>ew (pN a) (gI S a (some p))
def lp (b:List ay):Nat->List Nat
 | 0=>(kd b).flatMap Sc.cG
 | 1=>(kd b).flatMap Sc.aaj
 | 2=>(kd b).flatMap Sc.e4
 | 3=>(kd b).flatMap Sc.fy
 | 4=>(kd b).flatMap Sc.gb
 | 5=>ih b
 | _=>[]
theorem Lf (h:∀n∈b,gP n)(g:b.length<=6):∀c∈kd b,eU c:=by
 intro c e;unfold kd at e;obtain⟨i,j,a⟩:=List.mem_filterMap.1 e;cases d:b[i]? with
 | none=>rw[d] at a;cases a
 | some n => rw[d] at a;cases a;refine⟨λm f=>h m (List.mem_of_mem_take f),h n (aM d),?_⟩;rw[List.length_take];omega
structure mN (S:Xs) (N:Nat) (b:List ay) (gb:Nat) (w W:Xw):Prop where
 pt:PT W N b (xP gb)
 row:W.heap[w.heap.size+1+1+1+1+1]?=some (.cells #[.string ⟨#[110,97,109,101,115]⟩,aW S 4,.func (.func 95) #[] #[xP w.heap.size],.string ⟨#[116,121,112,101,115]⟩,aW S 5,.func (.func 95) #[] #[xP (w.heap.size+1)],.string ⟨#[99,108,111,99,107,115]⟩,aW S 6,.func (.func 95) #[] #[xP (w.heap.size+1+1)],.string ⟨#[100,101,102,105,110,105,116,105,111,110,115]⟩,aW S 7,.func (.func 95) #[] #[xP (w.heap.size+1+1+1)],.string ⟨#[99,97,117,115,101,115]⟩,aW S 8,.func (.func 95) #[] #[xP (w.heap.size+1+1+1+1)],.string ⟨#[109,101,109,111,114,121]⟩,aW S 9,.func (.func 47) #[] #[]] 131 (0,0))
 b0:∃t,W.heap[w.heap.size]?=some (.cells #[.func (.func 42) #[] #[]] t (0,0))
 b1:∃t,W.heap[w.heap.size+1]?=some (.cells #[.func (.func 43) #[] #[]] t (0,0))
 b2:∃t,W.heap[w.heap.size+1+1]?=some (.cells #[.func (.func 44) #[] #[]] t (0,0))
 b3:∃t,W.heap[w.heap.size+1+1+1]?=some (.cells #[.func (.func 45) #[] #[]] t (0,0))
 b4:∃t,W.heap[w.heap.size+1+1+1+1]?=some (.cells #[.func (.func 46) #[] #[]] t (0,0))
 aH:xB w W
theorem mN.aq {S:Xs}{e:Nat}{w W d:Xw}(h:mN S N b e w W)(f:N<=w.heap.size)(c:xB W d):mN S N b e w d where
 pt:=h.pt.am (zm c (aJ f h.aH.size))
 row:=(c.block _ (ze h.row)).trans h.row
 b0:=by obtain⟨t,a⟩:=h.b0;exact⟨t,(c.block _ (ze a)).trans a⟩
 b1:=by obtain⟨t,a⟩:=h.b1;exact⟨t,(c.block _ (ze a)).trans a⟩
 b2:=by obtain⟨t,a⟩:=h.b2;exact⟨t,(c.block _ (ze a)).trans a⟩
 b3:=by obtain⟨t,a⟩:=h.b3;exact⟨t,(c.block _ (ze a)).trans a⟩
 b4:=by obtain⟨t,a⟩:=h.b4;exact⟨t,(c.block _ (ze a)).trans a⟩
 aH:=h.aH.trans (c.mono h.aH.size)
theorem yN (w:Xw)(a c d e f g:Obj):xB w ((((((w.alloc a).alloc c).alloc d).alloc e).alloc f).alloc g):=QQ (mg _ _ _ _)
theorem lL (w:Xw)(a c d e f g:Obj) :
 let W:=(((((w.alloc a).alloc c).alloc d).alloc e).alloc f).alloc g
 W.heap[w.heap.size]?=some a/\W.heap[w.heap.size+1]?=some c/\W.heap[w.heap.size+1+1]?=some d/\W.heap[w.heap.size+1+1+1]?=some e/\W.heap[w.heap.size+1+1+1+1]?=some f/\W.heap[w.heap.size+1+1+1+1+1]?=some g:=by
 have h (w:Xw) (o:Obj) (k:Nat):(w.alloc o).heap[k]?=if k=w.heap.size then some o else w.heap[k]?:=by show (w.heap.push o)[k]?=_;rw[Array.getElem?_push]
 intro W;refine⟨?_,?_,?_,?_,?_,?_⟩;all_goals simp only[W,h,au]
 all_goals repeat (first|rw[ag trivial]|rw[ag rfl]|rw[ae (by omega)])
theorem nG {L:Sc->List Nat}(h:zO ((kd b).flatMap L)=none):∀c∈kd b,L c=[]:=by intro c a;have:=yz h;rw[List.flatMap_eq_nil_iff] at this;exact this c a
theorem HF (S:Xs)(N:Nat)(b:List ay)(hw:∀n∈b,gP n)(a0:∀n∈b,n.Nh.length<=1000000)(J:Nat)(w:Xw)(X:Gl S w)(a3:PT w N b (xP J))(v:N<=w.heap.size) :
 xK 18 #[xP J] w (λe V=>e=.returned (sv S (dh b))/\xB w V):=by
 have h6:b.length<=6:=by obtain⟨_,_,_,_,_,_,h⟩:=a3;exact h.bO
 have y:=Lf hw h6;have g0:=X.name;have g1:=X.type;have g2:=X.clock;have g3:=X.define;have g4:=X.kn;have g5:=X.k3;have a6:=X.size;clear X hw h6;have be:∀(a:Addr) (m:Mode) (fn:Go.Fn) (first aA:Xa) (w:Xw),(store a (.func fn first aA) m).run prog w=stored prog w a (.func fn first aA) m:=λa m _ _ _ w=>run_store prog w a _ m rfl;unfold aW at *;go_enter func18,ntmps18;go_upto_region 1 with fail
 go_region_held3 (λV=>V.cell? (xD 1 0)=some (.iface 316 (.pointer (some (S 4))))/\V.cell? (xD 2 0)=some (.iface 316 (.pointer (some (S 5))))/\V.cell? (xD 3 0)=some (.iface 316 (.pointer (some (S 6))))/\V.cell? (xD 4 0)=some (.iface 316 (.pointer (some (S 7))))/\V.cell? (xD 5 0)=some (.iface 316 (.pointer (some (S 8))))/\V.cell? (xD 6 0)=some (.iface 316 (.pointer (some (S 9)))))
  (first|(with_reducible (refine⟨?_,?_,?_,?_,?_,?_⟩ <;> repeat (first|assumption|refine zg ?_|refine zj _ ?_|refine zk (by omega) ?_)))|go_keep)
  (first|(go_at_call 41;refine (Hz _ _).mono ?_;rintro e V ⟨rfl,t,rfl⟩))
 go_upto_region 2 with fail;refine zn (λW=>mN S N b J w W) ⟨a3.am (zm (zo (yN w _ _ _ _ _ _)) v),(lL w _ _ _ _ _ _).2.2.2.2.2,⟨_,(lL w _ _ _ _ _ _).1⟩,⟨_,(lL w _ _ _ _ _ _).2.1⟩,⟨_,(lL w _ _ _ _ _ _).2.2.1⟩,⟨_,(lL w _ _ _ _ _ _).2.2.2.1⟩,⟨_,(lL w _ _ _ _ _ _).2.2.2.2.1⟩,zo (yN w _ _ _ _ _ _)⟩ ?_;intro W a5;have a4:=za a5;clear a5 g0 g1 g2 g3 g4 g5;go_wp2_with fail;go_loopg [27] 7 (λj i wr=>∃k:Nat,k+j=7/\k<=6/\i=xI k/\aa (mN S N b J w wr)/\aa (∀j,j<k->zO (lp b j)=none));case atStart=>exact⟨0,by omega,by omega,rfl,a4.o,λj ar=>by omega⟩
 case round =>
  clear a4;obtain⟨k,a9,bg,rfl,g,s⟩:=hrel;have a2:=g.o.aH.size;have a1:k=0∨k=1∨k=2∨k=3∨k=4∨k=5∨k=6:=by omega
  rcases a1 with rfl|rfl|rfl|rfl|rfl|rfl|rfl;have c0:wr.cell? (xD (w.heap.size+1+1+1+1+1) 0)=some (.string ⟨#[110,97,109,101,115]⟩):=by simp[World.cell?,g.o.row,aW]
  have c1:wr.cell? (xD (w.heap.size+1+1+1+1+1) 1)=some (.iface 316 (.pointer (some (S 4)))):=by simp[World.cell?,g.o.row,aW]
  have c2:wr.cell? (xD (w.heap.size+1+1+1+1+1) 2)=some (.func (.func 95) #[] #[xP w.heap.size]):=by simp[World.cell?,g.o.row,aW]
  have d:=g.o.aq v (zq wr (.cells #[.string ⟨#[110,97,109,101,115]⟩,aW S 4,.func (.func 95) #[] #[xP w.heap.size]] 131));obtain⟨U,r⟩:=d.b0;have C:=za (nF S 4 ⟨#[110,97,109,101,115]⟩ 42 Hr Sc.cG b J (w.heap.size) U (wr.alloc (.cells #[.string ⟨#[110,97,109,101,115]⟩,aW S 4,.func (.func 95) #[] #[xP w.heap.size]] 131)) (λc u lb K R A o O P L Q T W M h v=>Hl S 4 lb K R A o N c (y c u).bO (λq bb=>((y c u).nd.eqs q bb).1) L Q T W M h v O P) d.pt (aJ v d.aH.size) r);clear r d;have G:=ze g.o.row;obtain⟨l,f⟩:∃l,zO ((kd b).flatMap Sc.cG)=l:=⟨_,rfl⟩;rw[f] at C;have B:aa (l=none->∀j,j<1->zO (lp b j)=none):=by
   intro e j ar;by_cases F:j=0
   . subst F;exact f.trans e
   exact s.o j (by omega)
  have I:aa (∀p,l=some p->dh b=some (4,p)):=by intro p e;rw[e] at f;unfold dh;rw[f]
  clear f;rotate_left;have z:zO ((kd b).flatMap Sc.cG)=none:=s.o 0 (by omega);have c0:wr.cell? (xD (w.heap.size+1+1+1+1+1) 3)=some (.string ⟨#[116,121,112,101,115]⟩):=by simp[World.cell?,g.o.row,aW]
  have c1:wr.cell? (xD (w.heap.size+1+1+1+1+1) 4)=some (.iface 316 (.pointer (some (S 5)))):=by simp[World.cell?,g.o.row,aW]
  have c2:wr.cell? (xD (w.heap.size+1+1+1+1+1) 5)=some (.func (.func 95) #[] #[xP (w.heap.size+1)]):=by simp[World.cell?,g.o.row,aW]
  have x:aa (∀c∈kd b,ka c):=λc u=>Qd (y c u) (nG z c u);have d:=g.o.aq v (zq wr (.cells #[.string ⟨#[116,121,112,101,115]⟩,aW S 5,.func (.func 95) #[] #[xP (w.heap.size+1)]] 131));obtain⟨U,r⟩:=d.b1;have C:=za (nF S 5 ⟨#[116,121,112,101,115]⟩ 43 H8 Sc.aaj b J (w.heap.size+1) U (wr.alloc (.cells #[.string ⟨#[116,121,112,101,115]⟩,aW S 5,.func (.func 95) #[] #[xP (w.heap.size+1)]] 131)) (λc u lb K R A o O P L Q T W M h v=>HB S 5 lb K R A o N c (y c u) (x.o c u) L Q T W M h v O P) d.pt (aJ v d.aH.size) r);clear r d;have G:=ze g.o.row;obtain⟨l,f⟩:∃l,zO ((kd b).flatMap Sc.aaj)=l:=⟨_,rfl⟩;rw[f] at C;have B:aa (l=none->∀j,j<2->zO (lp b j)=none):=by
   intro e j ar;by_cases F:j=1
   . subst F;exact f.trans e
   exact s.o j (by omega)
  have I:aa (∀p,l=some p->dh b=some (5,p)):=by intro p e;rw[e] at f;unfold dh;rw[z,f]
  clear f z x;rotate_left;have z:zO ((kd b).flatMap Sc.cG)=none:=s.o 0 (by omega);have D:zO ((kd b).flatMap Sc.aaj)=none:=s.o 1 (by omega);have c0:wr.cell? (xD (w.heap.size+1+1+1+1+1) 6)=some (.string ⟨#[99,108,111,99,107,115]⟩):=by simp[World.cell?,g.o.row,aW]
  have c1:wr.cell? (xD (w.heap.size+1+1+1+1+1) 7)=some (.iface 316 (.pointer (some (S 6)))):=by simp[World.cell?,g.o.row,aW]
  have c2:wr.cell? (xD (w.heap.size+1+1+1+1+1) 8)=some (.func (.func 95) #[] #[xP (w.heap.size+1+1)]):=by simp[World.cell?,g.o.row,aW]
  have x:aa (∀c∈kd b,ka c):=λc u=>Qd (y c u) (nG z c u);have d:=g.o.aq v (zq wr (.cells #[.string ⟨#[99,108,111,99,107,115]⟩,aW S 6,.func (.func 95) #[] #[xP (w.heap.size+1+1)]] 131));obtain⟨U,r⟩:=d.b2;have C:=za (nF S 6 ⟨#[99,108,111,99,107,115]⟩ 44 HT Sc.e4 b J (w.heap.size+1+1) U (wr.alloc (.cells #[.string ⟨#[99,108,111,99,107,115]⟩,aW S 6,.func (.func 95) #[] #[xP (w.heap.size+1+1)]] 131)) (λc u lb K R A o O P L Q T W M h v=>Hn S 6 lb K R A o N c (y c u) L Q T W M h v O P) d.pt (aJ v d.aH.size) r);clear r d;have G:=ze g.o.row;obtain⟨l,f⟩:∃l,zO ((kd b).flatMap Sc.e4)=l:=⟨_,rfl⟩;rw[f] at C;have B:aa (l=none->∀j,j<3->zO (lp b j)=none):=by
   intro e j ar;by_cases F:j=2
   . subst F;exact f.trans e
   exact s.o j (by omega)
  have I:aa (∀p,l=some p->dh b=some (6,p)):=by intro p e;rw[e] at f;unfold dh;rw[z,D,f]
  clear f z D x;rotate_left;have z:zO ((kd b).flatMap Sc.cG)=none:=s.o 0 (by omega);have D:zO ((kd b).flatMap Sc.aaj)=none:=s.o 1 (by omega);have H:zO ((kd b).flatMap Sc.e4)=none:=s.o 2 (by omega);have c0:wr.cell? (xD (w.heap.size+1+1+1+1+1) 9)=some (.string ⟨#[100,101,102,105,110,105,116,105,111,110,115]⟩):=by simp[World.cell?,g.o.row,aW]
  have c1:wr.cell? (xD (w.heap.size+1+1+1+1+1) 10)=some (.iface 316 (.pointer (some (S 7)))):=by simp[World.cell?,g.o.row,aW]
  have c2:wr.cell? (xD (w.heap.size+1+1+1+1+1) 11)=some (.func (.func 95) #[] #[xP (w.heap.size+1+1+1)]):=by simp[World.cell?,g.o.row,aW]
  have x:aa (∀c∈kd b,ka c):=λc u=>Qd (y c u) (nG z c u);have d:=g.o.aq v (zq wr (.cells #[.string ⟨#[100,101,102,105,110,105,116,105,111,110,115]⟩,aW S 7,.func (.func 95) #[] #[xP (w.heap.size+1+1+1)]] 131));obtain⟨U,r⟩:=d.b3;have C:=za (nF S 7 ⟨#[100,101,102,105,110,105,116,105,111,110,115]⟩ 45 GY Sc.fy b J (w.heap.size+1+1+1) U (wr.alloc (.cells #[.string ⟨#[100,101,102,105,110,105,116,105,111,110,115]⟩,aW S 7,.func (.func 95) #[] #[xP (w.heap.size+1+1+1)]] 131)) (λc u lb K R A o O P L Q T W M h v=>GX S 7 lb K R A o N c (y c u) (x.o c u) L Q T W M h v O P) d.pt (aJ v d.aH.size) r);clear r d;have G:=ze g.o.row;obtain⟨l,f⟩:∃l,zO ((kd b).flatMap Sc.fy)=l:=⟨_,rfl⟩;rw[f] at C;have B:aa (l=none->∀j,j<4->zO (lp b j)=none):=by
   intro e j ar;by_cases F:j=3
   . subst F;exact f.trans e
   exact s.o j (by omega)
  have I:aa (∀p,l=some p->dh b=some (7,p)):=by intro p e;rw[e] at f;unfold dh;rw[z,D,H,f]
  clear f z D H x;rotate_left;have z:zO ((kd b).flatMap Sc.cG)=none:=s.o 0 (by omega);have D:zO ((kd b).flatMap Sc.aaj)=none:=s.o 1 (by omega);have H:zO ((kd b).flatMap Sc.e4)=none:=s.o 2 (by omega);have Y:zO ((kd b).flatMap Sc.fy)=none:=s.o 3 (by omega);have c0:wr.cell? (xD (w.heap.size+1+1+1+1+1) 12)=some (.string ⟨#[99,97,117,115,101,115]⟩):=by simp[World.cell?,g.o.row,aW]
  have c1:wr.cell? (xD (w.heap.size+1+1+1+1+1) 13)=some (.iface 316 (.pointer (some (S 8)))):=by simp[World.cell?,g.o.row,aW]
  have c2:wr.cell? (xD (w.heap.size+1+1+1+1+1) 14)=some (.func (.func 95) #[] #[xP (w.heap.size+1+1+1+1)]):=by simp[World.cell?,g.o.row,aW]
  have x:aa (∀c∈kd b,ka c):=λc u=>Qd (y c u) (nG z c u);have d:=g.o.aq v (zq wr (.cells #[.string ⟨#[99,97,117,115,101,115]⟩,aW S 8,.func (.func 95) #[] #[xP (w.heap.size+1+1+1+1)]] 131));obtain⟨U,r⟩:=d.b4;have C:=za (nF S 8 ⟨#[99,97,117,115,101,115]⟩ 46 Hj Sc.gb b J (w.heap.size+1+1+1+1) U (wr.alloc (.cells #[.string ⟨#[99,97,117,115,101,115]⟩,aW S 8,.func (.func 95) #[] #[xP (w.heap.size+1+1+1+1)]] 131)) (λc u lb K R A o O P L Q T W M h v=>Hb S 8 lb K R A o N c (y c u) L Q T W M h v O P) d.pt (aJ v d.aH.size) r);clear r d;have G:=ze g.o.row;obtain⟨l,f⟩:∃l,zO ((kd b).flatMap Sc.gb)=l:=⟨_,rfl⟩;rw[f] at C;have B:aa (l=none->∀j,j<5->zO (lp b j)=none):=by
   intro e j ar;by_cases F:j=4
   . subst F;exact f.trans e
   exact s.o j (by omega)
  have I:aa (∀p,l=some p->dh b=some (8,p)):=by intro p e;rw[e] at f;unfold dh;rw[z,D,H,Y,f]
  clear f z D H Y x;rotate_left;have z:zO ((kd b).flatMap Sc.cG)=none:=s.o 0 (by omega);have D:zO ((kd b).flatMap Sc.aaj)=none:=s.o 1 (by omega);have H:zO ((kd b).flatMap Sc.e4)=none:=s.o 2 (by omega);have Y:zO ((kd b).flatMap Sc.fy)=none:=s.o 3 (by omega);have n4:zO ((kd b).flatMap Sc.gb)=none:=s.o 4 (by omega);have c0:wr.cell? (xD (w.heap.size+1+1+1+1+1) 15)=some (.string ⟨#[109,101,109,111,114,121]⟩):=by simp[World.cell?,g.o.row,aW]
  have c1:wr.cell? (xD (w.heap.size+1+1+1+1+1) 16)=some (.iface 316 (.pointer (some (S 9)))):=by simp[World.cell?,g.o.row,aW]
  have c2:wr.cell? (xD (w.heap.size+1+1+1+1+1) 17)=some (.func (.func 47) #[] #[]):=by simp[World.cell?,g.o.row,aW]
  have x:aa (∀c∈kd b,ka c):=λc u=>Qd (y c u) (nG z c u);have d:=g.o.aq v (zq wr (.cells #[.string ⟨#[109,101,109,111,114,121]⟩,aW S 9,.func (.func 47) #[] #[]] 131));have C:=za (JO S 9 ⟨#[109,101,109,111,114,121]⟩ b J (wr.alloc (.cells #[.string ⟨#[109,101,109,111,114,121]⟩,aW S 9,.func (.func 47) #[] #[]] 131)) a0 d.pt (aJ v d.aH.size));clear d;have G:=ze g.o.row;obtain⟨l,f⟩:∃l,zO (ih b)=l:=⟨_,rfl⟩;rw[f] at C;have B:aa (l=none->∀j,j<6->zO (lp b j)=none):=by
   intro e j ar;by_cases F:j=5
   . subst F;exact f.trans e
   exact s.o j (by omega)
  have I:aa (∀p,l=some p->dh b=some (9,p)):=by intro p e;rw[e] at f;unfold dh;rw[z,D,H,Y,n4,f]
  clear f z D H Y n4 x;rotate_left
  . have z:zO ((kd b).flatMap Sc.cG)=none:=s.o 0 (by omega);have D:zO ((kd b).flatMap Sc.aaj)=none:=s.o 1 (by omega);have H:zO ((kd b).flatMap Sc.e4)=none:=s.o 2 (by omega);have Y:zO ((kd b).flatMap Sc.fy)=none:=s.o 3 (by omega);have n4:zO ((kd b).flatMap Sc.gb)=none:=s.o 4 (by omega);have n5:zO (ih b)=none:=s.o 5 (by omega);have I:aa (dh b=none):=by unfold aa dh;rw[z,D,H,Y,n4,n5]
    clear z D H Y n4 n5;go_wp2_with fail;go_ret;rw[I.o];exact⟨rfl,g.o.aH⟩
  all_goals
   cases l with
   | none =>
     have aV:=za (B.o rfl);clear B I;unfold gI aW at C;go_wp2_with (go_at_call 48;refine C.o.mono ?_;rintro e w2 ⟨rfl,E⟩;have Z:=za (zE E);clear E);go_roundg (gk-1);case measure=>omega
     refine⟨_,?_,?_,?_,g.o.aq v Z.o,aV.o⟩
     . omega
     . omega
     go_num
   | some p =>
     have aL:=za (I.o p rfl);clear B I;unfold gI aW at C
     go_wp2_with (first
      | (go_at_call 29;refine (rm _ _ _ _).mono ?_;rintro e w3 ⟨rfl,rfl⟩)
      | (go_at_call 48;refine C.o.mono ?_;rintro e w2 ⟨rfl,E⟩;have x0:=zd E (zL (zc wr _)).1 (by simp);have Z:=za (zE E);clear E))
     go_ret;rw[aL.o];exact⟨rfl,g.o.aH.trans (Z.o.mono a2)⟩
end
section
theorem DN {a:List ay}{k p:Nat}(h:dh a=some (k,p)):4<=k/\k<=9:=by
 unfold dh at h;repeat (split at h;· cases h;omega)
 cases h
def hP (o:Option (Nat×Nat)):Nat×Nat:=o.getD (0,0)
theorem tY (S:Xs)(src:Xb)(k p:Nat)(q:1<=k)(r:k<=11)(w:Xw)(t:Gl S w)(s:Sn S w)(o:fw w)(u:xK 14 #[.string src] w (λe h=>e=.returned (.tuple #[.pointer none,fN S iN k p])/\xB w h)) :
 xK 7 #[.string src] w (λe h=>e=.returned (.tuple #[xI k,xI p])/\xB w h):=by
 have m:=za u;have d:=za (λW (c:xB w W)=>y0 S iN k p W q r (t.of (T:=λ_=>False) (Fr.Mo c) (λ_ e=>e.elim)) (λi j y z A B x n=>s i j y z A B x (c.trans (n.mono c.size))) ((Z6 (w:=w) (a:=(xD 7 0)) (c.block _ (World.block_lt_of_cell? w (xD 7 0) o))).trans o));unfold fN ew at m d;clear u t s o;have g:xK 10 #[.string src] w (λe h=>e=.returned (.tuple #[.pointer none,fN S iN k p])/\xB w h):=by unfold fN ew;clear d;go_enter func10,ntmps10;go_wp2_with (go_at_call 14;refine m.o.mono ?_;rintro e C ⟨rfl,c⟩;have b:=za c);exact ab (v:=.tuple #[.pointer none,_]) (by simp[results,results10,go_sem]) rfl ⟨rfl,b.o⟩
 have f:=za g;unfold fN ew at f;clear g m;go_enter func7,ntmps7
 go_wp2_with (first
  | (go_at_call 11;refine (d.o _ b.o).mono ?_;rintro e D ⟨rfl,c⟩;have l:=za c)
  | (go_at_call 10;refine f.o.mono ?_;rintro e C ⟨rfl,c⟩;have b:=za c))
 exact ab (v:=.tuple #[xI k,xI p]) (by simp[results,results7,go_sem]) rfl ⟨rfl,b.o.trans (l.o.mono b.o.size)⟩
theorem B7 (S:Xs)(src:Xb)(s:List ay)(B:∀n∈s,gP n)(C:∀n∈s,n.Nh.length<=1000000)(w:Xw)(z:Gl S w)(E:Sn S w)(A:fw w)
 (K:xK 14 #[.string src] w (λe q=>∃f,e=.returned (.tuple #[xP f,.nilIface])/\PT q q.heap.size s (xP f)/\xB w q)) :
 xK 7 #[.string src] w (λe q=>e=.returned (.tuple #[.int .i64 (hP (dh s)).1,.int .i64 (hP (dh s)).2])/\xB w q):=by
 have o:=za K;have d:=za (λW f (b:xB w W) (u:PT W W.heap.size s (xP f))=>HF S W.heap.size s B C f W (z.of (T:=λ_=>False) (Fr.Mo b) (λ_ e=>e.elim)) u (an _));clear K;cases y:dh s with
 | none =>
   rw[y] at d;rw[show sv S none=.nilIface from rfl] at d;clear E A z B C y;unfold hP;simp only[Option.getD_none];have k:xK 10 #[.string src] w (λe q=>∃f,e=.returned (.tuple #[xP f,.nilIface])/\xB w q):=by
    go_enter func10,ntmps10
    go_wp2_with (first
     | (go_at_call 18;revert g;intro g;refine (d.o _ _ c.o g.o).mono ?_;rintro e J ⟨rfl,b⟩;have G:=b.size;have h:=za b)
     | (go_at_call 14;refine o.o.mono ?_;rintro e I ⟨f,rfl,u,b⟩;have t:=b.size;have g:=za u;have c:=za b))
    exact ab (v:=.tuple #[xP f,_]) (by simp[results,results10,go_sem]) rfl ⟨f,rfl,c.o.trans (h.o.mono t)⟩
   have m:=za k;clear k o d;go_enter func7,ntmps7
   go_wp2_with (first
    | (go_at_call 11;refine (II _).mono ?_;rintro e J ⟨rfl,rfl⟩)
    | (go_at_call 10;refine m.o.mono ?_;rintro e I ⟨f,rfl,b⟩;have c:=za b))
   exact ab (v:=.tuple #[xI 0,xI 0]) (by simp[results,results7,go_sem]) rfl ⟨rfl,c.o⟩
 | some x =>
   obtain⟨r,p⟩:=x;obtain⟨M,N⟩:=DN y;have l:=za (λW (b:xB w W)=>y0 S (pN r) r p W (by omega) (by omega) (z.of (T:=λ_=>False) (Fr.Mo b) (λ_ e=>e.elim)) (λi j O P Q R L D=>E i j O P Q R L (b.trans (D.mono b.size))) ((Z6 (w:=w) (a:=(xD 7 0)) (b.block _ (World.block_lt_of_cell? w (xD 7 0) A))).trans A));rw[y] at d;rw[show sv S (some (r,p))=fN S (pN r) r p from rfl] at d;clear E A z B C y;obtain⟨H,F⟩:∃H,pN r=H:=⟨_,rfl⟩;unfold fN ew at l d;rw[F] at d l;unfold hP;simp only[Option.getD_some];have k:xK 10 #[.string src] w (λe q=>∃f,e=.returned (.tuple #[xP f,fN S H r p])/\xB w q):=by
    unfold fN ew;clear l;go_enter func10,ntmps10
    go_wp2_with (first
     | (go_at_call 18;revert g;intro g;refine (d.o _ _ c.o g.o).mono ?_;rintro e J ⟨rfl,b⟩;have G:=b.size;have h:=za b)
     | (go_at_call 14;refine o.o.mono ?_;rintro e I ⟨f,rfl,u,b⟩;have t:=b.size;have g:=za u;have c:=za b))
    exact ab (v:=.tuple #[xP f,_]) (by simp[results,results10,go_sem]) rfl ⟨f,rfl,c.o.trans (h.o.mono t)⟩
   have m:=za k;unfold fN ew at m;clear k o d;go_enter func7,ntmps7
   go_wp2_with (first
    | (go_at_call 11;refine (l.o _ c.o).mono ?_;rintro e J ⟨rfl,b⟩;have h:=za b)
    | (go_at_call 10;refine m.o.mono ?_;rintro e I ⟨f,rfl,b⟩;have c:=za b))
   exact ab (v:=.tuple #[xI r,xI p]) (by simp[results,results7,go_sem]) rfl ⟨rfl,c.o.trans (h.o.mono c.o.size)⟩
def oE (src:Xb)(k p:Nat):Prop :=
 (1200<src.size/\k=1/\p=0)∨(src.size<=1200/\∃R,dm (fx 17).ex (fx 18).ex 1300 src=R/\((R.1.er≠0/\k=R.1.er/\p=R.1.at')∨(R.1.er=0/\∃a,dS R.2 a/\k=(hP (dh a)).1/\p=(hP (dh a)).2)))
theorem Dv {c d:Fn}(a:zv 17 c)(b:zv 18 d){s:Xb}(j:s.size<=1200):(dm c d 1300 s).1.er<=11:=by
 obtain⟨g,k⟩:∃g,g=1300:=⟨_,rfl⟩;have e:=uF a b g (by omega) s (sk j);have h:=RW a b (f:=g) (nodes:=[]) (sk j) rfl;rw[<- k];rw[e.1.er];have i:∀(f:Nat) (x:St×List Nd),Inv 0 x.1->x.1.op=0->Inv 0 (ik c d g f x).1:=by
  intro f;induction f with
  | zero=>intro x h _;exact h
  | succ f m =>
    intro x h l;unfold ik;split
    . have:=RW a b (f:=g) (nodes:=x.2) h l;exact m _ this.1 this.2.1
    exact h
 exact (i g _ h.1 h.2.1).ok.er
theorem Rm (S:Xs)(src:Xb)(k p:Nat)(h:oE src k p)(w:Xw)(d:Gl S w)(m:Sn S w)(q:fw w) :
 xK 7 #[.string src] w (λe z=>e=.returned (.tuple #[xI k,xI p])/\xB w z):=by
 obtain⟨x,y,g,i,r,o,a,b⟩:=pE;unfold oE at h;rw[<- g,<- i] at h;rcases h with ⟨c,rfl,rfl⟩|⟨c,R,f,⟨l,rfl,rfl⟩|⟨l,s,t,rfl,rfl⟩⟩
 . exact tY S src 1 0 (by omega) (by omega) w d m q (zz r o a b S src 1 0 (ao ⟨c,rfl,rfl⟩) w d)
 . have j:=Dv a b c;rw[f] at j;exact tY S src _ _ (by omega) j w d m q (zz r o a b S src _ _ (ap ⟨c,by rw[f];exact l,by rw[f],by rw[f]⟩) w d)
 obtain⟨f1,f2,v,f3,f4,f5⟩:=oH g i a b c f l;have:=uR t f3;subst this;exact B7 S src s f4 (λn u=>aJ (f5 n u) (by decide)) w d m q (uI r o a b S src R f c l f2 s f3 w d)
theorem Vf (S:Xs)(src:Xb)(k p:Nat)(K:1<=k)(h:oE src k p)(w:Xw)(C:Gl S w) :
 xK 10 #[.string src] w (λe N=>∃a m,e=.returned (.tuple #[.pointer a,fN S m k p])/\xB w N):=by
 obtain⟨o,r,x,y,E,D,g,i⟩:=pE;unfold oE at h;rw[<- x,<- y] at h;have M:(1200<src.size/\k=1/\p=0)∨(src.size<=1200/\(dm o r 1300 src).1.er≠0/\k=(dm o r 1300 src).1.er/\p=(dm o r 1300 src).1.at')->xK 10 #[.string src] w (λe N=>∃a m,e=.returned (.tuple #[.pointer a,fN S m k p])/\xB w N):=λh=>by have Q:=za (zz E D g i S src k p h w C);clear h E D;unfold fN ew at Q ⊢;go_enter func10,ntmps10;go_wp2_with (go_at_call 14;refine Q.o.mono ?_;rintro e w1 ⟨rfl,d⟩;have c:=za d);exact ab (v:=.tuple #[.pointer none,_]) (by simp[results,results10,go_sem]) rfl ⟨none,iN,rfl,c.o⟩
 rcases h with ⟨s,j,t⟩|⟨s,R,u,⟨j,t,l⟩|⟨j,A,t,l,H⟩⟩
 . exact M (.inl ⟨s,j,t⟩)
 . exact M (.inr ⟨s,by rw[u];exact j,by rw[u];exact t,by rw[u];exact l⟩)
 obtain⟨f1,f2,ar,f3,O,f5⟩:=oH x y g i s u j;have:=uR t f3;subst this;have P:∀n∈A,n.Nh.length<=1000000:=λn X=>aJ (f5 n X) (by decide);have G:=za (uI E D g i S src R u s j f2 A f3 w C);have b:=za (λW B (d:xB w W) (I:PT W W.heap.size A (xP B))=>HF S W.heap.size A O P B W (C.of (T:=λ_=>False) (Fr.Mo d) (λ_ e=>e.elim)) I (an _));cases J:dh A with
 | none=>rw[J] at l;exact absurd l (by show ¬k=0;omega)
 | some kp =>
   obtain⟨Z,q⟩:=kp;rw[J] at l H b;have U:k=Z:=l;have V:p=q:=H;subst U V;rw[show sv S (some (k,p))=fN S (pN k) k p from rfl] at b;obtain⟨m,z⟩:∃m,pN k=m:=⟨_,rfl⟩;rw[z] at b;clear M E D u j t f1 f2 f3 O f5 P J C z l H s K;unfold fN ew at b ⊢;go_enter func10,ntmps10
   go_wp2_with (first
    | (go_at_call 18;revert f;intro f;refine (b.o _ _ c.o f.o).mono ?_;rintro e w2 ⟨rfl,d⟩;have Y:=d.size;have F:=za d)
    | (go_at_call 14;refine G.o.mono ?_;rintro e w1 ⟨B,rfl,I,d⟩;have L:=d.size;have f:=za I;have c:=za d))
   exact ab (v:=.tuple #[xP B,_]) (by simp[results,results10,go_sem]) rfl ⟨_,m,rfl,c.o.trans (F.o.mono L)⟩
theorem UG (S:Xs)(src:Xb)(k p:Nat)(g:1<=k)(q:k<=11)(h:oE src k p)(w:Xw)(n:Gl S w)(r:Sn S w)(o:fw w) :
 xK 5 #[.string src] w (λe A=>e=.returned (.tuple #[.slice none 0 0,xI k,xI p])/\xB w A):=by
 have f:=za (Vf S src k p g h w n);have d:=za (λs W (b:xB w W)=>y0 S s k p W g q (n.of (T:=λ_=>False) (Fr.Mo b) (λ_ e=>e.elim)) (λi j u x y z t m=>r i j u x y z t (b.trans (m.mono b.size))) ((Z6 (w:=w) (a:=(xD 7 0)) (b.block _ (World.block_lt_of_cell? w (xD 7 0) o))).trans o));unfold fN ew at f d;clear h n r o;go_enter func5,ntmps5
 go_wp2_with (first
  | (go_at_call 11;refine (d.o _ _ c.o).mono ?_;rintro e C ⟨rfl,b⟩;have l:=za b)
  | (go_at_call 10;refine f.o.mono ?_;rintro e B ⟨a,s,rfl,b⟩;have c:=za b))
 exact ab (v:=.tuple #[.slice none 0 0,xI k,xI p]) (by simp[results,results5,go_sem]) rfl ⟨rfl,c.o.trans (l.o.mono c.o.size)⟩
end
section
variable {K:Cd} {B c d:Nat} {m j f:Xv} {w p:Xw}
attribute [local go_sem ↓] Go.wp_at_zero Go.wp_at_succ
theorem Tryz.Ud:(prog.info? 65).map (λi=>(i.zero,i.size,i.bytes))=some (some (.agg #[.int .u8 0,xI 0]),2,16):=by kernel_rfl
def Pm (w:Xw)(b o k:Nat):Prop:=∃v,w.cell? (xD b o)=some v/\v.ownBlock=some k
def KT (c:Nat)(w:Xw)(k:Nat):Prop:=k=c∨Pm w c 0 k∨Pm w c 3 k∨Pm w c 5 k
def Cd.add (K:Cd)(a:Nat)(x:Int):Cd:={ K with row:=K.row++[(a,x)] }
structure KI (B d c:Nat) (m j f:Xv) (K:Cd) (w:Xw):Prop where
 wr:w.heap[d]?=some (.cells #[xP c] 89 (0,0))
 aC:w.heap[c]?=some (.cells #[m,xI K.aG,xI K.al,j,xI K.depth,f] 60 (0,0))
 xv:w.ownsRow B 4 1 m K.dn.length (K.dn.map .bool)
 hQ:w.ownsRow B 2 1 j K.cells.length (zK K.cells)
 zA:w.ownsRow B 65 2 f K.row.length (MU K.row)
 MF:d<B
 MC:c<B
 dk:¬d=c
 d1:∀k,m.ownBlock=some k->¬j.ownBlock=some k/\¬f.ownBlock=some k
 d2:∀k,j.ownBlock=some k->¬f.ownBlock=some k
 hB:B<=w.heap.size
def KW (B d c:Nat)(K:Cd)(w:Xw):Prop:=∃m j f,KI B d c m j f K w
theorem KI.kt (h:KI B d c m j f K w)(k:Nat):KT c w k↔k=c∨m.ownBlock=some k∨j.ownBlock=some k∨f.ownBlock=some k:=by
 obtain⟨g,n,o,i,q,l,r,s⟩:=zt h.aC;unfold KT Pm;rw[g,i,l];constructor
 . rintro (e|⟨v,a,b⟩|⟨v,a,b⟩|⟨v,a,b⟩)
   . exact ao e
   . cases a;exact ap (ao b)
   . cases a;exact ap (ap (ao b))
   cases a;exact ap (ap (ap b))
 rintro (e|e|e|e)
 . exact ao e
 . exact ap (ao ⟨_,rfl,e⟩)
 . exact ap (ap (ao ⟨_,rfl,e⟩))
 exact ap (ap (ap ⟨_,rfl,e⟩))
theorem KI.aq (h:KI B d c m j f K w)(a:xB w p):KI B d c m j f K p :=
 ⟨(a.block _ (ze h.wr)).trans h.wr,(a.block _ (ze h.aC)).trans h.aC,zi h.xv (λk _ b _=>a.block k b),zi h.hQ (λk _ b _=>a.block k b),zi h.zA (λk _ b _=>a.block k b),h.MF,h.MC,h.dk,h.d1,h.d2,aJ h.hB a.size⟩
theorem KW.aq (h:KW B d c K w)(a:xB w p):KW B d c K p:=by obtain⟨m,j,f,h⟩:=h;exact⟨m,j,f,h.aq a⟩
theorem KW.tk (h:KW B d c K w)(a:xB w p):∀k,KT c p k->KT c w k:=by obtain⟨m,j,f,h⟩:=h;intro k b;exact (h.kt k).2 (((h.aq a).kt k).1 b)
theorem KW.lt (h:KW B d c K w):∀k,KT c w k->k<w.heap.size:=by
 obtain⟨m,j,f,h⟩:=h;intro k a;rcases (h.kt k).1 a with e|e|e|e
 . subst e;exact ze h.aC
 . exact (h.xv.lt _ e).2
 . exact (h.hQ.lt _ e).2
 exact (h.zA.lt _ e).2
theorem KW.ge (h:KW B d c K w):∀k,KT c w k->k=c∨B<=k:=by
 obtain⟨m,j,f,h⟩:=h;intro k a;rcases (h.kt k).1 a with e|e|e|e
 . exact ao e
 . exact ap (h.xv.lt _ e).1
 . exact ap (h.hQ.lt _ e).1
 exact ap (h.zA.lt _ e).1
theorem KW.ft (h:KW B d c K w)(a:xB w p):FT (KT c) w p:=FT.below a (h.tk a)
theorem YC {a b:Int}:∀u∈[Value.int .u8 a,xI b],u.oneCell'=true:=by simp[Value.oneCell']
theorem O6 {n:Nat}{e:Xy}{q:Nat}{i:Xv}{r:Xm}(h:w.ownsRow B e q i n r):∃x k,i=.slice x n k:=by
 rcases h.2 with ⟨b,o⟩|⟨g,a,l,b,_⟩
 . exact⟨none,0,by rw[b,o]⟩
 exact⟨_,a,b⟩
theorem Wo (l:List (Nat×Int))(a:Nat)(x:Int):MU (l++[(a,x)])=MU l++[.int .u8 (a:Int),xI x]:=by unfold MU;rw[List.flatMap_append];rfl
theorem KI.Rb {a:Xv}{v:Nat}{x:Int}{b:Xw}{X:Obj}(h:KI B d c m j f K w)(hF:Fr (λk=>f.ownBlock=some k) (w.alloc X) b)
 (r:b.ownsRow B 65 2 a (K.row.length+1) (MU K.row++[.int .u8 (v:Int),xI x])) (g:∀k,a.ownBlock=some k->f.ownBlock=some k∨w.heap.size+1<=k) :
 KW B d c (K.add v x) (b.setCell (xD c 5) a)/\FT (KT c) w (b.setCell (xD c 5) a):=by
 have E:=h.hB;have s:=h.MF;have o:=h.MC;have D:(w.alloc X).heap.size=w.heap.size+1:=by simp
 have C:=hF.size;have A:∀k,k<w.heap.size->¬f.ownBlock=some k->b.heap[k]?=w.heap[k]?:=λk l u=>(hF.block k (by omega) u).trans (mm _ _ _ l);have i:∀k,k<w.heap.size->¬k=c->¬f.ownBlock=some k->(b.setCell (xD c 5) a).heap[k]?=w.heap[k]?:=λk l t n=>zr t (A k l n);have q:∀k,k<B->¬f.ownBlock=some k:=λk l e=>by have:=(h.zA.lt _ e).1;omega
 have z:KI B d c m j a (K.add v x) (b.setCell (xD c 5) a):=by
  refine⟨(i d (by omega) h.dk (q d s)).trans h.wr,?_,zi h.xv (λk t n e=>i k n (by omega) (h.d1 k e).2),zi h.hQ (λk t n e=>i k n (by omega) (h.d2 k e)),?_,s,o,h.dk,λk e=>⟨(h.d1 k e).1,λy=>?_⟩,λk e y=>?_,?_⟩
  . exact zh _ _ _ _ ((A c (by omega) (q c o)).trans h.aC)
  . have:=zi r (w':=b.setCell (xD c 5) a) (λk t n _=>zr (by omega) rfl);rw[<- Wo] at this
    show World.ownsRow _ B 65 2 a (K.row++[(v,x)]).length _;rw[aP];exact this
  . rcases g k y with e2|e2
    . exact (h.d1 k e).2 e2
    have:=(h.xv.lt _ e).2;omega
  . rcases g k y with e2|e2
    . exact h.d2 k e e2
    have:=(h.hQ.lt _ e).2;omega
  have:(b.setCell (xD c 5) a).heap.size=b.heap.size:=by simp
  omega
 refine⟨⟨m,j,a,z⟩,⟨hF.os,hF.tape,hF.output,?_,λk l u=>?_⟩,λk l=>?_⟩
 . have:(b.setCell (xD c 5) a).heap.size=b.heap.size:=by simp
   omega
 . exact i k l (λe=>u ((h.kt k).2 (ao e))) (λe=>u ((h.kt k).2 (ap (ap (ap e)))))
 rcases (z.kt k).1 l with e|e|e|e
 . exact ao ((h.kt k).2 (ao e))
 . exact ao ((h.kt k).2 (ap (ao e)))
 . exact ao ((h.kt k).2 (ap (ap (ao e))))
 rcases g k e with e2|e2
 . exact ao ((h.kt k).2 (ap (ap (ap e2))))
 exact ap (by omega)
theorem O5 (B d c:Nat)(K:Cd)(n:Nat)(x:Int)(w:Xw)(h:KW B d c K w)(G:K.row.length<=1000000) :
 xK 27 #[xP d,.int .u8 (n:Int),xI x] w (λe p=>e=.returned (.tuple #[])/\KW B d c (K.add n x) p/\FT (KT c) w p):=by
 obtain⟨m,j,f,a⟩:=h;obtain⟨Q,s,rfl⟩:=O6 a.zA;obtain⟨R,S,T⟩:=zu a.wr;obtain⟨J,L,M,N,O,Y,Z,ar⟩:=zt a.aC;obtain⟨I,E,t,u,v⟩:=info_parts Tryz.Ud;have P:K.row.length+1<=maxLen:=by unfold maxLen;omega
 have r:(K.row.length+1)*16<=140737488355328:=by omega
 have H:=a.MF;have F:=a.MC;have A:=a.hB;have C:=a.dk;clear J L M N O G;go_enter func27,ntmps27
 go_region_law (
  refine zJ _ rfl (.tmp 16) (.tmp 20) 58 rfl B 65 I _ 2 16 underlying58 E t u v rfl (by decide) (.slice Q K.row.length s) K.row.length (MU K.row) rfl (zD (a.zA) _) (xD w.heap.size 0) 1 1 [.int .u8 (n:Int),xI x] rfl rfl (zN (zc w _) rfl) YC P r (by simp;omega) ?_;intro v' w9 b g l;obtain⟨X,y,rfl,D⟩:=zM b (by omega);have i:=(Fr.gi g).cQ;have o:=(i.block c (by simp;omega) (λh=>by have:=(a.zA.lt _ h).1;omega)).trans ((mm _ _ _ (by omega)).trans a.aC);have q:=(i.block d (by simp;omega) (λh=>by have:=(a.zA.lt _ h).1;omega)).trans ((mm _ _ _ (by omega)).trans a.wr);obtain⟨U,V,W⟩:=zu q;obtain⟨q0,aA,q2,q3,q4,q5,qf,aL⟩:=zt o;clear g)
 all_goals go_wp2_with fail
 all_goals go_end0
 all_goals exact⟨rfl,a.Rb i b (λk e=>(l k e).imp id (λh=>by have z:(w.alloc (.cells #[.int .u8 (n:Int),xI x] 65)).heap.size<=k:=h;rw[au] at z;exact z))⟩
end
section
variable {K:Cd} {B N d j g r:Nat} {c:Sc} {m o q:Xv} {w f:Xw}
attribute [local go_sem ↓] Go.wp_at_zero Go.wp_at_succ
def Cd.fv (K:Cd)(l:List (Nat×Int)):Cd:={ K with row:=K.row++l }
theorem Cd.Rc (K:Cd):K.fv []=K:=by unfold Cd.fv;rw[List.append_nil]
theorem Cd.ON (K:Cd)(l:List (Nat×Int)):(K.fv l).row.length=K.row.length+l.length:=by unfold Cd.fv;simp
structure Ng (N g j d:Nat) (c:Sc) (m q o:Xv) (w:Xw):Prop where
 aC:w.heap[g]?=some (.cells #[m,q,.map (some j),xI (d:Int),o] 87 (0,0))
 sc:br w N c m q
 ck:dF w c j
 hN:N<=w.heap.size
structure WI (N B r kb g j d:Nat) (c:Sc) (m q o:Xv) (K:Cd) (w:Xw):Prop where
 kw:KW B r kb K w
 qi:Ng N g j d c m q o w
 nq:¬KT kb w g
 nc:¬KT kb w j
 NN:N<=kb
theorem Ng.aq (h:Ng N g j d c m q o w)(a:xB w f):Ng N g j d c m q o f :=
 ⟨(a.block _ (ze h.aC)).trans h.aC,h.sc.am (zm a h.hN),h.ck.aq a,aJ h.hN a.size⟩
theorem KW.kb {a:Nat}(h:KW B r a K w):a<B:=by obtain⟨b,e,i,h⟩:=h;exact h.MC
theorem WI.Pe {a:Nat}(h:WI N B r a g j d c m q o K w):∀k,KT a w k->N<=k:=by intro k b;have i:=h.NN;have l:=h.kw.kb;rcases h.kw.ge k b with e|e <;> omega
theorem WI.aq {b:Nat}(h:WI N B r b g j d c m q o K w)(a:xB w f):WI N B r b g j d c m q o K f :=
 ⟨h.kw.aq a,h.qi.aq a,λe=>h.nq (h.kw.tk a _ e),λe=>h.nc (h.kw.tk a _ e),h.NN⟩
theorem FT.not {T:World->Nat->Prop}(h:FT T w f){z:Nat}(b:z<w.heap.size)(a:¬T w z):¬T f z:=λe=>(h.tk z e).elim a (λe=>by omega)
theorem WI.ft {b:Nat}{e:Cd}(h:WI N B r b g j d c m q o K w)(k:KW B r b e f)(a:FT (KT b) w f):WI N B r b g j d c m q o e f:=by have i:bV N w f:=a.am h.qi.hN h.Pe;exact⟨k,⟨(a.fr.block _ (ze h.qi.aC) h.nq).trans h.qi.aC,h.qi.sc.am i,h.qi.ck.gh (a.fr.block _ h.qi.ck.lt h.nc),aJ h.qi.hN a.fr.size⟩,a.not (ze h.qi.aC) h.nq,a.not h.qi.ck.lt h.nc,h.NN⟩
theorem Qb (i:Nat)(w:Xw)(h:Ng N g j d c m q o w)(a:d<=1000000)(b:i<=1000000) :
 xK 122 #[xP g,xI (i:Int)] w (λe f=>e=.returned (xI ((d+i:Nat):Int))/\w=f):=by
 obtain⟨k,l,n,p,s,t,u⟩:=bz h.aC;go_enter func122,ntmps122;go_wp2_with fail;go_ret;exact⟨by simp,rfl⟩
theorem SV (w:Xw)(h:Ng N g j d c m q o w)(l:d<=1000000) :
 xK 57 #[xP g] w (λe f=>e=.returned (xI ((d+c.nd.ak.length:Nat):Int))/\w=f):=by
 obtain⟨F,J,I,M,rfl,a⟩:=h.sc.nd;obtain⟨O,k,rfl⟩:=zB a.bZ;obtain⟨y,z,A,C,D,E,G,H⟩:=zt a.aC;obtain⟨n,p,s,t,u,v,x⟩:=bz h.aC;have b:=a.bO;have i:=za (Qb c.nd.ak.length w h l (by omega));go_enter func57,ntmps57;go_wp2_with (go_at_call 122;refine i.o.mono ?_;rintro e L ⟨rfl,rfl⟩);go_ret;exact⟨rfl,rfl⟩
theorem XN (w:Xw)(h:Ng N g j d c m q o w)(p:d<=1000000) :
 xK 56 #[xP g] w (λe f=>e=.returned (xI ((d+c.nd.ak.length+1:Nat):Int))/\∃n,f=w.drewN n):=by
 obtain⟨H,M,L,O,rfl,a⟩:=h.sc.nd;obtain⟨P,i,rfl⟩:=zB a.bZ;obtain⟨A,C,D,E,F,G,I,J⟩:=zt a.aC;obtain⟨s,t,u,v,x,y,z⟩:=bz h.aC;have b:=a.bO;have k:wrap64 ((d:Int)+(c.nd.ak.length:Int))=(d:Int)+(c.nd.ak.length:Int):=by unfold wrap64;omega
 have l:wrap64 ((d:Int)+(c.nd.ak.length:Int)+1)=(d:Int)+(c.nd.ak.length:Int)+1:=by unfold wrap64;omega
 go_enter func56,ntmps56;go_upto_region 1 with fail;go_quiet (fail);go_wp2_with fail;go_ret;exact⟨by simp,_,rfl⟩
theorem RE (s:Xb)(a:Int)(w:Xw)(p:Ng N g j d c m q o w)(y:d<=1000000)(z:c.idx s<=1000000) :
 xK 63 #[xP g,.agg #[.string s,xI a]] w (λe f=>e=.returned (xI ((d+c.idx s:Nat):Int))/\xB w f):=by
 obtain⟨u,i,t,rfl,rfl,A⟩:=p.sc.shape;go_enter func63,ntmps63;go_upto_region 1 with fail;refine zn (λW=>Ng N g j d c (xE u c i) (xP t) o W/\xB w W/\xH W w.heap.size #[.string s,xI a] 78) ⟨p.aq (zq w _),zq w _,zc w _⟩ ?_;rintro W ⟨b,n,x⟩;obtain⟨D,E,F,G,H,I,J⟩:=bz b.aC;obtain⟨L,M,O,P⟩:=zp x;have k:=za (hW s a W.drew (b.sc.am (λ_ _=>rfl)) b.hN)
 go_region_held3 (λf=>f.cell? (xD g 0)=some (xE u c i)/\f.cell? (xD g 1)=some (xP t)/\f.cell? (xD w.heap.size 0)=some (.string s)/\f.cell? (xD w.heap.size 1)=some (xI a))
  (first|(with_reducible (refine⟨?_,?_,?_,?_⟩ <;> repeat (first|assumption|refine zg ?_|refine zj _ ?_|refine zk (by omega) ?_|refine zd h.o ?_ (by first|omega|(rw[au];omega)))))|go_keep)
  (first
    | (go_at_call 122;refine v.o.mono ?_;rintro e Q ⟨rfl,rfl⟩)
    | (go_at_call 61;refine k.o.mono ?_;rintro e C ⟨rfl,l⟩;have h:=za (zw l);have v:=za (Qb (c.idx s) C (b.aq h.o) y z)))
 go_wp2_with fail;go_ret;exact⟨rfl,n.trans (h.o.mono n.size)⟩
mutual
def MI:Tm->Int
 | .mk k _ _ _ n a=>if k=0 then (n:Int) else if k=10 then wrap64 (-(N1 a)) else if k=1 then 1 else 0
def N1:List Tm->Int
 | []=>0
 | t::_=>MI t
end
theorem QL:∀(t:Tm),Wf t->∀(v:Xv) (w:Xw),TT w N t v ->
 xK 167 #[v] w (λe f=>e=.returned (xI (MI t))/\w=f):=by
 intro t;induction t using Tm.ind with
 | h z a U n p P M =>
   intro I v w h;obtain⟨b,Y,Z,rfl,a2,l,k,i,s,C⟩:=h.ptr;obtain⟨E,R,S,T,O,X,a3,a4⟩:=zt l;by_cases D:z=0
   . have F:aa (MI (.mk z a U n p P)=(p:Int)):=(by unfold aa MI;rw[ag D]);have H:w.cell? (xD b 0)=some (xI 0):=(by rw[E];show some (xI ((z:Nat):Int))=_;rw[D];rfl);have aV:xC w b 4 (xI (p:Int)):=O;clear h l k i s C M I D E R S T O X;go_enter func167,ntmps167;go_wp2_with fail;go_ret;rw[F.o];exact⟨rfl,rfl⟩
   by_cases A:z=10
   . subst A;have L:=I.ar;obtain⟨u,Q,hu⟩:∃u Q,P=u::Q:=by
      cases P with
      | nil=>simp[Tm.k,Tm.ts,dJ] at L
      | cons u Q=>exact⟨u,Q,rfl⟩
     subst hu;obtain⟨x,a1,rfl⟩:=zB k;obtain⟨y,W⟩:∃y,Z[0]?=some y:=⟨_,av (by rw[i];simp[Tm.ts])⟩;obtain⟨g',rfl,V⟩:=nB k W;have G:=s 0 u y rfl W;obtain⟨a0,_,_,rfl,_⟩:=G.ptr;have ar:=za (M u (Mx ..) (I.sub (Mx ..)) _ w G);have F:aa (MI (.mk 10 a U n p (u::Q))=wrap64 (-(MI u))):=(by unfold aa;rw[MI,ae (by omega),ag rfl,N1]);have H:xC w b 0 (xI 10):=E;have aL:(0:Int)<(Z.length:Int):=(by rw[i];simp[Tm.ts]);clear h l k i s C M I D E R S T O G W L;go_enter func167,ntmps167;go_wp2_with (go_at_call 167;refine ar.o.mono ?_;rintro e w1 ⟨rfl,rfl⟩);go_ret;rw[F.o];exact⟨rfl,rfl⟩
   by_cases J:z=1
   . have F:aa (MI (.mk z a U n p P)=1):=(by unfold aa MI;rw[ae D,ae A,ag J]);have H:w.cell? (xD b 0)=some (xI 1):=(by rw[E];show some (xI ((z:Nat):Int))=_;rw[J];rfl);clear h l k i s C M I D J A E R S T O X;go_enter func167,ntmps167;go_wp2_with fail;go_ret;rw[F.o];exact⟨rfl,rfl⟩
   have F:aa (MI (.mk z a U n p P)=0):=(by unfold aa MI;rw[ae D,ae A,ae J]);have H:xC w b 0 (xI (z:Int)):=E;have g0:¬(z:Int)=0:=(by omega);have g1:¬(z:Int)=1:=(by omega);have aA:¬(z:Int)=10:=(by omega);clear h l k i s C M I D J A E R S T O X;go_enter func167,ntmps167;go_wp2_with fail;go_ret;rw[F.o];exact⟨rfl,rfl⟩
end
section
variable {K:Cd} {B N a i b g d z:Nat} {o:Obj} {c:Sc} {j m n:Xv} {W w:Xw}
attribute [local go_sem ↓] Go.wp_at_zero Go.wp_at_succ
def z8 (c:Sc)(a:Nat):Nat->Nat×Nat->List (Nat×Int)
 | 0,_=>[(1,((a+c.nd.ak.length:Nat):Int))]
 | f+1,k=>if k.2=0 then [(1,((a+c.nd.ak.length:Nat):Int))] else z8 c a f (c.up k)++(1,((a+k.1:Nat):Int))::((if k.2=2 then [(8,0)] else [])++[(9,0)])
def Oe (c:Sc):Nat->Nat×Nat->Prop
 | 0,k=>k.2=0
 | f+1,k=>k.2=0∨(k.1<=1000000/\Oe c f (c.up k))
theorem WK (c:Sc)(a f:Nat)(k:Nat×Nat)(h:k.2=0):z8 c a f k=[(1,((a+c.nd.ak.length:Nat):Int))]:=by
 cases f with
 | zero=>rfl
 | succ f=>unfold z8;rw[ag h]
structure WX (N B d b g i a:Nat) (c:Sc) (j n m:Xv) (w:Xw) (z:Nat) (o:Obj) (K:Cd) (W:Xw):Prop where
 wi:WI N B d b g i a c j n m K W
 ft:FT (KT b) w W
 bx:W.heap[z]?=some o
 nz:¬KT b W z
theorem WX.ad {k:Cd}{f:Xw}(h:WX N B d b g i a c j n m w z o K W)(l:KW B d b k f)(e:FT (KT b) W f):WX N B d b g i a c j n m w z o k f :=
 ⟨h.wi.ft l e,h.ft.trans e,(e.fr.block _ (ze h.bx) h.nz).trans h.bx,e.not (ze h.bx) h.nz⟩
theorem WX.add (h:WX N B d b g i a c j n m w z o K W)(f:Nat)(x:Int)(r:K.row.length<=1000000) :
 xK 27 #[xP d,.int .u8 (f:Int),xI x] W (λe k=>e=.returned (.tuple #[])/\WX N B d b g i a c j n m w z o (K.add f x) k):=by
 refine (O5 B d b K f x W h.wi.kw r).mono ?_;rintro e k ⟨l,p,q⟩;exact⟨l,h.ad p q⟩
theorem WX.new (h:WI N B d b g i a c j n m K w)(o:Obj):WX N B d b g i a c j n m w w.heap.size o K (w.alloc o) :=
 ⟨h.aq (zq w o),h.kw.ft (zq w o),zc w o,λe=>by have:=h.kw.lt _ (h.kw.tk (zq w o) _ e);omega⟩
theorem SR (a5:a<=1000000) :
 ∀(f:Nat) (k:Nat×Nat) (K:Cd) (w:Xw),Oe c f k->WI N B d b g i a c j n m K w->K.row.length+(z8 c a f k).length<=1000000 ->
  xK 64 #[xP d,xP g,hG k] w (λe r=>e=.returned (.tuple #[])/\KW B d b (K.fv (z8 c a f k)) r/\FT (KT b) w r):=by
 have zero:∀(f:Nat) (k:Nat×Nat) (K:Cd) (w:Xw),k.2=0->WI N B d b g i a c j n m K w->K.row.length+(z8 c a f k).length<=1000000 ->
  xK 64 #[xP d,xP g,hG k] w (λe r=>e=.returned (.tuple #[])/\KW B d b (K.fv (z8 c a f k)) r/\FT (KT b) w r):=by
  intro f k K w F D x;rw[WK c a f k F] at x ⊢;have A:=za (WX.new D (.cells #[xI (k.1:Nat),xI (k.2:Nat)] 162));have bb:=za F;obtain⟨L,h⟩:∃L,K.fv [(1,((a+c.nd.ak.length:Nat):Int))]=L:=⟨_,rfl⟩;rw[h];have y:=za h;clear D F h;unfold hG;go_enter func64,ntmps64;go_upto_region 1 with fail;refine zn (λW=>WX N B d b g i a c j n m w w.heap.size (.cells #[xI (k.1:Nat),xI (k.2:Nat)] 162) K W) A.o ?_;intro W q;obtain⟨V,X,a2,a3⟩:=zp q.bx;have Q:=za q;have bg:(k.2:Int)=0:=by have:=bb.o;omega
  clear q A
  go_wp2_with (first
   | (go_at_call 27;refine (Q.o.add 1 ((a+c.nd.ak.length:Nat):Int) (by simp at x;omega)).mono ?_;rintro e w2 ⟨rfl,p⟩;have s:=za p;clear p)
   | (go_at_call 57;refine (SV _ Q.o.wi.qi a5).mono ?_;rintro e r ⟨rfl,rfl⟩))
  first|go_end0|refine ab (results_none rfl _ _ _) rfl ?_
  rw[<- y.o];exact⟨rfl,s.o.wi.kw,s.o.ft⟩
 intro f;induction f with
 | zero => intro k K w F D x;exact zero 0 k K w F D x
 | succ f a9 =>
   intro k K w F D x;by_cases C:k.2=0
   . exact zero (f+1) k K w C D x
   have Z:k.1<=1000000/\Oe c f (c.up k):=F.resolve_left C;have a4:z8 c a (f+1) k=z8 c a f (c.up k)++(1,((a+k.1:Nat):Int))::((if k.2=2 then [(8,0)] else [])++[(9,0)]):=(by rw[z8,ae C]);rw[a4] at x ⊢;rw[aP,bJ,aP,List.length_singleton] at x;obtain⟨l,aA⟩:∃l,z8 c a f (c.up k)=l:=⟨_,rfl⟩;rw[aA] at x ⊢;obtain⟨L,h⟩:∃L,K.fv (l++(1,((a+k.1:Nat):Int))::((if k.2=2 then [(8,0)] else [])++[(9,0)]))=L:=⟨_,rfl⟩;rw[h];have y:=za h;clear h;have U:=za a9;have A:=za (WX.new D (.cells #[xI (k.1:Nat),xI (k.2:Nat)] 162));have a6:¬(k.2:Int)=0:=(by omega);obtain⟨ar,E⟩:=Z;have T:=za E;have a1:=za aA;clear D F C E a4 a9 aA;unfold hG;go_enter func64,ntmps64;go_upto_region 3 with fail;refine zn (λW=>WX N B d b g i a c j n m w w.heap.size (.cells #[xI (k.1:Nat),xI (k.2:Nat)] 162) K W) A.o ?_;intro W q;obtain⟨V,X,a2,a3⟩:=zp q.bx;obtain⟨m0,m1,m2,m3,m4,bk,bl⟩:=bz q.wi.qi.aC;have aL:(Instr.lookup 84 (.map (some i)) (.agg #[xI (k.1:Nat),xI (k.2:Nat)]) false).run prog W.drew=.ok (.agg #[xI ((c.up k).1:Nat),xI ((c.up k).2:Nat)]) W.drew:=yn (w:=W.drew) (q.wi.qi.ck.gh (w':=W.drew) rfl) k;have P:=za (U.o (c.up k) K W.drew T.o (q.wi.aq (zo (yS _ _))) (by rw[a1.o];omega));rw[a1.o] at P;unfold hG at P;have Q:=za q;have a0:=q.nz;have aV:=q.wi.nq;clear q m0 m1 m3 m4
   go_region_held3 (λr=>r.cell? (xD g 2)=some (.map (some i))/\r.cell? (xD w.heap.size 0)=some (xI (k.1:Nat))/\r.cell? (xD w.heap.size 1)=some (xI (k.2:Nat)))
    (first|(refine⟨?_,?_,?_⟩ <;> repeat (first|with_reducible exact m2|with_reducible exact V|with_reducible exact X|with_reducible refine zg ?_|with_reducible refine FT.cell J.o ?_ (by assumption)))|go_keep)
    (first
      | (go_at_call 64;refine P.o.mono ?_;rintro e w1 ⟨rfl,M,H⟩;have u:FT (KT b) W w1:=⟨H.fr.cQ,H.tk⟩;have G:=za (Q.o.ad M u);have J:=za u;clear M H u))
   obtain⟨c0,c1,be,cz⟩:=zp G.o.bx;clear V X a2 a3 m2 bk bl P J aL a0 aV
   go_upto_region 5 with (first
    | (go_at_call 27;refine (G.o.add 1 ((a+k.1:Nat):Int) (by rw[Cd.ON];omega)).mono ?_;rintro e w2 ⟨rfl,p⟩;have s:=za p;obtain⟨d0,d1,bo,dz⟩:=zp p.bx;clear p)
    | (go_at_call 122;refine (Qb k.1 _ G.o.wi.qi a5 ar).mono ?_;rintro e r ⟨rfl,rfl⟩))
   clear c0 c1 be cz;by_cases I:k.2=2
   . have Y:(k.2:Int)=2:=(by omega);rw[ag I] at x;have R:aa ((((K.fv l).add 1 ((a+k.1:Nat):Int)).add 8 0).add 9 0=K.fv (l++(1,((a+k.1:Nat):Int))::((if k.2=2 then [(8,0)] else [])++[(9,0)]))):=(by unfold aa;rw[ag I];simp[Cd.add,Cd.fv]);clear I
     go_wp2_with (first
      | (go_at_call 27;refine (S.o.add 9 0 (by simp[Cd.add,Cd.fv];omega)).mono ?_;rintro e w4 ⟨rfl,v⟩;have t:=za v;clear v)
      | (go_at_call 27;refine (s.o.add 8 0 (by simp[Cd.add,Cd.fv];omega)).mono ?_;rintro e w3 ⟨rfl,O⟩;have S:=za O;clear O))
     first|go_end0|refine ab (results_none rfl _ _ _) rfl ?_
     rw[<- y.o,<- R.o];exact⟨rfl,t.o.wi.kw,t.o.ft⟩
   have Y:¬(k.2:Int)=2:=(by omega);rw[ae I] at x;have R:aa (((K.fv l).add 1 ((a+k.1:Nat):Int)).add 9 0=K.fv (l++(1,((a+k.1:Nat):Int))::((if k.2=2 then [(8,0)] else [])++[(9,0)]))):=(by unfold aa;rw[ae I];simp[Cd.add,Cd.fv]);clear I
   go_wp2_with (first
    | (go_at_call 27;refine (s.o.add 9 0 (by simp[Cd.add,Cd.fv];omega)).mono ?_;rintro e w4 ⟨rfl,v⟩;have t:=za v;clear v))
   first|go_end0|refine ab (results_none rfl _ _ _) rfl ?_
   rw[<- y.o,<- R.o];exact⟨rfl,t.o.wi.kw,t.o.ft⟩
end
section
variable {d:Xm} {f l n b:Nat} {a:Xp} {e:Xy} {v:Xv}
def Ni (w:Xw)(f:Nat)(e:Xy)(b:Nat)(v:Xv)(n:Nat)(d:Xm):Prop :=
 d.length=n*b/\((v=.slice none 0 0/\n=0) ∨
  ∃g o c h,v=.slice (some (xD g o)) n c/\f<=g/\w.heap[g]?=some (.cells h e (0,0))/\n<=c/\c<=maxLen/\o+c*b<=h.size/\(h.toList.drop o).take (n*b)=d)
theorem SY {w:Xw}(h:w.ownsRow f e b v n d):Ni w f e b v n d:=by
 refine⟨h.1,?_⟩;rcases h.2 with h|⟨g,c,i,j,k,m,o,p,r,q⟩
 . exact ao h
 exact ap ⟨g,0,c,i,j,k,m,o,p,by omega,by simpa using q⟩
theorem S0 (w:Xw)(f:Nat)(e:Xy)(b:Nat):Ni w f e b (.slice none 0 0) 0 []:=⟨by simp,ao ⟨rfl,rfl⟩⟩
theorem Ni.lt {w:Xw}(h:Ni w f e b v n d):∀k,v.ownBlock=some k->f<=k/\k<w.heap.size:=by
 intro k c;rcases h.2 with ⟨rfl,_⟩|⟨g,o,i,j,rfl,m,p,_⟩
 . simp[Value.ownBlock] at c
 simp[Value.ownBlock] at c;subst c;exact⟨m,ze p⟩
theorem O4 {w p:Xw}(h:Ni w f e b v n d)(s:∀k,f<=k->k<w.heap.size->v.ownBlock=some k->p.heap[k]?=w.heap[k]?):Ni p f e b v n d:=by
 refine⟨h.1,?_⟩;rcases h.2 with q|⟨g,o,c,i,rfl,j,m,r⟩
 . exact ao q
 exact ap ⟨g,o,c,i,rfl,j,(s g j (ze m) rfl).trans m,r⟩
theorem QM {w:Xw}(h:Ni w f e b v n d):∃x l,v=.slice x n l:=by
 rcases h.2 with ⟨j,k⟩|⟨g,o,c,i,rfl,_⟩
 . exact⟨none,0,by rw[j,k]⟩
 exact⟨_,c,rfl⟩
theorem P8 {w:Xw}(h:Ni w f e b (.slice a n l) n d){j:Nat}{u:Xv}(c:d[j]?=some u):∃g o,a=some (xD g o)/\w.cell? (xD g (o+j))=some u:=by
 have s:=(aB.1 c).1;rcases h.2 with ⟨k,m⟩|⟨g,o,p,i,k,m,q,t,x,y,r⟩
 . have:=h.1;rw[m] at this;omega
 cases k;refine⟨g,o,rfl,?_⟩;have:i[o+j]?=some u:=by
  rw[<- r,List.getElem?_take] at c;split at c
  . rw[List.getElem?_drop] at c;simpa using c
  cases c
 simp[World.cell?,q,this]
theorem Wc {P:Program}{t:Xy}(x:P.underlying t=some (.slice e))(j:∀w,(sizeOf e).run P w=.ok b w){w:Xw}(h:Ni w f e b (.slice a (n+1) l) (n+1) d) :
 ∃m c,(∀W,(Instr.slice t (.slice a (n+1) l) (some (xI 1)) none none).run P W=.ok (.slice m n c) W)/\Ni w f e b (.slice m n c) n (d.drop b)/\(∀k,(Value.slice m n c).ownBlock=some k->(Value.slice a (n+1) l).ownBlock=some k):=by
 rcases h.2 with ⟨r,p⟩|⟨g,o,z,i,r,p,s,D,E,F,A⟩
 . omega
 cases r;have C:(1:Int)<=(n:Int)+1:=by omega
 have y:(d.drop b).length=n*b:=by rw[List.length_drop,h.1,Nat.add_mul];omega
 by_cases u:l=1
 . subst u;have B:n=0:=by omega
   subst B;refine⟨some (xD g o),0,λW=>by simp[Instr.slice,Instr.sliceBounds,Instr.sliceBound,run_underlying x,j,asIntOf],⟨y,ap ⟨g,o,0,i,rfl,p,s,by omega,by omega,by omega,?_⟩⟩,λk q=>q⟩;have:(d.drop b).length=0:=by omega
   rw[List.eq_nil_of_length_eq_zero this];simp
 refine⟨some (xD g (o+b)),l-1,λW=>by simp[Instr.slice,Instr.sliceBounds,Instr.sliceBound,run_underlying x,j,asIntOf,u,Addr.add_lit,C],⟨y,ap ⟨g,o+b,l-1,i,rfl,p,s,by omega,by omega,?_,?_⟩⟩,λk q=>q⟩
 . have:(l-1)*b+b=l*b:=by rw[<- Nat.succ_mul,show (l-1).succ=l by omega]
   omega
 rw[<- A,List.drop_take,List.drop_drop];congr 1;rw[Nat.add_mul];omega
section
variable {P:Program} (w:Xw)
theorem VH (t F e:Xy)(i:TypeInfo)(E:P.underlying t=some (.slice e))(C:P.info? e=some i)
 (g o k q:Nat) (p:Xa) (B:xH w g p e)
 (a:Addr) (m c:Nat) (h:Xm) (D:h.length=m*i.size) (r:∀j u,h[j]?=some u->w.cell? (a.add j)=some u) (z:∀u∈h,u.oneCell'=true)
 (s:k+m<=q) (x:o+k*i.size+h.length<=p.size) :
 (Builtin.append_ #[t,t] F #[.slice (some (xD g o)) k q,.slice (some a) m c]).run P w =
   .ok (.slice (some (xD g o)) (k+m) q) (w.setRow g (p.toList.take (o+k*i.size)++h++p.toList.drop (o+k*i.size+h.length)).toArray):=by
 have A:=run_firstCells_some (P:=P) w i.size m a m c h D r;have y:=run_storeCells_at P g (o+k*i.size) e h 0 p w B (by simpa using x) z;simp only[Nat.add_zero] at y;simp[Builtin.append_,run_underlying E,sizeOf,typeInfo,C,Builtin.lenOf,s,A,Addr.add_lit,y]
theorem Wp (f:Nat)(t T e:Xy)(i:TypeInfo)(z:Xv)(b bytes:Nat)(Z:P.underlying t=some (.slice e))(X:P.info? e=some i)(hz:i.zero=some z)
 (s:i.size=b) (K:i.bytes=bytes) (R:z.cells.size=b) (Q:0<b)
 (v:Xv) (n:Nat) (d:Xm) (p:Ni w f e b v n d)
 (a:Addr) (m c:Nat) (h:Xm) (M:h.length=m*b) (q:∀j u,h[j]?=some u->w.cell? (a.add j)=some u) (h1:∀u∈h,u.oneCell'=true)
 (J:n+m<=maxLen) (x:(n+m)*bytes<=140737488355328) (B:f<=w.heap.size) :
 ∃H I,(Builtin.append_ #[t,t] T #[v,.slice (some a) m c]).run P w=.ok H I/\Ni I f e b H (n+m) (d++h)/\w.grownBy I v.ownBlock /\
  ∀k,H.ownBlock=some k->v.ownBlock=some k∨w.heap.size<=k:=by
 rcases p.2 with ⟨rfl,rfl⟩|⟨g,o,A,y,rfl,V,hg,aV,W,aA,G⟩
 . have hx:d=[]:=List.eq_nil_of_length_eq_zero (by simpa using p.1);subst hx;obtain⟨H,I,O,S,D,h4⟩:=G6 (P:=P) w f t T e i z b bytes Z X hz s K R Q (.slice none 0 0) 0 [] (World.ownsRow_nil w f e b) a m c h M q h1 J x B;exact⟨H,I,O,SY S,D,h4⟩
 have C:(d++h).length=(n+m)*b:=by rw[aP,p.1,M,Nat.add_mul]
 by_cases r:n+m<=A
 . subst s;have N:(n+m)*i.size<=A*i.size:=Nat.mul_le_mul_right _ r;have L:o+n*i.size+h.length<=y.size:=by rw[M];rw[Nat.add_mul] at N;omega
   have O:=VH (P:=P) w t T e i Z X g o n A y hg a m c h M q h1 r L;refine⟨_,_,O,⟨C,ap ⟨g,o,A,_,rfl,V,setRow_heap w g y _ e _ hg,r,W,?_,?_⟩⟩,⟨rfl,rfl,rfl,by simp,λk _ E=>setRow_other w g k _ (λe=>E (by simp[Value.ownBlock,e]))⟩,λk E=>ao E⟩
   . simp only[List.size_toArray,aP,List.length_take,List.length_drop,Array.length_toList];omega
   have U:(y.toList.take (o+n*i.size)).drop o=d:=(by rw[List.drop_take,Nat.add_sub_cancel_left];exact G);have Y:o<=(y.toList.take (o+n*i.size)).length:=by rw[List.length_take,Array.length_toList];omega
   show (List.drop o (y.toList.take (o+n*i.size)++h++_)).take _=_;rw[bw,List.drop_append_of_le_length Y,U,<- bw,<- C];exact List.take_left
 have F:∀j u,d[j]?=some u->w.cell? (((xD g o):Addr).add j)=some u:=by intro j u aL;obtain⟨g',o',U,ar⟩:=P8 p aL;cases U;rw[Addr.add_lit];exact ar
 obtain⟨H,I,O,S,D⟩:=run_append_arg_grows (P:=P) w t T e i z b bytes Z X hz s K R Q (xD g o) n A d p.1 F a m c h M q (by omega) J x;exact⟨H,I,O,SY (zR S B),⟨D.os,D.tape,D.output,D.size,λk E _=>D.block k E (by simp)⟩,λk E=>ap (S.lt k E).1⟩
theorem SL {B:Array Oper}{o:Oper}{a:Act}{K:Act->World->Prop}{Q:Exit->Act->World->Prop}{E:Prop}
 (R:o.guard=none) (s x:Operand) (t:Xy) (U:o.op=.call { callee:=.builtin .append,args:=#[s,x],argTypes:=#[t,t] })
 (f:Nat) (e:Xy) (i:TypeInfo) (z:Xv) (b bytes:Nat) (X:P.underlying t=some (.slice e)) (S:P.info? e=some i) (hz:i.zero=some z)
 (y:i.size=b) (H:i.bytes=bytes) (J:z.cells.size=b) (I:0<b)
 (v:Xv) (n:Nat) (d:Xm) (W:a.eval s=v) (A:Ni w f e b v n d)
 (F:Addr) (m c:Nat) (g:Xm) (Z:a.eval x=.slice (some F) m c) (T:g.length=m*b) (r:∀j u,g[j]?=some u->w.cell? (F.add j)=some u) (L:∀u∈g,u.oneCell'=true)
 (G:n+m<=maxLen) (p:(n+m)*bytes<=140737488355328) (q:f<=w.heap.size)
 (h:∀C D,Ni D f e b C (n+m) (d++g)->w.grownBy D v.ownBlock->(∀k,C.ownBlock=some k->v.ownBlock=some k∨w.heap.size<=k)->K (a.put o.dst C) D) :
 if Region.wanted o (yielded B a.tmps)=true then Oper.wp P o a w K Q else E:=by
 have Y:Region.wanted o (yielded B a.tmps)=true:=by simp[Region.wanted,R]
 rw[ag Y];obtain⟨C,D,V,M,N,O⟩:=Wp (P:=P) w f t o.type e i z b bytes X S hz y H J I v n d A F m c g T r L G p q;unfold Oper.wp execOp;simp only[U,resolve,invoke,builtin,Sem.run_bind,Sem.run_pure,Result.andThen_ok,List.map_toArray,List.map_cons,List.map_nil,W,Z,V];exact h C D M N O
end
end
section
variable {K:Cd} {B N n j a b g:Nat} {X:Obj} {c:Sc} {o m p d:Xv} {w w' f:Xw}
attribute [local go_sem ↓] Go.wp_at_zero Go.wp_at_succ
theorem Tryz.Ue:(prog.info? 170).map (λi=>(i.zero,i.size,i.bytes))=some (some (.agg #[xI 0,.pointer none,xI 0,xI 0]),4,32):=by kernel_rfl
def Cd.cell (K:Cd)(x:Int):Cd:={ K with cells:=K.cells++[x] }
theorem Wt (l:List Int)(x:Int):zK (l++[x])=zK l++[xI x]:=by simp[zK]
theorem KI.Re {D r E:Xv}{x:Int}(h:KI B g a D r E K w)(hF:Fr (λk=>r.ownBlock=some k) (w.alloc X) f)
 (y:f.ownsRow B 2 1 d (K.cells.length+1) (zK K.cells++[xI x])) (i:∀k,d.ownBlock=some k->r.ownBlock=some k∨w.heap.size+1<=k) :
 KW B g a (K.cell x) (f.setCell (xD a 3) d)/\FT (KT a) w (f.setCell (xD a 3) d):=by
 have J:=h.hB;have z:=h.MF;have u:=h.MC;have I:(w.alloc X).heap.size=w.heap.size+1:=by simp
 have H:=hF.size;have G:∀k,k<w.heap.size->¬r.ownBlock=some k->f.heap[k]?=w.heap[k]?:=λk q C=>(hF.block k (by omega) C).trans (mm _ _ _ q);have l:∀k,k<w.heap.size->¬k=a->¬r.ownBlock=some k->(f.setCell (xD a 3) d).heap[k]?=w.heap[k]?:=λk q A t=>zr A (G k q t);have v:∀k,k<B->¬r.ownBlock=some k:=λk q e=>by have:=(h.hQ.lt _ e).1;omega
 have F:KI B g a D d E (K.cell x) (f.setCell (xD a 3) d):=by
  refine⟨(l g (by omega) h.dk (v g z)).trans h.wr,?_,zi h.xv (λk A t e=>l k t (by omega) (h.d1 k e).1),?_,zi h.zA (λk A t e=>l k t (by omega) (λs=>h.d2 k s e)),z,u,h.dk,λk e=>⟨λs=>?_,(h.d1 k e).2⟩,λk e s=>?_,?_⟩
  . exact zh _ _ _ _ ((G a (by omega) (v a u)).trans h.aC)
  . have:=zi y (w':=f.setCell (xD a 3) d) (λk A t _=>zr (by omega) rfl);rw[<- Wt] at this
    show World.ownsRow _ B 2 1 d (K.cells++[x]).length _;rw[aP];exact this
  . rcases i k s with e2|e2
    . exact (h.d1 k e).1 e2
    have:=(h.xv.lt _ e).2;omega
  . rcases i k e with e2|e2
    . exact h.d2 k e2 s
    have:=(h.zA.lt _ s).2;omega
  have:(f.setCell (xD a 3) d).heap.size=f.heap.size:=by simp
  omega
 refine⟨⟨D,d,E,F⟩,⟨hF.os,hF.tape,hF.output,?_,λk q C=>?_⟩,λk q=>?_⟩
 . have:(f.setCell (xD a 3) d).heap.size=f.heap.size:=by simp
   omega
 . exact l k q (λe=>C ((h.kt k).2 (ao e))) (λe=>C ((h.kt k).2 (ap (ap (ao e)))))
 rcases (F.kt k).1 q with e|e|e|e
 . exact ao ((h.kt k).2 (ao e))
 . exact ao ((h.kt k).2 (ap (ao e)))
 . rcases i k e with e2|e2
   . exact ao ((h.kt k).2 (ap (ap (ao e2))))
   exact ap (by omega)
 exact ao ((h.kt k).2 (ap (ap (ap e))))
structure Lt where
 cell:Nat
 next:Tm
 clock:Nat×Nat
def OK (w:Xw)(N:Nat):List Lt->List Value->Prop
 | [],e=>e=[]
 | l::i,e=>∃v h,e=(xI (l.cell:Int))::v::(xI (l.clock.1:Nat))::(xI (l.clock.2:Nat))::h/\TT w N l.next v/\OK w N i h
theorem OK.am (s:bV N w w'):∀{e:List Lt} {i:Xm},OK w N e i->OK w' N e i:=by
 intro e;induction e with
 | nil=>intro i h;exact h
 | cons l e t => rintro i ⟨v,u,k,q,r⟩;exact⟨v,u,k,q.am s,t r⟩
theorem OK.snoc (l:Lt)(v:Xv)(s:TT w N l.next v):∀{e:List Lt} {i:Xm},OK w N e i->OK w N (e++[l]) (i++[xI (l.cell:Int),v,xI (l.clock.1:Nat),xI (l.clock.2:Nat)]):=by
 intro e;induction e with
 | nil=>intro i h;cases h;exact⟨v,[],rfl,s,rfl⟩
 | cons u e t => rintro i ⟨d,x,k,q,r⟩;subst k;exact⟨d,_,rfl,q,t r⟩
def CT (a b:Nat)(w:Xw)(k:Nat):Prop:=KT a w k∨k=b∨Pm w b 4 k
structure WL (N B g a b j n:Nat) (c:Sc) (o p m:Xv) (K:Cd) (ls:List Lt) (w:Xw):Prop where
 wi:WI N B g a b j n c o p m K w
 row:∃xs,Ni w B 170 4 m ls.length xs/\OK w N ls xs
 dl:∀k,m.ownBlock=some k->¬KT a w k/\¬k=b/\¬k=j
 dq:¬b=j
 dw:¬b=g
 NO:N<=b
theorem WL.ct {r:List Lt}(h:WL N B g a b j n c o p m K r w)(k:Nat):CT a b w k↔KT a w k∨k=b∨m.ownBlock=some k:=by
 obtain⟨s,t,u,x,l,y,z⟩:=bz h.wi.qi.aC;unfold CT;constructor
 . rintro (e|e|⟨v,i,q⟩)
   . exact ao e
   . exact ap (ao e)
   rw[l] at i;cases i;exact ap (ap q)
 rintro (e|e|e)
 . exact ao e
 . exact ap (ao e)
 exact ap (ap ⟨_,l,e⟩)
theorem WL.aq {l:List Lt}(h:WL N B g a b j n c o p m K l w)(i:xB w w'):WL N B g a b j n c o p m K l w':=by obtain⟨u,r,s⟩:=h.row;exact⟨h.wi.aq i,⟨u,O4 r (λk _ t _=>i.block k t),s.am (zm i h.wi.qi.hN)⟩,λk e=>⟨λq=>(h.dl k e).1 (h.wi.kw.tk i _ q),(h.dl k e).2⟩,h.dq,h.dw,h.NO⟩
theorem WL.tk {q:List Lt}(h:WL N B g a b j n c o p m K q w)(i:xB w w'):∀k,CT a b w' k->CT a b w k:=by
 intro k l;rcases ((h.aq i).ct k).1 l with e|e|e
 . exact (h.ct k).2 (ao (h.wi.kw.tk i _ e))
 . exact (h.ct k).2 (ap (ao e))
 exact (h.ct k).2 (ap (ap e))
theorem WL.lt {r:List Lt}(h:WL N B g a b j n c o p m K r w):∀k,CT a b w k->N<=k/\k<w.heap.size/\¬k=j:=by
 intro k q;obtain⟨u,l,_⟩:=h.row;have s:=h.wi.kw.kb;have t:=h.wi.NN;rcases (h.ct k).1 q with e|e|e
 . exact⟨h.wi.Pe k e,h.wi.kw.lt k e,λi=>h.wi.nc (i▸e)⟩
 . subst e;exact⟨h.NO,ze h.wi.qi.aC,h.dq⟩
 have:=l.lt k e;exact⟨by omega,this.2,(h.dl k e).2.2⟩
theorem WL.N6 {q:Cd}{r:List Lt}(h:WL N B g a b j n c o p m K r w)(l:KW B g a q w')(i:FT (KT a) w w'):WL N B g a b j n c o p m q r w'/\FT (CT a b) w w':=by
 obtain⟨v,s,u⟩:=h.row;have t:WL N B g a b j n c o p m q r w':=⟨h.wi.ft l i,⟨v,O4 s (λk _ l e=>i.fr.block k l (h.dl k e).1),u.am (i.am h.wi.qi.hN h.wi.Pe)⟩,λk e=>⟨i.not (s.lt k e).2 (h.dl k e).1,(h.dl k e).2⟩,h.dq,h.dw,h.NO⟩;refine⟨t,i.fr.mono (λk _ e=>ao e),λk l=>?_⟩;rcases (t.ct k).1 l with e|e|e
 . exact (i.tk k e).imp (λe=>ao e) id
 . exact ao (ap (ao e))
 exact ao ((h.ct k).2 (ap (ap e)))
theorem WL.put {F:List Lt}(l:Lt)(v:Xv)(h:WL N B g a b j n c o p m K F w)(hv:TT w N l.next v)(hF:Fr (λk=>m.ownBlock=some k) (w.alloc X) f)(O:Xm)(M:OK w N F O)
 (D:Ni f B 170 4 d (F.length+1) (O++[xI (l.cell:Int),v,xI (l.clock.1:Nat),xI (l.clock.2:Nat)])) (u:∀k,d.ownBlock=some k->m.ownBlock=some k∨w.heap.size+1<=k) :
 WL N B g a b j n c o p d K (F++[l]) (f.setCell (xD b 4) d)/\FT (CT a b) w (f.setCell (xD b 4) d):=by
 obtain⟨_,V,_⟩:=h.row;have aL:(w.alloc X).heap.size=w.heap.size+1:=by simp
 have aA:=hF.size;have ar:(f.setCell (xD b 4) d).heap.size=f.heap.size:=by simp
 have H:∀k,k<w.heap.size->¬m.ownBlock=some k->f.heap[k]?=w.heap[k]?:=λk q G=>(hF.block k (by omega) G).trans (mm _ _ _ q);have s:∀k,k<w.heap.size->¬k=b->¬m.ownBlock=some k->(f.setCell (xD b 4) d).heap[k]?=w.heap[k]?:=λk q R S=>zr R (H k q S);have y:∀k,KT a w k->¬k=b/\¬m.ownBlock=some k:=λk e=>⟨λx=>h.wi.nq (x▸e),λx=>(h.dl k x).1 e⟩;obtain⟨P,Q,W,i⟩:=h.wi.kw;have L:=ze h.wi.qi.aC;have Y:=i.MC;have Z:=i.MF;have z:=y a ((i.kt a).2 (ao rfl));have E:¬m.ownBlock=some g:=λe=>by have:=(V.lt g e).1;omega
 have t:∀k,k<w.heap.size->KT a w k->f.heap[k]?=w.heap[k]?/\(f.setCell (xD b 4) d).heap[k]?=w.heap[k]?:=λk q e=>⟨H k q (y k e).2,s k q (y k e).1 (y k e).2⟩;have J:(f.setCell (xD b 4) d).heap[g]?=w.heap[g]?:=s g (by have:=i.hB;omega) (λe=>h.dw e.symm) E;have T:bV N w (f.setCell (xD b 4) d):=λk q=>s k (dD q h.wi.qi.hN) (by have:=h.NO;omega) (λe=>by have:=(V.lt k e).1;have:=h.wi.NN;omega)
 have C:KI B g a P Q W K (f.setCell (xD b 4) d) :=
  ⟨J.trans i.wr,(s a (by have:=i.hB;omega) z.1 z.2).trans i.aC,zi i.xv (λk _ q e=>(t k q ((i.kt k).2 (ap (ao e)))).2),zi i.hQ (λk _ q e=>(t k q ((i.kt k).2 (ap (ap (ao e))))).2),zi i.zA (λk _ q e=>(t k q ((i.kt k).2 (ap (ap (ap e))))).2),i.MF,i.MC,i.dk,i.d1,i.d2,by have:=i.hB;omega⟩
 have r:∀k,KT a (f.setCell (xD b 4) d) k↔KT a w k:=λk=>(C.kt k).trans (i.kt k).symm;have I:(f.setCell (xD b 4) d).heap[j]?=w.heap[j]?:=s j h.wi.qi.ck.lt (λe=>h.dq e.symm) (λe=>(h.dl j e).2.2 rfl);have A:¬m.ownBlock=some b:=λe=>(h.dl b e).2.1 rfl;have U:WL N B g a b j n c o p d K (F++[l]) (f.setCell (xD b 4) d):=by
  refine⟨⟨⟨P,Q,W,C⟩,⟨zh _ _ _ _ ((H b L A).trans h.wi.qi.aC),h.wi.qi.sc.am T,h.wi.qi.ck.gh I,by have:=h.wi.qi.hN;omega⟩,λe=>h.wi.nq ((r b).1 e),λe=>h.wi.nc ((r j).1 e),h.wi.NN⟩,⟨O++[xI (l.cell:Int),v,xI (l.clock.1:Nat),xI (l.clock.2:Nat)],?_,(M.snoc l v hv).am T⟩,λk e=>?_,h.dq,h.dw,h.NO⟩
  . rw[aP];refine O4 D (λk R S e=>zr (λx=>?_) rfl);subst x;rcases u _ e with e2|e2
    . exact A e2
    omega
  rcases u k e with e2|e2
  . exact⟨λx=>(h.dl k e2).1 ((r k).1 x),(h.dl k e2).2⟩
  exact⟨λx=>by have:=h.wi.kw.lt k ((r k).1 x);omega,by omega,by have:=h.wi.qi.ck.lt;omega⟩
 refine⟨U,⟨hF.os,hF.tape,hF.output,by omega,λk q G=>?_⟩,λk q=>?_⟩
 . exact s k q (λe=>G ((h.ct k).2 (ap (ao e)))) (λe=>G ((h.ct k).2 (ap (ap e))))
 rcases (U.ct k).1 q with e|e|e
 . exact ao ((h.ct k).2 (ao ((r k).1 e)))
 . exact ao ((h.ct k).2 (ap (ao e)))
 rcases u k e with e2|e2
 . exact ao ((h.ct k).2 (ap (ap e2)))
 exact ap (by omega)
end
end Go.Proofs.YtcnelakggnfnhaaGreatDoor
