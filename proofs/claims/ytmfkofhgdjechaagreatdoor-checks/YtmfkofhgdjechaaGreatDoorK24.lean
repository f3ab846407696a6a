/- Part 25 of the proof. -/
import Derived.Test.YtmfkofhgdjechaaGreatDoorK23
set_option maxRecDepth 100000
set_option maxHeartbeats 8000000
namespace Go.Proofs.YtmfkofhgdjechaaGreatDoor
open Go.Proofs.Tryz
open Go.RowKit
section
variable {n:ay}
attribute [local go_sem ↓] Go.wp_at_zero Go.wp_at_succ
theorem H2 {α β γ:Type}(f:γ->β->γ)(g:α->List β):∀(l:List α) (s:γ),(l.flatMap g).foldl f s=l.foldl (λs a=>(g a).foldl f s) s:=by
 intro l;induction l with
 | nil=>intro s;rfl
 | cons a l b=>intro s;rw[List.flatMap_cons,bc,List.foldl_cons,b]
theorem Jz:∀(l:Xn) (s:Nat),l.foldl (·+·) s=s+iK l:=by
 intro l;induction l with
 | nil=>intro s;rfl
 | cons a l b=>intro s;unfold iK;rw[List.foldl_cons,List.foldl_cons,b,b (0+a)];omega
theorem IV (m:List (ByteArray×Nat))(b:∀s,fa s m<=61):∀(l:List Tm) (s:Nat),s+62*l.length<=4611686018427387904->l.foldl (hX m) (s:Int)=((s+iK (l.map (fE m)):Nat):Int):=by
 intro l;induction l with
 | nil=>intro s _;rfl
 | cons t l d =>
   intro s c;rw[bJ] at c;have e:fE m t<=62:=by
    unfold fE;have:=b t.s;split
    . omega
    split <;> omega
   have a:hX m (s:Int) t=((s+fE m t:Nat):Int):=by
    unfold hX;split
    . unfold wrap64;omega
    rename_i h
    unfold fE;rw[ae (by omega),ae (by omega)];rfl
   rw[List.foldl_cons,a,d _ (by omega),List.map_cons];unfold iK;rw[List.foldl_cons,Jz _ (0+fE m t)];unfold iK;omega
theorem JD (n:ay)(m:List (ByteArray×Nat)):hl n m<=61:=Nat.min_le_right _ _
theorem H9 {N:Nat}{g:Nat}{p j:Xv}{r:Xm}(b:Nat)(m:List (ByteArray×Nat))(o:∀s,fa s m<=61)(D:n.hf.length<=1000000)(w:Xw)(h:NT w N n g p j r)(l:gM w b m)(z:N<=w.heap.size) :
 xK 123 #[xP g,.map (some b)] w (λe F=>e=.returned (xI (hl n m:Nat))/\xB w F):=by
 have C:∀(fn:Go.Fn) (first d:Xa) (w:Xw),(Instr.makeFunc fn first d).run prog w=.ok (.func fn first d) w:=λ_ _ _ _=>rfl;have A:=l.lt;have f:=za (λa c (v:a=Obj.cells #[.map (some b)] 238 (0,0)) (x:c=Obj.cells #[xI 0] 3 (0,0))=>rD (IG N n (w.heap.size+1) w.heap.size b m o (by omega)) g p j r 0 ((w.alloc a).alloc c) (h.am (j8 z a c)) (by rw[au,au];omega) (λk e=>by subst e;rw[au,au];omega) ⟨by rw[(mh w a c).2,x],by rw[(mh w a c).1,v],l.aq (cT w a c),by omega,by omega⟩);have B:n.eqs.foldl (λs q=>(bh b8 q.r).foldl (λs t=>hX m s t) s) (0:Int)=((iK (n.hf.map (fE m)):Nat):Int):=by rw[<- H2 (hX m) (λq=>bh b8 q.r) n.eqs 0];have:=IV m o n.hf 0 (by omega);rw[Nat.zero_add] at this;exact this
 rw[B] at f;have i:aa (hl n m=min (iK (n.hf.map (fE m))) 61):=rfl;generalize iK (n.hf.map (fE m))=E at f i;go_enter func123,ntmps123;go_wp2_with (go_at_call 104;refine (f.o _ _ rfl rfl).mono ?_;rintro e J ⟨rfl,y,u⟩;obtain⟨G,H,I⟩:=zu y.x1);all_goals go_ret
 all_goals rw[i.o]
 all_goals refine⟨?_,jj (cT w _ _) u (by omega)⟩
 all_goals first|(refine congrArg Ending.returned ?_;refine congrArg (Value.int IntKind.i64) ?_;first|omega|(split <;> omega))|trace_state
theorem IP {b:List ay}{k:Nat}(h:b[k]?=some n)(m:List (ByteArray×Nat))(a:Nat):hr (b.drop k) m a=hr (b.drop (k+1)) ((n.nm,hl n m)::m) (hl n m):=by obtain⟨c,d⟩:=aB.1 h;rw[dE c,hr,d]
theorem K2:zH 59:=λ_ _=>by kernel_rfl
theorem Hg (S:Xs)(U r q G:Nat)(l c:Xv)(N:Nat)(b:List ay)(L:∀n∈b,n.hf.length<=1000000)(Z:Xv)(o:Xo)(w:Xw)(ak:cl S U r q G l c o w)(a2:PT w N b Z)(hN:N<=w.heap.size)(_l1:N<=r)(_l2:N<=q) :
 xK 59 #[Z,bT r q G] w (λe w'=>e=.returned (.tuple #[])/\cl S U r q G l c ((ih b).foldl aj o) w'/\Fr (RT r q) w w'):=by
 obtain⟨bs,bx,xs,rfl,a4,C,F⟩:=a2;obtain⟨b3,al,rfl⟩:=zB F.own;have be:=@run_makeMap prog;have Y:=F.bO;obtain⟨g0,bt,bE⟩:=zu C;unfold bT;go_enter func59,ntmps59;go_wp2_with fail;go_loopg [14,5] (b.length+1) (λj i x wr=>∃(k a:Nat) (m:List (ByteArray×Nat)),k+j=b.length+1/\k<=b.length/\i=xI k/\x=xI a/\a<=61/\aa (∀s,fa s m<=61)/\aa (hr b [] 0=hr (b.drop k) m a)/\aa (gM wr w.heap.size m)/\aa (xB w wr));case atStart=>exact⟨0,0,[],by omega,aE _,rfl,rfl,by omega,λs=>by simp[fa],rfl,⟨[],⟨#[],0,zc w _,rfl⟩,λs=>rfl⟩,zq w _⟩
 case round =>
  obtain⟨k,a,m,a5,bL,rfl,rfl,a9,W,E,V,p⟩:=hrel;have a0:=zm p.o hN;by_cases P:k<b.length
  . obtain⟨n,Q⟩:∃n,b[k]?=some n:=⟨_,av P⟩;have B:=F.am a0;obtain⟨v,hv,R⟩:=B.at' k n Q;obtain⟨g',rfl,O⟩:=nB B.own hv;obtain⟨nb,vs,qv,b4,rfl,D⟩:=R;have a3:=F.lo g' rfl;obtain⟨m0,m1,m2,m3,m4,m5,b0,bl⟩:=zt D.aC;have T:=p.o.size;have t:=za (H9 w.heap.size m W.o (L n (aM Q)) wr D V.o (by omega));have d:=za (IP Q m a);rw[<- E.o] at d;have g:=JD n m;have y:aa (∀s,fa s ((n.nm,hl n m)::m)<=61):=by
     intro s;rw[fa];split
     . exact g
     exact W.o s
    generalize hl n m=X at t d g y;go_wp2_with (go_at_call 123;refine t.o.mono ?_;rintro e b2 ⟨rfl,h⟩;obtain⟨bp,bk,I,M⟩:=KK (V.o.aq h) n.nm X;have b1:=zd h m0 bl;have H:=za (jj (p.o.trans (h.mono T)) M (an _)));go_roundg (gk-1);case measure=>omega
    exact⟨k+1,X,_,by omega,by omega,by go_num,rfl,g,y.o,d.o,I,H.o⟩
  have ar:k=b.length:=by omega
  subst ar;rw[List.drop_length,hr] at E;have u:=za (ak.aq p.o);by_cases z:60<a
  . have d:aa ((ih b).foldl aj o=aj o 0):=by unfold aa ih;rw[E.o,ag z];rfl
    have A:(60:Int)<(a:Int):=(by omega);have f:=za (eg S U r q G l c o 0 wr u.o);go_wp2_with (go_at_call 124;refine f.o.mono ?_;rintro e bp ⟨rfl,K,J⟩);first|go_end0|refine bodyPost_ret (results_none rfl _ _ _) rfl ?_
    rw[d.o];exact⟨rfl,K,(zy p.o).trans J⟩
  have d:aa ((ih b).foldl aj o=o):=by unfold aa ih;rw[E.o,ae z];rfl
  have A:¬(60:Int)<(a:Int):=by omega
  go_wp2_with fail;first|go_end0|refine bodyPost_ret (results_none rfl _ _ _) rfl ?_
  rw[d.o];exact⟨rfl,u.o,zy p.o⟩
end
section
variable {b:List ay} {N:Nat}
attribute [local go_sem ↓] Go.wp_at_zero Go.wp_at_succ
theorem Kf:zH 98:=λ_ _=>by kernel_rfl
theorem Hr:zH 54:=λ_ _=>by kernel_rfl
theorem H8:zH 55:=λ_ _=>by kernel_rfl
theorem HT:zH 56:=λ_ _=>by kernel_rfl
theorem GY:zH 57:=λ_ _=>by kernel_rfl
theorem Hj:zH 58:=λ_ _=>by kernel_rfl
theorem nF (S:Xs)(g:Nat)(nm:Xb)(f:FuncId)(s:zH f)(L:Sc->List Nat)(b:List ay)(i h:Nat)(t:Xy)(w:Xw)
 (n:∀c∈bB b,∀m l v k a,N<=m->N<=l->sp S g m l v k a N f L c) (p:PT w N b (xP i)) (o:N<=w.heap.size) (d:xH w h #[.func (.func f) #[] #[]] t) :
 xK 60 #[.agg #[.string nm,aW S g,.func (.func 98) #[] #[xP h]],xP i] w (λe x=>e=.returned (gI S g (zO ((bB b).flatMap L)))/\xB w x):=by
 have u:=ze d;refine yu S g nm 98 Kf #[xP h] i _ w (λW j q=>?_);exact J1 S g _ _ _ _ _ N f s L b (λc r=>n c r _ _ _ _ _ (by omega) (by omega)) _ h t none W q (p.am (zm j o)) (by have:=j.size;omega) (by omega) (by omega) ((j.block _ u).trans d) (by omega) (by omega)
theorem JO (S:Xs)(a:Nat)(nm:Xb)(b:List ay)(c:Nat)(w:Xw)(d:∀n∈b,n.hf.length<=1000000)(h:PT w N b (xP c))(g:N<=w.heap.size) :
 xK 60 #[.agg #[.string nm,aW S a,.func (.func 59) #[] #[]],xP c] w (λe j=>e=.returned (gI S a (zO (ih b)))/\xB w j):=by
 refine yu S a nm 59 K2 #[] c _ w (λW f i=>?_);exact Hg S a _ _ _ _ _ N b d _ none W i (h.am (zm f g)) (by have:=f.size;omega) (by omega) (by omega)
def pN:Nat->ByteArray
 | 4=>⟨#[110,97,109,101,115]⟩
 | 5=>⟨#[116,121,112,101,115]⟩
 | 6=>⟨#[99,108,111,99,107,115]⟩
 | 7=>⟨#[100,101,102,105,110,105,116,105,111,110,115]⟩
 | 8=>⟨#[99,97,117,115,101,115]⟩
 | 9=>⟨#[109,101,109,111,114,121]⟩
 | _=>⟨#[]⟩
def sv (S:Xs):Option (Nat×Nat)->Value
 | none=>.nilIface
 | some (a,p)=>ew (pN a) (gI S a (some p))
def lp (b:List ay):Nat->List Nat
 | 0=>(bB b).flatMap Sc.cG
 | 1=>(bB b).flatMap Sc.eP
 | 2=>(bB b).flatMap Sc.e4
 | 3=>(bB b).flatMap Sc.fy
 | 4=>(bB b).flatMap Sc.gb
 | 5=>ih b
 | _=>[]
theorem Lf (h:∀n∈b,gP n)(g:b.length<=6):∀c∈bB b,eU c:=by
 intro c e;unfold bB at e;obtain⟨i,j,a⟩:=List.mem_filterMap.1 e;cases d:b[i]? with
 | none=>rw[d] at a;cases a
 | some n => rw[d] at a;cases a;refine⟨λm f=>h m (List.mem_of_mem_take f),h n (aM d),?_⟩;rw[List.length_take];omega
structure mN (S:Xs) (N:Nat) (b:List ay) (gb:Nat) (w W:Xw):Prop where
 pt:PT W N b (xP gb)
 row:W.heap[w.heap.size+1+1+1+1+1]?=some (.cells #[.string ⟨#[110,97,109,101,115]⟩,aW S 4,.func (.func 98) #[] #[xP w.heap.size],.string ⟨#[116,121,112,101,115]⟩,aW S 5,.func (.func 98) #[] #[xP (w.heap.size+1)],.string ⟨#[99,108,111,99,107,115]⟩,aW S 6,.func (.func 98) #[] #[xP (w.heap.size+1+1)],.string ⟨#[100,101,102,105,110,105,116,105,111,110,115]⟩,aW S 7,.func (.func 98) #[] #[xP (w.heap.size+1+1+1)],.string ⟨#[99,97,117,115,101,115]⟩,aW S 8,.func (.func 98) #[] #[xP (w.heap.size+1+1+1+1)],.string ⟨#[109,101,109,111,114,121]⟩,aW S 9,.func (.func 59) #[] #[]] 117 (0,0))
 b0:∃t,W.heap[w.heap.size]?=some (.cells #[.func (.func 54) #[] #[]] t (0,0))
 b1:∃t,W.heap[w.heap.size+1]?=some (.cells #[.func (.func 55) #[] #[]] t (0,0))
 b2:∃t,W.heap[w.heap.size+1+1]?=some (.cells #[.func (.func 56) #[] #[]] t (0,0))
 b3:∃t,W.heap[w.heap.size+1+1+1]?=some (.cells #[.func (.func 57) #[] #[]] t (0,0))
 b4:∃t,W.heap[w.heap.size+1+1+1+1]?=some (.cells #[.func (.func 58) #[] #[]] t (0,0))
 aH:xB w W
theorem mN.aq {S:Xs}{e:Nat}{w W d:Xw}(h:mN S N b e w W)(f:N<=w.heap.size)(c:xB W d):mN S N b e w d where
 pt:=h.pt.am (zm c (aJ f h.aH.size))
 row:=(c.block _ (ze h.row)).trans h.row
 b0:=by obtain⟨t,a⟩:=h.b0;exact⟨t,(c.block _ (ze a)).trans a⟩
 b1:=by obtain⟨t,a⟩:=h.b1;exact⟨t,(c.block _ (ze a)).trans a⟩
 b2:=by obtain⟨t,a⟩:=h.b2;exact⟨t,(c.block _ (ze a)).trans a⟩
 b3:=by obtain⟨t,a⟩:=h.b3;exact⟨t,(c.block _ (ze a)).trans a⟩
 b4:=by obtain⟨t,a⟩:=h.b4;exact⟨t,(c.block _ (ze a)).trans a⟩
 aH:=h.aH.trans (c.mono h.aH.size)
theorem yN (w:Xw)(a c d e f g:Obj):xB w ((((((w.alloc a).alloc c).alloc d).alloc e).alloc f).alloc g):=pk (mg _ _ _ _)
theorem lL (w:Xw)(a c d e f g:Obj) :
 let W:=(((((w.alloc a).alloc c).alloc d).alloc e).alloc f).alloc g
 W.heap[w.heap.size]?=some a/\W.heap[w.heap.size+1]?=some c/\W.heap[w.heap.size+1+1]?=some d/\W.heap[w.heap.size+1+1+1]?=some e/\W.heap[w.heap.size+1+1+1+1]?=some f/\W.heap[w.heap.size+1+1+1+1+1]?=some g:=by
 have h (w:Xw) (o:Obj) (k:Nat):(w.alloc o).heap[k]?=if k=w.heap.size then some o else w.heap[k]?:=by show (w.heap.push o)[k]?=_;rw[Array.getElem?_push]
 intro W;refine⟨?_,?_,?_,?_,?_,?_⟩;all_goals simp only[W,h,au]
 all_goals repeat (first|rw[ag trivial]|rw[ag rfl]|rw[ae (by omega)])
theorem nG {L:Sc->List Nat}(h:zO ((bB b).flatMap L)=none):∀c∈bB b,L c=[]:=by intro c a;have:=yz h;rw[List.flatMap_eq_nil_iff] at this;exact this c a
theorem HF (S:Xs)(N:Nat)(b:List ay)(hw:∀n∈b,gP n)(a4:∀n∈b,n.hf.length<=1000000)(J:Nat)(w:Xw)(Y:Gl S w)(be:PT w N b (xP J))(v:N<=w.heap.size) :
 xK 27 #[xP J] w (λe X=>e=.returned (sv S (dh b))/\xB w X):=by
 have h6:b.length<=6:=by obtain⟨_,_,_,_,_,_,h⟩:=be;exact h.bO
 have y:=Lf hw h6;have g0:=Y.name;have g1:=Y.type;have g2:=Y.clock;have g3:=Y.define;have g4:=Y.kn;have g5:=Y.k3;have bs:=Y.size;clear Y hw h6;have bE:∀(a:Addr) (m:Mode) (fn:Go.Fn) (first ar:Xa) (w:Xw),(store a (.func fn first ar) m).run prog w=stored prog w a (.func fn first ar) m:=λa m _ _ _ w=>run_store prog w a _ m rfl;unfold aW at *;go_enter func27,ntmps27;go_upto_region 1 with fail
 go_region_held3 (λX=>X.cell? (xD 1 0)=some (.iface 399 (.pointer (some (S 4))))/\X.cell? (xD 2 0)=some (.iface 399 (.pointer (some (S 5))))/\X.cell? (xD 3 0)=some (.iface 399 (.pointer (some (S 6))))/\X.cell? (xD 4 0)=some (.iface 399 (.pointer (some (S 7))))/\X.cell? (xD 5 0)=some (.iface 399 (.pointer (some (S 8))))/\X.cell? (xD 6 0)=some (.iface 399 (.pointer (some (S 9)))))
  (first|(with_reducible (refine⟨?_,?_,?_,?_,?_,?_⟩ <;> repeat (first|assumption|refine zg ?_|refine zj _ ?_|refine zk (by omega) ?_)))|go_keep)
  (first|(go_at_call 53;refine (Hz _ _).mono ?_;rintro e X ⟨rfl,t,rfl⟩))
 go_upto_region 2 with fail;refine zn (λW=>mN S N b J w W) ⟨be.am (zm (zo (yN w _ _ _ _ _ _)) v),(lL w _ _ _ _ _ _).2.2.2.2.2,⟨_,(lL w _ _ _ _ _ _).1⟩,⟨_,(lL w _ _ _ _ _ _).2.1⟩,⟨_,(lL w _ _ _ _ _ _).2.2.1⟩,⟨_,(lL w _ _ _ _ _ _).2.2.2.1⟩,⟨_,(lL w _ _ _ _ _ _).2.2.2.2.1⟩,zo (yN w _ _ _ _ _ _)⟩ ?_;intro W bl;have bk:=za bl;clear bl g0 g1 g2 g3 g4 g5;go_wp2_with fail;go_loopg [27] 7 (λj i wr=>∃k:Nat,k+j=7/\k<=6/\i=xI k/\aa (mN S N b J w wr)/\aa (∀j,j<k->zO (lp b j)=none));case atStart=>exact⟨0,by omega,by omega,rfl,bk.o,λj al=>by omega⟩
 case round =>
  clear bk;obtain⟨k,bt,b0,rfl,g,s⟩:=hrel;have a9:=g.o.aH.size;have a5:k=0∨k=1∨k=2∨k=3∨k=4∨k=5∨k=6:=by omega
  rcases a5 with rfl|rfl|rfl|rfl|rfl|rfl|rfl;have c0:wr.cell? (xD (w.heap.size+1+1+1+1+1) 0)=some (.string ⟨#[110,97,109,101,115]⟩):=by simp[World.cell?,g.o.row,aW]
  have c1:wr.cell? (xD (w.heap.size+1+1+1+1+1) 1)=some (.iface 399 (.pointer (some (S 4)))):=by simp[World.cell?,g.o.row,aW]
  have c2:wr.cell? (xD (w.heap.size+1+1+1+1+1) 2)=some (.func (.func 98) #[] #[xP w.heap.size]):=by simp[World.cell?,g.o.row,aW]
  have d:=g.o.aq v (zq wr (.cells #[.string ⟨#[110,97,109,101,115]⟩,aW S 4,.func (.func 98) #[] #[xP w.heap.size]] 117));obtain⟨V,r⟩:=d.b0;have C:=za (nF S 4 ⟨#[110,97,109,101,115]⟩ 54 Hr Sc.cG b J (w.heap.size) V (wr.alloc (.cells #[.string ⟨#[110,97,109,101,115]⟩,aW S 4,.func (.func 98) #[] #[xP w.heap.size]] 117)) (λc u Q K T A o O P L R U W M h v=>Hl S 4 Q K T A o N c (y c u).bO (λq bx=>((y c u).nd.eqs q bx).1) L R U W M h v O P) d.pt (aJ v d.aH.size) r);clear r d;have G:=ze g.o.row;obtain⟨l,f⟩:∃l,zO ((bB b).flatMap Sc.cG)=l:=⟨_,rfl⟩;rw[f] at C;have B:aa (l=none->∀j,j<1->zO (lp b j)=none):=by
   intro e j al;by_cases F:j=0
   . subst F;exact f.trans e
   exact s.o j (by omega)
  have I:aa (∀p,l=some p->dh b=some (4,p)):=by intro p e;rw[e] at f;unfold dh;rw[f]
  clear f;rotate_left;have z:zO ((bB b).flatMap Sc.cG)=none:=s.o 0 (by omega);have c0:wr.cell? (xD (w.heap.size+1+1+1+1+1) 3)=some (.string ⟨#[116,121,112,101,115]⟩):=by simp[World.cell?,g.o.row,aW]
  have c1:wr.cell? (xD (w.heap.size+1+1+1+1+1) 4)=some (.iface 399 (.pointer (some (S 5)))):=by simp[World.cell?,g.o.row,aW]
  have c2:wr.cell? (xD (w.heap.size+1+1+1+1+1) 5)=some (.func (.func 98) #[] #[xP (w.heap.size+1)]):=by simp[World.cell?,g.o.row,aW]
  have x:aa (∀c∈bB b,ka c):=λc u=>ms (y c u) (nG z c u);have d:=g.o.aq v (zq wr (.cells #[.string ⟨#[116,121,112,101,115]⟩,aW S 5,.func (.func 98) #[] #[xP (w.heap.size+1)]] 117));obtain⟨V,r⟩:=d.b1;have C:=za (nF S 5 ⟨#[116,121,112,101,115]⟩ 55 H8 Sc.eP b J (w.heap.size+1) V (wr.alloc (.cells #[.string ⟨#[116,121,112,101,115]⟩,aW S 5,.func (.func 98) #[] #[xP (w.heap.size+1)]] 117)) (λc u Q K T A o O P L R U W M h v=>HB S 5 Q K T A o N c (y c u) (x.o c u) L R U W M h v O P) d.pt (aJ v d.aH.size) r);clear r d;have G:=ze g.o.row;obtain⟨l,f⟩:∃l,zO ((bB b).flatMap Sc.eP)=l:=⟨_,rfl⟩;rw[f] at C;have B:aa (l=none->∀j,j<2->zO (lp b j)=none):=by
   intro e j al;by_cases F:j=1
   . subst F;exact f.trans e
   exact s.o j (by omega)
  have I:aa (∀p,l=some p->dh b=some (5,p)):=by intro p e;rw[e] at f;unfold dh;rw[z,f]
  clear f z x;rotate_left;have z:zO ((bB b).flatMap Sc.cG)=none:=s.o 0 (by omega);have D:zO ((bB b).flatMap Sc.eP)=none:=s.o 1 (by omega);have c0:wr.cell? (xD (w.heap.size+1+1+1+1+1) 6)=some (.string ⟨#[99,108,111,99,107,115]⟩):=by simp[World.cell?,g.o.row,aW]
  have c1:wr.cell? (xD (w.heap.size+1+1+1+1+1) 7)=some (.iface 399 (.pointer (some (S 6)))):=by simp[World.cell?,g.o.row,aW]
  have c2:wr.cell? (xD (w.heap.size+1+1+1+1+1) 8)=some (.func (.func 98) #[] #[xP (w.heap.size+1+1)]):=by simp[World.cell?,g.o.row,aW]
  have x:aa (∀c∈bB b,ka c):=λc u=>ms (y c u) (nG z c u);have d:=g.o.aq v (zq wr (.cells #[.string ⟨#[99,108,111,99,107,115]⟩,aW S 6,.func (.func 98) #[] #[xP (w.heap.size+1+1)]] 117));obtain⟨V,r⟩:=d.b2;have C:=za (nF S 6 ⟨#[99,108,111,99,107,115]⟩ 56 HT Sc.e4 b J (w.heap.size+1+1) V (wr.alloc (.cells #[.string ⟨#[99,108,111,99,107,115]⟩,aW S 6,.func (.func 98) #[] #[xP (w.heap.size+1+1)]] 117)) (λc u Q K T A o O P L R U W M h v=>Hn S 6 Q K T A o N c (y c u) L R U W M h v O P) d.pt (aJ v d.aH.size) r);clear r d;have G:=ze g.o.row;obtain⟨l,f⟩:∃l,zO ((bB b).flatMap Sc.e4)=l:=⟨_,rfl⟩;rw[f] at C;have B:aa (l=none->∀j,j<3->zO (lp b j)=none):=by
   intro e j al;by_cases F:j=2
   . subst F;exact f.trans e
   exact s.o j (by omega)
  have I:aa (∀p,l=some p->dh b=some (6,p)):=by intro p e;rw[e] at f;unfold dh;rw[z,D,f]
  clear f z D x;rotate_left;have z:zO ((bB b).flatMap Sc.cG)=none:=s.o 0 (by omega);have D:zO ((bB b).flatMap Sc.eP)=none:=s.o 1 (by omega);have H:zO ((bB b).flatMap Sc.e4)=none:=s.o 2 (by omega);have c0:wr.cell? (xD (w.heap.size+1+1+1+1+1) 9)=some (.string ⟨#[100,101,102,105,110,105,116,105,111,110,115]⟩):=by simp[World.cell?,g.o.row,aW]
  have c1:wr.cell? (xD (w.heap.size+1+1+1+1+1) 10)=some (.iface 399 (.pointer (some (S 7)))):=by simp[World.cell?,g.o.row,aW]
  have c2:wr.cell? (xD (w.heap.size+1+1+1+1+1) 11)=some (.func (.func 98) #[] #[xP (w.heap.size+1+1+1)]):=by simp[World.cell?,g.o.row,aW]
  have x:aa (∀c∈bB b,ka c):=λc u=>ms (y c u) (nG z c u);have d:=g.o.aq v (zq wr (.cells #[.string ⟨#[100,101,102,105,110,105,116,105,111,110,115]⟩,aW S 7,.func (.func 98) #[] #[xP (w.heap.size+1+1+1)]] 117));obtain⟨V,r⟩:=d.b3;have C:=za (nF S 7 ⟨#[100,101,102,105,110,105,116,105,111,110,115]⟩ 57 GY Sc.fy b J (w.heap.size+1+1+1) V (wr.alloc (.cells #[.string ⟨#[100,101,102,105,110,105,116,105,111,110,115]⟩,aW S 7,.func (.func 98) #[] #[xP (w.heap.size+1+1+1)]] 117)) (λc u Q K T A o O P L R U W M h v=>GX S 7 Q K T A o N c (y c u) (x.o c u) L R U W M h v O P) d.pt (aJ v d.aH.size) r);clear r d;have G:=ze g.o.row;obtain⟨l,f⟩:∃l,zO ((bB b).flatMap Sc.fy)=l:=⟨_,rfl⟩;rw[f] at C;have B:aa (l=none->∀j,j<4->zO (lp b j)=none):=by
   intro e j al;by_cases F:j=3
   . subst F;exact f.trans e
   exact s.o j (by omega)
  have I:aa (∀p,l=some p->dh b=some (7,p)):=by intro p e;rw[e] at f;unfold dh;rw[z,D,H,f]
  clear f z D H x;rotate_left;have z:zO ((bB b).flatMap Sc.cG)=none:=s.o 0 (by omega);have D:zO ((bB b).flatMap Sc.eP)=none:=s.o 1 (by omega);have H:zO ((bB b).flatMap Sc.e4)=none:=s.o 2 (by omega);have Z:zO ((bB b).flatMap Sc.fy)=none:=s.o 3 (by omega);have c0:wr.cell? (xD (w.heap.size+1+1+1+1+1) 12)=some (.string ⟨#[99,97,117,115,101,115]⟩):=by simp[World.cell?,g.o.row,aW]
  have c1:wr.cell? (xD (w.heap.size+1+1+1+1+1) 13)=some (.iface 399 (.pointer (some (S 8)))):=by simp[World.cell?,g.o.row,aW]
  have c2:wr.cell? (xD (w.heap.size+1+1+1+1+1) 14)=some (.func (.func 98) #[] #[xP (w.heap.size+1+1+1+1)]):=by simp[World.cell?,g.o.row,aW]
  have x:aa (∀c∈bB b,ka c):=λc u=>ms (y c u) (nG z c u);have d:=g.o.aq v (zq wr (.cells #[.string ⟨#[99,97,117,115,101,115]⟩,aW S 8,.func (.func 98) #[] #[xP (w.heap.size+1+1+1+1)]] 117));obtain⟨V,r⟩:=d.b4;have C:=za (nF S 8 ⟨#[99,97,117,115,101,115]⟩ 58 Hj Sc.gb b J (w.heap.size+1+1+1+1) V (wr.alloc (.cells #[.string ⟨#[99,97,117,115,101,115]⟩,aW S 8,.func (.func 98) #[] #[xP (w.heap.size+1+1+1+1)]] 117)) (λc u Q K T A o O P L R U W M h v=>Hb S 8 Q K T A o N c (y c u) L R U W M h v O P) d.pt (aJ v d.aH.size) r);clear r d;have G:=ze g.o.row;obtain⟨l,f⟩:∃l,zO ((bB b).flatMap Sc.gb)=l:=⟨_,rfl⟩;rw[f] at C;have B:aa (l=none->∀j,j<5->zO (lp b j)=none):=by
   intro e j al;by_cases F:j=4
   . subst F;exact f.trans e
   exact s.o j (by omega)
  have I:aa (∀p,l=some p->dh b=some (8,p)):=by intro p e;rw[e] at f;unfold dh;rw[z,D,H,Z,f]
  clear f z D H Z x;rotate_left;have z:zO ((bB b).flatMap Sc.cG)=none:=s.o 0 (by omega);have D:zO ((bB b).flatMap Sc.eP)=none:=s.o 1 (by omega);have H:zO ((bB b).flatMap Sc.e4)=none:=s.o 2 (by omega);have Z:zO ((bB b).flatMap Sc.fy)=none:=s.o 3 (by omega);have a0:zO ((bB b).flatMap Sc.gb)=none:=s.o 4 (by omega);have c0:wr.cell? (xD (w.heap.size+1+1+1+1+1) 15)=some (.string ⟨#[109,101,109,111,114,121]⟩):=by simp[World.cell?,g.o.row,aW]
  have c1:wr.cell? (xD (w.heap.size+1+1+1+1+1) 16)=some (.iface 399 (.pointer (some (S 9)))):=by simp[World.cell?,g.o.row,aW]
  have c2:wr.cell? (xD (w.heap.size+1+1+1+1+1) 17)=some (.func (.func 59) #[] #[]):=by simp[World.cell?,g.o.row,aW]
  have x:aa (∀c∈bB b,ka c):=λc u=>ms (y c u) (nG z c u);have d:=g.o.aq v (zq wr (.cells #[.string ⟨#[109,101,109,111,114,121]⟩,aW S 9,.func (.func 59) #[] #[]] 117));have C:=za (JO S 9 ⟨#[109,101,109,111,114,121]⟩ b J (wr.alloc (.cells #[.string ⟨#[109,101,109,111,114,121]⟩,aW S 9,.func (.func 59) #[] #[]] 117)) a4 d.pt (aJ v d.aH.size));clear d;have G:=ze g.o.row;obtain⟨l,f⟩:∃l,zO (ih b)=l:=⟨_,rfl⟩;rw[f] at C;have B:aa (l=none->∀j,j<6->zO (lp b j)=none):=by
   intro e j al;by_cases F:j=5
   . subst F;exact f.trans e
   exact s.o j (by omega)
  have I:aa (∀p,l=some p->dh b=some (9,p)):=by intro p e;rw[e] at f;unfold dh;rw[z,D,H,Z,a0,f]
  clear f z D H Z a0 x;rotate_left
  . have z:zO ((bB b).flatMap Sc.cG)=none:=s.o 0 (by omega);have D:zO ((bB b).flatMap Sc.eP)=none:=s.o 1 (by omega);have H:zO ((bB b).flatMap Sc.e4)=none:=s.o 2 (by omega);have Z:zO ((bB b).flatMap Sc.fy)=none:=s.o 3 (by omega);have a0:zO ((bB b).flatMap Sc.gb)=none:=s.o 4 (by omega);have bp:zO (ih b)=none:=s.o 5 (by omega);have I:aa (dh b=none):=by unfold aa dh;rw[z,D,H,Z,a0,bp]
    clear z D H Z a0 bp;go_wp2_with fail;go_ret;rw[I.o];exact⟨rfl,g.o.aH⟩
  all_goals
   cases l with
   | none =>
     have a3:=za (B.o rfl);clear B I;unfold gI aW at C;go_wp2_with (go_at_call 60;refine C.o.mono ?_;rintro e bL ⟨rfl,E⟩;have ak:=za (zE E);clear E);go_roundg (gk-1);case measure=>omega
     refine⟨_,?_,?_,?_,g.o.aq v ak.o,a3.o⟩
     . omega
     . omega
     go_num
   | some p =>
     have a2:=za (I.o p rfl);clear B I;unfold gI aW at C
     go_wp2_with (first
      | (go_at_call 30;refine (rm _ _ _ _).mono ?_;rintro e b1 ⟨rfl,rfl⟩)
      | (go_at_call 60;refine C.o.mono ?_;rintro e bL ⟨rfl,E⟩;have x0:=zd E (zL (zc wr _)).1 (by simp);have ak:=za (zE E);clear E))
     go_ret;rw[a2.o];exact⟨rfl,g.o.aH.trans (ak.o.mono a9)⟩
end
section
theorem DN {a:List ay}{k p:Nat}(h:dh a=some (k,p)):4<=k/\k<=9:=by
 unfold dh at h;repeat (split at h;· cases h;omega)
 cases h
def hP (o:Option (Nat×Nat)):Nat×Nat:=o.getD (0,0)
theorem tY (S:Xs)(src:Xb)(k p:Nat)(q:1<=k)(r:k<=11)(w:Xw)(t:Gl S w)(s:Sn S w)(o:fw w)(u:xK 13 #[.string src] w (λe h=>e=.returned (.tuple #[.pointer none,fN S iN k p])/\xB w h)) :
 xK 7 #[.string src] w (λe h=>e=.returned (.tuple #[xI k,xI p])/\xB w h):=by
 have m:=za u;have d:=za (λW (c:xB w W)=>y0 S iN k p W q r (t.of (T:=λ_=>False) (Fr.dp c) (λ_ e=>e.elim)) (λi j y z A B x n=>s i j y z A B x (c.trans (n.mono c.size))) ((World.cell?_of_block (w:=w) (a:=(xD 7 0)) (c.block _ (World.block_lt_of_cell? w (xD 7 0) o))).trans o));unfold fN ew at m d;clear u t s o;have g:xK 11 #[.string src] w (λe h=>e=.returned (.tuple #[.pointer none,fN S iN k p])/\xB w h):=by unfold fN ew;clear d;go_enter func11,ntmps11;go_wp2_with (go_at_call 13;refine m.o.mono ?_;rintro e C ⟨rfl,c⟩;have b:=za c);exact bodyPost_ret (v:=.tuple #[.pointer none,_]) (by simp[results,results11,go_sem]) rfl ⟨rfl,b.o⟩
 have f:=za g;unfold fN ew at f;clear g m;go_enter func7,ntmps7
 go_wp2_with (first
  | (go_at_call 12;refine (d.o _ b.o).mono ?_;rintro e D ⟨rfl,c⟩;have l:=za c)
  | (go_at_call 11;refine f.o.mono ?_;rintro e C ⟨rfl,c⟩;have b:=za c))
 exact bodyPost_ret (v:=.tuple #[xI k,xI p]) (by simp[results,results7,go_sem]) rfl ⟨rfl,b.o.trans (l.o.mono b.o.size)⟩
theorem B7 (S:Xs)(src:Xb)(s:List ay)(B:∀n∈s,gP n)(C:∀n∈s,n.hf.length<=1000000)(w:Xw)(z:Gl S w)(E:Sn S w)(A:fw w)
 (J:xK 13 #[.string src] w (λe q=>∃f,e=.returned (.tuple #[xP f,.nilIface])/\PT q q.heap.size s (xP f)/\xB w q)) :
 xK 7 #[.string src] w (λe q=>e=.returned (.tuple #[.int .i64 (hP (dh s)).1,.int .i64 (hP (dh s)).2])/\xB w q):=by
 have o:=za J;have d:=za (λW f (b:xB w W) (u:PT W W.heap.size s (xP f))=>HF S W.heap.size s B C f W (z.of (T:=λ_=>False) (Fr.dp b) (λ_ e=>e.elim)) u (an _));clear J;cases y:dh s with
 | none =>
   rw[y] at d;rw[show sv S none=.nilIface from rfl] at d;clear E A z B C y;unfold hP;simp only[Option.getD_none];have k:xK 11 #[.string src] w (λe q=>∃f,e=.returned (.tuple #[xP f,.nilIface])/\xB w q):=by
    go_enter func11,ntmps11
    go_wp2_with (first
     | (go_at_call 27;revert g;intro g;refine (d.o _ _ c.o g.o).mono ?_;rintro e I ⟨rfl,b⟩;have G:=b.size;have h:=za b)
     | (go_at_call 13;refine o.o.mono ?_;rintro e H ⟨f,rfl,u,b⟩;have t:=b.size;have g:=za u;have c:=za b))
    exact bodyPost_ret (v:=.tuple #[xP f,_]) (by simp[results,results11,go_sem]) rfl ⟨f,rfl,c.o.trans (h.o.mono t)⟩
   have m:=za k;clear k o d;go_enter func7,ntmps7
   go_wp2_with (first
    | (go_at_call 12;refine (II _).mono ?_;rintro e I ⟨rfl,rfl⟩)
    | (go_at_call 11;refine m.o.mono ?_;rintro e H ⟨f,rfl,b⟩;have c:=za b))
   exact bodyPost_ret (v:=.tuple #[xI 0,xI 0]) (by simp[results,results7,go_sem]) rfl ⟨rfl,c.o⟩
 | some x =>
   obtain⟨r,p⟩:=x;obtain⟨L,M⟩:=DN y;have l:=za (λW (b:xB w W)=>y0 S (pN r) r p W (by omega) (by omega) (z.of (T:=λ_=>False) (Fr.dp b) (λ_ e=>e.elim)) (λi j N O P Q K D=>E i j N O P Q K (b.trans (D.mono b.size))) ((World.cell?_of_block (w:=w) (a:=(xD 7 0)) (b.block _ (World.block_lt_of_cell? w (xD 7 0) A))).trans A));rw[y] at d;rw[show sv S (some (r,p))=fN S (pN r) r p from rfl] at d;clear E A z B C y;obtain⟨nm,F⟩:∃nm,pN r=nm:=⟨_,rfl⟩;unfold fN ew at l d;rw[F] at d l;unfold hP;simp only[Option.getD_some];have k:xK 11 #[.string src] w (λe q=>∃f,e=.returned (.tuple #[xP f,fN S nm r p])/\xB w q):=by
    unfold fN ew;clear l;go_enter func11,ntmps11
    go_wp2_with (first
     | (go_at_call 27;revert g;intro g;refine (d.o _ _ c.o g.o).mono ?_;rintro e I ⟨rfl,b⟩;have G:=b.size;have h:=za b)
     | (go_at_call 13;refine o.o.mono ?_;rintro e H ⟨f,rfl,u,b⟩;have t:=b.size;have g:=za u;have c:=za b))
    exact bodyPost_ret (v:=.tuple #[xP f,_]) (by simp[results,results11,go_sem]) rfl ⟨f,rfl,c.o.trans (h.o.mono t)⟩
   have m:=za k;unfold fN ew at m;clear k o d;go_enter func7,ntmps7
   go_wp2_with (first
    | (go_at_call 12;refine (l.o _ c.o).mono ?_;rintro e I ⟨rfl,b⟩;have h:=za b)
    | (go_at_call 11;refine m.o.mono ?_;rintro e H ⟨f,rfl,b⟩;have c:=za b))
   exact bodyPost_ret (v:=.tuple #[xI r,xI p]) (by simp[results,results7,go_sem]) rfl ⟨rfl,c.o.trans (h.o.mono c.o.size)⟩
def oE (src:Xb)(k p:Nat):Prop :=
 (1200<src.size/\k=1/\p=0)∨(src.size<=1200/\∃R,dm (a6 17).ex (a6 18).ex 1300 src=R/\((R.1.er≠0/\k=R.1.er/\p=R.1.at')∨(R.1.er=0/\∃a,dS R.2 a/\k=(hP (dh a)).1/\p=(hP (dh a)).2)))
theorem Dv {c d:Fn}(a:zv 17 c)(b:zv 18 d){s:Xb}(j:s.size<=1200):(dm c d 1300 s).1.er<=11:=by
 obtain⟨g,k⟩:∃g,g=1300:=⟨_,rfl⟩;have e:=uF a b g (by omega) s (pY j);have h:=n4 a b (f:=g) (aA:=[]) (pY j) rfl;rw[<- k];rw[e.1.er];have i:∀(f:Nat) (x:St×List Nd),Inv 0 x.1->x.1.op=0->Inv 0 (ik c d g f x).1:=by
  intro f;induction f with
  | zero=>intro x h _;exact h
  | succ f m =>
    intro x h l;unfold ik;split
    . have:=n4 a b (f:=g) (aA:=x.2) h l;exact m _ this.1 this.2.1
    exact h
 exact (i g _ h.1 h.2.1).ok.er
theorem nc (S:Xs)(src:Xb)(k p:Nat)(h:oE src k p)(w:Xw)(d:Gl S w)(m:Sn S w)(q:fw w) :
 xK 7 #[.string src] w (λe z=>e=.returned (.tuple #[xI k,xI p])/\xB w z):=by
 obtain⟨x,y,g,i,r,o,a,b⟩:=pE;unfold oE at h;rw[<- g,<- i] at h;rcases h with ⟨c,rfl,rfl⟩|⟨c,R,f,⟨l,rfl,rfl⟩|⟨l,s,t,rfl,rfl⟩⟩
 . exact tY S src 1 0 (by omega) (by omega) w d m q (zz r o a b S src 1 0 (ao ⟨c,rfl,rfl⟩) w d)
 . have j:=Dv a b c;rw[f] at j;exact tY S src _ _ (by omega) j w d m q (zz r o a b S src _ _ (ap ⟨c,by rw[f];exact l,by rw[f],by rw[f]⟩) w d)
 obtain⟨f1,f2,v,f3,f4,f5⟩:=oH g i a b c f l;have:=uR t f3;subst this;exact B7 S src s f4 (λn u=>aJ (f5 n u) (by decide)) w d m q (uI r o a b S src R f c l f2 s f3 w d)
end
section
attribute [local go_sem ↓] Go.wp_at_zero Go.wp_at_succ
def FV:Nat->FuncId
 | 0=>200
 | 1=>201
 | 2=>202
 | 3=>203
 | _=>204
def Gp (N b:Nat)(c:Xv)(a:List Nd)(q:Nat)(T:Nat->List Nat):Prop :=
 ∀(k:Nat) (d:Nd),a[k]?=some d->∀(o:Xo) (w:Xw),Ak w N b c a o->xK (FV q) #[xP b,xI k] w (λe f=>e=.returned (.tuple #[])/\Ak f N b c a ((T k).foldl aj o)/\Fr (λk=>k=b) w f)
def hh (a:List Nd)(T:Nat->List Nat):List Nat:=(List.range a.length).flatMap T
theorem Fv {N p:Nat}{K:Xv}{c:List Nd}{o:Xo}(q:Nat)(al:q<5)(T:Nat->List Nat)(M:aa (Gp N p K c q T))(w:Xw)(h:Ak w N p K c o) :
 xK 145 #[xP p,xI q] w (λe W=>e=.returned (xI (bC (zO (hh c T))))/\Ak W N p K c (zO (hh c T))/\Fr (λk=>k=p) w W):=by
 obtain⟨S,U,rfl,X,_⟩:=h.ns;have z:=za h;obtain⟨G,B,R,ar⟩:=zp h.aC;have y:=h.lt;obtain⟨L,H⟩:∃L,c.length=L:=⟨_,rfl⟩;have O:=za H;rw[H] at X G z M ⊢;clear h H;go_enter func145,ntmps145;go_wp2_with fail;obtain⟨E,s⟩:∃E,w.setCell (xD p 1) (xI (-1))=E:=⟨_,rfl⟩;have t:aa (Fr (λk=>k=p) w E):=s▸Fr.aY (Fr.refl _ _) 1 _;have x:aa (Ak E N p (.slice S L U) c none):=⟨s▸zh _ _ _ _ z.o.aC,z.o.ns.aH (t.o.below (by omega) (λk e=>by omega)),y⟩;rw[s];clear s z G B R;go_loopg [5] (L+1) (λj i wr=>∃m:Nat,m+j=L+1/\m<=L/\i=xI m/\aa (Ak wr N p (.slice S L U) c (((List.range m).flatMap T).foldl aj none))/\aa (Fr (λk=>k=p) w wr));case atStart=>exact⟨0,by omega,aE _,rfl,x,t⟩
 case round =>
  obtain⟨m,Z,hm,rfl,r,g⟩:=hrel;clear x t;obtain⟨G,B,R,ak⟩:=zp r.o.aC;by_cases Y:m<L
  . obtain⟨d,Q⟩:∃d,c[m]?=some d:=⟨_,av (by have:=O.o;omega)⟩;have f:=za (M.o m d Q _ wr r.o);have A:aa (((List.range (m+1)).flatMap T).foldl aj none=(T m).foldl aj (((List.range m).flatMap T).foldl aj none)):=by unfold aa;rw[List.range_succ,List.flatMap_append,bc];simp
    clear Q;have J:q=0∨q=1∨q=2∨q=3∨q=4:=(by omega);rcases J with rfl|rfl|rfl|rfl|rfl
    all_goals
     unfold FV at f
     go_wp2_with (first
      | (go_at_call 200;refine f.o.mono ?_;rintro e D ⟨rfl,a,b⟩;have l:=za a;have n:=za (g.o.trans b);clear a b)
      | (go_at_call 201;refine f.o.mono ?_;rintro e D ⟨rfl,a,b⟩;have l:=za a;have n:=za (g.o.trans b);clear a b)
      | (go_at_call 202;refine f.o.mono ?_;rintro e D ⟨rfl,a,b⟩;have l:=za a;have n:=za (g.o.trans b);clear a b)
      | (go_at_call 203;refine f.o.mono ?_;rintro e D ⟨rfl,a,b⟩;have l:=za a;have n:=za (g.o.trans b);clear a b)
      | (go_at_call 204;refine f.o.mono ?_;rintro e D ⟨rfl,a,b⟩;have l:=za a;have n:=za (g.o.trans b);clear a b))
     go_roundg (gk-1);(try (case measure=>omega))
     exact⟨m+1,by omega,by omega,by go_num,by rw[A.o];exact l,n⟩
  have I:m=L:=by omega
  subst I;obtain⟨C,v⟩:∃C,((List.range m).flatMap T).foldl aj none=C:=⟨_,rfl⟩;have P:zO (hh c T)=C:=by unfold zO hh;rw[O.o,v]
  have A:=za P;rw[v] at r B;clear P v;obtain⟨V,u⟩:∃V,bC C=V:=⟨_,rfl⟩;have F:=za u;rw[u] at B;clear u;go_wp2_with fail;go_ret;exact⟨by rw[A.o,F.o];rfl,by rw[A.o];exact r.o,g.o⟩
end
section
attribute [local go_sem ↓] Go.wp_at_zero Go.wp_at_succ
def kz (n:Nat):Code->Option Code
 | .region k d b=>if k=n then some (.region k d b) else none
 | .seq a b=>match kz n a with
   | some c=>some c
   | none=>kz n b
 | .block _ c=>kz n c
 | .scope c=>kz n c
 | .loop c=>kz n c
 | .cond _ a b=>match kz n a with
   | some c=>some c
   | none=>kz n b
 | _=>none
theorem Gy {fx:Xw}{q g L zd f o ge zc fV zp zt U x3 x2 un gt tn go zk zj zo zn zh zg zs:Nat}{x1 gs ta zi zm ze zr:Xp}{c d:Nd}(u:aa (∀W,xB fx W->(λk=>(xC k q 0 (xS g L zd))/\xC k g (f*5) (.string c.nm)/\xC k g (f*5+1) (xI c.a)/\xC k g (f*5+2) (.slice x1 x3 x2)/\xC k g (f*5+3) (.slice gs un gt)/\xC k g (f*5+4) (.slice ta tn go)/\xC k ge 3 (.slice zr fV zs)/\xC k o 0 (.string d.nm)/\xC k o 1 (xI d.a)/\xC k o 2 (.slice zi zk zj)/\xC k o 3 (.slice zm zo zn)/\xC k o 4 (.slice ze zh zg)) W))
 (zu:aa (∀(b:Bool) W,xB fx W->xK 46 #[.agg #[.string c.nm,xI c.a,.slice x1 x3 x2,.slice gs un gt,.slice ta tn go],.bool b] W (λe k=>e=.returned (xI ((if b=true then zp else zt:Nat):Int))/\xB W k)))
 (zF:aa (∀W,xB fx W->xK 247 #[.agg #[.string d.nm,xI d.a,.slice zi zk zj,.slice zm zo zn,.slice ze zh zg],xI zc] W (λe k=>e=.returned (xI (U:Nat))/\xB W k)))
 (zI:¬((f:Int)<0)) (zJ:f<L) {r:Bool} (zq:((zp:Int) != (fV:Int)||(zt:Int) != (U:Int))=r) (Q:Exit->Act->World->Prop) (zH:∀c (a:Act) (fv:Xo) (v:Xv) w,Q (.panic c) (a.put fv v) w->Q (.panic c) a w) {zw zx zy zA zB zC zD zE g0 g1 g2 g3 g8 h0 ip i4 i5 i6 i7 i8 i9 kd kw lb le lk ln lo ls lt lv l1 l2 l3 l5 l6 md mk mp m0 m1 m2 m3 m4 m5 m6 m7 m8 m9 na nb nd ne nm no ns nt nx n1 n2 n3 of ok op or os o7 o8 pb pe pl po pp pr ps pt qr qs qv rb rd rg ro rp rt rx ry rL sc sg sh sn st sE s1 y z A B C D E F G H I J M N O P R T V X Y Z ak al ar a0 a2 a3 a4 a5 a9 be bk bl bp bs bt bx bE bL b0 b1 b2 b3 b4 ca ck cm cn cs cv c0 c1 c2 c3 c4 c5 c9 dn ds eb em eq er es ev g4 g5 g6 g7 g9 he hg hm hu hv hw hN hR hT h1 h2 h3 h4 h5 h6 h7 h8 h9 io it iR i0 i1 i2 i3 ex fd fq fr:Xv}
 (zv:aa (∀(k:Xw) {s2 te tk tm tr ts tt tx up vs vv vz vG v0 v2 v3 v4 v5 v9 wd wf wn wp w0 xs xv xE xH x0:Xv},xB fx k->Q .normal ⟨#[xP q,zw,zx,zy,xP o,zA,zB,zC,zD,zE,g0,g1,g2,xI (zc:Int),xP ge,g3,xI (f:Int),g8,h0,ip,i4,i5,i6,i7,i8,i9,kd,kw,lb,le,lk,ln,lo,ls,lt,lv,l1,l2,l3,l5,l6,md,mk,mp,m0,m1,m2,m3,m4,m5,m6,m7,m8,m9,na,nb,nd,ne,nm,no,ns,nt,nx,n1,n2,n3,of,ok,op,or,os,o7,o8,pb,pe,pl,po,pp,pr,ps,pt,qr,qs,qv,rb,rd,rg,ro,rp,rt,rx,ry,rL,sc,sg,sh,sn,st,sE,s1,y,z,A,B,C,D,E,F,G,H,I,J,M,N,O,P,R,T,V,X,Y,Z,ak,al,ar,a0,a2,a3,a4,a5,a9,be,bk,bl,bp,bs,bt,bx,bE,bL,b0,b1,b2,b3,b4,ca,ck,cm,cn,cs,cv,c0,c1,c2,c3,c4,c5,c9,dn,ds,eb,em,eq,er,es,ev,s2,te,tk,tm,tr,ts,tt,tx,up,vs,vv,vz,vG,v0,v2,v3,v4,v5,v9,wd,wf,wn,wp,w0,xs,xv,xE,xH,x0,.bool r,ex,fd,fq,fr],[]⟩ k)) :
 Code.wp prog ((Tryz.f200.body.bind (kz 37)).getD .skip) Q ⟨#[xP q,zw,zx,zy,xP o,zA,zB,zC,zD,zE,g0,g1,g2,xI (zc:Int),xP ge,g3,xI (f:Int),g8,h0,ip,i4,i5,i6,i7,i8,i9,kd,kw,lb,le,lk,ln,lo,ls,lt,lv,l1,l2,l3,l5,l6,md,mk,mp,m0,m1,m2,m3,m4,m5,m6,m7,m8,m9,na,nb,nd,ne,nm,no,ns,nt,nx,n1,n2,n3,of,ok,op,or,os,o7,o8,pb,pe,pl,po,pp,pr,ps,pt,qr,qs,qv,rb,rd,rg,ro,rp,rt,rx,ry,rL,sc,sg,sh,sn,st,sE,s1,y,z,A,B,C,D,E,F,G,H,I,J,M,N,O,P,R,T,V,X,Y,Z,ak,al,ar,a0,a2,a3,a4,a5,a9,be,bk,bl,bp,bs,bt,bx,bE,bL,b0,b1,b2,b3,b4,ca,ck,cm,cn,cs,cv,c0,c1,c2,c3,c4,c5,c9,dn,ds,eb,em,eq,er,es,ev,g4,g5,g6,g7,g9,he,hg,hm,hu,hv,hw,hN,hR,hT,h1,h2,h3,h4,h5,h6,h7,h8,h9,io,it,iR,i0,i1,i2,i3,ex,fd,fq,fr],[]⟩ fx:=by
 have j:∀{fv:Xo} {v:Xv},∀c a w,Q (.panic c) (Act.put a fv v) w->Q (.panic c) a w:=λc a w h=>zH c a _ _ w h;have t:aa (xB fx fx.drew):=⟨rfl,rfl,rfl,an _,λ_ _=>rfl⟩
 conv=>arg 2;whnf
 refine wp_region_held_drew (S:=(λk=>k.cell? (xD q 0)=some (xS g L zd)/\k.cell? (xD g (f*5))=some (.string c.nm)/\k.cell? (xD g (f*5+1))=some (xI c.a)/\k.cell? (xD g (f*5+2))=some (.slice x1 x3 x2)/\k.cell? (xD g (f*5+3))=some (.slice gs un gt)/\k.cell? (xD g (f*5+4))=some (.slice ta tn go)/\k.cell? (xD ge 3)=some (.slice zr fV zs)/\k.cell? (xD o 0)=some (.string d.nm)/\k.cell? (xD o 1)=some (xI d.a)/\k.cell? (xD o 2)=some (.slice zi zk zj)/\k.cell? (xD o 3)=some (.slice zm zo zn)/\k.cell? (xD o 4)=some (.slice ze zh zg))) (by kernel_rfl) (u.o _ t.o) (λn=>?_);refine aR (hQ:=j) 0 rfl (v:=(xI (f:Int))) (ao ⟨by rfl,(by intro l i;(try dsimp only at i);go_simp)⟩) ?_;try simp only[Act.put,aD]
 refine aR (hQ:=j) 1 rfl (v:=.bool false) (ao ⟨by rfl,(by intro l i;(try dsimp only at i);go_simp)⟩) ?_;try simp only[Act.put,aD]
 refine aR (hQ:=j) 2 rfl (v:=.bool false) (ao ⟨by rfl,(by intro l i;(try dsimp only at i);go_simp)⟩) ?_;try simp only[Act.put,aD]
 refine aR (hQ:=j) 3 rfl (v:=(xP q)) (ao ⟨by rfl,(by intro l i;(try dsimp only at i);go_simp)⟩) ?_;try simp only[Act.put,aD]
 refine aR (hQ:=j) 4 rfl (v:=(xP q)) (ao ⟨by rfl,(by intro l i;(try dsimp only at i);go_simp)⟩) ?_;try simp only[Act.put,aD]
 refine aR (hQ:=j) 5 rfl (v:=(xP q)) (ao ⟨by rfl,(by intro l i;(try dsimp only at i);go_simp)⟩) ?_;try simp only[Act.put,aD]
 refine aR (hQ:=j) 6 rfl (v:=(xS g L zd)) (ao ⟨by rfl,(by intro l i;(try dsimp only at i);go_simp)⟩) ?_;try simp only[Act.put,aD]
 refine aR (hQ:=j) 7 rfl (v:=(xI (f:Int))) (ao ⟨by rfl,(by intro l i;(try dsimp only at i);go_simp)⟩) ?_;try simp only[Act.put,aD]
 refine aR (hQ:=j) 8 rfl (v:=.pointer (some (xD g (f*5)))) (ao ⟨by rfl,(by intro l i;(try dsimp only at i);go_simp)⟩) ?_;try simp only[Act.put,aD]
 refine aR (hQ:=j) 9 rfl (v:=.agg #[.string c.nm,xI c.a,.slice x1 x3 x2,.slice gs un gt,.slice ta tn go]) (ao ⟨by rfl,(by intro l i;(try dsimp only at i);go_simp)⟩) ?_;try simp only[Act.put,aD]
 refine aR (hQ:=j) 11 rfl (v:=.pointer (some (xD ge 3))) (ao ⟨by rfl,(by intro l i;(try dsimp only at i);go_simp)⟩) ?_;try simp only[Act.put,aD]
 refine aR (hQ:=j) 12 rfl (v:=.slice zr fV zs) (ao ⟨by rfl,(by intro l i;(try dsimp only at i);go_simp)⟩) ?_;try simp only[Act.put,aD]
 refine aR (hQ:=j) 13 rfl (v:=(xI (fV:Int))) (ao ⟨by rfl,(by intro l i;(try dsimp only at i);go_simp)⟩) ?_;try simp only[Act.put,aD]
 refine wpAnyH_ready (rs:=[10]) (by kernel_rfl) (by simp) ?_;refine AllReadyH.cons rfl (λK x=>?_) AllReadyH.nil;go_simp;go_at_call 46;with_reducible refine (zu.o true _ t.o).mono ?_
 rintro e' zL ⟨rfl,m⟩;have p:=za (t.o.trans (m.mono t.o.size));clear m;go_wp2_with fail;refine x.out _ _ (u.o _ p.o) (λn=>?_);clear x K;try simp only[Act.put,aD]
 cases gl:((zp:Int) != (fV:Int)) with
 | true =>
   rw[gl,Bool.true_or] at zq;subst zq;refine aR (hQ:=j) 14 rfl (v:=.bool true) (ao ⟨by rfl,(by intro l i;(try dsimp only at i);go_simp)⟩) ?_;try simp only[Act.put,aD]
   refine aR (hQ:=j) 15 rfl (v:=.bool true) (ao ⟨by rfl,(by intro l i;(try dsimp only at i);go_simp)⟩) ?_;try simp only[Act.put,aD]
   refine aR (hQ:=j) 16 rfl (v:=.bool true) (ao ⟨by rfl,(by intro l i;(try dsimp only at i);go_simp)⟩) ?_;try simp only[Act.put,aD]
   refine aR (hQ:=j) 17 rfl (v:=undef) (ap ⟨by rfl,rfl⟩) ?_;try simp only[Act.put,aD]
   refine aR (hQ:=j) 18 rfl (v:=undef) (ap ⟨by rfl,rfl⟩) ?_;try simp only[Act.put,aD]
   refine aR (hQ:=j) 19 rfl (v:=undef) (ap ⟨by rfl,rfl⟩) ?_;try simp only[Act.put,aD]
   refine aR (hQ:=j) 20 rfl (v:=undef) (ap ⟨by rfl,rfl⟩) ?_;try simp only[Act.put,aD]
   refine aR (hQ:=j) 21 rfl (v:=undef) (ap ⟨by rfl,rfl⟩) ?_;try simp only[Act.put,aD]
   refine aR (hQ:=j) 22 rfl (v:=undef) (ap ⟨by rfl,rfl⟩) ?_;try simp only[Act.put,aD]
   refine aR (hQ:=j) 23 rfl (v:=undef) (ap ⟨by rfl,rfl⟩) ?_;try simp only[Act.put,aD]
   refine aR (hQ:=j) 24 rfl (v:=undef) (ap ⟨by rfl,rfl⟩) ?_;try simp only[Act.put,aD]
   refine aR (hQ:=j) 25 rfl (v:=undef) (ap ⟨by rfl,rfl⟩) ?_;try simp only[Act.put,aD]
   refine aR (hQ:=j) 26 rfl (v:=undef) (ap ⟨by rfl,rfl⟩) ?_;try simp only[Act.put,aD]
   refine aR (hQ:=j) 27 rfl (v:=undef) (ap ⟨by rfl,rfl⟩) ?_;try simp only[Act.put,aD]
   refine aR (hQ:=j) 28 rfl (v:=undef) (ap ⟨by rfl,rfl⟩) ?_;try simp only[Act.put,aD]
   refine aR (hQ:=j) 29 rfl (v:=.bool true) (ao ⟨by rfl,(by intro l i;(try dsimp only at i);go_simp)⟩) ?_;try simp only[Act.put,aD]
   refine wpAnyH_done (by kernel_rfl) ?_ _;exact zv.o _ p.o
 | false =>
   rw[gl,Bool.false_or] at zq;refine aR (hQ:=j) 14 rfl (v:=.bool false) (ao ⟨by rfl,(by intro l i;(try dsimp only at i);go_simp)⟩) ?_;try simp only[Act.put,aD]
   refine aR (hQ:=j) 15 rfl (v:=.bool false) (ao ⟨by rfl,(by intro l i;(try dsimp only at i);go_simp)⟩) ?_;try simp only[Act.put,aD]
   refine aR (hQ:=j) 16 rfl (v:=.bool false) (ao ⟨by rfl,(by intro l i;(try dsimp only at i);go_simp)⟩) ?_;try simp only[Act.put,aD]
   refine aR (hQ:=j) 17 rfl (v:=(xP q)) (ao ⟨by rfl,(by intro l i;(try dsimp only at i);go_simp)⟩) ?_;try simp only[Act.put,aD]
   refine aR (hQ:=j) 18 rfl (v:=(xP q)) (ao ⟨by rfl,(by intro l i;(try dsimp only at i);go_simp)⟩) ?_;try simp only[Act.put,aD]
   refine aR (hQ:=j) 19 rfl (v:=(xP q)) (ao ⟨by rfl,(by intro l i;(try dsimp only at i);go_simp)⟩) ?_;try simp only[Act.put,aD]
   refine aR (hQ:=j) 20 rfl (v:=(xS g L zd)) (ao ⟨by rfl,(by intro l i;(try dsimp only at i);go_simp)⟩) ?_;try simp only[Act.put,aD]
   refine aR (hQ:=j) 21 rfl (v:=(xI (f:Int))) (ao ⟨by rfl,(by intro l i;(try dsimp only at i);go_simp)⟩) ?_;try simp only[Act.put,aD]
   refine aR (hQ:=j) 22 rfl (v:=.pointer (some (xD g (f*5)))) (ao ⟨by rfl,(by intro l i;(try dsimp only at i);go_simp)⟩) ?_;try simp only[Act.put,aD]
   refine aR (hQ:=j) 23 rfl (v:=.agg #[.string c.nm,xI c.a,.slice x1 x3 x2,.slice gs un gt,.slice ta tn go]) (ao ⟨by rfl,(by intro l i;(try dsimp only at i);go_simp)⟩) ?_;try simp only[Act.put,aD]
   refine aR (hQ:=j) 25 rfl (v:=.agg #[.string d.nm,xI d.a,.slice zi zk zj,.slice zm zo zn,.slice ze zh zg]) (ao ⟨by rfl,(by intro l i;(try dsimp only at i);go_simp)⟩) ?_;try simp only[Act.put,aD]
   refine aR (hQ:=j) 26 rfl (v:=(xI (zc:Int))) (ao ⟨by rfl,(by intro l i;(try dsimp only at i);go_simp)⟩) ?_;try simp only[Act.put,aD]
   refine wpAnyH_ready (rs:=[24]) (by kernel_rfl) (by simp) ?_;refine AllReadyH.cons rfl (λK x=>?_) AllReadyH.nil;go_simp;go_at_call 46;with_reducible refine (zu.o false _ p.o).mono ?_
   rintro e' zM ⟨rfl,m⟩;have s:=za (p.o.trans (m.mono p.o.size));clear m;go_wp2_with fail;refine x.out _ _ (u.o _ s.o) (λn=>?_);clear x K;try simp only[Act.put,aD]
   refine wpAnyH_ready (rs:=[27]) (by kernel_rfl) (by simp) ?_;refine AllReadyH.cons rfl (λK x=>?_) AllReadyH.nil;go_simp;go_at_call 247;with_reducible refine (zF.o _ s.o).mono ?_
   rintro e' zN ⟨rfl,m⟩;have gc:=za (s.o.trans (m.mono s.o.size));clear m;go_wp2_with fail;refine x.out _ _ (u.o _ gc.o) (λn=>?_);clear x K;try simp only[Act.put,aD]
   refine aR (hQ:=j) 28 rfl (v:=.bool r) (ao ⟨by rfl,(by intro l i;(try dsimp only at i);go_simp)⟩) ?_;try simp only[Act.put,aD]
   refine aR (hQ:=j) 29 rfl (v:=.bool r) (ao ⟨by rfl,(by intro l i;(try dsimp only at i);go_simp)⟩) ?_;try simp only[Act.put,aD]
   refine wpAnyH_done (by kernel_rfl) ?_ _;exact zv.o _ gc.o
end
end Go.Proofs.YtmfkofhgdjechaaGreatDoor
