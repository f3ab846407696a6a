/- Part 10. -/
import Derived.Lib.AppendIntMem
import Derived.Lib.ItoaNum
import Derived.Lib.LaidTab
import Derived.Test.YtcnelakggnfnhaaGreatDoorShelf2
import Derived.Test.YtcnelakggnfnhaaGreatDoorK08
set_option maxRecDepth 100000
set_option maxHeartbeats 8000000
namespace Go.Proofs.YtcnelakggnfnhaaGreatDoor
open Go.Proofs.Tryz
section
open Go.RowKit Go.Extern.Stop Go.Stop Go.Extern
def Sn (S:Xs)(w:Xw):Prop:=∀i j,1<=i->i<=11->1<=j->j<=11->∀W,xB w W->(binOp .eql 39 (aW S i) (aW S j)).run prog W=.ok (.bool (decide (i=j))) W
def fN (S:Xs)(p:Xb)(b:Nat)(a:Int):Value:=ew p (.iface 53 (.agg #[aW S b,xI a]))
theorem LN (S:Xs)(p:Xb)(q:Nat)(D:Int)(w:Xw)(Q:1<=q)(R:q<=11)(N:Gl S w)(U:Sn S w) :
 xK 20 #[fN S p q D] w λe Y=>e=.returned (xI (q:Nat))/\xB w Y:=by
 have c:=za (λW (a:xB w W)=>N.of (T:=λ_=>False) (Fr.Mo a) (λ_ e=>e.elim));have b:=za (λj (V:1<=j) (X:j<=11) W (a:xB w W)=>L0 p (S q) (S j) D (decide (q=j)) W (λP K=>U q j Q R V X P (a.trans (K.mono a.size))));have i:=za (yS w.heap.size w);have Z:=N.ou;unfold fN;unfold aW ew at *;have:q=1∨q=2∨q=3∨q=4∨q=5∨q=6∨q=7∨q=8∨q=9∨q=10∨q=11:=by omega
 rcases this with rfl|rfl|rfl|rfl|rfl|rfl|rfl|rfl|rfl|rfl|rfl
 . go_enter func20,ntmps20;go_wp2_with (first|(go_at_call 53;refine (b.o 1 (by decide) (by decide) _ i.o).mono ?_;rintro e t ⟨rfl,a⟩;have d:=za (i.o.trans (a.mono i.o.size));have s:=(c.o _ d.o).e6));go_ret;exact⟨rfl,d.o⟩
 . go_enter func20,ntmps20;go_wp2_with (first|(go_at_call 53;refine (b.o 2 (by decide) (by decide) _ d.o).mono ?_;rintro e v ⟨rfl,a⟩;have f:=za (d.o.trans (a.mono d.o.size));have u:=(c.o _ f.o).deep)|(go_at_call 53;refine (b.o 1 (by decide) (by decide) _ i.o).mono ?_;rintro e t ⟨rfl,a⟩;have d:=za (i.o.trans (a.mono i.o.size));have s:=(c.o _ d.o).e6));go_ret;exact⟨rfl,f.o⟩
 . go_enter func20,ntmps20;go_wp2_with (first|(go_at_call 53;refine (b.o 3 (by decide) (by decide) _ f.o).mono ?_;rintro e y ⟨rfl,a⟩;have g:=za (f.o.trans (a.mono f.o.size));have x:=(c.o _ g.o).name)|(go_at_call 53;refine (b.o 2 (by decide) (by decide) _ d.o).mono ?_;rintro e v ⟨rfl,a⟩;have f:=za (d.o.trans (a.mono d.o.size));have u:=(c.o _ f.o).deep)|(go_at_call 53;refine (b.o 1 (by decide) (by decide) _ i.o).mono ?_;rintro e t ⟨rfl,a⟩;have d:=za (i.o.trans (a.mono i.o.size));have s:=(c.o _ d.o).e6));go_ret;exact⟨rfl,g.o⟩
 . go_enter func20,ntmps20;go_wp2_with (first|(go_at_call 53;refine (b.o 4 (by decide) (by decide) _ g.o).mono ?_;rintro e A ⟨rfl,a⟩;have h:=za (g.o.trans (a.mono g.o.size));have z:=(c.o _ h.o).type)|(go_at_call 53;refine (b.o 3 (by decide) (by decide) _ f.o).mono ?_;rintro e y ⟨rfl,a⟩;have g:=za (f.o.trans (a.mono f.o.size));have x:=(c.o _ g.o).name)|(go_at_call 53;refine (b.o 2 (by decide) (by decide) _ d.o).mono ?_;rintro e v ⟨rfl,a⟩;have f:=za (d.o.trans (a.mono d.o.size));have u:=(c.o _ f.o).deep)|(go_at_call 53;refine (b.o 1 (by decide) (by decide) _ i.o).mono ?_;rintro e t ⟨rfl,a⟩;have d:=za (i.o.trans (a.mono i.o.size));have s:=(c.o _ d.o).e6));go_ret;exact⟨rfl,h.o⟩
 . go_enter func20,ntmps20;go_wp2_with (first|(go_at_call 53;refine (b.o 5 (by decide) (by decide) _ h.o).mono ?_;rintro e C ⟨rfl,a⟩;have k:=za (h.o.trans (a.mono h.o.size));have B:=(c.o _ k.o).clock)|(go_at_call 53;refine (b.o 4 (by decide) (by decide) _ g.o).mono ?_;rintro e A ⟨rfl,a⟩;have h:=za (g.o.trans (a.mono g.o.size));have z:=(c.o _ h.o).type)|(go_at_call 53;refine (b.o 3 (by decide) (by decide) _ f.o).mono ?_;rintro e y ⟨rfl,a⟩;have g:=za (f.o.trans (a.mono f.o.size));have x:=(c.o _ g.o).name)|(go_at_call 53;refine (b.o 2 (by decide) (by decide) _ d.o).mono ?_;rintro e v ⟨rfl,a⟩;have f:=za (d.o.trans (a.mono d.o.size));have u:=(c.o _ f.o).deep)|(go_at_call 53;refine (b.o 1 (by decide) (by decide) _ i.o).mono ?_;rintro e t ⟨rfl,a⟩;have d:=za (i.o.trans (a.mono i.o.size));have s:=(c.o _ d.o).e6));go_ret;exact⟨rfl,k.o⟩
 . go_enter func20,ntmps20;go_wp2_with (first|(go_at_call 53;refine (b.o 6 (by decide) (by decide) _ k.o).mono ?_;rintro e G ⟨rfl,a⟩;have l:=za (k.o.trans (a.mono k.o.size));have F:=(c.o _ l.o).define)|(go_at_call 53;refine (b.o 5 (by decide) (by decide) _ h.o).mono ?_;rintro e C ⟨rfl,a⟩;have k:=za (h.o.trans (a.mono h.o.size));have B:=(c.o _ k.o).clock)|(go_at_call 53;refine (b.o 4 (by decide) (by decide) _ g.o).mono ?_;rintro e A ⟨rfl,a⟩;have h:=za (g.o.trans (a.mono g.o.size));have z:=(c.o _ h.o).type)|(go_at_call 53;refine (b.o 3 (by decide) (by decide) _ f.o).mono ?_;rintro e y ⟨rfl,a⟩;have g:=za (f.o.trans (a.mono f.o.size));have x:=(c.o _ g.o).name)|(go_at_call 53;refine (b.o 2 (by decide) (by decide) _ d.o).mono ?_;rintro e v ⟨rfl,a⟩;have f:=za (d.o.trans (a.mono d.o.size));have u:=(c.o _ f.o).deep)|(go_at_call 53;refine (b.o 1 (by decide) (by decide) _ i.o).mono ?_;rintro e t ⟨rfl,a⟩;have d:=za (i.o.trans (a.mono i.o.size));have s:=(c.o _ d.o).e6));go_ret;exact⟨rfl,l.o⟩
 . go_enter func20,ntmps20;go_wp2_with (first|(go_at_call 53;refine (b.o 7 (by decide) (by decide) _ l.o).mono ?_;rintro e I ⟨rfl,a⟩;have m:=za (l.o.trans (a.mono l.o.size));have H:=(c.o _ m.o).kn)|(go_at_call 53;refine (b.o 6 (by decide) (by decide) _ k.o).mono ?_;rintro e G ⟨rfl,a⟩;have l:=za (k.o.trans (a.mono k.o.size));have F:=(c.o _ l.o).define)|(go_at_call 53;refine (b.o 5 (by decide) (by decide) _ h.o).mono ?_;rintro e C ⟨rfl,a⟩;have k:=za (h.o.trans (a.mono h.o.size));have B:=(c.o _ k.o).clock)|(go_at_call 53;refine (b.o 4 (by decide) (by decide) _ g.o).mono ?_;rintro e A ⟨rfl,a⟩;have h:=za (g.o.trans (a.mono g.o.size));have z:=(c.o _ h.o).type)|(go_at_call 53;refine (b.o 3 (by decide) (by decide) _ f.o).mono ?_;rintro e y ⟨rfl,a⟩;have g:=za (f.o.trans (a.mono f.o.size));have x:=(c.o _ g.o).name)|(go_at_call 53;refine (b.o 2 (by decide) (by decide) _ d.o).mono ?_;rintro e v ⟨rfl,a⟩;have f:=za (d.o.trans (a.mono d.o.size));have u:=(c.o _ f.o).deep)|(go_at_call 53;refine (b.o 1 (by decide) (by decide) _ i.o).mono ?_;rintro e t ⟨rfl,a⟩;have d:=za (i.o.trans (a.mono i.o.size));have s:=(c.o _ d.o).e6));go_ret;exact⟨rfl,m.o⟩
 . go_enter func20,ntmps20;go_wp2_with (first|(go_at_call 53;refine (b.o 8 (by decide) (by decide) _ m.o).mono ?_;rintro e M ⟨rfl,a⟩;have n:=za (m.o.trans (a.mono m.o.size));have J:=(c.o _ n.o).k3)|(go_at_call 53;refine (b.o 7 (by decide) (by decide) _ l.o).mono ?_;rintro e I ⟨rfl,a⟩;have m:=za (l.o.trans (a.mono l.o.size));have H:=(c.o _ m.o).kn)|(go_at_call 53;refine (b.o 6 (by decide) (by decide) _ k.o).mono ?_;rintro e G ⟨rfl,a⟩;have l:=za (k.o.trans (a.mono k.o.size));have F:=(c.o _ l.o).define)|(go_at_call 53;refine (b.o 5 (by decide) (by decide) _ h.o).mono ?_;rintro e C ⟨rfl,a⟩;have k:=za (h.o.trans (a.mono h.o.size));have B:=(c.o _ k.o).clock)|(go_at_call 53;refine (b.o 4 (by decide) (by decide) _ g.o).mono ?_;rintro e A ⟨rfl,a⟩;have h:=za (g.o.trans (a.mono g.o.size));have z:=(c.o _ h.o).type)|(go_at_call 53;refine (b.o 3 (by decide) (by decide) _ f.o).mono ?_;rintro e y ⟨rfl,a⟩;have g:=za (f.o.trans (a.mono f.o.size));have x:=(c.o _ g.o).name)|(go_at_call 53;refine (b.o 2 (by decide) (by decide) _ d.o).mono ?_;rintro e v ⟨rfl,a⟩;have f:=za (d.o.trans (a.mono d.o.size));have u:=(c.o _ f.o).deep)|(go_at_call 53;refine (b.o 1 (by decide) (by decide) _ i.o).mono ?_;rintro e t ⟨rfl,a⟩;have d:=za (i.o.trans (a.mono i.o.size));have s:=(c.o _ d.o).e6));go_ret;exact⟨rfl,n.o⟩
 . go_enter func20,ntmps20;go_wp2_with (first|(go_at_call 53;refine (b.o 9 (by decide) (by decide) _ n.o).mono ?_;rintro e O ⟨rfl,a⟩;have o:=za (n.o.trans (a.mono n.o.size));have E:=(c.o _ o.o).mS)|(go_at_call 53;refine (b.o 8 (by decide) (by decide) _ m.o).mono ?_;rintro e M ⟨rfl,a⟩;have n:=za (m.o.trans (a.mono m.o.size));have J:=(c.o _ n.o).k3)|(go_at_call 53;refine (b.o 7 (by decide) (by decide) _ l.o).mono ?_;rintro e I ⟨rfl,a⟩;have m:=za (l.o.trans (a.mono l.o.size));have H:=(c.o _ m.o).kn)|(go_at_call 53;refine (b.o 6 (by decide) (by decide) _ k.o).mono ?_;rintro e G ⟨rfl,a⟩;have l:=za (k.o.trans (a.mono k.o.size));have F:=(c.o _ l.o).define)|(go_at_call 53;refine (b.o 5 (by decide) (by decide) _ h.o).mono ?_;rintro e C ⟨rfl,a⟩;have k:=za (h.o.trans (a.mono h.o.size));have B:=(c.o _ k.o).clock)|(go_at_call 53;refine (b.o 4 (by decide) (by decide) _ g.o).mono ?_;rintro e A ⟨rfl,a⟩;have h:=za (g.o.trans (a.mono g.o.size));have z:=(c.o _ h.o).type)|(go_at_call 53;refine (b.o 3 (by decide) (by decide) _ f.o).mono ?_;rintro e y ⟨rfl,a⟩;have g:=za (f.o.trans (a.mono f.o.size));have x:=(c.o _ g.o).name)|(go_at_call 53;refine (b.o 2 (by decide) (by decide) _ d.o).mono ?_;rintro e v ⟨rfl,a⟩;have f:=za (d.o.trans (a.mono d.o.size));have u:=(c.o _ f.o).deep)|(go_at_call 53;refine (b.o 1 (by decide) (by decide) _ i.o).mono ?_;rintro e t ⟨rfl,a⟩;have d:=za (i.o.trans (a.mono i.o.size));have s:=(c.o _ d.o).e6));go_ret;exact⟨rfl,o.o⟩
 . go_enter func20,ntmps20;go_wp2_with (first|(go_at_call 53;refine (b.o 10 (by decide) (by decide) _ o.o).mono ?_;rintro e L ⟨rfl,a⟩;have r:=za (o.o.trans (a.mono o.o.size)))|(go_at_call 53;refine (b.o 9 (by decide) (by decide) _ n.o).mono ?_;rintro e O ⟨rfl,a⟩;have o:=za (n.o.trans (a.mono n.o.size));have E:=(c.o _ o.o).mS)|(go_at_call 53;refine (b.o 8 (by decide) (by decide) _ m.o).mono ?_;rintro e M ⟨rfl,a⟩;have n:=za (m.o.trans (a.mono m.o.size));have J:=(c.o _ n.o).k3)|(go_at_call 53;refine (b.o 7 (by decide) (by decide) _ l.o).mono ?_;rintro e I ⟨rfl,a⟩;have m:=za (l.o.trans (a.mono l.o.size));have H:=(c.o _ m.o).kn)|(go_at_call 53;refine (b.o 6 (by decide) (by decide) _ k.o).mono ?_;rintro e G ⟨rfl,a⟩;have l:=za (k.o.trans (a.mono k.o.size));have F:=(c.o _ l.o).define)|(go_at_call 53;refine (b.o 5 (by decide) (by decide) _ h.o).mono ?_;rintro e C ⟨rfl,a⟩;have k:=za (h.o.trans (a.mono h.o.size));have B:=(c.o _ k.o).clock)|(go_at_call 53;refine (b.o 4 (by decide) (by decide) _ g.o).mono ?_;rintro e A ⟨rfl,a⟩;have h:=za (g.o.trans (a.mono g.o.size));have z:=(c.o _ h.o).type)|(go_at_call 53;refine (b.o 3 (by decide) (by decide) _ f.o).mono ?_;rintro e y ⟨rfl,a⟩;have g:=za (f.o.trans (a.mono f.o.size));have x:=(c.o _ g.o).name)|(go_at_call 53;refine (b.o 2 (by decide) (by decide) _ d.o).mono ?_;rintro e v ⟨rfl,a⟩;have f:=za (d.o.trans (a.mono d.o.size));have u:=(c.o _ f.o).deep)|(go_at_call 53;refine (b.o 1 (by decide) (by decide) _ i.o).mono ?_;rintro e t ⟨rfl,a⟩;have d:=za (i.o.trans (a.mono i.o.size));have s:=(c.o _ d.o).e6));go_ret;exact⟨rfl,r.o⟩
 go_enter func20,ntmps20;go_wp2_with (first|(go_at_call 53;refine (b.o 10 (by decide) (by decide) _ o.o).mono ?_;rintro e L ⟨rfl,a⟩;have r:=za (o.o.trans (a.mono o.o.size)))|(go_at_call 53;refine (b.o 9 (by decide) (by decide) _ n.o).mono ?_;rintro e O ⟨rfl,a⟩;have o:=za (n.o.trans (a.mono n.o.size));have E:=(c.o _ o.o).mS)|(go_at_call 53;refine (b.o 8 (by decide) (by decide) _ m.o).mono ?_;rintro e M ⟨rfl,a⟩;have n:=za (m.o.trans (a.mono m.o.size));have J:=(c.o _ n.o).k3)|(go_at_call 53;refine (b.o 7 (by decide) (by decide) _ l.o).mono ?_;rintro e I ⟨rfl,a⟩;have m:=za (l.o.trans (a.mono l.o.size));have H:=(c.o _ m.o).kn)|(go_at_call 53;refine (b.o 6 (by decide) (by decide) _ k.o).mono ?_;rintro e G ⟨rfl,a⟩;have l:=za (k.o.trans (a.mono k.o.size));have F:=(c.o _ l.o).define)|(go_at_call 53;refine (b.o 5 (by decide) (by decide) _ h.o).mono ?_;rintro e C ⟨rfl,a⟩;have k:=za (h.o.trans (a.mono h.o.size));have B:=(c.o _ k.o).clock)|(go_at_call 53;refine (b.o 4 (by decide) (by decide) _ g.o).mono ?_;rintro e A ⟨rfl,a⟩;have h:=za (g.o.trans (a.mono g.o.size));have z:=(c.o _ h.o).type)|(go_at_call 53;refine (b.o 3 (by decide) (by decide) _ f.o).mono ?_;rintro e y ⟨rfl,a⟩;have g:=za (f.o.trans (a.mono f.o.size));have x:=(c.o _ g.o).name)|(go_at_call 53;refine (b.o 2 (by decide) (by decide) _ d.o).mono ?_;rintro e v ⟨rfl,a⟩;have f:=za (d.o.trans (a.mono d.o.size));have u:=(c.o _ f.o).deep)|(go_at_call 53;refine (b.o 1 (by decide) (by decide) _ i.o).mono ?_;rintro e t ⟨rfl,a⟩;have d:=za (i.o.trans (a.mono i.o.size));have s:=(c.o _ d.o).e6));go_ret;exact⟨rfl,r.o⟩
attribute [local go_sem ↓] Go.wp_at_zero Go.wp_at_succ
theorem y0 (S:Xs)(p:Xb)(f:Nat)(b:Int)(w:Xw)(C:1<=f)(D:f<=11)(F:Gl S w)(E:Sn S w)(x:fw w) :
 xK 11 #[fN S p f b] w λe u=>e=.returned (.tuple #[xI (f:Nat),xI b])/\xB w u:=by
 have o:=za (λW (c:xB w W)=>F.of (T:=λ_=>False) (Fr.Mo c) (λ_ e=>e.elim));have r:aa (∀W,xB w W->Sn S W):=λW c i j G H I J A s=>E i j G H I J A (c.trans (s.mono c.size));have z:aa (∀W,xB w W->fw W):=λW c=>(Z6 (w:=w) (a:=(xD 7 0)) (c.block _ (World.block_lt_of_cell? w (xD 7 0) x))).trans x;unfold fN ew;have g:=za (λ(M:Nat) (K L:Xv) W (c:xB w W)=>L1 p (aW S f) b rfl M K L W (z.o W c));have l:=za (λW (c:xB w W)=>LN S p f b W C D (o.o W c) (r.o W c));unfold fN ew at l;unfold ew at g;go_enter func11,ntmps11;go_upto_region 5 with (go_at_call 19;refine (g.o w.heap.size _ _ _ (zq w _) (zc w _)).mono ?_;rintro e y ⟨rfl,m,n⟩);obtain⟨f0,f1,N,O⟩:=zp m;have d:xB w y:=(((Fr.refl _ w).alloc _).trans n).below (B:=w.heap.size) (an _) (λk e=>by omega);have q:=za (l.o y.drew (d.drew))
 go_region_held3 (λu=>u.cell? (xD w.heap.size 1)=some (xI b))
  (first|(with_reducible (repeat (first|assumption|refine zg ?_|refine zj _ ?_|refine zk (by omega) ?_|refine zd h.o ?_ (by first|omega|(rw[au];omega)))))|go_keep)
  (first|(go_at_call 20;refine q.o.mono ?_;rintro e P ⟨rfl,t⟩;have h:=za (zw t)))
 all_goals go_wp2_with fail
 all_goals refine ab (v:=.tuple #[xI (f:Nat),xI b]) (by simp[results,results11,go_sem]) rfl ⟨rfl,?_⟩
 all_goals exact d.trans (h.o.mono d.size)
end
section
open Go.RowKit
structure p2 (S:Xs) (w:Xw) (N:Nat):Prop where
 lo:21<=N
 aC:∀i,1<=i->i<=11->∃c t,w.heap[(S i).block]?=some (.cells c t (0,0))/\(S i).block<N
 ne:∀i j,1<=i->i<=11->1<=j->j<=11->i≠j->S i≠S j
 Ay:fw w
theorem p2.sn {S:Xs}{w:Xw}{N:Nat}(h:p2 S w N):Sn S w:=by
 obtain⟨s,c,a⟩:=Option.map_eq_some_iff.1 Tryz.AO;obtain⟨t,d,e⟩:=Option.map_eq_some_iff.1 Tryz.AV;intro i j k l m n f g;by_cases b:i=j
 . subst b;rw[decide_eq_true rfl];exact run_eql_iface_ptr_same (P:=prog) f (S i) underlying39 underlying316 c a d
 rw[decide_eq_false b];obtain⟨q,t1,o,_⟩:=h.aC i k l;obtain⟨r,t2,p,_⟩:=h.aC j m n;exact run_eql_iface_ptr_other (P:=prog) f underlying39 underlying316 c a d (by rw[e];decide) (h.ne i j k l m n b) ((g.block _ (ze o)).trans o) ((g.block _ (ze p)).trans p)
end
section
open Go.RowKit
variable {b:Xl} {B lb:Nat} {a l:Xv} {w d:Xw}
theorem Tryz.AK:(prog.info? 9).map (λi=>(i.zero,i.size,i.bytes))=some (some (.string ⟨#[]⟩),1,16):=by kernel_rfl
theorem LS (lb B:Nat)(a:Xv)(n:Nat)(C:Xm)(g k c:Nat)(i:Xm)(w:Xw)(E:xH w lb #[a] 112)(f:w.ownsRow B 9 1 a n C)(I:lb<B)(x:B<=w.heap.size)(Q:i.length=k)(F:∀j u,i[j]?=some u->w.cell? (((xD g 0):Addr).add j)=some u)(D:∀u∈i,u.oneCell'=true)(P:n+k<=10000000000) :
 xK 76 #[xP lb,xS g k c] w (λe d=>e=.returned (.tuple #[])/\∃t,d.heap[lb]?=some (.cells #[t] 112 (0,0))/\d.ownsRow B 9 1 t (n+k) (C++i)/\Fr (λj=>j=lb∨a.ownBlock=some j) w d/\(∀j,t.ownBlock=some j->a.ownBlock=some j∨w.heap.size<=j)):=by
 obtain⟨N,O,J⟩:=zu E;obtain⟨K,H,y,z,A⟩:=info_parts Tryz.AK;have L:n+k<=maxLen:=by unfold maxLen;omega
 have v:(n+k)*16<=140737488355328:=by omega
 have o:=za f;clear f;go_enter func76,ntmps76;go_wp2_with (at_builtin;refine o4 _ rfl (.tmp 8) (.tmp 9) 110 rfl B 9 K _ 1 16 underlying110 H y z A rfl (by decide) a n C rfl o.o (xD g 0) k c i rfl (by omega) F D L v x ?_;intro t M f m p;obtain⟨U,G,rfl⟩:=kE f;have r:=Fr.gi m;have s:=(r.block lb J (λh=>by have:=(o.o.lt _ h).1;omega)).trans E;obtain⟨R,S,T⟩:=zu s;have q:=za f;clear f m);go_end0;refine⟨rfl,_,zh _ _ _ _ s,zi q.o (λj D _ _=>zr (by omega) rfl),?_,p⟩;exact ((r.mono (λ_ _ h=>ap h):Fr (λj=>j=lb∨a.ownBlock=some j) w M)).setCell (ao (ao rfl)) _
structure Ln (lb B:Nat) (w:Xw) (a:Xv) (b:Xl):Prop where
 aC:w.heap[lb]?=some (.cells #[a] 112 (0,0))
 own:w.ownsRow B 9 1 a b.length (b.map .string)
structure fi (lb:Nat) (w:Xw) (a:Xv) (d:Xw) (l:Xv):Prop where
 fr:Fr (λj=>j=lb∨a.ownBlock=some j) w d
 new:∀j,l.ownBlock=some j->a.ownBlock=some j∨w.heap.size<=j
theorem fi.refl (lb:Nat)(w:Xw)(a:Xv):fi lb w a w a:=⟨Fr.refl _ w,λ_ h=>ao h⟩
theorem fi.trans {f g:Xw}{c e:Xv}(h:fi lb w a f c)(k:fi lb f c g e):fi lb w a g e:=by
 have o:=h.fr.size;refine⟨h.fr.dr k.fr (λi n hs=>?_),λj m=>?_⟩
 . rcases hs with hs|hs
   . exact ao hs
   rcases h.new i hs with h'|h'
   . exact ap h'
   omega
 rcases k.new j m with h'|h'
 . exact h.new j h'
 right;omega
theorem fi.alloc (h:fi lb w a d l)(o:Obj):fi lb w a (d.alloc o) l:=⟨h.fr.alloc o,h.new⟩
theorem fi.cQ (h:fi lb w.drew a d l):fi lb w a d l:=⟨h.fr.cQ,h.new⟩
def y7 (lb B:Nat)(w:Xw)(a:Xv)(b:Xl)(e:Ending)(d:Xw):Prop :=
 e=.returned (.tuple #[])/\∃l,Ln lb B d l b/\fi lb w a d l
theorem Ln.alloc (h:Ln lb B w a b)(o:Obj):Ln lb B (w.alloc o) a b :=
 ⟨(mm _ _ _ (ze h.aC)).trans h.aC,zD h.own o⟩
theorem Ln.drew (h:Ln lb B w a b):Ln lb B w.drew a b:=⟨h.aC,h.own⟩
theorem LW {e:Xl}:∀u∈e.map Value.string,u.oneCell'=true:=by intro u c;obtain⟨s,_,rfl⟩:=List.mem_map.1 c;rfl
theorem pP (lb B:Nat)(w:Xw)(a:Xv)(b i:Xl)(g k c:Nat)(f:Nat×Nat)(h:Ln lb B w a b)(m:lb<B)(j:B<=w.heap.size)(o:w.heap[g]?=some (.cells (i.map Value.string).toArray 9 f))(n:i.length=k)(u:b.length+i.length<=10000000000) :
 xK 76 #[xP lb,xS g k c] w (y7 lb B w a (b++i)):=by
 refine (LS lb B a b.length _ g k c (i.map .string) w h.aC h.own m j (by simpa using n) (zN o rfl) LW (by omega)).mono ?_;rintro e d ⟨rfl,t,p,q,r,s⟩;refine⟨rfl,t,⟨p,?_⟩,r,s⟩;rw[aP,List.map_append,n];exact q
end
section
open Go.RowKit
def sy (b:Bool):ByteArray:=if b then ⟨#[98,111,111,108]⟩ else ⟨#[105,110,116]⟩
theorem y5 (w:Xw)(b a:Obj):((w.alloc b).alloc a).drew.heap[w.heap.size+1]?=some a:=by have h:=zc (w.alloc b) a;rw[au] at h;exact h
theorem y8 {lb:Nat}{w e:Xw}{b a:Xv}{c d:Obj}(h:fi lb ((w.alloc c).alloc d).drew b e a):fi lb w b e a:=(((fi.refl lb w b).alloc c).alloc d).trans h.cQ
theorem yZ:zH 140:=λ_ _=>by kernel_rfl
theorem y6:zH 76:=λ_ _=>by kernel_rfl
theorem Lz (lb B:Nat)(w:Xw)(i:Xv)(g:Xl)(j ck:Xb)(a u t r:Nat)(q:Nat)(b:Bool)(k:q=if b then 1 else 0)(H:Ln lb B w i g)(h:lb<B)(s:B<=w.heap.size)(p:g.length+3<=10000000000) :
 xK 79 #[xP lb,.agg #[.string j,xI a,xI q,xI u,xI t,.string ck,xI r]] w (y7 lb B w i (g++[j,⟨#[58]⟩,sy b])):=by
 subst k;go_enter func79,ntmps79;have o:∀l m,aa (Ln lb B ((w.alloc l).alloc m).drew i g):=λl m=>((H.alloc l).alloc m).drew;cases b with
 | true =>
   go_upto_region 1 with fail;go_region_law (first|(refine kD rfl 140 (.tmp 9) 90 rfl yZ (xI 1) rfl (ph _) ?_;rintro e x ⟨rfl,rfl⟩;refine⟨_,rfl,?_⟩)|(refine rl rfl 76 (.tmp 4) (.tmp 11) 179 110 rfl y6 (xP lb) (xS (w.heap.size+1) 3 3) rfl rfl (pP lb B _ i g [j,⟨#[58]⟩,sy true] (w.heap.size+1) 3 3 (0,0) (o _ _).out h (by simp;omega) (y5 w _ _) rfl (by simpa using p)) ?_;rintro e v ⟨rfl,n,f,c⟩;refine⟨_,rfl,?_⟩;have d:=za (y8 c);clear c));all_goals go_wp2_with fail
   all_goals go_end0
   all_goals exact⟨rfl,_,f,d.o⟩
 | false =>
   go_upto_region 1 with fail;go_region_law (first|(refine kD rfl 140 (.tmp 9) 90 rfl yZ (xI 0) rfl (rU _) ?_;rintro e x ⟨rfl,rfl⟩;refine⟨_,rfl,?_⟩)|(refine rl rfl 76 (.tmp 4) (.tmp 11) 179 110 rfl y6 (xP lb) (xS (w.heap.size+1) 3 3) rfl rfl (pP lb B _ i g [j,⟨#[58]⟩,sy false] (w.heap.size+1) 3 3 (0,0) (o _ _).out h (by simp;omega) (y5 w _ _) rfl (by simpa using p)) ?_;rintro e v ⟨rfl,n,f,c⟩;refine⟨_,rfl,?_⟩;have d:=za (y8 c);clear c));all_goals go_wp2_with fail
   all_goals go_end0
   all_goals exact⟨rfl,_,f,d.o⟩
end
section
def jM:ByteArray:=⟨#[40]⟩
def kr:ByteArray:=⟨#[41]⟩
def p7:ByteArray:=⟨#[44]⟩
def eA:Bool->List (List ByteArray)->List ByteArray
 | _,[]=>[]
 | b,x::l=>(if b then [p7] else [])++(x++eA true l)
def gS (l:List (List ByteArray)):List ByteArray:=[jM]++(eA false l++[kr])
def jq (k:Nat)(l:Xl):List ByteArray:=if k=4 then [jM]++(l++[kr]) else l
def iy (k:Nat)(s:Xb)(a:Xn)(l:List (List ByteArray)):List ByteArray :=
 if k=5 then [⟨#[105,102]⟩]++(l.getD 0 []++([⟨#[116,104,101,110]⟩]++(l.getD 1 []++([⟨#[101,108,115,101]⟩]++l.getD 2 []))))
 else if k=6 then [⟨#[109,101,114,103,101]⟩,s]++(jq (a.getD 0 0) (l.getD 0 [])++jq (a.getD 1 0) (l.getD 1 []))
 else if k=7∨k=8 then l.getD 0 []++[wd k,s]
 else if k=10∨k=11 then [wd k]++l.getD 0 []
 else l.getD 0 []++([wd k]++l.getD 1 [])
def pQ (n:Nat):ByteArray:=⟨(Lib.itoa (n:Int)).toArray⟩
def lM (k:Nat)(s:Xb)(n:Nat)(a:Xn)(l:List (List ByteArray)):List ByteArray :=
 if k=0 then [pQ n]
 else if k=1∨k=2 then [wd k]
 else if k=3 then [s]
 else if k=4 then [s]++gS l
 else [jM]++(iy k s a l++[kr])
mutual
def ob:Tm->List ByteArray
 | .mk k _ s _ n a=>lM k s n (a.map Tm.k) (hH a)
def hH:List Tm->List (List ByteArray)
 | []=>[]
 | t::l=>ob t::hH l
end
theorem aa2:∀a:List Tm,hH a=a.map ob
 | []=>rfl
 | t::l=>by rw[hH,aa2 l];rfl
theorem ae6 (a:List Tm):(hH a).length=a.length:=by rw[aa2,List.length_map]
theorem LO {l:List (List ByteArray)}{k:Nat}{x:Xl}(h:l[k]?=some x)(b:Bool):eA b (l.take (k+1))=eA b (l.take k)++((if b=true∨0<k then [p7] else [])++x):=by
 induction l generalizing k b with
 | nil=>simp at h
 | cons y l a =>
   cases k with
   | zero=>simp at h;subst h;simp[eA]
   | succ k => simp at h;rw[cI,cI,eA,eA,a h true];simp
def eB (v:Vr):List ByteArray:=[v.nm,⟨#[58]⟩,if v.bl then ⟨#[98,111,111,108]⟩ else ⟨#[105,110,116]⟩]
def tj (v:Vr):List ByteArray:=if ba v=1 then [⟨#[111,110]⟩,v.ck] else if ba v=2 then [⟨#[111,110]⟩,⟨#[110,111,116]⟩,v.ck] else []
def fZ (v:Vr):List ByteArray:=eB v++(tj v++[⟨#[59]⟩])
def gT (q:Qn):List ByteArray:=(if q.ns.length=1 then q.ns else gS (q.ns.map (λs=>[s])))++([⟨#[61]⟩]++(ob q.r++[⟨#[59]⟩]))
def ez (n:ay):List ByteArray :=
 [⟨#[110,111,100,101]⟩,n.nm]++(gS ((n.ak.take n.ah).map eB)++([⟨#[45,62]⟩]++(gS (((n.ak.drop n.ah).take n.aG).map eB)++((if 0<(n.ak.drop (n.ah+n.aG)).length then [⟨#[118,97,114]⟩] else [])++((n.ak.drop (n.ah+n.aG)).flatMap fZ++([⟨#[123]⟩]++(n.eqs.flatMap gT++[⟨#[125]⟩])))))))
def jp (n:ay):List UInt8:=([32]:Xu).intercalate ((ez n).map (·.data.toList))++[10]
def dU (a:List ay):List UInt8:=a.flatMap jp
end
section
open Go.RowKit
variable {a:Xl} {B lb:Nat} {tv0:Xv} {W w0:Xw}
structure aQ (lb B:Nat) (w0:Xw) (tv0:Xv) (W:Xw) (a:Xl):Prop where
 lt:lb<B
 le:B<=w0.heap.size
 lo:∀j,tv0.ownBlock=some j->B<=j/\j<w0.heap.size
 ln:∃tv,Ln lb B W tv a/\fi lb w0 tv0 W tv
theorem aQ.start {b:Xv}(h:Ln lb B W b a)(c:lb<B)(d:B<=W.heap.size):aQ lb B W b W a :=
 ⟨c,d,λj e=>h.own.lt j e,b,h,fi.refl _ _ _⟩
theorem aQ.size (h:aQ lb B w0 tv0 W a):w0.heap.size<=W.heap.size:=by obtain⟨c,_,b⟩:=h.ln;exact b.fr.size
theorem aQ.alloc (h:aQ lb B w0 tv0 W a)(o:Obj):aQ lb B w0 tv0 (W.alloc o) a:=by obtain⟨d,b,c⟩:=h.ln;exact⟨h.lt,h.le,h.lo,d,b.alloc o,c.alloc o⟩
theorem aQ.drew (h:aQ lb B w0 tv0 W a):aQ lb B w0 tv0 W.drew a:=by obtain⟨d,c,b⟩:=h.ln;exact⟨h.lt,h.le,h.lo,d,c.drew,⟨b.fr.os,b.fr.tape,b.fr.output,b.fr.size,b.fr.block⟩,b.new⟩
theorem aQ.am (h:aQ lb B w0 tv0 W a){N:Nat}(c:N<=lb):bV N w0 W:=by
 obtain⟨d,_,b⟩:=h.ln;have:=h.lt;have:=h.le;refine b.fr.am (by omega) ?_;rintro k (rfl|hk)
 . exact c
 have:=(h.lo k hk).1;omega
theorem aQ.kept (h:aQ lb B w0 tv0 W a){b:Nat}{o:Obj}(d:w0.heap[b]?=some o)(c:¬b=lb)(f:¬tv0.ownBlock=some b):W.heap[b]?=some o:=by obtain⟨g,_,e⟩:=h.ln;exact (e.fr.block b (by have:=Array.getElem?_eq_some_iff.1 d;exact this.1) (λhs=>by rcases hs with hs|hs;exact c hs;exact f hs)).trans d
def ey (lb B:Nat)(w0:Xw)(tv0:Xv)(a:Xl)(e:Ending)(b:Xw):Prop:=e=.returned (.tuple #[])/\aQ lb B w0 tv0 b a
theorem fY (h:aQ lb B w0 tv0 W a)(b:Xl)(k:Nat)(g:b.length=k)(i:(a++b).length<=10000000000)(o:Obj)(j:o=.cells (b.map Value.string).toArray 9 (0,0)) :
 xK 76 #[xP lb,xS W.heap.size k k] (W.alloc o) (ey lb B w0 tv0 (a++b)):=by
 obtain⟨n,f,d⟩:=h.ln;have:=h.lt;have:=h.le;have p:=d.fr.size;subst j;refine (pP lb B _ n a b W.heap.size k k (0,0) (f.alloc _) h.lt (by rw[au];omega) (zc W _) g (by simpa using i)).mono ?_;rintro e q ⟨rfl,c,l,m⟩;exact⟨rfl,h.lt,h.le,h.lo,c,l,(d.alloc _).trans m⟩
theorem pO (h:aQ lb B w0 tv0 W a)(b:Xl)(k:Nat)(g:b.length=k)(i:(a++b).length<=10000000000)(o:Obj)(j:o=.cells (b.map Value.string).toArray 9 (0,0)) :
 xK 76 #[xP lb,xS W.heap.size k k] (W.alloc o).drew (ey lb B w0 tv0 (a++b)):=by
 obtain⟨n,f,d⟩:=h.ln;have:=h.lt;have:=h.le;have p:=d.fr.size;subst j;refine (pP lb B _ n a b W.heap.size k k (0,0) (f.alloc _).drew h.lt (by show B<=(W.alloc _).heap.size;rw[au];omega) (zc W _) g (by simpa using i)).mono ?_;rintro e q ⟨rfl,c,l,m⟩;exact⟨rfl,h.lt,h.le,h.lo,c,l,(d.alloc _).trans m.cQ⟩
theorem y2 (F:FuncId)(g:Xa)(hF:zH F)(c:List (List ByteArray))
 (J:∀(i:Nat) (u:Xl),c[i]?=some u->∀(W:Xw) (a:Xl),aQ lb B w0 tv0 W a->(a++u).length<=10000000000->xK F (#[xI i]++g) W (ey lb B w0 tv0 (a++u)))
 (W:Xw) (a:Xl) (h:aQ lb B w0 tv0 W a) (z:(a++gS c).length<=10000000000) (V:c.length<=10000000000) :
 xK 77 #[xP lb,xI c.length,.func (.func F) #[] g] W (ey lb B w0 tv0 (a++gS c)):=by
 have Q:∀(f:Xa) (w:Xw),(callFunc F f).run prog w=.ok (.enter F f) w:=hF;have H:=za h;have O:=za J;have n:∀k,(eA false (c.take k)).length<=(eA false c).length:=by
  intro k;have e:∀(l:List (List ByteArray)) (b:Bool) (k:Nat),(eA b (l.take k)).length<=(eA b l).length:=by
   intro l;induction l with
   | nil=>intro b k;simp
   | cons x l T =>
     intro b k;cases k with
     | zero=>simp[eA]
     | succ k=>rw[cI,eA,eA];simp only[aP];have:=T true k;omega
  exact e c false k
 have S:a.length+(eA false c).length+2<=10000000000:=by unfold gS at z;simp only[aP,bJ,cw] at z;omega
 clear h J z;have d:=za n;clear n;go_enter func77,ntmps77;go_wp2_with (go_at_call 76;refine (fY H.o [jM] 1 rfl (by simp only[aP,bJ,cw];omega) _ rfl).mono ?_;rintro e X ⟨rfl,G⟩;have M:=za G;clear G);go_loopg [11] (c.length+1) (λj i wr=>∃k:Nat,k+j=c.length+1/\k<=c.length/\i=xI k/\aa (aQ lb B w0 tv0 wr (a++[jM]++eA false (c.take k))));case atStart=>exact⟨0,by omega,aE _,rfl,za (by simpa [eA] using M.o)⟩
 case round =>
  obtain⟨k,R,U,rfl,s⟩:=hrel;have q:=d.o k;by_cases y:k<c.length
  . obtain⟨u,A⟩:∃u,c[k]?=some u:=⟨_,av y⟩;have v:=za (LO A false);have r:=d.o (k+1);have D:=za (O.o k u A);have t:(eA false (c.take (k+1))).length=(eA false (c.take k)).length+((if 0<k then 1 else 0)+u.length):=by rw[v.o];simp only[aP];split <;> split <;> simp_all
    clear A;by_cases E:k=0
    . have C:a.length+1+(eA false (c.take k)).length+u.length<=10000000000:=(by rw[ae (by omega)] at t;omega);have o:¬((0:Int)<(k:Int)):=(by omega);have L:=za E;clear t r q E;go_wp2_with fail;with_reducible refine (D.o _ _ s.o (by simp only[aP,bJ,cw];omega)).mono ?_
      rintro e K ⟨rfl,m⟩;have p:=za m;clear m;go_wp2_with fail;go_roundg (gk-1);case measure=>omega
      refine⟨k+1,by omega,by omega,by go_num,za ?_⟩;have:=p.o;rw[v.o];simpa [bw,eA,L.o] using this
    have o:0<k:=(by omega);have C:a.length+1+(eA false (c.take k)).length+1+u.length<=10000000000:=(by simp[o] at t;omega);clear t r q;go_wp2_with (go_at_call 76;refine (fY s.o [p7] 1 rfl (by simp only[aP,bJ,cw];omega) _ rfl).mono ?_;rintro e K ⟨rfl,m⟩;have p:=za m;clear m);with_reducible refine (D.o _ _ p.o (by simp only[aP,bJ,cw];omega)).mono ?_
    rintro e Y ⟨rfl,I⟩;have N:=za I;clear I;go_wp2_with fail;go_roundg (gk-1);case measure=>omega
    refine⟨k+1,by omega,by omega,by go_num,za ?_⟩;have:=N.o;rw[v.o];simpa [bw,o] using this
  have P:k=c.length:=by omega
  subst P;rw[List.take_length] at s;go_wp2_with (go_at_call 76;refine (fY s.o [kr] 1 rfl (by simp only[aP,bJ,cw];omega) _ rfl).mono ?_;rintro e K ⟨rfl,m⟩;have p:=za m;clear m);first|go_end0|refine ab (results_none rfl _ _ _) rfl ?_
  exact⟨rfl,by simpa [gS,bw] using p.o⟩
end
section
open Go.RowKit
variable {a:Xl} {B lb:Nat} {c:Xv} {W b:Xw}
theorem aQ.box (h:aQ lb B b c W a)(o:Obj):∃f,aQ lb B (W.alloc o) f (W.alloc o) a/\(∀j,f.ownBlock=some j->j<W.heap.size)/\lb<W.heap.size/\∀(i:Xw) (d:Xl),aQ lb B (W.alloc o) f i d->aQ lb B b c i d:=by obtain⟨f,l,m⟩:=h.ln;have q:=m.fr.size;have:=h.le;have:=h.lt;refine⟨f,aQ.start (l.alloc o) h.lt (by rw[au];omega),λj e=>(l.own.lt j e).2,by omega,λi d k=>?_⟩;obtain⟨g,n,p⟩:=k.ln;exact⟨h.lt,h.le,h.lo,g,n,(m.alloc o).trans p⟩
theorem aQ.Ah (h:aQ lb B b c W a)(o f:Obj):∃g,aQ lb B ((W.alloc o).alloc f) g ((W.alloc o).alloc f) a/\(∀j,g.ownBlock=some j->j<W.heap.size)/\lb<W.heap.size/\∀(l:Xw) (d:Xl),aQ lb B ((W.alloc o).alloc f) g l d->aQ lb B b c l d:=by obtain⟨g,m,n⟩:=h.ln;have r:=n.fr.size;have:=h.le;have:=h.lt;refine⟨g,aQ.start ((m.alloc o).alloc f) h.lt (by simp only[au];omega),λj e=>(m.own.lt j e).2,by omega,λl d k=>?_⟩;obtain⟨i,p,q⟩:=k.ln;exact⟨h.lt,h.le,h.lo,i,p,((n.alloc o).alloc f).trans q⟩
def lS (v:Vr):Value:=.agg #[.string v.nm,xI v.a,xI (dv v:Nat),xI (ba v:Nat),xI v.on,.string v.ck,xI v.ca]
theorem sx (h:aQ lb B b c W a)(v:Vr)(i:(a++eB v).length<=10000000000) :
 xK 79 #[xP lb,lS v] W (ey lb B b c (a++eB v)):=by
 obtain⟨l,g,f⟩:=h.ln;have:=h.le;have m:=f.fr.size;refine (Lz lb B W l a v.nm v.ck v.a (ba v) v.on v.ca (dv v) v.bl rfl g h.lt (by omega) (by simpa [eB] using i)).mono ?_;rintro e n ⟨rfl,d,j,k⟩;exact⟨rfl,h.lt,h.le,h.lo,d,j,f.trans k⟩
def oe (v:Vr):Prop:=∀(lb B:Nat) (b W:Xw) (c:Xv) (a:Xl),aQ lb B b c W a->(a++fZ v).length<=10000000000->xK 81 #[xP lb,lS v] W (ey lb B b c (a++fZ v))
theorem afl (v:Vr):ba v=0∨ba v=1∨ba v=2:=by unfold ba;split;split;simp;simp;simp
theorem EY (v:Vr)(d:ba v=0):oe v:=by
 intro lb B b W c a h l;have x:=za d;clear d;obtain⟨C,q,s,A,u⟩:=h.box (.cells #[.string v.nm,xI v.a,xI (dv v:Nat),xI (ba v:Nat),xI v.on,.string v.ck,xI v.ca] 95);have i:(a++eB v).length<=10000000000:=by simp only[fZ,aP] at l ⊢;omega
 have k:=sx q v i;have w:∀(m:Xw) (j:Xl),aQ lb B _ C m j->xH m W.heap.size #[.string v.nm,xI v.a,xI (dv v:Nat),xI (ba v:Nat),xI v.on,.string v.ck,xI v.ca] 95:=λm j z=>z.kept (zc W _) (by omega) (λe=>by have:=s _ e;omega);have o:=l;clear h q l i s;unfold lS at k ⊢;go_enter func81,ntmps81;go_wp2_with (go_at_call 79;refine k.mono ?_);rintro e K ⟨rfl,n⟩;have g:=w _ _ n;obtain⟨D,E,F,y,G,H,I,J,cz⟩:=eK g;clear g;have d:=x.o;rw[d] at y;have f:fZ v=eB v++[⟨#[59]⟩]:=by simp[fZ,tj,d]
 rw[f] at o;clear d k;go_wp2_with (go_at_call 76;refine (fY n [⟨#[59]⟩] 1 rfl (by simpa using o) _ rfl).mono ?_;rintro e L ⟨rfl,p⟩;have t:=p;clear p);first|go_end0|refine ab (results_none rfl _ _ _) rfl ?_
 exact⟨rfl,u _ _ (by rw[f];have r:=t;rw[bw] at r;exact r)⟩
theorem ahL (v:Vr):oe v:=by
 by_cases q:ba v=0
 . exact EY v q
 intro lb B b W c a h r;have A:=za q;clear q;obtain⟨E,x,y,D,u⟩:=h.box (.cells #[.string v.nm,xI v.a,xI (dv v:Nat),xI (ba v:Nat),xI v.on,.string v.ck,xI v.ca] 95);have l:(a++eB v).length<=10000000000:=by simp only[fZ,aP] at r ⊢;omega
 have n:=sx x v l;have z:∀(t:Xw) (m:Xl),aQ lb B _ E t m->xH t W.heap.size #[.string v.nm,xI v.a,xI (dv v:Nat),xI (ba v:Nat),xI v.on,.string v.ck,xI v.ca] 95:=λt m C=>C.kept (zc W _) (by omega) (λe=>by have:=y _ e;omega);have g:=r;clear h x r l y;unfold lS at n ⊢;go_enter func81,ntmps81;go_wp2_with (go_at_call 79;refine n.mono ?_);rintro e O ⟨rfl,o⟩;have j:=z _ _ o;obtain⟨H,I,J,w,K,L,M,N,cz⟩:=eK j;clear j;have s:ba v=1∨ba v=2:=by have:=A.o;rcases afl v with h|h|h <;> omega
 rcases s with hs|hs
 . rw[hs] at w;have d:fZ v=eB v++([⟨#[111,110]⟩,v.ck]++[⟨#[59]⟩]):=by simp[fZ,tj,hs]
   rw[d] at g;clear hs n;go_wp2_with (first|(revert f;intro f;go_at_call 76;refine (fY f [⟨#[59]⟩] 1 rfl (by simpa using g) _ rfl).mono ?_;rintro e G ⟨rfl,p⟩)|(go_at_call 76;refine (fY o [⟨#[111,110]⟩,v.ck] 2 rfl (by have:=g;simp only[aP,bJ,cw] at this ⊢;omega) _ rfl).mono ?_;rintro e F ⟨rfl,i⟩;have f:=i;clear i));first|go_end0|refine ab (results_none rfl _ _ _) rfl ?_
   exact⟨rfl,u _ _ (by rw[d];have k:=p;rw[bw,bw] at k;exact k)⟩
 rw[hs] at w;have d:fZ v=eB v++([⟨#[111,110]⟩,⟨#[110,111,116]⟩,v.ck]++[⟨#[59]⟩]):=by simp[fZ,tj,hs]
 rw[d] at g;clear hs n;go_wp2_with (first|(revert f;intro f;go_at_call 76;refine (fY f [⟨#[59]⟩] 1 rfl (by simpa using g) _ rfl).mono ?_;rintro e G ⟨rfl,p⟩)|(go_at_call 76;refine (fY o [⟨#[111,110]⟩,⟨#[110,111,116]⟩,v.ck] 3 rfl (by have:=g;simp only[aP,bJ,cw] at this ⊢;omega) _ rfl).mono ?_;rintro e F ⟨rfl,i⟩;have f:=i;clear i));first|go_end0|refine ab (results_none rfl _ _ _) rfl ?_
 exact⟨rfl,u _ _ (by rw[d];have k:=p;rw[bw,bw] at k;exact k)⟩
theorem LL:zH 78:=λ_ _=>by kernel_rfl
theorem LA:zH 80:=λ_ _=>by kernel_rfl
theorem LM {N:Nat}(h:aQ lb B b c W a)(C:N<=lb)(n:ay)(o:Nat)(Q E:Xv)(R:Xm)(s:NT b N n o Q E R)(j k:Nat)
 (l:xH b j #[xP lb] 179) (m:xH b k #[xP o] 71) (p:¬j=lb) (A:¬k=lb) (t1:¬c.ownBlock=some j) (t2:¬c.ownBlock=some k)
 (i:Nat) (v:Vr) (t:n.ak[i]?=some v) (H:(a++eB v).length<=10000000000) :
 xK 78 (#[xI i]++#[xP j,xP k]) W (ey lb B b c (a++eB v)):=by
 obtain⟨p0,ar,aA⟩:=zu (h.kept l p t1);obtain⟨q0,qf,aL⟩:=zu (h.kept m A t2);have f:=s.am (h.am C);obtain⟨T,U,V,X,Y,Z,nf,nz⟩:=zt f.aC;obtain⟨x,z,rfl⟩:=zB f.bZ;obtain⟨g,rfl,v0,v1,v2,v3,v4,v5,v6⟩:=hj f.bZ t;have F:=s.bO;have G:=(aB.1 t).1;have u:(∀(d:Xw) (r:Xl),aQ lb B b c d r->d.cell? (xD j 0)=some (xP lb)/\d.cell? (xD k 0)=some (xP o)/\d.cell? (xD o 2)=some (xS g n.ak.length z)/\d.cell? (xD g (i*7))=some (.string v.nm)/\d.cell? (xD g (i*7+1))=some (xI v.a)/\d.cell? (xD g (i*7+2))=some (xI (dv v:Nat))/\d.cell? (xD g (i*7+3))=some (xI (ba v:Nat))/\d.cell? (xD g (i*7+4))=some (xI v.on)/\d.cell? (xD g (i*7+5))=some (.string v.ck)/\d.cell? (xD g (i*7+6))=some (xI v.ca)):=by intro d r w;have q:=s.am (w.am C);obtain⟨S,D,I,J,K,L,M,O,P⟩:=hj q.bZ t;cases D;exact⟨(zu (w.kept l p t1)).1,(zu (w.kept m A t2)).1,(zt q.aC).2.2.1,I,J,K,L,M,O,P⟩
 have y:=sx h.drew v H;clear h f l m s t;unfold lS at y
 show Calls prog _ #[xI i,xP j,xP k] W _;go_enter func78,ntmps78;go_region_held3 (λd=>d.cell? (xD j 0)=some (xP lb)/\d.cell? (xD k 0)=some (xP o)/\d.cell? (xD o 2)=some (xS g n.ak.length z)/\d.cell? (xD g (i*7))=some (.string v.nm)/\d.cell? (xD g (i*7+1))=some (xI v.a)/\d.cell? (xD g (i*7+2))=some (xI (dv v:Nat))/\d.cell? (xD g (i*7+3))=some (xI (ba v:Nat))/\d.cell? (xD g (i*7+4))=some (xI v.on)/\d.cell? (xD g (i*7+5))=some (.string v.ck)/\d.cell? (xD g (i*7+6))=some (xI v.ca)) (first|go_keep|exact u _ _ p) (first|(go_at_call 79;refine y.mono ?_;rintro e w1 ⟨rfl,p⟩));all_goals first|go_end0|refine ab (results_none rfl _ _ _) rfl ?_
 all_goals exact⟨rfl,p⟩
end
section
open Go.RowKit
variable {j:Xl} {B N b i lb:Nat} {S:Xs} {t c l:Tm} {f:Xv} {W w a:Xw}
theorem iP {d:Xw}(h:bV N w d)(e:b<N):d.cell? (xD b i)=w.cell? ⟨b,i,none⟩:=by have:=h b e;simp only[World.cell?,this]
theorem y1 {k:Nat}(h:k<24):gJ[k]?=some (wd k):=by have:gJ.length=24:=rfl;unfold wd;rw[av (by omega)];rfl
theorem TT.look {u:Tm}(h:TT w N t (xP b))(z:t.ts[i]?=some u):∃g p o,xC w b 5 (xS g t.ts.length p)/\xC w g i (xP o)/\TT w N u (xP o)/\g<N:=by obtain⟨A,r,K,e,H,m,k,d,n,q⟩:=h.ptr;cases e;obtain⟨C,D,E,F,G,s,I,J⟩:=zt m;obtain⟨x,p,rfl⟩:=zB k;obtain⟨g,o,rfl,y,v,_⟩:=TT.arg k d n z;exact⟨g,p,o,d▸s,y,v,q g rfl⟩
theorem TT.mW (h:TT w N t (xP b)):xC w b 0 (xI t.k)/\xC w b 2 (.string t.s)/\xC w b 4 (xI t.n)/\b<w.heap.size/\b<N:=by obtain⟨v,g,C,e,r,d,m,k,n,s⟩:=h.ptr;cases e;obtain⟨o,x,p,y,q,z,A,u⟩:=zt d;exact⟨o,p,q,u,r⟩
structure Kn (S:Xs) (w:Xw):Prop where
 gl:Gl S w
 oy:Lib.TabIs prog w "internal/strconv.uint64pow10" .u64 Lib.pow10Tab
theorem Tryz.Qz:prog.globalNamed "internal/strconv.uint64pow10"=some 18:=by kernel_rfl
theorem Kn.ln (h:Kn S a)(g:aQ lb B a f W j)(d:21<=lb):Kn S W:=by
 obtain⟨n,_,m⟩:=g.ln;have:=g.lt;refine⟨h.gl.of m.fr (λk hk=>?_),?_⟩
 . rcases hk with rfl|hk
   . exact d
   have:=(g.lo k hk).1;omega
 have e:=h.oy;unfold Lib.TabIs World.var? at e ⊢;rw[Tryz.Qz] at e ⊢;simp only[Option.bind_some] at e ⊢;rw[g.am (N:=21) d _ (by decide)];exact e
def ke (S:Xs)(t:Tm):Prop:=∀(lb B N:Nat) (a:Xw) (f:Xv) (W:Xw) (j:Xl) (v:Xv),N<=lb->21<=N->TT a N t v->Kn S a->aQ lb B a f W j->(j++ob t).length<=10000000000->xK 142 #[xP lb,v] W (ey lb B a f (j++ob t))
theorem YI (r:ke S t)(lb B N:Nat)(a:Xw)(f:Xv)(W:Xw)(j:Xl)(v:Xv)(p:N<=lb)(h:21<=N)(k:TT a N t v)(s:Kn S a)(m:aQ lb B a f W j)(A:(j++jq t.k (ob t)).length<=10000000000) :
 xK 198 #[xP lb,v] W (ey lb B a f (j++jq t.k (ob t))):=by
 obtain⟨b,_,_,rfl,_⟩:=k.ptr;obtain⟨y,D,E,cz,_⟩:=(k.am (m.am p)).mW;have g:=za A;by_cases q:t.k=4
 . have o:jq t.k (ob t)=[jM]++(ob t++[kr]):=by unfold jq;rw[ag q]
   rw[o] at g ⊢;rw[q] at y;go_enter func198,ntmps198;have d:=trivial;go_wp2_with (clear d;go_at_call 76;refine (fY m [jM] 1 rfl (by have:=g.o;simp only[aP,bJ,cw] at this ⊢;omega) _ rfl).mono ?_;rintro e F ⟨rfl,u⟩);have d:=trivial;go_wp2_with (clear d;go_at_call 142;refine (r lb B N a f _ _ _ p h k s u (by have:=g.o;simp only[aP,bJ,cw] at this ⊢;omega)).mono ?_;rintro e C ⟨rfl,n⟩);have d:=trivial;go_wp2_with (clear d;go_at_call 76;refine (fY n [kr] 1 rfl (by have:=g.o;simp only[aP,bJ,cw] at this ⊢;omega) _ rfl).mono ?_;rintro e G ⟨rfl,x⟩);first|go_end0|refine ab (results_none rfl _ _ _) rfl ?_
   exact⟨rfl,by simpa [bw] using x⟩
 have o:jq t.k (ob t)=ob t:=by unfold jq;rw[ae q]
 rw[o] at g ⊢;have z:¬((t.k:Int)=4):=by omega
 go_enter func198,ntmps198;have d:=trivial;go_wp2_with (clear d;go_at_call 142;refine (r lb B N a f _ _ _ p h k s m g.o).mono ?_;rintro e C ⟨rfl,n⟩);first|go_end0|refine ab (results_none rfl _ _ _) rfl ?_
 exact⟨rfl,n⟩
theorem LP (Q:∀u∈t.ts,ke S u)(y:N<=lb)(x:21<=N)(A:TT a N t (xP b))(r:Kn S a)(h:aQ lb B a f W j)(v:List Tm)(F:t.ts=v)(P:0<v.length)(L:Xl)(O:iy t.k t.s (v.map Tm.k) (hH v)=L)(I:(j++iy t.k t.s (t.ts.map Tm.k) (hH t.ts)).length<=10000000000)
 (k:∀(g D:Nat) (q:Nat->Nat),aa (∀(n:Xw) (m:Xl),aQ lb B a f n m->xC n b 0 (xI t.k)/\xC n b 2 (.string t.s)/\xC n b 5 (xS g v.length D))->aa (∀i u,v[i]?=some u->(∀(n:Xw) (m:Xl),aQ lb B a f n m->xC n g i (xP (q i)))/\(∀(n:Xw) (m:Xl),aQ lb B a f n m->(m++ob u).length<=10000000000->xK 142 #[xP lb,xP (q i)] n (ey lb B a f (m++ob u)))/\∀(n:Xw) (m:Xl),aQ lb B a f n m->(m++jq u.k (ob u)).length<=10000000000->xK 198 #[xP lb,xP (q i)] n (ey lb B a f (m++jq u.k (ob u))))->aa (aQ lb B a f W j)->aa (∀(n:Xw) (m:Xl),aQ lb B a f n m->Gl S n)->aa ((j++L).length<=10000000000)->xK 182 #[xP lb,xP b] W (ey lb B a f (j++L))) :
 xK 182 #[xP lb,xP b] W (ey lb B a f (j++iy t.k t.s (t.ts.map Tm.k) (hH t.ts))):=by
 subst F;rw[O] at I ⊢;obtain⟨c,H⟩:∃u,t.ts[0]?=some u:=⟨_,av P⟩;obtain⟨g,D,_,d,_,_,T⟩:=A.look H;have E:=A.mW.2.2.2.2;have z:∀i,∃q,∀u,t.ts[i]?=some u->a.cell? (xD g i)=some (xP q)/\TT a N u (xP q):=by
  intro i;cases R:t.ts[i]? with
  | none=>exact⟨0,λu C=>by cases C⟩
  | some u => obtain⟨X,K,q,M,e,p,_⟩:=A.look R;cases d.symm.trans M;exact⟨q,λY G=>by cases G;exact⟨e,p⟩⟩
 refine k g D (λi=>(z i).choose) (λn m o=>?_) (λi u C=>?_) h (λn m o=>(r.ln o (by omega)).gl) I
 . obtain⟨U,V,_,_,_⟩:=(A.am (o.am y)).mW;exact⟨U,V,(iP (o.am y) E).trans d⟩
 obtain⟨e,p⟩:=(z i).choose_spec u C;have J:=Q u (aM C);exact⟨λn m o=>(iP (o.am y) T).trans e,λn m o s=>J lb B N a f n m _ y x p r o s,λn m o s=>YI J lb B N a f n m _ y x p r o s⟩
def y9 (S:Xs)(t:Tm):Prop:=∀(lb B N:Nat) (a:Xw) (f:Xv) (W:Xw) (j:Xl) (v:Xv),N<=lb->21<=N->TT a N t v->Kn S a->aQ lb B a f W j->(j++iy t.k t.s (t.ts.map Tm.k) (hH t.ts)).length<=10000000000->xK 182 #[xP lb,v] W (ey lb B a f (j++iy t.k t.s (t.ts.map Tm.k) (hH t.ts)))
theorem ahO {s:Tm}(J:∀u∈t.ts,ke S u)(L:t.ts=[c,l,s])(n:t.k=5):y9 S t:=by
 intro lb B N a f W j v K A H C h M;obtain⟨b,_,_,rfl,_⟩:=H.ptr;refine LP J K A H C h [c,l,s] L (by simp) ([⟨#[105,102]⟩]++(ob c++([⟨#[116,104,101,110]⟩]++(ob l++([⟨#[101,108,115,101]⟩]++ob s))))) (by unfold iy;rw[ag n];rfl) M ?_;intro g P Q d o D O p;go_enter func182,ntmps182;obtain⟨k,q,r⟩:=d.o _ _ D.o;rw[n] at k;have m:=trivial;go_wp2_with (clear m;go_at_call 76;refine (fY D.o [⟨#[105,102]⟩] 1 rfl (by have:=p.o;simp only[aP,bJ,cw] at this ⊢;omega) _ rfl).mono ?_);rintro e R ⟨rfl,x⟩;obtain⟨k,q,r⟩:=d.o _ _ x;have E:=(o.o 0 c rfl).1 _ _ x;rw[n] at k;have m:=trivial;go_wp2_with (clear m;go_at_call 142;refine ((o.o 0 c rfl).2.1 _ _ x (by have:=p.o;simp only[aP,bJ,cw] at this ⊢;omega)).mono ?_);rintro e T ⟨rfl,F⟩;obtain⟨k,q,r⟩:=d.o _ _ F;rw[n] at k;have m:=trivial;go_wp2_with (clear m;go_at_call 76;refine (fY F [⟨#[116,104,101,110]⟩] 1 rfl (by have:=p.o;simp only[aP,bJ,cw] at this ⊢;omega) _ rfl).mono ?_);rintro e U ⟨rfl,y⟩;obtain⟨k,q,r⟩:=d.o _ _ y;have E:=(o.o 1 l rfl).1 _ _ y;rw[n] at k;have m:=trivial;go_wp2_with (clear m;go_at_call 142;refine ((o.o 1 l rfl).2.1 _ _ y (by have:=p.o;simp only[aP,bJ,cw] at this ⊢;omega)).mono ?_);rintro e V ⟨rfl,G⟩;obtain⟨k,q,r⟩:=d.o _ _ G;rw[n] at k;have m:=trivial;go_wp2_with (clear m;go_at_call 76;refine (fY G [⟨#[101,108,115,101]⟩] 1 rfl (by have:=p.o;simp only[aP,bJ,cw] at this ⊢;omega) _ rfl).mono ?_);rintro e X ⟨rfl,z⟩;obtain⟨k,q,r⟩:=d.o _ _ z;have E:=(o.o 2 s rfl).1 _ _ z;rw[n] at k;have m:=trivial;go_wp2_with (clear m;go_at_call 142;refine ((o.o 2 s rfl).2.1 _ _ z (by have:=p.o;simp only[aP,bJ,cw] at this ⊢;omega)).mono ?_);rintro e Y ⟨rfl,I⟩;go_wp2_with fail;first|go_end0|refine ab (results_none rfl _ _ _) rfl ?_
 exact⟨rfl,by simpa [bw] using I⟩
theorem ahM (F:∀u∈t.ts,ke S u)(H:t.ts=[c,l])(o:t.k=6):y9 S t:=by
 intro lb B N a f W j v G s C x h I;obtain⟨b,_,_,rfl,_⟩:=C.ptr;refine LP F G s C x h [c,l] H (by simp) ([⟨#[109,101,114,103,101]⟩,t.s]++(jq c.k (ob c)++jq l.k (ob l))) (by unfold iy;rw[ae (by omega),ag o];rfl) I ?_;intro g K L d n y J r;go_enter func182,ntmps182;obtain⟨k,z,A⟩:=d.o _ _ y.o;rw[o] at k;have m:=trivial;go_wp2_with (clear m;go_at_call 76;refine (fY y.o [⟨#[109,101,114,103,101]⟩,t.s] 2 rfl (by have:=r.o;simp only[aP,bJ,cw] at this ⊢;omega) _ rfl).mono ?_);rintro e M ⟨rfl,p⟩;obtain⟨k,z,A⟩:=d.o _ _ p;have E:=(n.o 0 c rfl).1 _ _ p;rw[o] at k;have m:=trivial;go_wp2_with (clear m;go_at_call 198;refine ((n.o 0 c rfl).2.2 _ _ p (by have:=r.o;simp only[aP,bJ,cw] at this ⊢;omega)).mono ?_);rintro e O ⟨rfl,q⟩;obtain⟨k,z,A⟩:=d.o _ _ q;have E:=(n.o 1 l rfl).1 _ _ q;rw[o] at k;have m:=trivial;go_wp2_with (clear m;go_at_call 198;refine ((n.o 1 l rfl).2.2 _ _ q (by have:=r.o;simp only[aP,bJ,cw] at this ⊢;omega)).mono ?_);rintro e P ⟨rfl,D⟩;go_wp2_with fail;first|go_end0|refine ab (results_none rfl _ _ _) rfl ?_
 exact⟨rfl,by simpa [bw] using D⟩
theorem ahN (G:∀u∈t.ts,ke S u)(I:t.ts=[c])(y:t.k=7):y9 S t:=by
 intro lb B N a f W j v H o x p h J;obtain⟨b,_,_,rfl,_⟩:=x.ptr;refine LP G H o x p h [c] I (by simp) (ob c++[wd 7,t.s]) (by unfold iy;rw[ae (by omega),ae (by omega),ag (by omega),y];rfl) J ?_;intro g L M d r k A s;have q:gJ[7]?=some (wd 7):=y1 (by omega);rw[y] at d;go_enter func182,ntmps182;obtain⟨C,D,F⟩:=d.o _ _ k.o;have E:=(r.o 0 c rfl).1 _ _ k.o;have K:=trivial;go_wp2_with (clear K;go_at_call 142;refine ((r.o 0 c rfl).2.1 _ _ k.o (by have:=s.o;simp only[aP,bJ,cw] at this ⊢;omega)).mono ?_);rintro e O ⟨rfl,m⟩;obtain⟨C,D,F⟩:=d.o _ _ m;go_upto_region 18 with fail;go_region_held3 (λz=>z.cell? (xD b 0)=some (xI 7)/\z.cell? (xD b 2)=some (.string t.s)) (first|go_keep|exact⟨(d.o _ _ n).1,(d.o _ _ n).2.1⟩) (first|(go_at_call 76;refine (pO m [wd 7,t.s] 2 rfl (by have:=s.o;simp only[aP,bJ,cw] at this ⊢;omega) _ rfl).mono ?_;rintro e P ⟨rfl,n⟩)|(go_at_call 180;refine (sj S 7 (wd 7) q _ (A.o _ _ m.drew)).mono ?_;rintro e Q ⟨rfl,rfl⟩));first|go_end0|refine ab (results_none rfl _ _ _) rfl ?_
 exact⟨rfl,by simpa [bw] using n⟩
theorem ahG (G:∀u∈t.ts,ke S u)(I:t.ts=[c])(y:t.k=8):y9 S t:=by
 intro lb B N a f W j v H o x p h J;obtain⟨b,_,_,rfl,_⟩:=x.ptr;refine LP G H o x p h [c] I (by simp) (ob c++[wd 8,t.s]) (by unfold iy;rw[ae (by omega),ae (by omega),ag (by omega),y];rfl) J ?_;intro g L M d r k A s;have q:gJ[8]?=some (wd 8):=y1 (by omega);rw[y] at d;go_enter func182,ntmps182;obtain⟨C,D,F⟩:=d.o _ _ k.o;have E:=(r.o 0 c rfl).1 _ _ k.o;have K:=trivial;go_wp2_with (clear K;go_at_call 142;refine ((r.o 0 c rfl).2.1 _ _ k.o (by have:=s.o;simp only[aP,bJ,cw] at this ⊢;omega)).mono ?_);rintro e O ⟨rfl,m⟩;obtain⟨C,D,F⟩:=d.o _ _ m;go_upto_region 18 with fail;go_region_held3 (λz=>z.cell? (xD b 0)=some (xI 8)/\z.cell? (xD b 2)=some (.string t.s)) (first|go_keep|exact⟨(d.o _ _ n).1,(d.o _ _ n).2.1⟩) (first|(go_at_call 76;refine (pO m [wd 8,t.s] 2 rfl (by have:=s.o;simp only[aP,bJ,cw] at this ⊢;omega) _ rfl).mono ?_;rintro e P ⟨rfl,n⟩)|(go_at_call 180;refine (sj S 8 (wd 8) q _ (A.o _ _ m.drew)).mono ?_;rintro e Q ⟨rfl,rfl⟩));first|go_end0|refine ab (results_none rfl _ _ _) rfl ?_
 exact⟨rfl,by simpa [bw] using n⟩
theorem YT (G:∀u∈t.ts,ke S u)(I:t.ts=[c])(r:t.k=10):y9 S t:=by
 intro lb B N a f W j v H p z q h J;obtain⟨b,_,_,rfl,_⟩:=z.ptr;refine LP G H p z q h [c] I (by simp) ([wd 10]++ob c) (by unfold iy;rw[ae (by omega),ae (by omega),ae (by omega),ag (by omega),r];rfl) J ?_;intro g K L d x m C y;have s:gJ[10]?=some (wd 10):=y1 (by omega);go_enter func182,ntmps182;obtain⟨o,D,F⟩:=d.o _ _ m.o;rw[r] at o;have k:=trivial;go_wp2_with (clear k;go_at_call 180;refine (sj S 10 (wd 10) s _ (C.o _ _ m.o)).mono ?_);rintro e P ⟨rfl,rfl⟩;have k:=trivial;go_wp2_with (clear k;go_at_call 76;refine (fY m.o [wd 10] 1 rfl (by have:=y.o;simp only[aP,bJ,cw] at this ⊢;omega) _ rfl).mono ?_);rintro e M ⟨rfl,n⟩;obtain⟨o,D,F⟩:=d.o _ _ n;have E:=(x.o 0 c rfl).1 _ _ n;rw[r] at o;have k:=trivial;go_wp2_with (clear k;go_at_call 142;refine ((x.o 0 c rfl).2.1 _ _ n (by have:=y.o;simp only[aP,bJ,cw] at this ⊢;omega)).mono ?_);rintro e O ⟨rfl,A⟩;go_wp2_with fail;first|go_end0|refine ab (results_none rfl _ _ _) rfl ?_
 exact⟨rfl,by simpa [bw] using A⟩
theorem ahJ (G:∀u∈t.ts,ke S u)(I:t.ts=[c])(r:t.k=11):y9 S t:=by
 intro lb B N a f W j v H p z q h J;obtain⟨b,_,_,rfl,_⟩:=z.ptr;refine LP G H p z q h [c] I (by simp) ([wd 11]++ob c) (by unfold iy;rw[ae (by omega),ae (by omega),ae (by omega),ag (by omega),r];rfl) J ?_;intro g K L d x m C y;have s:gJ[11]?=some (wd 11):=y1 (by omega);go_enter func182,ntmps182;obtain⟨o,D,F⟩:=d.o _ _ m.o;rw[r] at o;have k:=trivial;go_wp2_with (clear k;go_at_call 180;refine (sj S 11 (wd 11) s _ (C.o _ _ m.o)).mono ?_);rintro e P ⟨rfl,rfl⟩;have k:=trivial;go_wp2_with (clear k;go_at_call 76;refine (fY m.o [wd 11] 1 rfl (by have:=y.o;simp only[aP,bJ,cw] at this ⊢;omega) _ rfl).mono ?_);rintro e M ⟨rfl,n⟩;obtain⟨o,D,F⟩:=d.o _ _ n;have E:=(x.o 0 c rfl).1 _ _ n;rw[r] at o;have k:=trivial;go_wp2_with (clear k;go_at_call 142;refine ((x.o 0 c rfl).2.1 _ _ n (by have:=y.o;simp only[aP,bJ,cw] at this ⊢;omega)).mono ?_);rintro e O ⟨rfl,A⟩;go_wp2_with fail;first|go_end0|refine ab (results_none rfl _ _ _) rfl ?_
 exact⟨rfl,by simpa [bw] using A⟩
theorem LH (G:∀u∈t.ts,ke S u)(J:t.ts=[c,l])(I:t.k<24)(Q:¬t.k=5)(R:¬t.k=6)(Z:¬t.k=7)(n8:¬t.k=8)(O:¬t.k=10)(P:¬t.k=11):y9 S t:=by
 intro lb B N a f W j v H r C s h K;obtain⟨b,_,_,rfl,_⟩:=C.ptr;refine LP G H r C s h [c,l] J (by simp) (ob c++([wd t.k]++ob l)) (by unfold iy;rw[ae Q,ae R,ae (by omega),ae (by omega)];rfl) K ?_;intro g T ub d m n F q;have x:gJ[t.k]?=some (wd t.k):=y1 I;have U:¬((t.k:Int)=5):=by omega
 have V:¬((t.k:Int)=6):=by omega
 have X:¬((t.k:Int)=7):=by omega
 have Y:¬((t.k:Int)=8):=by omega
 have L:¬((t.k:Int)=10):=by omega
 have M:¬((t.k:Int)=11):=by omega
 go_enter func182,ntmps182;obtain⟨y,z,A⟩:=d.o _ _ n.o;have E:=(m.o 0 c rfl).1 _ _ n.o;have k:=trivial;go_wp2_with (clear k;go_at_call 142;refine ((m.o 0 c rfl).2.1 _ _ n.o (by have:=q.o;simp only[aP,bJ,cw] at this ⊢;omega)).mono ?_);rintro e w1 ⟨rfl,o⟩;obtain⟨y,z,A⟩:=d.o _ _ o;have k:=trivial;go_wp2_with (clear k;go_at_call 180;refine (sj S t.k (wd t.k) x _ (F.o _ _ o)).mono ?_);rintro e wx ⟨rfl,rfl⟩;have k:=trivial;go_wp2_with (clear k;go_at_call 76;refine (fY o [wd t.k] 1 rfl (by have:=q.o;simp only[aP,bJ,cw] at this ⊢;omega) _ rfl).mono ?_);rintro e w2 ⟨rfl,p⟩;obtain⟨y,z,A⟩:=d.o _ _ p;have E:=(m.o 1 l rfl).1 _ _ p;have k:=trivial;go_wp2_with (clear k;go_at_call 142;refine ((m.o 1 l rfl).2.1 _ _ p (by have:=q.o;simp only[aP,bJ,cw] at this ⊢;omega)).mono ?_);rintro e w3 ⟨rfl,D⟩;go_wp2_with fail;first|go_end0|refine ab (results_none rfl _ _ _) rfl ?_
 exact⟨rfl,by simpa [bw] using D⟩
theorem ahD (g:∀u∈t.ts,ke S u)(d:dJ t.k t.ts.length=true)(s:5<=t.k):y9 S t:=by
 obtain⟨L,e⟩:∃L,t.ts=L:=⟨_,rfl⟩;rw[e] at d;unfold dJ at d;rw[ae (by omega),ae (by omega)] at d;by_cases h:t.k=5
 . rw[ag h] at d
   match L,e,d with
   | [_,_,_],e,_=>exact ahO g e h
 rw[ae h] at d;by_cases m:t.k=6
 . rw[ag m] at d
   match L,e,d with
   | [_,_],e,_=>exact ahM g e m
 rw[ae m] at d;by_cases p:t.k<=8
 . rw[ag p] at d
   match L,e,d with
   | [_],e,_ =>
     by_cases r:t.k=7
     . exact ahN g e r
     exact ahG g e (by omega)
 rw[ae p] at d;by_cases o:t.k=10∨t.k=11
 . rw[ae (by omega),ag (by omega)] at d
   match L,e,d with
   | [_],e,_ =>
     rcases o with k|k
     . exact YT g e k
     exact ahJ g e k
 have n:L.length=2/\t.k<24:=by
  by_cases q:t.k=9
  . rw[ag q] at d;exact⟨by simpa using d,by omega⟩
  rw[ae q,ae (by omega)] at d;split at d
  . exact⟨by simpa using d,by omega⟩
  cases d
 match L,e,n with
 | [_,_],e,n=>exact LH g e n.2 h m (by omega) (by omega) (by omega) (by omega)
end
section
open Go.RowKit
variable {c:Xl} {B N b p q lb:Nat} {S:Xs} {t:Tm} {m:Xv} {W f:Xw}
mutual
def Bk:Tm->Bool
 | .mk _ _ _ _ n c=>decide (n<=9223372036854775807)&&ti c
def ti:List Tm->Bool
 | []=>true
 | t::l=>Bk t&&ti l
end
theorem TU {c:List Tm}(h:ti c=true)(ht:t∈c):Bk t=true:=by
 induction c with
 | nil=>cases ht
 | cons x l a =>
   unfold ti at h;rw[Bool.and_eq_true] at h;rcases cC.1 ht with rfl|ht
   . exact h.1
   exact a h.2 ht
theorem aQ.aH {i:Xw}(h:aQ lb B f m W c)(d:xB W i):aQ lb B f m i c:=by obtain⟨l,a,k⟩:=h.ln;refine⟨h.lt,h.le,h.lo,l,⟨(d.block _ (ze a.aC)).trans a.aC,zi a.own (λg _ _ e=>d.block g (a.own.lt g e).2)⟩,k.trans ⟨Fr.Mo d,λj e=>ao e⟩⟩
structure Bx (lb B:Nat) (o:Obj) (p q:Nat) (f:Xw) (m:Xv):Prop where
 h1:f.heap[p]?=some (.cells #[xP lb] 179 (0,0))
 h2:f.heap[q]?=some o
 n1:¬p=lb
 n2:¬q=lb
 t1:¬m.ownBlock=some p
 t2:¬m.ownBlock=some q
theorem Bx.at {o:Obj}(h:Bx lb B o p q f m)(a:aQ lb B f m W c):xH W p #[xP lb] 179/\W.heap[q]?=some o :=
 ⟨a.kept h.h1 h.n1 h.t1,a.kept h.h2 h.n2 h.t2⟩
theorem aQ.boxes (h:aQ lb B f m W c)(a:Obj):∃g,aQ lb B ((W.alloc (.cells #[xP lb] 179)).alloc a) g ((W.alloc (.cells #[xP lb] 179)).alloc a) c/\Bx lb B a W.heap.size (W.heap.size+1) ((W.alloc (.cells #[xP lb] 179)).alloc a) g/\∀(j:Xw) (d:Xl),aQ lb B ((W.alloc (.cells #[xP lb] 179)).alloc a) g j d->aQ lb B f m j d:=by
 obtain⟨g,k,i,n,l⟩:=h.Ah (.cells #[xP lb] 179) a;refine⟨g,k,⟨?_,?_,by omega,by omega,λe=>by have:=i _ e;omega,λe=>by have:=i _ e;omega⟩,l⟩
 . exact (mm _ _ _ (by rw[au];omega)).trans (zc W _)
 have:=zc (W.alloc (.cells #[xP lb] 179)) a;rwa [au] at this
theorem ahH:zH 181:=λ_ _=>by kernel_rfl
theorem ahK {u:Tm}(h:aQ lb B f m W c)(o:N<=lb)(s:21<=N)(C:TT f N t (xP b))(v:Kn S f)
 (r:Bx lb B (.cells #[xP b] 157 (0,0)) p q f m) (i:Nat) (F:t.ts[i]?=some u) (J:ke S u) (M:(c++ob u).length<=10000000000) (_hl6:t.ts.length<=10000000000) :
 xK 181 (#[xI i]++#[xP p,xP q]) W (ey lb B f m (c++ob u)):=by
 obtain⟨O,P,Q⟩:=zu (r.at h).1;obtain⟨R,T,U⟩:=zu (r.at h).2;have A:=h.am o;obtain⟨g,z,H,d,e,w,G⟩:=C.look F;have k:=C.mW.2.2.2.2;have D:=(iP A k).trans d;have E:=(iP A G).trans e;have x:=(aB.1 F).1;have j:aa (∀(a:Xw) (l:Xl),aQ lb B f m a l->xC a p 0 (xP lb)/\xC a q 0 (xP b)/\xC a b 5 (xS g t.ts.length z)/\xC a g i (xP H)):=λa l n=>⟨(zu (r.at n).1).1,(zu (r.at n).2).1,(iP (n.am o) k).trans d,(iP (n.am o) G).trans e⟩;have I:=za (J lb B N f m W.drew c _ o s w v h.drew M);obtain⟨L,K⟩:∃L,t.ts.length=L:=⟨_,rfl⟩;rw[K] at D x _hl6 j
 show Calls prog _ #[xI i,xP p,xP q] W _;go_enter func181,ntmps181;go_region_held3 (λa=>a.cell? (xD p 0)=some (xP lb)/\a.cell? (xD q 0)=some (xP b)/\a.cell? (xD b 5)=some (xS g L z)/\a.cell? (xD g i)=some (xP H)) (first|go_keep|exact j.o _ _ y) (first|(go_at_call 142;refine I.o.mono ?_;rintro e V ⟨rfl,y⟩));all_goals first|go_end0|refine ab (results_none rfl _ _ _) rfl ?_
 all_goals exact⟨rfl,y⟩
theorem ae5:∀c:List Tm,c.length<=gB c
 | []=>an _
 | t::l=>by
   have:=ae5 l;have:1<=cc t:=by cases t;simp only[cc];omega
   simp only[gB,bJ];omega
theorem pR (v:N<=lb)(A:TT f N t (xP b))(u:Kn S f)(z:21<=N)(h:aQ lb B f m W c)(L:Xl)(y:lM t.k t.s t.n (t.ts.map Tm.k) (hH t.ts)=L)(x:(c++ob t).length<=10000000000)
 (k:∀(a:Xw) (n:Xv),W.heap.size+1<a.heap.size->b<a.heap.size->(W.alloc (.cells #[xP lb] 179)).alloc (.cells #[xP b] 157)=a->aa (aQ lb B a n a c)->aa (TT a N t (xP b))->aa (Kn S a)->aa (Bx lb B (.cells #[xP b] 157 (0,0)) W.heap.size (W.heap.size+1) a n)->aa (∀(i:Xw) (o:Xl),aQ lb B a n i o->xC i W.heap.size 0 (xP lb)/\xC i (W.heap.size+1) 0 (xP b)/\xC i b 0 (xI t.k)/\xC i b 2 (.string t.s)/\xC i b 4 (xI t.n))->aa ((c++L).length<=10000000000)->xK 142 #[xP lb,xP b] W (ey lb B a n (c++L))) :
 xK 142 #[xP lb,xP b] W (ey lb B f m (c++ob t)):=by
 obtain⟨n,w,r,g⟩:=h.boxes (.cells #[xP b] 157);obtain⟨a,d⟩:∃a,a=(W.alloc (.cells #[xP lb] 179)).alloc (.cells #[xP b] 157):=⟨_,rfl⟩;have s:Kn S a:=d▸u.ln ((h.alloc _).alloc _) (by omega);have j:=A.am (d▸((h.alloc _).alloc _).am v:bV N f a);rw[<- d] at w r g;have hex:ob t=L:=by rw[<- y];cases t;rfl
 rw[hex] at x ⊢;refine (k a n (by rw[d];simp only[au];omega) (j.mW).2.2.2.1 d.symm w j s r (λi o l=>?_) x).mono (λe i l=>⟨l.1,g _ _ l.2⟩);obtain⟨C,D,E,_,_⟩:=(j.am (l.am v)).mW;exact⟨(zu (r.at l).1).1,(zu (r.at l).2).1,C,D,E⟩
theorem Lx (n:t.k=3):ke S t:=by
 intro lb B N f m W c v s g l i h x;obtain⟨b,_,_,rfl,_⟩:=l.ptr;refine pR s l i g h ([t.s]) (by unfold lM;rw[ae (by omega),ae (by omega),ag n]) x ?_;intro J H u w y k A z C a o;obtain⟨F,G,r,D,E⟩:=a.o _ _ k.o;go_enter func142,ntmps142;go_upto_region 1 with fail;rw[n] at r a;go_upto_region 11 with fail;go_region_held3 (λj=>j.cell? (xD W.heap.size 0)=some (xP lb)/\j.cell? (xD (W.heap.size+1) 0)=some (xP b)/\j.cell? (xD b 2)=some (.string t.s)) (first|go_keep|exact⟨(a.o _ _ d).1,(a.o _ _ d).2.1,(a.o _ _ d).2.2.2.1⟩) (first|(go_at_call 76;refine (pO k.o [t.s] 1 rfl (by have:=o.o;simp only[aP,bJ,cw] at this ⊢;omega) _ rfl).mono ?_;rintro e I ⟨rfl,d⟩));all_goals first|go_end0|refine ab (results_none rfl _ _ _) rfl ?_
 all_goals exact⟨rfl,d⟩
theorem Zb (o:t.k=1):ke S t:=by
 intro lb B N f m W c v w i n j h z;obtain⟨b,_,_,rfl,_⟩:=n.ptr;refine pR w n j i h ([wd 1]) (by unfold lM;rw[ae (by omega),ag (by omega),o]) z ?_;intro K I x y A g C r D a s;obtain⟨G,H,u,E,F⟩:=a.o _ _ g.o;go_enter func142,ntmps142;go_upto_region 1 with fail;rw[o] at u a;have k:gJ[1]?=some (wd 1):=y1 (by omega);go_upto_region 9 with fail;go_region_held3 (λl=>l.cell? (xD W.heap.size 0)=some (xP lb)/\l.cell? (xD (W.heap.size+1) 0)=some (xP b)/\l.cell? (xD b 0)=some (xI 1)) (first|go_keep|exact⟨(a.o _ _ d).1,(a.o _ _ d).2.1,(a.o _ _ d).2.2.1⟩) (first|(go_at_call 76;refine (pO g.o [wd 1] 1 rfl (by have:=s.o;simp only[aP,bJ,cw] at this ⊢;omega) _ rfl).mono ?_;rintro e J ⟨rfl,d⟩)|(go_at_call 180;refine (sj S 1 (wd 1) k _ (Kn.ln r.o g.o.drew (by omega)).gl).mono ?_;rintro e L ⟨rfl,rfl⟩));all_goals first|go_end0|refine ab (results_none rfl _ _ _) rfl ?_
 all_goals exact⟨rfl,d⟩
theorem ahE (o:t.k=2):ke S t:=by
 intro lb B N f m W c v w i n j h z;obtain⟨b,_,_,rfl,_⟩:=n.ptr;refine pR w n j i h ([wd 2]) (by unfold lM;rw[ae (by omega),ag (by omega),o]) z ?_;intro K I x y A g C r D a s;obtain⟨G,H,u,E,F⟩:=a.o _ _ g.o;go_enter func142,ntmps142;go_upto_region 1 with fail;rw[o] at u a;have k:gJ[2]?=some (wd 2):=y1 (by omega);go_upto_region 9 with fail;go_region_held3 (λl=>l.cell? (xD W.heap.size 0)=some (xP lb)/\l.cell? (xD (W.heap.size+1) 0)=some (xP b)/\l.cell? (xD b 0)=some (xI 2)) (first|go_keep|exact⟨(a.o _ _ d).1,(a.o _ _ d).2.1,(a.o _ _ d).2.2.1⟩) (first|(go_at_call 76;refine (pO g.o [wd 2] 1 rfl (by have:=s.o;simp only[aP,bJ,cw] at this ⊢;omega) _ rfl).mono ?_;rintro e J ⟨rfl,d⟩)|(go_at_call 180;refine (sj S 2 (wd 2) k _ (Kn.ln r.o g.o.drew (by omega)).gl).mono ?_;rintro e L ⟨rfl,rfl⟩));all_goals first|go_end0|refine ab (results_none rfl _ _ _) rfl ?_
 all_goals exact⟨rfl,d⟩
theorem Lw (x:t.k=0)(M:t.n<=9223372036854775807):ke S t:=by
 intro lb B N f m W c v C o w u h F;obtain⟨b,_,_,rfl,_⟩:=w.ptr;refine pR C w u o h ([pQ t.n]) (by unfold lM;rw[ag x]) F ?_;intro T Q D E G l I y J a z;obtain⟨O,P,A,K,L⟩:=a.o _ _ l.o;go_enter func142,ntmps142;go_upto_region 1 with fail;rw[x] at A a;have n:aa (∀g,Kn S g->xK 179 #[xI t.n,xI 10] g λe i=>e=.returned (.string (pQ t.n))/\xB g i):=by intro g s;refine (Tryz.strconv_FormatInt_10 (t.n:Int) (by omega) (by omega) g s.oy).mono ?_;rintro e i ⟨rfl,k,H,rfl⟩;exact⟨rfl,Lib.below_grow _ g (an _) k H⟩
 go_upto_region 6 with fail;go_region_held3 (λi=>i.cell? (xD W.heap.size 0)=some (xP lb)/\i.cell? (xD (W.heap.size+1) 0)=some (xP b)/\i.cell? (xD b 4)=some (xI t.n)) (first|go_keep|exact⟨(a.o _ _ j).1,(a.o _ _ j).2.1,(a.o _ _ j).2.2.2.2⟩|exact⟨(a.o _ _ d.o).1,(a.o _ _ d.o).2.1,(a.o _ _ d.o).2.2.2.2⟩|exact⟨(a.o _ _ (d.o.alloc _)).1,(a.o _ _ (d.o.alloc _)).2.1,(a.o _ _ (d.o.alloc _)).2.2.2.2⟩) (first|(go_at_call 76;refine (fY d.o [pQ t.n] 1 rfl (by have:=z.o;simp only[aP,bJ,cw] at this ⊢;omega) _ rfl).mono ?_;rintro e R ⟨rfl,j⟩)|(go_at_call 179;refine (n.o _ (Kn.ln y.o l.o.drew (by omega))).mono ?_;rintro e U ⟨rfl,r⟩;have d:=za (l.o.drew.aH r)));all_goals first|go_end0|refine ab (results_none rfl _ _ _) rfl ?_
 all_goals exact⟨rfl,j⟩
theorem ahC (Z:t.k=4)(aA:∀u∈t.ts,ke S u)(k:t.ts.length<=10000000000):ke S t:=by
 intro lb B N f m W c v O o X M h hm;obtain⟨b,_,_,rfl,_⟩:=X.ptr;refine pR O X M o h ([t.s]++gS (hH t.ts)) (by unfold lM;rw[ae (by omega),ae (by omega),ae (by omega),ag Z]) hm ?_;intro G F a6 a9 bg Q T aL aV a R;obtain⟨p0,q0,c0,c2,c4⟩:=a.o _ _ Q.o;go_enter func142,ntmps142;go_upto_region 1 with fail;rw[Z] at c0 a;go_upto_region 13 with fail;go_region_held3 (λd=>d.cell? (xD W.heap.size 0)=some (xP lb)/\d.cell? (xD (W.heap.size+1) 0)=some (xP b)/\d.cell? (xD b 2)=some (.string t.s)) (first|go_keep|exact⟨(a.o _ _ g).1,(a.o _ _ g).2.1,(a.o _ _ g).2.2.2.1⟩) (first|(go_at_call 76;refine (pO Q.o [t.s] 1 rfl (by have:=R.o;simp only[aP,bJ,cw] at this ⊢;omega) _ rfl).mono ?_;rintro e w1 ⟨rfl,g⟩));obtain⟨wz,bk⟩:∃wz,wz=w1:=⟨_,rfl⟩;obtain⟨bl,bo,a2,a3,a4⟩:=a.o _ _ g;obtain⟨bp,U,vs,I,P,s,A,y,_,bb⟩:=T.o.ptr;cases I;obtain⟨_,_,_,_,_,V,_,a1⟩:=zt s;obtain⟨xa,n,rfl⟩:=zB A;rw[y] at V;have j:aa (∀(d:Xw) (C:Xl),aQ lb B G F d C->xC d b 5 (.slice xa t.ts.length n)):=λd C J=>(iP (J.am O) P).trans V;have H:=j.o _ _ g;have r:aa (∀E,aQ lb B G F E (c++[t.s])->xK 77 #[xP lb,xI t.ts.length,.func (.func 181) #[] #[xP W.heap.size,xP (W.heap.size+1)]] E (ey lb B G F (c++[t.s]++gS (hH t.ts)))):=by
  intro E J;have:=y2 (lb:=lb) (B:=B) (w0:=G) (tv0:=F) 181 #[xP W.heap.size,xP (W.heap.size+1)] ahH (hH t.ts) (λi u hu a0 ar K z=>?_) E (c++[t.s]) J (by have:=R.o;simp only[aP,bJ,cw] at this ⊢;omega) (by rw[ae6];exact k)
  . rw[ae6] at this;exact this
  rw[aa2,List.getElem?_map,Option.map_eq_some_iff] at hu;obtain⟨x,hx,rfl⟩:=hu;exact ahK K O o T.o aL.o aV.o i hx (aA x (aM hx)) z k
 have be:∀(fn:Go.Fn) (first l:Xa) (w:Xw),(Instr.makeFunc fn first l).run prog w=.ok (.func fn first l) w:=λ_ _ _ _=>rfl;obtain⟨L,a5⟩:∃L,t.ts.length=L:=⟨_,rfl⟩;rw[a5] at H r k j;have Y:W.heap.size+1<w1.heap.size:=by have:=g.size;omega
 go_upto_region 14 with fail;go_region_held3 (λd=>d.cell? (xD W.heap.size 0)=some (xP lb)/\d.cell? (xD (W.heap.size+1) 0)=some (xP b)/\d.cell? (xD b 5)=some (.slice xa L n)) (first|go_keep|exact⟨(a.o _ _ D).1,(a.o _ _ D).2.1,j.o _ _ D⟩) (first|(go_at_call 77;refine (r.out _ g.drew).mono ?_;rintro e w2 ⟨rfl,D⟩));all_goals first|go_end0|refine ab (results_none rfl _ _ _) rfl ?_
 all_goals exact⟨rfl,by simpa [bw] using D⟩
theorem Tz (T:5<=t.k)(H:y9 S t):ke S t:=by
 intro lb B N f m W c v z i A n h K;obtain⟨b,_,_,rfl,_⟩:=A.ptr;refine pR z A n i h ([jM]++(iy t.k t.s (t.ts.map Tm.k) (hH t.ts)++[kr])) (by unfold lM;rw[ae (by omega),ae (by omega),ae (by omega),ae (by omega)]) K ?_;intro s r I J L u F E M d k;obtain⟨p0,q0,P,Q,R⟩:=d.o _ _ u.o;go_enter func142,ntmps142;go_upto_region 1 with fail;have g:aa (∀l a,aQ lb B s r l a->(a++iy t.k t.s (t.ts.map Tm.k) (hH t.ts)).length<=10000000000->xK 182 #[xP lb,xP b] l (ey lb B s r (a++iy t.k t.s (t.ts.map Tm.k) (hH t.ts)))):=λl a G o=>H lb B N s r l a _ z i F.o E.o G o;have U:¬((t.k:Int)=0):=by omega
 have V:¬((t.k:Int)=1):=by omega
 have X:¬((t.k:Int)=2):=by omega
 have Y:¬((t.k:Int)=3):=by omega
 have Z:¬((t.k:Int)=4):=by omega
 obtain⟨O,y⟩:∃O,iy t.k t.s (t.ts.map Tm.k) (hH t.ts)=O:=⟨_,rfl⟩;rw[y] at g k;have j:=trivial;go_wp2_with (clear j;go_at_call 76;refine (fY u.o [jM] 1 rfl (by have:=k.o;simp only[aP,bJ,cw] at this ⊢;omega) _ rfl).mono ?_);rintro e w1 ⟨rfl,w⟩;obtain⟨ar,aL,_,_,_⟩:=d.o _ _ w;have j:=trivial;go_wp2_with (clear j;go_at_call 182;refine (g.o _ _ w (by have:=k.o;simp only[aP,bJ,cw] at this ⊢;omega)).mono ?_);rintro e w2 ⟨rfl,x⟩;obtain⟨aA,q2,_,_,_⟩:=d.o _ _ x;have j:=trivial;go_wp2_with (clear j;go_at_call 76;refine (fY x [kr] 1 rfl (by have:=k.o;simp only[aP,bJ,cw] at this ⊢;omega) _ rfl).mono ?_;rintro e w3 ⟨rfl,D⟩);first|go_end0|refine ab (results_none rfl _ _ _) rfl ?_
 exact⟨rfl,by have C:=D;rw[<- y] at C;simpa [bw] using C⟩
theorem ahI (S:Xs):∀t:Tm,Wf t->Bk t=true->cc t<=10000000000->ke S t:=by
 intro t;induction t using Tm.ind with
 | h k a s d n c x =>
   intro r l w;have j:=r.ar;have g:n<=9223372036854775807/\ti c=true:=(by unfold Bk at l;rw[Bool.and_eq_true,decide_eq_true_eq] at l;exact l);have v:gB c<10000000000:=(by simp only[cc] at w;omega);have o:∀u∈c,ke S u:=λu i=>x u i (r.sub i) (TU g.2 i) (by have:=mA i;omega);have e:c.length<=10000000000:=(by have:=ae5 c;omega);have hk:k=0∨k=1∨k=2∨k=3∨k=4∨5<=k:=(by omega);rcases hk with rfl|rfl|rfl|rfl|rfl|hk
   . exact Lw (t:=.mk 0 a s d n c) rfl g.1
   . exact Zb (t:=.mk 1 a s d n c) rfl
   . exact ahE (t:=.mk 2 a s d n c) rfl
   . exact Lx (t:=.mk 3 a s d n c) rfl
   . exact ahC (t:=.mk 4 a s d n c) rfl o e
   exact Tz (t:=.mk k a s d n c) hk (ahD o j hk)
end
section
open Go.RowKit
variable {N:Nat} {c:Sc} {d f:Xv} {w:Xw}
attribute [local go_sem ↓] Go.wp_at_zero Go.wp_at_succ
structure hn (w:Xw) (N:Nat) (ts:List Tm) (v:Xv):Prop where
 ex:∃a cp,v=.slice a ts.length cp/\ts.length<=cp/\cp<=9223372036854775807/\(ts≠[]->∃g o,a=some (xD g o)/\g<N/\∀i u,ts[i]?=some u->∃ub,w.cell? (xD g (o+i))=some (xP ub)/\TT w N u (xP ub))
theorem hn.am {w w':Xw}{k:List Tm}{v:Xv}(h:hn w N k v)(j:bV N w w'):hn w' N k v:=by obtain⟨a,l,m,n,p,q⟩:=h.ex;refine⟨a,l,m,n,p,λb=>?_⟩;obtain⟨g,o,r,e,s⟩:=q b;refine⟨g,o,r,e,λi u y=>?_⟩;obtain⟨z,t,x⟩:=s i u y;exact⟨z,(Z6 (w:=w) (j g e)).trans t,x.am j⟩
theorem yp {t:Tm}{b:Xv}{j:Xm}(a:w.ownsRow 0 157 1 b j.length j)(r:j.length=t.ts.length)(C:∀(i:Nat) (u:Tm) (x:Xv),t.ts[i]?=some u->j[i]?=some x->TT w N u x)(B:∀g,b.ownBlock=some g->g<N):hn w N t.ts b:=by
 obtain⟨x,m,rfl⟩:=zB a;have n:j.length<=m/\m<=9223372036854775807:=by
  rcases a.2 with ⟨e,h⟩|⟨g,l,v,k,_,_,z,A,_⟩
  . simp only[Value.slice.injEq] at e;omega
  cases k;unfold maxLen at A;exact⟨z,by omega⟩
 refine⟨x,m,by rw[r],by omega,n.2,λo=>?_⟩;have y:0<j.length:=by rw[r];exact List.length_pos_iff.2 o
 obtain⟨g,l,k,_⟩:=zM a y;cases k;refine⟨g,0,rfl,B g rfl,λi u s=>?_⟩;have E:=(aB.1 s).1;have k:j[i]?=some j[i]:=av (by omega);have q:=r5 a k;have p:=C i u _ s k;obtain⟨D,_,_,e,_⟩:=p.ptr;rw[e] at q p;exact⟨D,by rw[Nat.zero_add];exact q,p⟩
theorem H3 (c:Sc)(a:Nat)(t:Tm)(l:List Tm):aam c a (t::l)=(MO c t==a&&aam c a l):=rfl
theorem rZ (M:eU c)(h:Nat)(a:List Tm)(v:Xv)(w:Xw)(E:hn w N a v)(p:br w N c d f)(I:N<=w.heap.size)(J:∀t∈a,gN c t) :
 xK 157 #[.agg #[d,f],xI h,v] w (λe Y=>e=.returned (.bool (aam c h a))/\xB w Y):=by
 obtain⟨x,aA,rfl,O,T,_⟩:=E.ex;obtain⟨ar,s,V,rfl,rfl,U⟩:=p.shape;go_enter func157,ntmps157;go_wp2_with fail;go_loopg [11] (a.length+1) (λj i wr=>∃k:Nat,k+j=a.length+1/\k<=a.length/\i=xI k/\aa (aam c h (a.drop k)=aam c h a)/\aa (xH wr w.heap.size #[xE ar c s,xP V] 201)/\aa (xB w wr));case atStart=>exact⟨0,by omega,aE _,rfl,rfl,zc w _,zq w _⟩
 case round =>
  obtain⟨k,S,aL,rfl,F,H,m⟩:=hrel;obtain⟨aV,s1,a0,W⟩:=zp H.o;by_cases n:k<a.length
  . obtain⟨t,D⟩:∃t,a[k]?=some t:=⟨_,av n⟩;obtain⟨x',K,u,_,_,A⟩:=(E.am (zm m.o I)).ex;cases u;obtain⟨g,o,rfl,R,z⟩:=A (by intro e;rw[e] at n;simp at n);obtain⟨X,P,y⟩:=z k t D;have G:=za (nD M t (xP X) wr y (p.am (zm m.o I)) (by have:=m.o.size;omega) (J t (aM D)));have Q:a.drop k=t::a.drop (k+1):=by obtain⟨u,L⟩:=aB.1 D;rw[dE u,L]
    have q:=F.o;rw[Q,H3] at q;have r:=m.o.size;by_cases B:MO c t=h
    . have C:((MO c t:Int) != (h:Int))=false:=(by simp[B]);have b:aa (aam c h (a.drop (k+1))=aam c h a):=(by unfold aa;rw[<- q];simp[B]);go_wp2_with (go_at_call 156;refine G.o.mono ?_;rintro e Z ⟨rfl,l⟩);go_roundg (gk-1);case measure=>omega
      exact⟨k+1,by omega,by omega,by go_num,b.o,(l.block _ W).trans H.o,m.o.trans (l.mono r)⟩
    have C:((MO c t:Int) != (h:Int))=true:=(by simp;omega);have b:aa (aam c h a=false):=(by unfold aa;rw[<- q];simp[B]);go_wp2_with (go_at_call 156;refine G.o.mono ?_;rintro e Z ⟨rfl,l⟩);go_ret;exact⟨by rw[b.o];rfl,m.o.trans (l.mono r)⟩
  have q:aam c h a=true:=by rw[<- F.o,List.drop_of_length_le (by omega)];rfl
  have b:=za q;go_wp2_with fail;go_ret;exact⟨by rw[b.o];rfl,m.o⟩
theorem yw (a b:Nat):Ending.returned (.bool ((a:Int)==(b:Int)))=Ending.returned (.bool (a==b)):=by
 have:((a:Int)==(b:Int))=(a==b):=by rw[Bool.eq_iff_iff];simp;omega
 rw[this]
theorem rE (E:eU c)(t1 t2:Tm)(b:List Tm)(v:Xv)(w:Xw)(Q:hn w N (t1::t2::b) v)(i:br w N c d f)(r:N<=w.heap.size)(A:gN c t1)(B:gN c t2) :
 xK 158 #[.agg #[d,f],v] w (λe j=>e=.returned (.bool (gp c (t1::t2::b)))/\xB w j):=by
 obtain⟨x,ar,rfl,R,T,C⟩:=Q.ex;obtain⟨g,o,rfl,S,n⟩:=C (by simp);obtain⟨H,D,T1⟩:=n 0 t1 rfl;obtain⟨I,O,T2⟩:=n 1 t2 rfl;obtain⟨K,l,G,rfl,rfl,U⟩:=i.shape;have u:=za (λW (a:xB w W)=>nD E t1 (xP H) W (T1.am (zm a r)) (i.am (zm a r)) (by have:=a.size;omega) A);have y:=za (λW (a:xB w W)=>nD E t2 (xP I) W (T2.am (zm a r)) (i.am (zm a r)) (by have:=a.size;omega) B);have L:aa (gp c (t1::t2::b)=(MO c t1==MO c t2)):=by unfold aa gp;rw[dO,dO,dO]
 have p:g<w.heap.size:=by omega
 rw[Nat.add_zero] at D;generalize MO c t1=X at *;generalize MO c t2=Y at *;have Z:((xD g o):Addr).add 0=⟨g,o,none⟩:=by simp[Addr.add]
 have a1:((xD g o):Addr).add 1=⟨g,o+1,none⟩:=by simp[Addr.add]
 have n0:0<(t1::t2::b).length:=by simp
 have n1:1<(t1::t2::b).length:=by simp
 have aA:(0:Int)<((t1::t2::b).length:Int):=by simp;omega
 have l1:(1:Int)<((t1::t2::b).length:Int):=by simp;omega
 generalize (t1::t2::b).length=nn at *;go_enter func158,ntmps158;go_upto_region 1 with fail;refine zn (λW=>(xH W w.heap.size #[xE K c l,xP G] 201)/\xB w W) ⟨zc w _,zq w _⟩ ?_;rintro W ⟨V,a⟩;obtain⟨aL,s1,aV,sz⟩:=zp V;have M:=zd a D p;have P:=zd a O p;have q:=a.size;have s:=za (u.o W.drew (zo a))
 go_region_held3 (λj=>j.cell? (xD w.heap.size 0)=some (xE K c l)/\j.cell? (xD w.heap.size 1)=some (xP G)/\j.cell? (xD g o)=some (xP H)/\j.cell? (xD g (o+1))=some (xP I))
  (first|(with_reducible (refine⟨?_,?_,?_,?_⟩ <;> repeat (first|assumption|refine zg ?_|refine zj _ ?_|refine zk (by omega) ?_|refine zd k.o ?_ (by first|omega|(rw[au];omega))|refine zd h.o ?_ (by first|omega|(rw[au];omega)))))|go_keep)
  (first
    | (go_at_call 156;refine t.o.mono ?_;rintro e w2 ⟨rfl,z⟩;have k:=za z)
    | (go_at_call 156;refine s.o.mono ?_;rintro e J ⟨rfl,m⟩;have h:=za (zw m);(have F:W.heap.size<=J.heap.size:=m.size);have t:=za (y.o J (a.trans (h.o.mono q)))))
 all_goals go_wp2_with fail
 all_goals go_ret
 all_goals exact⟨by rw[L.o];exact yw X Y,(a.trans (h.o.mono q)).trans (k.o.mono (by omega))⟩
end
section
open Go.RowKit
variable {N k:Nat} {c:Sc} {t:Tm} {v:Xv}
attribute [local go_sem ↓] Go.wp_at_zero Go.wp_at_succ
theorem yI {n:Nat}(h:dJ k n=true):k<=23:=by
 rcases Nat.lt_or_ge 23 k with h'|h'
 . exfalso;unfold dJ at h;simp only[show ¬k<=3 by omega,show ¬k=4 by omega,show ¬k=5 by omega,show ¬k=6 by omega,show ¬k<=8 by omega,show ¬k=9 by omega,show ¬k<=11 by omega,show ¬k<=23 by omega,if_false] at h;cases h
 exact h'
theorem IK (w:Xw)(h:TT w N t v)(B:dJ t.k t.ts.length=true) :
 xK 159 #[v] w (λe K=>e=.returned (.bool (gq t))/\w=K):=by
 obtain⟨b,A,Z,rfl,U,m,d,f,o,_⟩:=h.ptr;obtain⟨P,Q,R,S,T,G,V,W⟩:=zt m;obtain⟨k,a,s,z,n,i⟩:=t;simp only[Tm.k,Tm.ts] at *;have F:=yI B;by_cases l:k=10
 . subst l;have C:0<i.length:=by simp[dJ] at B;omega
   obtain⟨u,r⟩:∃u,i[0]?=some u:=⟨_,av C⟩;obtain⟨xa,E,rfl⟩:=zB d;rw[f] at G d;obtain⟨g,Y,rfl,I,q,_⟩:=TT.arg (t:=.mk 10 a s z n i) d f o r;obtain⟨_,_,_,e,_,y,_⟩:=q.ptr;cases e;obtain⟨X,_⟩:=zt y;have J:gq (.mk 10 a s z n i)=(u.k==0):=by
    unfold gq;cases i with
    | nil=>simp at C
    | cons x i=>simp at r;subst r;simp[Tm.k,Tm.ts]
   have p:=za J;generalize u.k=D at *;by_cases j:D=0
   . subst j;go_enter func159,ntmps159;go_wp2_with fail;go_ret;exact⟨by rw[p.o];rfl,rfl⟩
   have d0:((D:Int)==0)=false:=(by simp;omega);go_enter func159,ntmps159;go_wp2_with fail;go_ret;exact⟨by rw[p.o];simp[j],rfl⟩
 have H:k=0∨k=1∨k=2∨(k≠0/\k≠1/\k≠2):=by omega
 rcases H with rfl|rfl|rfl|⟨L,M,O⟩
 . go_enter func159,ntmps159;go_wp2_with fail;go_ret;exact⟨rfl,rfl⟩
 . go_enter func159,ntmps159;go_wp2_with fail;go_ret;exact⟨rfl,rfl⟩
 . go_enter func159,ntmps159;go_wp2_with fail;go_ret;exact⟨rfl,rfl⟩
 have d1:((k:Int)==0)=false:=by simp;omega
 have d2:((k:Int)==1)=false:=by simp;omega
 have d3:((k:Int)==2)=false:=by simp;omega
 have d4:((k:Int)==10)=false:=by simp;omega
 have p:aa (gq (.mk k a s z n i)=false):=by unfold aa gq;exact (ae (show ¬(k=0∨k=1∨k=2) by omega)).trans (ae (show ¬k=10 from l))
 go_enter func159,ntmps159;go_wp2_with fail;go_ret;exact⟨by rw[p.o];rfl,rfl⟩
def j3 (k:Nat):Bool:=NA k&&k != 3
theorem Hs (w:Xw)(h:TT w N t v) :
 xK 107 #[v] w (λe m=>e=.returned (.bool (j3 t.k))/\w=m):=by
 have a:=za (rq w h);obtain⟨b,j,z,rfl,u,f,_⟩:=h.ptr;obtain⟨n,o,p,q,r,s,x,y⟩:=zt f;generalize t.k=k at *;cases g:NA k with
 | false => rw[g] at a;have i:aa (j3 k=false):=(by unfold aa j3;rw[g];rfl);go_enter func107,ntmps107;go_wp2_with (go_at_call 101;refine a.o.mono ?_;rintro e l ⟨rfl,rfl⟩);go_ret;exact⟨by rw[i.o];rfl,rfl⟩
 | true =>
   rw[g] at a;by_cases d:k=3
   . subst d;go_enter func107,ntmps107;go_wp2_with (go_at_call 101;refine a.o.mono ?_;rintro e l ⟨rfl,rfl⟩);go_ret;exact⟨rfl,rfl⟩
   have d1:((k:Int) != 3)=true:=(by simp;omega);have i:aa (j3 k=true):=(by unfold aa j3;rw[g];simp[d]);go_enter func107,ntmps107;go_wp2_with (go_at_call 101;refine a.o.mono ?_;rintro e l ⟨rfl,rfl⟩);go_ret;exact⟨by rw[i.o];rfl,rfl⟩
theorem GN {a:List Tm}{b:List Vr}{v:Vr}(h:a[k]?=some t)(i:b[k]?=some v):gF c (a.drop k) (b.drop k)=if (MO c t != dt v)=true then false else gF c (a.drop (k+1)) (b.drop (k+1)):=by obtain⟨d,e⟩:=aB.1 h;obtain⟨f,g⟩:=aB.1 i;rw[dE d,dE f,e,g];rfl
theorem Iq {d:Sc}{ev nv:Xv}(U:eU c)(t:Tm)(v:Xv)(w:Xw)(hT:TT w N t v)(D:br w N c ev nv)(Q:N<=w.heap.size)(bo:gN c t)(a0:c.called t.s=some d)(bx:d.nd.ah=t.ts.length) :
 xK 160 #[.agg #[ev,nv],v] w (λe h=>e=.returned (.bool (gF c t.ts d.nd.ak))/\xB w h):=by
 obtain⟨b,bg,vs,rfl,ch,q,A,z,S,a1⟩:=hT.ptr;have F:=(U.called a0).1.nd;have X:=za (yp A z S a1);obtain⟨xa,bq,rfl⟩:=zB A;obtain⟨J,m,I,rfl,rfl,bY⟩:=D.shape;have R:=ze q;rw[z] at q X;have bE:=F.io;have b1:=F.aG;have bA:=F.bO;go_enter func160,ntmps160;go_upto_region 1 with fail;refine zn (λW=>W.heap[w.heap.size]?=some (.cells #[xE J c m,xP I] 201 (0,0))/\xB w W) ⟨zc w _,zq w _⟩ ?_;rintro W ⟨aA,s⟩;obtain⟨cB,s1,cE,sz⟩:=zp aA;obtain⟨m0,m1,m2,m3,m4,m5,cs,ct⟩:=zt ((s.block b R).trans q);have b2:=s.size;have M:∀W,xB w W->br W N c (xE J c m) (xP I):=λW s=>D.am (zm s Q);have Y:=za (ji t.s (t.nm:Int) W.drew (M W.drew (zo s)) (by show N<=W.heap.size;omega) U.bO a0);have Z:=za (λo=>ji t.s (t.nm:Int) (W.alloc o).drew (M _ (zo (s.alloc (by omega) o))) (by show N<=(W.alloc o).heap.size;simp;omega) U.bO a0)
 go_region_held3 (λh=>h.cell? (xD w.heap.size 0)=some (xE J c m)/\h.cell? (xD w.heap.size 1)=some (xP I)/\h.cell? (xD b 2)=some (.string t.s)/\h.cell? (xD b 3)=some (xI t.nm))
  (first|(with_reducible (refine⟨?_,?_,?_,?_⟩ <;> repeat (first|assumption|refine zg ?_|refine zj _ ?_|refine zk (by omega) ?_|refine zd a.o ?_ (by first|omega|(rw[au];omega)))))|go_keep)
  (first
    | (go_at_call 96;refine Y.o.mono ?_;rintro e w1 ⟨x2,E,B,rfl,H,n⟩;have a:=za (zw n);have f:=za H)
    | (go_at_call 96;refine (Z.o _).mono ?_;rintro e w1 ⟨x2,E,B,rfl,H,n⟩;have a:=za (zw n);have f:=za H;obtain⟨cR,V,c0,c1⟩:=zp ((a.o.block W.heap.size (by rw[au];omega)).trans (zc W _))))
 all_goals go_upto_region 2 with fail
 refine zn (λx=>ki w N d w1.heap.size B x2 E x/\xH x w.heap.size #[xE J c m,xP I] 201) ⟨su s a.o f.o Q,(mm _ _ _ (by have:=a.o.size;omega)).trans ((a.o.block _ sz).trans aA)⟩ ?_;generalize w1.heap.size=wz;rotate_left;refine zn (λx=>ki w N d W.heap.size B x2 E x/\xH x w.heap.size #[xE J c m,xP I] 201) ⟨ss s a.o f.o Q,(zr (by omega) rfl).trans ((zr (by omega) rfl).trans ((a.o.block _ (by rw[au];omega)).trans ((mm _ _ _ sz).trans aA)))⟩ ?_;generalize W.heap.size=wz
 all_goals
  rintro x ⟨L,ar⟩;obtain⟨t0,t1,cK,tz⟩:=zp L.box;obtain⟨p0,b4,cv,bl⟩:=zp ar;obtain⟨k0,cl,cm,cn,k4,co,kf,kz⟩:=zt ((L.aH.block b R).trans q);have a9:=L.aH.size;obtain⟨b3,cb,ca,cd,bs,C⟩:=L.sc.nd;cases bs;obtain⟨cO,O,rfl⟩:=zB C.bZ;have bL:=C.lo;obtain⟨_,_,P,_,bt,_⟩:=X.o.ex;simp only[Value.slice.injEq] at P;obtain⟨rfl,_,rfl⟩:=P;go_wp2_with fail;go_loopg [24] (t.ts.length+1) (λj i wr=>∃k:Nat,k+j=t.ts.length+1/\k<=t.ts.length/\i=xI k/\aa (gF c (t.ts.drop k) (d.nd.ak.drop k)=gF c t.ts d.nd.ak)/\aa (xB x wr));case atStart=>exact⟨0,by omega,aE _,rfl,rfl,yS _ _⟩
  case round =>
   obtain⟨k,bK,ck,rfl,bb,l⟩:=hrel;have r:xB w wr:=L.aH.trans (l.o.mono a9);have a6:=l.o.size;by_cases G:k<t.ts.length
   . obtain⟨u,hu⟩:∃u,t.ts[k]?=some u:=⟨_,av G⟩;obtain⟨v,hv⟩:∃v,d.nd.ak[k]?=some v:=⟨_,av (by omega)⟩;obtain⟨x',bp,P,_,_,a2⟩:=(X.o.am (zm r Q)).ex;simp only[Value.slice.injEq] at P;obtain⟨rfl,_,rfl⟩:=P;obtain⟨g,o,rfl,bB,aV⟩:=a2 (by intro e;rw[e] at G;simp at G);obtain⟨ub,bv,aL⟩:=aV k u hu;have p:=C.am (zm l.o (by omega:N<=x.heap.size));obtain⟨K,rfl,_,_,c2,_⟩:=hj p.bZ hv;have bC:=p.jc K rfl;obtain⟨q0,cz,q2,q3,q4,q5,qf,cA⟩:=zt p.aC;have ce:=zd l.o p0 bl;have cg:=zd l.o b4 bl;have d1:=zd l.o t1 tz;have be:=za (nD U u (xP ub) wr.drew (aL.am (λ_ _=>rfl)) (D.am (w':=wr.drew) (zm (zo r) Q)) (by show N<=wr.heap.size;omega) (bo.sub (aM hu)));have y:=GN (c:=c) hu hv;rw[bb.o] at y;have i0:(0:Int)<=(k:Int):=(by omega);have i1:(k:Int)<(d.nd.ak.length:Int):=(by omega);have a5:dt v=dv v:=rfl;rw[a5] at y;have bk:K<wr.heap.size:=(by omega);have b0:B<wr.heap.size:=(by omega);generalize MO c u=V at *;generalize dv v=T at *;by_cases a3:V=T
     . have a4:((V:Int) != (T:Int))=false:=(by simp[a3]);rw[ae (by simp[a3])] at y;have f:=za y;go_upto_region 5 with fail
       go_region_held3 (λh=>h.cell? (xD w.heap.size 0)=some (xE J c m)/\h.cell? (xD w.heap.size 1)=some (xP I)/\h.cell? (xD wz 1)=some (xP B)/\h.cell? (xD B 2)=some (xS K d.nd.ak.length O)/\h.cell? (xD K (k*7+2))=some (xI T))
        (first|(with_reducible (refine⟨?_,?_,?_,?_,?_⟩ <;> repeat (first|assumption|refine zg ?_|refine zj _ ?_|refine zk (by omega) ?_|refine zd a.o ?_ (by first|omega|(rw[au];omega)))))|go_keep)
        (first
          | (go_at_call 156;refine be.o.mono ?_;rintro e w8 ⟨rfl,n⟩;have a:=za (zw n)))
       all_goals go_wp2_with fail
       all_goals
        go_roundg (gk-1);case measure=>omega
        exact⟨k+1,by omega,by omega,by go_num,f.o.symm,l.o.trans (a.o.mono a6)⟩
     have a4:((V:Int) != (T:Int))=true:=(by simp;omega);rw[ag (by simp[a3])] at y;have f:=za y;go_upto_region 5 with fail
     go_region_held3 (λh=>h.cell? (xD w.heap.size 0)=some (xE J c m)/\h.cell? (xD w.heap.size 1)=some (xP I)/\h.cell? (xD wz 1)=some (xP B)/\h.cell? (xD B 2)=some (xS K d.nd.ak.length O)/\h.cell? (xD K (k*7+2))=some (xI T))
      (first|(with_reducible (refine⟨?_,?_,?_,?_,?_⟩ <;> repeat (first|assumption|refine zg ?_|refine zj _ ?_|refine zk (by omega) ?_|refine zd a.o ?_ (by first|omega|(rw[au];omega)))))|go_keep)
      (first
        | (go_at_call 156;refine be.o.mono ?_;rintro e w8 ⟨rfl,n⟩;have a:=za (zw n)))
     all_goals go_wp2_with fail
     all_goals go_ret
     all_goals exact⟨by rw[f.o];rfl,r.trans (a.o.mono (by omega))⟩
   have y:gF c t.ts d.nd.ak=true:=(by rw[<- bb.o,List.drop_of_length_le (by omega)];rfl);have f:=za y;go_wp2_with fail;go_ret;exact⟨by rw[f.o];rfl,r⟩
end
end Go.Proofs.YtcnelakggnfnhaaGreatDoor
