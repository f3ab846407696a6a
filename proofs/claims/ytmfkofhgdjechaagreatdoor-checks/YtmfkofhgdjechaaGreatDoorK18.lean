/- Part 19 of the proof. -/
import Derived.Lib.AppendIntMem
import Derived.Lib.LaidTab
import Derived.Test.YtmfkofhgdjechaaGreatDoorShelf2
import Derived.Test.YtmfkofhgdjechaaGreatDoorK17
set_option maxRecDepth 100000
set_option maxHeartbeats 8000000
namespace Go.Proofs.YtmfkofhgdjechaaGreatDoor
open Go.Proofs.Tryz
section
open Go.RowKit Go.Extern.Stop Go.Stop Go.Extern
def Sn (S:Xs)(w:Xw):Prop:=∀i j,1<=i->i<=11->1<=j->j<=11->∀W,xB w W->(binOp .eql 42 (aW S i) (aW S j)).run prog W=.ok (.bool (decide (i=j))) W
def fN (S:Xs)(p:Xb)(b:Nat)(a:Int):Value:=ew p (.iface 58 (.agg #[aW S b,xI a]))
theorem LN (S:Xs)(p:Xb)(q:Nat)(D:Int)(w:Xw)(Q:1<=q)(R:q<=11)(N:Gl S w)(U:Sn S w) :
 xK 29 #[fN S p q D] w λe Y=>e=.returned (xI (q:Nat))/\xB w Y:=by
 have c:=za (λW (a:xB w W)=>N.of (T:=λ_=>False) (Fr.dp a) (λ_ e=>e.elim));have b:=za (λj (V:1<=j) (X:j<=11) W (a:xB w W)=>L0 p (S q) (S j) D (decide (q=j)) W (λP K=>U q j Q R V X P (a.trans (K.mono a.size))));have i:=za (Below.refl w.heap.size w);have Z:=N.ou;unfold fN;unfold aW ew at *;have:q=1∨q=2∨q=3∨q=4∨q=5∨q=6∨q=7∨q=8∨q=9∨q=10∨q=11:=by omega
 rcases this with rfl|rfl|rfl|rfl|rfl|rfl|rfl|rfl|rfl|rfl|rfl
 . go_enter func29,ntmps29;go_wp2_with (first|(go_at_call 65;refine (b.o 1 (by decide) (by decide) _ i.o).mono ?_;rintro e t ⟨rfl,a⟩;have d:=za (i.o.trans (a.mono i.o.size));have s:=(c.o _ d.o).e6));go_ret;exact⟨rfl,d.o⟩
 . go_enter func29,ntmps29;go_wp2_with (first|(go_at_call 65;refine (b.o 2 (by decide) (by decide) _ d.o).mono ?_;rintro e v ⟨rfl,a⟩;have f:=za (d.o.trans (a.mono d.o.size));have u:=(c.o _ f.o).deep)|(go_at_call 65;refine (b.o 1 (by decide) (by decide) _ i.o).mono ?_;rintro e t ⟨rfl,a⟩;have d:=za (i.o.trans (a.mono i.o.size));have s:=(c.o _ d.o).e6));go_ret;exact⟨rfl,f.o⟩
 . go_enter func29,ntmps29;go_wp2_with (first|(go_at_call 65;refine (b.o 3 (by decide) (by decide) _ f.o).mono ?_;rintro e y ⟨rfl,a⟩;have g:=za (f.o.trans (a.mono f.o.size));have x:=(c.o _ g.o).name)|(go_at_call 65;refine (b.o 2 (by decide) (by decide) _ d.o).mono ?_;rintro e v ⟨rfl,a⟩;have f:=za (d.o.trans (a.mono d.o.size));have u:=(c.o _ f.o).deep)|(go_at_call 65;refine (b.o 1 (by decide) (by decide) _ i.o).mono ?_;rintro e t ⟨rfl,a⟩;have d:=za (i.o.trans (a.mono i.o.size));have s:=(c.o _ d.o).e6));go_ret;exact⟨rfl,g.o⟩
 . go_enter func29,ntmps29;go_wp2_with (first|(go_at_call 65;refine (b.o 4 (by decide) (by decide) _ g.o).mono ?_;rintro e A ⟨rfl,a⟩;have h:=za (g.o.trans (a.mono g.o.size));have z:=(c.o _ h.o).type)|(go_at_call 65;refine (b.o 3 (by decide) (by decide) _ f.o).mono ?_;rintro e y ⟨rfl,a⟩;have g:=za (f.o.trans (a.mono f.o.size));have x:=(c.o _ g.o).name)|(go_at_call 65;refine (b.o 2 (by decide) (by decide) _ d.o).mono ?_;rintro e v ⟨rfl,a⟩;have f:=za (d.o.trans (a.mono d.o.size));have u:=(c.o _ f.o).deep)|(go_at_call 65;refine (b.o 1 (by decide) (by decide) _ i.o).mono ?_;rintro e t ⟨rfl,a⟩;have d:=za (i.o.trans (a.mono i.o.size));have s:=(c.o _ d.o).e6));go_ret;exact⟨rfl,h.o⟩
 . go_enter func29,ntmps29;go_wp2_with (first|(go_at_call 65;refine (b.o 5 (by decide) (by decide) _ h.o).mono ?_;rintro e C ⟨rfl,a⟩;have k:=za (h.o.trans (a.mono h.o.size));have B:=(c.o _ k.o).clock)|(go_at_call 65;refine (b.o 4 (by decide) (by decide) _ g.o).mono ?_;rintro e A ⟨rfl,a⟩;have h:=za (g.o.trans (a.mono g.o.size));have z:=(c.o _ h.o).type)|(go_at_call 65;refine (b.o 3 (by decide) (by decide) _ f.o).mono ?_;rintro e y ⟨rfl,a⟩;have g:=za (f.o.trans (a.mono f.o.size));have x:=(c.o _ g.o).name)|(go_at_call 65;refine (b.o 2 (by decide) (by decide) _ d.o).mono ?_;rintro e v ⟨rfl,a⟩;have f:=za (d.o.trans (a.mono d.o.size));have u:=(c.o _ f.o).deep)|(go_at_call 65;refine (b.o 1 (by decide) (by decide) _ i.o).mono ?_;rintro e t ⟨rfl,a⟩;have d:=za (i.o.trans (a.mono i.o.size));have s:=(c.o _ d.o).e6));go_ret;exact⟨rfl,k.o⟩
 . go_enter func29,ntmps29;go_wp2_with (first|(go_at_call 65;refine (b.o 6 (by decide) (by decide) _ k.o).mono ?_;rintro e G ⟨rfl,a⟩;have l:=za (k.o.trans (a.mono k.o.size));have F:=(c.o _ l.o).define)|(go_at_call 65;refine (b.o 5 (by decide) (by decide) _ h.o).mono ?_;rintro e C ⟨rfl,a⟩;have k:=za (h.o.trans (a.mono h.o.size));have B:=(c.o _ k.o).clock)|(go_at_call 65;refine (b.o 4 (by decide) (by decide) _ g.o).mono ?_;rintro e A ⟨rfl,a⟩;have h:=za (g.o.trans (a.mono g.o.size));have z:=(c.o _ h.o).type)|(go_at_call 65;refine (b.o 3 (by decide) (by decide) _ f.o).mono ?_;rintro e y ⟨rfl,a⟩;have g:=za (f.o.trans (a.mono f.o.size));have x:=(c.o _ g.o).name)|(go_at_call 65;refine (b.o 2 (by decide) (by decide) _ d.o).mono ?_;rintro e v ⟨rfl,a⟩;have f:=za (d.o.trans (a.mono d.o.size));have u:=(c.o _ f.o).deep)|(go_at_call 65;refine (b.o 1 (by decide) (by decide) _ i.o).mono ?_;rintro e t ⟨rfl,a⟩;have d:=za (i.o.trans (a.mono i.o.size));have s:=(c.o _ d.o).e6));go_ret;exact⟨rfl,l.o⟩
 . go_enter func29,ntmps29;go_wp2_with (first|(go_at_call 65;refine (b.o 7 (by decide) (by decide) _ l.o).mono ?_;rintro e I ⟨rfl,a⟩;have m:=za (l.o.trans (a.mono l.o.size));have H:=(c.o _ m.o).kn)|(go_at_call 65;refine (b.o 6 (by decide) (by decide) _ k.o).mono ?_;rintro e G ⟨rfl,a⟩;have l:=za (k.o.trans (a.mono k.o.size));have F:=(c.o _ l.o).define)|(go_at_call 65;refine (b.o 5 (by decide) (by decide) _ h.o).mono ?_;rintro e C ⟨rfl,a⟩;have k:=za (h.o.trans (a.mono h.o.size));have B:=(c.o _ k.o).clock)|(go_at_call 65;refine (b.o 4 (by decide) (by decide) _ g.o).mono ?_;rintro e A ⟨rfl,a⟩;have h:=za (g.o.trans (a.mono g.o.size));have z:=(c.o _ h.o).type)|(go_at_call 65;refine (b.o 3 (by decide) (by decide) _ f.o).mono ?_;rintro e y ⟨rfl,a⟩;have g:=za (f.o.trans (a.mono f.o.size));have x:=(c.o _ g.o).name)|(go_at_call 65;refine (b.o 2 (by decide) (by decide) _ d.o).mono ?_;rintro e v ⟨rfl,a⟩;have f:=za (d.o.trans (a.mono d.o.size));have u:=(c.o _ f.o).deep)|(go_at_call 65;refine (b.o 1 (by decide) (by decide) _ i.o).mono ?_;rintro e t ⟨rfl,a⟩;have d:=za (i.o.trans (a.mono i.o.size));have s:=(c.o _ d.o).e6));go_ret;exact⟨rfl,m.o⟩
 . go_enter func29,ntmps29;go_wp2_with (first|(go_at_call 65;refine (b.o 8 (by decide) (by decide) _ m.o).mono ?_;rintro e M ⟨rfl,a⟩;have n:=za (m.o.trans (a.mono m.o.size));have J:=(c.o _ n.o).k3)|(go_at_call 65;refine (b.o 7 (by decide) (by decide) _ l.o).mono ?_;rintro e I ⟨rfl,a⟩;have m:=za (l.o.trans (a.mono l.o.size));have H:=(c.o _ m.o).kn)|(go_at_call 65;refine (b.o 6 (by decide) (by decide) _ k.o).mono ?_;rintro e G ⟨rfl,a⟩;have l:=za (k.o.trans (a.mono k.o.size));have F:=(c.o _ l.o).define)|(go_at_call 65;refine (b.o 5 (by decide) (by decide) _ h.o).mono ?_;rintro e C ⟨rfl,a⟩;have k:=za (h.o.trans (a.mono h.o.size));have B:=(c.o _ k.o).clock)|(go_at_call 65;refine (b.o 4 (by decide) (by decide) _ g.o).mono ?_;rintro e A ⟨rfl,a⟩;have h:=za (g.o.trans (a.mono g.o.size));have z:=(c.o _ h.o).type)|(go_at_call 65;refine (b.o 3 (by decide) (by decide) _ f.o).mono ?_;rintro e y ⟨rfl,a⟩;have g:=za (f.o.trans (a.mono f.o.size));have x:=(c.o _ g.o).name)|(go_at_call 65;refine (b.o 2 (by decide) (by decide) _ d.o).mono ?_;rintro e v ⟨rfl,a⟩;have f:=za (d.o.trans (a.mono d.o.size));have u:=(c.o _ f.o).deep)|(go_at_call 65;refine (b.o 1 (by decide) (by decide) _ i.o).mono ?_;rintro e t ⟨rfl,a⟩;have d:=za (i.o.trans (a.mono i.o.size));have s:=(c.o _ d.o).e6));go_ret;exact⟨rfl,n.o⟩
 . go_enter func29,ntmps29;go_wp2_with (first|(go_at_call 65;refine (b.o 9 (by decide) (by decide) _ n.o).mono ?_;rintro e O ⟨rfl,a⟩;have o:=za (n.o.trans (a.mono n.o.size));have E:=(c.o _ o.o).mS)|(go_at_call 65;refine (b.o 8 (by decide) (by decide) _ m.o).mono ?_;rintro e M ⟨rfl,a⟩;have n:=za (m.o.trans (a.mono m.o.size));have J:=(c.o _ n.o).k3)|(go_at_call 65;refine (b.o 7 (by decide) (by decide) _ l.o).mono ?_;rintro e I ⟨rfl,a⟩;have m:=za (l.o.trans (a.mono l.o.size));have H:=(c.o _ m.o).kn)|(go_at_call 65;refine (b.o 6 (by decide) (by decide) _ k.o).mono ?_;rintro e G ⟨rfl,a⟩;have l:=za (k.o.trans (a.mono k.o.size));have F:=(c.o _ l.o).define)|(go_at_call 65;refine (b.o 5 (by decide) (by decide) _ h.o).mono ?_;rintro e C ⟨rfl,a⟩;have k:=za (h.o.trans (a.mono h.o.size));have B:=(c.o _ k.o).clock)|(go_at_call 65;refine (b.o 4 (by decide) (by decide) _ g.o).mono ?_;rintro e A ⟨rfl,a⟩;have h:=za (g.o.trans (a.mono g.o.size));have z:=(c.o _ h.o).type)|(go_at_call 65;refine (b.o 3 (by decide) (by decide) _ f.o).mono ?_;rintro e y ⟨rfl,a⟩;have g:=za (f.o.trans (a.mono f.o.size));have x:=(c.o _ g.o).name)|(go_at_call 65;refine (b.o 2 (by decide) (by decide) _ d.o).mono ?_;rintro e v ⟨rfl,a⟩;have f:=za (d.o.trans (a.mono d.o.size));have u:=(c.o _ f.o).deep)|(go_at_call 65;refine (b.o 1 (by decide) (by decide) _ i.o).mono ?_;rintro e t ⟨rfl,a⟩;have d:=za (i.o.trans (a.mono i.o.size));have s:=(c.o _ d.o).e6));go_ret;exact⟨rfl,o.o⟩
 . go_enter func29,ntmps29;go_wp2_with (first|(go_at_call 65;refine (b.o 10 (by decide) (by decide) _ o.o).mono ?_;rintro e L ⟨rfl,a⟩;have r:=za (o.o.trans (a.mono o.o.size)))|(go_at_call 65;refine (b.o 9 (by decide) (by decide) _ n.o).mono ?_;rintro e O ⟨rfl,a⟩;have o:=za (n.o.trans (a.mono n.o.size));have E:=(c.o _ o.o).mS)|(go_at_call 65;refine (b.o 8 (by decide) (by decide) _ m.o).mono ?_;rintro e M ⟨rfl,a⟩;have n:=za (m.o.trans (a.mono m.o.size));have J:=(c.o _ n.o).k3)|(go_at_call 65;refine (b.o 7 (by decide) (by decide) _ l.o).mono ?_;rintro e I ⟨rfl,a⟩;have m:=za (l.o.trans (a.mono l.o.size));have H:=(c.o _ m.o).kn)|(go_at_call 65;refine (b.o 6 (by decide) (by decide) _ k.o).mono ?_;rintro e G ⟨rfl,a⟩;have l:=za (k.o.trans (a.mono k.o.size));have F:=(c.o _ l.o).define)|(go_at_call 65;refine (b.o 5 (by decide) (by decide) _ h.o).mono ?_;rintro e C ⟨rfl,a⟩;have k:=za (h.o.trans (a.mono h.o.size));have B:=(c.o _ k.o).clock)|(go_at_call 65;refine (b.o 4 (by decide) (by decide) _ g.o).mono ?_;rintro e A ⟨rfl,a⟩;have h:=za (g.o.trans (a.mono g.o.size));have z:=(c.o _ h.o).type)|(go_at_call 65;refine (b.o 3 (by decide) (by decide) _ f.o).mono ?_;rintro e y ⟨rfl,a⟩;have g:=za (f.o.trans (a.mono f.o.size));have x:=(c.o _ g.o).name)|(go_at_call 65;refine (b.o 2 (by decide) (by decide) _ d.o).mono ?_;rintro e v ⟨rfl,a⟩;have f:=za (d.o.trans (a.mono d.o.size));have u:=(c.o _ f.o).deep)|(go_at_call 65;refine (b.o 1 (by decide) (by decide) _ i.o).mono ?_;rintro e t ⟨rfl,a⟩;have d:=za (i.o.trans (a.mono i.o.size));have s:=(c.o _ d.o).e6));go_ret;exact⟨rfl,r.o⟩
 go_enter func29,ntmps29;go_wp2_with (first|(go_at_call 65;refine (b.o 10 (by decide) (by decide) _ o.o).mono ?_;rintro e L ⟨rfl,a⟩;have r:=za (o.o.trans (a.mono o.o.size)))|(go_at_call 65;refine (b.o 9 (by decide) (by decide) _ n.o).mono ?_;rintro e O ⟨rfl,a⟩;have o:=za (n.o.trans (a.mono n.o.size));have E:=(c.o _ o.o).mS)|(go_at_call 65;refine (b.o 8 (by decide) (by decide) _ m.o).mono ?_;rintro e M ⟨rfl,a⟩;have n:=za (m.o.trans (a.mono m.o.size));have J:=(c.o _ n.o).k3)|(go_at_call 65;refine (b.o 7 (by decide) (by decide) _ l.o).mono ?_;rintro e I ⟨rfl,a⟩;have m:=za (l.o.trans (a.mono l.o.size));have H:=(c.o _ m.o).kn)|(go_at_call 65;refine (b.o 6 (by decide) (by decide) _ k.o).mono ?_;rintro e G ⟨rfl,a⟩;have l:=za (k.o.trans (a.mono k.o.size));have F:=(c.o _ l.o).define)|(go_at_call 65;refine (b.o 5 (by decide) (by decide) _ h.o).mono ?_;rintro e C ⟨rfl,a⟩;have k:=za (h.o.trans (a.mono h.o.size));have B:=(c.o _ k.o).clock)|(go_at_call 65;refine (b.o 4 (by decide) (by decide) _ g.o).mono ?_;rintro e A ⟨rfl,a⟩;have h:=za (g.o.trans (a.mono g.o.size));have z:=(c.o _ h.o).type)|(go_at_call 65;refine (b.o 3 (by decide) (by decide) _ f.o).mono ?_;rintro e y ⟨rfl,a⟩;have g:=za (f.o.trans (a.mono f.o.size));have x:=(c.o _ g.o).name)|(go_at_call 65;refine (b.o 2 (by decide) (by decide) _ d.o).mono ?_;rintro e v ⟨rfl,a⟩;have f:=za (d.o.trans (a.mono d.o.size));have u:=(c.o _ f.o).deep)|(go_at_call 65;refine (b.o 1 (by decide) (by decide) _ i.o).mono ?_;rintro e t ⟨rfl,a⟩;have d:=za (i.o.trans (a.mono i.o.size));have s:=(c.o _ d.o).e6));go_ret;exact⟨rfl,r.o⟩
attribute [local go_sem ↓] Go.wp_at_zero Go.wp_at_succ
theorem y0 (S:Xs)(p:Xb)(f:Nat)(b:Int)(w:Xw)(C:1<=f)(D:f<=11)(F:Gl S w)(E:Sn S w)(x:fw w) :
 xK 12 #[fN S p f b] w λe u=>e=.returned (.tuple #[xI (f:Nat),xI b])/\xB w u:=by
 have o:=za (λW (c:xB w W)=>F.of (T:=λ_=>False) (Fr.dp c) (λ_ e=>e.elim));have r:aa (∀W,xB w W->Sn S W):=λW c i j G H I J A s=>E i j G H I J A (c.trans (s.mono c.size));have z:aa (∀W,xB w W->fw W):=λW c=>(World.cell?_of_block (w:=w) (a:=(xD 7 0)) (c.block _ (World.block_lt_of_cell? w (xD 7 0) x))).trans x;unfold fN ew;have g:=za (λ(M:Nat) (K L:Xv) W (c:xB w W)=>L1 p (aW S f) b rfl M K L W (z.o W c));have l:=za (λW (c:xB w W)=>LN S p f b W C D (o.o W c) (r.o W c));unfold fN ew at l;unfold ew at g;go_enter func12,ntmps12;go_upto_region 5 with (go_at_call 28;refine (g.o w.heap.size _ _ _ (zq w _) (zc w _)).mono ?_;rintro e y ⟨rfl,m,n⟩);obtain⟨f0,f1,N,O⟩:=zp m;have d:xB w y:=(((Fr.refl _ w).alloc _).trans n).below (B:=w.heap.size) (an _) (λk e=>by omega);have q:=za (l.o y.drew (d.drew))
 go_region_held3 (λu=>u.cell? (xD w.heap.size 1)=some (xI b))
  (first|(with_reducible (repeat (first|assumption|refine zg ?_|refine zj _ ?_|refine zk (by omega) ?_|refine zd h.o ?_ (by first|omega|(rw[au];omega)))))|go_keep)
  (first|(go_at_call 29;refine q.o.mono ?_;rintro e P ⟨rfl,t⟩;have h:=za (zw t)))
 all_goals go_wp2_with fail
 all_goals refine bodyPost_ret (v:=.tuple #[xI (f:Nat),xI b]) (by simp[results,results12,go_sem]) rfl ⟨rfl,?_⟩
 all_goals exact d.trans (h.o.mono d.size)
end
section
open Go.RowKit
structure p2 (S:Xs) (w:Xw) (N:Nat):Prop where
 lo:21<=N
 aC:∀i,1<=i->i<=11->∃c t,w.heap[(S i).block]?=some (.cells c t (0,0))/\(S i).block<N
 ne:∀i j,1<=i->i<=11->1<=j->j<=11->i≠j->S i≠S j
 Ay:fw w
theorem p2.sn {S:Xs}{w:Xw}{N:Nat}(h:p2 S w N):Sn S w:=by
 obtain⟨s,c,a⟩:=Option.map_eq_some_iff.1 Tryz.AO;obtain⟨t,d,e⟩:=Option.map_eq_some_iff.1 Tryz.AV;intro i j k l m n f g;by_cases b:i=j
 . subst b;rw[decide_eq_true rfl];exact run_eql_iface_ptr_same (P:=prog) f (S i) underlying42 underlying399 c a d
 rw[decide_eq_false b];obtain⟨q,t1,o,_⟩:=h.aC i k l;obtain⟨r,t2,p,_⟩:=h.aC j m n;exact run_eql_iface_ptr_other (P:=prog) f underlying42 underlying399 c a d (by rw[e];decide) (h.ne i j k l m n b) ((g.block _ (ze o)).trans o) ((g.block _ (ze p)).trans p)
end
section
open Go.RowKit
variable {d:Xl} {B a:Nat} {b m:Xv} {w l:Xw}
theorem Tryz.AK:(prog.info? 9).map (λi=>(i.zero,i.size,i.bytes))=some (some (.string ⟨#[]⟩),1,16):=by kernel_rfl
theorem LS (a B:Nat)(b:Xv)(n:Nat)(D:Xm)(g k c:Nat)(i:Xm)(w:Xw)(F:xH w a #[b] 81)(f:w.ownsRow B 9 1 b n D)(J:a<B)(y:B<=w.heap.size)(R:i.length=k)(G:∀j u,i[j]?=some u->w.cell? (((xD g 0):Addr).add j)=some u)(E:∀u∈i,u.oneCell'=true)(Q:n+k<=10000000000) :
 xK 77 #[xP a,xS g k c] w (λe l=>e=.returned (.tuple #[])/\∃v,l.heap[a]?=some (.cells #[v] 81 (0,0))/\l.ownsRow B 9 1 v (n+k) (D++i)/\Fr (λj=>j=a∨b.ownBlock=some j) w l/\(∀j,v.ownBlock=some j->b.ownBlock=some j∨w.heap.size<=j)):=by
 obtain⟨O,P,K⟩:=zu F;obtain⟨L,I,z,A,C⟩:=info_parts Tryz.AK;have M:n+k<=maxLen:=by unfold maxLen;omega
 have x:(n+k)*16<=140737488355328:=by omega
 have p:=za f;clear f;go_enter func77,ntmps77;go_wp2_with (at_builtin;refine o4 _ rfl (.tmp 8) (.tmp 9) 79 rfl B 9 L _ 1 16 underlying79 I z A C rfl (by decide) b n D rfl p.o (xD g 0) k c i rfl (by omega) G E M x y ?_;intro v N f o q;obtain⟨V,H,rfl⟩:=kE f;have s:=Fr.gi o;have t:=(s.block a K (λh=>by have:=(p.o.lt _ h).1;omega)).trans F;obtain⟨S,T,U⟩:=zu t;have r:=za f;clear f o);go_end0;refine⟨rfl,_,zh _ _ _ _ t,zi r.o (λj E _ _=>zr (by omega) rfl),?_,q⟩;exact ((s.mono (λ_ _ h=>ap h):Fr (λj=>j=a∨b.ownBlock=some j) w N)).setCell (ao (ao rfl)) _
structure Ln (a B:Nat) (w:Xw) (b:Xv) (d:Xl):Prop where
 aC:w.heap[a]?=some (.cells #[b] 81 (0,0))
 own:w.ownsRow B 9 1 b d.length (d.map .string)
structure fi (a:Nat) (w:Xw) (b:Xv) (l:Xw) (m:Xv):Prop where
 fr:Fr (λj=>j=a∨b.ownBlock=some j) w l
 new:∀j,m.ownBlock=some j->b.ownBlock=some j∨w.heap.size<=j
theorem fi.refl (a:Nat)(w:Xw)(b:Xv):fi a w b w b:=⟨Fr.refl _ w,λ_ h=>ao h⟩
theorem fi.trans {f g:Xw}{c e:Xv}(h:fi a w b f c)(k:fi a f c g e):fi a w b g e:=by
 have p:=h.fr.size;refine⟨h.fr.dr k.fr (λi o hs=>?_),λj n=>?_⟩
 . rcases hs with hs|hs
   . exact ao hs
   rcases h.new i hs with h'|h'
   . exact ap h'
   omega
 rcases k.new j n with h'|h'
 . exact h.new j h'
 right;omega
theorem fi.alloc (h:fi a w b l m)(o:Obj):fi a w b (l.alloc o) m:=⟨h.fr.alloc o,h.new⟩
theorem fi.cQ (h:fi a w.drew b l m):fi a w b l m:=⟨h.fr.cQ,h.new⟩
def y7 (a B:Nat)(w:Xw)(b:Xv)(d:Xl)(e:Ending)(l:Xw):Prop :=
 e=.returned (.tuple #[])/\∃m,Ln a B l m d/\fi a w b l m
theorem Ln.alloc (h:Ln a B w b d)(o:Obj):Ln a B (w.alloc o) b d :=
 ⟨(Below.heap_alloc _ _ _ (ze h.aC)).trans h.aC,zD h.own o⟩
theorem Ln.drew (h:Ln a B w b d):Ln a B w.drew b d:=⟨h.aC,h.own⟩
theorem LW {e:Xl}:∀u∈e.map Value.string,u.oneCell'=true:=by intro u c;obtain⟨s,_,rfl⟩:=List.mem_map.1 c;rfl
theorem pP (a B:Nat)(w:Xw)(b:Xv)(d i:Xl)(g k c:Nat)(f:Nat×Nat)(h:Ln a B w b d)(n:a<B)(j:B<=w.heap.size)(p:w.heap[g]?=some (.cells (i.map Value.string).toArray 9 f))(o:i.length=k)(v:d.length+i.length<=10000000000) :
 xK 77 #[xP a,xS g k c] w (y7 a B w b (d++i)):=by
 refine (LS a B b d.length _ g k c (i.map .string) w h.aC h.own n j (by simpa using o) (zN p rfl) LW (by omega)).mono ?_;rintro e l ⟨rfl,u,q,r,s,t⟩;refine⟨rfl,u,⟨q,?_⟩,s,t⟩;rw[aP,List.map_append,o];exact r
end
section
open Go.RowKit
def sy (b:Bool):ByteArray:=if b then ⟨#[98,111,111,108]⟩ else ⟨#[105,110,116]⟩
theorem y5 (w:Xw)(b a:Obj):((w.alloc b).alloc a).drew.heap[w.heap.size+1]?=some a:=by have h:=zc (w.alloc b) a;rw[au] at h;exact h
theorem y8 {b:Nat}{w f:Xw}{c a:Xv}{d e:Obj}(h:fi b ((w.alloc d).alloc e).drew c f a):fi b w c f a:=(((fi.refl b w c).alloc d).alloc e).trans h.cQ
theorem yZ:zH 140:=λ_ _=>by kernel_rfl
theorem y6:zH 77:=λ_ _=>by kernel_rfl
theorem Lz (d B:Nat)(w:Xw)(j:Xv)(h:Xl)(nm ck:Xb)(a u t r:Nat)(q:Nat)(b:Bool)(k:q=if b then 1 else 0)(H:Ln d B w j h)(i:d<B)(s:B<=w.heap.size)(p:h.length+3<=10000000000) :
 xK 80 #[xP d,.agg #[.string nm,xI a,xI q,xI u,xI t,.string ck,xI r]] w (y7 d B w j (h++[nm,⟨#[58]⟩,sy b])):=by
 subst k;go_enter func80,ntmps80;have o:∀l m,aa (Ln d B ((w.alloc l).alloc m).drew j h):=λl m=>((H.alloc l).alloc m).drew;cases b with
 | true =>
   go_upto_region 1 with fail;go_region_law (first|(refine kD rfl 140 (.tmp 9) 151 rfl yZ (xI 1) rfl (ph _) ?_;rintro e x ⟨rfl,rfl⟩;refine⟨_,rfl,?_⟩)|(refine rl rfl 77 (.tmp 4) (.tmp 11) 140 79 rfl y6 (xP d) (xS (w.heap.size+1) 3 3) rfl rfl (pP d B _ j h [nm,⟨#[58]⟩,sy true] (w.heap.size+1) 3 3 (0,0) (o _ _).out i (by simp;omega) (y5 w _ _) rfl (by simpa using p)) ?_;rintro e v ⟨rfl,n,g,c⟩;refine⟨_,rfl,?_⟩;have f:=za (y8 c);clear c));all_goals go_wp2_with fail
   all_goals go_end0
   all_goals exact⟨rfl,_,g,f.o⟩
 | false =>
   go_upto_region 1 with fail;go_region_law (first|(refine kD rfl 140 (.tmp 9) 151 rfl yZ (xI 0) rfl (rU _) ?_;rintro e x ⟨rfl,rfl⟩;refine⟨_,rfl,?_⟩)|(refine rl rfl 77 (.tmp 4) (.tmp 11) 140 79 rfl y6 (xP d) (xS (w.heap.size+1) 3 3) rfl rfl (pP d B _ j h [nm,⟨#[58]⟩,sy false] (w.heap.size+1) 3 3 (0,0) (o _ _).out i (by simp;omega) (y5 w _ _) rfl (by simpa using p)) ?_;rintro e v ⟨rfl,n,g,c⟩;refine⟨_,rfl,?_⟩;have f:=za (y8 c);clear c));all_goals go_wp2_with fail
   all_goals go_end0
   all_goals exact⟨rfl,_,g,f.o⟩
end
section
open Go.RowKit
variable {a:Xl} {B lb:Nat} {tv0:Xv} {W w0:Xw}
structure aQ (lb B:Nat) (w0:Xw) (tv0:Xv) (W:Xw) (a:Xl):Prop where
 lt:lb<B
 le:B<=w0.heap.size
 lo:∀j,tv0.ownBlock=some j->B<=j/\j<w0.heap.size
 ln:∃tv,Ln lb B W tv a/\fi lb w0 tv0 W tv
theorem aQ.start {b:Xv}(h:Ln lb B W b a)(c:lb<B)(d:B<=W.heap.size):aQ lb B W b W a :=
 ⟨c,d,λj e=>h.own.lt j e,b,h,fi.refl _ _ _⟩
theorem aQ.size (h:aQ lb B w0 tv0 W a):w0.heap.size<=W.heap.size:=by obtain⟨c,_,b⟩:=h.ln;exact b.fr.size
theorem aQ.alloc (h:aQ lb B w0 tv0 W a)(o:Obj):aQ lb B w0 tv0 (W.alloc o) a:=by obtain⟨d,b,c⟩:=h.ln;exact⟨h.lt,h.le,h.lo,d,b.alloc o,c.alloc o⟩
theorem aQ.drew (h:aQ lb B w0 tv0 W a):aQ lb B w0 tv0 W.drew a:=by obtain⟨d,c,b⟩:=h.ln;exact⟨h.lt,h.le,h.lo,d,c.drew,⟨b.fr.os,b.fr.tape,b.fr.output,b.fr.size,b.fr.block⟩,b.new⟩
theorem aQ.am (h:aQ lb B w0 tv0 W a){N:Nat}(c:N<=lb):bV N w0 W:=by
 obtain⟨d,_,b⟩:=h.ln;have:=h.lt;have:=h.le;refine b.fr.am (by omega) ?_;rintro k (rfl|hk)
 . exact c
 have:=(h.lo k hk).1;omega
theorem aQ.kept (h:aQ lb B w0 tv0 W a){b:Nat}{o:Obj}(d:w0.heap[b]?=some o)(c:¬b=lb)(f:¬tv0.ownBlock=some b):W.heap[b]?=some o:=by obtain⟨g,_,e⟩:=h.ln;exact (e.fr.block b (by have:=Array.getElem?_eq_some_iff.1 d;exact this.1) (λhs=>by rcases hs with hs|hs;exact c hs;exact f hs)).trans d
def ey (lb B:Nat)(w0:Xw)(tv0:Xv)(a:Xl)(e:Ending)(b:Xw):Prop:=e=.returned (.tuple #[])/\aQ lb B w0 tv0 b a
theorem fY (h:aQ lb B w0 tv0 W a)(b:Xl)(k:Nat)(g:b.length=k)(i:(a++b).length<=10000000000)(o:Obj)(j:o=.cells (b.map Value.string).toArray 9 (0,0)) :
 xK 77 #[xP lb,xS W.heap.size k k] (W.alloc o) (ey lb B w0 tv0 (a++b)):=by
 obtain⟨n,f,d⟩:=h.ln;have:=h.lt;have:=h.le;have p:=d.fr.size;subst j;refine (pP lb B _ n a b W.heap.size k k (0,0) (f.alloc _) h.lt (by rw[au];omega) (zc W _) g (by simpa using i)).mono ?_;rintro e q ⟨rfl,c,l,m⟩;exact⟨rfl,h.lt,h.le,h.lo,c,l,(d.alloc _).trans m⟩
theorem pO (h:aQ lb B w0 tv0 W a)(b:Xl)(k:Nat)(g:b.length=k)(i:(a++b).length<=10000000000)(o:Obj)(j:o=.cells (b.map Value.string).toArray 9 (0,0)) :
 xK 77 #[xP lb,xS W.heap.size k k] (W.alloc o).drew (ey lb B w0 tv0 (a++b)):=by
 obtain⟨n,f,d⟩:=h.ln;have:=h.lt;have:=h.le;have p:=d.fr.size;subst j;refine (pP lb B _ n a b W.heap.size k k (0,0) (f.alloc _).drew h.lt (by show B<=(W.alloc _).heap.size;rw[au];omega) (zc W _) g (by simpa using i)).mono ?_;rintro e q ⟨rfl,c,l,m⟩;exact⟨rfl,h.lt,h.le,h.lo,c,l,(d.alloc _).trans m.cQ⟩
theorem y2 (F:FuncId)(g:Xa)(hF:zH F)(c:List (List ByteArray))
 (J:∀(i:Nat) (u:Xl),c[i]?=some u->∀(W:Xw) (a:Xl),aQ lb B w0 tv0 W a->(a++u).length<=10000000000->xK F (#[xI i]++g) W (ey lb B w0 tv0 (a++u)))
 (W:Xw) (a:Xl) (h:aQ lb B w0 tv0 W a) (z:(a++gS c).length<=10000000000) (V:c.length<=10000000000) :
 xK 78 #[xP lb,xI c.length,.func (.func F) #[] g] W (ey lb B w0 tv0 (a++gS c)):=by
 have Q:∀(f:Xa) (w:Xw),(callFunc F f).run prog w=.ok (.enter F f) w:=hF;have H:=za h;have O:=za J;have n:∀k,(eA false (c.take k)).length<=(eA false c).length:=by
  intro k;have e:∀(l:List (List ByteArray)) (b:Bool) (k:Nat),(eA b (l.take k)).length<=(eA b l).length:=by
   intro l;induction l with
   | nil=>intro b k;simp
   | cons x l T =>
     intro b k;cases k with
     | zero=>simp[eA]
     | succ k=>rw[cI,eA,eA];simp only[aP];have:=T true k;omega
  exact e c false k
 have S:a.length+(eA false c).length+2<=10000000000:=by unfold gS at z;simp only[aP,bJ,cw] at z;omega
 clear h J z;have d:=za n;clear n;go_enter func78,ntmps78;go_wp2_with (go_at_call 77;refine (fY H.o [jM] 1 rfl (by simp only[aP,bJ,cw];omega) _ rfl).mono ?_;rintro e X ⟨rfl,G⟩;have M:=za G;clear G);go_loopg [11] (c.length+1) (λj i wr=>∃k:Nat,k+j=c.length+1/\k<=c.length/\i=xI k/\aa (aQ lb B w0 tv0 wr (a++[jM]++eA false (c.take k))));case atStart=>exact⟨0,by omega,aE _,rfl,za (by simpa [eA] using M.o)⟩
 case round =>
  obtain⟨k,R,U,rfl,s⟩:=hrel;have q:=d.o k;by_cases y:k<c.length
  . obtain⟨u,A⟩:∃u,c[k]?=some u:=⟨_,av y⟩;have v:=za (LO A false);have r:=d.o (k+1);have D:=za (O.o k u A);have t:(eA false (c.take (k+1))).length=(eA false (c.take k)).length+((if 0<k then 1 else 0)+u.length):=by rw[v.o];simp only[aP];split <;> split <;> simp_all
    clear A;by_cases E:k=0
    . have C:a.length+1+(eA false (c.take k)).length+u.length<=10000000000:=(by rw[ae (by omega)] at t;omega);have o:¬((0:Int)<(k:Int)):=(by omega);have L:=za E;clear t r q E;go_wp2_with fail;with_reducible refine (D.o _ _ s.o (by simp only[aP,bJ,cw];omega)).mono ?_
      rintro e K ⟨rfl,m⟩;have p:=za m;clear m;go_wp2_with fail;go_roundg (gk-1);case measure=>omega
      refine⟨k+1,by omega,by omega,by go_num,za ?_⟩;have:=p.o;rw[v.o];simpa [bw,eA,L.o] using this
    have o:0<k:=(by omega);have C:a.length+1+(eA false (c.take k)).length+1+u.length<=10000000000:=(by simp[o] at t;omega);clear t r q;go_wp2_with (go_at_call 77;refine (fY s.o [p7] 1 rfl (by simp only[aP,bJ,cw];omega) _ rfl).mono ?_;rintro e K ⟨rfl,m⟩;have p:=za m;clear m);with_reducible refine (D.o _ _ p.o (by simp only[aP,bJ,cw];omega)).mono ?_
    rintro e Y ⟨rfl,I⟩;have N:=za I;clear I;go_wp2_with fail;go_roundg (gk-1);case measure=>omega
    refine⟨k+1,by omega,by omega,by go_num,za ?_⟩;have:=N.o;rw[v.o];simpa [bw,o] using this
  have P:k=c.length:=by omega
  subst P;rw[List.take_length] at s;go_wp2_with (go_at_call 77;refine (fY s.o [kr] 1 rfl (by simp only[aP,bJ,cw];omega) _ rfl).mono ?_;rintro e K ⟨rfl,m⟩;have p:=za m;clear m);first|go_end0|refine bodyPost_ret (results_none rfl _ _ _) rfl ?_
  exact⟨rfl,by simpa [gS,bw] using p.o⟩
end
section
open Go.RowKit
variable {b:Xl} {B a:Nat} {d:Xv} {W c:Xw}
theorem aQ.box (h:aQ a B c d W b)(o:Obj):∃g,aQ a B (W.alloc o) g (W.alloc o) b/\(∀j,g.ownBlock=some j->j<W.heap.size)/\a<W.heap.size/\∀(l:Xw) (f:Xl),aQ a B (W.alloc o) g l f->aQ a B c d l f:=by obtain⟨g,m,n⟩:=h.ln;have r:=n.fr.size;have:=h.le;have:=h.lt;refine⟨g,aQ.start (m.alloc o) h.lt (by rw[au];omega),λj e=>(m.own.lt j e).2,by omega,λl f k=>?_⟩;obtain⟨i,p,q⟩:=k.ln;exact⟨h.lt,h.le,h.lo,i,p,(n.alloc o).trans q⟩
theorem aQ.Ah (h:aQ a B c d W b)(o g:Obj):∃i,aQ a B ((W.alloc o).alloc g) i ((W.alloc o).alloc g) b/\(∀j,i.ownBlock=some j->j<W.heap.size)/\a<W.heap.size/\∀(m:Xw) (f:Xl),aQ a B ((W.alloc o).alloc g) i m f->aQ a B c d m f:=by obtain⟨i,n,p⟩:=h.ln;have s:=p.fr.size;have:=h.le;have:=h.lt;refine⟨i,aQ.start ((n.alloc o).alloc g) h.lt (by simp only[au];omega),λj e=>(n.own.lt j e).2,by omega,λm f k=>?_⟩;obtain⟨l,q,r⟩:=k.ln;exact⟨h.lt,h.le,h.lo,l,q,((p.alloc o).alloc g).trans r⟩
def lS (v:Vr):Value:=.agg #[.string v.nm,xI v.a,xI (dv v:Nat),xI (ba v:Nat),xI v.on,.string v.ck,xI v.ca]
theorem sx (h:aQ a B c d W b)(v:Vr)(j:(b++eB v).length<=10000000000) :
 xK 80 #[xP a,lS v] W (ey a B c d (b++eB v)):=by
 obtain⟨m,i,g⟩:=h.ln;have:=h.le;have n:=g.fr.size;refine (Lz a B W m b v.nm v.ck v.a (ba v) v.on v.ca (dv v) v.bl rfl i h.lt (by omega) (by simpa [eB] using j)).mono ?_;rintro e o ⟨rfl,f,k,l⟩;exact⟨rfl,h.lt,h.le,h.lo,f,k,g.trans l⟩
def oe (v:Vr):Prop:=∀(a B:Nat) (c W:Xw) (d:Xv) (b:Xl),aQ a B c d W b->(b++fZ v).length<=10000000000->xK 82 #[xP a,lS v] W (ey a B c d (b++fZ v))
theorem EY (v:Vr)(f:ba v=0):oe v:=by
 intro a B c W d b h m;have y:=za f;clear f;obtain⟨D,r,t,C,w⟩:=h.box (.cells #[.string v.nm,xI v.a,xI (dv v:Nat),xI (ba v:Nat),xI v.on,.string v.ck,xI v.ca] 156);have j:(b++eB v).length<=10000000000:=by simp only[fZ,aP] at m ⊢;omega
 have l:=sx r v j;have x:∀(n:Xw) (k:Xl),aQ a B _ D n k->xH n W.heap.size #[.string v.nm,xI v.a,xI (dv v:Nat),xI (ba v:Nat),xI v.on,.string v.ck,xI v.ca] 156:=λn k A=>A.kept (zc W _) (by omega) (λe=>by have:=t _ e;omega);have p:=m;clear h r m j t;unfold lS at l ⊢;go_enter func82,ntmps82;go_wp2_with (go_at_call 80;refine l.mono ?_);rintro e M ⟨rfl,o⟩;have i:=x _ _ o;obtain⟨E,F,G,z,H,I,J,K,L⟩:=eK i;clear i;have f:=y.o;rw[f] at z;have g:fZ v=eB v++[⟨#[59]⟩]:=by simp[fZ,tj,f]
 rw[g] at p;clear f l;go_wp2_with (go_at_call 77;refine (fY o [⟨#[59]⟩] 1 rfl (by simpa using p) _ rfl).mono ?_;rintro e N ⟨rfl,q⟩;have u:=q;clear q);first|go_end0|refine bodyPost_ret (results_none rfl _ _ _) rfl ?_
 exact⟨rfl,w _ _ (by rw[g];have s:=u;rw[bw] at s;exact s)⟩
theorem LL:zH 79:=λ_ _=>by kernel_rfl
theorem LA:zH 81:=λ_ _=>by kernel_rfl
theorem LM {N:Nat}(h:aQ a B c d W b)(D:N<=a)(n:ay)(p:Nat)(R F:Xv)(S:Xm)(t:NT c N n p R F S)(k l:Nat)
 (m:xH c k #[xP a] 140) (o:xH c l #[xP p] 78) (q:¬k=a) (C:¬l=a) (t1:¬d.ownBlock=some k) (t2:¬d.ownBlock=some l)
 (i:Nat) (v:Vr) (u:n.ab[i]?=some v) (I:(b++eB v).length<=10000000000) :
 xK 79 (#[xI i]++#[xP k,xP l]) W (ey a B c d (b++eB v)):=by
 obtain⟨a0,a2,a3⟩:=zu (h.kept m q t1);obtain⟨a4,a5,a9⟩:=zu (h.kept o C t2);have j:=t.am (h.am D);obtain⟨U,V,X,Y,Z,ak,al,ar⟩:=zt j.aC;obtain⟨x,A,rfl⟩:=zB j.bZ;obtain⟨g,rfl,v0,be,v2,v3,v4,v5,bk⟩:=hj j.bZ u;have G:=t.bO;have H:=(aB.1 u).1;have w:(∀(f:Xw) (s:Xl),aQ a B c d f s->f.cell? (xD k 0)=some (xP a)/\f.cell? (xD l 0)=some (xP p)/\f.cell? (xD p 2)=some (xS g n.ab.length A)/\f.cell? (xD g (i*7))=some (.string v.nm)/\f.cell? (xD g (i*7+1))=some (xI v.a)/\f.cell? (xD g (i*7+2))=some (xI (dv v:Nat))/\f.cell? (xD g (i*7+3))=some (xI (ba v:Nat))/\f.cell? (xD g (i*7+4))=some (xI v.on)/\f.cell? (xD g (i*7+5))=some (.string v.ck)/\f.cell? (xD g (i*7+6))=some (xI v.ca)):=by intro f s y;have r:=t.am (y.am D);obtain⟨T,E,J,K,L,M,O,P,Q⟩:=hj r.bZ u;cases E;exact⟨(zu (y.kept m q t1)).1,(zu (y.kept o C t2)).1,(zt r.aC).2.2.1,J,K,L,M,O,P,Q⟩
 have z:=sx h.drew v I;clear h j m o t u;unfold lS at z
 show Calls prog _ #[xI i,xP k,xP l] W _;go_enter func79,ntmps79;go_region_held3 (λf=>f.cell? (xD k 0)=some (xP a)/\f.cell? (xD l 0)=some (xP p)/\f.cell? (xD p 2)=some (xS g n.ab.length A)/\f.cell? (xD g (i*7))=some (.string v.nm)/\f.cell? (xD g (i*7+1))=some (xI v.a)/\f.cell? (xD g (i*7+2))=some (xI (dv v:Nat))/\f.cell? (xD g (i*7+3))=some (xI (ba v:Nat))/\f.cell? (xD g (i*7+4))=some (xI v.on)/\f.cell? (xD g (i*7+5))=some (.string v.ck)/\f.cell? (xD g (i*7+6))=some (xI v.ca)) (first|go_keep|exact w _ _ q) (first|(go_at_call 80;refine z.mono ?_;rintro e bl ⟨rfl,q⟩));all_goals first|go_end0|refine bodyPost_ret (results_none rfl _ _ _) rfl ?_
 all_goals exact⟨rfl,q⟩
end
section
open Go.RowKit
variable {j:Xl} {B N b i a:Nat} {S:Xs} {t:Tm} {f:Xv} {W w c:Xw}
theorem iP {d:Xw}(h:bV N w d)(e:b<N):d.cell? (xD b i)=w.cell? ⟨b,i,none⟩:=by have:=h b e;simp only[World.cell?,this]
theorem y1 {k:Nat}(h:k<24):gJ[k]?=some (wd k):=by have:gJ.length=24:=rfl;unfold wd;rw[av (by omega)];rfl
theorem TT.look {u:Tm}(h:TT w N t (xP b))(y:t.ts[i]?=some u):∃g o n,xC w b 5 (xS g t.ts.length o)/\xC w g i (xP n)/\TT w N u (xP n)/\g<N:=by obtain⟨z,q,J,e,G,l,k,d,m,p⟩:=h.ptr;cases e;obtain⟨A,C,D,E,F,r,H,I⟩:=zt l;obtain⟨x,o,rfl⟩:=zB k;obtain⟨g,n,rfl,v,s,_⟩:=TT.arg k d m y;exact⟨g,o,n,d▸r,v,s,p g rfl⟩
theorem TT.mW (h:TT w N t (xP b)):xC w b 0 (xI t.k)/\xC w b 2 (.string t.s)/\xC w b 4 (xI t.n)/\b<w.heap.size/\b<N:=by obtain⟨u,g,A,e,q,d,l,k,m,r⟩:=h.ptr;cases e;obtain⟨n,v,o,x,p,y,z,s⟩:=zt d;exact⟨n,o,p,s,q⟩
structure Kn (S:Xs) (w:Xw):Prop where
 gl:Gl S w
 oy:Lib.TabIs prog w "internal/strconv.uint64pow10" .u64 Lib.pow10Tab
theorem Tryz.ot:prog.globalNamed "internal/strconv.uint64pow10"=some 18:=by kernel_rfl
theorem Kn.ln (h:Kn S c)(g:aQ a B c f W j)(d:21<=a):Kn S W:=by
 obtain⟨m,_,l⟩:=g.ln;have:=g.lt;refine⟨h.gl.of l.fr (λk hk=>?_),?_⟩
 . rcases hk with rfl|hk
   . exact d
   have:=(g.lo k hk).1;omega
 have e:=h.oy;unfold Lib.TabIs World.var? at e ⊢;rw[Tryz.ot] at e ⊢;simp only[Option.bind_some] at e ⊢;rw[g.am (N:=21) d _ (by decide)];exact e
def ke (S:Xs)(t:Tm):Prop:=∀(a B N:Nat) (c:Xw) (f:Xv) (W:Xw) (j:Xl) (v:Xv),N<=a->21<=N->TT c N t v->Kn S c->aQ a B c f W j->(j++eO t).length<=10000000000->xK 142 #[xP a,v] W (ey a B c f (j++eO t))
theorem Ly (q:ke S t)(a B N:Nat)(c:Xw)(f:Xv)(W:Xw)(j:Xl)(v:Xv)(o:N<=a)(h:21<=N)(k:TT c N t v)(r:Kn S c)(l:aQ a B c f W j)(z:(j++jq t.k (eO t)).length<=10000000000) :
 xK 245 #[xP a,v] W (ey a B c f (j++jq t.k (eO t))):=by
 obtain⟨b,_,_,rfl,_⟩:=k.ptr;obtain⟨x,C,D,E,_⟩:=(k.am (l.am o)).mW;have g:=za z;by_cases p:t.k=4
 . have n:jq t.k (eO t)=[jM]++(eO t++[kr]):=by unfold jq;rw[ag p]
   rw[n] at g ⊢;rw[p] at x;go_enter func245,ntmps245;have d:=trivial;go_wp2_with (clear d;go_at_call 77;refine (fY l [jM] 1 rfl (by have:=g.o;simp only[aP,bJ,cw] at this ⊢;omega) _ rfl).mono ?_;rintro e F ⟨rfl,s⟩);have d:=trivial;go_wp2_with (clear d;go_at_call 142;refine (q a B N c f _ _ _ o h k r s (by have:=g.o;simp only[aP,bJ,cw] at this ⊢;omega)).mono ?_;rintro e A ⟨rfl,m⟩);have d:=trivial;go_wp2_with (clear d;go_at_call 77;refine (fY m [kr] 1 rfl (by have:=g.o;simp only[aP,bJ,cw] at this ⊢;omega) _ rfl).mono ?_;rintro e G ⟨rfl,u⟩);first|go_end0|refine bodyPost_ret (results_none rfl _ _ _) rfl ?_
   exact⟨rfl,by simpa [bw] using u⟩
 have n:jq t.k (eO t)=eO t:=by unfold jq;rw[ae p]
 rw[n] at g ⊢;have y:¬((t.k:Int)=4):=by omega
 go_enter func245,ntmps245;have d:=trivial;go_wp2_with (clear d;go_at_call 142;refine (q a B N c f _ _ _ o h k r l g.o).mono ?_;rintro e A ⟨rfl,m⟩);first|go_end0|refine bodyPost_ret (results_none rfl _ _ _) rfl ?_
 exact⟨rfl,m⟩
theorem LP (P:∀u∈t.ts,ke S u)(x:N<=a)(v:21<=N)(z:TT c N t (xP b))(q:Kn S c)(h:aQ a B c f W j)(s:List Tm)(E:t.ts=s)(O:0<s.length)(L:Xl)(M:iy t.k t.s (s.map Tm.k) (hH s)=L)(H:(j++iy t.k t.s (t.ts.map Tm.k) (hH t.ts)).length<=10000000000)
 (k:∀(g C:Nat) (p:Nat->Nat),aa (∀(m:Xw) (l:Xl),aQ a B c f m l->xC m b 0 (xI t.k)/\xC m b 2 (.string t.s)/\xC m b 5 (xS g s.length C))->aa (∀i u,s[i]?=some u->(∀(m:Xw) (l:Xl),aQ a B c f m l->xC m g i (xP (p i)))/\(∀(m:Xw) (l:Xl),aQ a B c f m l->(l++eO u).length<=10000000000->xK 142 #[xP a,xP (p i)] m (ey a B c f (l++eO u)))/\∀(m:Xw) (l:Xl),aQ a B c f m l->(l++jq u.k (eO u)).length<=10000000000->xK 245 #[xP a,xP (p i)] m (ey a B c f (l++jq u.k (eO u))))->aa (aQ a B c f W j)->aa (∀(m:Xw) (l:Xl),aQ a B c f m l->Gl S m)->aa ((j++L).length<=10000000000)->xK 198 #[xP a,xP b] W (ey a B c f (j++L))) :
 xK 198 #[xP a,xP b] W (ey a B c f (j++iy t.k t.s (t.ts.map Tm.k) (hH t.ts))):=by
 subst E;rw[M] at H ⊢;obtain⟨Y,G⟩:∃u,t.ts[0]?=some u:=⟨_,av O⟩;obtain⟨g,C,_,d,_,_,R⟩:=z.look G;have D:=z.mW.2.2.2.2;have y:∀i,∃p,∀u,t.ts[i]?=some u->c.cell? (xD g i)=some (xP p)/\TT c N u (xP p):=by
  intro i;cases Q:t.ts[i]? with
  | none=>exact⟨0,λu A=>by cases A⟩
  | some u => obtain⟨V,J,p,K,e,o,_⟩:=z.look Q;cases d.symm.trans K;exact⟨p,λX F=>by cases F;exact⟨e,o⟩⟩
 refine k g C (λi=>(y i).choose) (λm l n=>?_) (λi u A=>?_) h (λm l n=>(q.ln n (by omega)).gl) H
 . obtain⟨T,U,_,_,_⟩:=(z.am (n.am x)).mW;exact⟨T,U,(iP (n.am x) D).trans d⟩
 obtain⟨e,o⟩:=(y i).choose_spec u A;have I:=P u (aM A);exact⟨λm l n=>(iP (n.am x) R).trans e,λm l n r=>I a B N c f m l _ x v o q n r,λm l n r=>Ly I a B N c f m l _ x v o q n r⟩
def y9 (S:Xs)(t:Tm):Prop:=∀(a B N:Nat) (c:Xw) (f:Xv) (W:Xw) (j:Xl) (v:Xv),N<=a->21<=N->TT c N t v->Kn S c->aQ a B c f W j->(j++iy t.k t.s (t.ts.map Tm.k) (hH t.ts)).length<=10000000000->xK 198 #[xP a,v] W (ey a B c f (j++iy t.k t.s (t.ts.map Tm.k) (hH t.ts)))
theorem LH {u0 u1:Tm}(F:∀u∈t.ts,ke S u)(I:t.ts=[u0,u1])(H:t.k<24)(P:¬t.k=5)(Q:¬t.k=6)(Y:¬t.k=7)(Z:¬t.k=8)(M:¬t.k=10)(O:¬t.k=11):y9 S t:=by
 intro a B N c f W j v G q A r h J;obtain⟨b,_,_,rfl,_⟩:=A.ptr;refine LP F G q A r h [u0,u1] I (by simp) (eO u0++([wd t.k]++eO u1)) (by unfold iy;rw[ae P,ae Q,ae (by omega),ae (by omega)];rfl) J ?_;intro g R ak d l m D p;have s:gJ[t.k]?=some (wd t.k):=y1 H;have T:¬((t.k:Int)=5):=by omega
 have U:¬((t.k:Int)=6):=by omega
 have V:¬((t.k:Int)=7):=by omega
 have X:¬((t.k:Int)=8):=by omega
 have K:¬((t.k:Int)=10):=by omega
 have L:¬((t.k:Int)=11):=by omega
 go_enter func198,ntmps198;obtain⟨x,y,z⟩:=d.o _ _ m.o;have E:=(l.o 0 u0 rfl).1 _ _ m.o;have k:=trivial;go_wp2_with (clear k;go_at_call 142;refine ((l.o 0 u0 rfl).2.1 _ _ m.o (by have:=p.o;simp only[aP,bJ,cw] at this ⊢;omega)).mono ?_);rintro e al ⟨rfl,n⟩;obtain⟨x,y,z⟩:=d.o _ _ n;have k:=trivial;go_wp2_with (clear k;go_at_call 196;refine (sj S t.k (wd t.k) s _ (D.o _ _ n)).mono ?_);rintro e a2 ⟨rfl,rfl⟩;have k:=trivial;go_wp2_with (clear k;go_at_call 77;refine (fY n [wd t.k] 1 rfl (by have:=p.o;simp only[aP,bJ,cw] at this ⊢;omega) _ rfl).mono ?_);rintro e ar ⟨rfl,o⟩;obtain⟨x,y,z⟩:=d.o _ _ o;have E:=(l.o 1 u1 rfl).1 _ _ o;have k:=trivial;go_wp2_with (clear k;go_at_call 142;refine ((l.o 1 u1 rfl).2.1 _ _ o (by have:=p.o;simp only[aP,bJ,cw] at this ⊢;omega)).mono ?_);rintro e a0 ⟨rfl,C⟩;go_wp2_with fail;first|go_end0|refine bodyPost_ret (results_none rfl _ _ _) rfl ?_
 exact⟨rfl,by simpa [bw] using C⟩
end
section
open Go.RowKit
variable {f:Xl} {B c:Nat} {S:Xs} {t:Tm} {i:Xv} {W d:Xw}
mutual
def Bk:Tm->Bool
 | .mk _ _ _ _ n f=>decide (n<=9223372036854775807)&&ti f
def ti:List Tm->Bool
 | []=>true
 | t::l=>Bk t&&ti l
end
theorem aQ.aH {k:Xw}(h:aQ c B d i W f)(b:xB W k):aQ c B d i k f:=by obtain⟨m,a,l⟩:=h.ln;refine⟨h.lt,h.le,h.lo,m,⟨(b.block _ (ze a.aC)).trans a.aC,zi a.own (λg _ _ e=>b.block g (a.own.lt g e).2)⟩,l.trans ⟨Fr.dp b,λj e=>ao e⟩⟩
structure Bx (c B:Nat) (o:Obj) (b1 b2:Nat) (d:Xw) (i:Xv):Prop where
 h1:d.heap[b1]?=some (.cells #[xP c] 140 (0,0))
 h2:d.heap[b2]?=some o
 n1:¬b1=c
 n2:¬b2=c
 t1:¬i.ownBlock=some b1
 t2:¬i.ownBlock=some b2
theorem Bx.at {a b:Nat}{o:Obj}(h:Bx c B o a b d i)(e:aQ c B d i W f):xH W a #[xP c] 140/\W.heap[b]?=some o :=
 ⟨e.kept h.h1 h.n1 h.t1,e.kept h.h2 h.n2 h.t2⟩
theorem aQ.boxes (h:aQ c B d i W f)(a:Obj):∃g,aQ c B ((W.alloc (.cells #[xP c] 140)).alloc a) g ((W.alloc (.cells #[xP c] 140)).alloc a) f/\Bx c B a W.heap.size (W.heap.size+1) ((W.alloc (.cells #[xP c] 140)).alloc a) g/\∀(k:Xw) (b:Xl),aQ c B ((W.alloc (.cells #[xP c] 140)).alloc a) g k b->aQ c B d i k b:=by
 obtain⟨g,l,j,n,m⟩:=h.Ah (.cells #[xP c] 140) a;refine⟨g,l,⟨?_,?_,by omega,by omega,λe=>by have:=j _ e;omega,λe=>by have:=j _ e;omega⟩,m⟩
 . exact (Below.heap_alloc _ _ _ (by rw[au];omega)).trans (zc W _)
 have:=zc (W.alloc (.cells #[xP c] 140)) a;rwa [au] at this
theorem pR {N b:Nat}(u:N<=c)(z:TT d N t (xP b))(s:Kn S d)(y:21<=N)(h:aQ c B d i W f)(L:Xl)(x:lM t.k t.s t.n (t.ts.map Tm.k) (hH t.ts)=L)(w:(f++eO t).length<=10000000000)
 (k:∀(a:Xw) (o:Xv),W.heap.size+1<a.heap.size->b<a.heap.size->(W.alloc (.cells #[xP c] 140)).alloc (.cells #[xP b] 159)=a->aa (aQ c B a o a f)->aa (TT a N t (xP b))->aa (Kn S a)->aa (Bx c B (.cells #[xP b] 159 (0,0)) W.heap.size (W.heap.size+1) a o)->aa (∀(l:Xw) (p:Xl),aQ c B a o l p->xC l W.heap.size 0 (xP c)/\xC l (W.heap.size+1) 0 (xP b)/\xC l b 0 (xI t.k)/\xC l b 2 (.string t.s)/\xC l b 4 (xI t.n))->aa ((f++L).length<=10000000000)->xK 142 #[xP c,xP b] W (ey c B a o (f++L))) :
 xK 142 #[xP c,xP b] W (ey c B d i (f++eO t)):=by
 obtain⟨o,v,q,j⟩:=h.boxes (.cells #[xP b] 159);obtain⟨a,g⟩:∃a,a=(W.alloc (.cells #[xP c] 140)).alloc (.cells #[xP b] 159):=⟨_,rfl⟩;have r:Kn S a:=g▸s.ln ((h.alloc _).alloc _) (by omega);have m:=z.am (g▸((h.alloc _).alloc _).am u:bV N d a);rw[<- g] at v q j;have hex:eO t=L:=by rw[<- x];cases t;rfl
 rw[hex] at w ⊢;refine (k a o (by rw[g];simp only[au];omega) (m.mW).2.2.2.1 g.symm v m r q (λl p n=>?_) w).mono (λe l n=>⟨n.1,j _ _ n.2⟩);obtain⟨A,C,D,_,_⟩:=(m.am (n.am u)).mW;exact⟨(zu (q.at n).1).1,(zu (q.at n).2).1,A,C,D⟩
theorem Lx (o:t.k=3):ke S t:=by
 intro c B N d i W f v r j n k h w;obtain⟨b,_,_,rfl,_⟩:=n.ptr;refine pR r n k j h ([t.s]) (by unfold lM;rw[ae (by omega),ae (by omega),ag o]) w ?_;intro I G s u x m z y A a p;obtain⟨E,F,q,C,D⟩:=a.o _ _ m.o;go_enter func142,ntmps142;go_upto_region 1 with fail;rw[o] at q a;go_upto_region 11 with fail;go_region_held3 (λl=>l.cell? (xD W.heap.size 0)=some (xP c)/\l.cell? (xD (W.heap.size+1) 0)=some (xP b)/\l.cell? (xD b 2)=some (.string t.s)) (first|go_keep|exact⟨(a.o _ _ g).1,(a.o _ _ g).2.1,(a.o _ _ g).2.2.2.1⟩) (first|(go_at_call 77;refine (pO m.o [t.s] 1 rfl (by have:=p.o;simp only[aP,bJ,cw] at this ⊢;omega) _ rfl).mono ?_;rintro e H ⟨rfl,g⟩));all_goals first|go_end0|refine bodyPost_ret (results_none rfl _ _ _) rfl ?_
 all_goals exact⟨rfl,g⟩
theorem Mc (p:t.k=1):ke S t:=by
 intro c B N d i W f v u k o l h y;obtain⟨b,_,_,rfl,_⟩:=o.ptr;refine pR u o l k h ([wd 1]) (by unfold lM;rw[ae (by omega),ag (by omega),p]) y ?_;intro J H w x z j A q C a r;obtain⟨F,G,s,D,E⟩:=a.o _ _ j.o;go_enter func142,ntmps142;go_upto_region 1 with fail;rw[p] at s a;have m:gJ[1]?=some (wd 1):=y1 (by omega);go_upto_region 9 with fail;go_region_held3 (λn=>n.cell? (xD W.heap.size 0)=some (xP c)/\n.cell? (xD (W.heap.size+1) 0)=some (xP b)/\n.cell? (xD b 0)=some (xI 1)) (first|go_keep|exact⟨(a.o _ _ g).1,(a.o _ _ g).2.1,(a.o _ _ g).2.2.1⟩) (first|(go_at_call 77;refine (pO j.o [wd 1] 1 rfl (by have:=r.o;simp only[aP,bJ,cw] at this ⊢;omega) _ rfl).mono ?_;rintro e I ⟨rfl,g⟩)|(go_at_call 196;refine (sj S 1 (wd 1) m _ (Kn.ln q.o j.o.drew (by omega)).gl).mono ?_;rintro e K ⟨rfl,rfl⟩));all_goals first|go_end0|refine bodyPost_ret (results_none rfl _ _ _) rfl ?_
 all_goals exact⟨rfl,g⟩
theorem Lw (w:t.k=0)(L:t.n<=9223372036854775807):ke S t:=by
 intro c B N d i W f v A p u s h E;obtain⟨b,_,_,rfl,_⟩:=u.ptr;refine pR A u s p h ([pQ t.n]) (by unfold lM;rw[ag w]) E ?_;intro R P C D F n H x I a y;obtain⟨M,O,z,J,K⟩:=a.o _ _ n.o;go_enter func142,ntmps142;go_upto_region 1 with fail;rw[w] at z a;have o:aa (∀j,Kn S j->xK 195 #[xI t.n,xI 10] j λe l=>e=.returned (.string (pQ t.n))/\xB j l):=by intro j r;refine (Tryz.strconv_FormatInt_10 (t.n:Int) (by omega) (by omega) j r.oy).mono ?_;rintro e l ⟨rfl,k,G,rfl⟩;exact⟨rfl,Lib.below_grow _ j (an _) k G⟩
 go_upto_region 6 with fail;go_region_held3 (λl=>l.cell? (xD W.heap.size 0)=some (xP c)/\l.cell? (xD (W.heap.size+1) 0)=some (xP b)/\l.cell? (xD b 4)=some (xI t.n)) (first|go_keep|exact⟨(a.o _ _ m).1,(a.o _ _ m).2.1,(a.o _ _ m).2.2.2.2⟩|exact⟨(a.o _ _ g.o).1,(a.o _ _ g.o).2.1,(a.o _ _ g.o).2.2.2.2⟩|exact⟨(a.o _ _ (g.o.alloc _)).1,(a.o _ _ (g.o.alloc _)).2.1,(a.o _ _ (g.o.alloc _)).2.2.2.2⟩) (first|(go_at_call 77;refine (fY g.o [pQ t.n] 1 rfl (by have:=y.o;simp only[aP,bJ,cw] at this ⊢;omega) _ rfl).mono ?_;rintro e Q ⟨rfl,m⟩)|(go_at_call 195;refine (o.o _ (Kn.ln x.o n.o.drew (by omega))).mono ?_;rintro e T ⟨rfl,q⟩;have g:=za (n.o.drew.aH q)));all_goals first|go_end0|refine bodyPost_ret (results_none rfl _ _ _) rfl ?_
 all_goals exact⟨rfl,m⟩
theorem Lt (R:5<=t.k)(G:y9 S t):ke S t:=by
 intro c B N d i W f v y k z o h J;obtain⟨b,_,_,rfl,_⟩:=z.ptr;refine pR y z o k h ([jM]++(iy t.k t.s (t.ts.map Tm.k) (hH t.ts)++[kr])) (by unfold lM;rw[ae (by omega),ae (by omega),ae (by omega),ae (by omega)]) J ?_;intro r q H I K s E D L g m;obtain⟨Z,ar,M,P,Q⟩:=g.o _ _ s.o;go_enter func142,ntmps142;go_upto_region 1 with fail;have j:aa (∀n a,aQ c B r q n a->(a++iy t.k t.s (t.ts.map Tm.k) (hH t.ts)).length<=10000000000->xK 198 #[xP c,xP b] n (ey c B r q (a++iy t.k t.s (t.ts.map Tm.k) (hH t.ts)))):=λn a F p=>G c B N r q n a _ y k E.o D.o F p;have T:¬((t.k:Int)=0):=by omega
 have U:¬((t.k:Int)=1):=by omega
 have V:¬((t.k:Int)=2):=by omega
 have X:¬((t.k:Int)=3):=by omega
 have Y:¬((t.k:Int)=4):=by omega
 obtain⟨O,x⟩:∃O,iy t.k t.s (t.ts.map Tm.k) (hH t.ts)=O:=⟨_,rfl⟩;rw[x] at j m;have l:=trivial;go_wp2_with (clear l;go_at_call 77;refine (fY s.o [jM] 1 rfl (by have:=m.o;simp only[aP,bJ,cw] at this ⊢;omega) _ rfl).mono ?_);rintro e a3 ⟨rfl,u⟩;obtain⟨ak,a0,_,_,_⟩:=g.o _ _ u;have l:=trivial;go_wp2_with (clear l;go_at_call 198;refine (j.o _ _ u (by have:=m.o;simp only[aP,bJ,cw] at this ⊢;omega)).mono ?_);rintro e a4 ⟨rfl,w⟩;obtain⟨al,a2,_,_,_⟩:=g.o _ _ w;have l:=trivial;go_wp2_with (clear l;go_at_call 77;refine (fY w [kr] 1 rfl (by have:=m.o;simp only[aP,bJ,cw] at this ⊢;omega) _ rfl).mono ?_;rintro e a5 ⟨rfl,C⟩);first|go_end0|refine bodyPost_ret (results_none rfl _ _ _) rfl ?_
 exact⟨rfl,by have A:=C;rw[<- x] at A;simpa [bw] using A⟩
inductive Sm:Tm->Prop
 | num (a:Nat) (s:Xb) (nm n:Nat) (hn:n<=9223372036854775807):Sm (.mk 0 a s nm n [])
 | var (a:Nat) (s:Xb) (nm n:Nat):Sm (.mk 3 a s nm n [])
 | two (k a:Nat) (s:Xb) (nm n:Nat) (x y:Tm) (hk:k=9∨12<=k) (hk':k<24) (hx:Sm x) (hy:Sm y):Sm (.mk k a s nm n [x,y])
theorem wA (S:Xs)(h:Sm t):ke S t:=by
 induction h with
 | num a s nm n e=>exact Lw (t:=.mk 0 a s nm n []) rfl e
 | var a s nm n=>exact Lx (t:=.mk 3 a s nm n []) rfl
 | two k a s nm n x y l b m o g j =>
   refine Lt (t:=.mk k a s nm n [x,y]) (by show 5<=k;omega) (LH (u0:=x) (u1:=y) (λu hu=>?_) rfl b (by show ¬k=5;omega) (by show ¬k=6;omega) (by show ¬k=7;omega) (by show ¬k=8;omega) (by show ¬k=10;omega) (by show ¬k=11;omega));rcases cC.1 hu with rfl|hu
   . exact g
   rw[cu.1 hu];exact j
end
section
open Go.RowKit
def ob (S:Xs)(q:Qn):Prop:=∀(b B N:Nat) (c W:Xw) (a:Xv) (d:Xl) (e f:Xv),aQ b B c a W d->N<=b->21<=N->Kn S c->hB c N q e f->(d++gT q).length<=10000000000->xK 83 #[xP b,.agg #[e,xI q.a,f]] W (ey b B c a (d++gT q))
theorem EH {S:Xs}(q:Qn)(R:q.ns.length=q.ps.length)(d:q.ns.length=1)(Q:ke S q.r):ob S q:=by
 intro l B N w0 W b0 ts V Z h H F r A T;obtain⟨ak,z,k,b⟩:=h.boxes (.cells #[V,xI q.a,Z] 161);obtain⟨j,f⟩:∃j,j=(W.alloc (.cells #[xP l] 140)).alloc (.cells #[V,xI q.a,Z] 161):=⟨_,rfl⟩;have o:Kn S j:=f▸r.ln ((h.alloc _).alloc _) (by omega);have t:bV N w0 j:=f▸((h.alloc _).alloc _).am H;rw[<- f] at z k b;have c:=A.am t;obtain⟨Y,_,_,rfl,_⟩:=c.tt.ptr;obtain⟨cs,D,rfl⟩:=zB c.own;obtain⟨s,J⟩:∃s,q.ns[0]?=some s:=⟨_,av (by omega)⟩;obtain⟨p,U⟩:∃p,q.ps[0]?=some p:=⟨_,av (by omega)⟩;obtain⟨g,rfl,C,_⟩:=kG c.own J U rfl;have C:xC j g 0 (.string s):=by simpa using C
 have I:=c.lo g rfl;have a:aa (∀(i:Xw) (w:Xl),aQ l B j ak i w->xC i W.heap.size 0 (xP l)/\xC i (W.heap.size+1) 0 (xS g q.ns.length D)/\xC i g 0 (.string s)/\xC i (W.heap.size+1) 2 (xP Y)):=λi w y=>⟨(zu (k.at y).1).1,(zL (k.at y).2).1,(iP (y.am H) I).trans C,(zL (k.at y).2).2.2.1⟩;obtain⟨bp,X,c0,bx⟩:=a.o _ _ z;have bk:W.heap.size+1<j.heap.size:=by rw[f];simp only[au];omega
 have bl:g<j.heap.size:=(c.own.lt g rfl).2;have be:q.ns.length<=10000000000:=by omega
 have u:(W.alloc (.cells #[xP l] 140)).alloc (.cells #[xS g q.ns.length D,xI q.a,xP Y] 161)=j:=f.symm;have al:=za z;have n:=za T;have a9:=za c;have b1:=za k;have a5:=za o;have a3:=za b;have a4:=za Q;have K:=za J;have b2:=za R;clear h r A z k b o t c Q T f C J U R;have L:q.ns=[s]:=by
  have:=K.o
  match A:q.ns,d with
  | [x],_=>rw[A] at this;simp at this;rw[this]
 have M:gT q=[s]++([⟨#[61]⟩]++(eO q.r++[⟨#[59]⟩])):=by unfold gT;rw[ag d,L]
 rw[M] at n ⊢;rw[d] at X a u ⊢;clear M L d K;go_enter func83,ntmps83;go_upto_region 1 with fail;clear u;go_upto_region 2 with fail;go_region_held3 (λi=>i.cell? (xD W.heap.size 0)=some (xP l)/\i.cell? (xD (W.heap.size+1) 0)=some (xS g 1 D)/\i.cell? (xD g 0)=some (.string s)) (first|go_keep|exact⟨(a.o _ _ m.o).1,(a.o _ _ m.o).2.1,(a.o _ _ m.o).2.2.1⟩) (first|(go_at_call 77;refine (pO al.o [s] 1 rfl (by have:=n.o;simp only[aP,bJ,cw] at this ⊢;omega) _ rfl).mono ?_;rintro e ca ⟨rfl,O⟩;have m:=za O;clear O));obtain⟨bs,_,_,bE⟩:=a.o _ _ m.o;clear bp X c0 bx;have v:=trivial;go_wp2_with (clear v;go_at_call 77;refine (fY m.o [⟨#[61]⟩] 1 rfl (by have:=n.o;simp only[aP,bJ,cw] at this ⊢;omega) _ rfl).mono ?_);rintro e ck ⟨rfl,E⟩;obtain⟨bt,_,_,bL⟩:=a.o _ _ E;have ar:=za E;clear E bs bE;have v:=trivial;go_wp2_with (clear v;go_at_call 142;refine (a4.o l B N j ak _ _ _ H F a9.o.tt a5.o ar.o (by have:=n.o;simp only[aP,bJ,cw] at this ⊢;omega)).mono ?_);rintro e cm ⟨rfl,G⟩;obtain⟨b3,_,_,b4⟩:=a.o _ _ G;have a0:=za G;clear G bt bL;have v:=trivial;go_wp2_with (clear v;go_at_call 77;refine (fY a0.o [⟨#[59]⟩] 1 rfl (by have:=n.o;simp only[aP,bJ,cw] at this ⊢;omega) _ rfl).mono ?_;rintro e cn ⟨rfl,P⟩;have a2:=za P;clear P);first|go_end0|refine bodyPost_ret (results_none rfl _ _ _) rfl ?_
 exact⟨rfl,a3.o _ _ (by simpa [bw] using a2.o)⟩
end
end Go.Proofs.YtmfkofhgdjechaaGreatDoor
