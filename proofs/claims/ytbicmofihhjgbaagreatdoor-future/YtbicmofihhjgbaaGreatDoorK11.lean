/- Part 12 of the proof. -/
import Derived.Deep.DrawnRows
import Derived.Maps.OwnSet
import Derived.Test.YtbicmofihhjgbaaGreatDoorK08
import Derived.Test.YtbicmofihhjgbaaGreatDoorK09
import Derived.Test.YtbicmofihhjgbaaGreatDoorK10
set_option maxRecDepth 100000
set_option maxHeartbeats 8000000
namespace Go.Proofs.YtbicmofihhjgbaaGreatDoor
open Go.Proofs.Tryz
section
open Go.RowKit
attribute [local go_sem ↓] Go.wp_at_zero Go.wp_at_succ
theorem XD (n s m r B:Nat)(L:Xv)(d g q:List Int)(k:Nat)(x:Int)(u:d[k]?=some x)(v c:Int)(w:Xw)(o:MB w n s m r B L d g (v::c::q))(hm:q.length+10<=10000000) :
 xK 59 #[xP n,.agg #[.int .u8 4,xI k]] w (Ot n s m r B w L (d.set k (pk c v x)) g q):=by
 obtain⟨Z,h1,h2,h3,hf,hz⟩:=zU o.aC;obtain⟨_,U,V,_⟩:=o.lt;have W:=(aB.1 u).1;have R:(0:Int)<=(k:Int):=by omega
 have T:(k:Int)<(d.length:Int):=by omega
 have X:¬n=m:=o.Nt;have O:¬m=n:=λe=>o.Nt e.symm;have Y:¬w.heap.size=m:=by omega
 have P:¬m=w.heap.size:=by omega
 go_enter func59,ntmps59;go_upto_region 14 with ((go_at_call 110;refine (NG n s m r B L d g (c::q) v _ (o.alloc _) (by simp;omega)).mono ?_;rintro e w1 ⟨rfl,p,l,j⟩;obtain⟨ab,y,ar,s1,f1,aL⟩:=zU l.aC;have z:=za j.Oi;obtain⟨u1,v1,aA,x1⟩:=zp (o.box j)));have t1:=OG l.ce u;refine wp_region_noPanic ?_;refine wp_region_held_drew (S:=(λQ=>Q.cell? (xD n 1)=some (xS m d.length d.length)/\Q.cell? (xD w.heap.size 1)=some (xI k))) (by kernel_rfl) ?_ (λa=>?_)
 . (try dsimp only);(go_keep)
 refine aR 0 rfl (v:=?v1) (ao ⟨by rfl,?h1⟩) ?_;case h1=>(intro w b;(try dsimp only at b);go_simp;try with_reducible rfl)
 try simp only[Act.put,aD]
 refine aR 1 rfl (v:=?v2) (ao ⟨by rfl,?h2⟩) ?_;case h2=>(intro w b;(try dsimp only at b);go_simp;try with_reducible rfl)
 try simp only[Act.put,aD]
 refine aR 2 rfl (v:=?v3) (ao ⟨by rfl,?h3⟩) ?_;case h3=>(intro w b;(try dsimp only at b);go_simp;try with_reducible rfl)
 try simp only[Act.put,aD]
 refine aR 3 rfl (v:=?v4) (ao ⟨by rfl,?h4⟩) ?_;case h4=>(intro w b;(try dsimp only at b);go_simp;try with_reducible rfl)
 try simp only[Act.put,aD]
 refine aR 4 rfl (v:=?v5) (ao ⟨by rfl,?h5⟩) ?_;case h5=>(intro w b;(try dsimp only at b);go_simp;try with_reducible rfl)
 try simp only[Act.put,aD]
 refine aR 5 rfl (v:=?v6) (ao ⟨by rfl,?h6⟩) ?_;case h6=>(intro w b;(try dsimp only at b);go_simp;try with_reducible rfl)
 try simp only[Act.put,aD]
 refine aR 6 rfl (v:=?v7) (ao ⟨by rfl,?h7⟩) ?_;case h7=>(intro w b;(try dsimp only at b);go_simp;try with_reducible rfl)
 try simp only[Act.put,aD]
 refine aR 8 rfl (v:=?v8) (ao ⟨by rfl,?h8⟩) ?_;case h8=>(intro w b;(try dsimp only at b);go_simp;try with_reducible rfl)
 try simp only[Act.put,aD]
 refine aR 9 rfl (v:=?v9) (ao ⟨by rfl,?h9⟩) ?_;case h9=>(intro w b;(try dsimp only at b);go_simp;try with_reducible rfl)
 try simp only[Act.put,aD]
 refine aR 10 rfl (v:=?v10) (ao ⟨by rfl,?h10⟩) ?_;case h10=>(intro w b;(try dsimp only at b);go_simp;try with_reducible rfl)
 try simp only[Act.put,aD]
 refine aR 11 rfl (v:=?v11) (ao ⟨by rfl,?h11⟩) ?_;case h11=>(intro w b;(try dsimp only at b);go_simp;try with_reducible rfl)
 try simp only[Act.put,aD]
 refine aR 12 rfl (v:=?v12) (ao ⟨by rfl,?h12⟩) ?_;case h12=>(intro w b;(try dsimp only at b);go_simp;try with_reducible rfl)
 try simp only[Act.put,aD]
 refine aR 13 rfl (v:=?v13) (ao ⟨by rfl,?h13⟩) ?_;case h13=>(intro w b;(try dsimp only at b);go_simp;try with_reducible rfl)
 try simp only[Act.put,aD]
 refine aR 14 rfl (v:=?v14) (ao ⟨by rfl,?h14⟩) ?_;case h14=>(intro w b;(try dsimp only at b);go_simp;try with_reducible rfl)
 try simp only[Act.put,aD]
 refine aR 15 rfl (v:=?v15) (ao ⟨by rfl,?h15⟩) ?_;case h15=>(intro w b;(try dsimp only at b);go_simp;try with_reducible rfl)
 try simp only[Act.put,aD]
 refine wpAnyH_ready (rs:=[7,16]) (by kernel_rfl) (by simp) ?_;refine AllReadyH.cons rfl (λK h=>?_) ?_;go_simp;first|go_at_K|((first|(go_at_call 111;refine (PK _ _ _ _).mono ?_;rintro e N ⟨rfl,rfl⟩)|(go_at_call 110;refine (NG n s m r B p d g q c _ l.drew (by omega)).mono ?_;rintro e M ⟨rfl,t,f,i⟩;obtain⟨F,y,G,H,I,J⟩:=zU f.aC;obtain⟨A,C,D,E⟩:=zp (o.box (j.trans i.cQ));have t2:=lh f.ce;have t3:=OG f.ce u));first|go_at_K|go_wp2_with fail)
 refine h.out _ _ ?_ (λh9=>?_)
 . (try dsimp only);(go_keep)
 clear h K a;have a:=h9;try simp only[Act.put,aD]
 refine wpAnyH_ready (rs:=[16]) (by kernel_rfl) (by simp) ?_;refine AllReadyH.cons rfl (λK h=>?_) ?_;go_simp;refine h.out _ _ ?_ (λh9=>?_)
 . (try dsimp only);(go_keep)
 clear h K a;have a:=h9;try simp only[Act.put,aD]
 refine wpAnyH_ready (rs:=[17]) (by kernel_rfl) (by simp) ?_;refine AllReadyH.cons rfl (λK h=>?_) ?_;go_simp;first|go_at_K|((first|(go_at_call 111;refine (PK _ _ _ _).mono ?_;rintro e N ⟨rfl,rfl⟩)|(go_at_call 110;refine (NG n s m r B p d g q c _ l.drew (by omega)).mono ?_;rintro e M ⟨rfl,t,f,i⟩;obtain⟨F,y,G,H,I,J⟩:=zU f.aC;obtain⟨A,C,D,E⟩:=zp (o.box (j.trans i.cQ));have t2:=lh f.ce;have t3:=OG f.ce u));first|go_at_K|go_wp2_with fail)
 refine h.out _ _ ?_ (λh9=>?_)
 . (try dsimp only);(go_keep)
 clear h K a;have a:=h9;try simp only[Act.put,aD]
 refine aR 18 rfl (v:=?v16) (ao ⟨by rfl,?h16⟩) ?_;case h16=>(intro w b;(try dsimp only at b);go_simp;try with_reducible rfl)
 try simp only[Act.put,aD]
 refine wpAnyH_ready (rs:=[19]) (by kernel_rfl) (by simp) ?_;refine AllReadyH.cons rfl (λK h=>?_) ?_;go_simp;refine h.out _ _ ?_ (λh9=>?_)
 . (try dsimp only);(go_keep)
 clear h K a;have a:=h9;try simp only[Act.put,aD]
 refine wpAnyH_done (by kernel_rfl) ?_ _;rotate_left;exact AllReadyH.nil;exact AllReadyH.nil;exact AllReadyH.nil;refine AllReadyH.cons rfl (λK h=>?_) ?_;go_simp;refine h.out _ _ ?_ (λh9=>?_)
 . (try dsimp only);(go_keep)
 clear h K a;have a:=h9;try simp only[Act.put,aD]
 refine wpAnyH_ready (rs:=[7]) (by kernel_rfl) (by simp) ?_;refine AllReadyH.cons rfl (λK h=>?_) ?_;go_simp;first|go_at_K|((first|(go_at_call 111;refine (PK _ _ _ _).mono ?_;rintro e N ⟨rfl,rfl⟩)|(go_at_call 110;refine (NG n s m r B p d g q c _ l.drew (by omega)).mono ?_;rintro e M ⟨rfl,t,f,i⟩;obtain⟨F,y,G,H,I,J⟩:=zU f.aC;obtain⟨A,C,D,E⟩:=zp (o.box (j.trans i.cQ));have t2:=lh f.ce;have t3:=OG f.ce u));first|go_at_K|go_wp2_with fail)
 refine h.out _ _ ?_ (λh9=>?_)
 . (try dsimp only);(go_keep)
 clear h K a;have a:=h9;try simp only[Act.put,aD]
 refine wpAnyH_ready (rs:=[17]) (by kernel_rfl) (by simp) ?_;refine AllReadyH.cons rfl (λK h=>?_) ?_;go_simp;first|go_at_K|((first|(go_at_call 111;refine (PK _ _ _ _).mono ?_;rintro e N ⟨rfl,rfl⟩)|(go_at_call 110;refine (NG n s m r B p d g q c _ l.drew (by omega)).mono ?_;rintro e M ⟨rfl,t,f,i⟩;obtain⟨F,y,G,H,I,J⟩:=zU f.aC;obtain⟨A,C,D,E⟩:=zp (o.box (j.trans i.cQ));have t2:=lh f.ce;have t3:=OG f.ce u));first|go_at_K|go_wp2_with fail)
 refine h.out _ _ ?_ (λh9=>?_)
 . (try dsimp only);(go_keep)
 clear h K a;have a:=h9;try simp only[Act.put,aD]
 refine aR 18 rfl (v:=?v17) (ao ⟨by rfl,?h17⟩) ?_;case h17=>(intro w b;(try dsimp only at b);go_simp;try with_reducible rfl)
 try simp only[Act.put,aD]
 refine wpAnyH_ready (rs:=[19]) (by kernel_rfl) (by simp) ?_;refine AllReadyH.cons rfl (λK h=>?_) ?_;go_simp;refine h.out _ _ ?_ (λh9=>?_)
 . (try dsimp only);(go_keep)
 clear h K a;have a:=h9;try simp only[Act.put,aD]
 refine wpAnyH_done (by kernel_rfl) ?_ _;rotate_left;exact AllReadyH.nil;exact AllReadyH.nil;exact AllReadyH.nil;exact AllReadyH.nil;all_goals refine NoPanic.normal ?_
 all_goals go_wp2_with fail
 all_goals go_end0
 all_goals exact⟨rfl,_,f.cell k _,(z.o.trans i.cQ).cell k _⟩
end
section
open Go.RowKit
variable {o p q:List Int} {s:Xm} {B f m b d n:Nat} {e:Xy} {r:Xv} {w w':Xw}
attribute [local go_sem ↓] Go.wp_at_zero Go.wp_at_succ
structure Cd where
 dn:List Bool
 aG:Nat
 al:Nat
 cells:List Int
 depth:Nat
 row:List (Nat×Int)
def MU (l:List (Nat×Int)):List Value:=l.flatMap λi=>[.int .u8 i.1,xI i.2]
theorem SP (l:List (Nat×Int)):(MU l).length=l.length*2:=by
 induction l with
 | nil=>rfl
 | cons a l c=>show (_::_::MU l).length=_;simp[c];omega
theorem Ta:∀(l:List (Nat×Int)) (k:Nat) (i:Nat×Int),l[k]?=some i->(MU l)[k*2]?=some (.int .u8 i.1)/\(MU l)[k*2+1]?=some (xI i.2):=by
 intro l;induction l with
 | nil=>intro k i h;simp at h
 | cons a l j =>
   intro k i h;have e:MU (a::l)=.int .u8 a.1::(xI a.2)::MU l:=rfl;cases k with
   | zero=>simp at h;subst h;simp[e]
   | succ k => simp at h;obtain⟨c,g⟩:=j k i h;rw[e,show (k+1)*2=k*2+1+1 by omega,show k*2+1+1+1=(k*2+1)+1+1 by omega];simp[c,g]
structure CB (w:Xw) (N b:Nat) (bv cv rv:Xv) (c:Cd):Prop where
 aC:xH w b #[bv,xI c.aG,xI c.al,cv,xI c.depth,rv] 103
 xv:w.ownsRow 0 4 1 bv c.dn.length (c.dn.map .bool)
 hQ:w.ownsRow 0 2 1 cv c.cells.length (zK c.cells)
 zA:w.ownsRow 0 108 2 rv c.row.length (MU c.row)
 h0:b<N
 h1:∀k,bv.ownBlock=some k->k<N
 h2:∀k,cv.ownBlock=some k->k<N
 h3:∀k,rv.ownBlock=some k->k<N
 NF:c.dn.length+c.aG<=c.al
 NW:c.al<=255
 Pu:c.cells.length<=255
 Pw:c.depth<=3145728
 PC:c.row.length<=1048576
theorem CB.am {N:Nat}{g i j:Xv}{c:Cd}(h:CB w N b g i j c)(a:bV N w w'):CB w' N b g i j c :=
 ⟨(a _ h.h0).trans h.aC,zi h.xv (λk _ _ e=>a k (h.h1 k e)),zi h.hQ (λk _ _ e=>a k (h.h2 k e)),zi h.zA (λk _ _ e=>a k (h.h3 k e)),h.h0,h.h1,h.h2,h.h3,h.NF,h.NW,h.Pu,h.Pw,h.PC⟩
structure Mc (w:Xw) (N d b f m:Nat) (bv cv rv r:Xv) (c:Cd) (o p q:List Int):Prop where
 code:CB w N b bv cv rv c
 mem:MB w d b f m N r o p q
 n0:N<=d
 n1:N<=f
 n2:N<=m
 lc:o.length=c.cells.length
 ls:p.length=c.al
theorem zB {a:Nat}{j:Xv}(h:w.ownsRow B e a j n s):∃x k,j=.slice x n k:=by
 rcases h.2 with ⟨i,t⟩|⟨g,c,l,i,_⟩
 . exact⟨none,0,by rw[i,t]⟩
 exact⟨_,c,i⟩
theorem Qc (d b:Nat)(N:Nat)(i j k g l t:Xv)(c:Cd)(w:Xw)(a:xH w d #[xP b,i,j,k] 138)(h:CB w N b g l t c) :
 xK 32 #[xP d] w (λe w'=>e=.returned (xI c.dn.length)/\w=w'):=by
 obtain⟨v,y,z,A,C,D⟩:=zU a;obtain⟨E,F,G,H,I,J,K,L⟩:=zt h.aC;obtain⟨x,u,rfl⟩:=zB h.xv;clear h a;go_enter func32,ntmps32;go_wp2_with fail;go_ret;exact⟨rfl,rfl⟩
theorem S5 (d b:Nat)(N:Nat)(i j k g l t:Xv)(c:Cd)(w:Xw)(a:xH w d #[xP b,i,j,k] 138)(h:CB w N b g l t c) :
 xK 35 #[xP d] w (λe w'=>e=.returned (xI c.aG)/\w=w'):=by
 obtain⟨u,v,x,y,z,A⟩:=zU a;obtain⟨C,D,E,F,G,H,I,J⟩:=zt h.aC;clear h a;go_enter func35,ntmps35;go_wp2_with fail;go_ret;exact⟨rfl,rfl⟩
theorem Tryz.Rf:(prog.info? 2).map (·.size)=some 1:=by kernel_rfl
theorem W9 {x:Xp}{i:Nat}(h:w.ownsRow B e 1 (.slice x n i) n s):0<s.length->∃a,x=some a/\∀j v,s[j]?=some v->w.cell? (a.add j)=some v:=by
 intro u;have t:s.length=n:=by simpa using h.1
 obtain⟨g,c,l,_⟩:=zM h (by omega);cases l;exact⟨_,rfl,λj v k=>h.cells (g:=g) rfl j v k⟩
theorem MB.OX {a:List Int}(h:MB w d b f m B r o p q)(l:a.length=o.length)(i:w'.heap[f]?=some (.cells (zK a).toArray 2 (0,0)))(c:Fr (·=f) w w'):MB w' d b f m B r a p q :=
 ⟨by rw[l];exact (c.block d (ze h.aC) h.Nt).trans h.aC,i,(c.block m (ze h.sl) (λe=>h.NV e.symm)).trans h.sl,zi h.own (λk _ j e=>c.block k j (λg=>h.s1 (g▸e))),h.Nt,h.NU,h.NV,h.sm,h.s1,h.s2,aJ h.hB c.size⟩
theorem MB.slots' {slots':List Int}(h:MB w d b f m B r o p q)(j:slots'.length=p.length)(g:w'.heap[m]?=some (.cells (zK slots').toArray 2 (0,0)))(a:Fr (·=m) w w'):MB w' d b f m B r o slots' q :=
 ⟨by rw[j];exact (a.block d (ze h.aC) h.NU).trans h.aC,(a.block f (ze h.ce) h.NV).trans h.ce,g,zi h.own (λk _ i e=>a.block k i (λc=>h.s2 (c▸e))),h.Nt,h.NU,h.NV,h.sm,h.s1,h.s2,aJ h.hB a.size⟩
theorem Td (N d b f m:Nat)(v y C r:Xv)(c:Cd)(o p q:List Int)(w:Xw)(H:Mc w N d b f m v y C r c o p q) :
 xK 34 #[xP d] w (λe w'=>e=.returned (.tuple #[])/\Mc w' N d b f m v y C r c c.cells p q/\Fr (·=f) w w'):=by
 obtain⟨F,z,J,K,L,A⟩:=zU H.mem.aC;obtain⟨M,O,P,G,Q,R,S,I⟩:=zt H.code.aC;obtain⟨x,u,rfl⟩:=zB H.code.hQ;have g:=H.lc;have D:=za (W9 H.code.hQ);have E:=underlying32;have t:=Tryz.Rf;rw[g] at z;go_enter func34,ntmps34
 go_region_held3 (λw'=>w'.cell? (xD d 0)=some (xP b)/\w'.cell? (xD d 1)=some (xS f c.cells.length c.cells.length)/\w'.cell? (xD b 3)=some (.slice x c.cells.length u)) (first|go_keep|(refine⟨?_,?_,?_⟩ <;> first|exact (l.o).1|exact l.o.2.1|exact l.o.2.2))
  ((refine Wu rfl (.tmp 5) (.tmp 12) 32 32 (by rfl) 2 E t f c.cells.length c.cells.length x c.cells.length u (by rfl) (by rfl) (zK o) 2 H.mem.ce (zK c.cells) (by simp[zK]) D.o (by simp[zK,g]) Pk ?_;intro i j a;have l:aa (i.cell? (xD d 0)=some (xP b)/\i.cell? (xD d 1)=some (xS f c.cells.length c.cells.length)/\i.cell? (xD b 3)=some (.slice x c.cells.length u)):=⟨(World.cell?_of_block (w:=w) (a.block d A H.mem.Nt)).trans F,(World.cell?_of_block (w:=w) (a.block d A H.mem.Nt)).trans z,(World.cell?_of_block (w:=w) (a.block b I (by have:=H.n1;have:=H.code.h0;omega))).trans G⟩))
 all_goals go_wp2_with fail
 all_goals go_end0
 all_goals
  have h:Fr (·=f) w i:=a.cQ;refine⟨rfl,⟨H.code.am (h.am (aJ H.n1 (Nat.le_of_lt H.mem.lt.2.1)) (λk e=>e▸H.n1)),H.mem.OX (by rw[g]) ?_ h,H.n0,H.n1,H.n2,rfl,H.ls⟩,h⟩;have:=j;rwa [List.drop_eq_nil_of_le (by simp[zK,g]),List.append_nil] at this
end
section
open Go.RowKit
variable {j g:Nat}
structure Ms where
 cells:List Int
 al:List Int
 st:List Int
def Oh (m:Ms)(i:Nat×Int):Ms :=
 match i.1,m.st with
 | 0,st=>{ m with st:=i.2::st }
 | 1,st=>{ m with st:=m.al.getD i.2.toNat 0::st }
 | 2,v::st=>{ m with al:=m.al.set i.2.toNat v,st:=st }
 | 3,st=>{ m with st:=m.cells.getD i.2.toNat 0::st }
 | 4,v::c::st=>{ m with cells:=m.cells.set i.2.toNat (pk c v (m.cells.getD i.2.toNat 0)),st:=st }
 | 5,e::d::c::st=>{ m with st:=pk c d e::st }
 | 6,e::d::st=>{ m with st:=pk (m.al.getD i.2.toNat 0) d e::st }
 | 7,v::st=>{ m with st:=wrap64 (-v)::st }
 | 8,v::st=>{ m with st:=Ph (v==0)::st }
 | op,b::a::st=>{ m with st:=MZ op a b::st }
 | _,_=>m
def zY:List (Nat×Nat×Nat):=[(1,0,1),(2,0,1),(2,1,0),(3,0,1),(3,2,0),(0,3,1),(2,2,1),(0,1,1),(0,1,1),(0,2,1),(0,2,1),(0,2,1),(0,2,1),(0,2,1),(0,2,1),(0,2,1),(0,2,1),(0,2,1),(0,2,1),(0,2,1),(0,2,1)]
def Nl (g j h:Nat)(i:Nat×Int):Option Nat :=
 match zY[i.1]? with
 | none=>none
 | some s=>if s.2.1<=h/\(s.1=2->0<=i.2/\i.2.toNat<g)/\(s.1=3->0<=i.2/\i.2.toNat<j) then some (h-s.2.1+s.2.2) else none
def Mt (g j:Nat):Nat->List (Nat×Int)->Option Nat
 | h,[]=>some h
 | h,i::l=>match Nl g j h i with
   | none=>none
   | some a=>Mt g j a l
theorem PM {k:Nat}{s:Nat×Nat×Nat}(h:zY[k]?=some s):k<=20:=by have:=(aB.1 h).1;simp[zY] at this;omega
theorem X6 {h l:Nat}{m:Ms}{i:Nat×Int}(f:Nl g j h i=some l)(q:m.st.length=h):(Oh m i).st.length=l/\(Oh m i).cells.length=m.cells.length/\(Oh m i).al.length=m.al.length/\l<=h+1:=by
 unfold Nl at f;split at f
 . cases f
 rename_i s e
 have n:=PM e;split at f
 . rename_i t
   cases f;obtain⟨d,x⟩:=i;obtain⟨k,p,r⟩:=m;simp only at q e n;subst q;have:d=0∨d=1∨d=2∨d=3∨d=4∨d=5∨d=6∨d=7∨d=8∨d=9∨d=10∨d=11∨d=12∨d=13∨d=14∨d=15∨d=16∨d=17∨d=18∨d=19∨d=20:=by omega
   obtain⟨o,_⟩:=t
   rcases this with rfl|rfl|rfl|rfl|rfl|rfl|rfl|rfl|rfl|rfl|rfl|rfl|rfl|rfl|rfl|rfl|rfl|rfl|rfl|rfl|rfl <;>
    (simp only[zY,List.getElem?_cons_zero,List.getElem?_cons_succ,Option.some.injEq] at e;subst e;simp only at o;rcases r with _|⟨a,_|⟨b,_|⟨c,r⟩⟩⟩ <;> simp_all [Oh] <;> omega)
 cases f
def Ob:List Bool->List Int->Nat->Option Nat
 | b::a,x::c,i=>if b=true/\x≠0/\x≠1 then some i else Ob a c (i+1)
 | _,_,_=>none
def Nk (a:Xk)(l:List Int):Option Nat:=if l.length=a.length then Ob a l 0 else some (min l.length a.length)
def Oc (m:Ms)(l:List (Nat×Int)):Ms:=l.foldl Oh m
def Oa (g:Nat)(a:List Int):List Int:=a++List.replicate (g-a.length) 0
def M1 (c:Cd)(a b:List Int):Ms:=Oc ⟨a,Oa c.al b,[]⟩ c.row
def M5 (c:Cd)(m:Ms):List Int:=(m.al.drop c.dn.length).take c.aG
theorem Q1:∀(l:List (Nat×Int)) (h n:Nat) (m:Ms),Mt g j h l=some n->m.st.length=h->(Oc m l).st.length=n/\(Oc m l).cells.length=m.cells.length/\(Oc m l).al.length=m.al.length:=by
 intro l;induction l with
 | nil=>intro h n m k p;cases k;exact⟨p,rfl,rfl⟩
 | cons i l r =>
   intro h n m k p;unfold Mt at k;split at k
   . cases k
   rename_i q o
   obtain⟨a,b,c,_⟩:=X6 o p;obtain⟨d,e,f⟩:=r q n (Oh m i) k a;exact⟨d,e.trans b,f.trans c⟩
end
section
open Go.RowKit
theorem QS {l:List Int}{k:Nat}(h:k<l.length):l[k]?=some (l.getD k 0):=by rw[List.getD_eq_getElem?_getD,av h];rfl
theorem P9 {x:Int}(h:0<=x):((x.toNat:Nat):Int)=x:=Int.toNat_of_nonneg h
theorem X7 (o r p q B:Nat)(t:Xv)(m:Ms)(i:Nat×Int)(h J:Nat)(w:Xw)(u:MB w o r p q B t m.cells m.al m.st)(F:Nl m.al.length m.cells.length h i=some J)(I:m.st.length=h)(E:h+10<=10000000) :
 xK 59 #[xP o,.agg #[.int .u8 i.1,xI i.2]] w (Ot o r p q B w t (Oh m i).cells (Oh m i).al (Oh m i).st):=by
 unfold Nl at F;split at F
 . cases F
 rename_i s n
 have G:=PM n;split at F
 . rename_i L
   clear F;obtain⟨j,x⟩:=i;obtain⟨d,f,g⟩:=m;simp only at I n G u;subst I;obtain⟨k,y,A⟩:=L;simp only at k y A;by_cases K:9<=j
   . have:s.2.1=2:=by
      have:j=9∨j=10∨j=11∨j=12∨j=13∨j=14∨j=15∨j=16∨j=17∨j=18∨j=19∨j=20:=by omega
      rcases this with rfl|rfl|rfl|rfl|rfl|rfl|rfl|rfl|rfl|rfl|rfl|rfl <;> (simp only[zY,List.getElem?_cons_zero,List.getElem?_cons_succ,Option.some.injEq] at n;subst n;rfl)
     rw[this] at k;obtain⟨b,a,g,rfl⟩:∃b a l,g=b::a::l:=by
      rcases g with _|⟨b,_|⟨a,g⟩⟩
      . simp at k
      . simp at k
      exact⟨b,a,g,rfl⟩
     have e:Oh ⟨d,f,b::a::g⟩ (j,x)=⟨d,f,MZ j a b::g⟩:=by
      have:j=9∨j=10∨j=11∨j=12∨j=13∨j=14∨j=15∨j=16∨j=17∨j=18∨j=19∨j=20:=by omega
      rcases this with rfl|rfl|rfl|rfl|rfl|rfl|rfl|rfl|rfl|rfl|rfl|rfl <;> rfl
     rw[e];exact XO o r p q B t d f g j K G a b x w u (by simp only[bJ] at E;omega)
   have:j=0∨j=1∨j=2∨j=3∨j=4∨j=5∨j=6∨j=7∨j=8:=by omega
   rcases this with rfl|rfl|rfl|rfl|rfl|rfl|rfl|rfl|rfl <;> (simp only[zY,List.getElem?_cons_zero,List.getElem?_cons_succ,Option.some.injEq] at n;subst n;simp only at k y A)
   . exact X0 o r p q B t d f g x w u (by omega)
   . obtain⟨C,D⟩:=y (by decide);have:=XK o r p q B t d f g x.toNat _ (QS D) w u (by omega);rwa [P9 C] at this
   . obtain⟨C,D⟩:=y (by decide);obtain⟨v,g,rfl⟩:∃v l,g=v::l:=by
      rcases g with _|⟨b,g⟩
      . simp at k
      exact⟨b,g,rfl⟩
     have:=Xd o r p q B t d f g x.toNat v w u D (by simp only[bJ] at E;omega);rwa [P9 C] at this
   . obtain⟨C,D⟩:=A (by decide);have:=X4 o r p q B t d f g x.toNat _ (QS D) w u (by omega);rwa [P9 C] at this
   . obtain⟨C,D⟩:=A (by decide);obtain⟨v,c,g,rfl⟩:∃v c l,g=v::c::l:=by
      rcases g with _|⟨b,_|⟨a,g⟩⟩
      . simp at k
      . simp at k
      exact⟨b,a,g,rfl⟩
     have:=XD o r p q B t d f g x.toNat _ (QS D) v c w u (by simp only[bJ] at E;omega);rwa [P9 C] at this
   . obtain⟨H,z,c,g,rfl⟩:∃H z c l,g=H::z::c::l:=by
      rcases g with _|⟨b,_|⟨a,_|⟨c,g⟩⟩⟩
      . simp at k
      . simp at k
      . simp at k
      exact⟨b,a,c,g,rfl⟩
     exact Xt o r p q B t d f g H z c x w u (by simp only[bJ] at E;omega)
   . obtain⟨C,D⟩:=y (by decide);obtain⟨H,z,g,rfl⟩:∃v c l,g=v::c::l:=by
      rcases g with _|⟨b,_|⟨a,g⟩⟩
      . simp at k
      . simp at k
      exact⟨b,a,g,rfl⟩
     have:=Xf o r p q B t d f g x.toNat _ (QS D) H z w u (by simp only[bJ] at E;omega);rwa [P9 C] at this
   . obtain⟨v,g,rfl⟩:∃v l,g=v::l:=by
      rcases g with _|⟨b,g⟩
      . simp at k
      exact⟨b,g,rfl⟩
     exact XJ o r p q B t d f g v x w u (by simp only[bJ] at E;omega)
   obtain⟨v,g,rfl⟩:∃v l,g=v::l:=by
    rcases g with _|⟨b,g⟩
    . simp at k
    exact⟨b,g,rfl⟩
   exact XE o r p q B t d f g v x w u (by simp only[bJ] at E;omega)
 cases F
end
section
open Go.RowKit
variable {k:Nat}
attribute [local go_sem ↓] Go.wp_at_zero Go.wp_at_succ
structure Nm (w:Xw) (v:Xv) (g:Nat) (l:List Int):Prop where
 ex:∃a c,v=.slice a l.length c/\l.length<=c/\c<=maxLen/\(l≠[]->∃o,a=some (xD g o)/\∀j x,l[j]?=some x->xC w g (o+j) (xI x))
theorem Wh {a:Xk}{l:List Int}{b:Bool}{x:Int}(g:a[k]?=some b)(h:l[k]?=some x):Ob (a.drop k) (l.drop k) k=if b=true/\x≠0/\x≠1 then some k else Ob (a.drop (k+1)) (l.drop (k+1)) (k+1):=by obtain⟨c,d⟩:=aB.1 g;obtain⟨e,f⟩:=aB.1 h;rw[dE c,dE e,d,f];rfl
def QX (S:Xs)(b:Bool)(e:Ending):Prop:=if b=true then ∃p:Int,e=.returned (.iface 71 (.agg #[aW S 11,xI p])) else e=.returned .nilIface
theorem Qg (S:Xs)(k:Nat)(a:Int)(w:Xw):xK 42 #[.iface 324 (.pointer (some (S k))),xI a] w λe b=>e=.returned (.agg #[.iface 324 (.pointer (some (S k))),xI a])/\xB w b:=by go_enter func42,ntmps42;go_wp2;exact bodyPost_ret (v:=.agg #[.iface 324 (.pointer (some (S k))),xI a]) (by simp[results,results42,go_sem]) rfl ⟨rfl,(Below.refl _ _).alloc (an _) _⟩
theorem nB {w:Xw}{B n f:Nat}{e:Xy}{a:Xp}{b:Xm}(h:w.ownsRow B e 1 (.slice a n f) n b){u:Xv}(c:b[k]?=some u):∃g,a=some (xD g 0)/\xC w g k u:=by
 have l:b.length=n:=by simpa using h.1
 have i:=(aB.1 c).1;obtain⟨g,d,j,_⟩:=zM h (by omega);cases j;exact⟨g,rfl,r5 h c⟩
theorem VK (S:Xs)(N d b:Nat)(m n o j p s:Xv)(c:Cd)(w:Xw)(v:Xv)(g:Nat)(l:List Int)(x:Gl S w)(y:w.heap[d]?=some (.cells #[xP b,m,n,o] 138 (0,0)))(h:CB w N b j p s c)(H:Nm w v g l)(I:l.length≠c.dn.length) :
 xK 58 #[xP d,v] w (λe t=>QX S true e/\xB w t):=by
 obtain⟨a,J,rfl,F,r,G⟩:=H.ex;unfold maxLen at r;have A:((l.length:Int) != (c.dn.length:Int))=true:=by simpa using (by omega:¬(l.length:Int)=c.dn.length)
 have E:=h.NW;have z:=h.NF;have C:=za (Qc d b N m n o j p s c w y h);have f:=za (Qc d b N m n o j p s c w.drew y (h.am (bV.refl _ _)));have q:=x.input;have i:=za x.size;unfold aW at q;go_enter func58,ntmps58;go_upto_region 2 with (go_at_call 32;refine C.o.mono ?_;rintro e B ⟨rfl,rfl⟩);go_region_held3 (λt=>t.cell? (xD 12 0)=some (.iface 324 (.pointer (some (S 11))))) (first|with_reducible assumption|exact q|exact (World.cell?_of_block (w:=w) (u.o.block 12 (by have:=i.o;omega))).trans q|go_keep) (first|(go_at_call 32;refine f.o.mono ?_;rintro e B ⟨rfl,rfl⟩)|(go_at_call 42;refine (Qg S 11 _ _).mono ?_;rintro e B ⟨rfl,D⟩;have u:=za (zw D)));all_goals go_wp2_with fail
 all_goals go_ret
 all_goals exact⟨⟨_,rfl⟩,u.o⟩
theorem VP (S:Xs)(N D s:Nat)(G H I Y J T:Xv)(c:Cd)(w:Xw)(v:Xv)(g:Nat)(l:List Int)(O:Gl S w)(t:xH w D #[xP s,G,H,I] 138)(h:CB w N s Y J T c)(R:Nm w v g l)(he:l.length=c.dn.length) :
 xK 58 #[xP D,v] w (λe w'=>QX S (Ob c.dn l 0).isSome e/\xB w w'):=by
 obtain⟨h0,h1,h2,h3,hf,hz⟩:=zU t;obtain⟨k0,a2,a3,a4,k4,a5,kf,kz⟩:=zt h.aC;obtain⟨x,Z,rfl⟩:=zB h.xv;obtain⟨a,aV,rfl,A,C,q⟩:=R.ex;unfold maxLen at C;have ab:=h.NW;have Q:=h.NF;have V:=za (Qc D s N G H I _ J T c w t h);have X:=za h.xv;have hi:=O.input;unfold aW at hi;have p:=za q;rw[he] at A ⊢;clear R q t h O;go_enter func58,ntmps58;go_wp2_with (go_at_call 32;refine V.o.mono ?_;rintro e w1 ⟨rfl,rfl⟩);go_loop [28] (λi=>∃k:Nat,k<=c.dn.length/\i=xI k/\aa (Ob (c.dn.drop k) (l.drop k) k=Ob c.dn l 0)) (λi=>c.dn.length-(intOf i).toNat)
 case atStart=>exact⟨0,aE _,rfl,rfl⟩
 case round =>
  obtain⟨k,a1,rfl,r⟩:=hrel;by_cases B:k<c.dn.length
  . obtain⟨b,n⟩:∃b,c.dn[k]?=some b:=⟨_,av B⟩;obtain⟨y,f⟩:∃y,l[k]?=some y:=⟨_,av (by omega)⟩;obtain⟨o,rfl,d⟩:=p.o (by intro e;rw[e] at f;simp at f);have hc:=d k y f;obtain⟨a0,rfl,ar⟩:=nB X.o (k:=k) (u:=.bool b) (by simp[n]);have j:=Wh n f;rw[r.o] at j;clear r d n f p;by_cases m:b=true/\y≠0/\y≠1
    . obtain⟨rfl,E,F⟩:=m;rw[ag ⟨rfl,E,F⟩] at j;have j:=za j;have aA:(y != 0)=true:=(by simpa using E);have aL:(y != 1)=true:=(by simpa using F);clear E F;go_wp2_with (go_at_call 42;refine (Qg S 11 _ _).mono ?_;rintro e w1 ⟨rfl,M⟩;have U:=za M;clear M);go_ret;refine⟨?_,U.o⟩;rw[j.o];exact⟨_,rfl⟩
    rw[ae m] at j;have j:=za j;have z:b=false∨(b=true/\y=0)∨(b=true/\y=1):=by
     cases b with
     | false=>exact ao rfl
     | true =>
       by_cases K:y=0
       . exact ap (ao ⟨rfl,K⟩)
       by_cases L:y=1
       . exact ap (ap ⟨rfl,L⟩)
       exact absurd ⟨rfl,K,L⟩ m
    clear m;rcases z with rfl|⟨rfl,rfl⟩|⟨rfl,rfl⟩
    all_goals
     go_wp2_with fail;go_round
     case rel=>exact⟨k+1,by omega,by go_num,j.o.symm⟩
     case measure=>simp[intOf];omega
  have P:Ob c.dn l 0=none:=by rw[<- r.o,List.drop_of_length_le (by omega)];rfl
  have W:=za P;clear r P;go_wp2_with fail;go_ret;exact⟨by rw[W.o];rfl,Below.refl _ _⟩
theorem S9 (S:Xs)(N d a:Nat)(i j m f n o:Xv)(c:Cd)(w:Xw)(v:Xv)(g:Nat)(l:List Int)(p:Gl S w)(q:xH w d #[xP a,i,j,m] 138)(h:CB w N a f n o c)(r:Nm w v g l) :
 xK 58 #[xP d,v] w (λe s=>QX S (Nk c.dn l).isSome e/\xB w s):=by
 unfold Nk;by_cases b:l.length=c.dn.length
 . rw[ag b];exact VP S N d a i j m f n o c w v g l p q h r b
 rw[ae b];exact VK S N d a i j m f n o c w v g l p q h r b
end
section
open Go.RowKit
variable {b:Nat} {w:Xw}
structure nR {κ:Type} [DecidableEq κ] (P:Program) (K:Xy) (enc:κ->Value):Prop where
 check:∀(em:Bool) (k:κ) (w:Xw),(Instr.checkKey em 10000 K (enc k)).run P w=.ok () w
 find:∀(k:κ) (es:List MapEntry) (ks:List κ) (w:Xw),es.map (·.key)=ks.map enc ->
  (k ∉ ks->(Instr.findKey K (enc k) es).run P w=.ok none w) /\
  (∀j e,ks.idxOf? k=some j->es[j]?=some e->(Instr.findKey K (enc k) es).run P w=.ok (some (j,e.val)) w)
 stays:∀(k:κ) (w:Xw),(Instr.keyThatStays (enc k) (enc k)).run P w=.ok (enc k) w
section
variable {κ:Type} [DecidableEq κ]
def fb (w:Xw)(b:Nat)(a:κ->Value)(l:List (κ×Value)):Prop :=
 ∃d c,w.heap[b]?=some (.map d c)/\d.toList.map (λe=>(e.key,e.val))=l.map (λp=>(a p.1,p.2))
def db (k:κ):List (κ×Value)->Option Value
 | []=>none
 | p::l=>if p.1=k then some p.2 else db k l
def hL (k:κ)(v:Xv):List (κ×Value)->List (κ×Value)
 | []=>[(k,v)]
 | p::l=>if p.1=k then (k,v)::l else p::hL k v l
theorem rJ (k c:κ)(v:Xv):∀l:List (κ×Value),db c (hL k v l)=if k=c then some v else db c l:=by
 intro l;induction l with
 | nil=>simp[hL,db]
 | cons p l g =>
   unfold hL;split
   . rename_i h
     unfold db;by_cases d:k=c
     . subst d;simp
     have:¬p.1=c:=λe=>d (h.symm.trans e);simp[d,this]
   rename_i h
   unfold db;by_cases f:p.1=c
   . have:¬k=c:=λe=>h (f.trans e.symm);simp[f,this]
   simp[f,g]
theorem fb.of {θ:Type}{d:Xw}{a:θ->Value}{l:List (θ×Value)}(h:fb w b a l)(i:d.heap[b]?=w.heap[b]?):fb d b a l:=by obtain⟨e,c,f,g⟩:=h;exact⟨e,c,i.trans f,g⟩
theorem fb.lt {θ:Type}{a:θ->Value}{l:List (θ×Value)}(h:fb w b a l):b<w.heap.size:=by
 obtain⟨e,c,d,f⟩:=h;rcases Nat.lt_or_ge b w.heap.size with h|h
 . exact h
 rw[Array.getElem?_eq_none h] at d;cases d
theorem Me {k:κ}:∀{l:List (κ×Value)},k ∉ l.map (·.1)->db k l=none:=by
 intro l;induction l with
 | nil=>intro _;rfl
 | cons p l c => intro h;simp at h;unfold db;rw[ae (λe=>h.1 e.symm)];exact c (by simpa using h.2)
theorem yj {k:κ}:∀{l:List (κ×Value)} {j:Nat},(l.map (·.1)).idxOf? k=some j->∃p,l[j]?=some p/\p.1=k/\db k l=some p.2/\∀v,hL k v l=l.set j (k,v):=by
 intro l;induction l with
 | nil=>intro j h;simp at h
 | cons p l m =>
   intro j h;rw[List.map_cons,List.idxOf?_cons] at h;by_cases c:p.1=k
   . simp[c] at h;subst h;exact⟨p,rfl,c,by simp[db,c],λv=>by simp[hL,c]⟩
   simp[c] at h;obtain⟨n,d,rfl⟩:=h;obtain⟨q,e,f,g,i⟩:=m (by simpa using d);exact⟨q,by simpa using e,f,by simp[db,c,g],λv=>by simp[hL,c,i v]⟩
theorem rR {k:κ}{v:Xv}:∀{l:List (κ×Value)},k ∉ l.map (·.1)->hL k v l=l++[(k,v)]:=by
 intro l;induction l with
 | nil=>intro _;rfl
 | cons p l c => intro h;simp at h;unfold hL;rw[ae (λe=>h.1 e.symm),c (by simpa using h.2)];rfl
theorem xF {k:κ}{l:List κ}(h:k∈l):∃j,l.idxOf? k=some j:=by
 cases c:l.idxOf? k with
 | none=>rw[List.idxOf?_eq_none_iff] at c;exact absurd h c
 | some j=>exact⟨j,rfl⟩
variable {P:Program} {K E T:Xy} {a:κ->Value}
theorem rN (g:nR P K a)(u:P.underlying T=some (.map K E)){z:Xv}(C:∀w,(zeroValue E).run P w=.ok z w){l:List (κ×Value)}(h:fb w b a l)(k:κ)(v:Bool) :
 (Instr.lookup T (.map (some b)) (a k) v).run P w=.ok (if v then .tuple #[(db k l).getD z,.bool (db k l).isSome] else (db k l).getD z) w:=by
 obtain⟨d,c,A,f⟩:=h;have n:d.toList.map (·.key)=(l.map (·.1)).map a:=by have:=congrArg (List.map Prod.fst) f;simpa [List.map_map,Function.comp_def] using this
 have s:(getObj b).run P w=.ok (.map d c) w:=MapKept.run_getObj_map A;obtain⟨f1,f2⟩:=g.find k d.toList (l.map (·.1)) w n;by_cases o:k∈l.map (·.1)
 . obtain⟨j,t⟩:=xF o;obtain⟨p,q,D,y,_⟩:=yj t;have m:=(aB.1 q).1;obtain⟨e,r⟩:∃e,d.toList[j]?=some e:=⟨_,av (by have:=congrArg List.length f;simp at this;simpa [this] using m)⟩;have B:e.val=p.2:=by have:=congrArg (λx=>(x[j]?).map Prod.snd) f;simp[List.getElem?_map,r,q] at this;simpa using this
   have i:=f2 j e t r;rw[y];simp[Instr.lookup,run_underlying u,s,g.check,i,B]
 have i:=f1 o;rw[Me o];simp[Instr.lookup,run_underlying u,s,g.check,i,C]
theorem pq (u:nR P K a)(J:P.underlying T=some (.map K E)){l:List (κ×Value)}(h:fb w b a l)(k:κ)(v:Xv) :
 ∃C,(Instr.mapUpdate T (.map (some b)) (a k) v).run P w=.ok () C/\fb C b a (hL k v l)/\Fr (·=b) w C:=by
 have t:=h.lt;obtain⟨d,c,F,g⟩:=h;have A:d.toList.map (·.key)=(l.map (·.1)).map a:=by have:=congrArg (List.map Prod.fst) g;simpa [List.map_map,Function.comp_def] using this
 have G:(getObj b).run P w=.ok (.map d c) w:=MapKept.run_getObj_map F;have I:∀o,(setObj b o).run P w=.ok () { w with heap:=w.heap.setIfInBounds b o }:=λo=>MapKept.run_setObj_map o F;have n:∀o,Fr (·=b) w { w with heap:=w.heap.setIfInBounds b o }:=λo=>⟨rfl,rfl,rfl,by simp,λk _ N=>by simp[Ne.symm N]⟩;obtain⟨f1,f2⟩:=u.find k d.toList (l.map (·.1)) w A;by_cases B:k∈l.map (·.1)
 . obtain⟨j,H⟩:=xF B;obtain⟨p,D,L,O,M⟩:=yj H;have r:=(aB.1 D).1;obtain⟨e,y⟩:∃e,d.toList[j]?=some e:=⟨_,av (by have:=congrArg List.length g;simp at this;simpa [this] using r)⟩;have m:d[j]?=some e:=by simpa using y
   have s:e.key=a k:=(by have:=congrArg (λx=>(x[j]?).map Prod.fst) g;simp[List.getElem?_map,y,D,L] at this;simpa using this);have z:=f2 j e H y;refine⟨{ w with heap:=w.heap.setIfInBounds b (.map (d.modify j λe=>{ e with key:=a k,val:=v }) c) },?_,⟨d.modify j λe=>{ e with key:=a k,val:=v },c,?_,?_⟩,n _⟩
   . simp[Instr.mapUpdate,run_underlying J,G,u.check,z,m,s,u.stays];exact I _
   . simp[t]
   rw[M v];apply List.ext_getElem?;intro i;have f:=congrArg (λx=>x[i]?) g;simp only[List.getElem?_map] at f ⊢;rw[Array.getElem?_toList,Array.getElem?_modify,List.getElem?_set];rw[Array.getElem?_toList] at f;by_cases q:j=i
   . subst q;simp[m,r]
   simpa [q] using f
 have z:=f1 B;refine⟨{ w with heap:=w.heap.setIfInBounds b (.map (d.push { key:=a k,val:=v,born:=c }) (c+1)) },?_,⟨d.push { key:=a k,val:=v,born:=c },c+1,?_,?_⟩,n _⟩
 . simp[Instr.mapUpdate,run_underlying J,G,u.check,z];exact I _
 . simp[t]
 rw[rR B];simp[g]
end
theorem xu {κ:Type} [DecidableEq κ] {P:Program}{K:Xy}{c:κ->Value}(l:∀(a b:κ) (w:Xw),(Op.equal K (c a) (c b)).run P w=.ok (decide (a=b)) w)(k:κ)(w:Xw) :
 ∀(g:List MapEntry) (d:List κ) (i:Nat),g.map (·.key)=d.map c->(k ∉ d->(Instr.findAsking K (c k) g i).run P w=.ok none w)/\(∀j e,d.idxOf? k=some j->g[j]?=some e->(Instr.findAsking K (c k) g i).run P w=.ok (some (i+j,e.val)) w):=by
 intro g;induction g with
 | nil =>
   intro d i h;cases d with
   | nil=>exact⟨λ_=>rfl,λj e f=>by simp at f⟩
   | cons _ _=>simp at h
 | cons e g x =>
   intro d i h;cases d with
   | nil=>simp at h
   | cons s d =>
     simp only[List.map_cons,List.cons.injEq] at h;obtain⟨p,t⟩:=h;obtain⟨u,v⟩:=x d (i+1) t;by_cases n:k=s
     . subst n;refine⟨λo=>by simp at o,λj r f m=>?_⟩;simp[List.idxOf?_cons] at f;subst f;simp at m;subst m;simp[Instr.findAsking,p,l]
     refine⟨λo=>?_,λj r f m=>?_⟩
     . simp at o;simp[Instr.findAsking,p,l,n];exact u o.2
     rw[List.idxOf?_cons] at f;have:¬s=k:=λe=>n e.symm;simp[this] at f;obtain⟨y,q,rfl⟩:=f;have:=v y r (by simpa using q) (by simpa using m);simp[Instr.findAsking,p,l,n];rw[this];congr 3;omega
theorem yW (a b:Xb):(a==b)=decide (a=b):=by
 obtain⟨x⟩:=a;obtain⟨y⟩:=b;rw[Bool.eq_iff_iff];simp only[decide_eq_true_eq];constructor
 . intro h;unfold BEq.beq at h;have c:(x==y)=true:=h;rw[beq_iff_eq] at c;rw[c]
 intro h;cases h
 show (x==x)=true;simp
def pr (p:Int×Int):Value:=.agg #[xI p.1,xI p.2]
theorem Tryz.Aw (a b:Int×Int)(w:Xw):(Op.equal 198 (pr a) (pr b)).run prog w=.ok (decide (a=b)) w:=by
 unfold pr Op.equal;simp[go_sem,Op.maxDepth];by_cases c:a.1=b.1
 . by_cases d:a.2=b.2
   . simp[c,d,Prod.ext_iff]
   simp[c,d,Prod.ext_iff]
 simp[c,Prod.ext_iff]
theorem Tryz.qe:nR prog 198 pr where
 check em k w:=by
  unfold pr;have h:∀n:Nat,(Instr.checkKey em (n+2) 198 (.agg #[xI k.1,xI k.2])).run prog w=.ok () w:=by intro n;simp[Instr.checkKey,go_sem]
  exact h 9998
 find k a i w h:=by
  have d:(underlying 198).run prog w=.ok (.struct (prog.fieldsOf 198)) w:=by simp[go_sem]
  obtain⟨m,o⟩:=xu Tryz.Aw k w a i 0 h;cases a with
  | nil =>
    cases i with
    | nil=>exact⟨λ_=>by simp[Instr.findKey,d,Instr.findNow],λj e c=>by simp at c⟩
    | cons _ _=>simp at h
  | cons e a =>
    have g:∀f,Instr.findNow (.struct f) (pr k) (e::a) 0=none:=λf=>by simp[Instr.findNow,Instr.sameNow]
    refine⟨λq=>?_,λj l c p=>?_⟩
    . simp[Instr.findKey,d,g];exact m q
    simp[Instr.findKey,d,g];have:=o j l c p;rwa [Nat.zero_add] at this
 stays k w:=by unfold pr;simp[Instr.keyThatStays,Instr.sameBits]
theorem Tryz.Ax (a b:Int×Int)(w:Xw):(Op.equal 284 (pr a) (pr b)).run prog w=.ok (decide (a=b)) w:=by
 unfold pr Op.equal;simp[go_sem,Op.maxDepth];by_cases c:a.1=b.1
 . by_cases d:a.2=b.2
   . simp[c,d,Prod.ext_iff]
   simp[c,d,Prod.ext_iff]
 simp[c,Prod.ext_iff]
theorem Tryz.tg:nR prog 284 pr where
 check em k w:=by
  unfold pr;have h:∀n:Nat,(Instr.checkKey em (n+2) 284 (.agg #[xI k.1,xI k.2])).run prog w=.ok () w:=by intro n;simp[Instr.checkKey,go_sem]
  exact h 9998
 find k a i w h:=by
  have d:(underlying 284).run prog w=.ok (.struct (prog.fieldsOf 284)) w:=by simp[go_sem]
  obtain⟨m,o⟩:=xu Tryz.Ax k w a i 0 h;cases a with
  | nil =>
    cases i with
    | nil=>exact⟨λ_=>by simp[Instr.findKey,d,Instr.findNow],λj e c=>by simp at c⟩
    | cons _ _=>simp at h
  | cons e a =>
    have g:∀f,Instr.findNow (.struct f) (pr k) (e::a) 0=none:=λf=>by simp[Instr.findNow,Instr.sameNow]
    refine⟨λq=>?_,λj l c p=>?_⟩
    . simp[Instr.findKey,d,g];exact m q
    simp[Instr.findKey,d,g];have:=o j l c p;rwa [Nat.zero_add] at this
 stays k w:=by unfold pr;simp[Instr.keyThatStays,Instr.sameBits]
theorem JP {κ:Type} [DecidableEq κ] {d:TypeDesc}{enc:κ->Value}(l:∀a b:κ,Instr.sameNow d (enc a) (enc b)=some (decide (a=b)))(k:κ):∀(g:List MapEntry) (c:List κ) (i:Nat),g.map (·.key)=c.map enc->(k ∉ c->Instr.findNow d (enc k) g i=some none)/\(∀j e,c.idxOf? k=some j->g[j]?=some e->Instr.findNow d (enc k) g i=some (some (i+j,e.val))):=by
 intro g;induction g with
 | nil =>
   intro c i h;cases c with
   | nil=>exact⟨λ_=>rfl,λj e f=>by simp at f⟩
   | cons _ _=>simp at h
 | cons e g x =>
   intro c i h;cases c with
   | nil=>simp at h
   | cons s c =>
     simp only[List.map_cons,List.cons.injEq] at h;obtain⟨p,t⟩:=h;obtain⟨u,v⟩:=x c (i+1) t;by_cases n:k=s
     . subst n;refine⟨λo=>by simp at o,λj r f m=>?_⟩;simp[List.idxOf?_cons] at f;subst f;simp at m;subst m;simp[Instr.findNow,p,l]
     refine⟨λo=>?_,λj r f m=>?_⟩
     . simp at o;simp[Instr.findNow,p,l,n];exact u o.2
     rw[List.idxOf?_cons] at f;have:¬s=k:=λe=>n e.symm;simp[this] at f;obtain⟨y,q,rfl⟩:=f;have:=v y r (by simpa using q) (by simpa using m);simp[Instr.findNow,p,l,n];rw[this];congr 3;omega
theorem Tryz.th:nR prog 9 Value.string where
 check em k w:=by
  have h:∀n:Nat,(Instr.checkKey em (n+1) 9 (.string k)).run prog w=.ok () w:=by intro n;simp[Instr.checkKey,go_sem]
  exact h 9999
 find k es ks w h:=by
  have c:(underlying 9).run prog w=.ok .string w:=by simp[go_sem]
  obtain⟨f,g⟩:=JP (d:=.string) (enc:=Value.string) (λa b=>by simp[Instr.sameNow,yW]) k es ks 0 h;refine⟨λm=>?_,λj e l i=>?_⟩
  . simp[Instr.findKey,c,f m]
  simp[Instr.findKey,c,g j e l i]
 stays k w:=by simp[Instr.keyThatStays,Instr.sameBits,yW]
end
section
open Go.RowKit
variable {a b:Xb}
attribute [local go_sem ↓] Go.wp_at_zero Go.wp_at_succ
theorem mC (h:a=b):(a.toList==b.toList)=true:=by rw[h];simp
theorem mB (h:¬a=b):(a.toList==b.toList)=false:=by rw[bf];intro e;apply h;rw[ByteArray.toList_eq,ByteArray.toList_eq] at e;have:=Array.ext' e;cases a;cases b;simp_all
theorem KX:∀(l:List Vr) (k:Nat) (v:Vr),l[k]?=some v->∀j u,(jd v)[j]?=some u->(eT l)[k*7+j]?=some u:=by
 intro l;induction l with
 | nil=>intro k v h;simp at h
 | cons a l f =>
   intro k v h j u c;have e:eT (a::l)=jd a++eT l:=rfl;have d:(jd a).length=7:=rfl;cases k with
   | zero => simp at h;subst h;rw[e,Nat.zero_mul,Nat.zero_add,e9 (aB.1 c).1];exact c
   | succ k => simp at h;rw[e,e8 (by omega),d,show (k+1)*7+j-7=k*7+j by omega];exact f k v h j u c
def dv (v:Vr):Nat:=if v.bl=true then 1 else 0
theorem hj {w:Xw}{B n o:Nat}{e:Xy}{a:Xp}{l:List Vr}(h:w.ownsRow B e 7 (.slice a n o) n (eT l)){k:Nat}{v:Vr}(i:l[k]?=some v) :
 ∃g,a=some (xD g 0)/\xC w g (k*7) (.string v.nm)/\xC w g (k*7+1) (xI v.a)/\xC w g (k*7+2) (xI (dv v:Nat))/\xC w g (k*7+3) (xI (ba v:Nat))/\xC w g (k*7+4) (xI v.on)/\xC w g (k*7+5) (.string v.ck)/\xC w g (k*7+6) (xI v.ca):=by
 have r:(eT l).length=l.length*7:=by
  clear h i;induction l with
  | nil=>rfl
  | cons a l s=>show (jd a++eT l).length=_;rw[aP,s];simp[jd];omega
 have t:l.length=n:=by have:=h.1;omega
 have p:=(aB.1 i).1;obtain⟨g,m,q,_⟩:=zM h (by omega);cases q;have f:=h.cells (g:=g) rfl;have d:∀j,((xD g 0):Addr).add j=⟨g,j,none⟩:=λj=>by cases j <;> simp[Addr.add]
 have c:=KX l k v i;refine⟨g,rfl,?_,?_,?_,?_,?_,?_,?_⟩
 . have:=f _ _ (c 0 _ rfl);rwa [d] at this
 . have:=f _ _ (c 1 _ rfl);rwa [d] at this
 . have:=f _ _ (c 2 _ rfl);rwa [d] at this
 . have:=f _ _ (c 3 _ rfl);rwa [d] at this
 . have:=f _ _ (c 4 _ rfl);rwa [d] at this
 . have:=f _ _ (c 5 _ rfl);rwa [d] at this
 have:=f _ _ (c 6 _ rfl);rwa [d] at this
def pF (o:Xo):Value:=.tuple #[xI (o.getD 0:Nat),.bool o.isSome]
theorem rK {N:Nat}{n:ay}{t:Nat}{D A:Xv}{F:Xm}(s:Xb)(w:Xw)(h:NT w N n t D A F) :
 xK 120 #[xP t,.string s] w (λe E=>e=.returned (pF (n.find s))/\xB w E):=by
 obtain⟨O,P,Q,R,S,T,U,W⟩:=zt h.aC;obtain⟨x,z,rfl⟩:=zB h.bZ;have y:=za h.bZ;have r:=h.bO;clear h;go_enter func120,ntmps120;go_wp2_with fail;go_loopg [13] (n.ak.length+1) (λj i wr=>∃k:Nat,k+j=n.ak.length+1/\k<=n.ak.length/\i=xI k/\aa (bm s (n.ak.drop k) k=n.find s)/\aa (xB w wr));case atStart=>exact⟨0,by omega,aE _,rfl,rfl,Below.refl _ _⟩
 case round =>
  obtain⟨k,C,V,rfl,l,c⟩:=hrel;have m:aa (wr.ownsRow 0 134 7 (.slice x n.ak.length z) n.ak.length (eT n.ak)):=zi y.o (λb _ B _=>c.o.block b B);by_cases o:k<n.ak.length
  . obtain⟨v,q⟩:∃v,n.ak[k]?=some v:=⟨_,av o⟩;obtain⟨g,rfl,G,H,I,J,K,L,M⟩:=hj m.o q;have f:=yA (s:=s) q;rw[l.o] at f;clear l q;by_cases d:v.nm=s
    . rw[ag d] at f;have p:=mC d;clear d;go_wp2_with fail;refine bodyPost_ret (v:=.tuple #[xI k,.bool true]) (by simp[results,results120,go_sem]) rfl ⟨by rw[f];rfl,c.o.trans ((Below.refl _ _).alloc c.o.size _)⟩
    rw[ae d] at f;have p:=mB d;clear d;go_wp2_with fail;go_roundg (gk-1);case measure=>omega
    exact⟨k+1,by omega,by omega,by go_num,f.symm,c.o.trans ((Below.refl _ _).alloc c.o.size _)⟩
  have u:n.find s=none:=by rw[<- l.o,List.drop_of_length_le (by omega)];rfl
  clear l;go_wp2_with fail;refine bodyPost_ret (v:=.tuple #[xI 0,.bool false]) (by simp[results,results120,go_sem]) rfl ⟨by rw[u];rfl,c.o⟩
end
section
open Go.RowKit
variable {m:List ay} {N:Nat} {c:Sc} {l f:Xv} {w w':Xw}
attribute [local go_sem ↓] Go.wp_at_zero Go.wp_at_succ
def NE (w:Xw)(N:Nat)(m:List ay)(v:Xv):Prop :=
 ∃a b,v=.slice a m.length b/\m.length<=b/\b<=9223372036854775807/\(m≠[]->∃g,a=some (xD g 0)/\g<N/\∀i n,m[i]?=some n->∃u,w.cell? (xD g i)=some u/\NP w N n u)
theorem NE.am {w:Xw}{v:Xv}(h:NE w N m v)(e:bV N w w'):NE w' N m v:=by obtain⟨a,j,k,o,p,q⟩:=h;refine⟨a,j,k,o,p,λb=>?_⟩;obtain⟨g,r,d,s⟩:=q b;refine⟨g,r,d,λi n y=>?_⟩;obtain⟨u,t,x⟩:=s i n y;exact⟨u,(World.cell?_of_block (w:=w) (e g d)).trans t,x.am e⟩
structure br (w:Xw) (N:Nat) (c:Sc) (l f:Xv):Prop where
 er:NE w N c.er l
 nd:NP w N c.nd f
theorem br.am (h:br w N c l f)(a:bV N w w'):br w' N c l f:=⟨h.er.am a,h.nd.am a⟩
theorem jh {B:Nat}(h:Below B w w')(a:B<=w.heap.size)(o:Obj):Below B w (w'.alloc o):=h.alloc (aJ a h.size) o
theorem hW (s:Xb)(a:Int)(w:Xw)(h:br w N c l f)(j:N<=w.heap.size) :
 xK 105 #[.agg #[l,f],.agg #[.string s,xI a]] w (λe w'=>e=.returned (xI (c.idx s:Nat))/\xB w w'):=by
 obtain⟨n,p,o,r,rfl,k⟩:=h.nd;have i:=za (λb d=>rK s ((w.alloc b).alloc d) (k.am (j8 j b d)));go_enter func105,ntmps105;go_wp2_with (go_at_call 120;refine (i.o _ _).mono ?_;rintro e q ⟨rfl,g⟩;unfold pF);go_ret;exact⟨rfl,r3 g⟩
theorem pv (s:Xb)(a:Int)(w:Xw)(h:br w N c l f)(j:N<=w.heap.size) :
 xK 121 #[.agg #[l,f],.agg #[.string s,xI a]] w (λe w'=>e=.returned (.bool (c.nd.find s).isSome)/\xB w w'):=by
 obtain⟨n,p,o,r,rfl,k⟩:=h.nd;have i:=za (λb d=>rK s ((w.alloc b).alloc d) (k.am (j8 j b d)));go_enter func121,ntmps121;go_wp2_with (go_at_call 120;refine (i.o _ _).mono ?_;rintro e q ⟨rfl,g⟩;unfold pF);go_ret;exact⟨rfl,r3 g⟩
def nH (N:Nat)(c:Sc)(s:Xb)(w':Xw)(e:Ending):Prop :=
 match c.called s with
 | none=>e=.returned (.tuple #[.agg #[.slice none 0 0,.pointer none],.bool false])
 | some d=>∃a b,e=.returned (.tuple #[.agg #[a,b],.bool true])/\br w' N d a b
theorem NE.take {a:Xp}{n d k:Nat}(h:NE w N m (.slice a n d))(u:k<m.length):NE w N (m.take k) (.slice a k d):=by
 obtain⟨x,j,o,y,p,q⟩:=h;cases o;have v:(m.take k).length=k:=by simp;omega
 refine⟨a,d,by rw[v],by omega,p,λ_=>?_⟩;obtain⟨g,r,s,t⟩:=q (by intro e;subst e;simp at u);refine⟨g,r,s,λi n b=>t i n ?_⟩;rw[List.getElem?_take] at b;split at b
 . exact b
 cases b
theorem iu (w:Xw)(a b d:Obj):(((w.alloc a).alloc b).alloc d).heap[w.heap.size]?=some a/\(((w.alloc a).alloc b).alloc d).heap[w.heap.size+1]?=some b/\(((w.alloc a).alloc b).alloc d).heap[w.heap.size+1+1]?=some d:=by
 have h (w:Xw) (o:Obj) (k:Nat):(w.alloc o).heap[k]?=if k=w.heap.size then some o else w.heap[k]?:=by show (w.heap.push o)[k]?=_;rw[Array.getElem?_push]
 refine⟨?_,?_,?_⟩;all_goals simp only[h,au]
 . rw[ae (by omega),ae (by omega),ag trivial]
 . rw[ae (by omega),ag trivial]
 rw[ag trivial]
theorem xy (s:Xb)(a:Int)(w:Xw)(h:br w N c l f)(hN:N<=w.heap.size)(h6:c.er.length<=6) :
 xK 119 #[.agg #[l,f],.agg #[.string s,xI a]] w (λe w'=>nH N c s w' e/\xB w w'):=by
 have Z:=h.er;obtain⟨x,B,rfl,ab,aV,J⟩:=h.er;have U:=za Z;have W:=za J;go_enter func119,ntmps119;go_wp2_with fail;go_loopg [11] (c.er.length+1) (λj i wr=>∃k:Nat,k+j=c.er.length+1/\k<=c.er.length/\i=xI k/\aa (fX s (c.er.drop k) k=fX s c.er 0)/\aa (xH wr w.heap.size #[xE x c B,f] 114/\xH wr (w.heap.size+1) #[.string s,xI a] 117/\xH wr (w.heap.size+1+1) #[.slice none 0 0,.pointer none] 114)/\aa (xB w wr));case atStart=>exact⟨0,by omega,aE _,rfl,rfl,iu w _ _ _,mg w _ _ _⟩
 case round =>
  obtain⟨k,aL,aA,rfl,Q,R,d⟩:=hrel;obtain⟨M,O,P⟩:=R.o;obtain⟨p0,a0,a1,a2⟩:=zp M;obtain⟨q0,a3,qf,a5⟩:=zp O;obtain⟨S,T,rf,a6⟩:=zp P;by_cases o:k<c.er.length
  . obtain⟨n,H⟩:∃n,c.er[k]?=some n:=⟨_,av o⟩;have r:=U.o.am (zm d.o hN);have F:=za (r.take o);obtain⟨x',X,Y,_,_,z⟩:=r;cases Y;obtain⟨g,rfl,ar,I⟩:=z (by intro e;rw[e] at o;simp at o);obtain⟨u,hu,A⟩:=I k n H;have G:=za A;obtain⟨D,a9,a4,xs,rfl,K⟩:=A;obtain⟨n0,n1,n2,n3,n4,n5,nf,nz⟩:=zt K.aC;have q:=Iv (s:=s) H;rw[Q.o] at q;have i1:(k:Int)<=(B:Int):=by omega
    by_cases C:n.nm=s
    . rw[ag C] at q;have y:c.called s=some ⟨c.er.take k,n⟩:=(by unfold Sc.called;rw[q];simp only[H]);have E:=za y;have L:=mC C;go_wp2_with fail;go_region_held3 (λw'=>w'.cell? (xD D 0)=some (.string n.nm)/\w'.cell? (xD (w.heap.size+1) 0)=some (.string s)) (go_keep) (fail);go_wp2_with fail;have p:=zo (zC (i:=1) (zC (b:=w.heap.size+1+1) (i:=0) d.o (by omega) (xS g k B)) (b:=w.heap.size+1+1) (by omega) (xP D));refine bodyPost_ret (v:=.tuple #[.agg #[xS g k B,xP D],.bool true]) (by simp[results,results119,go_sem,S,T]) rfl ⟨?_,p⟩;have t:bV N wr _:=λk aA=>(p.block k (by omega)).trans (d.o.block k (by omega)).symm;unfold nH;rw[E.o];exact⟨_,_,rfl,F.o.am t,G.o.am t⟩
    rw[ae C] at q;have E:=za q;have L:=mB C;go_wp2_with fail;go_region_held3 (λw'=>w'.cell? (xD D 0)=some (.string n.nm)/\w'.cell? (xD (w.heap.size+1) 0)=some (.string s)) (go_keep) (fail);go_wp2_with fail;go_roundg (gk-1);case measure=>omega
    exact⟨k+1,by omega,by omega,by go_num,E.o.symm,R.o,⟨d.o.os,d.o.tape,d.o.output,d.o.size,d.o.block⟩⟩
  have V:c.called s=none:=by unfold Sc.called;rw[<- Q.o,List.drop_of_length_le (by omega)];rfl
  go_wp2_with fail;refine bodyPost_ret (v:=.tuple #[.agg #[.slice none 0 0,.pointer none],.bool false]) (by simp[results,results119,go_sem,S,T]) rfl ⟨?_,zC (zC d.o (by omega) _) (by omega) _⟩;unfold nH;rw[V]
theorem o5 (s:Xb)(a:Int)(w:Xw)(h:br w N c l f)(i:N<=w.heap.size)(g:c.er.length<=6)(j:c.called s=none) :
 xK 119 #[.agg #[l,f],.agg #[.string s,xI a]] w (λe w'=>e=.returned (.tuple #[.agg #[.slice none 0 0,.pointer none],.bool false])/\xB w w'):=by
 refine (xy s a w h i g).mono ?_;rintro e w' ⟨b,d⟩;unfold nH at b;rw[j] at b;exact⟨b,d⟩
theorem br.shape (h:br w N c l f):∃x b a,l=xE x c b/\f=xP a/\a<N:=by obtain⟨x,b,d,_⟩:=h.er;obtain⟨a,_,_,_,e,g⟩:=h.nd;exact⟨x,b,a,d,e,g.lo⟩
theorem ji {d:Sc}(s:Xb)(a:Int)(w:Xw)(h:br w N c l f)(q:N<=w.heap.size)(p:c.er.length<=6)(r:c.called s=some d) :
 xK 119 #[.agg #[l,f],.agg #[.string s,xI a]] w (λe w'=>∃x b g,e=.returned (.tuple #[.agg #[xE x d b,xP g],.bool true])/\br w' N d (xE x d b) (xP g)/\xB w w'):=by
 refine (xy s a w h q p).mono ?_;rintro e w' ⟨i,n⟩;unfold nH at i;rw[r] at i;obtain⟨k,t,o,j⟩:=i;obtain⟨x,b,g,rfl,rfl,_⟩:=j.shape;exact⟨x,b,g,o,j,n⟩
end
section
variable {t:Tm}
mutual
def cc:Tm->Nat
 | .mk _ _ _ _ _ a=>gB a+1
def gB:List Tm->Nat
 | []=>0
 | t::l=>cc t+gB l
end
theorem mA {l:List Tm}(h:t∈l):cc t<=gB l:=by
 induction l with
 | nil=>simp at h
 | cons x l a =>
   rcases cC.1 h with rfl|h
   . simp[gB]
   have:=a h;simp[gB];omega
theorem Tm.ind {P:Tm->Prop}(h:∀k a s c n b,(∀t∈b,P t)->P (.mk k a s c n b)):∀t,P t
 | .mk k a s c n b=>h k a s c n b (λt _=>Tm.ind h t)
termination_by t=>cc t
decreasing_by simp only[cc];have:=mA ‹_›;omega
def dJ (k n:Nat):Bool :=
 if k<=3 then n==0 else if k=4 then decide (1<=n) else if k=5 then n==3 else if k=6 then n==2 else if k<=8 then n==1 else if k=9 then n==2 else if k<=11 then n==1 else if k<=23 then n==2 else false
inductive Wf:Tm->Prop
 | mk (k a:Nat) (s:Xb) (nm n:Nat) (ts:List Tm) (h:dJ k ts.length=true) (hr:∀t∈ts,Wf t):Wf (.mk k a s nm n ts)
theorem Wf.sub {u:Tm}(h:Wf t)(c:u∈t.ts):Wf u:=by
 cases h with
 | mk k a s d n e h b=>exact b u c
theorem Wf.ar (h:Wf t):dJ t.k t.ts.length=true:=by
 cases h with
 | mk k a s c n d h b=>exact h
mutual
def bh (g:Tm->Bool):Tm->List Tm
 | .mk k a s c n b=>.mk k a s c n b::(if g (.mk k a s c n b)=true then cN g b else [])
def cN (g:Tm->Bool):List Tm->List Tm
 | []=>[]
 | t::l=>bh g t++cN g l
end
def b8 (_:Tm):Bool:=true
def gH (t:Tm):Bool:=t.k != 9
def Sc.has (c:Sc)(s:Xb):Bool:=(c.nd.find s).isSome
def NA (k:Nat):Bool:=k==3||k==7||k==8||k==6
def hp (q:Qn)(t:Tm):Nat:=if cc t=cc q.r then q.ns.length else 1
def Sc.fits (c:Sc)(t:Tm)(u:Nat):Bool :=
 match c.called t.s with
 | none=>false
 | some d=>d.nd.ah==t.ts.length&&d.nd.aG==u
def dQ (c:Sc):List Vr->Nat->List Nat
 | [],_=>[]
 | v::l,i=>(if (c.nd.find v.nm).getD 0<i then [v.a] else [])++(if (ba v != 0&&!c.has v.ck)=true then [v.ca] else [])++dQ c l (i+1)
def z7 (c:Sc):List ByteArray->List Nat->List Nat
 | s::a,p::b=>(if (!c.has s||decide (c.idx s<c.nd.ah))=true then [p] else [])++z7 c a b
 | _,_=>[]
def fF (c:Sc)(q:Qn)(t:Tm):List Nat :=
 (if (NA t.k&&!c.has t.s)=true then [t.nm] else [])++(if (t.k==4&&!c.fits t (hp q t))=true then [t.nm] else [])
def Sc.cG (c:Sc):List Nat :=
 (if (c.called c.nd.nm).isSome=true then [c.nd.a] else [])++dQ c c.nd.ak 0++(c.nd.eqs.flatMap λq=>z7 c q.ns q.ps)++(c.nd.eqs.flatMap λq=>(bh b8 q.r).flatMap (fF c q))
def dt (v:Vr):Nat:=if v.bl=true then 1 else 0
def Sc.decl (c:Sc)(s:Xb):Nat:=((c.nd.ak[c.idx s]?).map dt).getD 0
def ay.results (n:ay):List Vr:=(n.ak.drop n.ah).take n.aG
def Sc.mP (c:Sc)(s:Xb):Nat :=
 match c.called s with
 | none=>0
 | some d=>((d.nd.results[0]?).map dt).getD 0
mutual
def MO (c:Sc):Tm->Nat
 | .mk k _ s _ _ a =>
   if k=3 then c.decl s else if k=4 then c.mP s else if k=7∨k=8∨k=6 then dO c a 0 else if k=5∨k=9 then dO c a 1
   else if k=0∨k=10∨(19<=k/\k<=23) then 0 else 1
def dO (c:Sc):List Tm->Nat->Nat
 | [],_=>0
 | t::_,0=>MO c t
 | _::l,n+1=>dO c l n
end
def eV (c:Sc)(a:Nat)(l:List Tm):Bool:=l.all λt=>MO c t==a
def gp (c:Sc)(l:List Tm):Bool:=dO c l 0==dO c l 1
def gq (t:Tm):Bool :=
 if t.k=0∨t.k=1∨t.k=2 then true else if t.k=10 then (match t.ts with|[]=>false|u::_=>u.k==0) else false
def gF (c:Sc):List Tm->List Vr->Bool
 | t::l,v::a=>if (MO c t != dt v)=true then false else gF c l a
 | [],_=>true
 | _::_,[]=>true
def Sc.operands (c:Sc)(t:Tm):Bool :=
 if t.k=10∨t.k=17∨t.k=18∨(19<=t.k/\t.k<=23) then eV c 0 t.ts
 else if t.k=11∨t.k=12∨t.k=13∨t.k=14 then eV c 1 t.ts
 else if t.k=15∨t.k=16∨t.k=6 then gp c t.ts
 else if t.k=5 then eV c 1 (t.ts.take 1)&&gp c (t.ts.drop 1)
 else if t.k=9 then (match t.ts with|[]=>false|u::_=>gq u)&&gp c t.ts
 else if t.k=4 then (match c.called t.s with|none=>true|some d=>gF c t.ts d.nd.ak)
 else true
def gE (c:Sc):List ByteArray->List Vr->Bool
 | s::a,r::b=>if (c.decl s != dt r)=true then false else gE c a b
 | _,_=>true
def Sc.holds (c:Sc)(q:Qn):Bool :=
 match q.ns with
 | [s]=>c.decl s==MO c q.r
 | ns=>match c.called q.r.s with
   | none=>true
   | some d=>gE c ns d.nd.results
def eI (c:Sc):List Vr->List Nat
 | []=>[]
 | v::l=>(if (ba v != 0&&c.decl v.ck != 1)=true then [v.on] else [])++eI c l
def fT (c:Sc)(t:Tm):List Nat :=
 (if (NA t.k&&t.k != 3&&c.decl t.s != 1)=true then [t.nm] else [])++(if c.operands t=true then [] else [t.a])
def Sc.eP (c:Sc):List Nat :=
 eI c c.nd.ak++(c.nd.eqs.flatMap λq=>if c.holds q=true then [] else [q.a])++(c.nd.eqs.flatMap λq=>(bh b8 q.r).flatMap (fT c))
def Sc.own (c:Sc)(v:Vr):Nat×Nat:=if ba v=0 then (0,0) else (c.idx v.ck,ba v)
def Sc.of (c:Sc)(i:Nat):Nat×Nat:=match c.nd.ak[i]? with|none=>(0,0)|some v=>c.own v
def Sc.up (c:Sc)(k:Nat×Nat):Nat×Nat:=if k.2=1∨k.2=2 then c.of k.1 else (0,0)
def lx (c:Sc)(i:Nat):Nat->Nat×Nat->Bool
 | 0,_=>false
 | f+1,k=>if k=(0,0) then false else if k.1=i then true else lx c i f (c.up k)
def Sc.jF (c:Sc)(i:Nat):Bool:=lx c i (2*c.nd.ak.length) (c.of i)
def hZ (c:Sc):List Vr->Nat->List Nat
 | [],_=>[]
 | v::l,i=>(if c.jF i=true then [v.a] else [])++hZ c l (i+1)
def fU (c:Sc)(k:Nat×Nat):List ByteArray->List Nat->List Nat
 | s::a,p::b=>(if c.of (c.idx s)=k then [] else [p])++fU c k a b
 | _,_=>[]
def Sc.operand (c:Sc)(t:Tm)(i:Nat)(k:Nat×Nat):Nat×Nat :=
 if t.k=7∨t.k=8 then c.of (c.idx t.s) else if t.k=6 then (c.idx t.s,if 0<i then 2 else 1) else k
def lz (k:Nat):Nat:=if k=8 then 2 else 1
def Sc.cr (c:Sc)(t:Tm)(k:Nat×Nat):List Nat×Bool :=
 if t.k=3∨t.k=6 then (if c.of (c.idx t.s)=k then [] else [t.nm],true)
 else if t.k=7∨t.k=8 then (if k=(c.idx t.s,lz t.k) then ([],true) else ([t.a],false))
 else ([],true)
mutual
def fQ (c:Sc):Tm->Nat×Nat->List Nat
 | .mk x a s d n b,k=>(c.cr (.mk x a s d n b) k).1++(if (c.cr (.mk x a s d n b) k).2=true then k6 c (.mk x a s d n b) k b 0 else [])
def k6 (c:Sc)(t:Tm)(k:Nat×Nat):List Tm->Nat->List Nat
 | [],_=>[]
 | u::l,i=>fQ c u (c.operand t i k)++k6 c t k l (i+1)
end
def mr (c:Sc)(q:Qn):List Nat :=
 let k:=c.of (c.idx (q.ns.headD ⟨#[]⟩))
 fU c k q.ns.tail q.ps.tail++fQ c q.r k
def Sc.e4 (c:Sc):List Nat:=hZ c c.nd.ak 0++c.nd.eqs.flatMap (mr c)
def ee (c:Sc):List ByteArray->List Nat->List Bool->List Nat×List Bool
 | s::a,p::b,d =>
   let r:=ee c a b (d.set (c.idx s) true)
   ((if d.getD (c.idx s) false=true then [p] else [])++r.1,r.2)
 | _,_,d=>([],d)
def fW (c:Sc):List Qn->List Bool->List Nat×List Bool
 | [],d=>([],d)
 | q::l,d =>
   let r:=ee c q.ns q.ps d
   let a:=fW c l r.2
   (r.1++a.1,a.2)
def hk (a:Nat)(d:Xk):List Vr->Nat->List Nat
 | [],_=>[]
 | v::l,i=>(if (decide (a<=i)&&!d.getD i false)=true then [v.a] else [])++hk a d l (i+1)
def Sc.fy (c:Sc):List Nat :=
 let r:=fW c c.nd.eqs (List.replicate c.nd.ak.length false)
 r.1++hk c.nd.ah r.2 c.nd.ak 0
def j0 (c:Sc)(i:Nat)(t:Tm):List (Nat×Nat):=if NA t.k=true then [(i,c.idx t.s)] else []
def fG (c:Sc)(q:Qn)(s:Xb):List (Nat×Nat) :=
 let i:=c.idx s
 (if (c.of i).2=0 then [] else [(i,(c.of i).1)])++(bh gH q.r).flatMap (j0 c i)
def Sc.hI (c:Sc):List (Nat×Nat):=c.nd.eqs.flatMap λq=>q.ns.flatMap (fG c q)
def iE (a b n:Nat):Nat->List (Nat×Nat)->List (Nat×Nat)
 | 0,L=>L
 | m+1,L=>iE a b n m (if (b,a)∈L/\(a,n-(m+1))∈L then L++[(b,n-(m+1))] else L)
def iD (a n:Nat):Nat->List (Nat×Nat)->List (Nat×Nat)
 | 0,L=>L
 | m+1,L=>iD a n m (iE a (n-(m+1)) n n L)
def kK (n:Nat):Nat->List (Nat×Nat)->List (Nat×Nat)
 | 0,L=>L
 | m+1,L=>kK n m (iD (n-(m+1)) n n L)
def jm (n:Nat)(L:List (Nat×Nat)):List (Nat×Nat):=kK n n L
def kQ (a:Nat)(L:List (Nat×Nat))(n:Nat):Nat->List Nat
 | 0=>[]
 | m+1=>(if (n-(m+1),n-(m+1))∈L then [a] else [])++kQ a L n m
def Sc.gb (c:Sc):List Nat:=kQ c.nd.a (jm c.nd.ak.length c.hI) c.nd.ak.length c.nd.ak.length
def fa (s:Xb):List (ByteArray×Nat)->Nat
 | []=>0
 | p::l=>if p.1=s then p.2 else fa s l
def fE (m:List (ByteArray×Nat))(t:Tm):Nat:=if t.k=9 then 1 else if t.k=4 then 1+fa t.s m else 0
def iK (l:Xn):Nat:=l.foldl (·+·) 0
def hl (n:ay)(m:List (ByteArray×Nat)):Nat:=min (iK ((n.eqs.flatMap λq=>bh b8 q.r).map (fE m))) 61
def hr:List ay->List (ByteArray×Nat)->Nat->Nat
 | [],_,a=>a
 | n::l,m,_=>hr l ((n.nm,hl n m)::m) (hl n m)
def ih (a:List ay):List Nat:=if 60<hr a [] 0 then [0] else []
def kd (a:List ay):List Sc:=(List.range a.length).filterMap λi=>(a[i]?).map λn=>⟨a.take i,n⟩
def aj:Option Nat->Nat->Option Nat
 | none,p=>some p
 | some b,p=>if p<b then some p else some b
def zO (l:Xn):Option Nat:=l.foldl aj none
def dh (a:List ay):Option (Nat×Nat) :=
 match zO ((kd a).flatMap Sc.cG) with
 | some p=>some (4,p)
 | none=>match zO ((kd a).flatMap Sc.eP) with
   | some p=>some (5,p)
   | none=>match zO ((kd a).flatMap Sc.e4) with
     | some p=>some (6,p)
     | none=>match zO ((kd a).flatMap Sc.fy) with
       | some p=>some (7,p)
       | none=>match zO ((kd a).flatMap Sc.gb) with
         | some p=>some (8,p)
         | none=>match zO (ih a) with
           | some p=>some (9,p)
           | none=>none
theorem yz {l:Xn}(h:zO l=none):l=[]:=by
 have:∀(l:Xn) (s:Xo),s.isSome=true->(l.foldl aj s).isSome=true:=by
  intro l;induction l with
  | nil=>intro s h;exact h
  | cons p l c =>
    intro s h;refine c _ ?_;cases s with
    | none=>rfl
    | some b=>show (if p<b then some p else some b).isSome=true;split <;> rfl
 cases l with
 | nil=>rfl
 | cons p l => have a:=this l (aj none p) rfl;unfold zO at h;rw[List.foldl_cons] at h;rw[h] at a;cases a
end
end Go.Proofs.YtbicmofihhjgbaaGreatDoor
