/- Part 8. -/
import Derived.Deep.DrawnRows
import Derived.LaidEqlPtr
import Derived.Maps.OwnSet
import Derived.Test.YtcnelakggnfnhaaGreatDoorK06
set_option maxRecDepth 100000
set_option maxHeartbeats 8000000
namespace Go.Proofs.YtcnelakggnfnhaaGreatDoor
open Go.Proofs.Tryz
open Go.RowKit
section
attribute [local go_sem ↓] Go.wp_at_zero Go.wp_at_succ
theorem XD (n s m r B:Nat)(L:Xv)(d g q:List Int)(k:Nat)(x:Int)(u:d[k]?=some x)(v c:Int)(w:Xw)(o:MB w n s m r B L d g (v::c::q))(hm:q.length+10<=10000000) :
 xK 92 #[xP n,.agg #[.int .u8 4,xI k]] w (Ot n s m r B w L (d.set k (pk c v x)) g q):=by
 obtain⟨Z,h1,h2,h3,hf,hz⟩:=zU o.aC;obtain⟨_,U,V,_⟩:=o.lt;have W:=(aB.1 u).1;have R:(0:Int)<=(k:Int):=by omega
 have T:(k:Int)<(d.length:Int):=by omega
 have X:¬n=m:=o.Nt;have O:¬m=n:=λe=>o.Nt e.symm;have Y:¬w.heap.size=m:=by omega
 have P:¬m=w.heap.size:=by omega
 go_enter func92,ntmps92;go_upto_region 14 with ((go_at_call 150;refine (NG n s m r B L d g (c::q) v _ (o.alloc _) (by simp;omega)).mono ?_;rintro e w1 ⟨rfl,p,l,j⟩;obtain⟨ar,y,aA,s1,f1,aV⟩:=zU l.aC;have z:=za j.Oi;obtain⟨u1,v1,aL,x1⟩:=zp (o.box j)));have t1:=OG l.ce u;refine wp_region_noPanic ?_;refine wp_region_held_drew (S:=(λQ=>Q.cell? (xD n 1)=some (xS m d.length d.length)/\Q.cell? (xD w.heap.size 1)=some (xI k))) (by kernel_rfl) ?_ (λa=>?_)
 . (try dsimp only);(go_keep)
 refine aR 0 rfl (v:=?v1) (ao ⟨by rfl,?h1⟩) ?_;case h1=>(intro w b;(try dsimp only at b);go_simp;try with_reducible rfl)
 try simp only[Act.put,aD]
 refine aR 1 rfl (v:=?v2) (ao ⟨by rfl,?h2⟩) ?_;case h2=>(intro w b;(try dsimp only at b);go_simp;try with_reducible rfl)
 try simp only[Act.put,aD]
 refine aR 2 rfl (v:=?v3) (ao ⟨by rfl,?h3⟩) ?_;case h3=>(intro w b;(try dsimp only at b);go_simp;try with_reducible rfl)
 try simp only[Act.put,aD]
 refine aR 3 rfl (v:=?v4) (ao ⟨by rfl,?h4⟩) ?_;case h4=>(intro w b;(try dsimp only at b);go_simp;try with_reducible rfl)
 try simp only[Act.put,aD]
 refine aR 4 rfl (v:=?v5) (ao ⟨by rfl,?h5⟩) ?_;case h5=>(intro w b;(try dsimp only at b);go_simp;try with_reducible rfl)
 try simp only[Act.put,aD]
 refine aR 5 rfl (v:=?v6) (ao ⟨by rfl,?h6⟩) ?_;case h6=>(intro w b;(try dsimp only at b);go_simp;try with_reducible rfl)
 try simp only[Act.put,aD]
 refine aR 6 rfl (v:=?v7) (ao ⟨by rfl,?h7⟩) ?_;case h7=>(intro w b;(try dsimp only at b);go_simp;try with_reducible rfl)
 try simp only[Act.put,aD]
 refine aR 8 rfl (v:=?v8) (ao ⟨by rfl,?h8⟩) ?_;case h8=>(intro w b;(try dsimp only at b);go_simp;try with_reducible rfl)
 try simp only[Act.put,aD]
 refine aR 9 rfl (v:=?v9) (ao ⟨by rfl,?h9⟩) ?_;case h9=>(intro w b;(try dsimp only at b);go_simp;try with_reducible rfl)
 try simp only[Act.put,aD]
 refine aR 10 rfl (v:=?v10) (ao ⟨by rfl,?h10⟩) ?_;case h10=>(intro w b;(try dsimp only at b);go_simp;try with_reducible rfl)
 try simp only[Act.put,aD]
 refine aR 11 rfl (v:=?v11) (ao ⟨by rfl,?h11⟩) ?_;case h11=>(intro w b;(try dsimp only at b);go_simp;try with_reducible rfl)
 try simp only[Act.put,aD]
 refine aR 12 rfl (v:=?v12) (ao ⟨by rfl,?h12⟩) ?_;case h12=>(intro w b;(try dsimp only at b);go_simp;try with_reducible rfl)
 try simp only[Act.put,aD]
 refine aR 13 rfl (v:=?v13) (ao ⟨by rfl,?h13⟩) ?_;case h13=>(intro w b;(try dsimp only at b);go_simp;try with_reducible rfl)
 try simp only[Act.put,aD]
 refine aR 14 rfl (v:=?v14) (ao ⟨by rfl,?h14⟩) ?_;case h14=>(intro w b;(try dsimp only at b);go_simp;try with_reducible rfl)
 try simp only[Act.put,aD]
 refine aR 15 rfl (v:=?v15) (ao ⟨by rfl,?h15⟩) ?_;case h15=>(intro w b;(try dsimp only at b);go_simp;try with_reducible rfl)
 try simp only[Act.put,aD]
 refine wpAnyH_ready (rs:=[7,16]) (by kernel_rfl) (by simp) ?_;refine AllReadyH.cons rfl (λK h=>?_) ?_;go_simp;first|go_at_K|((first|(go_at_call 151;refine (PK _ _ _ _).mono ?_;rintro e N ⟨rfl,rfl⟩)|(go_at_call 150;refine (NG n s m r B p d g q c _ l.drew (by omega)).mono ?_;rintro e M ⟨rfl,t,f,i⟩;obtain⟨F,y,G,H,I,J⟩:=zU f.aC;obtain⟨A,C,D,E⟩:=zp (o.box (j.trans i.cQ));have t2:=lh f.ce;have t3:=OG f.ce u));first|go_at_K|go_wp2_with fail)
 refine h.out _ _ ?_ (λh9=>?_)
 . (try dsimp only);(go_keep)
 clear h K a;have a:=h9;try simp only[Act.put,aD]
 refine wpAnyH_ready (rs:=[16]) (by kernel_rfl) (by simp) ?_;refine AllReadyH.cons rfl (λK h=>?_) ?_;go_simp;refine h.out _ _ ?_ (λh9=>?_)
 . (try dsimp only);(go_keep)
 clear h K a;have a:=h9;try simp only[Act.put,aD]
 refine wpAnyH_ready (rs:=[17]) (by kernel_rfl) (by simp) ?_;refine AllReadyH.cons rfl (λK h=>?_) ?_;go_simp;first|go_at_K|((first|(go_at_call 151;refine (PK _ _ _ _).mono ?_;rintro e N ⟨rfl,rfl⟩)|(go_at_call 150;refine (NG n s m r B p d g q c _ l.drew (by omega)).mono ?_;rintro e M ⟨rfl,t,f,i⟩;obtain⟨F,y,G,H,I,J⟩:=zU f.aC;obtain⟨A,C,D,E⟩:=zp (o.box (j.trans i.cQ));have t2:=lh f.ce;have t3:=OG f.ce u));first|go_at_K|go_wp2_with fail)
 refine h.out _ _ ?_ (λh9=>?_)
 . (try dsimp only);(go_keep)
 clear h K a;have a:=h9;try simp only[Act.put,aD]
 refine aR 18 rfl (v:=?v16) (ao ⟨by rfl,?h16⟩) ?_;case h16=>(intro w b;(try dsimp only at b);go_simp;try with_reducible rfl)
 try simp only[Act.put,aD]
 refine wpAnyH_ready (rs:=[19]) (by kernel_rfl) (by simp) ?_;refine AllReadyH.cons rfl (λK h=>?_) ?_;go_simp;refine h.out _ _ ?_ (λh9=>?_)
 . (try dsimp only);(go_keep)
 clear h K a;have a:=h9;try simp only[Act.put,aD]
 refine wpAnyH_done (by kernel_rfl) ?_ _;rotate_left;exact AllReadyH.nil;exact AllReadyH.nil;exact AllReadyH.nil;refine AllReadyH.cons rfl (λK h=>?_) ?_;go_simp;refine h.out _ _ ?_ (λh9=>?_)
 . (try dsimp only);(go_keep)
 clear h K a;have a:=h9;try simp only[Act.put,aD]
 refine wpAnyH_ready (rs:=[7]) (by kernel_rfl) (by simp) ?_;refine AllReadyH.cons rfl (λK h=>?_) ?_;go_simp;first|go_at_K|((first|(go_at_call 151;refine (PK _ _ _ _).mono ?_;rintro e N ⟨rfl,rfl⟩)|(go_at_call 150;refine (NG n s m r B p d g q c _ l.drew (by omega)).mono ?_;rintro e M ⟨rfl,t,f,i⟩;obtain⟨F,y,G,H,I,J⟩:=zU f.aC;obtain⟨A,C,D,E⟩:=zp (o.box (j.trans i.cQ));have t2:=lh f.ce;have t3:=OG f.ce u));first|go_at_K|go_wp2_with fail)
 refine h.out _ _ ?_ (λh9=>?_)
 . (try dsimp only);(go_keep)
 clear h K a;have a:=h9;try simp only[Act.put,aD]
 refine wpAnyH_ready (rs:=[17]) (by kernel_rfl) (by simp) ?_;refine AllReadyH.cons rfl (λK h=>?_) ?_;go_simp;first|go_at_K|((first|(go_at_call 151;refine (PK _ _ _ _).mono ?_;rintro e N ⟨rfl,rfl⟩)|(go_at_call 150;refine (NG n s m r B p d g q c _ l.drew (by omega)).mono ?_;rintro e M ⟨rfl,t,f,i⟩;obtain⟨F,y,G,H,I,J⟩:=zU f.aC;obtain⟨A,C,D,E⟩:=zp (o.box (j.trans i.cQ));have t2:=lh f.ce;have t3:=OG f.ce u));first|go_at_K|go_wp2_with fail)
 refine h.out _ _ ?_ (λh9=>?_)
 . (try dsimp only);(go_keep)
 clear h K a;have a:=h9;try simp only[Act.put,aD]
 refine aR 18 rfl (v:=?v17) (ao ⟨by rfl,?h17⟩) ?_;case h17=>(intro w b;(try dsimp only at b);go_simp;try with_reducible rfl)
 try simp only[Act.put,aD]
 refine wpAnyH_ready (rs:=[19]) (by kernel_rfl) (by simp) ?_;refine AllReadyH.cons rfl (λK h=>?_) ?_;go_simp;refine h.out _ _ ?_ (λh9=>?_)
 . (try dsimp only);(go_keep)
 clear h K a;have a:=h9;try simp only[Act.put,aD]
 refine wpAnyH_done (by kernel_rfl) ?_ _;rotate_left;exact AllReadyH.nil;exact AllReadyH.nil;exact AllReadyH.nil;exact AllReadyH.nil;all_goals refine NoPanic.normal ?_
 all_goals go_wp2_with fail
 all_goals go_end0
 all_goals exact⟨rfl,_,f.cell k _,(z.o.trans i.cQ).cell k _⟩
end
section
variable {o p q:List Int} {s:Xm} {B f m b d n:Nat} {e:Xy} {r:Xv} {w w':Xw}
attribute [local go_sem ↓] Go.wp_at_zero Go.wp_at_succ
structure Cd where
 dn:List Bool
 aG:Nat
 al:Nat
 cells:List Int
 depth:Nat
 row:List (Nat×Int)
def MU (l:List (Nat×Int)):List Value:=l.flatMap λi=>[.int .u8 i.1,xI i.2]
theorem SP (l:List (Nat×Int)):(MU l).length=l.length*2:=by
 induction l with
 | nil=>rfl
 | cons a l c=>show (_::_::MU l).length=_;simp[c];omega
theorem Ta:∀(l:List (Nat×Int)) (k:Nat) (i:Nat×Int),l[k]?=some i->(MU l)[k*2]?=some (.int .u8 i.1)/\(MU l)[k*2+1]?=some (xI i.2):=by
 intro l;induction l with
 | nil=>intro k i h;simp at h
 | cons a l j =>
   intro k i h;have e:MU (a::l)=.int .u8 a.1::(xI a.2)::MU l:=rfl;cases k with
   | zero=>simp at h;subst h;simp[e]
   | succ k => simp at h;obtain⟨c,g⟩:=j k i h;rw[e,show (k+1)*2=k*2+1+1 by omega,show k*2+1+1+1=(k*2+1)+1+1 by omega];simp[c,g]
structure CB (w:Xw) (N b:Nat) (bv cv rv:Xv) (c:Cd):Prop where
 aC:xH w b #[bv,xI c.aG,xI c.al,cv,xI c.depth,rv] 60
 xv:w.ownsRow 0 4 1 bv c.dn.length (c.dn.map .bool)
 hQ:w.ownsRow 0 2 1 cv c.cells.length (zK c.cells)
 zA:w.ownsRow 0 65 2 rv c.row.length (MU c.row)
 h0:b<N
 h1:∀k,bv.ownBlock=some k->k<N
 h2:∀k,cv.ownBlock=some k->k<N
 h3:∀k,rv.ownBlock=some k->k<N
 NF:c.dn.length+c.aG<=c.al
 NW:c.al<=255
 Pu:c.cells.length<=255
 Pw:c.depth<=3145728
 PC:c.row.length<=1048576
theorem CB.am {N:Nat}{g i j:Xv}{c:Cd}(h:CB w N b g i j c)(a:bV N w w'):CB w' N b g i j c :=
 ⟨(a _ h.h0).trans h.aC,zi h.xv (λk _ _ e=>a k (h.h1 k e)),zi h.hQ (λk _ _ e=>a k (h.h2 k e)),zi h.zA (λk _ _ e=>a k (h.h3 k e)),h.h0,h.h1,h.h2,h.h3,h.NF,h.NW,h.Pu,h.Pw,h.PC⟩
structure Mc (w:Xw) (N d b f m:Nat) (bv cv rv r:Xv) (c:Cd) (o p q:List Int):Prop where
 code:CB w N b bv cv rv c
 mem:MB w d b f m N r o p q
 n0:N<=d
 n1:N<=f
 n2:N<=m
 lc:o.length=c.cells.length
 ls:p.length=c.al
theorem zB {a:Nat}{j:Xv}(h:w.ownsRow B e a j n s):∃x k,j=.slice x n k:=by
 rcases h.2 with ⟨i,t⟩|⟨g,c,l,i,_⟩
 . exact⟨none,0,by rw[i,t]⟩
 exact⟨_,c,i⟩
theorem Qc (d b:Nat)(N:Nat)(i j k g l t:Xv)(c:Cd)(w:Xw)(a:xH w d #[xP b,i,j,k] 196)(h:CB w N b g l t c) :
 xK 94 #[xP d] w (λe w'=>e=.returned (xI c.dn.length)/\w=w'):=by
 obtain⟨v,y,z,A,C,D⟩:=zU a;obtain⟨E,F,G,H,I,J,K,L⟩:=zt h.aC;obtain⟨x,u,rfl⟩:=zB h.xv;clear h a;go_enter func94,ntmps94;go_wp2_with fail;go_ret;exact⟨rfl,rfl⟩
theorem S5 (d b:Nat)(N:Nat)(i j k g l t:Xv)(c:Cd)(w:Xw)(a:xH w d #[xP b,i,j,k] 196)(h:CB w N b g l t c) :
 xK 93 #[xP d] w (λe w'=>e=.returned (xI c.aG)/\w=w'):=by
 obtain⟨u,v,x,y,z,A⟩:=zU a;obtain⟨C,D,E,F,G,H,I,J⟩:=zt h.aC;clear h a;go_enter func93,ntmps93;go_wp2_with fail;go_ret;exact⟨rfl,rfl⟩
theorem Tryz.Rf:(prog.info? 2).map (·.size)=some 1:=by kernel_rfl
theorem W9 {x:Xp}{i:Nat}(h:w.ownsRow B e 1 (.slice x n i) n s):0<s.length->∃a,x=some a/\∀j v,s[j]?=some v->w.cell? (a.add j)=some v:=by
 intro u;have t:s.length=n:=by simpa using h.1
 obtain⟨g,c,l,_⟩:=zM h (by omega);cases l;exact⟨_,rfl,λj v k=>h.cells (g:=g) rfl j v k⟩
theorem MB.OX {a:List Int}(h:MB w d b f m B r o p q)(l:a.length=o.length)(i:w'.heap[f]?=some (.cells (zK a).toArray 2 (0,0)))(c:Fr (·=f) w w'):MB w' d b f m B r a p q :=
 ⟨by rw[l];exact (c.block d (ze h.aC) h.Nt).trans h.aC,i,(c.block m (ze h.sl) (λe=>h.NV e.symm)).trans h.sl,zi h.own (λk _ j e=>c.block k j (λg=>h.s1 (g▸e))),h.Nt,h.NU,h.NV,h.sm,h.s1,h.s2,aJ h.hB c.size⟩
theorem MB.slots' {slots':List Int}(h:MB w d b f m B r o p q)(j:slots'.length=p.length)(g:w'.heap[m]?=some (.cells (zK slots').toArray 2 (0,0)))(a:Fr (·=m) w w'):MB w' d b f m B r o slots' q :=
 ⟨by rw[j];exact (a.block d (ze h.aC) h.NU).trans h.aC,(a.block f (ze h.ce) h.NV).trans h.ce,g,zi h.own (λk _ i e=>a.block k i (λc=>h.s2 (c▸e))),h.Nt,h.NU,h.NV,h.sm,h.s1,h.s2,aJ h.hB a.size⟩
theorem Td (N d b f m:Nat)(v y C r:Xv)(c:Cd)(o p q:List Int)(w:Xw)(H:Mc w N d b f m v y C r c o p q) :
 xK 90 #[xP d] w (λe w'=>e=.returned (.tuple #[])/\Mc w' N d b f m v y C r c c.cells p q/\Fr (·=f) w w'):=by
 obtain⟨F,z,J,K,L,A⟩:=zU H.mem.aC;obtain⟨M,O,P,G,Q,R,S,I⟩:=zt H.code.aC;obtain⟨x,u,rfl⟩:=zB H.code.hQ;have g:=H.lc;have D:=za (W9 H.code.hQ);have E:=underlying36;have t:=Tryz.Rf;rw[g] at z;go_enter func90,ntmps90
 go_region_held3 (λw'=>w'.cell? (xD d 0)=some (xP b)/\w'.cell? (xD d 1)=some (xS f c.cells.length c.cells.length)/\w'.cell? (xD b 3)=some (.slice x c.cells.length u)) (first|go_keep|(refine⟨?_,?_,?_⟩ <;> first|exact (l.o).1|exact l.o.2.1|exact l.o.2.2))
  ((refine Wu rfl (.tmp 5) (.tmp 12) 36 36 (by rfl) 2 E t f c.cells.length c.cells.length x c.cells.length u (by rfl) (by rfl) (zK o) 2 H.mem.ce (zK c.cells) (by simp[zK]) D.o (by simp[zK,g]) Pk ?_;intro i j a;have l:aa (i.cell? (xD d 0)=some (xP b)/\i.cell? (xD d 1)=some (xS f c.cells.length c.cells.length)/\i.cell? (xD b 3)=some (.slice x c.cells.length u)):=⟨(Z6 (w:=w) (a.block d A H.mem.Nt)).trans F,(Z6 (w:=w) (a.block d A H.mem.Nt)).trans z,(Z6 (w:=w) (a.block b I (by have:=H.n1;have:=H.code.h0;omega))).trans G⟩))
 all_goals go_wp2_with fail
 all_goals go_end0
 all_goals
  have h:Fr (·=f) w i:=a.cQ;refine⟨rfl,⟨H.code.am (h.am (aJ H.n1 (Nat.le_of_lt H.mem.lt.2.1)) (λk e=>e▸H.n1)),H.mem.OX (by rw[g]) ?_ h,H.n0,H.n1,H.n2,rfl,H.ls⟩,h⟩;have:=j;rwa [List.drop_eq_nil_of_le (by simp[zK,g]),List.append_nil] at this
end
section
variable {j g:Nat}
structure Ms where
 cells:List Int
 al:List Int
 st:List Int
def Oh (m:Ms)(i:Nat×Int):Ms :=
 match i.1,m.st with
 | 0,st=>{ m with st:=i.2::st }
 | 1,st=>{ m with st:=m.al.getD i.2.toNat 0::st }
 | 2,v::st=>{ m with al:=m.al.set i.2.toNat v,st:=st }
 | 3,st=>{ m with st:=m.cells.getD i.2.toNat 0::st }
 | 4,v::c::st=>{ m with cells:=m.cells.set i.2.toNat (pk c v (m.cells.getD i.2.toNat 0)),st:=st }
 | 5,e::d::c::st=>{ m with st:=pk c d e::st }
 | 6,e::d::st=>{ m with st:=pk (m.al.getD i.2.toNat 0) d e::st }
 | 7,v::st=>{ m with st:=wrap64 (-v)::st }
 | 8,v::st=>{ m with st:=Ph (v==0)::st }
 | op,b::a::st=>{ m with st:=MZ op a b::st }
 | _,_=>m
def zY:List (Nat×Nat×Nat):=[(1,0,1),(2,0,1),(2,1,0),(3,0,1),(3,2,0),(0,3,1),(2,2,1),(0,1,1),(0,1,1),(0,2,1),(0,2,1),(0,2,1),(0,2,1),(0,2,1),(0,2,1),(0,2,1),(0,2,1),(0,2,1),(0,2,1),(0,2,1),(0,2,1)]
def Nl (g j h:Nat)(i:Nat×Int):Option Nat :=
 match zY[i.1]? with
 | none=>none
 | some s=>if s.2.1<=h/\(s.1=2->0<=i.2/\i.2.toNat<g)/\(s.1=3->0<=i.2/\i.2.toNat<j) then some (h-s.2.1+s.2.2) else none
def Mt (g j:Nat):Nat->List (Nat×Int)->Option Nat
 | h,[]=>some h
 | h,i::l=>match Nl g j h i with
   | none=>none
   | some a=>Mt g j a l
theorem PM {k:Nat}{s:Nat×Nat×Nat}(h:zY[k]?=some s):k<=20:=by have:=(aB.1 h).1;simp[zY] at this;omega
theorem X6 {h l:Nat}{m:Ms}{i:Nat×Int}(f:Nl g j h i=some l)(q:m.st.length=h):(Oh m i).st.length=l/\(Oh m i).cells.length=m.cells.length/\(Oh m i).al.length=m.al.length/\l<=h+1:=by
 unfold Nl at f;split at f
 . cases f
 rename_i s e
 have n:=PM e;split at f
 . rename_i t
   cases f;obtain⟨d,x⟩:=i;obtain⟨k,p,r⟩:=m;simp only at q e n;subst q;have:d=0∨d=1∨d=2∨d=3∨d=4∨d=5∨d=6∨d=7∨d=8∨d=9∨d=10∨d=11∨d=12∨d=13∨d=14∨d=15∨d=16∨d=17∨d=18∨d=19∨d=20:=by omega
   obtain⟨o,_⟩:=t
   rcases this with rfl|rfl|rfl|rfl|rfl|rfl|rfl|rfl|rfl|rfl|rfl|rfl|rfl|rfl|rfl|rfl|rfl|rfl|rfl|rfl|rfl <;>
    (simp only[zY,List.getElem?_cons_zero,List.getElem?_cons_succ,Option.some.injEq] at e;subst e;simp only at o;rcases r with _|⟨a,_|⟨b,_|⟨c,r⟩⟩⟩ <;> simp_all [Oh] <;> omega)
 cases f
def Ob:List Bool->List Int->Nat->Option Nat
 | b::a,x::c,i=>if b=true/\x≠0/\x≠1 then some i else Ob a c (i+1)
 | _,_,_=>none
def Nk (a:Xk)(l:List Int):Option Nat:=if l.length=a.length then Ob a l 0 else some (min l.length a.length)
def Oc (m:Ms)(l:List (Nat×Int)):Ms:=l.foldl Oh m
def Oa (g:Nat)(a:List Int):List Int:=a++List.replicate (g-a.length) 0
def M1 (c:Cd)(a b:List Int):Ms:=Oc ⟨a,Oa c.al b,[]⟩ c.row
def M5 (c:Cd)(m:Ms):List Int:=(m.al.drop c.dn.length).take c.aG
theorem Q1:∀(l:List (Nat×Int)) (h n:Nat) (m:Ms),Mt g j h l=some n->m.st.length=h->(Oc m l).st.length=n/\(Oc m l).cells.length=m.cells.length/\(Oc m l).al.length=m.al.length:=by
 intro l;induction l with
 | nil=>intro h n m k p;cases k;exact⟨p,rfl,rfl⟩
 | cons i l r =>
   intro h n m k p;unfold Mt at k;split at k
   . cases k
   rename_i q o
   obtain⟨a,b,c,_⟩:=X6 o p;obtain⟨d,e,f⟩:=r q n (Oh m i) k a;exact⟨d,e.trans b,f.trans c⟩
end
section
theorem QS {l:List Int}{k:Nat}(h:k<l.length):l[k]?=some (l.getD k 0):=by rw[List.getD_eq_getElem?_getD,av h];rfl
theorem P9 {x:Int}(h:0<=x):((x.toNat:Nat):Int)=x:=Int.toNat_of_nonneg h
def acg (k:Nat):Prop:=k=0∨k=1∨k=2∨k=3∨k=4∨k=16
def abn (c:Cd):Prop:=(∀i∈c.row,acg i.1)/\(∀b∈c.dn,b=false)/\c.dn.length<c.al
theorem X7 (n q o p B:Nat)(r:Xv)(m:Ms)(i:Nat×Int)(h F:Nat)(w:Xw)(t:MB w n q o p B r m.cells m.al m.st)(A:Nl m.al.length m.cells.length h i=some F)(E:m.st.length=h)(D:h+10<=10000000)(C:acg i.1) :
 xK 92 #[xP n,.agg #[.int .u8 i.1,xI i.2]] w (Ot n q o p B w r (Oh m i).cells (Oh m i).al (Oh m i).st):=by
 unfold Nl at A;split at A
 . cases A
 rename_i s u
 split at A
 . rename_i G
   clear A;obtain⟨H,x⟩:=i;obtain⟨d,e,f⟩:=m;simp only at E u C t;subst E;obtain⟨g,k,l⟩:=G;simp only at g k l;rcases C with rfl|rfl|rfl|rfl|rfl|rfl <;> (simp only[zY,List.getElem?_cons_zero,List.getElem?_cons_succ,Option.some.injEq] at u;subst u;simp only at g k l)
   . exact X0 n q o p B r d e f x w t (by omega)
   . obtain⟨y,z⟩:=k (by decide);have:=XK n q o p B r d e f x.toNat _ (QS z) w t (by omega);rwa [P9 y] at this
   . obtain⟨y,z⟩:=k (by decide);obtain⟨v,f,rfl⟩:∃v j,f=v::j:=by
      rcases f with _|⟨b,f⟩
      . simp at g
      exact⟨b,f,rfl⟩
     have:=Xd n q o p B r d e f x.toNat v w t z (by simp only[bJ] at D;omega);rwa [P9 y] at this
   . obtain⟨y,z⟩:=l (by decide);have:=X4 n q o p B r d e f x.toNat _ (QS z) w t (by omega);rwa [P9 y] at this
   . obtain⟨y,z⟩:=l (by decide);obtain⟨v,c,f,rfl⟩:∃v c j,f=v::c::j:=by
      rcases f with _|⟨b,_|⟨a,f⟩⟩
      . simp at g
      . simp at g
      exact⟨b,a,f,rfl⟩
     have:=XD n q o p B r d e f x.toNat _ (QS z) v c w t (by simp only[bJ] at D;omega);rwa [P9 y] at this
   obtain⟨b,a,f,rfl⟩:∃b a j,f=b::a::j:=by
    rcases f with _|⟨b,_|⟨a,f⟩⟩
    . simp at g
    . simp at g
    exact⟨b,a,f,rfl⟩
   exact XO n q o p B r d e f 16 (by decide) a b x (WW a b) w t (by simp only[bJ] at D;omega)
 cases A
end
section
attribute [local go_sem ↓] Go.wp_at_zero Go.wp_at_succ
structure Nm (w:Xw) (v:Xv) (g:Nat) (l:List Int):Prop where
 ex:∃a c,v=.slice a l.length c/\l.length<=c/\c<=maxLen/\(l≠[]->∃o,a=some (xD g o)/\∀j x,l[j]?=some x->xC w g (o+j) (xI x))
theorem Qg (S:Xs)(k:Nat)(a:Int)(w:Xw):xK 30 #[.iface 316 (.pointer (some (S k))),xI a] w λe b=>e=.returned (.agg #[.iface 316 (.pointer (some (S k))),xI a])/\xB w b:=by go_enter func30,ntmps30;go_wp2;exact ab (v:=.agg #[.iface 316 (.pointer (some (S k))),xI a]) (by simp[results,results30,go_sem]) rfl ⟨rfl,(yS _ _).alloc (an _) _⟩
theorem nB {w:Xw}{B n f:Nat}{e:Xy}{a:Xp}{b:Xm}(h:w.ownsRow B e 1 (.slice a n f) n b){k:Nat}{u:Xv}(c:b[k]?=some u):∃g,a=some (xD g 0)/\xC w g k u:=by
 have l:b.length=n:=by simpa using h.1
 have i:=(aB.1 c).1;obtain⟨g,d,j,_⟩:=zM h (by omega);cases j;exact⟨g,rfl,r5 h c⟩
end
section
variable {b:Nat} {w:Xw}
structure nR {κ:Type} [DecidableEq κ] (P:Program) (K:Xy) (enc:κ->Value):Prop where
 check:∀(em:Bool) (k:κ) (w:Xw),(Instr.checkKey em 10000 K (enc k)).run P w=.ok () w
 find:∀(k:κ) (es:List MapEntry) (ks:List κ) (w:Xw),es.map (·.key)=ks.map enc ->
  (k ∉ ks->(Instr.findKey K (enc k) es).run P w=.ok none w) /\
  (∀j e,ks.idxOf? k=some j->es[j]?=some e->(Instr.findKey K (enc k) es).run P w=.ok (some (j,e.val)) w)
 stays:∀(k:κ) (w:Xw),(Instr.keyThatStays (enc k) (enc k)).run P w=.ok (enc k) w
section
variable {κ:Type} [DecidableEq κ]
def fb (w:Xw)(b:Nat)(a:κ->Value)(l:List (κ×Value)):Prop :=
 ∃d c,w.heap[b]?=some (.map d c)/\d.toList.map (λe=>(e.key,e.val))=l.map (λp=>(a p.1,p.2))
def db (k:κ):List (κ×Value)->Option Value
 | []=>none
 | p::l=>if p.1=k then some p.2 else db k l
def hL (k:κ)(v:Xv):List (κ×Value)->List (κ×Value)
 | []=>[(k,v)]
 | p::l=>if p.1=k then (k,v)::l else p::hL k v l
theorem rJ (k c:κ)(v:Xv):∀l:List (κ×Value),db c (hL k v l)=if k=c then some v else db c l:=by
 intro l;induction l with
 | nil=>simp[hL,db]
 | cons p l g =>
   unfold hL;split
   . rename_i h
     unfold db;by_cases d:k=c
     . subst d;simp
     have:¬p.1=c:=λe=>d (h.symm.trans e);simp[d,this]
   rename_i h
   unfold db;by_cases f:p.1=c
   . have:¬k=c:=λe=>h (f.trans e.symm);simp[f,this]
   simp[f,g]
theorem fb.of {θ:Type}{d:Xw}{a:θ->Value}{l:List (θ×Value)}(h:fb w b a l)(i:d.heap[b]?=w.heap[b]?):fb d b a l:=by obtain⟨e,c,f,g⟩:=h;exact⟨e,c,i.trans f,g⟩
theorem fb.lt {θ:Type}{a:θ->Value}{l:List (θ×Value)}(h:fb w b a l):b<w.heap.size:=by
 obtain⟨e,c,d,f⟩:=h;rcases Nat.lt_or_ge b w.heap.size with h|h
 . exact h
 rw[Array.getElem?_eq_none h] at d;cases d
theorem Me {k:κ}:∀{l:List (κ×Value)},k ∉ l.map (·.1)->db k l=none:=by
 intro l;induction l with
 | nil=>intro _;rfl
 | cons p l c => intro h;simp at h;unfold db;rw[ae (λe=>h.1 e.symm)];exact c (by simpa using h.2)
theorem yj {k:κ}:∀{l:List (κ×Value)} {j:Nat},(l.map (·.1)).idxOf? k=some j->∃p,l[j]?=some p/\p.1=k/\db k l=some p.2/\∀v,hL k v l=l.set j (k,v):=by
 intro l;induction l with
 | nil=>intro j h;simp at h
 | cons p l m =>
   intro j h;rw[List.map_cons,List.idxOf?_cons] at h;by_cases c:p.1=k
   . simp[c] at h;subst h;exact⟨p,rfl,c,by simp[db,c],λv=>by simp[hL,c]⟩
   simp[c] at h;obtain⟨n,d,rfl⟩:=h;obtain⟨q,e,f,g,i⟩:=m (by simpa using d);exact⟨q,by simpa using e,f,by simp[db,c,g],λv=>by simp[hL,c,i v]⟩
theorem rR {k:κ}{v:Xv}:∀{l:List (κ×Value)},k ∉ l.map (·.1)->hL k v l=l++[(k,v)]:=by
 intro l;induction l with
 | nil=>intro _;rfl
 | cons p l c => intro h;simp at h;unfold hL;rw[ae (λe=>h.1 e.symm),c (by simpa using h.2)];rfl
theorem xF {k:κ}{l:List κ}(h:k∈l):∃j,l.idxOf? k=some j:=by
 cases c:l.idxOf? k with
 | none=>rw[List.idxOf?_eq_none_iff] at c;exact absurd h c
 | some j=>exact⟨j,rfl⟩
variable {P:Program} {K E T:Xy} {a:κ->Value}
theorem rN (g:nR P K a)(u:P.underlying T=some (.map K E)){z:Xv}(C:∀w,(zeroValue E).run P w=.ok z w){l:List (κ×Value)}(h:fb w b a l)(k:κ)(v:Bool) :
 (Instr.lookup T (.map (some b)) (a k) v).run P w=.ok (if v then .tuple #[(db k l).getD z,.bool (db k l).isSome] else (db k l).getD z) w:=by
 obtain⟨d,c,A,f⟩:=h;have n:d.toList.map (·.key)=(l.map (·.1)).map a:=by have:=congrArg (List.map Prod.fst) f;simpa [List.map_map,Function.comp_def] using this
 have s:(getObj b).run P w=.ok (.map d c) w:=MapKept.run_getObj_map A;obtain⟨f1,f2⟩:=g.find k d.toList (l.map (·.1)) w n;by_cases o:k∈l.map (·.1)
 . obtain⟨j,t⟩:=xF o;obtain⟨p,q,D,y,_⟩:=yj t;have m:=(aB.1 q).1;obtain⟨e,r⟩:∃e,d.toList[j]?=some e:=⟨_,av (by have:=congrArg List.length f;simp at this;simpa [this] using m)⟩;have B:e.val=p.2:=by have:=congrArg (λx=>(x[j]?).map Prod.snd) f;simp[List.getElem?_map,r,q] at this;simpa using this
   have i:=f2 j e t r;rw[y];simp[Instr.lookup,run_underlying u,s,g.check,i,B]
 have i:=f1 o;rw[Me o];simp[Instr.lookup,run_underlying u,s,g.check,i,C]
theorem pq (u:nR P K a)(J:P.underlying T=some (.map K E)){l:List (κ×Value)}(h:fb w b a l)(k:κ)(v:Xv) :
 ∃C,(Instr.mapUpdate T (.map (some b)) (a k) v).run P w=.ok () C/\fb C b a (hL k v l)/\Fr (·=b) w C:=by
 have t:=h.lt;obtain⟨d,c,F,g⟩:=h;have A:d.toList.map (·.key)=(l.map (·.1)).map a:=by have:=congrArg (List.map Prod.fst) g;simpa [List.map_map,Function.comp_def] using this
 have G:(getObj b).run P w=.ok (.map d c) w:=MapKept.run_getObj_map F;have I:∀o,(setObj b o).run P w=.ok () { w with heap:=w.heap.setIfInBounds b o }:=λo=>MapKept.run_setObj_map o F;have n:∀o,Fr (·=b) w { w with heap:=w.heap.setIfInBounds b o }:=λo=>⟨rfl,rfl,rfl,by simp,λk _ N=>by simp[Ne.symm N]⟩;obtain⟨f1,f2⟩:=u.find k d.toList (l.map (·.1)) w A;by_cases B:k∈l.map (·.1)
 . obtain⟨j,H⟩:=xF B;obtain⟨p,D,L,O,M⟩:=yj H;have r:=(aB.1 D).1;obtain⟨e,y⟩:∃e,d.toList[j]?=some e:=⟨_,av (by have:=congrArg List.length g;simp at this;simpa [this] using r)⟩;have m:d[j]?=some e:=by simpa using y
   have s:e.key=a k:=(by have:=congrArg (λx=>(x[j]?).map Prod.fst) g;simp[List.getElem?_map,y,D,L] at this;simpa using this);have z:=f2 j e H y;refine⟨{ w with heap:=w.heap.setIfInBounds b (.map (d.modify j λe=>{ e with key:=a k,val:=v }) c) },?_,⟨d.modify j λe=>{ e with key:=a k,val:=v },c,?_,?_⟩,n _⟩
   . simp[Instr.mapUpdate,run_underlying J,G,u.check,z,m,s,u.stays];exact I _
   . simp[t]
   rw[M v];apply List.ext_getElem?;intro i;have f:=congrArg (λx=>x[i]?) g;simp only[List.getElem?_map] at f ⊢;rw[Array.getElem?_toList,Array.getElem?_modify,List.getElem?_set];rw[Array.getElem?_toList] at f;by_cases q:j=i
   . subst q;simp[m,r]
   simpa [q] using f
 have z:=f1 B;refine⟨{ w with heap:=w.heap.setIfInBounds b (.map (d.push { key:=a k,val:=v,born:=c }) (c+1)) },?_,⟨d.push { key:=a k,val:=v,born:=c },c+1,?_,?_⟩,n _⟩
 . simp[Instr.mapUpdate,run_underlying J,G,u.check,z];exact I _
 . simp[t]
 rw[rR B];simp[g]
end
theorem xu {κ:Type} [DecidableEq κ] {P:Program}{K:Xy}{c:κ->Value}(l:∀(a b:κ) (w:Xw),(Op.equal K (c a) (c b)).run P w=.ok (decide (a=b)) w)(k:κ)(w:Xw) :
 ∀(g:List MapEntry) (d:List κ) (i:Nat),g.map (·.key)=d.map c->(k ∉ d->(Instr.findAsking K (c k) g i).run P w=.ok none w)/\(∀j e,d.idxOf? k=some j->g[j]?=some e->(Instr.findAsking K (c k) g i).run P w=.ok (some (i+j,e.val)) w):=by
 intro g;induction g with
 | nil =>
   intro d i h;cases d with
   | nil=>exact⟨λ_=>rfl,λj e f=>by simp at f⟩
   | cons _ _=>simp at h
 | cons e g x =>
   intro d i h;cases d with
   | nil=>simp at h
   | cons s d =>
     simp only[List.map_cons,List.cons.injEq] at h;obtain⟨p,t⟩:=h;obtain⟨u,v⟩:=x d (i+1) t;by_cases n:k=s
     . subst n;refine⟨λo=>by simp at o,λj r f m=>?_⟩;simp[List.idxOf?_cons] at f;subst f;simp at m;subst m;simp[Instr.findAsking,p,l]
     refine⟨λo=>?_,λj r f m=>?_⟩
     . simp at o;simp[Instr.findAsking,p,l,n];exact u o.2
     rw[List.idxOf?_cons] at f;have:¬s=k:=λe=>n e.symm;simp[this] at f;obtain⟨y,q,rfl⟩:=f;have:=v y r (by simpa using q) (by simpa using m);simp[Instr.findAsking,p,l,n];rw[this];congr 3;omega
theorem yW (a b:Xb):(a==b)=decide (a=b):=by
 obtain⟨x⟩:=a;obtain⟨y⟩:=b;rw[Bool.eq_iff_iff];simp only[decide_eq_true_eq];constructor
 . intro h;unfold BEq.beq at h;have c:(x==y)=true:=h;rw[beq_iff_eq] at c;rw[c]
 intro h;cases h
 show (x==x)=true;simp
def pr (p:Int×Int):Value:=.agg #[xI p.1,xI p.2]
theorem Tryz.Aw (a b:Int×Int)(w:Xw):(Op.equal 162 (pr a) (pr b)).run prog w=.ok (decide (a=b)) w:=by
 unfold pr Op.equal;simp[go_sem,Op.maxDepth];by_cases c:a.1=b.1
 . by_cases d:a.2=b.2
   . simp[c,d,Prod.ext_iff]
   simp[c,d,Prod.ext_iff]
 simp[c,Prod.ext_iff]
theorem Tryz.qe:nR prog 162 pr where
 check em k w:=by
  unfold pr;have h:∀n:Nat,(Instr.checkKey em (n+2) 162 (.agg #[xI k.1,xI k.2])).run prog w=.ok () w:=by intro n;simp[Instr.checkKey,go_sem]
  exact h 9998
 find k a i w h:=by
  have d:(underlying 162).run prog w=.ok (.struct (prog.fieldsOf 162)) w:=by simp[go_sem]
  obtain⟨m,o⟩:=xu Tryz.Aw k w a i 0 h;cases a with
  | nil =>
    cases i with
    | nil=>exact⟨λ_=>by simp[Instr.findKey,d,Instr.findNow],λj e c=>by simp at c⟩
    | cons _ _=>simp at h
  | cons e a =>
    have g:∀f,Instr.findNow (.struct f) (pr k) (e::a) 0=none:=λf=>by simp[Instr.findNow,Instr.sameNow]
    refine⟨λq=>?_,λj l c p=>?_⟩
    . simp[Instr.findKey,d,g];exact m q
    simp[Instr.findKey,d,g];have:=o j l c p;rwa [Nat.zero_add] at this
 stays k w:=by unfold pr;simp[Instr.keyThatStays,Instr.sameBits]
theorem Tryz.Ax (a b:Int×Int)(w:Xw):(Op.equal 276 (pr a) (pr b)).run prog w=.ok (decide (a=b)) w:=by
 unfold pr Op.equal;simp[go_sem,Op.maxDepth];by_cases c:a.1=b.1
 . by_cases d:a.2=b.2
   . simp[c,d,Prod.ext_iff]
   simp[c,d,Prod.ext_iff]
 simp[c,Prod.ext_iff]
theorem Tryz.tg:nR prog 276 pr where
 check em k w:=by
  unfold pr;have h:∀n:Nat,(Instr.checkKey em (n+2) 276 (.agg #[xI k.1,xI k.2])).run prog w=.ok () w:=by intro n;simp[Instr.checkKey,go_sem]
  exact h 9998
 find k a i w h:=by
  have d:(underlying 276).run prog w=.ok (.struct (prog.fieldsOf 276)) w:=by simp[go_sem]
  obtain⟨m,o⟩:=xu Tryz.Ax k w a i 0 h;cases a with
  | nil =>
    cases i with
    | nil=>exact⟨λ_=>by simp[Instr.findKey,d,Instr.findNow],λj e c=>by simp at c⟩
    | cons _ _=>simp at h
  | cons e a =>
    have g:∀f,Instr.findNow (.struct f) (pr k) (e::a) 0=none:=λf=>by simp[Instr.findNow,Instr.sameNow]
    refine⟨λq=>?_,λj l c p=>?_⟩
    . simp[Instr.findKey,d,g];exact m q
    simp[Instr.findKey,d,g];have:=o j l c p;rwa [Nat.zero_add] at this
 stays k w:=by unfold pr;simp[Instr.keyThatStays,Instr.sameBits]
theorem JP {κ:Type} [DecidableEq κ] {d:TypeDesc}{enc:κ->Value}(l:∀a b:κ,Instr.sameNow d (enc a) (enc b)=some (decide (a=b)))(k:κ):∀(g:List MapEntry) (c:List κ) (i:Nat),g.map (·.key)=c.map enc->(k ∉ c->Instr.findNow d (enc k) g i=some none)/\(∀j e,c.idxOf? k=some j->g[j]?=some e->Instr.findNow d (enc k) g i=some (some (i+j,e.val))):=by
 intro g;induction g with
 | nil =>
   intro c i h;cases c with
   | nil=>exact⟨λ_=>rfl,λj e f=>by simp at f⟩
   | cons _ _=>simp at h
 | cons e g x =>
   intro c i h;cases c with
   | nil=>simp at h
   | cons s c =>
     simp only[List.map_cons,List.cons.injEq] at h;obtain⟨p,t⟩:=h;obtain⟨u,v⟩:=x c (i+1) t;by_cases n:k=s
     . subst n;refine⟨λo=>by simp at o,λj r f m=>?_⟩;simp[List.idxOf?_cons] at f;subst f;simp at m;subst m;simp[Instr.findNow,p,l]
     refine⟨λo=>?_,λj r f m=>?_⟩
     . simp at o;simp[Instr.findNow,p,l,n];exact u o.2
     rw[List.idxOf?_cons] at f;have:¬s=k:=λe=>n e.symm;simp[this] at f;obtain⟨y,q,rfl⟩:=f;have:=v y r (by simpa using q) (by simpa using m);simp[Instr.findNow,p,l,n];rw[this];congr 3;omega
theorem Tryz.th:nR prog 9 Value.string where
 check em k w:=by
  have h:∀n:Nat,(Instr.checkKey em (n+1) 9 (.string k)).run prog w=.ok () w:=by intro n;simp[Instr.checkKey,go_sem]
  exact h 9999
 find k es ks w h:=by
  have c:(underlying 9).run prog w=.ok .string w:=by simp[go_sem]
  obtain⟨f,g⟩:=JP (d:=.string) (enc:=Value.string) (λa b=>by simp[Instr.sameNow,yW]) k es ks 0 h;refine⟨λm=>?_,λj e l i=>?_⟩
  . simp[Instr.findKey,c,f m]
  simp[Instr.findKey,c,g j e l i]
 stays k w:=by simp[Instr.keyThatStays,Instr.sameBits,yW]
end
section
variable {a b:Xb}
attribute [local go_sem ↓] Go.wp_at_zero Go.wp_at_succ
theorem mC (h:a=b):(a.toList==b.toList)=true:=by rw[h];simp
theorem mB (h:¬a=b):(a.toList==b.toList)=false:=by rw[bf];intro e;apply h;rw[ByteArray.toList_eq,ByteArray.toList_eq] at e;have:=Array.ext' e;cases a;cases b;simp_all
theorem KX:∀(l:List Vr) (k:Nat) (v:Vr),l[k]?=some v->∀j u,(jd v)[j]?=some u->(aag l)[k*7+j]?=some u:=by
 intro l;induction l with
 | nil=>intro k v h;simp at h
 | cons a l f =>
   intro k v h j u c;have e:aag (a::l)=jd a++aag l:=rfl;have d:(jd a).length=7:=rfl;cases k with
   | zero => simp at h;subst h;rw[e,Nat.zero_mul,Nat.zero_add,e9 (aB.1 c).1];exact c
   | succ k => simp at h;rw[e,e8 (by omega),d,show (k+1)*7+j-7=k*7+j by omega];exact f k v h j u c
def dv (v:Vr):Nat:=if v.bl=true then 1 else 0
theorem hj {w:Xw}{B n o:Nat}{e:Xy}{a:Xp}{l:List Vr}(h:w.ownsRow B e 7 (.slice a n o) n (aag l)){k:Nat}{v:Vr}(i:l[k]?=some v) :
 ∃g,a=some (xD g 0)/\xC w g (k*7) (.string v.nm)/\xC w g (k*7+1) (xI v.a)/\xC w g (k*7+2) (xI (dv v:Nat))/\xC w g (k*7+3) (xI (ba v:Nat))/\xC w g (k*7+4) (xI v.on)/\xC w g (k*7+5) (.string v.ck)/\xC w g (k*7+6) (xI v.ca):=by
 have r:(aag l).length=l.length*7:=by
  clear h i;induction l with
  | nil=>rfl
  | cons a l s=>show (jd a++aag l).length=_;rw[aP,s];simp[jd];omega
 have t:l.length=n:=by have:=h.1;omega
 have p:=(aB.1 i).1;obtain⟨g,m,q,_⟩:=zM h (by omega);cases q;have f:=h.cells (g:=g) rfl;have d:∀j,((xD g 0):Addr).add j=⟨g,j,none⟩:=λj=>by cases j <;> simp[Addr.add]
 have c:=KX l k v i;refine⟨g,rfl,?_,?_,?_,?_,?_,?_,?_⟩
 . have:=f _ _ (c 0 _ rfl);rwa [d] at this
 . have:=f _ _ (c 1 _ rfl);rwa [d] at this
 . have:=f _ _ (c 2 _ rfl);rwa [d] at this
 . have:=f _ _ (c 3 _ rfl);rwa [d] at this
 . have:=f _ _ (c 4 _ rfl);rwa [d] at this
 . have:=f _ _ (c 5 _ rfl);rwa [d] at this
 have:=f _ _ (c 6 _ rfl);rwa [d] at this
def pF (o:Xo):Value:=.tuple #[xI (o.getD 0:Nat),.bool o.isSome]
theorem rK {N:Nat}{n:ay}{t:Nat}{D A:Xv}{F:Xm}(s:Xb)(w:Xw)(h:NT w N n t D A F) :
 xK 97 #[xP t,.string s] w (λe E=>e=.returned (pF (n.find s))/\xB w E):=by
 obtain⟨O,P,Q,R,S,T,U,W⟩:=zt h.aC;obtain⟨x,z,rfl⟩:=zB h.bZ;have y:=za h.bZ;have r:=h.bO;clear h;go_enter func97,ntmps97;go_wp2_with fail;go_loopg [13] (n.ak.length+1) (λj i wr=>∃k:Nat,k+j=n.ak.length+1/\k<=n.ak.length/\i=xI k/\aa (bm s (n.ak.drop k) k=n.find s)/\aa (xB w wr));case atStart=>exact⟨0,by omega,aE _,rfl,rfl,yS _ _⟩
 case round =>
  obtain⟨k,C,V,rfl,l,c⟩:=hrel;have m:aa (wr.ownsRow 0 95 7 (.slice x n.ak.length z) n.ak.length (aag n.ak)):=zi y.o (λb _ B _=>c.o.block b B);by_cases o:k<n.ak.length
  . obtain⟨v,q⟩:∃v,n.ak[k]?=some v:=⟨_,av o⟩;obtain⟨g,rfl,G,H,I,J,K,L,M⟩:=hj m.o q;have f:=yA (s:=s) q;rw[l.o] at f;clear l q;by_cases d:v.nm=s
    . rw[ag d] at f;have p:=mC d;clear d;go_wp2_with fail;refine ab (v:=.tuple #[xI k,.bool true]) (by simp[results,results97,go_sem]) rfl ⟨by rw[f];rfl,c.o.trans ((yS _ _).alloc c.o.size _)⟩
    rw[ae d] at f;have p:=mB d;clear d;go_wp2_with fail;go_roundg (gk-1);case measure=>omega
    exact⟨k+1,by omega,by omega,by go_num,f.symm,c.o.trans ((yS _ _).alloc c.o.size _)⟩
  have u:n.find s=none:=by rw[<- l.o,List.drop_of_length_le (by omega)];rfl
  clear l;go_wp2_with fail;refine ab (v:=.tuple #[xI 0,.bool false]) (by simp[results,results97,go_sem]) rfl ⟨by rw[u];rfl,c.o⟩
end
section
variable {m:List ay} {N:Nat} {c:Sc} {l f:Xv} {w w':Xw}
attribute [local go_sem ↓] Go.wp_at_zero Go.wp_at_succ
def NE (w:Xw)(N:Nat)(m:List ay)(v:Xv):Prop :=
 ∃a b,v=.slice a m.length b/\m.length<=b/\b<=9223372036854775807/\(m≠[]->∃g,a=some (xD g 0)/\g<N/\∀i n,m[i]?=some n->∃u,w.cell? (xD g i)=some u/\NP w N n u)
theorem NE.am {w:Xw}{v:Xv}(h:NE w N m v)(e:bV N w w'):NE w' N m v:=by obtain⟨a,j,k,o,p,q⟩:=h;refine⟨a,j,k,o,p,λb=>?_⟩;obtain⟨g,r,d,s⟩:=q b;refine⟨g,r,d,λi n y=>?_⟩;obtain⟨u,t,x⟩:=s i n y;exact⟨u,(Z6 (w:=w) (e g d)).trans t,x.am e⟩
structure br (w:Xw) (N:Nat) (c:Sc) (l f:Xv):Prop where
 er:NE w N c.er l
 nd:NP w N c.nd f
theorem br.am (h:br w N c l f)(a:bV N w w'):br w' N c l f:=⟨h.er.am a,h.nd.am a⟩
theorem jh {B:Nat}(h:Below B w w')(a:B<=w.heap.size)(o:Obj):Below B w (w'.alloc o):=h.alloc (aJ a h.size) o
theorem hW (s:Xb)(a:Int)(w:Xw)(h:br w N c l f)(j:N<=w.heap.size) :
 xK 61 #[.agg #[l,f],.agg #[.string s,xI a]] w (λe w'=>e=.returned (xI (c.idx s:Nat))/\xB w w'):=by
 obtain⟨n,p,o,r,rfl,k⟩:=h.nd;have i:=za (λb d=>rK s ((w.alloc b).alloc d) (k.am (j8 j b d)));go_enter func61,ntmps61;go_wp2_with (go_at_call 97;refine (i.o _ _).mono ?_;rintro e q ⟨rfl,g⟩;unfold pF);go_ret;exact⟨rfl,r3 g⟩
theorem pv (s:Xb)(a:Int)(w:Xw)(h:br w N c l f)(j:N<=w.heap.size) :
 xK 98 #[.agg #[l,f],.agg #[.string s,xI a]] w (λe w'=>e=.returned (.bool (c.nd.find s).isSome)/\xB w w'):=by
 obtain⟨n,p,o,r,rfl,k⟩:=h.nd;have i:=za (λb d=>rK s ((w.alloc b).alloc d) (k.am (j8 j b d)));go_enter func98,ntmps98;go_wp2_with (go_at_call 97;refine (i.o _ _).mono ?_;rintro e q ⟨rfl,g⟩;unfold pF);go_ret;exact⟨rfl,r3 g⟩
def nH (N:Nat)(c:Sc)(s:Xb)(w':Xw)(e:Ending):Prop :=
 match c.called s with
 | none=>e=.returned (.tuple #[.agg #[.slice none 0 0,.pointer none],.bool false])
 | some d=>∃a b,e=.returned (.tuple #[.agg #[a,b],.bool true])/\br w' N d a b
theorem NE.take {a:Xp}{n d k:Nat}(h:NE w N m (.slice a n d))(u:k<m.length):NE w N (m.take k) (.slice a k d):=by
 obtain⟨x,j,o,y,p,q⟩:=h;cases o;have v:(m.take k).length=k:=by simp;omega
 refine⟨a,d,by rw[v],by omega,p,λ_=>?_⟩;obtain⟨g,r,s,t⟩:=q (by intro e;subst e;simp at u);refine⟨g,r,s,λi n b=>t i n ?_⟩;rw[List.getElem?_take] at b;split at b
 . exact b
 cases b
theorem iu (w:Xw)(a b d:Obj):(((w.alloc a).alloc b).alloc d).heap[w.heap.size]?=some a/\(((w.alloc a).alloc b).alloc d).heap[w.heap.size+1]?=some b/\(((w.alloc a).alloc b).alloc d).heap[w.heap.size+1+1]?=some d:=by
 have h (w:Xw) (o:Obj) (k:Nat):(w.alloc o).heap[k]?=if k=w.heap.size then some o else w.heap[k]?:=by show (w.heap.push o)[k]?=_;rw[Array.getElem?_push]
 refine⟨?_,?_,?_⟩;all_goals simp only[h,au]
 . rw[ae (by omega),ae (by omega),ag trivial]
 . rw[ae (by omega),ag trivial]
 rw[ag trivial]
theorem xy (s:Xb)(a:Int)(w:Xw)(h:br w N c l f)(hN:N<=w.heap.size)(h6:c.er.length<=6) :
 xK 96 #[.agg #[l,f],.agg #[.string s,xI a]] w (λe w'=>nH N c s w' e/\xB w w'):=by
 have Z:=h.er;obtain⟨x,B,rfl,ar,a0,J⟩:=h.er;have U:=za Z;have W:=za J;go_enter func96,ntmps96;go_wp2_with fail;go_loopg [11] (c.er.length+1) (λj i wr=>∃k:Nat,k+j=c.er.length+1/\k<=c.er.length/\i=xI k/\aa (fX s (c.er.drop k) k=fX s c.er 0)/\aa (xH wr w.heap.size #[xE x c B,f] 73/\xH wr (w.heap.size+1) #[.string s,xI a] 78/\xH wr (w.heap.size+1+1) #[.slice none 0 0,.pointer none] 73)/\aa (xB w wr));case atStart=>exact⟨0,by omega,aE _,rfl,rfl,iu w _ _ _,mg w _ _ _⟩
 case round =>
  obtain⟨k,aV,aL,rfl,Q,R,d⟩:=hrel;obtain⟨M,O,P⟩:=R.o;obtain⟨p0,a1,a2,a3⟩:=zp M;obtain⟨q0,a4,qf,a6⟩:=zp O;obtain⟨S,T,rf,a9⟩:=zp P;by_cases o:k<c.er.length
  . obtain⟨n,H⟩:∃n,c.er[k]?=some n:=⟨_,av o⟩;have r:=U.o.am (zm d.o hN);have F:=za (r.take o);obtain⟨x',X,Y,_,_,z⟩:=r;cases Y;obtain⟨g,rfl,aA,I⟩:=z (by intro e;rw[e] at o;simp at o);obtain⟨u,hu,A⟩:=I k n H;have G:=za A;obtain⟨D,vs,a5,xs,rfl,K⟩:=A;obtain⟨n0,n1,n2,n3,n4,n5,nf,nz⟩:=zt K.aC;have q:=Iv (s:=s) H;rw[Q.o] at q;have i1:(k:Int)<=(B:Int):=by omega
    by_cases C:n.nm=s
    . rw[ag C] at q;have y:c.called s=some ⟨c.er.take k,n⟩:=(by unfold Sc.called;rw[q];simp only[H]);have E:=za y;have L:=mC C;go_wp2_with fail;go_region_held3 (λw'=>w'.cell? (xD D 0)=some (.string n.nm)/\w'.cell? (xD (w.heap.size+1) 0)=some (.string s)) (go_keep) (fail);go_wp2_with fail;have p:=zo (zC (i:=1) (zC (b:=w.heap.size+1+1) (i:=0) d.o (by omega) (xS g k B)) (b:=w.heap.size+1+1) (by omega) (xP D));refine ab (v:=.tuple #[.agg #[xS g k B,xP D],.bool true]) (by simp[results,results96,go_sem,S,T]) rfl ⟨?_,p⟩;have t:bV N wr _:=λk aL=>(p.block k (by omega)).trans (d.o.block k (by omega)).symm;unfold nH;rw[E.o];exact⟨_,_,rfl,F.o.am t,G.o.am t⟩
    rw[ae C] at q;have E:=za q;have L:=mB C;go_wp2_with fail;go_region_held3 (λw'=>w'.cell? (xD D 0)=some (.string n.nm)/\w'.cell? (xD (w.heap.size+1) 0)=some (.string s)) (go_keep) (fail);go_wp2_with fail;go_roundg (gk-1);case measure=>omega
    exact⟨k+1,by omega,by omega,by go_num,E.o.symm,R.o,⟨d.o.os,d.o.tape,d.o.output,d.o.size,d.o.block⟩⟩
  have V:c.called s=none:=by unfold Sc.called;rw[<- Q.o,List.drop_of_length_le (by omega)];rfl
  go_wp2_with fail;refine ab (v:=.tuple #[.agg #[.slice none 0 0,.pointer none],.bool false]) (by simp[results,results96,go_sem,S,T]) rfl ⟨?_,zC (zC d.o (by omega) _) (by omega) _⟩;unfold nH;rw[V]
theorem o5 (s:Xb)(a:Int)(w:Xw)(h:br w N c l f)(i:N<=w.heap.size)(g:c.er.length<=6)(j:c.called s=none) :
 xK 96 #[.agg #[l,f],.agg #[.string s,xI a]] w (λe w'=>e=.returned (.tuple #[.agg #[.slice none 0 0,.pointer none],.bool false])/\xB w w'):=by
 refine (xy s a w h i g).mono ?_;rintro e w' ⟨b,d⟩;unfold nH at b;rw[j] at b;exact⟨b,d⟩
theorem br.shape (h:br w N c l f):∃x b a,l=xE x c b/\f=xP a/\a<N:=by obtain⟨x,b,d,_⟩:=h.er;obtain⟨a,_,_,_,e,g⟩:=h.nd;exact⟨x,b,a,d,e,g.lo⟩
theorem ji {d:Sc}(s:Xb)(a:Int)(w:Xw)(h:br w N c l f)(q:N<=w.heap.size)(p:c.er.length<=6)(r:c.called s=some d) :
 xK 96 #[.agg #[l,f],.agg #[.string s,xI a]] w (λe w'=>∃x b g,e=.returned (.tuple #[.agg #[xE x d b,xP g],.bool true])/\br w' N d (xE x d b) (xP g)/\xB w w'):=by
 refine (xy s a w h q p).mono ?_;rintro e w' ⟨i,n⟩;unfold nH at i;rw[r] at i;obtain⟨k,t,o,j⟩:=i;obtain⟨x,b,g,rfl,rfl,_⟩:=j.shape;exact⟨x,b,g,o,j,n⟩
end
section
variable {N:Nat} {t:Tm} {g:Tm->Bool} {v:Xv} {w:Xw}
attribute [local go_sem ↓] Go.wp_at_zero Go.wp_at_succ
theorem IY {a:List Tm}{k:Nat}(h:a[k]?=some t):cN g (a.take (k+1))=cN g (a.take k)++bh g t:=by
 induction a generalizing k with
 | nil=>simp at h
 | cons x a b =>
   cases k with
   | zero=>simp at h;subst h;simp[cN]
   | succ k => simp at h;rw[cI,cI,cN,cN,b h,bw]
structure p4 {σ:Type} (N:Nat) (T:Xj) (F:FuncId) (caps:Xa) (Pt:Tm->Value->Prop) (g:Tm->Bool) (ad:σ->Tm->σ) (I:σ->World->Prop):Prop where
 enters:zH F
 hT:∀k,T k->N<=k
 aq:∀s w w',I s w->xB w w'->I s w'
 sub:∀t v u x,Pt t v->u∈t.ts->Pt u x
 call:∀t v s w,TT w N t v->N<=w.heap.size->I s w->Pt t v->xK F (#[v]++caps) w (λe w'=>e=.returned (.bool (g t))/\I (ad s t) w'/\Fr T w w')
theorem TT.ptr (h:TT w N t v):∃b c d,v=xP b/\b<N/\xH w b #[xI t.k,xI t.a,.string t.s,xI t.nm,xI t.n,c] 211/\w.ownsRow 0 157 1 c d.length d/\d.length=t.ts.length/\(∀(i:Nat) (u:Tm) (x:Xv),t.ts[i]?=some u->d[i]?=some x->TT w N u x)/\(∀g,c.ownBlock=some g->g<N):=by
 cases h with
 | mk k a s p n q b c d e j f l m o=>exact⟨b,c,d,rfl,e,j,f,m,o,l⟩
theorem xN {σ:Type}{T:Xj}{F:FuncId}{r:Xa}{a2:Tm->Value->Prop}{ad:σ->Tm->σ}{I:σ->World->Prop}(hV:p4 N T F r a2 g ad I) :
 ∀(t:Tm) (v:Xv) (s:σ) (w:Xw),TT w N t v->N<=w.heap.size->I s w->a2 t v->xK 154 #[v,.func (.func F) #[] r] w (λe w'=>e=.returned (.tuple #[])/\I ((bh g t).foldl ad s) w'/\Fr T w w'):=by
 intro t;induction t using Tm.ind with
 | h G a H n p c bA =>
   intro v s w h hN bo a3;obtain⟨b,d,R,rfl,bp,y,m,P,Q,a0⟩:=h.ptr;have S:=za (hV.call _ _ s w h hN bo a3);have bq:∀(d:Xa) (w:Xw),(callFunc F d).run prog w=.ok (.enter F d) w:=hV.enters;have Y:=za hV;have a5:=za a3;have K:=za Q;have f:=za m;have bB:=za h;have Z:=za bA;have q:=za y;have J:=za a0;obtain⟨h0,h1,h2,h3,h4,h5,hf,hz⟩:=zt y;have bt:w.ownsRow 0 157 1 d R.length R:=m;obtain⟨x,bg,rfl⟩:=zB m;have D:R.length=c.length:=P;rw[D] at h5 f q J;cases U:g (.mk G a H n p c) with
   | false =>
     rw[U] at S;have e:bh g (.mk G a H n p c)=[.mk G a H n p c]:=(by unfold bh;rw[U];simp);rw[e];go_enter func154,ntmps154;go_wp2_with fail;with_reducible refine S.o.mono ?_
     rintro e w1 ⟨rfl,C,l⟩;have A:=za C;have z:=za l;go_wp2_with fail;first|go_end0|refine ab (results_none rfl _ _ _) rfl ?_
     exact⟨rfl,A.o,z.o⟩
   | true =>
     rw[U] at S;have e:bh g (.mk G a H n p c)=.mk G a H n p c::cN g c:=(by unfold bh;rw[ag U]);rw[e];go_enter func154,ntmps154;go_wp2_with fail;with_reducible refine S.o.mono ?_
     rintro e w1 ⟨rfl,C,l⟩;have L:bV N w w1:=l.am hN Y.o.hT;have bv:=l.size;obtain⟨p0,bE,bK,p3,bL,bY,b0,b1⟩:=zt ((L b bp).trans q.o);have a4:=za L;have A:=za C;have z:=za l;go_wp2_with fail;have bl:c.length<=9223372036854775807:=by
      have:=f.o;rcases this.2 with ⟨_,h⟩|⟨g,be,bk,hv,_,_,h3,h4,_⟩
      . omega
      unfold maxLen at h4;omega
     go_loopg [15] (c.length+1) (λj i wr=>∃k:Nat,k+j=c.length+1/\k<=c.length/\i=xI k/\aa (I ((cN g (c.take k)).foldl ad (ad s (.mk G a H n p c))) wr)/\aa (Fr T w wr));case atStart=>exact⟨0,by omega,aE _,rfl,A.o,z.o⟩
     case round =>
      obtain⟨k,bs,bC,rfl,B,o⟩:=hrel;have M:bV N w wr:=o.o.am hN Y.o.hT;have bx:=o.o.size;by_cases a1:k<c.length
      . obtain⟨t,V⟩:∃t,c[k]?=some t:=⟨_,av a1⟩;obtain⟨u,hu⟩:∃u,R[k]?=some u:=⟨_,av (by omega)⟩;have E:wr.ownsRow 0 157 1 (.slice x c.length bg) c.length R:=zi f.o (λj _ _ e=>M j (J.o j e));obtain⟨g',rfl,aV⟩:=nB E hu;have O:=(K.o k t u V hu).am M;obtain⟨bb,_,_,rfl,_⟩:=O.ptr;have aL:=Y.o.sub _ _ t (xP bb) a5.o (aM V);have a9:=za (Z.o t (aM V) _ _ wr O (by omega) B.o aL);have a6:=za (IY (g:=g) V);go_wp2_with (go_at_call 154;refine a9.o.mono ?_;rintro e w2 ⟨rfl,aA,ar⟩;have X:=za aA;have W:=za (o.o.trans ar));go_roundg (gk-1);case measure=>omega
        refine⟨k+1,by omega,by omega,by go_num,?_,W.o⟩;rw[a6.o,bc];exact X.o
      have ek:k=c.length:=(by omega);subst ek;rw[List.take_length] at B;go_wp2_with fail;first|go_end0|refine ab (results_none rfl _ _ _) rfl ?_
      exact⟨rfl,B.o,o.o⟩
theorem TT.T4 (h:TT w N t v):∀{F:Tm},TT w N F v->t=F:=by
 induction h with
 | mk k a s nm n u b G l hN ar Z hg a2 _ aV =>
   intro F U;cases U with
   | mk k' a' s' a1 n' d b x j Y z q aA aL D =>
     have e:=Obj.cells.inj (Option.some.inj (ar.symm.trans z));have p:=e.1;simp only[Array.mk.injEq,List.cons.injEq,Value.int.injEq,Value.string.injEq,true_and,and_true,Int.ofNat_inj] at p;obtain⟨Q,P,S,y,R,f⟩:=p;subst Q P S y R f;have E:l=j:=by
      rcases Z.2 with ⟨r,V⟩|⟨g,L,M,r,_,W,h4,h5,h6,X⟩
      . rcases q.2 with ⟨c,J⟩|⟨T,m,o,c,_⟩
        . have:l.length=0:=V;have:j.length=0:=J;rw[List.eq_nil_of_length_eq_zero ‹l.length=0›,List.eq_nil_of_length_eq_zero ‹j.length=0›]
        rw[r] at c;cases c
      rcases q.2 with ⟨c,J⟩|⟨T,m,o,c,_,K,k4,a3,a4,a0⟩
      . rw[r] at c;cases c
      rw[r] at c;simp only[Value.slice.injEq,Option.some.injEq,Addr.mk.injEq,and_true] at c;obtain⟨rfl,C,rfl⟩:=c;rw[W] at K;have O:=(Obj.cells.inj (Option.some.inj K)).1;subst O;rw[<- X,<- a0,C]
     subst E;have:u=d:=by
      apply List.ext_getElem?;intro i;rcases Nat.lt_or_ge i u.length with hi|hi
      . have p:u[i]?=some u[i]:=av hi;have A:i<d.length:=(by omega);have H:d[i]?=some d[i]:=av A;have B:i<l.length:=(by omega);have I:l[i]?=some l[i]:=av B;rw[p,H];congr 1;exact aV i _ _ p I (D i _ _ H I)
      rw[List.getElem?_eq_none hi,List.getElem?_eq_none (by omega)]
     rw[this]
end
section
variable {c:Xa} {F:FuncId} {N:Nat} {T:Xj} {n:ay} {q:Qn} {d:Tm->Prop} {b:Xv} {w:Xw}
attribute [local go_sem ↓] Go.wp_at_zero Go.wp_at_succ
structure aak (w:Xw) (N:Nat) (q:Qn) (lv b:Xv):Prop where
 own:w.ownsRow 0 78 2 lv q.ns.length (gg q.ns q.ps)
 lo:∀g,lv.ownBlock=some g->g<N
 tt:TT w N q.r b
theorem aak.am {w':Xw}{f:Xv}(h:aak w N q f b)(a:bV N w w'):aak w' N q f b :=
 ⟨zi h.own (λg _ _ e=>a g (h.lo g e)),h.lo,h.tt.am a⟩
theorem j2.at:∀{e:List Qn} {a:Xm},j2 w N e a->∀{k:Nat} {q:Qn},e[k]?=some q->∃f b,a[k*3]?=some f/\a[k*3+1]?=some (xI q.a)/\a[k*3+2]?=some b/\aak w N q f b:=by
 intro e;induction e with
 | nil=>intro a _ k q h;simp at h
 | cons y e x =>
   rintro a ⟨f,v,z,rfl,r,s,t,u⟩ k q g;cases k with
   | zero=>simp at g;subst g;exact⟨f,v,rfl,rfl,rfl,r,s,t⟩
   | succ k =>
     obtain⟨i,j,l,m,o,p⟩:=x u (by simpa using g);refine⟨i,j,?_,?_,?_,p⟩
     . rw[show (k+1)*3=k*3+1+1+1 by omega];simpa using l
     . rw[show (k+1)*3+1=k*3+1+1+1+1 by omega];simpa using m
     rw[show (k+1)*3+2=k*3+2+1+1+1 by omega];simpa using o
theorem lj {n r:Nat}{a:Xp}{l:List Qn}{o:Xm}(h:w.ownsRow 0 159 3 (.slice a n r) n o)(x:j2 w N l o){k:Nat}(m:l[k]?=some q)(A:n=l.length) :
 ∃g e b,a=some (xD g 0)/\w.cell? (xD g (k*3))=some e/\w.cell? (xD g (k*3+1))=some (xI q.a)/\w.cell? (xD g (k*3+2))=some b/\aak w N q e b:=by
 have y:=(aB.1 m).1;obtain⟨g,p,z,_⟩:=zM h (by omega);cases z;obtain⟨e,b,s,t,u,v⟩:=x.at m;have i:=h.cells (g:=g) rfl;have f:∀j,((xD g 0):Addr).add j=⟨g,j,none⟩:=λj=>by cases j <;> simp[Addr.add]
 refine⟨g,e,b,rfl,?_,?_,?_,v⟩
 . have:=i _ _ s;rwa [f] at this
 . have:=i _ _ t;rwa [f] at this
 have:=i _ _ u;rwa [f] at this
def mu (q:Qn)(b:Xv)(t:Tm)(v:Xv):Prop:=(t=q.r/\v=b)∨cc t<cc q.r
theorem mu.sub {t:Tm}{v:Xv}(h:mu q b t v){u:Tm}(x:Xv)(f:u∈t.ts):mu q b u x:=by
 have e:cc u<cc t:=by
  cases t with
  | mk k a s g n i=>have:=mA f;simp only[cc];simp only[Tm.ts] at this;omega
 right;rcases h with ⟨rfl,_⟩|h
 . exact e
 omega
structure nX {σ:Type} (N:Nat) (T:Xj) (F:FuncId) (c:Xa) (d:Tm->Prop) (n:ay) (ad:σ->Qn->Tm->σ) (I:σ->World->Prop):Prop where
 enters:zH F
 hT:∀k,T k->N<=k
 aq:∀s w w',I s w->xB w w'->I s w'
 sub:∀t u,d t->u∈t.ts->d u
 root:∀q∈n.eqs,d q.r
 call:∀q lv b t v s w,q∈n.eqs->aak w N q lv b->TT w N t v->mu q b t v->N<=w.heap.size->I s w->d t->xK F (#[.agg #[lv,xI q.a,b],v]++c) w (λe w'=>e=.returned (.bool true)/\I (ad s q t) w'/\Fr T w w')
theorem J2:zH 155:=λ_ _=>by kernel_rfl
theorem Jb {σ:Type}{ad:σ->Qn->Tm->σ}{I:σ->World->Prop}(g:nX N T F c d n ad I)(q:Qn)(M:q∈n.eqs)(A b:Xv)(k m:Nat)(y:¬T k)(z:¬T m)(K:N<=k) :
 p4 N T 155 #[xP k,xP m] (λt v=>d t/\mu q b t v) b8 (λs t=>ad s q t) (λs w=>I s w/\xH w k #[.func (.func F) #[] c] 214/\xH w m #[A,xI q.a,b] 159/\aak w N q A b) where
 enters:=J2
 hT:=g.hT
 aq:=λs w P h o=>⟨g.aq s w P h.1 o,(o.block _ (ze h.2.1)).trans h.2.1,(o.block _ (ze h.2.2.1)).trans h.2.2.1,h.2.2.2.am (zm o (by have:=ze h.2.1;omega))⟩
 sub:=λt v u x h D=>⟨g.sub t u h.1 D,h.2.sub x D⟩
 call:=by
  intro t v s w hT C J r;obtain⟨l,i,j,B⟩:=J;obtain⟨Q,R,E⟩:=zu i;obtain⟨S,U,V,W,O⟩:=zL j;have G:=g.call q A b t v s w M B hT r.2 C l r.1;have L:∀(f:Xa) (w:Xw),(callFunc F f).run prog w=.ok (.enter F f) w:=g.enters;have H:=E;clear l r hT
  show Calls prog _ #[v,xP k,xP m] w _;go_enter func155,ntmps155;go_wp2_with fail;with_reducible refine G.mono ?_
  rintro e X ⟨rfl,p,a⟩;go_wp2_with fail;go_ret;exact⟨rfl,⟨p,(a.block _ E y).trans i,(a.block _ O z).trans j,B.am (a.am C g.hT)⟩,a⟩
theorem rD {σ:Type}{ad:σ->Qn->Tm->σ}{I:σ->World->Prop}(v:nX N T F c d n ad I)(O:Nat)(vs X:Xv)(xs:Xm)(s:σ)(w:Xw)(o:NT w N n O vs X xs)(hN:N<=w.heap.size)(u:∀k,T k->k<w.heap.size)(M:I s w) :
 xK 99 #[xP O,.func (.func F) #[] c] w (λe P=>e=.returned (.tuple #[])/\I (n.eqs.foldl (λs q=>(bh b8 q.r).foldl (λs t=>ad s q t) s) s) P/\Fr T w P):=by
 obtain⟨h0,h1,h2,Z,L,h5,hf,hz⟩:=zt o.aC;obtain⟨x,a0,rfl⟩:=zB o.own;have G:=v.aq s w (w.alloc (.cells #[.func (.func F) #[] c] 214)) M (zq w _);have Y:n.eqs.length<=9223372036854775807:=by
  rcases o.own.2 with ⟨_,o⟩|⟨g,R,S,hv,_,_,Z,L,_⟩
  . omega
  unfold maxLen at L;omega
 have aL:=o.lo;clear M;go_enter func99,ntmps99;go_wp2_with fail;go_loopg [11] (n.eqs.length+1) (λj i wr=>∃k:Nat,k+j=n.eqs.length+1/\k<=n.eqs.length/\i=xI k/\(I ((n.eqs.take k).foldl (λs q=>(bh b8 q.r).foldl (λs t=>ad s q t) s) s) wr)/\(xH wr w.heap.size #[.func (.func F) #[] c] 214)/\(Fr T w wr));case atStart=>exact⟨0,by omega,aE _,rfl,G,zc w _,(Fr.refl T w).alloc _⟩
 case round =>
  obtain⟨k,aA,ar,rfl,l,p,f⟩:=hrel;have A:bV N w wr:=f.am hN v.hT;have aV:=f.size;have B:=ze p;by_cases J:k<n.eqs.length
  . obtain⟨q,C⟩:∃q,n.eqs[k]?=some q:=⟨_,av J⟩;have m:=o.am A;obtain⟨g,lv,b,rfl,c0,c1,c2,y⟩:=lj m.own m.eqs C rfl;obtain⟨D,_,_,rfl,_⟩:=y.tt.ptr;obtain⟨K,H,rfl⟩:=zB y.own;have h:=Jb v q (aM C) (.slice K q.ns.length H) (xP D) w.heap.size wr.heap.size (λe=>by have:=u _ e;omega) (λe=>by have:=u _ e;omega) (by omega);have a:bV N wr (wr.alloc (.cells #[.slice K q.ns.length H,xI q.a,xP D] 159)):=λk ar=>mm _ _ _ (by omega);have Q:=xN h q.r (xP D) _ (wr.alloc (.cells #[.slice K q.ns.length H,xI q.a,xP D] 159)) (y.tt.am a) (by rw[au];omega) ⟨v.aq _ _ _ l (zq wr _),(mm _ _ _ B).trans p,zc wr _,y.am a⟩ ⟨v.root q (aM C),ao ⟨rfl,rfl⟩⟩;clear m y h a A;go_wp2_with (go_at_call 154;refine Q.mono ?_;rintro e w2 ⟨rfl,r,z⟩;have E:=(((f.alloc _).trans z));clear z);go_roundg (gk-1);case measure=>omega
    refine⟨k+1,by omega,by omega,by go_num,?_,r.2.1,E⟩;obtain⟨U,V⟩:=aB.1 C;rw[List.take_succ_eq_append_getElem U,V,bc];exact r.1
  have W:k=n.eqs.length:=by omega
  subst W;rw[List.take_length] at l;go_wp2_with fail;first|go_end0|refine ab (results_none rfl _ _ _) rfl ?_
  exact⟨rfl,l,f⟩
end
section
variable {a c lb d:Nat} {S:Xs} {f:Xo} {g i:Xv} {w:Xw}
attribute [local go_sem ↓] Go.wp_at_zero Go.wp_at_succ
def gI (S:Xs)(c:Nat):Option Nat->Value
 | none=>.nilIface
 | some p=>.iface 53 (.agg #[aW S c,xI p])
structure Fx (S:Xs) (c lb a d:Nat) (i g:Xv) (f:Xo) (w:Xw):Prop where
 l:w.heap[lb]?=some (.cells #[gI S c f] 39 (0,0))
 b:w.heap[a]?=some (.cells #[xI (f.getD 0:Nat)] 3 (0,0))
 s:w.heap[d]?=some (.cells #[i,aW S c,g] 131 (0,0))
 n1:lb≠a
 n2:lb≠d
 n3:a≠d
def RT (lb a:Nat)(k:Nat):Prop:=k=lb∨k=a
def bT (lb a d:Nat):Value:=.func (.func 117) #[] #[xP lb,xP a,xP d]
theorem Fx.aq {e:Xw}(h:Fx S c lb a d i g f w)(b:xB w e):Fx S c lb a d i g f e :=
 ⟨(b.block _ (ze h.l)).trans h.l,(b.block _ (ze h.b)).trans h.b,(b.block _ (ze h.s)).trans h.s,h.n1,h.n2,h.n3⟩
theorem r2 {b:Nat}{e:Xy}{j:Xv}(h:xH w b #[j] e)(v:Xv):xH (w.setCell (xD b 0) v) b #[v] e:=zh _ _ _ _ h
theorem yd {b:Xw}(h:Fx S c lb a d i g f w)(k:xB w b)(p:Nat) :
 Fx S c lb a d i g (some p) ((b.setCell (xD lb 0) (gI S c (some p))).setCell (xD a 0) (xI p))/\Fr (RT lb a) w ((b.setCell (xD lb 0) (gI S c (some p))).setCell (xD a 0) (xI p)):=by
 have j:=h.aq k;refine⟨⟨(zr h.n1 rfl).trans (r2 j.l _),r2 ((zr (λe=>h.n1 e.symm) rfl).trans j.b) _,(zr (λe=>h.n3 e.symm) rfl).trans ((zr (λe=>h.n2 e.symm) rfl).trans j.s),h.n1,h.n2,h.n3⟩,?_⟩;have l:Fr (RT lb a) w b:=Fr.Mo k;exact (l.setCell (ao (ao rfl)) _).setCell (ao (ap rfl)) _
theorem eg (S:Xs)(c lb a d:Nat)(i g:Xv)(f:Xo)(p:Nat)(w:Xw)(H:Fx S c lb a d i g f w) :
 xK 117 #[xI p,xP lb,xP a,xP d] w (λe v=>e=.returned (.tuple #[])/\Fx S c lb a d i g (aj f p) v/\Fr (RT lb a) w v):=by
 obtain⟨u,F,G⟩:=zu H.l;obtain⟨t,D,E⟩:=zu H.b;obtain⟨J,B,K,L,M⟩:=zL H.s;have I:¬lb=a:=H.n1;have A:¬a=lb:=λe=>H.n1 e.symm;unfold aW at B;cases f with
 | none => have k:aj none p=some p:=rfl;rw[k];unfold gI at u;go_enter func117,ntmps117;go_wp2_with (go_at_call 30;refine (py S c p _).mono ?_;rintro e C ⟨rfl,j⟩;have h:=H.aq j;obtain⟨z,r,s⟩:=zu h.l;obtain⟨y,m,n⟩:=zu h.b;clear h);go_end0;obtain⟨o,q⟩:=yd H j p;exact⟨rfl,o,q⟩
 | some b =>
   unfold gI at u;have x:xC w a 0 (xI (b:Nat)):=t;clear t;by_cases l:p<b
   . have k:aj (some b) p=some p:=(by show (if p<b then some p else some b)=_;rw[ag l]);rw[k];go_enter func117,ntmps117;go_wp2_with (go_at_call 30;refine (py S c p _).mono ?_;rintro e C ⟨rfl,j⟩;have h:=H.aq j;obtain⟨z,r,s⟩:=zu h.l;obtain⟨y,m,n⟩:=zu h.b;clear h);go_end0;obtain⟨o,q⟩:=yd H j p;exact⟨rfl,o,q⟩
   have k:aj (some b) p=some b:=(by show (if p<b then some p else some b)=_;rw[ae l]);rw[k];go_enter func117,ntmps117;go_wp2_with fail;go_end0;exact⟨rfl,H,Fr.refl _ w⟩
theorem rq {N:Nat}{t:Tm}{v:Xv}(w:Xw)(h:TT w N t v) :
 xK 101 #[v] w (λe s=>e=.returned (.bool (NA t.k))/\w=s):=by
 obtain⟨b,l,F,rfl,C,j,_⟩:=h.ptr;obtain⟨u,x,y,z,A,B,D,E⟩:=zt j;clear h;have r:t.k=3∨t.k=7∨t.k=8∨t.k=6∨(t.k≠3/\t.k≠7/\t.k≠8/\t.k≠6):=by omega
 generalize t.k=k at *;rcases r with rfl|rfl|rfl|rfl|⟨m,n,o,p⟩
 . go_enter func101,ntmps101;go_wp2_with fail;go_ret;exact⟨rfl,rfl⟩
 . go_enter func101,ntmps101;go_wp2_with fail;go_ret;exact⟨rfl,rfl⟩
 . go_enter func101,ntmps101;go_wp2_with fail;go_ret;exact⟨rfl,rfl⟩
 . go_enter func101,ntmps101;go_wp2_with fail;go_ret;exact⟨rfl,rfl⟩
 have d1:((k:Int)==3)=false:=by simp;omega
 have d2:((k:Int)==7)=false:=by simp;omega
 have d3:((k:Int)==8)=false:=by simp;omega
 have d4:((k:Int)==6)=false:=by simp;omega
 have q:aa (NA k=false):=by unfold aa NA;simp[m,n,o,p]
 clear m n o p;go_enter func101,ntmps101;go_wp2_with fail;go_ret;exact⟨by rw[q.o];rfl,rfl⟩
end
section
variable {N:Nat} {t:Tm} {v:Xv} {w:Xw}
attribute [local go_sem ↓] Go.wp_at_zero Go.wp_at_succ
theorem zI {B:Nat}{a:Xw}(h:Below B a w)(n:Nat):Below B a (w.drewN n):=⟨h.os,h.tape,h.output,h.size,h.block⟩
theorem Tryz.tD:(prog.info? 211).map (·.size)=some 6:=by kernel_rfl
theorem JL (b:Nat)(w:Xw):(binOp .eql 157 (xP b) (xP b)).run prog w=.ok (.bool true) w:=by
 cases h:prog.info? 211 with
 | none=>have:=Tryz.tD;rw[h] at this;cases this
 | some j=>exact run_eql_ptr_same w _ underlying157 h
theorem IW {b c:Nat}{f g:Xa}{t1 t2:Xy}(d:b≠c)(i:xH w b f t1)(k:xH w c g t2):(binOp .eql 157 (xP b) (xP c)).run prog w=.ok (.bool false) w:=by
 have a:=Tryz.tD;cases h:prog.info? 211 with
 | none=>rw[h] at a;cases a
 | some j =>
   rw[h] at a;have:j.size=6:=by simpa using a
   exact run_eql_ptr_other w underlying157 h (by omega) (by intro e;cases e;exact d rfl) i k
theorem JA {q:Qn}{k g:Xv}(w:Xw)(d:aak w N q k g)(i:TT w N t v)(m:mu q g t v) :
 xK 103 #[.agg #[k,xI q.a,g],v] w (λe p=>e=.returned (xI (hp q t:Nat))/\xB w p):=by
 obtain⟨b,_,_,rfl,_,j,_⟩:=i.ptr;obtain⟨l,_,_,rfl,_,a,_⟩:=d.tt.ptr;obtain⟨x,r,rfl⟩:=zB d.own;by_cases f:b=l
 . subst f;have e:=i.T4 d.tt;have c:aa (hp q t=q.ns.length):=by unfold aa hp;rw[e,ag rfl]
   have n:=JL b;go_enter func103,ntmps103;go_wp2_with fail;go_ret;exact⟨by rw[c.o];rfl,zq _ _⟩
 have c:aa (hp q t=1):=by
  unfold aa hp;rcases m with ⟨_,e⟩|h
  . cases e;exact absurd rfl f
  rw[ae (by omega)]
 have n:=λo=>IW (w:=w.alloc o) f ((mm _ _ _ (ze j)).trans j) ((mm _ _ _ (ze a)).trans a);go_enter func103,ntmps103;go_wp2_with fail;go_ret;exact⟨by rw[c.o];rfl,zq _ _⟩
theorem Jo {c:Sc}{ev nv:Xv}(u:Nat)(w:Xw)(x:br w N c ev nv)(hN:N<=w.heap.size)(Q:c.er.length<=6)(hT:TT w N t v) :
 xK 102 #[.agg #[ev,nv],v,xI u] w (λe l=>e=.returned (.bool (c.fits t u))/\xB w l):=by
 obtain⟨b,a1,vs,rfl,bb,n,P,O,_⟩:=hT.ptr;obtain⟨xa,J,rfl⟩:=zB P;obtain⟨aL,y,Z,rfl,rfl,_⟩:=x.shape;have I:aa (c.fits t u=match c.called t.s with|none=>false|some d=>d.nd.ah==t.ts.length&&d.nd.aG==u):=rfl;have B:vs.length=t.ts.length:=O;have U:=ze n;rw[B] at n;go_enter func102,ntmps102;go_upto_region 1 with fail;refine zn (λW=>(xH W w.heap.size #[xE aL c y,xP Z] 201)/\xB w W) ⟨zc w _,zq w _⟩ ?_;rintro W ⟨a2,H⟩;obtain⟨bg,s1,bk,sz⟩:=zp a2;obtain⟨h0,h1,h2,h3,h4,h5,hf,hz⟩:=zt ((H.block b U).trans n);have hO:=zm H hN;have K:N<=W.heap.size:=by omega
 have L:=x.am (w':=W.drew) hO;have M:=λo=>x.am (w':=(W.alloc o).drew) (hO.trans (λk be=>mm _ _ _ (by omega)));cases g:c.called t.s with
 | none =>
   rw[g] at I;have p:=za (o5 t.s (t.nm:Int) W.drew L K Q g);have q:=za (λo=>o5 t.s (t.nm:Int) (W.alloc o).drew (M o) (by show N<=(W.alloc o).heap.size;simp;omega) Q g)
   go_region_held3 (λl=>l.cell? (xD w.heap.size 0)=some (xE aL c y)/\l.cell? (xD w.heap.size 1)=some (xP Z)/\l.cell? (xD b 2)=some (.string t.s)/\l.cell? (xD b 3)=some (xI t.nm))
    (first|(with_reducible (refine⟨?_,?_,?_,?_⟩ <;> repeat (first|assumption|refine zg ?_|refine zj _ ?_|refine zk (by omega) ?_|refine zd a.o ?_ (by first|omega|(rw[au];omega)))))|go_keep)
    (first
      | (go_at_call 96;refine p.o.mono ?_;rintro e R ⟨rfl,i⟩;have a:=za (zw i))
      | (go_at_call 96;refine (q.o _).mono ?_;rintro e R ⟨rfl,i⟩;have a:=za (zw i);obtain⟨a5,a0,a6,a9⟩:=zp ((a.o.block W.heap.size (by rw[au];omega)).trans (zc W _))))
   . go_wp2_with fail;go_quiet (fail);go_wp2_with fail;go_ret;exact⟨by rw[I.out];rfl,zI ((H.trans (a.o.mono (by omega))).alloc (by have:=a.o.size;omega) _) _⟩
   go_wp2_with fail;go_quiet (fail);go_wp2_with fail;go_ret;exact⟨by rw[I.out];rfl,zI (zC (zC (H.trans ((zE a.o).mono (by omega))) (by omega) _) (by omega) _) _⟩
 | some d =>
   rw[g] at I;have p:=za (ji t.s (t.nm:Int) W.drew L K Q g);have q:=za (λo=>ji t.s (t.nm:Int) (W.alloc o).drew (M o) (by show N<=(W.alloc o).heap.size;simp;omega) Q g)
   go_region_held3 (λl=>l.cell? (xD w.heap.size 0)=some (xE aL c y)/\l.cell? (xD w.heap.size 1)=some (xP Z)/\l.cell? (xD b 2)=some (.string t.s)/\l.cell? (xD b 3)=some (xI t.nm))
    (first|(with_reducible (refine⟨?_,?_,?_,?_⟩ <;> repeat (first|assumption|refine zg ?_|refine zj _ ?_|refine zk (by omega) ?_|refine zd a.o ?_ (by first|omega|(rw[au];omega)))))|go_keep)
    (first
      | (go_at_call 96;refine p.o.mono ?_;rintro e R ⟨x2,S,G,rfl,E,i⟩;have a:=za (zw i);have s:=za E)
      | (go_at_call 96;refine (q.o _).mono ?_;rintro e R ⟨x2,S,G,rfl,E,i⟩;have a:=za (zw i);have s:=za E;obtain⟨a5,a0,a6,a9⟩:=zp ((a.o.block W.heap.size (by rw[au];omega)).trans (zc W _))))
   . go_wp2_with fail;obtain⟨nn,aA,ar,aV,T,m⟩:=s.o.nd;cases T;obtain⟨m0,m1,m2,X,Y,m5,a3,a4⟩:=zt m.aC;have V:=m.lo;have F:=a.o.size;try rw[au] at F
     refine zn (λj=>(j.cell? (xD R.heap.size 1)=some (xP G)/\j.cell? (xD G 3)=some (xI d.nd.ah)/\j.cell? (xD G 4)=some (xI d.nd.aG)/\j.cell? (xD b 5)=some (.slice xa t.ts.length J))/\xB w j) ⟨⟨?_,?_,?_,?_⟩,((H.trans (a.o.mono (by omega))).alloc (by omega) _)⟩ ?_
     . first|(simp;done)|exact xb (xc a0)
     . repeat (first|with_reducible exact X|with_reducible refine zj _ ?_|with_reducible refine zk (by omega) ?_)
     . repeat (first|with_reducible exact Y|with_reducible refine zj _ ?_|with_reducible refine zk (by omega) ?_)
     . repeat (first|with_reducible exact h5|with_reducible refine zj _ ?_|with_reducible refine zk (by omega) ?_|with_reducible refine zd a.o ?_ (by first|omega|(rw[au];omega)))
     rintro j ⟨⟨g0,g1,g2,g3⟩,h⟩;have r:aa (c.fits t u=(d.nd.ah==t.ts.length&&d.nd.aG==u)):=I.out;by_cases z:d.nd.ah=t.ts.length
     . have A:((d.nd.ah:Int)==(t.ts.length:Int))=true:=(by simp[z]);by_cases C:d.nd.aG=u
       . have D:((d.nd.aG:Int)==(u:Int))=true:=(by simp[C]);have f:aa (c.fits t u=true):=(by unfold aa;rw[r.o];simp[z,C]);go_quiet (fail);go_wp2_with fail;go_ret;exact⟨by rw[f.o];rfl,zI h _⟩
       have D:((d.nd.aG:Int)==(u:Int))=false:=(by simp;omega);have f:aa (c.fits t u=false):=(by unfold aa;rw[r.o];simp[C]);go_quiet (fail);go_wp2_with fail;go_ret;exact⟨by rw[f.o];rfl,zI h _⟩
     have A:((d.nd.ah:Int)==(t.ts.length:Int))=false:=(by simp;omega);have f:aa (c.fits t u=false):=(by unfold aa;rw[r.o];simp[z]);go_quiet (fail);go_wp2_with fail;go_ret;exact⟨by rw[f.o];rfl,zI h _⟩
   go_wp2_with fail;obtain⟨nn,aA,ar,aV,T,m⟩:=s.o.nd;cases T;obtain⟨m0,m1,m2,X,Y,m5,a3,a4⟩:=zt m.aC;have V:=m.lo;have F:=a.o.size;try rw[au] at F
   refine zn (λj=>(j.cell? (xD W.heap.size 1)=some (xP G)/\j.cell? (xD G 3)=some (xI d.nd.ah)/\j.cell? (xD G 4)=some (xI d.nd.aG)/\j.cell? (xD b 5)=some (.slice xa t.ts.length J))/\xB w j) ⟨⟨?_,?_,?_,?_⟩,(zC (zC (H.trans ((zE a.o).mono (by omega))) (by omega) _) (by omega) _)⟩ ?_
   . first|(simp;done)|exact xb (xc a0)
   . repeat (first|with_reducible exact X|with_reducible refine zj _ ?_|with_reducible refine zk (by omega) ?_)
   . repeat (first|with_reducible exact Y|with_reducible refine zj _ ?_|with_reducible refine zk (by omega) ?_)
   . repeat (first|with_reducible exact h5|with_reducible refine zj _ ?_|with_reducible refine zk (by omega) ?_|with_reducible refine zd a.o ?_ (by first|omega|(rw[au];omega)))
   rintro j ⟨⟨g0,g1,g2,g3⟩,h⟩;have r:aa (c.fits t u=(d.nd.ah==t.ts.length&&d.nd.aG==u)):=I.out;by_cases z:d.nd.ah=t.ts.length
   . have A:((d.nd.ah:Int)==(t.ts.length:Int))=true:=(by simp[z]);by_cases C:d.nd.aG=u
     . have D:((d.nd.aG:Int)==(u:Int))=true:=(by simp[C]);have f:aa (c.fits t u=true):=(by unfold aa;rw[r.o];simp[z,C]);go_quiet (fail);go_wp2_with fail;go_ret;exact⟨by rw[f.o];rfl,zI h _⟩
     have D:((d.nd.aG:Int)==(u:Int))=false:=(by simp;omega);have f:aa (c.fits t u=false):=(by unfold aa;rw[r.o];simp[C]);go_quiet (fail);go_wp2_with fail;go_ret;exact⟨by rw[f.o];rfl,zI h _⟩
   have A:((d.nd.ah:Int)==(t.ts.length:Int))=false:=(by simp;omega);have f:aa (c.fits t u=false):=(by unfold aa;rw[r.o];simp[z]);go_quiet (fail);go_wp2_with fail;go_ret;exact⟨by rw[f.o];rfl,zI h _⟩
end
end Go.Proofs.YtcnelakggnfnhaaGreatDoor
