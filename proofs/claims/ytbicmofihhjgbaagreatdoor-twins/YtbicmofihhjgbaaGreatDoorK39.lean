/- Part 40 of the proof. -/
import Derived.Test.YtbicmofihhjgbaaGreatDoorK38
set_option maxRecDepth 100000
set_option maxHeartbeats 8000000
namespace Go.Proofs.YtbicmofihhjgbaaGreatDoor
open Go.Proofs.Tryz
open Go.RowKit
section
def R2:ByteArray:=⟨#[110,111,100,101,32,110,40,97,58,32,105,110,116,41,32,45,62,32,40,115,58,32,105,110,116,41,32,123,32,115,32,61,32,115,32,43,32,97,59,32,125]⟩
def TP:ByteArray:=⟨#[110,111,100,101,32,110,40,97,58,105,110,116,41,45,62,40,115,58,105,110,116,41,123,115,61,48,48,55,32,102,98,121,45,97,59,125]⟩
def R5:ByteArray:=⟨#[110,111,100,101,32,110,32,40,32,97,32,58,32,105,110,116,32,41,32,45,62,32,40,32,115,32,58,32,105,110,116,32,41,32,123,32,115,32,61,32,40,32,55,32,102,98,121,32,40,32,45,32,97,32,41,32,41,32,59,32,125,10]⟩
def Q9:ByteArray:=⟨#[110,111,100,101,32,110,40,97,58,32,105,110,116,41,32,45,62,32,40,115,58,32,105,110,116,41,32,123,32,115,32,61,32,97,32,43,32,40,53,32,102,98,121,32,115,41,59,32,125]⟩
def cK:Cd:=⟨[false],1,3,[5],2,[(0,1),(2,2),(1,0),(3,0),(16,0),(2,1),(1,2),(1,1),(4,0)]⟩
theorem YX:RV 20 100 6 Q9 cK=true:=by decide +kernel
theorem R3:Mt cK.al cK.cells.length 0 cK.row=some 0:=by decide +kernel
theorem YY:Qr Q9 cK:=by obtain⟨K,a,b⟩:=XL YX;exact Xx (by decide) (by decide) a b ⟨by decide,by decide,by decide,by decide,by decide⟩ R3
theorem TQ:(M1 cK [5] [1]).cells=[6]/\M5 cK (M1 cK [5] [1])=[6]:=⟨by kernel_rfl,by kernel_rfl⟩
theorem YW:(M1 cK [6] [2]).cells=[8]/\M5 cK (M1 cK [6] [2])=[8]:=⟨by kernel_rfl,by kernel_rfl⟩
theorem TO (w:Xw)(x:Int):Nm (w.alloc (.cells #[xI x] 2)) (xS w.heap.size 1 1) w.heap.size [x]:=by
 refine⟨_,1,rfl,an _,by decide,λ_=>⟨0,rfl,λj y a=>?_⟩⟩
 match j,a with
 | 0,a => cases a;exact (zu (zc w _)).1
theorem fV.aH {m:Ma}{w i:Xw}{g f:Xv}{c:Cd}{a b:List Int}{N:Nat}(h:fV m.mb m.b1 m.b2 w g i f)(d:MM w m g c a b)(e:N<=m.N)(j:N<=w.heap.size):Below N w i:=by
 refine h.fr.below j (λk hk=>?_);rcases hk with rfl|rfl|rfl|hk
 . exact aJ e d.mc.n0
 . exact aJ e d.mc.n1
 . exact aJ e d.mc.n2
 exact aJ e (d.mc.mem.own.lt k hk).1
end
section
variable {W w:Xw}
theorem Sn.on {S:Xs}(h:Sn S w)(b:xB w W):Sn S W:=λi j d e f g c a=>h i j d e f g c (b.trans (a.mono b.size))
theorem fw.on (h:fw w)(b:xB w W):fw W:=(World.cell?_of_block (w:=w) (a:=(xD 7 0)) (b.block _ (World.block_lt_of_cell? w (xD 7 0) h))).trans h
inductive OM:Tm->Prop
 | num (a:Nat) (s:Xb) (nm n:Nat) (hn:n<=9223372036854775807):OM (.mk 0 a s nm n [])
 | var (a:Nat) (s:Xb) (nm n:Nat):OM (.mk 3 a s nm n [])
 | neg (a:Nat) (s:Xb) (nm n:Nat) (x:Tm) (hx:OM x):OM (.mk 10 a s nm n [x])
 | k2 (a:Nat) (s:Xb) (nm n:Nat) (x y:Tm) (hx:OM x) (hy:OM y):OM (.mk 9 a s nm n [x,y])
theorem U9 (S:Xs){t:Tm}(h:OM t):ke S t:=by
 induction h with
 | num a s b n d=>exact Lw (t:=.mk 0 a s b n []) rfl d
 | var a s b n=>exact Lx (t:=.mk 3 a s b n []) rfl
 | neg a s b n x e c => refine Tz (t:=.mk 10 a s b n [x]) (by show 5<=10;omega) (YT (u0:=x) (λu hu=>?_) rfl rfl);rw[cu.1 hu];exact c
 | k2 a s b n x y e g c f =>
   refine Tz (t:=.mk 9 a s b n [x,y]) (by show 5<=9;omega) (LH (u0:=x) (u1:=y) (λu hu=>?_) rfl (by show 9<24;omega) (by show ¬9=5;omega) (by show ¬9=6;omega) (by show ¬9=7;omega) (by show ¬9=8;omega) (by show ¬9=10;omega) (by show ¬9=11;omega));rcases cC.1 hu with rfl|hu
   . exact c
   rw[cu.1 hu];exact f
def Ol:Nat->Tm->Bool
 | 0,_=>false
 | f+1,.mk k _ _ _ n a=>match a with
   | []=>(k==0&&decide (n<=9223372036854775807))||k==3
   | [x]=>k==10&&Ol f x
   | [x,y]=>k==9&&Ol f x&&Ol f y
   | _=>false
theorem QF:∀(f:Nat) (t:Tm),Ol f t=true->OM t
 | 0,_,h=>by rw[Ol] at h;cases h
 | f+1,.mk k a s c n e,h=>by
   match e,h with
   | [],g =>
     simp only[Ol,Bool.or_eq_true,Bool.and_eq_true,beq_iff_eq,decide_eq_true_eq] at g;rcases g with ⟨rfl,b⟩|rfl
     . exact .num a s c n b
     exact .var a s c n
   | [x],g => simp only[Ol,Bool.and_eq_true,beq_iff_eq] at g;obtain⟨rfl,b⟩:=g;exact .neg a s c n _ (QF f _ b)
   | [x,y],g => simp only[Ol,Bool.and_eq_true,beq_iff_eq] at g;obtain⟨⟨rfl,b⟩,d⟩:=g;exact .k2 a s c n _ _ (QF f _ b) (QF f _ d)
   | x::y::z::l,g=>simp[Ol] at g
def Ri (a:List ay):Bool:=a.all λn=>decide ((ez n).length<=1000)&&n.ak.all (λv=>ba v==0)&&n.eqs.all λq=>q.ns.length==1&&Ol 9 q.r
theorem UV (S:Xs){src:Xb}{P:List ay->Bool}{T:Xb}(h:lQ src P=true)(z:∀a,P a=true->dU a=T.data.toList/\Ri a=true)(E:T.data.toList.length<=1000)(w:Xw)(i:Kn S w) :
 xK 11 #[.string src] w (λe D=>e=.returned (.tuple #[.string T,xI 0,xI 0])/\xB w D):=by
 obtain⟨p,r,c,d,B,y,f,g⟩:=pE;obtain⟨s,j,F,l,x⟩:=vr h;rw[<- c,<- d] at j l;obtain⟨R,m⟩:∃R,dm p r 1300 src=R:=⟨_,rfl⟩;rw[m] at j l;obtain⟨f1,f2,a,f3,f4,_⟩:=oH c d f g s m j;have:=yF f3 l;subst this;obtain⟨t,u⟩:=z _ x;have A:(⟨(dU a).toArray⟩:Xb)=T:=by rw[t]
 have k:∀n∈a,((ez n).length<=1000/\∀v∈n.ak,ba v=0)/\∀q∈n.eqs,q.ns.length=1/\Ol 9 q.r=true:=by unfold Ri at u;simpa only[List.all_eq_true,Bool.and_eq_true,decide_eq_true_eq,beq_iff_eq] using u
 rw[<- A];refine BU S src a f4 (λn b=>⟨λv C=>EY v ((k n b).1.2 v C),λq o=>EH q ((f4 n b).eqs q o).1 ((k n b).2 q o).1 (U9 S (QF 9 q.r ((k n b).2 q o).2))⟩) (λn b=>aJ (k n b).1.1 (by decide)) (by rw[t];omega) w i (uI B y f g S src R m s j f2 a f3 w i.gl)
theorem VB:lQ R2 (λa=>decide (dh a=some (8,5)))=true:=by decide +kernel
theorem VC:lQ TP (λa=>decide (dU a=R5.data.toList)&&Ri a)=true:=by decide +kernel
theorem UW (S:Xs)(w:Xw)(k:Kn S w)(C:Sn S w)(G:fw w)(x:M9 w)(F:Nq w) :
 xK 12 #[] w (λe K=>e=.returned (.bool true)/\xB w K):=by
 have y:=za (Rm S R2 8 5 (uJ (o:=some (8,5)) VB (λH h=>of_decide_eq_true h)) w k.gl C G);have B:=za (λW (b:xB w W)=>UV S VC (T:=R5) (λH h=>by simp only[Bool.and_eq_true,decide_eq_true_eq] at h;exact h) (by decide +kernel) W (k.bl b));have A:=za (λW (b:xB w W)=>V1 S Q9 cK YY W (k.bl b).gl (x.am (zm b (an _)) k.gl.size) (F.am (zm b (an _)) k.gl.size));have z:aa (∀W,xB w W->Gl S W):=λW b=>(k.bl b).gl;unfold R2 at y;unfold TP R5 at B;unfold Q9 at A;go_enter func12,ntmps12
 go_upto_region 6 with (first
  | (go_at_call 14;revert c;intro c;refine (A.o _ c.o).mono ?_;rintro e N ⟨m,p,rfl,a,E,s⟩;have d:=za (c.o.trans (s.mono c.o.size));have n:w.heap.size<=m.N:=aJ c.o.size E)
  | (go_at_call 11;refine (B.o _ j.o).mono ?_;rintro e M ⟨rfl,b⟩;have c:=za (j.o.trans (b.mono j.o.size)))
  | (go_at_call 10;refine y.o.mono ?_;rintro e L ⟨rfl,b⟩;have j:=za b))
 have l:=za (λ(W:Xw) (b:xB w W) (a:MM W m p cK [5] (List.replicate cK.al 0))=>(Ty S m p cK [5] (List.replicate cK.al 0) (W.alloc (.cells #[xI 1] 2)) (xS W.heap.size 1 1) W.heap.size [1] 6 (z.o _ (b.alloc b.size _)) (a.aq ((Below.refl _ W).alloc (an _) _)) (TO W 1) (λ_ e=>by have:=ze a.mc.mem.sl;omega) (by decide) R3 rfl TQ.2));rw[TQ.1] at l;have r:=za (λ(W:Xw) (p:Xv) (g:List Int) (b:xB w W) (a:MM W m p cK [6] g)=>(Ty S m p cK [6] g (W.alloc (.cells #[xI 2] 2)) (xS W.heap.size 1 1) W.heap.size [2] 8 (z.o _ (b.alloc b.size _)) (a.aq ((Below.refl _ W).alloc (an _) _)) (TO W 2) (λ_ e=>by have:=ze a.mc.mem.sl;omega) (by decide) R3 rfl YW.2))
 go_wp2_with (first
  | (go_at_call 17;revert i;intro i;refine (r.o _ _ _ f.o i.o).mono ?_;rintro e P ⟨J,rfl,D,u⟩;have q:=za ((f.o.alloc f.o.size _).trans (u.aH (i.o.aq ((Below.refl _ _).alloc (an _) _)) n (f.o.alloc f.o.size _).size)))
  | (go_at_call 17;refine (l.o _ d.o a).mono ?_;rintro e O ⟨I,rfl,v,t⟩;have i:=za v;have f:=za ((d.o.alloc d.o.size _).trans (t.aH (a.aq ((Below.refl _ _).alloc (an _) _)) n (d.o.alloc d.o.size _).size))))
 go_ret;exact⟨rfl,q.o⟩
end
section
theorem R1 (S:Xs)(m:Ma)(E:Xv)(c:Cd)(k n:List Int)(w:Xw)(v:Xv)(g:Nat)(l:List Int)(s:Gl S w)(x:Sn S w)(t:fw w)(h:MM w m E c k n)(y:Nm w v g l)(z:(Nk c.dn l).isSome=true) :
 xK 21 #[xP m.M,v] w (λe F=>e=.returned (.tuple #[.slice none 0 0,xI 11])/\xB w F):=by
 have o:=za (YJ S m.N m.mb m.cb _ _ _ m.bv m.cv m.rv c w v g l s h.mc.mem.aC h.mc.code y z);obtain⟨G,H,I⟩:=zu h.aC;have d:=za (λp W (b:xB w W)=>y0 S Q6 11 p W (by decide) (by decide) (s.of (T:=λ_=>False) (Fr.Mo b) (λ_ e=>e.elim)) (λi j A B C D u r=>x i j A B C D u (b.trans (r.mono b.size))) ((World.cell?_of_block (w:=w) (a:=(xD 7 0)) (b.block _ (World.block_lt_of_cell? w (xD 7 0) t))).trans t));unfold fN at d;unfold ew at o d;go_enter func21,ntmps21
 go_wp2_with (first
  | (go_at_call 27;refine (d.o _ _ f.o).mono ?_;rintro e K ⟨rfl,b⟩;have q:=za b)
  | (go_at_call 33;refine o.o.mono ?_;rintro e J ⟨p,rfl,b⟩;have f:=za b))
 exact bodyPost_ret (v:=.tuple #[.slice none 0 0,xI 11]) (by simp[results,results21,go_sem]) rfl ⟨rfl,f.o.trans (q.o.mono f.o.size)⟩
structure Ar (w:Xw) (N:Nat) (v:Xv) (l:List Int):Prop where
 ex:∃a c,v=.slice a l.length c/\l.length<=9223372036854775807/\(l≠[]->∃g o,a=some (xD g o)/\g<N/\∀j x,l[j]?=some x->w.cell? (xD g (o+j))=some (xI x))
 wf:∀x∈l,-9223372036854775808<=x/\x<=9223372036854775807
theorem Ar.fr {w d:Xw}{N:Nat}{v:Xv}{l:List Int}(h:Ar w N v l)(q:bV N w d):Ar d N v l:=by obtain⟨a,c,i,k,m⟩:=h.ex;refine⟨⟨a,c,i,k,λp=>?_⟩,h.wf⟩;obtain⟨g,o,e,b,f⟩:=m p;exact⟨g,o,e,b,λj x n=>(World.cell?_of_block (w:=w) (q g b)).trans (f j x n)⟩
theorem Tw {f:Array Oper}{b:List Oper}{o:Oper}{a:Act}{Q:Exit->Act->World->Prop}(W:Xw)(n:o.guard=none)(s x:Operand)(C:o.op=.call { callee:=.builtin .append,args:=#[s,x],argTypes:=#[32,32] })
 (B:Nat) (l:Xp) (i k:Nat) (u:Xm) (y:Int) (D:a.eval s=.slice l k i) (e:W.ownsRow B 2 1 (.slice l k i) k u) (E:a.eval x=xS W.heap.size 1 1) (G:k+1<=maxLen) (m:(k+1)*8<=140737488355328) (I:B<=W.heap.size)
 (h:∀g c t,t.ownsRow B 2 1 (xS g (k+1) c) (k+1) (u++[xI y])->Fr (λj=>(Value.slice l k i).ownBlock=some j) (W.alloc (.cells #[xI y] 2)) t->wpList prog f Q b (a.put o.dst (xS g (k+1) c)) t) :
 wpList prog f Q (o::b) a (W.alloc (.cells #[xI y] 2)):=by
 obtain⟨F,A,p,q,r⟩:=info_parts Tryz.Pz;refine o4 _ n s x 32 C B 2 F _ 1 8 underlying32 A p q r rfl (by decide) (.slice l k i) k u D (zD e _) (xD W.heap.size 0) 1 1 [xI y] E rfl (zN (zc W _) rfl) Tv G m (by simp;omega) ?_;intro J H v z _;obtain⟨w,d,rfl,_⟩:=zM v (by omega);exact h w d H v (Fr.gi z)
end
end Go.Proofs.YtbicmofihhjgbaaGreatDoor
