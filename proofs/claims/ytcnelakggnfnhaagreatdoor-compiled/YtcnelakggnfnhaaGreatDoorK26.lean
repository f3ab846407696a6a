/- Part 27. -/
import Derived.Test.YtcnelakggnfnhaaGreatDoorK25
set_option maxRecDepth 100000
set_option maxHeartbeats 8000000
namespace Go.Proofs.YtcnelakggnfnhaaGreatDoor
open Go.Proofs.Tryz
open Go.RowKit
section
variable {w:Xw}
def Ev (l:Xn)(b a:Nat)(s:Ir):(Nat×Int)×Ir :=
 let o:=vv l 21 s
 if o.2.er=none then
  (if (zY.getD o.1 (0,0,0)).1=1 then ((o.1,(MP l o.2).1),(MP l o.2).2)
   else if (zY.getD o.1 (0,0,0)).1=2 then ((o.1,((vv l b o.2).1:Nat)),(vv l b o.2).2)
   else if (zY.getD o.1 (0,0,0)).1=3 then ((o.1,((vv l a o.2).1:Nat)),(vv l a o.2).2)
   else ((o.1,0),o.2))
 else ((0,0),o.2)
theorem Tb (s:Ir):s.fail.er≠none:=by
 unfold Ir.fail;split
 . simp
 assumption
theorem Qi {l:Xn}{bd:Nat}{s:Ir}(h:(vv l bd s).2.er=none):(vv l bd s).1<bd:=by
 unfold vv MT at *;simp only at *;split at h
 . rename_i a;simpa using a
 exact absurd h (Tb _)
theorem S6 (k:Nat)(s:Nat×Nat×Nat)(h:zY[k]?=some s):s.1=0∨s.1=1∨s.1=2∨s.1=3:=by
 have a:=aM h;have:∀s∈zY,s.1=0∨s.1=1∨s.1=2∨s.1=3:=by decide
 exact this s a
theorem UI.Un {B c:Nat}{b a e:Xv}{K:Cd}(h:UI B c b a e K w):∃x d,a=.slice x K.cells.length d:=kE h.hQ
theorem OH {T:Xj}{a:Xw}{b i:Nat}{u:Xv}(hF:Fr T w a)(h:w.cell? (xD b i)=some u)(d:b<w.heap.size)(c:¬T b):a.cell? (xD b i)=some u:=(Z6 (w:=w) (hF.block b d c)).trans h
theorem VG (S:Xs)(i O B:Nat)(v:Xv)(g:Nat)(l:Xn)(s:Ir)(K:Cd)(w:Xw)(h:RL S w i v g l s)(hU:UC B O K w)(bx:i<O)(bv:K.al<=1000000)(bt:K.cells.length<=1000000) :
 xK 148 #[xP i,xP O] w (λe w'=>e=.returned (.agg #[.int .u8 ((Ev l K.al K.cells.length s).1.1:Nat),.int .i64 (Ev l K.al K.cells.length s).1.2])/\RL S w' i v g l (Ev l K.al K.cells.length s).2/\Fr (·=i) w w'):=by
 obtain⟨bE,cv,rv,bg⟩:=hU;obtain⟨bL,bq,rfl⟩:=bg.Un;obtain⟨m0,m1,m2,m3,m4,m5,bK,P⟩:=zt bg.aC;have r:=h.gl.size;have Q:=(λo:Obj=>Qe S i v g l s 21 (by decide) (w.alloc o) (h.below ((yS _ w).alloc (an _) o)));have hy:=QN l 21 s h.fq.lt;have G:=ze h.aC;have bp:∀x∈l,x<256:=h.fq.lt;have aL:=(λbs=>h.fq.Bd bs);obtain⟨R,m⟩:∃R,R=Ev l K.al K.cells.length s:=⟨_,rfl⟩;rw[<- m];have M:=λh=>Qi (l:=l) (bd:=21) (s:=s) h;unfold Ev at m;rcases hO:vv l 21 s with ⟨n,t⟩;rw[hO] at Q hy m M;simp only at Q hy m M;have bo:¬O=i:=by omega
 obtain⟨p,er⟩:=t;clear h hO m0 m1 m4 m5;cases er with
 | some q => rw[ae (by simp)] at m;subst m;go_enter func148,ntmps148;go_wp2_with (go_at_call 147;refine (Q _).mono ?_;rintro e a ⟨rfl,d,b⟩;obtain⟨a2,a3,D,a4,a5⟩:=zL d.aC;unfold Nb at D;simp only at D;have j:=(b.block w.heap.size (by simp) (by omega)).trans (zc w _);obtain⟨b0,b1,a6,a9⟩:=zp j;have A:=d;have u:=(((Fr.refl (·=i) w).alloc _).trans b);clear d b);obtain⟨W,f⟩:∃W,W=(a.setCell (xD w.heap.size 0) (.int .u8 0)).setCell (xD w.heap.size 1) (xI 0):=⟨_,rfl⟩;rw[<- f];have J:W.cell? (xD w.heap.size 0)=some (.int .u8 0):=(by rw[f];exact PJ (by decide) (xb ⟨_,b0⟩));have L:W.cell? (xD w.heap.size 1)=some (xI 0):=(by rw[f];exact xb (xc b1));have hF:Fr (·=i) w W:=(by rw[f];exact (u.aO (an _) _ _).aO (an _) _ _);have m:RL S W i v g l ⟨p,some q⟩:=(by rw[f];exact A.code (((Fr.refl (λk=>w.heap.size<=k) a).setCell (ao (an _)) _).setCell (ao (an _)) _) G aL r);exact ab (v:=.agg #[.int .u8 0,xI 0]) (by simp[results,results148,go_sem,J,L]) rfl ⟨rfl,m,hF⟩
 | none =>
   rw[ag rfl] at m;have bb:=M rfl;obtain⟨Z,N⟩:∃Z,zY[n]?=some Z:=⟨_,av (show n<zY.length from bb)⟩;have aV:(zY.getD n (0,0,0)).1=Z.1:=(by rw[List.getD_eq_getElem?_getD,N];rfl);rw[aV] at m;have h3:=S6 n Z N;have a0:∀a,Nq a->xC a 11 (n*3) (xI (Z.1:Nat)):=λa d=>d.a n Z N;have F:=a0;have bA:11<w.heap.size:=dD (show 11<21 by decide) r;obtain⟨c,bC⟩:=Z;simp only at h3 F m;have bB:IntKind.u8.wrap (n:Int)=(n:Int):=(by rw[IntKind.wrap_u8];omega);clear N aV a0 M;rcases h3 with rfl|rfl|rfl|rfl
   . simp only[ae (show ¬(0:Nat)=1 by decide),ae (show ¬(0:Nat)=2 by decide),ae (show ¬(0:Nat)=3 by decide)] at m;subst m;go_enter func148,ntmps148;go_wp2_with (go_at_call 147;refine (Q _).mono ?_;rintro e a ⟨rfl,d,b⟩;obtain⟨a2,a3,D,a4,a5⟩:=zL d.aC;unfold Nb at D;simp only at D;have Y:w.heap.size+1<=a.heap.size:=(by have:=b.size;simp at this;omega);have H:11<a.heap.size:=(by omega);have T:O<a.heap.size:=(by omega);have j:=(b.block w.heap.size (by simp) (by omega)).trans (zc w _);obtain⟨b0,b1,a6,a9⟩:=zp j;have be:=F a d.Oj;have A:=d;have u:=(((Fr.refl (·=i) w).alloc _).trans b);have U:=OH u m2 P (by omega);have V:=OH u m3 P (by omega);clear d b);obtain⟨W,f⟩:∃W,W=((a.setCell (xD w.heap.size 0) (.int .u8 (n:Nat))).setCell (xD w.heap.size 1) (xI 0)).alloc (.cells #[.int .u8 (n:Nat),xI 0] 65):=⟨_,rfl⟩;rw[<- f];have J:W.cell? (xD w.heap.size 0)=some (.int .u8 (n:Nat)):=(by rw[f];exact zj _ (PJ (by decide) (xb ⟨_,b0⟩)));have L:W.cell? (xD w.heap.size 1)=some (xI 0):=(by rw[f];exact zj _ (xb (xc b1)));have hF:Fr (·=i) w W:=(by rw[f];exact ((u.aO (an _) _ _).aO (an _) _ _).alloc _);have C:RL S W i v g l ⟨p,none⟩:=(by rw[f];exact A.code ((((Fr.refl (λk=>w.heap.size<=k) a).setCell (ao (an _)) _).setCell (ao (an _)) _).alloc _) G aL r);exact ab (v:=.agg #[.int .u8 (n:Nat),xI 0]) (by simp[results,results148,go_sem,J,L]) rfl ⟨rfl,C,hF⟩
   . simp only[if_true] at m;have E:=(λa (d:RL S a i v g l ⟨p,none⟩)=>Ry S i v g l ⟨p,none⟩ a d);rcases hN:MP l ⟨p,none⟩ with ⟨X,t2⟩;rw[hN] at E m;subst m;simp only at E;clear hN;go_enter func148,ntmps148
     go_wp2_with (first
      | (go_at_call 145;revert A;intro A;refine (E _ (A.below (zq _ _))).mono ?_;rintro e I ⟨rfl,d,b⟩;have a1:a.heap.size+1<=I.heap.size:=(by have:=b.size;simp at this;omega);have y:=(b.block w.heap.size (by simp;omega) (by omega)).trans ((mm _ _ _ (by omega)).trans j);obtain⟨c0,c1,bk,cz⟩:=zp y;have z:=(b.block a.heap.size (by simp) (by omega)).trans (zc a _);obtain⟨d0,d1,bl,dz⟩:=zp z;have ar:=d;have aA:=((u.alloc _).trans b);clear d b y z)
      | (go_at_call 147;refine (Q _).mono ?_;rintro e a ⟨rfl,d,b⟩;obtain⟨a2,a3,D,a4,a5⟩:=zL d.aC;unfold Nb at D;simp only at D;have Y:w.heap.size+1<=a.heap.size:=(by have:=b.size;simp at this;omega);have H:11<a.heap.size:=(by omega);have T:O<a.heap.size:=(by omega);have j:=(b.block w.heap.size (by simp) (by omega)).trans (zc w _);obtain⟨b0,b1,a6,a9⟩:=zp j;have be:=F a d.Oj;have A:=d;have u:=(((Fr.refl (·=i) w).alloc _).trans b);have U:=OH u m2 P (by omega);have V:=OH u m3 P (by omega);clear d b))
     obtain⟨W,f⟩:∃W,W=((I.setCell (xD a.heap.size 1) (xI X)).setCell (xD w.heap.size 0) (.int .u8 (n:Nat))).setCell (xD w.heap.size 1) (xI X):=⟨_,rfl⟩;rw[<- f];have J:W.cell? (xD w.heap.size 0)=some (.int .u8 (n:Nat)):=(by rw[f];exact PJ (by decide) (xb ⟨_,zk (by omega) c0⟩));have L:W.cell? (xD w.heap.size 1)=some (xI X):=(by rw[f];exact xb (xc (zk (by omega) c1)));have hF:Fr (·=i) w W:=(by rw[f];exact ((aA.aO (by omega) _ _).aO (an _) _ _).aO (an _) _ _);have C:RL S W i v g l t2:=(by rw[f];exact ar.code ((((Fr.refl (λk=>w.heap.size<=k) I).setCell (ao (show w.heap.size<=a.heap.size by omega)) _).setCell (ao (an _)) _).setCell (ao (an _)) _) G aL r);exact ab (v:=.agg #[.int .u8 (n:Nat),xI X]) (by simp[results,results148,go_sem,J,L]) rfl ⟨rfl,C,hF⟩
   . simp only[ae (show ¬(2:Nat)=1 by decide),if_true] at m;have E:=(λa (d:RL S a i v g l ⟨p,none⟩)=>Qe S i v g l ⟨p,none⟩ K.al (by omega) a d);rcases hN:vv l K.al ⟨p,none⟩ with ⟨X,t2⟩;rw[hN] at E m;subst m;simp only at E;clear hN;go_enter func148,ntmps148
     go_wp2_with (first
      | (go_at_call 147;revert A;intro A;refine (E _ (A.below (zq _ _))).mono ?_;rintro e I ⟨rfl,d,b⟩;have a1:a.heap.size+1<=I.heap.size:=(by have:=b.size;simp at this;omega);have y:=(b.block w.heap.size (by simp;omega) (by omega)).trans ((mm _ _ _ (by omega)).trans j);obtain⟨c0,c1,bk,cz⟩:=zp y;have z:=(b.block a.heap.size (by simp) (by omega)).trans (zc a _);obtain⟨d0,d1,bl,dz⟩:=zp z;have ar:=d;have aA:=((u.alloc _).trans b);clear d b y z)
      | (go_at_call 147;refine (Q _).mono ?_;rintro e a ⟨rfl,d,b⟩;obtain⟨a2,a3,D,a4,a5⟩:=zL d.aC;unfold Nb at D;simp only at D;have Y:w.heap.size+1<=a.heap.size:=(by have:=b.size;simp at this;omega);have H:11<a.heap.size:=(by omega);have T:O<a.heap.size:=(by omega);have j:=(b.block w.heap.size (by simp) (by omega)).trans (zc w _);obtain⟨b0,b1,a6,a9⟩:=zp j;have be:=F a d.Oj;have A:=d;have u:=(((Fr.refl (·=i) w).alloc _).trans b);have U:=OH u m2 P (by omega);have V:=OH u m3 P (by omega);clear d b))
     obtain⟨W,f⟩:∃W,W=((I.setCell (xD a.heap.size 1) (xI (X:Nat))).setCell (xD w.heap.size 0) (.int .u8 (n:Nat))).setCell (xD w.heap.size 1) (xI (X:Nat)):=⟨_,rfl⟩;rw[<- f];have J:W.cell? (xD w.heap.size 0)=some (.int .u8 (n:Nat)):=(by rw[f];exact PJ (by decide) (xb ⟨_,zk (by omega) c0⟩));have L:W.cell? (xD w.heap.size 1)=some (xI (X:Nat)):=(by rw[f];exact xb (xc (zk (by omega) c1)));have hF:Fr (·=i) w W:=(by rw[f];exact ((aA.aO (by omega) _ _).aO (an _) _ _).aO (an _) _ _);have C:RL S W i v g l t2:=(by rw[f];exact ar.code ((((Fr.refl (λk=>w.heap.size<=k) I).setCell (ao (show w.heap.size<=a.heap.size by omega)) _).setCell (ao (an _)) _).setCell (ao (an _)) _) G aL r);exact ab (v:=.agg #[.int .u8 (n:Nat),xI (X:Nat)]) (by simp[results,results148,go_sem,J,L]) rfl ⟨rfl,C,hF⟩
   simp only[ae (show ¬(3:Nat)=1 by decide),ae (show ¬(3:Nat)=2 by decide),if_true] at m;have E:=(λa (d:RL S a i v g l ⟨p,none⟩)=>Qe S i v g l ⟨p,none⟩ K.cells.length (by omega) a d);rcases hN:vv l K.cells.length ⟨p,none⟩ with ⟨X,t2⟩;rw[hN] at E m;subst m;simp only at E;clear hN;go_enter func148,ntmps148
   go_wp2_with (first
    | (go_at_call 147;revert A;intro A;refine (E _ (A.below (zq _ _))).mono ?_;rintro e I ⟨rfl,d,b⟩;have a1:a.heap.size+1<=I.heap.size:=(by have:=b.size;simp at this;omega);have y:=(b.block w.heap.size (by simp;omega) (by omega)).trans ((mm _ _ _ (by omega)).trans j);obtain⟨c0,c1,bk,cz⟩:=zp y;have z:=(b.block a.heap.size (by simp) (by omega)).trans (zc a _);obtain⟨d0,d1,bl,dz⟩:=zp z;have ar:=d;have aA:=((u.alloc _).trans b);clear d b y z)
    | (go_at_call 147;refine (Q _).mono ?_;rintro e a ⟨rfl,d,b⟩;obtain⟨a2,a3,D,a4,a5⟩:=zL d.aC;unfold Nb at D;simp only at D;have Y:w.heap.size+1<=a.heap.size:=(by have:=b.size;simp at this;omega);have H:11<a.heap.size:=(by omega);have T:O<a.heap.size:=(by omega);have j:=(b.block w.heap.size (by simp) (by omega)).trans (zc w _);obtain⟨b0,b1,a6,a9⟩:=zp j;have be:=F a d.Oj;have A:=d;have u:=(((Fr.refl (·=i) w).alloc _).trans b);have U:=OH u m2 P (by omega);have V:=OH u m3 P (by omega);clear d b))
   obtain⟨W,f⟩:∃W,W=((I.setCell (xD a.heap.size 1) (xI (X:Nat))).setCell (xD w.heap.size 0) (.int .u8 (n:Nat))).setCell (xD w.heap.size 1) (xI (X:Nat)):=⟨_,rfl⟩;rw[<- f];have J:W.cell? (xD w.heap.size 0)=some (.int .u8 (n:Nat)):=(by rw[f];exact PJ (by decide) (xb ⟨_,zk (by omega) c0⟩));have L:W.cell? (xD w.heap.size 1)=some (xI (X:Nat)):=(by rw[f];exact xb (xc (zk (by omega) c1)));have hF:Fr (·=i) w W:=(by rw[f];exact ((aA.aO (by omega) _ _).aO (an _) _ _).aO (an _) _ _);have C:RL S W i v g l t2:=(by rw[f];exact ar.code ((((Fr.refl (λk=>w.heap.size<=k) I).setCell (ao (show w.heap.size<=a.heap.size by omega)) _).setCell (ao (an _)) _).setCell (ao (an _)) _) G aL r);exact ab (v:=.agg #[.int .u8 (n:Nat),xI (X:Nat)]) (by simp[results,results148,go_sem,J,L]) rfl ⟨rfl,C,hF⟩
end
section
structure Np where
 s:Ir
 dp:Int
 mx:Nat
 row:List (Nat×Int)
def Ns (l:Xn)(x:Np):Bool:=decide (x.s.er=none/\(x.s.at'<l.length∨0<x.dp))
def Nw (l:Xn)(c b:Nat)(x:Np):Np :=
 let i:=Ev l c b x.s
 let a:=zY.getD i.1.1 (0,0,0)
 ⟨MT (decide (0<=x.dp-a.2.1)) i.2,x.dp-a.2.1+a.2.2,max x.mx (x.dp-a.2.1+a.2.2).toNat,x.row++[i.1]⟩
def MX (l:Xn)(b a:Nat):Nat->Np->Np
 | 0,x=>x
 | f+1,x=>if Ns l x=true then MX l b a f (Nw l b a x) else x
theorem RF (l:Xn)(s:Ir):(s.er≠none->(zG l s).2=s)/\(s.er=none->(zG l s).2.er≠none∨((zG l s).2.er=none/\(zG l s).2.at'=s.at'+1/\s.at'<l.length))/\s.at'<=(zG l s).2.at':=by
 unfold zG;by_cases h:s.er=none
 . rw[ag h];by_cases b:l.length<=s.at'
   . rw[ag b];exact⟨λa=>absurd h a,λ_=>ao (by simp),an _⟩
   rw[ae b];exact⟨λa=>absurd h a,λ_=>ap ⟨h,rfl,by omega⟩,Nat.le_succ _⟩
 rw[ae h];exact⟨λ_=>rfl,λa=>absurd a h,an _⟩
theorem PQ (b:Bool)(s:Ir):(MT b s).at'=s.at':=by unfold MT;split;rfl;exact s.T5
theorem Pn (b:Bool)(s:Ir):(MT b s).er=none->s.er=none/\b=true:=by
 unfold MT;split
 . rename_i h;exact λa=>⟨a,h⟩
 exact λa=>absurd a (Tb s)
theorem RD (l:Xn)(a:Nat)(s:Ir):s.at'<=(vv l a s).2.at'/\(s.er=none->(vv l a s).2.er=none->s.at'+1<=(vv l a s).2.at'):=by
 unfold vv;simp only[PQ];obtain⟨f,c,d⟩:=RF l s;refine⟨d,λh e=>?_⟩;have:=(Pn _ _ e).1;rcases c h with b|⟨_,b,_⟩
 . exact absurd this b
 omega
theorem WD (l:Xn)(n:Nat):∀s,s.at'<=(NB l n s).2.at':=by
 induction n with
 | zero=>intro s;exact an _
 | succ n a=>intro s;exact aJ (RF l s).2.2 (a _)
theorem Tn (l:Xn)(d c:Nat)(s:Ir)(f:s.er=none)(h:(Ev l d c s).2.er=none):s.at'+1<=(Ev l d c s).2.at':=by
 unfold Ev at *;simp only at *;obtain⟨g,e⟩:=RD l 21 s;by_cases b:(vv l 21 s).2.er=none
 . rw[ag b] at *;have a:=e f b;split
   . exact aJ a (WD l 8 _)
   split
   . exact aJ a (RD l _ _).1
   split
   . exact aJ a (RD l _ _).1
   exact a
 rw[ae b] at *;exact absurd h b
theorem Ts (l:Xn)(c b:Nat)(s:Ir):(Ev l c b s).1.1<21:=by
 unfold Ev;simp only;by_cases a:(vv l 21 s).2.er=none
 . rw[ag a];have:=Qi a;split
   . exact this
   split
   . exact this
   split
   . exact this
   exact this
 rw[ae a];exact Nat.succ_pos 20
theorem SZ (k:Nat)(s:Nat×Nat×Nat)(h:zY[k]?=some s):s.2.1<=3/\s.2.2<=1:=by
 have a:=aM h;have:∀s∈zY,s.2.1<=3/\s.2.2<=1:=by decide
 exact this s a
def Pp (l:Xn)(x:Np):Nat:=if x.s.er=none then l.length-x.s.at'+1 else 0
structure Qx (x:Np):Prop where
 lo:-3<=x.dp
 hi:x.dp<=x.row.length
 ok:x.s.er=none->0<=x.dp
 mx:x.mx<=x.row.length
theorem Tl (l:Xn)(c b:Nat)(x:Np)(h:Qx x)(j:x.s.er=none)(d:Nat×Nat×Nat)(a:zY[(Ev l c b x.s).1.1]?=some d):Qx (Nw l c b x):=by
 obtain⟨m,n⟩:=SZ _ _ a;have e:zY.getD (Ev l c b x.s).1.1 (0,0,0)=d:=by rw[List.getD_eq_getElem?_getD,a];rfl
 have k:=h.ok j;have f:=h.hi;have g:=h.mx;unfold Nw;simp only[e];refine⟨?_,?_,λi=>?_,?_⟩
 . simp only;omega
 . simp only[aP,bJ,cw];omega
 . have:=(Pn _ _ i).2;simp at this;simp only;omega
 simp only[aP,bJ,cw];omega
theorem Th (l:Xn)(b a:Nat)(x:Np)(c:x.s.er=none)(e:(Nw l b a x).s.at'<=l.length):Pp l (Nw l b a x)<Pp l x:=by
 unfold Pp;rw[ag c];by_cases h:(Nw l b a x).s.er=none
 . rw[ag h];have d:=(Pn _ _ h).1;have f:=Tn l b a x.s c d;have g:(Nw l b a x).s.at'=(Ev l b a x.s).2.at':=PQ _ _;omega
 rw[ae h];omega
theorem Qm (l:Xn)(b a f:Nat)(x:Np)(h:Ns l x=false):MX l b a f x=x:=by
 cases f with
 | zero=>rfl
 | succ f=>unfold MX;rw[h];rfl
theorem XC (l:Xn)(b a f:Nat)(x:Np)(h:Ns l x=true)(c:0<f):MX l b a f x=MX l b a (f-1) (Nw l b a x):=by
 cases f with
 | zero=>omega
 | succ f=>show MX l b a (f+1) x=MX l b a f _;rw[MX,ag h]
end
section
variable {c f:Nat} {w m n:Xw}
theorem Tryz.Uc:(prog.info? 65).map (λi=>(i.zero,i.size,i.bytes))=some (some (.agg #[.int .u8 0,xI 0]),2,16):=by kernel_rfl
theorem Yf {a b:Int}:∀u∈[Value.int .u8 a,xI b],u.oneCell'=true:=by simp[Value.oneCell']
theorem Fr.rc (h:Fr (λk=>k=f∨c<=k) w m)(k:Fr (·=f) m n):Fr (λk=>k=f∨c<=k) w n:=h.dr k (λ_ _ e=>ao e)
theorem Fr.R9 (h:Fr (λk=>k=f∨c<=k) w m)(k:Fr (λk=>c<=k) m n):Fr (λk=>k=f∨c<=k) w n:=h.dr k (λ_ _ e=>ap e)
theorem W0 {l:Xn}{g e:Nat}{x:Np}{d:Nat}{o:Int}{t:Ir}{a:Nat×Nat×Nat}(h:Ev l g e x.s=((d,o),t))(b:zY[d]?=some a):Nw l g e x=⟨MT (decide (0<=x.dp-a.2.1)) t,x.dp-a.2.1+a.2.2,max x.mx (x.dp-a.2.1+a.2.2).toNat,x.row++[(d,o)]⟩:=by unfold Nw;simp only[h,List.getD_eq_getElem?_getD,b,Option.getD_some]
theorem Yz (S:Xs)(f c B:Nat)(v:Xv)(g:Nat)(l:Xn)(s:Ir)(bs:Xk)(o A:Nat)(cs:List Int)(w:Xw)(h:RL S w f v g l s)(hU:UC B c ⟨bs,o,A,cs,0,[]⟩ w)(J:f<c)(b2:l≠[]->g<c)(bC:21<=c)(dc:A<=1000000)(da:cs.length<=1000000)(R:Np)(bK:R=MX l A cs.length (l.length+2) ⟨s,0,0,[]⟩) :
 xK 89 #[xP f,xP c] w (λe w'=>e=.returned (.tuple #[])/\RL S w' f v g l R.s/\UC B c ⟨bs,o,A,cs,R.mx,R.row⟩ w'/\Fr (λk=>k=f∨c<=k) w w'):=by
 obtain⟨i0,hi,c5,c6,c9⟩:=info_parts Tryz.Uc;have dY:=h.len;have H:=za h;have dp:=za hU;have bv:=za b2;have bk:=za bK.symm;clear h hU b2 bK;go_enter func89,ntmps89;go_wp2_with fail;go_loopg [4] (l.length+2) (λj d wr=>∃(x:Np),d=xI x.dp/\aa (Qx x/\x.row.length+j=l.length+2/\Pp l x<j/\MX l A cs.length j x=R)/\aa (RL S wr f v g l x.s)/\aa (UC B c ⟨bs,o,A,cs,x.mx,x.row⟩ wr)/\aa (Fr (λk=>k=f∨c<=k) w wr));case atStart=>exact⟨⟨s,0,0,[]⟩,rfl,za ⟨⟨show (-3:Int)<=0 by decide,Int.le_refl 0,λ_=>Int.le_refl 0,an 0⟩,by simp,by unfold Pp;split <;> omega,bk.o⟩,H.o,dp.o,Fr.refl _ _⟩
 case round =>
  obtain⟨⟨⟨p,eT⟩,z,L,a⟩,rfl,dq,aL,ck,cl⟩:=hrel;obtain⟨G,a4,a3,a2⟩:=dq.o;have d1:=G.lo;have d2:=G.hi;have d3:=G.mx;simp only at d1 d2 d3 a4 a2 a3;have eY:a.length<=1048578:=by omega
  clear dq;obtain⟨eG,eS,rv,ct⟩:=ck.o;obtain⟨xr,a1,rfl⟩:=zB ct.zA;obtain⟨m0,m1,m2,m3,m4,m5,e5,fk⟩:=zt ct.aC;obtain⟨e7,ek,cv,rf,fl⟩:=zL aL.o.aC;simp only at m4 m5 ek cv;obtain⟨ev,c0,c4,_⟩:=aL.o.fq.ex;subst c4;have cd:=aL.o.le;simp only at cd;have bo:=za G;have cR:=za a4;have P:=za a3;have O:=za a2;clear G a4 a3 a2;cases eT with
  | some q => unfold Nb at cv;have be:aa (R=⟨⟨p,some q⟩,z,L,a⟩):=(by unfold aa;rw[<- O.o];exact Qm _ _ _ _ _ (by unfold Ns;simp));go_wp2_with fail;go_quiet (fail);go_wp2_with fail;go_end0;rw[be.o];have r:=PF (yS wr.heap.size wr) nq;exact⟨rfl,aL.o.below r,ck.o.fr (T:=λ_=>False) (Fr.Mo r) (λ_ e=>e.elim),cl.o.drewN nq⟩
  | none =>
    unfold Nb at cv;by_cases Y:¬p<l.length/\¬0<z
    . obtain⟨ea,eW⟩:=Y;have be:aa (R=⟨⟨p,none⟩,z,L,a⟩):=(by unfold aa;rw[<- O.o];exact Qm _ _ _ _ _ (by unfold Ns;simp;omega));go_wp2_with fail;go_quiet (fail);go_wp2_with fail;go_end0;rw[be.o];have r:=PF (yS wr.heap.size wr) nq;exact⟨rfl,aL.o.below r,ck.o.fr (T:=λ_=>False) (Fr.Mo r) (λ_ e=>e.elim),cl.o.drewN nq⟩
    have b3:Ns l ⟨⟨p,none⟩,z,L,a⟩=true:=(by unfold Ns;simp;omega);have b1:=bo.o.ok rfl;simp only at b1;have be:aa (MX l A cs.length (gk-1) (Nw l A cs.length ⟨⟨p,none⟩,z,L,a⟩)=R):=(by unfold aa;rw[<- O.o];exact (XC _ _ _ _ _ b3 (by have:=P.o;omega)).symm);have bb:=Ts l A cs.length ⟨p,none⟩;rcases hins:Ev l A cs.length ⟨p,none⟩ with ⟨⟨D,y⟩,t⟩;rw[hins] at bb;simp only at bb;obtain⟨sh,K⟩:∃sh,zY[D]?=some sh:=⟨_,av (show D<zY.length from bb)⟩;have cO:=za (W0 (x:=⟨⟨p,none⟩,z,L,a⟩) hins K);have cE:=za (Tl l A cs.length ⟨⟨p,none⟩,z,L,a⟩ bo.o rfl sh (by rw[hins];exact K));have cK:=za (λh=>Th l A cs.length ⟨⟨p,none⟩,z,L,a⟩ rfl h);obtain⟨eZ,e3⟩:=SZ D sh K;have Q:=za K;have a9:=hins;have bx:=za hins;obtain⟨fr,tk,co⟩:=sh;simp only at eZ e3;obtain⟨q,di⟩:∃q:Bool,q=decide (0<=z-(tk:Int)):=⟨_,rfl⟩;have eq:=za di;have dV:decide ((tk:Int)<=z)=q:=(by rw[di];apply decide_eq_decide.2;omega);clear di;clear hins a9 K;have a6:p<l.length∨(¬p<l.length/\0<z):=(by omega);clear Y b3 O bk H dp;rcases a6 with ea|⟨ea,eW⟩
    all_goals
     go_wp2_with fail;go_quiet (fail);obtain⟨W,c3⟩:∃W,W=wr.drewN nq:=⟨_,rfl⟩;rw[<- c3];have r:xB wr W:=c3▸PF (yS wr.heap.size wr) nq;have bl:=za (aL.o.below r);have aA:=za (ct.fr (T:=λ_=>False) (Fr.Mo r) (λ_ e=>e.elim));have bg:=za (cl.o.gA r);have E:=za (VG S f c B _ g l ⟨p,none⟩ ⟨bs,o,A,cs,L,a⟩ W bl.o ⟨_,_,_,aA.o⟩ J dc da);rw[bx.o] at E;clear c3 r
     go_upto_region 6 with (first
      | (go_at_call 86;revert bB;intro bB;refine (QP S f _ g l t q _ (bB.o.below (zq _ _))).mono ?_;rintro e n ⟨rfl,M,N⟩;have dw:=za M;have dz:=za N;have dl:m.heap.size+1<=n.heap.size:=(by have:=N.size;simp at this;omega);have cg:11<n.heap.size:=(by omega);have t1:=M.Oj.t D _ Q.o;have t2:=M.Oj.g D _ Q.o;have KI:=za ((cm.o.fr (T:=λ_=>False) (Fr.Mo (zq m _)) (λ_ e=>e.elim)).fr N (λk e=>e▸J));have a5:=(N.block m.heap.size (by simp) (by have:=ze bB.o.aC;omega)).trans (zc m _);obtain⟨ex,eE,eF,eL⟩:=zp a5;have bq:=za a5;clear M N a5)
      | (go_at_call 148;refine E.o.mono ?_;rintro e m ⟨rfl,M,N⟩;have bB:=za M;have ds:=za N;have dk:W.heap.size<=m.heap.size:=N.size;have ch:=M.gl.size;have ce:11<m.heap.size:=dD (show 11<21 by decide) ch;have s1:=M.Oj.t D _ Q.o;have s2:=M.Oj.g D _ Q.o;have cm:=za (aA.o.fr N (λk e=>e▸J));clear M N))
     obtain⟨eN,eO,eP,eQ,dH,dL,eR,cz⟩:=zt KI.o.aC;simp only at dH dL;clear t1 t2 s1 s2 E m0 m1 m2 m3 m4 m5 e5 e7 ek cv rf;go_upto_region 7 with fail;obtain⟨U,bE⟩:∃U,U=max L (z-(tk:Int)+(co:Int)).toNat:=⟨_,rfl⟩;have ca:max (L:Int) (z-(tk:Int)+(co:Int))=(U:Int):=(by omega);rw[ca];have cn:=za (KI.o.Rj (i:=4) (u:=(xI (U:Nat))) (K':=⟨bs,o,A,cs,U,a⟩) (zh _ _ _ _ KI.o.aC) rfl rfl rfl);have b0:c<m.heap.size:=ze cm.o.aC;have du:=za ((((bg.o.rc ds.o).alloc _).rc dz.o).R9 cn.o.2);refine zn (λV=>UI B c eG eS (.slice xr a.length a1) ⟨bs,o,A,cs,U,a⟩ V/\RL S V f (.slice ev l.length c0) g l (MT q t)/\Fr (λk=>k=f∨c<=k) w V/\xH V m.heap.size #[.int .u8 (D:Nat),xI y] 65) ⟨cn.o.1,dw.o.code cn.o.2 J bv.o bC,du.o,zr (by omega) bq.o⟩ ?_;rintro V ⟨vI,vR,em,vB⟩;obtain⟨b,dP⟩:∃b,b=m.heap.size:=⟨_,rfl⟩;rw[<- dP] at vB ⊢;have eV:c<b:=(by omega);obtain⟨e0,e1,fg,fh⟩:=zp vB;obtain⟨f0,f1,f2,f3,f4,f5,fj,fz⟩:=zt vI.aC;have VI:=za vI;have es:=za vR;have er:=za em;have fd:=vI.hB;have ff:=vI.Mu;have cB:=za bE;have Z:a.length+1<=maxLen:=(by unfold maxLen;omega);have X:(a.length+1)*16<=140737488355328:=(by omega);have bA:=za Z;have bt:=za X;have bY:∀k,(Value.slice xr a.length a1).ownBlock=some k->¬k=b:=λk e=>by have:=(cm.o.zA.lt k e).2;omega
     have bp:=za bY;clear Z X vI vR em vB bE ca cn du KI dw dz bB ds cm bl aA bg cl aL ck ct dP f0 f1 f2 f3 f4 eN eO eP eQ dH dL eR cz ex eE eF eL bq dk dl ce cg b0 bY
     go_region_law (first
      | (refine zJ _ rfl (.tmp 61) (.tmp 63) 58 rfl B 65 i0 _ 2 16 underlying58 hi c5 c6 c9 rfl (by decide) (.slice xr a.length a1) a.length (MU a) rfl (zD VI.o.zA _) (xD V.heap.size 0) 1 1 [.int .u8 (D:Nat),xI y] rfl rfl (zN (zc V _) rfl) Yf bA.o bt.o (by simp;omega) ?_;intro v' w9 C I ar;obtain⟨g9,dM,rfl,eX⟩:=zM C (by omega);have F:=(Fr.gi I).cQ;have b4:=(F.block c (by simp;omega) (λh=>by have:=(VI.o.zA.lt _ h).1;omega)).trans ((mm _ _ _ (by omega)).trans VI.o.aC);obtain⟨g0,g1,g2,g3,g4,g5,gf,gz⟩:=zt b4;have n0:=OH F (zj _ e0) (by simp;omega) (λh=>bp.o _ h rfl);have n1:=OH F (zj _ e1) (by simp;omega) (λh=>bp.o _ h rfl);have cA:=za F;have a0:=za C;have aV:=za ar;clear C I ar F b4))
     all_goals go_wp2_with fail
     all_goals go_roundg (gk-1)
     all_goals first
      | (have:=P.o;omega)
      | (have c1:=VI.o.Rb cA.o a0.o (λk e=>(aV.o k e).imp id (λh=>by have h':(V.alloc (.cells #[.int .u8 (D:Nat),xI y] 65)).heap.size<=k:=h;rw[au] at h';exact h'))
         have eb:=cE.o;have q2:=cK.o;have q3:=be.o;have c2:Nw l A cs.length ⟨⟨p,none⟩,z,L,a⟩=⟨MT q t,z-(tk:Int)+(co:Int),U,a++[(D,y)]⟩:=(by rw[cO.o,eq.o,cB.o]);rw[c2] at eb q2 q3;have bL:=es.o.code c1.2 J bv.o bC;have q4:=q2 bL.le;refine⟨⟨MT q t,z-(tk:Int)+(co:Int),U,a++[(D,y)]⟩,rfl,za ⟨eb,?_,?_,q3⟩,bL,c1.1,er.o.R9 c1.2⟩
         . have:=cR.o;have:=P.o;simp;omega
         have:=P.o;omega)
end
section
variable {l:Xn} {g:Nat} {w:Xw}
theorem By.take {a:Xp}{c n:Nat}(h:By w (.slice a l.length c) g l)(v:n<=l.length):By w (.slice a n c) g (l.take n):=by
 obtain⟨s,t,k,u,m,p⟩:=h.ex;cases k;have q:(l.take n).length=n:=by rw[List.length_take];omega
 refine⟨⟨a,c,by rw[q],by omega,m,λd=>?_⟩,λx r=>h.lt x (List.mem_of_mem_take r)⟩;obtain⟨o,f,i⟩:=p (by intro e;subst e;simp at d);refine⟨o,f,λj x b=>i j x ?_⟩;rw[List.getElem?_take] at b;split at b
 . exact b
 cases b
def Oq (S:Xs)(p:Int):Value:=.iface 53 (.agg #[aW S 10,xI p])
def NZ (l:Xn):Option (List Nat) :=
 if l.length<8∨1048576<l.length then none
 else if (MP l ⟨l.length-8,none⟩).1=Od (l.take (l.length-8)) then some (l.take (l.length-8)) else none
def RG (S:Xs)(a:Xp)(c:Nat)(l:Xn)(o:Option (List Nat))(e:Ending):Prop :=
 match o with
 | none=>∃p,e=.returned (.tuple #[.slice none 0 0,Oq S p])
 | some b=>e=.returned (.tuple #[.slice a b.length c,.nilIface])/\b=l.take (l.length-8)/\b.length<=1048576
theorem RL.new {S:Xs}{v:Xv}(a:Gl S w)(b:Nq w)(h:By w v g l)(c:g<w.heap.size)(d:l.length<=1048576)(p:Nat)(f:p<=l.length) :
 RL S (w.alloc (.cells #[v,xI (p:Nat),.nilIface] 190)) w.heap.size v g l ⟨p,none⟩:=by
 have hF:Fr (λ_=>False) w (w.alloc (.cells #[v,xI (p:Nat),.nilIface] 190)):=(Fr.refl _ w).alloc _;exact⟨zc w _,h.of (mm _ _ _ c),f,d,by omega,a.size,a.of hF (λ_ e=>e.elim),b.am (hF.am a.size (λ_ e=>e.elim)) (an _)⟩
theorem VU (S:Xs)(a:Xp)(c g:Nat)(l:Xn)(w:Xw)(s:Gl S w)(M:Nq w)(H:By w (.slice a l.length c) g l)(N:g<w.heap.size) :
 xK 85 #[.slice a l.length c] w (λe I=>(xB w I)/\RG S a c l (NZ l) e):=by
 obtain⟨a',c',q,r,L,V⟩:=H.ex;cases q;have ar:c<=9223372036854775807:=by unfold maxLen at L;omega
 have F:=s.mS;unfold aW at F;have A:=s.size;have R:=za s;have T:=za M;have K:=za H;clear s M H L V;by_cases C:l.length<8∨1048576<l.length
 . have p:aa (NZ l=none):=by unfold aa NZ;rw[ag C]
   by_cases D:l.length<8
   all_goals
    go_enter func85,ntmps85;go_wp2_with (go_at_call 30;refine (Qg S 10 _ _).mono ?_;rintro e Q ⟨rfl,i⟩;have u:=za i;clear i);exact ab (v:=.tuple #[.slice none 0 0,Oq S 0]) (by simp[results,results85,go_sem,Oq,aW]) rfl ⟨u.o,by rw[p.o];exact⟨0,rfl⟩⟩
 have D:¬l.length<8:=by omega
 have E:l.length<=1048576:=by omega
 obtain⟨n,O⟩:∃n,l.length=n+8:=⟨l.length-8,by omega⟩;have j:NZ l=if (MP l ⟨n,none⟩).1=Od (l.take n) then some (l.take n) else none:=by unfold NZ;rw[ae C,show l.length-8=n by omega]
 have m:(l.take n).length=n:=by rw[List.length_take];omega
 have G:n=l.length-8:=by omega
 have y:=za (λX (Z:X=(Obj.cells #[.slice a l.length c,xI (n:Nat),.nilIface] 190 (0,0)))=>(Ry S w.heap.size (.slice a l.length c) g l ⟨n,none⟩ (w.alloc X).drew ((Z▸RL.new R.o T.o K.o N E n (by omega):RL S (w.alloc X) w.heap.size (.slice a l.length c) g l ⟨n,none⟩).below (zo (yS _ _)))));have f:=za (λW (Y:W.heap[g]?=w.heap[g]?)=>Tg (l.take n) (.slice a n c) g W ((K.o.of Y).take (by omega)));obtain⟨sm,o⟩:∃sm,sm=Od (l.take n):=⟨_,rfl⟩;rcases hN:MP l ⟨n,none⟩ with ⟨X,t⟩;rw[hN] at y j;rw[<- o] at f j;simp only at y j;have p:=za j;have h:=za m;have U:=za O;have aL:IntKind.i64.wrap ((l.length:Int)-8)=(n:Int):=by rw[IntKind.wrap_i64];omega
 have aV:(l.length:Int)-8=(n:Int):=by omega
 have aA:n<=c:=by omega
 clear j m O hN o C G;go_enter func85,ntmps85;go_upto_region 5 with fail
 go_region_held3 (λI=>I.cell? (xD 10 0)=some (.iface 316 (.pointer (some (S 10)))))
  (repeat (first|with_reducible exact F|with_reducible exact i1|with_reducible refine zg ?_|with_reducible refine zj _ ?_))
  (first
    | (go_at_call 54;revert J;intro J;refine (f.o Q x.o).mono ?_;rintro e w2 ⟨rfl,rfl⟩)
    | (go_at_call 145;refine (y.o _ rfl).mono ?_;rintro e Q ⟨rfl,q,r⟩;have J:=za q;have x:=za ((r.block g (by simp;omega) (by omega)).trans (mm _ _ _ N));have b:=za ((((Fr.refl (·=w.heap.size) w).alloc _).trans r.cQ).below (B:=w.heap.size) (an _) (λk e=>Nat.le_of_eq e.symm));have i1:=zd b.o F (dD (show 10<21 by decide) A);clear q r))
 by_cases d:X=sm
 . have z:aa (NZ l=some (l.take n)):=by unfold aa;rw[p.o,ag d]
   subst d;go_wp2_with fail;exact ab (v:=.tuple #[.slice a n c,.nilIface]) (by simp[results,results85,go_sem]) rfl ⟨b.o,by rw[z.o];exact⟨by rw[h.o],by rw[show l.length-8=n by have:=U.o;omega],by rw[h.o];omega⟩⟩
 have z:aa (NZ l=none):=by unfold aa;rw[p.o,ae d]
 have P:(X != sm)=true:=by simpa using d
 go_wp2_with (go_at_call 30;refine (Qg S 10 _ _).mono ?_;rintro e w3 ⟨rfl,i⟩;have u:=za (b.o.trans (i.mono b.o.size));clear i);exact ab (v:=.tuple #[.slice none 0 0,Oq S n]) (by simp[results,results85,go_sem,Oq,aW]) rfl ⟨u.o,by rw[z.o];exact⟨n,rfl⟩⟩
end
end Go.Proofs.YtcnelakggnfnhaaGreatDoor
