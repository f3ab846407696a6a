/- Part 31 of the proof. -/
import Derived.Test.YtbicmofihhjgbaaGreatDoorK29
set_option maxRecDepth 100000
set_option maxHeartbeats 8000000
namespace Go.Proofs.YtbicmofihhjgbaaGreatDoor
open Go.Proofs.Tryz
open Go.RowKit
section
variable {w:Xw}
def Ev (l:Xn)(b a:Nat)(s:Ir):(Nat×Int)×Ir :=
 let o:=vv l 21 s
 if o.2.er=none then
  (if (zY.getD o.1 (0,0,0)).1=1 then ((o.1,(MP l o.2).1),(MP l o.2).2)
   else if (zY.getD o.1 (0,0,0)).1=2 then ((o.1,((vv l b o.2).1:Nat)),(vv l b o.2).2)
   else if (zY.getD o.1 (0,0,0)).1=3 then ((o.1,((vv l a o.2).1:Nat)),(vv l a o.2).2)
   else ((o.1,0),o.2))
 else ((0,0),o.2)
theorem Tb (s:Ir):s.fail.er≠none:=by
 unfold Ir.fail;split
 . simp
 assumption
theorem Qi {l:Xn}{bd:Nat}{s:Ir}(h:(vv l bd s).2.er=none):(vv l bd s).1<bd:=by
 unfold vv MT at *;simp only at *;split at h
 . rename_i a;simpa using a
 exact absurd h (Tb _)
theorem S6 (k:Nat)(s:Nat×Nat×Nat)(h:zY[k]?=some s):s.1=0∨s.1=1∨s.1=2∨s.1=3:=by
 have a:=aM h;have:∀s∈zY,s.1=0∨s.1=1∨s.1=2∨s.1=3:=by decide
 exact this s a
theorem UI.Un {B c:Nat}{b a e:Xv}{K:Cd}(h:UI B c b a e K w):∃x d,a=.slice x K.cells.length d:=kE h.hQ
theorem OH {T:Xj}{a:Xw}{b i:Nat}{u:Xv}(hF:Fr T w a)(h:w.cell? (xD b i)=some u)(d:b<w.heap.size)(c:¬T b):a.cell? (xD b i)=some u:=(World.cell?_of_block (w:=w) (hF.block b d c)).trans h
theorem VG (S:Xs)(i O B:Nat)(v:Xv)(g:Nat)(l:Xn)(s:Ir)(K:Cd)(w:Xw)(h:RL S w i v g l s)(hU:UC B O K w)(bv:i<O)(bt:K.al<=1000000)(bs:K.cells.length<=1000000) :
 xK 117 #[xP i,xP O] w (λe w'=>e=.returned (.agg #[.int .u8 ((Ev l K.al K.cells.length s).1.1:Nat),.int .i64 (Ev l K.al K.cells.length s).1.2])/\RL S w' i v g l (Ev l K.al K.cells.length s).2/\Fr (·=i) w w'):=by
 obtain⟨bC,cv,rv,be⟩:=hU;obtain⟨bK,bp,rfl⟩:=be.Un;obtain⟨m0,m1,m2,m3,m4,m5,bE,P⟩:=zt be.aC;have r:=h.gl.size;have Q:=(λo:Obj=>Qe S i v g l s 21 (by decide) (w.alloc o) (h.below ((Below.refl _ w).alloc (an _) o)));have hy:=QN l 21 s h.fq.lt;have G:=ze h.aC;have bo:∀x∈l,x<256:=h.fq.lt;have aA:=(λbq=>h.fq.Bd bq);obtain⟨R,m⟩:∃R,R=Ev l K.al K.cells.length s:=⟨_,rfl⟩;rw[<- m];have M:=λh=>Qi (l:=l) (bd:=21) (s:=s) h;unfold Ev at m;rcases hO:vv l 21 s with ⟨n,t⟩;rw[hO] at Q hy m M;simp only at Q hy m M;have bl:¬O=i:=by omega
 obtain⟨p,er⟩:=t;clear h hO m0 m1 m4 m5;cases er with
 | some q => rw[ae (by simp)] at m;subst m;go_enter func117,ntmps117;go_wp2_with (go_at_call 116;refine (Q _).mono ?_;rintro e a ⟨rfl,d,b⟩;obtain⟨a1,a2,D,a3,a4⟩:=zL d.aC;unfold Nb at D;simp only at D;have j:=(b.block w.heap.size (by simp) (by omega)).trans (zc w _);obtain⟨b0,b1,a5,a6⟩:=zp j;have A:=d;have u:=(((Fr.refl (·=i) w).alloc _).trans b);clear d b);obtain⟨W,f⟩:∃W,W=(a.setCell (xD w.heap.size 0) (.int .u8 0)).setCell (xD w.heap.size 1) (xI 0):=⟨_,rfl⟩;rw[<- f];have J:W.cell? (xD w.heap.size 0)=some (.int .u8 0):=(by rw[f];exact PJ (by decide) (xb ⟨_,b0⟩));have L:W.cell? (xD w.heap.size 1)=some (xI 0):=(by rw[f];exact xb (xc b1));have hF:Fr (·=i) w W:=(by rw[f];exact (u.aO (an _) _ _).aO (an _) _ _);have m:RL S W i v g l ⟨p,some q⟩:=(by rw[f];exact A.code (((Fr.refl (λk=>w.heap.size<=k) a).setCell (ao (an _)) _).setCell (ao (an _)) _) G aA r);exact bodyPost_ret (v:=.agg #[.int .u8 0,xI 0]) (by simp[results,results117,go_sem,J,L]) rfl ⟨rfl,m,hF⟩
 | none =>
   rw[ag rfl] at m;have a9:=M rfl;obtain⟨Z,N⟩:∃Z,zY[n]?=some Z:=⟨_,av (show n<zY.length from a9)⟩;have aL:(zY.getD n (0,0,0)).1=Z.1:=(by rw[List.getD_eq_getElem?_getD,N];rfl);rw[aL] at m;have h3:=S6 n Z N;have aV:∀a,Nq a->xC a 11 (n*3) (xI (Z.1:Nat)):=λa d=>d.a n Z N;have F:=aV;have bx:11<w.heap.size:=dD (show 11<21 by decide) r;obtain⟨c,bB⟩:=Z;simp only at h3 F m;have bA:IntKind.u8.wrap (n:Int)=(n:Int):=(by rw[IntKind.wrap_u8];omega);clear N aL aV M;rcases h3 with rfl|rfl|rfl|rfl
   . simp only[ae (show ¬(0:Nat)=1 by decide),ae (show ¬(0:Nat)=2 by decide),ae (show ¬(0:Nat)=3 by decide)] at m;subst m;go_enter func117,ntmps117;go_wp2_with (go_at_call 116;refine (Q _).mono ?_;rintro e a ⟨rfl,d,b⟩;obtain⟨a1,a2,D,a3,a4⟩:=zL d.aC;unfold Nb at D;simp only at D;have Y:w.heap.size+1<=a.heap.size:=(by have:=b.size;simp at this;omega);have H:11<a.heap.size:=(by omega);have T:O<a.heap.size:=(by omega);have j:=(b.block w.heap.size (by simp) (by omega)).trans (zc w _);obtain⟨b0,b1,a5,a6⟩:=zp j;have bb:=F a d.Oj;have A:=d;have u:=(((Fr.refl (·=i) w).alloc _).trans b);have U:=OH u m2 P (by omega);have V:=OH u m3 P (by omega);clear d b);obtain⟨W,f⟩:∃W,W=((a.setCell (xD w.heap.size 0) (.int .u8 (n:Nat))).setCell (xD w.heap.size 1) (xI 0)).alloc (.cells #[.int .u8 (n:Nat),xI 0] 108):=⟨_,rfl⟩;rw[<- f];have J:W.cell? (xD w.heap.size 0)=some (.int .u8 (n:Nat)):=(by rw[f];exact zj _ (PJ (by decide) (xb ⟨_,b0⟩)));have L:W.cell? (xD w.heap.size 1)=some (xI 0):=(by rw[f];exact zj _ (xb (xc b1)));have hF:Fr (·=i) w W:=(by rw[f];exact ((u.aO (an _) _ _).aO (an _) _ _).alloc _);have C:RL S W i v g l ⟨p,none⟩:=(by rw[f];exact A.code ((((Fr.refl (λk=>w.heap.size<=k) a).setCell (ao (an _)) _).setCell (ao (an _)) _).alloc _) G aA r);exact bodyPost_ret (v:=.agg #[.int .u8 (n:Nat),xI 0]) (by simp[results,results117,go_sem,J,L]) rfl ⟨rfl,C,hF⟩
   . simp only[if_true] at m;have E:=(λa (d:RL S a i v g l ⟨p,none⟩)=>Ry S i v g l ⟨p,none⟩ a d);rcases hN:MP l ⟨p,none⟩ with ⟨X,t2⟩;rw[hN] at E m;subst m;simp only at E;clear hN;go_enter func117,ntmps117
     go_wp2_with (first
      | (go_at_call 114;revert A;intro A;refine (E _ (A.below (zq _ _))).mono ?_;rintro e I ⟨rfl,d,b⟩;have a0:a.heap.size+1<=I.heap.size:=(by have:=b.size;simp at this;omega);have y:=(b.block w.heap.size (by simp;omega) (by omega)).trans ((Below.heap_alloc _ _ _ (by omega)).trans j);obtain⟨c0,c1,bg,cz⟩:=zp y;have z:=(b.block a.heap.size (by simp) (by omega)).trans (zc a _);obtain⟨d0,d1,bk,dz⟩:=zp z;have ab:=d;have ar:=((u.alloc _).trans b);clear d b y z)
      | (go_at_call 116;refine (Q _).mono ?_;rintro e a ⟨rfl,d,b⟩;obtain⟨a1,a2,D,a3,a4⟩:=zL d.aC;unfold Nb at D;simp only at D;have Y:w.heap.size+1<=a.heap.size:=(by have:=b.size;simp at this;omega);have H:11<a.heap.size:=(by omega);have T:O<a.heap.size:=(by omega);have j:=(b.block w.heap.size (by simp) (by omega)).trans (zc w _);obtain⟨b0,b1,a5,a6⟩:=zp j;have bb:=F a d.Oj;have A:=d;have u:=(((Fr.refl (·=i) w).alloc _).trans b);have U:=OH u m2 P (by omega);have V:=OH u m3 P (by omega);clear d b))
     obtain⟨W,f⟩:∃W,W=((I.setCell (xD a.heap.size 1) (xI X)).setCell (xD w.heap.size 0) (.int .u8 (n:Nat))).setCell (xD w.heap.size 1) (xI X):=⟨_,rfl⟩;rw[<- f];have J:W.cell? (xD w.heap.size 0)=some (.int .u8 (n:Nat)):=(by rw[f];exact PJ (by decide) (xb ⟨_,zk (by omega) c0⟩));have L:W.cell? (xD w.heap.size 1)=some (xI X):=(by rw[f];exact xb (xc (zk (by omega) c1)));have hF:Fr (·=i) w W:=(by rw[f];exact ((ar.aO (by omega) _ _).aO (an _) _ _).aO (an _) _ _);have C:RL S W i v g l t2:=(by rw[f];exact ab.code ((((Fr.refl (λk=>w.heap.size<=k) I).setCell (ao (show w.heap.size<=a.heap.size by omega)) _).setCell (ao (an _)) _).setCell (ao (an _)) _) G aA r);exact bodyPost_ret (v:=.agg #[.int .u8 (n:Nat),xI X]) (by simp[results,results117,go_sem,J,L]) rfl ⟨rfl,C,hF⟩
   . simp only[ae (show ¬(2:Nat)=1 by decide),if_true] at m;have E:=(λa (d:RL S a i v g l ⟨p,none⟩)=>Qe S i v g l ⟨p,none⟩ K.al (by omega) a d);rcases hN:vv l K.al ⟨p,none⟩ with ⟨X,t2⟩;rw[hN] at E m;subst m;simp only at E;clear hN;go_enter func117,ntmps117
     go_wp2_with (first
      | (go_at_call 116;revert A;intro A;refine (E _ (A.below (zq _ _))).mono ?_;rintro e I ⟨rfl,d,b⟩;have a0:a.heap.size+1<=I.heap.size:=(by have:=b.size;simp at this;omega);have y:=(b.block w.heap.size (by simp;omega) (by omega)).trans ((Below.heap_alloc _ _ _ (by omega)).trans j);obtain⟨c0,c1,bg,cz⟩:=zp y;have z:=(b.block a.heap.size (by simp) (by omega)).trans (zc a _);obtain⟨d0,d1,bk,dz⟩:=zp z;have ab:=d;have ar:=((u.alloc _).trans b);clear d b y z)
      | (go_at_call 116;refine (Q _).mono ?_;rintro e a ⟨rfl,d,b⟩;obtain⟨a1,a2,D,a3,a4⟩:=zL d.aC;unfold Nb at D;simp only at D;have Y:w.heap.size+1<=a.heap.size:=(by have:=b.size;simp at this;omega);have H:11<a.heap.size:=(by omega);have T:O<a.heap.size:=(by omega);have j:=(b.block w.heap.size (by simp) (by omega)).trans (zc w _);obtain⟨b0,b1,a5,a6⟩:=zp j;have bb:=F a d.Oj;have A:=d;have u:=(((Fr.refl (·=i) w).alloc _).trans b);have U:=OH u m2 P (by omega);have V:=OH u m3 P (by omega);clear d b))
     obtain⟨W,f⟩:∃W,W=((I.setCell (xD a.heap.size 1) (xI (X:Nat))).setCell (xD w.heap.size 0) (.int .u8 (n:Nat))).setCell (xD w.heap.size 1) (xI (X:Nat)):=⟨_,rfl⟩;rw[<- f];have J:W.cell? (xD w.heap.size 0)=some (.int .u8 (n:Nat)):=(by rw[f];exact PJ (by decide) (xb ⟨_,zk (by omega) c0⟩));have L:W.cell? (xD w.heap.size 1)=some (xI (X:Nat)):=(by rw[f];exact xb (xc (zk (by omega) c1)));have hF:Fr (·=i) w W:=(by rw[f];exact ((ar.aO (by omega) _ _).aO (an _) _ _).aO (an _) _ _);have C:RL S W i v g l t2:=(by rw[f];exact ab.code ((((Fr.refl (λk=>w.heap.size<=k) I).setCell (ao (show w.heap.size<=a.heap.size by omega)) _).setCell (ao (an _)) _).setCell (ao (an _)) _) G aA r);exact bodyPost_ret (v:=.agg #[.int .u8 (n:Nat),xI (X:Nat)]) (by simp[results,results117,go_sem,J,L]) rfl ⟨rfl,C,hF⟩
   simp only[ae (show ¬(3:Nat)=1 by decide),ae (show ¬(3:Nat)=2 by decide),if_true] at m;have E:=(λa (d:RL S a i v g l ⟨p,none⟩)=>Qe S i v g l ⟨p,none⟩ K.cells.length (by omega) a d);rcases hN:vv l K.cells.length ⟨p,none⟩ with ⟨X,t2⟩;rw[hN] at E m;subst m;simp only at E;clear hN;go_enter func117,ntmps117
   go_wp2_with (first
    | (go_at_call 116;revert A;intro A;refine (E _ (A.below (zq _ _))).mono ?_;rintro e I ⟨rfl,d,b⟩;have a0:a.heap.size+1<=I.heap.size:=(by have:=b.size;simp at this;omega);have y:=(b.block w.heap.size (by simp;omega) (by omega)).trans ((Below.heap_alloc _ _ _ (by omega)).trans j);obtain⟨c0,c1,bg,cz⟩:=zp y;have z:=(b.block a.heap.size (by simp) (by omega)).trans (zc a _);obtain⟨d0,d1,bk,dz⟩:=zp z;have ab:=d;have ar:=((u.alloc _).trans b);clear d b y z)
    | (go_at_call 116;refine (Q _).mono ?_;rintro e a ⟨rfl,d,b⟩;obtain⟨a1,a2,D,a3,a4⟩:=zL d.aC;unfold Nb at D;simp only at D;have Y:w.heap.size+1<=a.heap.size:=(by have:=b.size;simp at this;omega);have H:11<a.heap.size:=(by omega);have T:O<a.heap.size:=(by omega);have j:=(b.block w.heap.size (by simp) (by omega)).trans (zc w _);obtain⟨b0,b1,a5,a6⟩:=zp j;have bb:=F a d.Oj;have A:=d;have u:=(((Fr.refl (·=i) w).alloc _).trans b);have U:=OH u m2 P (by omega);have V:=OH u m3 P (by omega);clear d b))
   obtain⟨W,f⟩:∃W,W=((I.setCell (xD a.heap.size 1) (xI (X:Nat))).setCell (xD w.heap.size 0) (.int .u8 (n:Nat))).setCell (xD w.heap.size 1) (xI (X:Nat)):=⟨_,rfl⟩;rw[<- f];have J:W.cell? (xD w.heap.size 0)=some (.int .u8 (n:Nat)):=(by rw[f];exact PJ (by decide) (xb ⟨_,zk (by omega) c0⟩));have L:W.cell? (xD w.heap.size 1)=some (xI (X:Nat)):=(by rw[f];exact xb (xc (zk (by omega) c1)));have hF:Fr (·=i) w W:=(by rw[f];exact ((ar.aO (by omega) _ _).aO (an _) _ _).aO (an _) _ _);have C:RL S W i v g l t2:=(by rw[f];exact ab.code ((((Fr.refl (λk=>w.heap.size<=k) I).setCell (ao (show w.heap.size<=a.heap.size by omega)) _).setCell (ao (an _)) _).setCell (ao (an _)) _) G aA r);exact bodyPost_ret (v:=.agg #[.int .u8 (n:Nat),xI (X:Nat)]) (by simp[results,results117,go_sem,J,L]) rfl ⟨rfl,C,hF⟩
end
section
structure Np where
 s:Ir
 dp:Int
 mx:Nat
 row:List (Nat×Int)
def Ns (l:Xn)(x:Np):Bool:=decide (x.s.er=none/\(x.s.at'<l.length∨0<x.dp))
def Nw (l:Xn)(c b:Nat)(x:Np):Np :=
 let i:=Ev l c b x.s
 let a:=zY.getD i.1.1 (0,0,0)
 ⟨MT (decide (0<=x.dp-a.2.1)) i.2,x.dp-a.2.1+a.2.2,max x.mx (x.dp-a.2.1+a.2.2).toNat,x.row++[i.1]⟩
def MX (l:Xn)(b a:Nat):Nat->Np->Np
 | 0,x=>x
 | f+1,x=>if Ns l x=true then MX l b a f (Nw l b a x) else x
theorem RF (l:Xn)(s:Ir):(s.er≠none->(zG l s).2=s)/\(s.er=none->(zG l s).2.er≠none∨((zG l s).2.er=none/\(zG l s).2.at'=s.at'+1/\s.at'<l.length))/\s.at'<=(zG l s).2.at':=by
 unfold zG;by_cases h:s.er=none
 . rw[ag h];by_cases b:l.length<=s.at'
   . rw[ag b];exact⟨λa=>absurd h a,λ_=>ao (by simp),an _⟩
   rw[ae b];exact⟨λa=>absurd h a,λ_=>ap ⟨h,rfl,by omega⟩,Nat.le_succ _⟩
 rw[ae h];exact⟨λ_=>rfl,λa=>absurd a h,an _⟩
theorem PQ (b:Bool)(s:Ir):(MT b s).at'=s.at':=by unfold MT;split;rfl;exact s.T5
theorem Pn (b:Bool)(s:Ir):(MT b s).er=none->s.er=none/\b=true:=by
 unfold MT;split
 . rename_i h;exact λa=>⟨a,h⟩
 exact λa=>absurd a (Tb s)
theorem RD (l:Xn)(a:Nat)(s:Ir):s.at'<=(vv l a s).2.at'/\(s.er=none->(vv l a s).2.er=none->s.at'+1<=(vv l a s).2.at'):=by
 unfold vv;simp only[PQ];obtain⟨f,c,d⟩:=RF l s;refine⟨d,λh e=>?_⟩;have:=(Pn _ _ e).1;rcases c h with b|⟨_,b,_⟩
 . exact absurd this b
 omega
theorem WD (l:Xn)(n:Nat):∀s,s.at'<=(NB l n s).2.at':=by
 induction n with
 | zero=>intro s;exact an _
 | succ n a=>intro s;exact aJ (RF l s).2.2 (a _)
theorem Tn (l:Xn)(d c:Nat)(s:Ir)(f:s.er=none)(h:(Ev l d c s).2.er=none):s.at'+1<=(Ev l d c s).2.at':=by
 unfold Ev at *;simp only at *;obtain⟨g,e⟩:=RD l 21 s;by_cases b:(vv l 21 s).2.er=none
 . rw[ag b] at *;have a:=e f b;split
   . exact aJ a (WD l 8 _)
   split
   . exact aJ a (RD l _ _).1
   split
   . exact aJ a (RD l _ _).1
   exact a
 rw[ae b] at *;exact absurd h b
theorem Ts (l:Xn)(c b:Nat)(s:Ir):(Ev l c b s).1.1<21:=by
 unfold Ev;simp only;by_cases a:(vv l 21 s).2.er=none
 . rw[ag a];have:=Qi a;split
   . exact this
   split
   . exact this
   split
   . exact this
   exact this
 rw[ae a];exact Nat.succ_pos 20
theorem SZ (k:Nat)(s:Nat×Nat×Nat)(h:zY[k]?=some s):s.2.1<=3/\s.2.2<=1:=by
 have a:=aM h;have:∀s∈zY,s.2.1<=3/\s.2.2<=1:=by decide
 exact this s a
def Pp (l:Xn)(x:Np):Nat:=if x.s.er=none then l.length-x.s.at'+1 else 0
structure Qx (x:Np):Prop where
 lo:-3<=x.dp
 hi:x.dp<=x.row.length
 ok:x.s.er=none->0<=x.dp
 mx:x.mx<=x.row.length
theorem Tl (l:Xn)(c b:Nat)(x:Np)(h:Qx x)(j:x.s.er=none)(d:Nat×Nat×Nat)(a:zY[(Ev l c b x.s).1.1]?=some d):Qx (Nw l c b x):=by
 obtain⟨m,n⟩:=SZ _ _ a;have e:zY.getD (Ev l c b x.s).1.1 (0,0,0)=d:=by rw[List.getD_eq_getElem?_getD,a];rfl
 have k:=h.ok j;have f:=h.hi;have g:=h.mx;unfold Nw;simp only[e];refine⟨?_,?_,λi=>?_,?_⟩
 . simp only;omega
 . simp only[aP,bJ,cw];omega
 . have:=(Pn _ _ i).2;simp at this;simp only;omega
 simp only[aP,bJ,cw];omega
theorem Th (l:Xn)(b a:Nat)(x:Np)(c:x.s.er=none)(e:(Nw l b a x).s.at'<=l.length):Pp l (Nw l b a x)<Pp l x:=by
 unfold Pp;rw[ag c];by_cases h:(Nw l b a x).s.er=none
 . rw[ag h];have d:=(Pn _ _ h).1;have f:=Tn l b a x.s c d;have g:(Nw l b a x).s.at'=(Ev l b a x.s).2.at':=PQ _ _;omega
 rw[ae h];omega
theorem Qm (l:Xn)(b a f:Nat)(x:Np)(h:Ns l x=false):MX l b a f x=x:=by
 cases f with
 | zero=>rfl
 | succ f=>unfold MX;rw[h];rfl
theorem XC (l:Xn)(b a f:Nat)(x:Np)(h:Ns l x=true)(c:0<f):MX l b a f x=MX l b a (f-1) (Nw l b a x):=by
 cases f with
 | zero=>omega
 | succ f=>show MX l b a (f+1) x=MX l b a f _;rw[MX,ag h]
end
section
variable {c f:Nat} {w m n:Xw}
theorem Tryz.Uc:(prog.info? 108).map (λi=>(i.zero,i.size,i.bytes))=some (some (.agg #[.int .u8 0,xI 0]),2,16):=by kernel_rfl
theorem Yf {a b:Int}:∀u∈[Value.int .u8 a,xI b],u.oneCell'=true:=by simp[Value.oneCell']
theorem Fr.rc (h:Fr (λk=>k=f∨c<=k) w m)(k:Fr (·=f) m n):Fr (λk=>k=f∨c<=k) w n:=h.dr k (λ_ _ e=>ao e)
theorem Fr.R9 (h:Fr (λk=>k=f∨c<=k) w m)(k:Fr (λk=>c<=k) m n):Fr (λk=>k=f∨c<=k) w n:=h.dr k (λ_ _ e=>ap e)
theorem W0 {l:Xn}{g e:Nat}{x:Np}{d:Nat}{o:Int}{t:Ir}{a:Nat×Nat×Nat}(h:Ev l g e x.s=((d,o),t))(b:zY[d]?=some a):Nw l g e x=⟨MT (decide (0<=x.dp-a.2.1)) t,x.dp-a.2.1+a.2.2,max x.mx (x.dp-a.2.1+a.2.2).toNat,x.row++[(d,o)]⟩:=by unfold Nw;simp only[h,List.getD_eq_getElem?_getD,b,Option.getD_some]
theorem Yz (S:Xs)(f c B:Nat)(v:Xv)(g:Nat)(l:Xn)(s:Ir)(bs:Xk)(o A:Nat)(cs:List Int)(w:Xw)(h:RL S w f v g l s)(hU:UC B c ⟨bs,o,A,cs,0,[]⟩ w)(J:f<c)(b1:l≠[]->g<c)(bB:21<=c)(da:A<=1000000)(c9:cs.length<=1000000)(R:Np)(bE:R=MX l A cs.length (l.length+2) ⟨s,0,0,[]⟩) :
 xK 64 #[xP f,xP c] w (λe w'=>e=.returned (.tuple #[])/\RL S w' f v g l R.s/\UC B c ⟨bs,o,A,cs,R.mx,R.row⟩ w'/\Fr (λk=>k=f∨c<=k) w w'):=by
 obtain⟨i0,hi,c4,c5,c6⟩:=info_parts Tryz.Uc;have dV:=h.len;have H:=za h;have dl:=za hU;have bt:=za b1;have bg:=za bE.symm;clear h hU b1 bE;go_enter func64,ntmps64;go_wp2_with fail;go_loopg [4] (l.length+2) (λj d wr=>∃(x:Np),d=xI x.dp/\aa (Qx x/\x.row.length+j=l.length+2/\Pp l x<j/\MX l A cs.length j x=R)/\aa (RL S wr f v g l x.s)/\aa (UC B c ⟨bs,o,A,cs,x.mx,x.row⟩ wr)/\aa (Fr (λk=>k=f∨c<=k) w wr));case atStart=>exact⟨⟨s,0,0,[]⟩,rfl,za ⟨⟨show (-3:Int)<=0 by decide,Int.le_refl 0,λ_=>Int.le_refl 0,an 0⟩,by simp,by unfold Pp;split <;> omega,bg.o⟩,H.o,dl.o,Fr.refl _ _⟩
 case round =>
  obtain⟨⟨⟨p,eY⟩,z,L,a⟩,rfl,dp,aA,ch,ck⟩:=hrel;obtain⟨G,a3,a2,a1⟩:=dp.o;have d1:=G.lo;have d2:=G.hi;have d3:=G.mx;simp only at d1 d2 d3 a3 a1 a2;have e7:a.length<=1048578:=by omega
  clear dp;obtain⟨eF,eX,rv,co⟩:=ch.o;obtain⟨xr,a0,rfl⟩:=zB co.zA;obtain⟨m0,m1,m2,m3,m4,m5,fg,fu⟩:=zt co.aC;obtain⟨fh,eb,ct,rf,fA⟩:=zL aA.o.aC;simp only at m4 m5 eb ct;obtain⟨es,cR,c3,_⟩:=aA.o.fq.ex;subst c3;have ca:=aA.o.le;simp only at ca;have bl:=za G;have cO:=za a3;have P:=za a2;have O:=za a1;clear G a3 a2 a1;cases eY with
  | some q => unfold Nb at ct;have bb:aa (R=⟨⟨p,some q⟩,z,L,a⟩):=(by unfold aa;rw[<- O.o];exact Qm _ _ _ _ _ (by unfold Ns;simp));go_wp2_with fail;go_quiet (fail);go_wp2_with fail;go_end0;rw[bb.o];have r:=PF (Below.refl wr.heap.size wr) nq;exact⟨rfl,aA.o.below r,ch.o.fr (T:=λ_=>False) (Fr.Mo r) (λ_ e=>e.elim),ck.o.drewN nq⟩
  | none =>
    unfold Nb at ct;by_cases Y:¬p<l.length/\¬0<z
    . obtain⟨dY,e3⟩:=Y;have bb:aa (R=⟨⟨p,none⟩,z,L,a⟩):=(by unfold aa;rw[<- O.o];exact Qm _ _ _ _ _ (by unfold Ns;simp;omega));go_wp2_with fail;go_quiet (fail);go_wp2_with fail;go_end0;rw[bb.o];have r:=PF (Below.refl wr.heap.size wr) nq;exact⟨rfl,aA.o.below r,ch.o.fr (T:=λ_=>False) (Fr.Mo r) (λ_ e=>e.elim),ck.o.drewN nq⟩
    have b2:Ns l ⟨⟨p,none⟩,z,L,a⟩=true:=(by unfold Ns;simp;omega);have b0:=bl.o.ok rfl;simp only at b0;have bb:aa (MX l A cs.length (gk-1) (Nw l A cs.length ⟨⟨p,none⟩,z,L,a⟩)=R):=(by unfold aa;rw[<- O.o];exact (XC _ _ _ _ _ b2 (by have:=P.o;omega)).symm);have a9:=Ts l A cs.length ⟨p,none⟩;rcases hins:Ev l A cs.length ⟨p,none⟩ with ⟨⟨D,y⟩,t⟩;rw[hins] at a9;simp only at a9;obtain⟨sh,K⟩:∃sh,zY[D]?=some sh:=⟨_,av (show D<zY.length from a9)⟩;have cK:=za (W0 (x:=⟨⟨p,none⟩,z,L,a⟩) hins K);have cB:=za (Tl l A cs.length ⟨⟨p,none⟩,z,L,a⟩ bl.o rfl sh (by rw[hins];exact K));have cE:=za (λh=>Th l A cs.length ⟨⟨p,none⟩,z,L,a⟩ rfl h);obtain⟨fd,ff⟩:=SZ D sh K;have Q:=za K;have a6:=hins;have bv:=za hins;obtain⟨fB,tk,cn⟩:=sh;simp only at fd ff;obtain⟨q,dc⟩:∃q:Bool,q=decide (0<=z-(tk:Int)):=⟨_,rfl⟩;have em:=za dc;have dP:decide ((tk:Int)<=z)=q:=(by rw[dc];apply decide_eq_decide.2;omega);clear dc;clear hins a6 K;have a5:p<l.length∨(¬p<l.length/\0<z):=(by omega);clear Y b2 O bg H dl;rcases a5 with dY|⟨dY,e3⟩
    all_goals
     go_wp2_with fail;go_quiet (fail);obtain⟨W,c2⟩:∃W,W=wr.drewN nq:=⟨_,rfl⟩;rw[<- c2];have r:xB wr W:=c2▸PF (Below.refl wr.heap.size wr) nq;have bk:=za (aA.o.below r);have ar:=za (co.fr (T:=λ_=>False) (Fr.Mo r) (λ_ e=>e.elim));have be:=za (ck.o.gA r);have E:=za (VG S f c B _ g l ⟨p,none⟩ ⟨bs,o,A,cs,L,a⟩ W bk.o ⟨_,_,_,ar.o⟩ J da c9);rw[bv.o] at E;clear c2 r
     go_upto_region 6 with (first
      | (go_at_call 61;revert bA;intro bA;refine (QP S f _ g l t q _ (bA.o.below (zq _ _))).mono ?_;rintro e n ⟨rfl,M,N⟩;have du:=za M;have dw:=za N;have dk:m.heap.size+1<=n.heap.size:=(by have:=N.size;simp at this;omega);have ce:11<n.heap.size:=(by omega);have t1:=M.Oj.t D _ Q.o;have t2:=M.Oj.g D _ Q.o;have KI:=za ((cl.o.fr (T:=λ_=>False) (Fr.Mo (zq m _)) (λ_ e=>e.elim)).fr N (λk e=>e▸J));have a4:=(N.block m.heap.size (by simp) (by have:=ze bA.o.aC;omega)).trans (zc m _);obtain⟨ev,ex,eE,eG⟩:=zp a4;have bp:=za a4;clear M N a4)
      | (go_at_call 117;refine E.o.mono ?_;rintro e m ⟨rfl,M,N⟩;have bA:=za M;have dq:=za N;have di:W.heap.size<=m.heap.size:=N.size;have cg:=M.gl.size;have cd:11<m.heap.size:=dD (show 11<21 by decide) cg;have s1:=M.Oj.t D _ Q.o;have s2:=M.Oj.g D _ Q.o;have cl:=za (ar.o.fr N (λk e=>e▸J));clear M N))
     obtain⟨eN,eQ,eR,eS,dz,dH,eW,cz⟩:=zt KI.o.aC;simp only at dz dH;clear t1 t2 s1 s2 E m0 m1 m2 m3 m4 m5 fg fh eb ct rf;go_upto_region 7 with fail;obtain⟨U,bC⟩:∃U,U=max L (z-(tk:Int)+(cn:Int)).toNat:=⟨_,rfl⟩;have b4:max (L:Int) (z-(tk:Int)+(cn:Int))=(U:Int):=(by omega);rw[b4];have cm:=za (KI.o.Rj (i:=4) (u:=(xI (U:Nat))) (K':=⟨bs,o,A,cs,U,a⟩) (zh _ _ _ _ KI.o.aC) rfl rfl rfl);have bY:c<m.heap.size:=ze cl.o.aC;have ds:=za ((((be.o.rc dq.o).alloc _).rc dw.o).R9 cm.o.2);refine zn (λV=>UI B c eF eX (.slice xr a.length a0) ⟨bs,o,A,cs,U,a⟩ V/\RL S V f (.slice es l.length cR) g l (MT q t)/\Fr (λk=>k=f∨c<=k) w V/\xH V m.heap.size #[.int .u8 (D:Nat),xI y] 108) ⟨cm.o.1,du.o.code cm.o.2 J bt.o bB,ds.o,zr (by omega) bp.o⟩ ?_;rintro V ⟨vI,vR,ek,vB⟩;obtain⟨b,dM⟩:∃b,b=m.heap.size:=⟨_,rfl⟩;rw[<- dM] at vB ⊢;have eZ:c<b:=(by omega);obtain⟨e0,e1,fl,fr⟩:=zp vB;obtain⟨f0,f1,f2,f3,f4,f5,ft,fz⟩:=zt vI.aC;have VI:=za vI;have er:=za vR;have eq:=za ek;have fj:=vI.hB;have fk:=vI.Mu;have cA:=za bC;have Z:a.length+1<=maxLen:=(by unfold maxLen;omega);have X:(a.length+1)*16<=140737488355328:=(by omega);have bx:=za Z;have bq:=za X;have bL:∀k,(Value.slice xr a.length a0).ownBlock=some k->¬k=b:=λk e=>by have:=(cl.o.zA.lt k e).2;omega
     have bo:=za bL;clear Z X vI vR ek vB bC b4 cm ds KI du dw bA dq cl bk ar be ck aA ch co dM f0 f1 f2 f3 f4 eN eQ eR eS dz dH eW cz ev ex eE eG bp di dk cd ce bY bL
     go_region_law (first
      | (refine zJ _ rfl (.tmp 61) (.tmp 63) 101 rfl B 108 i0 _ 2 16 underlying101 hi c4 c5 c6 rfl (by decide) (.slice xr a.length a0) a.length (MU a) rfl (zD VI.o.zA _) (xD V.heap.size 0) 1 1 [.int .u8 (D:Nat),xI y] rfl rfl (zN (zc V _) rfl) Yf bx.o bq.o (by simp;omega) ?_;intro v' w9 C I ab;obtain⟨g9,dL,rfl,e5⟩:=zM C (by omega);have F:=(Fr.gi I).cQ;have b3:=(F.block c (by simp;omega) (λh=>by have:=(VI.o.zA.lt _ h).1;omega)).trans ((Below.heap_alloc _ _ _ (by omega)).trans VI.o.aC);obtain⟨g0,g1,g2,g3,g4,g5,gf,gz⟩:=zt b3;have n0:=OH F (zj _ e0) (by simp;omega) (λh=>bo.o _ h rfl);have n1:=OH F (zj _ e1) (by simp;omega) (λh=>bo.o _ h rfl);have cv:=za F;have aV:=za C;have aL:=za ab;clear C I ab F b3))
     all_goals go_wp2_with fail
     all_goals go_roundg (gk-1)
     all_goals first
      | (have:=P.o;omega)
      | (have c0:=VI.o.Rb cv.o aV.o (λk e=>(aL.o k e).imp id (λh=>by have h':(V.alloc (.cells #[.int .u8 (D:Nat),xI y] 108)).heap.size<=k:=h;rw[au] at h';exact h'))
         have ea:=cB.o;have q2:=cE.o;have q3:=bb.o;have c1:Nw l A cs.length ⟨⟨p,none⟩,z,L,a⟩=⟨MT q t,z-(tk:Int)+(cn:Int),U,a++[(D,y)]⟩:=(by rw[cK.o,em.o,cA.o]);rw[c1] at ea q2 q3;have bK:=er.o.code c0.2 J bt.o bB;have q4:=q2 bK.le;refine⟨⟨MT q t,z-(tk:Int)+(cn:Int),U,a++[(D,y)]⟩,rfl,za ⟨ea,?_,?_,q3⟩,bK,c0.1,eq.o.R9 c0.2⟩
         . have:=cO.o;have:=P.o;simp;omega
         have:=P.o;omega)
end
section
variable {l:Xn} {g:Nat} {w:Xw}
theorem By.take {a:Xp}{c n:Nat}(h:By w (.slice a l.length c) g l)(v:n<=l.length):By w (.slice a n c) g (l.take n):=by
 obtain⟨s,t,k,u,m,p⟩:=h.ex;cases k;have q:(l.take n).length=n:=by rw[List.length_take];omega
 refine⟨⟨a,c,by rw[q],by omega,m,λd=>?_⟩,λx r=>h.lt x (List.mem_of_mem_take r)⟩;obtain⟨o,f,i⟩:=p (by intro e;subst e;simp at d);refine⟨o,f,λj x b=>i j x ?_⟩;rw[List.getElem?_take] at b;split at b
 . exact b
 cases b
def Oq (S:Xs)(p:Int):Value:=.iface 71 (.agg #[aW S 10,xI p])
def NZ (l:Xn):Option (List Nat) :=
 if l.length<8∨1048576<l.length then none
 else if (MP l ⟨l.length-8,none⟩).1=Od (l.take (l.length-8)) then some (l.take (l.length-8)) else none
def RG (S:Xs)(a:Xp)(c:Nat)(l:Xn)(o:Option (List Nat))(e:Ending):Prop :=
 match o with
 | none=>∃p,e=.returned (.tuple #[.slice none 0 0,Oq S p])
 | some b=>e=.returned (.tuple #[.slice a b.length c,.nilIface])/\b=l.take (l.length-8)/\b.length<=1048576
theorem RL.new {S:Xs}{v:Xv}(a:Gl S w)(b:Nq w)(h:By w v g l)(c:g<w.heap.size)(d:l.length<=1048576)(p:Nat)(f:p<=l.length) :
 RL S (w.alloc (.cells #[v,xI (p:Nat),.nilIface] 144)) w.heap.size v g l ⟨p,none⟩:=by
 have hF:Fr (λ_=>False) w (w.alloc (.cells #[v,xI (p:Nat),.nilIface] 144)):=(Fr.refl _ w).alloc _;exact⟨zc w _,h.of (Below.heap_alloc _ _ _ c),f,d,by omega,a.size,a.of hF (λ_ e=>e.elim),b.am (hF.am a.size (λ_ e=>e.elim)) (an _)⟩
theorem VU (S:Xs)(a:Xp)(c g:Nat)(l:Xn)(w:Xw)(s:Gl S w)(M:Nq w)(H:By w (.slice a l.length c) g l)(N:g<w.heap.size) :
 xK 60 #[.slice a l.length c] w (λe I=>(xB w I)/\RG S a c l (NZ l) e):=by
 obtain⟨a',c',q,r,L,V⟩:=H.ex;cases q;have ab:c<=9223372036854775807:=by unfold maxLen at L;omega
 have F:=s.mS;unfold aW at F;have A:=s.size;have R:=za s;have T:=za M;have K:=za H;clear s M H L V;by_cases C:l.length<8∨1048576<l.length
 . have p:aa (NZ l=none):=by unfold aa NZ;rw[ag C]
   by_cases D:l.length<8
   all_goals
    go_enter func60,ntmps60;go_wp2_with (go_at_call 42;refine (Qg S 10 _ _).mono ?_;rintro e Q ⟨rfl,i⟩;have u:=za i;clear i);exact bodyPost_ret (v:=.tuple #[.slice none 0 0,Oq S 0]) (by simp[results,results60,go_sem,Oq,aW]) rfl ⟨u.o,by rw[p.o];exact⟨0,rfl⟩⟩
 have D:¬l.length<8:=by omega
 have E:l.length<=1048576:=by omega
 obtain⟨n,O⟩:∃n,l.length=n+8:=⟨l.length-8,by omega⟩;have j:NZ l=if (MP l ⟨n,none⟩).1=Od (l.take n) then some (l.take n) else none:=by unfold NZ;rw[ae C,show l.length-8=n by omega]
 have m:(l.take n).length=n:=by rw[List.length_take];omega
 have G:n=l.length-8:=by omega
 have y:=za (λX (Z:X=(Obj.cells #[.slice a l.length c,xI (n:Nat),.nilIface] 144 (0,0)))=>(Ry S w.heap.size (.slice a l.length c) g l ⟨n,none⟩ (w.alloc X).drew ((Z▸RL.new R.o T.o K.o N E n (by omega):RL S (w.alloc X) w.heap.size (.slice a l.length c) g l ⟨n,none⟩).below (zo (Below.refl _ _)))));have f:=za (λW (Y:W.heap[g]?=w.heap[g]?)=>Tg (l.take n) (.slice a n c) g W ((K.o.of Y).take (by omega)));obtain⟨sm,o⟩:∃sm,sm=Od (l.take n):=⟨_,rfl⟩;rcases hN:MP l ⟨n,none⟩ with ⟨X,t⟩;rw[hN] at y j;rw[<- o] at f j;simp only at y j;have p:=za j;have h:=za m;have U:=za O;have aA:IntKind.i64.wrap ((l.length:Int)-8)=(n:Int):=by rw[IntKind.wrap_i64];omega
 have aL:(l.length:Int)-8=(n:Int):=by omega
 have ar:n<=c:=by omega
 clear j m O hN o C G;go_enter func60,ntmps60;go_upto_region 5 with fail
 go_region_held3 (λI=>I.cell? (xD 10 0)=some (.iface 324 (.pointer (some (S 10)))))
  (repeat (first|with_reducible exact F|with_reducible exact i1|with_reducible refine zg ?_|with_reducible refine zj _ ?_))
  (first
    | (go_at_call 98;revert J;intro J;refine (f.o Q x.o).mono ?_;rintro e w2 ⟨rfl,rfl⟩)
    | (go_at_call 114;refine (y.o _ rfl).mono ?_;rintro e Q ⟨rfl,q,r⟩;have J:=za q;have x:=za ((r.block g (by simp;omega) (by omega)).trans (Below.heap_alloc _ _ _ N));have b:=za ((((Fr.refl (·=w.heap.size) w).alloc _).trans r.cQ).below (B:=w.heap.size) (an _) (λk e=>Nat.le_of_eq e.symm));have i1:=zd b.o F (dD (show 10<21 by decide) A);clear q r))
 by_cases d:X=sm
 . have z:aa (NZ l=some (l.take n)):=by unfold aa;rw[p.o,ag d]
   subst d;go_wp2_with fail;exact bodyPost_ret (v:=.tuple #[.slice a n c,.nilIface]) (by simp[results,results60,go_sem]) rfl ⟨b.o,by rw[z.o];exact⟨by rw[h.o],by rw[show l.length-8=n by have:=U.o;omega],by rw[h.o];omega⟩⟩
 have z:aa (NZ l=none):=by unfold aa;rw[p.o,ae d]
 have P:(X != sm)=true:=by simpa using d
 go_wp2_with (go_at_call 42;refine (Qg S 10 _ _).mono ?_;rintro e w3 ⟨rfl,i⟩;have u:=za (b.o.trans (i.mono b.o.size));clear i);exact bodyPost_ret (v:=.tuple #[.slice none 0 0,Oq S n]) (by simp[results,results60,go_sem,Oq,aW]) rfl ⟨u.o,by rw[z.o];exact⟨n,rfl⟩⟩
end
end Go.Proofs.YtbicmofihhjgbaaGreatDoor
