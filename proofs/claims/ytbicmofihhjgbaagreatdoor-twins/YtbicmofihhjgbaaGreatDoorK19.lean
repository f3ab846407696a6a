/- Part 20 of the proof. -/
import Derived.Test.YtbicmofihhjgbaaGreatDoorK18
set_option maxRecDepth 100000
set_option maxHeartbeats 8000000
namespace Go.Proofs.YtbicmofihhjgbaaGreatDoor
open Go.Proofs.Tryz
open Go.RowKit
section
variable {s:Cd×List Lt} {B N f l g a j z:Nat} {c:Sc} {m n:Xv} {W p:Xw}
attribute [local go_sem ↓] Go.wp_at_zero Go.wp_at_succ
def RU (N B j g a l f:Nat)(c:Sc)(m n:Xv)(b:Sc->Nat->Cd->Cd)(h:Nat)(o:Tm->Nat×Nat->Prop):Prop :=
 ∀t k,o t k->t.k=4->∀(s:Cd×List Lt) lv W v,WL N B j g a l f c m n lv s.1 s.2 W->TT W N t v->M9 W->Nn (zs b c f h s t k) ->
  xK 198 #[xP j,xP a,v,hG k] W (λe i=>e=.returned (.tuple #[])/\(∃d,WL N B j g a l f c m n d (NK b c f h s.1 t k) s.2 i)/\FT (CT g a) W i)
structure OA (N B j g a l f:Nat) (c:Sc) (m n:Xv) (z:Nat) (s:Cd×List Lt) (W:Xw):Prop where
 wl:∃lv,WL N B j g a l f c m n lv s.1 s.2 W
 ops:M9 W
 x1:W.heap[z]?=some (.cells #[xP j] 193 (0,0))
 x2:W.heap[z+1]?=some (.cells #[xP a] 111 (0,0))
 n1:¬CT g a W z
 n2:¬CT g a W (z+1)
theorem OA.ad {d:Cd×List Lt}(q:21<=N)(h:OA N B j g a l f c m n z s W)(r:∃o,WL N B j g a l f c m n o d.1 d.2 p)(b:FT (CT g a) W p):OA N B j g a l f c m n z d p:=by obtain⟨o,i⟩:=h.wl;exact⟨r,h.ops.am (b.am i.wi.qi.hN (λk e=>(i.lt k e).1)) q,(b.fr.block _ (ze h.x1) h.n1).trans h.x1,(b.fr.block _ (ze h.x2) h.n2).trans h.x2,b.not (ze h.x1) h.n1,b.not (ze h.x2) h.n2⟩
theorem OA.aq (e:21<=N)(h:OA N B j g a l f c m n z s W)(b:xB W p):OA N B j g a l f c m n z s p/\∀k,CT g a p k->CT g a W k:=by obtain⟨i,d⟩:=h.wl;exact⟨h.ad e ⟨i,d.aq b⟩ (FT.below b (d.tk b)),d.tk b⟩
theorem YE:zH 164:=λ_ _=>by kernel_rfl
theorem YF:zH 165:=λ_ _=>by kernel_rfl
theorem XS (t:Tm)(v:Xv)(k:Nat×Nat)(w:Xw)(r:TT w N t v) :
 xK 164 #[v,hG k] w (λe F=>e=.returned (.bool (gH t))/\xB w F):=by
 obtain⟨b,q,J,rfl,G,d,_⟩:=r.ptr;obtain⟨u,y,A,C,D,E,H,I⟩:=zt d;clear r d y A C D E;unfold hG;by_cases h:t.k=9
 . have i:aa (gH t=false):=by unfold aa gH;simp[h]
   have x:w.cell? (xD b 0)=some (xI 9):=(by rw[u,h];rfl);clear h u;go_enter func164,ntmps164;go_wp2_with fail;go_ret;rw[i.o];exact⟨rfl,zq w _⟩
 have i:aa (gH t=true):=by unfold aa gH;simp[h]
 have o:¬(t.k:Int)=9:=by omega
 clear h;go_enter func164,ntmps164;go_wp2_with fail;go_ret;rw[i.o];exact⟨by simp[o],zq w _⟩
theorem XR (i:Sc->Nat->Cd->Cd)(x:Nat)(d:21<=N)(r:f<=100000)(t:Tm)(D:Wf t)(v:Xv)(k:Nat×Nat)(s:Cd×List Lt)(w:Xw)(M:TT w N t v)(h:OA N B j g a l f c m n z s w)(E:Nn (zs i c f x s t k))(G:Nn s)
 (q:t.k=4->∀O W,WL N B j g a l f c m n O s.1 s.2 W->TT W N t v->M9 W->xK 198 #[xP j,xP a,v,hG k] W (λe H=>e=.returned (.tuple #[])/\(∃P,WL N B j g a l f c m n P (NK i c f x s.1 t k) s.2 H)/\FT (CT g a) W H)) :
 xK 165 #[v,hG k,xP z,xP (z+1)] w (λe H=>e=.returned (.tuple #[])/\OA N B j g a l f c m n z (zs i c f x s t k) H/\FT (CT g a) w H):=by
 have S:=(λo=>(h.aq d (zq w o)).1);obtain⟨O,I⟩:=h.wl;have J:=(λo=>V7 i x d r t D v k s (w.alloc o) (M.am (OJ I.wi.qi.hN o)) (I.aq (zq w o)) (h.aq d (zq w o)).1.ops E G (λX W T U V=>q X O W T U V));have L:=(λo=>FT.below (zq w o) (I.tk (zq w o)));obtain⟨x0,ab,ar⟩:=zu h.x1;obtain⟨aA,aL,aV⟩:=zu h.x2;obtain⟨b,R,Z,rfl,Y,F,_⟩:=M.ptr;obtain⟨Q,C⟩:∃Q,zs i c f x s t k=Q:=⟨_,rfl⟩;rw[C] at J ⊢;unfold hG at J ⊢;clear h I M F q C E G D;go_enter func165,ntmps165;go_wp2_with (go_at_call 166;refine (J _).mono ?_;rintro e w2 ⟨rfl,A,y⟩;have K:=A;have u:=y;clear A y);first|go_end0|refine bodyPost_ret (results_none rfl _ _ _) rfl ?_
 exact⟨rfl,(S _).ad d K u,(L _).trans u⟩
theorem XG (q:Sc->Nat->Cd->Cd)(D:Nat)(A:Tm->Nat×Nat->Prop)(o:21<=N)(x:f<=100000)
 (I:∀t k,A t k->Wf t) (H:∀t k i u,A t k->gH t=true->t.ts[i]?=some u->A u (c.operand t i k)) (r:∀d b K,qv (q d b K)->qv K) (R:RU N B j g a l f c m n q D A) :
 yH N c m n l (CT g a) 164 #[] 165 #[xP z,xP (z+1)] A (λt _=>gH t) (λs _ _=>s) (zs q c f D) (OA N B j g a l f c m n z) Nn where
 sJ:=YE
 sK:=YF
 hT:=λs w k y e=>by obtain⟨M,L⟩:=y.wl;exact L.lt k e
 aq:=λs w U h Q=>h.aq o Q
 sub:=H
 bE:=λ_ _ _ h=>h
 bL:=λs t k h=>RO r s t k h
 sG:=λt v k s w hT S T F y G _=>by refine (XS t v k w hT).mono ?_;rintro e U ⟨E,C⟩;obtain⟨M,L⟩:=y.wl;exact⟨E,(y.aq o C).1,FT.below C (L.tk C)⟩
 p5:=λt v k s w hT S T F y G J=>XR q D o x t (I t k G) v k s w hT y J (RO r s t k J) (λP M W E C O=>R t k G P s M W v E C O J)
def My (b:Sc->Nat->Cd->Cd)(c:Sc)(f d:Nat)(s:Cd×List Lt)(t:Tm)(k:Nat×Nat):Cd×List Lt:=gK c (λt _=>gH t) (λs _ _=>s) (zs b c f d) t k s
theorem S2 {lv:Xv}(o:Sc->Nat->Cd->Cd)(E:Nat)(D:Tm->Nat×Nat->Prop)(q:21<=N)(C:f<=100000)
 (P:∀t k,D t k->Wf t) (O:∀t k i u,D t k->gH t=true->t.ts[i]?=some u->D u (c.operand t i k)) (x:∀d b K,qv (o d b K)->qv K) (a1:RU N B j g a l f c m n o E D)
 (t:Tm) (v:Xv) (k:Nat×Nat) (s:Cd×List Lt) (w:Xw) (ar:TT w N t v) (h:WL N B j g a l f c m n lv s.1 s.2 w) (V:M9 w) (a2:D t k) (R:Nn (My o c f E s t k)) :
 xK 103 #[xP j,xP a,v,hG k] w (λe r=>e=.returned (.tuple #[])/\(∃ab,WL N B j g a l f c m n ab (My o c f E s t k).1 (My o c f E s t k).2 r)/\FT (CT g a) w r):=by
 obtain⟨a4,L,nb,rfl,rfl,bb⟩:=h.wi.qi.sc.shape;obtain⟨b,a0,bA,rfl,bk,S,_⟩:=ar.ptr;have a6:∀(fn:Go.Fn) (first J:Xa) (w:Xw),(Instr.makeFunc fn first J).run prog w=.ok (.func fn first J) w:=λ_ _ _ _=>rfl;have H:=h;have Z:=V;have aA:=XG (z:=w.heap.size) o E D q C P O x a1;have a5:=a2;have Y:=R;have M:=h.wi.qi.hN;obtain⟨aV,I⟩:∃aV,My o c f E s t k=aV:=⟨_,rfl⟩;rw[I];clear h V S a1 P O x a2 R;unfold hG;go_enter func103,ntmps103;go_upto_region 3 with fail;refine zn (λW=>OA N B j g a l f c (xE a4 c L) (xP nb) w.heap.size s W/\xH W (w.heap.size+1+1) #[xI (k.1:Nat),xI (k.2:Nat)] 198/\¬CT g a W (w.heap.size+1+1)/\FT (CT g a) w W) ⟨⟨⟨lv,H.aq (mg w _ _ _)⟩,Z.am (yR M _ _ _) q,(iu w _ _ _).1,(iu w _ _ _).2.1,λe=>by have:=(H.lt _ (H.tk (mg w _ _ _) _ e)).2.1;omega,λe=>by have:=(H.lt _ (H.tk (mg w _ _ _) _ e)).2.1;omega⟩,(iu w _ _ _).2.2,λe=>by have:=(H.lt _ (H.tk (mg w _ _ _) _ e)).2.1;omega,FT.below (mg w _ _ _) (H.tk (mg w _ _ _))⟩ ?_;rintro W ⟨Q,a3,a9,G⟩;obtain⟨bB,bC,bE⟩:=zu Q.x2;obtain⟨z0,bK,bL,bY⟩:=zp a3;obtain⟨be,T⟩:=Q.wl;obtain⟨m0,m1,m2,m3,m4,bl,bo⟩:=bz T.wi.qi.aC;have hO:bV N w W:=G.am M (λk e=>(H.lt k e).1);have aL:=HA aA t k (xP b) s W.drew ((ar.am hO).am (λ_ _=>rfl)) T.wi.qi.hN (T.wi.qi.sc.am (λ_ _=>rfl)) (T.wi.qi.ck.gh (w':=W.drew) rfl) (Q.aq q (zo (Below.refl _ _))).1 a5 Y;unfold hG at aL;have n2:=Q.n2;clear Q a3 T hO m3 m4 aA
 go_region_held3 (λr=>r.cell? (xD (w.heap.size+1) 0)=some (xP a)/\r.cell? (xD (w.heap.size+1+1) 0)=some (xI (k.1:Nat))/\r.cell? (xD (w.heap.size+1+1) 1)=some (xI (k.2:Nat))/\r.cell? (xD a 0)=some (xE a4 c L)/\r.cell? (xD a 1)=some (xP nb)/\r.cell? (xD a 2)=some (.map (some l)))
  (first|(with_reducible (refine⟨?_,?_,?_,?_,?_,?_⟩ <;> repeat (first|assumption|refine zg ?_|refine FT.cell F ?_ (by assumption))))|go_keep)
  (first
    | (go_at_call 133;refine aL.mono ?_;rintro e w2 ⟨rfl,A,y⟩;obtain⟨bg,U⟩:=A.wl;obtain⟨bp,bq,bs,bt,bv,rf,bx⟩:=bz U.wi.qi.aC;have X:=A;have F:(FT (CT g a) W w2):=⟨y.fr.cQ,y.tk⟩;clear A y U))
 all_goals go_wp2_with fail
 all_goals first|go_end0|refine bodyPost_ret (results_none rfl _ _ _) rfl ?_
 all_goals rw[<- I]
 all_goals exact⟨rfl,X.wl,G.trans F⟩
end
section
variable {L:List (Nat×Nat)} {b:Nat} {w w':Xw}
attribute [local go_sem ↓] Go.wp_at_zero Go.wp_at_succ
def dN (w:Xw)(b:Nat)(L:List (Nat×Nat)):Prop :=
 ∃l:List ((Int×Int)×Value),fb w b pr l/\(∀p:Nat×Nat,(db (eD p) l).isSome=true↔p∈L)/\(∀k v,db k l=some v->v=.agg #[])
theorem dN.gh (h:dN w b L)(e:w'.heap[b]?=w.heap[b]?):dN w' b L:=by obtain⟨l,a,c,d⟩:=h;exact⟨l,a.of e,c,d⟩
theorem dN.lt (h:dN w b L):b<w.heap.size:=by obtain⟨l,a,_⟩:=h;exact a.lt
theorem dN.aq (h:dN w b L)(a:xB w w'):dN w' b L:=h.gh (a.block _ h.lt)
theorem Kd {p q:Nat×Nat}(h:eD p=eD q):p=q:=by simp only[eD,Prod.mk.injEq] at h;exact Prod.ext (by omega) (by omega)
theorem KJ (h:dN w b L)(p:Nat×Nat) :
 ∃w',(Instr.mapUpdate 239 (.map (some b)) (.agg #[xI (p.1:Nat),xI (p.2:Nat)]) (.agg #[])).run prog w=.ok () w'/\dN w' b (L++[p])/\Fr (·=b) w w':=by
 obtain⟨l,c,d,g⟩:=h;obtain⟨w',r,m,f⟩:=pq Tryz.tg underlying239 c (eD p) (.agg #[]);refine⟨w',r,⟨_,m,λq=>?_,λk v a=>?_⟩,f⟩
 . rw[rJ,bj];by_cases e:eD p=eD q
   . rw[ag e];simp[Kd e]
   rw[ae e,d q];refine⟨ao,λh=>h.resolve_right (λh=>e ?_)⟩;rw[cu.1 h]
 rw[rJ] at a;split at a
 . exact (Option.some.inj a).symm
 exact g k v a
theorem Tryz.GS (w:Xw):(zeroValue 281).run prog w=.ok (.agg #[]) w:=by kernel_rfl
theorem KZ (h:dN w b L)(p:Nat×Nat) :
 (Instr.lookup 239 (.map (some b)) (.agg #[xI (p.1:Nat),xI (p.2:Nat)]) true).run prog w=.ok (.tuple #[.agg #[],.bool (decide (p∈L))]) w:=by
 obtain⟨l,d,e,f⟩:=h;refine (rN Tryz.tg underlying239 Tryz.GS d (eD p) true).trans ?_;rw[ag rfl];have a:(db (eD p) l).getD (.agg #[])=.agg #[]:=by
  cases g:db (eD p) l with
  | none=>rfl
  | some v=>exact f _ _ g
 have c:(db (eD p) l).isSome=decide (p∈L):=by rw[Bool.eq_iff_iff,e p];simp
 rw[a,c]
theorem rX (i j:Nat)(w:Xw)(h:dN w b L) :
 xK 179 #[.map (some b),xI (i:Int),xI (j:Int)] w (λe w'=>e=.returned (.tuple #[])/\dN w' b (L++[(i,j)])/\Fr (·=b) w w'):=by
 obtain⟨f,d,c,a⟩:=KJ h (i,j);simp only at d;go_enter func179,ntmps179;go_wp2_with fail;first|go_end0|refine bodyPost_ret (results_none rfl _ _ _) rfl ?_
 exact⟨rfl,c,a⟩
theorem pc (i j:Nat)(w:Xw)(h:dN w b L) :
 xK 138 #[.map (some b),xI (i:Int),xI (j:Int)] w (λe w'=>e=.returned (.bool (decide ((i,j)∈L)))/\xB w w'):=by
 have a:=KZ h (i,j);simp only at a;go_enter func138,ntmps138;go_wp2_with fail;go_ret;exact⟨rfl,zq w _⟩
theorem Hv (a c n m:Nat)(L:List (Nat×Nat)):iE a c n (m+1) L=iE a c n m (if (c,a)∈L/\(a,n-(m+1))∈L then L++[(c,n-(m+1))] else L):=rfl
theorem Hm (a n m:Nat)(L:List (Nat×Nat)):iD a n (m+1) L=iD a n m (iE a (n-(m+1)) n n L):=rfl
theorem Hu (n m:Nat)(L:List (Nat×Nat)):kK n (m+1) L=kK n m (iD (n-(m+1)) n n L):=rfl
theorem pu {a:Xw}(h:xB w a):Fr (·=b) w a:=Fr.Mo h
theorem HY (n:Nat)(aA:n<=1000)(w:Xw)(V:dN w b L) :
 xK 137 #[.map (some b),xI (n:Int)] w (λe w'=>e=.returned (.tuple #[])/\dN w' b (jm n L)/\Fr (·=b) w w'):=by
 go_enter func137,ntmps137;go_wp2_with fail;go_loopg [8] (n+1) (λj i wr=>∃(k:Nat) (s:List (Nat×Nat)),k+j=n+1/\k<=n/\i=xI k/\aa (dN wr b s)/\aa (jm n L=kK n (j-1) s)/\aa (Fr (·=b) w wr));case atStart=>exact⟨0,L,by omega,aE _,rfl,V,rfl,Fr.refl _ _⟩
 case round =>
  obtain⟨k,s,Z,ar,rfl,C,v,z⟩:=hrel;by_cases ab:k<n
  . obtain⟨w1,rfl⟩:∃M,M=wr:=⟨_,rfl⟩;obtain⟨E,rfl⟩:∃g,g=gk:=⟨_,rfl⟩;go_wp2_with fail;go_loopg [12] (n+1) (λj i wr=>∃(d:Nat) (r:List (Nat×Nat)),d+j=n+1/\d<=n/\i=xI d/\aa (dN wr b r)/\aa (iD k n n s=iD k n (j-1) r)/\aa (Fr (·=b) w wr));case atStart=>exact⟨0,s,by omega,aE _,rfl,C.o,rfl,z.o⟩
    case round =>
     obtain⟨d,r,O,X,rfl,D,x,A⟩:=hrel;by_cases Q:d<n
     . obtain⟨w2,rfl⟩:∃M,M=wr:=⟨_,rfl⟩;obtain⟨F,rfl⟩:∃g,g=gk:=⟨_,rfl⟩;go_wp2_with fail;go_loopg [16] (n+1) (λj i wr=>∃(f:Nat) (p:List (Nat×Nat)),f+j=n+1/\f<=n/\i=xI f/\aa (dN wr b p)/\aa (iE k d n n r=iE k d n (j-1) p)/\aa (Fr (·=b) w wr));case atStart=>exact⟨0,r,by omega,aE _,rfl,D.o,rfl,A.o⟩
       case round =>
        obtain⟨f,p,P,Y,rfl,h,y,q⟩:=hrel;by_cases R:f<n
        . obtain⟨m,rfl⟩:∃m,gk=m+1+1:=⟨gk-1-1,by omega⟩;have N:=y.o;rw[show m+1+1-1=m+1 from rfl,Hv,show n-(m+1)=f by omega] at N;have l:=za N;have B:=za (pc d k wr h.o);by_cases G:(d,k)∈p
          . rw[decide_eq_true G] at B;by_cases H:(k,f)∈p
            . rw[ag ⟨G,H⟩] at l;have u:=za (λW (K:xB wr W)=>pc k f W (h.o.aq K));rw[decide_eq_true H] at u
              go_wp2_with (first
               | (go_at_call 179;refine U.o.mono ?_;rintro e w5 ⟨rfl,J,I⟩)
               | (go_at_call 138;refine (u.o _ c).mono ?_;rintro e T ⟨rfl,t⟩;have o:=za (c.trans (t.mono c.size));have U:=za (rX d f T (h.o.aq o.o)))
               | (go_at_call 138;refine B.o.mono ?_;rintro e S ⟨rfl,c⟩))
              go_roundg (m+1);case measure=>omega
              exact⟨f+1,p++[(d,f)],by omega,by omega,by go_num,J,l.o,(q.o.trans (pu o.o)).trans I⟩
            rw[ae (λe=>H e.2)] at l;have u:=za (λW (K:xB wr W)=>pc k f W (h.o.aq K));rw[decide_eq_false H] at u
            go_wp2_with (first
             | (go_at_call 138;refine (u.o _ c).mono ?_;rintro e T ⟨rfl,t⟩;have o:=za (c.trans (t.mono c.size)))
             | (go_at_call 138;refine B.o.mono ?_;rintro e S ⟨rfl,c⟩))
            go_roundg (m+1);case measure=>omega
            exact⟨f+1,p,by omega,by omega,by go_num,h.o.aq o.o,l.o,q.o.trans (pu o.o)⟩
          rw[ae (λe=>G e.1)] at l;rw[decide_eq_false G] at B;go_wp2_with (go_at_call 138;refine B.o.mono ?_;rintro e S ⟨rfl,c⟩);go_roundg (m+1);case measure=>omega
          exact⟨f+1,p,by omega,by omega,by go_num,h.o.aq c,l.o,q.o.trans (pu c)⟩
        have:f=n:=by omega
        subst this;have:gk=1:=by omega
        subst this;have l:aa (iE k d f f r=p):=y.o;go_wp2_with fail;go_roundg (F-1);case measure=>omega
        refine⟨d+1,p,by omega,by omega,by go_num,h.o,?_,q.o⟩;have a:=x.o;rw[show F-1=(F-1-1)+1 by omega,Hm,show f-(F-1-1+1)=d by omega,l.o] at a;exact a
     have:d=n:=by omega
     subst this;have:gk=1:=by omega
     subst this;have l:aa (iD k d d s=r):=x.o;go_wp2_with fail;go_roundg (E-1);case measure=>omega
     refine⟨k+1,r,by omega,by omega,by go_num,D.o,?_,A.o⟩;have a:=v.o;rw[show E-1=(E-1-1)+1 by omega,Hu,show d-(E-1-1+1)=k by omega,l.o] at a;exact a
  have:k=n:=by omega
  subst this;have:gk=1:=by omega
  subst this;have l:aa (jm k L=s):=v.o;go_wp2_with fail;first|go_end0|refine bodyPost_ret (results_none rfl _ _ _) rfl ?_
  exact⟨rfl,by rw[l.o];exact C.o,z.o⟩
end
section
variable {L:List (Nat×Nat)} {N n i o d j:Nat} {c:Sc} {p q:Xv} {w g:Xw}
attribute [local go_sem ↓] Go.wp_at_zero Go.wp_at_succ
structure jC (N:Nat) (c:Sc) (p q:Xv) (i d n o j:Nat) (L:List (Nat×Nat)) (w:Xw):Prop where
 lk:dN w d L
 sc:br w N c p q
 x1:w.heap[n]?=some (.cells #[.map (some d)] 239 (0,0))
 x2:w.heap[o]?=some (.cells #[xI (i:Int)] 3 (0,0))
 x3:w.heap[j]?=some (.cells #[p,q] 114 (0,0))
 d1:¬n=d
 d2:¬o=d
 d3:¬j=d
 l:N<=d
 hN:N<=w.heap.size
theorem jC.aq (h:jC N c p q i d n o j L w)(a:xB w g):jC N c p q i d n o j L g :=
 ⟨h.lk.aq a,h.sc.am (zm a h.hN),(a.block _ (ze h.x1)).trans h.x1,(a.block _ (ze h.x2)).trans h.x2,(a.block _ (ze h.x3)).trans h.x3,h.d1,h.d2,h.d3,h.l,aJ h.hN a.size⟩
theorem jC.put {b:List (Nat×Nat)}(h:jC N c p q i d n o j L w)(f:dN g d b)(a:Fr (·=d) w g):jC N c p q i d n o j b g :=
 ⟨f,h.sc.am (a.am h.hN (λ_ e=>e▸h.l)),(a.block _ (ze h.x1) h.d1).trans h.x1,(a.block _ (ze h.x2) h.d2).trans h.x2,(a.block _ (ze h.x3) h.d3).trans h.x3,h.d1,h.d2,h.d3,h.l,aJ h.hN a.size⟩
theorem rM {m:Nat}{W:Xw}{b:Nat}{v:Xv}(h:Fr (·=m) w W)(e:w.cell? (xD b i)=some v)(f:¬b=m):W.cell? (xD b i)=some v:=by
 have a:b<w.heap.size:=by
  rcases Nat.lt_or_ge b w.heap.size with h|h
  . exact h
  simp[World.cell?,Array.getElem?_eq_none h] at e
 exact (World.cell?_of_block (w:=w) (h.block b a f)).trans e
theorem KA:zH 180:=λ_ _=>by kernel_rfl
theorem Jd (N:Nat)(c:Sc)(p q:Xv)(i d n o j:Nat)(G:N<=d) :
 p4 N (·=d) 180 #[xP n,xP o,xP j] (λ_ _=>True) gH (λL t=>L++j0 c i t) (jC N c p q i d n o j) where
 enters:=KA
 hT:=λk e=>e▸G
 aq:=λs w g h K=>h.aq K
 sub:=λ_ _ _ _ _ _=>trivial
 call:=by
  intro t v L w hT M f _;obtain⟨V,D,T,rfl,rfl,P⟩:=f.sc.shape;have m:=za (rq w hT);obtain⟨b,H,a0,rfl,O,z,_⟩:=hT.ptr;obtain⟨I,m1,m2,m3,m4,m5,ar,S⟩:=zt z;obtain⟨W,X,Y⟩:=zu f.x1;obtain⟨Z,Q,ab⟩:=zu f.x2;obtain⟨aL,s1,aV,sz⟩:=zp f.x3;have d1:=f.d1;have d2:=f.d2;have d3:=f.d3;have F:¬b=d:=by omega
  have B:=za (hW t.s (t.nm:Int) w.drew (f.sc.am (λ_ _=>rfl)) M)
  show Calls prog _ #[xP b,xP n,xP o,xP j] w _;cases a:NA t.k with
  | true =>
    have y:¬t.k=9:=(by intro e;rw[e] at a;cases a);have A:aa (j0 c i t=[(i,c.idx t.s)]):=(by unfold aa j0;rw[ag a]);have x:aa (gH t=true):=(by unfold aa gH;simp[y]);rw[a] at m;have u:¬(t.k:Int)=9:=(by omega);go_enter func180,ntmps180;go_upto_region 2 with (go_at_call 124;refine m.o.mono ?_;rintro e g ⟨rfl,rfl⟩)
    go_region_held3 (λg=>g.cell? (xD n 0)=some (.map (some d))/\g.cell? (xD o 0)=some (xI (i:Int))/\g.cell? (xD j 0)=some (xE V c D)/\g.cell? (xD j 1)=some (xP T)/\g.cell? (xD b 2)=some (.string t.s)/\g.cell? (xD b 3)=some (xI t.nm))
     (first|(with_reducible (refine⟨?_,?_,?_,?_,?_,?_⟩ <;> repeat (first|assumption|refine zg ?_|refine rM r ?_ (by omega)|refine zd l.o ?_ (by omega))))|go_keep)
     (first
       | (go_at_call 179;refine J.o.mono ?_;rintro e w2 ⟨rfl,C,r⟩;have aA:=rM r (zd l.o I S) F)
       | (go_at_call 105;refine B.o.mono ?_;rintro e U ⟨rfl,E⟩;have l:=za (zw E);have J:=za (rX i (c.idx t.s) U (f.lk.aq l.o))))
    go_wp2_with fail;go_ret;rw[A.o,x.o];exact⟨by simp[u],(f.aq l.o).put C r,(pu l.o).trans r⟩
  | false =>
    have A:aa (j0 c i t=[]):=(by unfold aa j0;rw[a];rfl);rw[a] at m;by_cases y:t.k=9
    . have x:aa (gH t=false):=(by unfold aa gH;simp[y]);have R:w.cell? (xD b 0)=some (xI 9):=(by rw[I,y];rfl);go_enter func180,ntmps180;go_wp2_with (go_at_call 124;refine m.o.mono ?_;rintro e g ⟨rfl,rfl⟩);go_ret;rw[A.o,x.o,List.append_nil];exact⟨rfl,f,Fr.refl _ _⟩
    have x:aa (gH t=true):=(by unfold aa gH;simp[y]);have u:¬(t.k:Int)=9:=(by omega);go_enter func180,ntmps180;go_wp2_with (go_at_call 124;refine m.o.mono ?_;rintro e g ⟨rfl,rfl⟩);go_ret;rw[A.o,x.o,List.append_nil];exact⟨by simp[u],f,Fr.refl _ _⟩
theorem xO {α β:Type}(f:α->List β):∀(l:List α) (L:List β),l.foldl (λL t=>L++f t) L=L++l.flatMap f:=by
 intro l;induction l with
 | nil=>intro L;simp
 | cons a l b=>intro L;rw[List.foldl_cons,b,List.flatMap_cons,bw]
end
end Go.Proofs.YtbicmofihhjgbaaGreatDoor
