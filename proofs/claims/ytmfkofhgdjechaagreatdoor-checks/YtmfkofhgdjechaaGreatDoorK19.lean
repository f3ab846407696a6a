/- Part 20 of the proof. -/
import Derived.Shelf.Strings.Builder1
import Derived.Test.YtmfkofhgdjechaaGreatDoorK18
set_option maxRecDepth 100000
set_option maxHeartbeats 8000000
namespace Go.Proofs.YtmfkofhgdjechaaGreatDoor
open Go.Proofs.Tryz
section
open Go.RowKit
variable {d:Xl} {B N b:Nat} {o:Xv} {W f:Xw}
theorem aQ.room {i:Xw}(h:aQ b B f o W d)(m:xB W i):∃c,aQ b B i c i d/\(∀j,c.ownBlock=some j->j<W.heap.size)/\b<W.heap.size/\∀(q:Xw) (a:Xl),aQ b B i c q a->aQ b B f o q a:=by obtain⟨c,l,r⟩:=h.ln;have u:=r.fr.size;have:=h.le;have:=h.lt;have:=m.size;have n:Ln b B i c d:=⟨(m.block _ (ze l.aC)).trans l.aC,zi l.own (λg _ _ e=>m.block g (l.own.lt g e).2)⟩;refine⟨c,aQ.start n h.lt (by omega),λj e=>(l.own.lt j e).2,by omega,λq a k=>?_⟩;obtain⟨p,s,t⟩:=k.ln;exact⟨h.lt,h.le,h.lo,p,s,(r.trans ⟨Fr.dp m,λj e=>ao e⟩).trans t⟩
theorem y3 {w:Xw}{n s:Nat}{e:Xy}{g:Nat}{l:List Vr}(h:w.ownsRow B e 7 (xS g n s) n (eT l)){a i:Nat}{v:Vr}(u:l[a+i]?=some v) :
 w.cell? (xD g (a*7+i*7))=some (.string v.nm)/\w.cell? (xD g (a*7+i*7+1))=some (xI v.a)/\w.cell? (xD g (a*7+i*7+2))=some (xI (dv v:Nat))/\w.cell? (xD g (a*7+i*7+3))=some (xI (ba v:Nat))/\w.cell? (xD g (a*7+i*7+4))=some (xI v.on)/\w.cell? (xD g (a*7+i*7+5))=some (.string v.ck)/\w.cell? (xD g (a*7+i*7+6))=some (xI v.ca):=by
 obtain⟨x,t,c,j,k,m,p,q,r⟩:=hj h u;cases t;rw[Nat.add_mul] at c j k m p q r;exact⟨c,j,k,m,p,q,r⟩
theorem LF (h:aQ b B f o W d)(z:N<=b)(n:ay)(H:Nat)(g C:Nat)(D:Xv)(I:Xm)(A:NT f N n H (xS g n.ab.length C) D I)(k l a m c:Nat)
 (r:xH f k #[xP b] 140) (s:xH f l #[.slice (some (xD g (a*7))) m c] 141) (p:¬k=b) (y:¬l=b) (t1:¬o.ownBlock=some k) (t2:¬o.ownBlock=some l)
 (i:Nat) (v:Vr) (F:i<m) (_hm16:m<=16) (E:n.ab[a+i]?=some v) (G:(d++eB v).length<=10000000000) :
 xK 81 (#[xI i]++#[xP k,xP l]) W (ey b B f o (d++eB v)):=by
 have q:aa (∀(j:Xw) (t:Xl),aQ b B f o j t->j.cell? (xD k 0)=some (xP b)/\j.cell? (xD l 0)=some (.slice (some (xD g (a*7))) m c)/\j.cell? (xD g (a*7+i*7))=some (.string v.nm)/\j.cell? (xD g (a*7+i*7+1))=some (xI v.a)/\j.cell? (xD g (a*7+i*7+2))=some (xI (dv v:Nat))/\j.cell? (xD g (a*7+i*7+3))=some (xI (ba v:Nat))/\j.cell? (xD g (a*7+i*7+4))=some (xI v.on)/\j.cell? (xD g (a*7+i*7+5))=some (.string v.ck)/\j.cell? (xD g (a*7+i*7+6))=some (xI v.ca)):=by intro j t u;have w:=A.am (u.am z);exact⟨(zu (u.kept r p t1)).1,(zu (u.kept s y t2)).1,y3 w.bZ E⟩
 obtain⟨K,M,P,Q,R,S,T,U,V⟩:=q.o _ _ h;have L:=ze (h.kept r p t1);have O:=ze (h.kept s y t2);have J:g<W.heap.size:=by have:=((A.am (h.am z)).bZ.lt g rfl).2;exact this
 have x:=za (sx h.drew v G);unfold lS at x
 show Calls prog _ #[xI i,xP k,xP l] W _;go_enter func81,ntmps81;go_region_held3 (λj=>j.cell? (xD k 0)=some (xP b)/\j.cell? (xD l 0)=some (.slice (some (xD g (a*7))) m c)/\j.cell? (xD g (a*7+i*7))=some (.string v.nm)/\j.cell? (xD g (a*7+i*7+1))=some (xI v.a)/\j.cell? (xD g (a*7+i*7+2))=some (xI (dv v:Nat))/\j.cell? (xD g (a*7+i*7+3))=some (xI (ba v:Nat))/\j.cell? (xD g (a*7+i*7+4))=some (xI v.on)/\j.cell? (xD g (a*7+i*7+5))=some (.string v.ck)/\j.cell? (xD g (a*7+i*7+6))=some (xI v.ca)) (first|go_keep|exact q.o _ _ p) (first|(go_at_call 80;refine x.o.mono ?_;rintro e X ⟨rfl,p⟩));all_goals first|go_end0|refine bodyPost_ret (results_none rfl _ _ _) rfl ?_
 all_goals exact⟨rfl,p⟩
theorem LG {S:Xs}(H:aQ b B f o W d)(z:N<=b)(gs:21<=N)(i9:Kn S f)(n:ay)(p:Nat)(vs h6:Xv)(xs:Xm)(hR:NT f N n p vs h6 xs)(hw:gP n)(g0:∀v∈n.ab,oe v)(lv:∀q∈n.eqs,ob S q)(iR:(d++ez n).length<=10000000000) :
 xK 34 #[xP b,xP p] W (ey b B f o (d++ez n)):=by
 have ds:=hR.am (H.am z);obtain⟨ck,c4⟩:∃ck,ck=(W.alloc (.cells #[xP b] 140)).alloc (.cells #[xP p] 78):=⟨_,rfl⟩;have bp:xB W ck:=c4▸((Below.refl _ W).alloc (an _) _).alloc (by simp) _;have c9:N<=W.heap.size:=by have:=H.lt;have:=H.le;have:=H.size;omega
 have dn:=ds.am (zm bp c9);have hQ:=za (rk ck dn hw.io (by have:=hw.aG;have:=hw.io;omega));have g4:(W.alloc (.cells #[xP b] 140)).alloc (.cells #[xP p] 78)=ck:=c4.symm;have hT:xH ck W.heap.size #[xP b] 140:=c4▸(Below.heap_alloc _ _ _ (by rw[au];omega)).trans (zc W _);have gc:ck.heap[W.heap.size+1]?=some (.cells #[xP p] 78 (0,0)):=by have:=zc (W.alloc (.cells #[xP b] 140)) (.cells #[xP p] 78);rw[au] at this;rw[c4];exact this
 have hg:=za hT;have hm:=za gc;obtain⟨kw,_,z2⟩:=zu gc;have a5:=za iR;have c0:=za bp;clear iR ds dn bp c4 hT gc;go_enter func34,ntmps34;go_upto_region 1 with fail;clear g4;go_wp2_with (go_at_call 76;refine hQ.o.mono ?_);rintro e cs ⟨g,t,rfl,rfl,c5⟩;have L:=za c5;clear c5;go_upto_region 2 with fail;obtain⟨b3,bk⟩:∃b3,b3=cs.heap.size:=⟨_,rfl⟩;have g5:=L.o.size;have l1:W.heap.size+1<b3:=by omega
 have X3:(cs.alloc (.cells #[.slice (some (xD g (n.ah*7))) n.aG (t-n.ah)] 141)).heap[b3]?=some (.cells #[.slice (some (xD g (n.ah*7))) n.aG (t-n.ah)] 141 (0,0)):=bk▸zc cs _;have X1:(cs.alloc (.cells #[.slice (some (xD g (n.ah*7))) n.aG (t-n.ah)] 141)).heap[W.heap.size]?=some (.cells #[xP b] 140 (0,0)):=(Below.heap_alloc _ _ _ (by omega)).trans ((L.o.block _ (by omega)).trans hg.o);have X2:(cs.alloc (.cells #[.slice (some (xD g (n.ah*7))) n.aG (t-n.ah)] 141)).heap[W.heap.size+1]?=some (.cells #[xP p] 78 (0,0)):=(Below.heap_alloc _ _ _ (by omega)).trans ((L.o.block _ (by omega)).trans hm.o);have X0:xB W (cs.alloc (.cells #[.slice (some (xD g (n.ah*7))) n.aG (t-n.ah)] 141)):=(c0.o.trans (L.o.mono (by omega))).alloc (by omega) _;rw[<- bk];refine zn (λm=>(xH m b3 #[.slice (some (xD g (n.ah*7))) n.aG (t-n.ah)] 141)/\xH m W.heap.size #[xP b] 140/\xH m (W.heap.size+1) #[xP p] 78/\xB W m) ⟨X3,X1,X2,X0⟩ ?_;clear X0 X1 X2 X3 hg hm c0 L hQ kw z2 g5 bk;rintro m ⟨bL,bx,bE,ak⟩;obtain⟨A,hN,a9,mk,i8⟩:=H.room ak;have l:=(hR.am (H.am z)).am (zm ak c9);have fv:Kn S m:=i9.ln (H.aH ak) (by omega);obtain⟨i2,ne,i3,i4,i5,i6,nm,pe⟩:=zt l.aC;have s:=l.lo;have a:aa (∀(r:Xw) (c:Xl),aQ b B m A r c->xC r W.heap.size 0 (xP b)/\xC r (W.heap.size+1) 0 (xP p)/\xC r b3 0 (.slice (some (xD g (n.ah*7))) n.aG (t-n.ah))/\xC r p 0 (.string n.nm)/\xC r p 2 (xS g n.ab.length t)/\xC r p 3 (xI n.ah)/\xC r p 4 (xI n.aG)/\xC r p 5 h6):=λr c C =>
  ⟨(zu (C.kept bx (by omega) (λe=>by have:=a9 _ e;omega))).1,(zu (C.kept bE (by omega) (λe=>by have:=a9 _ e;omega))).1,(zu (C.kept bL (by omega) (λe=>by have:=a9 _ e;omega))).1,(iP (C.am z) s).trans i2,(iP (C.am z) s).trans i3,(iP (C.am z) s).trans i4,(iP (C.am z) s).trans i5,(iP (C.am z) s).trans i6⟩
 obtain⟨y,D,E,F,G,I,J,K⟩:=a.o _ _ hN;have l3:=hw.io;have ip:=hw.bO;have io:=yE l.bZ;have m2:(0:Int)<=(n.ah:Int):=by omega
 have m3:(0:Int)<=(n.ah:Int)+(n.aG:Int):=by omega
 have m4:(n.ah:Int)+(n.aG:Int)<=(t:Int):=by omega
 have m5:((n.ah:Int)+(n.aG:Int)).toNat=n.ah+n.aG:=by omega
 have m6:IntKind.i64.wrap ((n.ah:Int)+(n.aG:Int))=(n.ah:Int)+(n.aG:Int):=by rw[IntKind.wrap_i64];omega
 have m7:(n.ah:Int)+(n.aG:Int)<=(n.ab.length:Int):=by omega
 have z0:W.heap.size+1<m.heap.size:=ze bE;have z3:b3<m.heap.size:=ze bL;clear ak i2 ne i3 i4 i5 i6 nm;have a3:aa (∀k,aQ b B m A (m.drewN k) d):=λk=>hN.aH ⟨rfl,rfl,rfl,an _,λ_ _=>rfl⟩;go_cut [5] (λv5 g9=>∃g8 i1,v5=.slice g8 (n.ab.length-(n.ah+n.aG)) i1/\aa (0<n.ab.length-(n.ah+n.aG)->g8=some (xD g ((n.ah+n.aG)*7)))/\aa (aQ b B m A g9 d));case first =>
  by_cases l2:n.ah+n.aG=t
  . have ns:(n.ah:Int)+(n.aG:Int)=(t:Int):=by omega
    have g7:n.ab.length-(n.ah+n.aG)=0:=(by omega);go_quiet (fail);go_wp2_with fail;go_meet;exact⟨_,_,by rw[g7],za (λH=>by omega),a3.o _⟩
  have nt:¬(n.ah+n.aG=t):=l2;have nx:¬(t=n.ah+n.aG):=by omega
  have n1:¬((n.ah:Int)+(n.aG:Int)=(t:Int)):=by omega
  go_quiet (fail);go_wp2_with fail;go_meet;exact⟨_,_,rfl,za (λ_=>rfl),a3.o _⟩
 case rest =>
  obtain⟨g8,i1,rfl,c3,ev⟩:=hcut;obtain⟨y,D,E,F,G,I,J,K⟩:=a.o _ _ ev.o;clear m2 m3 m4 m5 m6 m7 a3;have it:=hw.ah;have g3:=hw.aG;have kd:W.heap.size<m.heap.size:=by omega
  have i0:n.ab.length<=16:=hw.bO;have M:aa (∀W' c,aQ b B m A W' c->(c++gS ((n.ab.take n.ah).map eB)).length<=10000000000->xK 78 #[xP b,xI n.ah,.func (.func 79) #[] #[xP W.heap.size,xP (W.heap.size+1)]] W' (ey b B m A (c++gS ((n.ab.take n.ah).map eB)))):=by
   intro W' c C b2;have gl:((n.ab.take n.ah).map eB).length=n.ah:=(by simp;omega);have:=y2 (lb:=b) (B:=B) (w0:=m) (tv0:=A) 79 #[xP W.heap.size,xP (W.heap.size+1)] LL ((n.ab.take n.ah).map eB) (λi u hu fV eq bl U=>?_) W' c C b2 (by omega)
   . rw[gl] at this;exact this
   rw[List.getElem?_map,Option.map_eq_some_iff] at hu;obtain⟨x,b4,rfl⟩:=hu;have ca:n.ab[i]?=some x:=(by have cn:=(aB.1 b4).1;simp at cn;rw[List.getElem?_take_of_lt (by omega)] at b4;exact b4);exact LM bl z n p _ _ _ l _ _ bx bE (by omega) (by omega) (λe=>by have:=a9 _ e;omega) (λe=>by have:=a9 _ e;omega) i x ca U
  have O:aa (∀W' c,aQ b B m A W' c->(c++gS (((n.ab.drop n.ah).take n.aG).map eB)).length<=10000000000->xK 78 #[xP b,xI n.aG,.func (.func 81) #[] #[xP W.heap.size,xP b3]] W' (ey b B m A (c++gS (((n.ab.drop n.ah).take n.aG).map eB)))):=by
   intro W' c C b2;have gl:(((n.ab.drop n.ah).take n.aG).map eB).length=n.aG:=(by simp;omega);have:=y2 (lb:=b) (B:=B) (w0:=m) (tv0:=A) 81 #[xP W.heap.size,xP b3] LA (((n.ab.drop n.ah).take n.aG).map eB) (λi u hu fV eq bl U=>?_) W' c C b2 (by omega)
   . rw[gl] at this;exact this
   rw[List.getElem?_map,Option.map_eq_some_iff] at hu;obtain⟨x,b4,rfl⟩:=hu;have cn:=(aB.1 b4).1;simp at cn;have ca:n.ab[n.ah+i]?=some x:=(by rw[List.getElem?_take_of_lt (by omega),List.getElem?_drop] at b4;exact b4);exact LF bl z n p g t _ _ l _ _ n.ah n.aG _ bx bL (by omega) (by omega) (λe=>by have:=a9 _ e;omega) (λe=>by have:=a9 _ e;omega) i x (by omega) (by omega) ca U
  have mp:∀(fn:Go.Fn) (first be:Xa) (w:Xw),(Instr.makeFunc fn first be).run prog w=.ok (.func fn first be) w:=λ_ _ _ _=>rfl;obtain⟨T1,bs⟩:∃T,gS ((n.ab.take n.ah).map eB)=T:=⟨_,rfl⟩;obtain⟨T2,bt⟩:∃T,gS (((n.ab.drop n.ah).take n.aG).map eB)=T:=⟨_,rfl⟩;obtain⟨h,ar⟩:∃h,n.ab.drop (n.ah+n.aG)=h:=⟨_,rfl⟩;have em:n.ab.length-(n.ah+n.aG)=h.length:=by rw[<- ar];simp
  have X:aa (ez n=[⟨#[110,111,100,101]⟩,n.nm]++(T1++([⟨#[45,62]⟩]++(T2++((if 0<h.length then [⟨#[118,97,114]⟩] else [])++(h.flatMap fZ++([⟨#[123]⟩]++(n.eqs.flatMap gT++[⟨#[125]⟩])))))))):=by show ez n=_;unfold ez;rw[bs,bt,ar]
  rw[X.o] at a5;rw[bs] at M;rw[bt] at O;rw[em] at c3 ⊢;have c2:aa (∀i v,h[i]?=some v->n.ab[n.ah+n.aG+i]?=some v):=λi v cn=>by rw[<- ar,List.getElem?_drop] at cn;exact cn
  have c1:=za (show h.length<=16 by omega);clear bs bt ar em;go_upto_region 3 with fail;go_region_held3 (λr=>r.cell? (xD W.heap.size 0)=some (xP b)/\r.cell? (xD (W.heap.size+1) 0)=some (xP p)/\r.cell? (xD p 0)=some (.string n.nm)) (first|go_keep|exact⟨(a.o _ _ a2.o).1,(a.o _ _ a2.o).2.1,(a.o _ _ a2.o).2.2.2.1⟩) (first|(go_at_call 77;refine (pO ev.o [⟨#[110,111,100,101]⟩,n.nm] 2 rfl (by have:=a5.o;simp only[aP,bJ,cw] at this ⊢;omega) _ rfl).mono ?_;rintro e op ⟨rfl,h2⟩;have a2:=za h2;clear h2));obtain⟨y,D,E,F,G,I,J,K⟩:=a.o _ _ a2.o;have he:=a2.o.size;go_upto_region 4 with fail;go_region_held3 (λr=>r.cell? (xD W.heap.size 0)=some (xP b)/\r.cell? (xD (W.heap.size+1) 0)=some (xP p)/\r.cell? (xD p 3)=some (xI n.ah)) (first|go_keep|exact⟨(a.o _ _ cm.o).1,(a.o _ _ cm.o).2.1,(a.o _ _ cm.o).2.2.2.2.2.1⟩) (first|(go_at_call 78;refine (M.o _ _ a2.o.drew (by have:=a5.o;simp only[aP,bJ,cw] at this ⊢;omega)).mono ?_;rintro e or ⟨rfl,h3⟩;have cm:=za h3;clear h3));clear y D E F G I J K;obtain⟨y,D,E,F,G,I,J,K⟩:=a.o _ _ cm.o;have tk:=trivial;go_wp2_with (clear tk;go_at_call 77;refine (fY cm.o [⟨#[45,62]⟩] 1 rfl (by have:=a5.o;simp only[aP,bJ,cw] at this ⊢;omega) _ rfl).mono ?_);rintro e os ⟨rfl,h4⟩;have ex:=za h4;clear h4 y D E F G I J K;obtain⟨y,D,E,F,G,I,J,K⟩:=a.o _ _ ex.o;have tk:=trivial;go_wp2_with (clear tk;go_at_call 78;refine (O.o _ _ ex.o (by have:=a5.o;simp only[aP,bJ,cw] at this ⊢;omega)).mono ?_);rintro e m8 ⟨rfl,h8⟩;have cv:=za h8;clear h8 y D E F G I J K;obtain⟨y,D,E,F,G,I,J,K⟩:=a.o _ _ cv.o;obtain⟨P,g1⟩:∃P,d++[⟨#[110,111,100,101]⟩,n.nm]++T1++[⟨#[45,62]⟩]++T2=P:=⟨_,rfl⟩;obtain⟨V,g2⟩:∃V:Xl,(if 0<h.length then [⟨#[118,97,114]⟩] else [])=V:=⟨_,rfl⟩;have a0:aa (d++ez n=P++V++h.flatMap fZ++[⟨#[123]⟩]++n.eqs.flatMap gT++[⟨#[125]⟩]):=by show d++ez n=_;rw[X.o,g2,<- g1];simp only[bw]
  have Q:aa (P.length+V.length+(h.flatMap fZ).length+1+(n.eqs.flatMap gT).length+1<=10000000000):=by
   have:=a5.o;rw[<- X.o,a0.o] at this;simp only[aP,bJ,cw] at this
   show _<=_;omega
  rw[g1] at cv;have fx:=za g2;clear g1 g2 a5 X ev a2 cm ex M O he;go_upto_if 51 with fail;go_cut [] (λg9=>aa (aQ b B m A g9 (P++V)));case first =>
   by_cases h7:0<h.length
   . have go:(0:Int)<(h.length:Int):=(by omega);have Z:V=[⟨#[118,97,114]⟩]:=(by rw[<- fx.o,ag h7]);go_wp2_with (go_at_call 77;refine (fY cv.o [⟨#[118,97,114]⟩] 1 rfl (by have:=Q.o;rw[Z] at this;simp only[aP,bJ,cw] at this ⊢;omega) _ rfl).mono ?_;rintro e o7 ⟨rfl,h9⟩;have fd:=za h9;clear h9);go_meet;have:=fd.o;rw[Z];exact this
   have go:¬((0:Int)<(h.length:Int)):=(by omega);go_wp2_with fail;go_meet;have Z:V=[]:=by rw[<- fx.o,ae h7]
   show aQ b B m A m8 (P++V);rw[Z,List.append_nil];exact cv.o
  case rest =>
   have fd:=hcut;clear hcut fx y D E F G I J K cv;have gt:=c1.o;go_upto_region 10 with fail;go_loopg [57] (h.length+1) (λj i wr=>∃k:Nat,k+j=h.length+1/\k<=h.length/\i=xI k/\aa (aQ b B m A wr (P++V++(h.take k).flatMap fZ)));case atStart=>exact⟨0,by omega,aE _,rfl,za (by simpa using fd.o)⟩
   case round =>
    obtain⟨k,l6,l5,rfl,a4⟩:=hrel;have g6:=a4.o.size;have ge:W.heap.size<wr.heap.size:=(by omega);by_cases b1:k<h.length
    . obtain⟨v,hv⟩:∃v,h[k]?=some v:=⟨_,av b1⟩;obtain rfl:=c3.o (by omega);obtain⟨y,_⟩:=a.o _ _ a4.o;obtain⟨v0,of,v2,v3,v4,v5,ok⟩:=y3 (l.am (a4.o.am z)).bZ (c2.o k v hv);have R:(h.take (k+1)).flatMap fZ=(h.take k).flatMap fZ++fZ v:=(by rw[kN hv];simp);have er:=za (g0 v (aM (c2.o k v hv)) _ _ _ _ _ _ (a4.o.alloc (.cells #[.string v.nm,xI v.a,xI (dv v:Nat),xI (ba v:Nat),xI v.on,.string v.ck,xI v.ca] 156)) (by
       have ls:=Q.o;have h2:((h.take (k+1)).flatMap fZ).length<=(h.flatMap fZ).length:=by
        conv=>rhs;rw[<- List.take_append_drop (k+1) h]
        rw[List.flatMap_append,aP];omega
       rw[R] at h2;simp only[aP] at h2 ⊢;omega))
      unfold lS at er;clear hv;go_wp2_with (go_at_call 82;refine er.o.mono ?_;rintro e o8 ⟨rfl,i7⟩);go_roundg (gk-1);case measure=>omega
      refine⟨k+1,by omega,by omega,by go_num,za ?_⟩;have:=i7;rw[R,<- bw];exact this
    obtain rfl:k=h.length:=by omega
    rw[List.take_length] at a4;obtain⟨y,D,E,F,G,I,J,K⟩:=a.o _ _ a4.o;have tk:=trivial;go_wp2_with (clear tk;go_at_call 77;refine (fY a4.o [⟨#[123]⟩] 1 rfl (by have:=Q.o;simp only[aP,bJ,cw] at this ⊢;omega) _ rfl).mono ?_);rintro e m9 ⟨rfl,fq⟩;clear y D E F G I J K;obtain⟨y,D,E,F,G,I,J,K⟩:=a.o _ _ fq;obtain⟨pb,no,rfl⟩:=zB l.own;have m1:=fq.size;have m0:p<m9.heap.size:=(by omega);have lt:n.eqs.length<=9223372036854775807:=by
     rcases l.own.2 with ⟨_,H⟩|⟨g,be,ln,hv,_,_,h3,h4,_⟩
     . omega
     unfold maxLen at h4;omega
    go_upto_region 16 with fail;go_loopg [73] (n.eqs.length+1) (λj i nb=>∃k:Nat,k+j=n.eqs.length+1/\k<=n.eqs.length/\i=xI k/\aa (aQ b B m A nb (P++V++h.flatMap fZ++[⟨#[123]⟩]++(n.eqs.take k).flatMap gT)));case atStart=>exact⟨0,by omega,aE _,rfl,za (by simpa using fq)⟩
    case round =>
     obtain⟨k,md,l5,rfl,Y⟩:=hrel;have g6:=Y.o.size;have ge:W.heap.size<wr.heap.size:=(by omega);by_cases b1:k<n.eqs.length
     . obtain⟨q,es⟩:∃q,n.eqs[k]?=some q:=⟨_,av b1⟩;obtain⟨lo,n2,n3,rfl,h0,h1,h5,al⟩:=lj l.own l.eqs es rfl;have b0:=l.ko lo rfl;have d0:=(iP (Y.o.am z) b0).trans h0;have d1:=(iP (Y.o.am z) b0).trans h1;have d2:=(iP (Y.o.am z) b0).trans h5;obtain⟨le,_,_,rfl,_⟩:=al.tt.ptr;obtain⟨nd,lk,rfl⟩:=zB al.own;obtain⟨y,_⟩:=a.o _ _ Y.o;have eb:=aM es;have R:(n.eqs.take (k+1)).flatMap gT=(n.eqs.take k).flatMap gT++gT q:=(by rw[kN es];simp);have er:=za (lv q eb _ _ _ _ _ _ _ _ _ (Y.o.alloc (.cells #[.slice nd q.ns.length lk,xI q.a,xP le] 161)) z gs fv al (by
        have ls:=Q.o;have h2:((n.eqs.take (k+1)).flatMap gT).length<=(n.eqs.flatMap gT).length:=by
         conv=>rhs;rw[<- List.take_append_drop (k+1) n.eqs]
         rw[List.flatMap_append,aP];omega
        rw[R] at h2;simp only[aP,bJ,cw] at h2 ⊢;omega))
       clear es al eb h0 h1 h5;go_wp2_with (go_at_call 83;refine er.o.mono ?_;rintro e na ⟨rfl,fr⟩);go_roundg (gk-1);case measure=>omega
       refine⟨k+1,by omega,by omega,by go_num,za ?_⟩;have:=fr;rw[R,<- bw];exact this
     obtain rfl:k=n.eqs.length:=by omega
     rw[List.take_length] at Y;obtain⟨y,_⟩:=a.o _ _ Y.o;go_wp2_with (go_at_call 77;refine (fY Y.o [⟨#[125]⟩] 1 rfl (by have:=Q.o;simp only[aP,bJ,cw] at this ⊢;omega) _ rfl).mono ?_;rintro e na ⟨rfl,fr⟩);first|go_end0|refine bodyPost_ret (results_none rfl _ _ _) rfl ?_
     refine⟨rfl,i8 _ _ ?_⟩;have:=fr;rw[a0.o];exact this
end
section
open Go.RowKit
variable {a:Xm} {B b:Nat} {w:Xw}
theorem Tryz.tb:(prog.info? 5).map (λi=>(i.zero,i.size,i.bytes))=some (some (.int .u8 0),1,1):=by kernel_rfl
theorem Tryz.s6:(prog.info? 74).map (λi=>i.size)=some 2:=by kernel_rfl
theorem Tryz.Bb:liesAt prog prog.depth 74 (2 / prog.cellsOf 74) 0 74 1=true:=by kernel_rfl
theorem LU (b:Nat)(w:Xw)(f:xC w b 0 (xP b)) :
 xK 84 #[xP b] w λe d=>e=.returned (.tuple #[])/\d=w:=by
 obtain⟨j,c,_⟩:∃j,prog.info? 74=some j/\j.size=2:=by
  have:=Tryz.s6;cases h:prog.info? 74 with
  | none=>rw[h] at this;cases this
  | some j=>rw[h] at this;exact⟨j,rfl,by simpa using this⟩
 have g:=Lib.run_neq_ptr_same (P:=prog) w (xD b 0) underlying71 c;go_enter func84,ntmps84;go_wp2;first|go_end0|refine bodyPost_ret (results_none rfl _ _ _) rfl ?_
 exact⟨rfl,rfl⟩
theorem LK (b:Nat)(w:Xw)(i:xC w b 0 (.pointer none))(c:w.shape? b=some (74,2))(l:w.frozen? (xD b 0)=false) :
 xK 84 #[xP b] w λe g=>e=.returned (.tuple #[])/\g=w.setCell (xD b 0) (xP b):=by
 obtain⟨j,d,f⟩:∃j,prog.info? 74=some j/\j.size=2:=by
  have:=Tryz.s6;cases h:prog.info? 74 with
  | none=>rw[h] at this;cases this
  | some j=>rw[h] at this;exact⟨j,rfl,by simpa using this⟩
 have m:=λw=>Lib.run_neq_ptr_same (P:=prog) w (xD b 0) underlying71 d;have n:=Lib.run_to_unsafe (P:=prog) w (xD b 0) underlying71 underlying119 d (by rw[f];decide) c (Nat.zero_lt_succ 1);have o:=Lib.run_from_unsafe (P:=prog) w (xD b 0) underlying119 underlying71 d c Tryz.Bb;have k:(callFunc 143 #[xP b]).run prog w=.ok (.value (xP b)) w:=by rw[run_callFunc_extern func143 (by kernel_rfl) (by kernel_rfl) (by kernel_rfl) (e:=Extern.AbiNoEscape.same) (by kernel_rfl)];rw[Lib.run_noEscape];rfl
 go_enter func84,ntmps84;go_wp2;first|go_end0|refine bodyPost_ret (results_none rfl _ _ _) rfl ?_
 exact⟨rfl,rfl⟩
theorem yY (h:Lib.IsBuilder 74 5 B b a w) :
 xK 84 #[xP b] w λe c=>e=.returned (.tuple #[])/\Lib.BuilderAt 74 5 B b (xP b) a c/\Below B w c:=by
 rcases h with h|h
 . refine (LK b w h.cell0 h.shape h.frozen0).mono ?_;rintro e c ⟨rfl,rfl⟩;exact⟨rfl,h.used _,(Below.refl B w).setCell (p:=(xD b 0)) h.1 _⟩
 refine (LU b w h.cell0).mono ?_;rintro e c ⟨rfl,rfl⟩;exact⟨rfl,h,Below.refl B _⟩
theorem LC (c:Int)(h:Lib.IsBuilder 74 5 B b a w)(E:a.length+1<=10000000000000)(K:B<=w.heap.size) :
 xK 37 #[xP b,.int .u8 c] w λe G=>e=.returned .nilIface/\Lib.BuilderAt 74 5 B b (xP b) (a++[.int .u8 c]) G/\Below B w G:=by
 obtain⟨O,L,z,A,C⟩:=info_parts Tryz.tb;have H:=za (yY h);clear h;go_enter func37,ntmps37;go_wp2_with (go_at_call 84;refine H.o.mono ?_);rintro e r ⟨rfl,J,q⟩;obtain⟨D,v,l,n,x⟩:=J;have Q:r.cell? (xD b 0)=some (xP b):=by rw[Lib.cell_of_heap l];rfl
 have c1:r.cell? (xD b 1)=some v:=by rw[Lib.cell_of_heap l];rfl
 have y:b<r.heap.size:=(Array.getElem?_eq_some_iff.1 l).1;have S:=q.size;go_wp2_with (at_builtin;refine wpList_append_own _ rfl _ _ 72 rfl B 5 O (.int .u8 0) 1 1 underlying72 L z A C rfl (by decide) _ _ _ rfl (n.alloc _) (xD r.heap.size 0) 1 1 [.int .u8 c] rfl rfl ?c1 ?c2 ?c3 ?c4 ?c5 ?_);case c1 =>
  intro j u s
  match j,s with
  | 0,s=>simp at s;subst s;simp[Addr.add]
 case c2=>intro u F;simp at F;subst F;rfl
 case c3=>unfold maxLen;omega
 case c4=>omega
 case c5=>simp;omega
 intro P t d f _;have i:t.heap[b]?=some (.cells #[xP b,v] 74 (0,0)):=by rw[f.block b (by simp;omega) (λe=>x e.symm),Lib.alloc_old r _ b y];exact l
 have d0:t.cell? (xD b 0)=some (xP b):=by rw[Lib.cell_of_heap i];rfl
 have d1:t.cell? (xD b 1)=some v:=by rw[Lib.cell_of_heap i];rfl
 have f1:t.frozen? (xD b 1)=false:=Lib.frozen_of_heap i 1;obtain⟨g,m,rfl⟩:∃g m,P=xS g (a.length+1) m:=by
  rcases d.2 with ⟨_,R⟩|⟨g,m,I,N,_⟩
  . omega
  exact⟨g,m,N⟩
 have o:=za d;clear d;go_wp2;go_ret;refine⟨rfl,?_,?_⟩
 . exact Lib.BuilderAt.put (T:=74) (e:=5) D i (bs':=a++[.int .u8 c]) (by simpa using o.o) (by decide)
 exact ((q.alloc (by omega) _).grown f (by simp;omega) (λk M=>(n.lt k M).1)).setCell (p:=(xD b 1)) D _
theorem LD (s:Xb)(h:Lib.IsBuilder 74 5 B b a w)(D:a.length+s.size<=10000000000000)(J:B<=w.heap.size) :
 xK 35 #[xP b,.string s] w λe F=>e=.returned (.tuple #[xI s.size,.nilIface])/\Lib.BuilderAt 74 5 B b (xP b) (a++Lib.strCells s) F/\Below B w F:=by
 obtain⟨M,K,u,x,y⟩:=info_parts Tryz.tb;have G:=za (yY h);clear h;go_enter func35,ntmps35;go_wp2_with (go_at_call 84;refine G.o.mono ?_);rintro e z ⟨rfl,I,n⟩;obtain⟨C,v,i,j,q⟩:=I;have O:z.cell? (xD b 0)=some (xP b):=by rw[Lib.cell_of_heap i];rfl
 have P:z.cell? (xD b 1)=some v:=by rw[Lib.cell_of_heap i];rfl
 have r:b<z.heap.size:=(Array.getElem?_eq_some_iff.1 i).1;have Q:=n.size;go_wp2_with (at_builtin;refine Lib.wpList_append_own_string _ rfl _ _ 72 9 rfl B 5 M underlying72 underlying9 K u x y _ _ _ rfl j s rfl ?c3 ?c4 ?c5 ?_);case c3=>unfold maxLen;omega
 case c4=>omega
 case c5=>omega
 intro N o c d _;have f:o.heap[b]?=some (.cells #[xP b,v] 74 (0,0)):=by rw[d.block b r (λe=>q e.symm)];exact i
 have d0:o.cell? (xD b 0)=some (xP b):=by rw[Lib.cell_of_heap f];rfl
 have d1:o.cell? (xD b 1)=some v:=by rw[Lib.cell_of_heap f];rfl
 have f1:o.frozen? (xD b 1)=false:=Lib.frozen_of_heap f 1;obtain⟨A,E,m,rfl⟩:∃A E m,N=.slice A E m:=by
  rcases c.2 with ⟨t,_⟩|⟨g,m,H,t,_⟩
  . exact⟨_,_,_,t⟩
  exact⟨_,_,_,t⟩
 have l:=za c;clear c;go_wp2;go_ret2;refine⟨rfl,?_,?_⟩
 . exact Lib.BuilderAt.put (T:=74) (e:=5) C f (bs':=a++Lib.strCells s) (by simpa [Lib.strCells_length] using l.o) (by decide)
 exact (n.grown d (by omega) (λk L=>(j.lt k L).1)).setCell (p:=(xD b 1)) C _
end
section
open Go.RowKit
theorem yX {B b:Nat}{j:Xm}{w k:Xw}(h:Lib.IsBuilder 74 5 B b j w)(d:bV w.heap.size w k):Lib.IsBuilder 74 5 B b j k:=by
 rcases h with ⟨f,v,a,c,i⟩|⟨f,v,a,c,i⟩
 . exact ao ⟨f,v,(d b (ze a)).trans a,zi c (λg _ _ e=>d g (c.lt g e).2),i⟩
 exact ap ⟨f,v,(d b (ze a)).trans a,zi c (λg _ _ e=>d g (c.lt g e).2),i⟩
theorem Lv {a:List ay}{k:Nat}{n:ay}(h:a[k]?=some n):dU (a.take (k+1))=dU (a.take k)++jp n:=by unfold dU;rw[kN h];simp
theorem LB (n:ay):0<(ez n).length:=by unfold ez;simp
theorem LI (S:Xs)(N:Nat)(a:List ay)(ck:Nat)(w:Xw)(bp:Kn S w)(c3:PT w N a (xP ck))(hN:N<=w.heap.size)(bE:21<=N)(al:∀n∈a,gP n)(cm:∀n∈a,(∀v∈n.ab,oe v)/\∀q∈n.eqs,ob S q)(y:∀n∈a,(ez n).length<=10000000000)(Q:(dU a).length<=1000000000000) :
 xK 14 #[xP ck] w (λe w'=>e=.returned (.string ⟨(dU a).toArray⟩)/\xB w w'):=by
 obtain⟨c2,fx,xs,c0,c5,t,B⟩:=c3;cases c0;obtain⟨fd,fq,fv⟩:=zu t;obtain⟨gs,fr,rfl⟩:=zB B.own;have cn:=B.bO;have U:=za al;have bk:=za cm;have h:=za y;clear al cm y t;go_enter func14,ntmps14;go_upto_region 3 with fail;go_loopg [12] (a.length+1) (λj i wr=>∃k:Nat,k+j=a.length+1/\k<=a.length/\i=xI k/\aa (Lib.IsBuilder 74 5 w.heap.size w.heap.size (Lib.byteCells (dU (a.take k))) wr)/\aa (xB w wr));case atStart=>exact⟨0,by omega,aE _,rfl,za (ao ⟨an _,_,zc w _,World.ownsRow_nil _ _ _ _,by simp[Value.ownBlock]⟩),za ((Below.refl _ w).alloc (an _) _)⟩
 case round =>
  obtain⟨k,c9,fV,rfl,o,H⟩:=hrel;have F:=H.o.size;by_cases b1:k<a.length
  . obtain⟨n,a0⟩:∃n,a[k]?=some n:=⟨_,av b1⟩;have f:=aM a0;have C:=B.am (zm H.o hN);obtain⟨v,hv,nb,vs,ev,ex,rfl,Z⟩:=C.at' k n a0;obtain⟨g,rfl,b0⟩:=nB C.own hv;have c4:w.heap.size<wr.heap.size:=by rcases o.o with ⟨_,_,r,_⟩|⟨_,_,r,_⟩ <;> exact ze r
    obtain⟨p,l⟩:∃p,p=wr.alloc (.cells #[.slice none 0 0] 81):=⟨_,rfl⟩;have m:xB wr p:=l▸(Below.refl _ wr).alloc (an _) _;have b2:p.heap.size=wr.heap.size+1:=(by rw[l];simp);have Y:Ln wr.heap.size (wr.heap.size+1) p (.slice none 0 0) []:=⟨l▸zc wr _,World.ownsRow_nil _ _ _ _⟩;have bL:N<=wr.heap.size:=(by omega);have X:Kn S p:=(by have V:xB w p:=H.o.trans (m.mono F);refine⟨bp.gl.of (T:=λ_=>False) (Fr.dp V) (λ_ e=>e.elim),?_⟩;have s:=bp.oy;unfold Lib.TabIs World.var? at s ⊢;rw[Tryz.ot] at s ⊢;simp only[Option.bind_some] at s ⊢;rw[V.block _ (by have:=bp.gl.size;omega)];exact s);have b3:=za (LG (aQ.start Y (by omega) (by omega)) (N:=N) (by omega) bE X n nb vs ev ex (Z.am (zm m bL)) (U.o n f) (bk.o n f).1 (bk.o n f).2 (by simpa using h.o n f));have ds:wr.alloc (.cells #[.slice none 0 0] 81)=p:=l.symm;have bt:=za (Lv a0);have bs:=za (zm m (an _));have z:=za (H.o.trans (m.mono F));have dn:wr.heap.size<p.heap.size:=(by omega);have O:=za (h.o n f);have R:=za (LB n);clear a0 f C hv Z m b2 Y X l bk U h;have G:=trivial;go_wp2_with (clear G;go_at_call 34;refine b3.o.mono ?_);rintro e a2 ⟨rfl,r⟩;rw[List.nil_append] at r;obtain⟨es,b,d⟩:=r.ln;have P:aa (bV wr.heap.size wr a2):=λj I=>(r.am (an _) j I).trans (bs.o j I);have K:=za (yX o.o P.o);have D:=za (And.intro d.fr.os (And.intro d.fr.tape d.fr.output));have em:=r.size;obtain⟨t0,_,gc⟩:=zu b.aC;obtain⟨gt,ca,rfl,_⟩:=zM b.own R.o;have b4:=za (Tryz.strings_Join gt 0 ca (ez n) ⟨#[32]⟩ a2 (λj x eb=>by
     have:=r5 b.own (j:=j) (u:=.string x) (by simp[eb]);rw[Nat.zero_add];exact this) ((b.own.lt gt rfl).2) (by have:=O.o;omega) (by
     rcases b.own.2 with ⟨e,_⟩|⟨_,_,_,e,_,_,s,_⟩
     . cases e
     . cases e;exact s) (by
     have h1:(jp n).length<=(dU (a.take (k+1))).length:=(by rw[bt.o];simp);have s:(dU (a.take (k+1))).length<=(dU a).length:=by
      unfold dU
      conv=>rhs;rw[<- List.take_append_drop (k+1) a]
      rw[List.flatMap_append,aP];omega
     have h4:=Q;have a3:(Lib.join ((ez n).map (·.data.toList)) [32]).length<=(jp n).length:=by unfold jp Lib.join;simp
     show (Lib.join ((ez n).map (·.data.toList)) [32]).length<=_;omega))
    have A:aa ((dU (a.take k)).length+(Lib.join ((ez n).map (·.data.toList)) [32]).length+1<=1000000000000):=by
     have h1:(dU (a.take k)).length+(jp n).length=(dU (a.take (k+1))).length:=(by rw[bt.o];simp);have s:(dU (a.take (k+1))).length<=(dU a).length:=by
      unfold dU
      conv=>rhs;rw[<- List.take_append_drop (k+1) a]
      rw[List.flatMap_append,aP];omega
     have h4:=Q;have a3:(Lib.join ((ez n).map (·.data.toList)) [32]).length+1=(jp n).length:=by unfold jp Lib.join;simp
     show _<=_;omega
    obtain⟨J,ar⟩:∃J,Lib.join ((ez n).map (·.data.toList)) [32]=J:=⟨_,rfl⟩;have bl:aa (jp n=J++[10]):=(by show jp n=_;rw[<- ar];rfl);have M:aa (xK 36 #[.slice (some (xD gt 0)) (ez n).length ca,.string ⟨#[32]⟩] a2 λe w'=>e=.returned (.string ⟨J.toArray⟩)/\xB a2 w'):=(by rw[<- ar];exact b4.o);rw[ar] at A;obtain⟨ln,ak⟩:∃ln,(ez n).length=ln:=⟨_,rfl⟩;rw[ak] at M t0;clear ar b4 b d r b3 ak R O;have G:=trivial;go_wp2_with (clear G;go_at_call 36;refine M.o.mono ?_);rintro e cs ⟨rfl,c⟩;have eq:=c.size;have L:=za (yX K.o (zm c (an _)));have a4:aa (xB w cs):=(by have h1:bV w.heap.size wr cs:=λj I=>((zm c (an _)) j (by omega)).trans (P.o j (by omega));exact⟨c.os.trans (D.o.1.trans z.o.os),c.tape.trans (D.o.2.1.trans z.o.tape),c.output.trans (D.o.2.2.trans z.o.output),by omega,λj I=>(h1 j I).trans (H.o.block j I)⟩);have cv:=za (LD ⟨J.toArray⟩ L.o (by rw[Lib.byteCells_length];have:=A.o;show _+J.toArray.size<=_;simp;omega) (by omega));clear c;have G:=trivial;go_wp2_with (clear G;go_at_call 35;refine cv.o.mono ?_);rintro e ge ⟨rfl,h4,E⟩;have er:=E.size;have bx:=za (LC 10 (ap h4) (by rw[aP,Lib.byteCells_length,Lib.strCells_length];have:=A.o;show _+J.toArray.size+1<=_;simp;omega) (by omega));have a5:=za (a4.o.trans E);clear h4 E;have G:=trivial;go_wp2_with (clear G;go_at_call 37;refine bx.o.mono ?_;rintro e gl ⟨rfl,a3,W⟩;have a9:=za (a5.o.trans W);clear W);go_roundg (gk-1);case measure=>omega
    refine⟨k+1,by omega,by omega,by go_num,za (ap ?_),a9⟩;have:=a3;rw[bt.o,bl.o];have c1:Lib.byteCells (dU (a.take k)++(J++[10]))=Lib.byteCells (dU (a.take k))++Lib.strCells ⟨J.toArray⟩++[.int .u8 10]:=(by simp[Lib.byteCells,Lib.strCells]);rw[c1];exact this
  obtain rfl:k=a.length:=by omega
  rw[List.take_length] at o;go_wp2_with (go_at_call 38;refine (Tryz.Builder_String_any_k _ _ _ _ (Lib.IsBuilderF.of o.o) F).mono ?_;rintro e go ⟨rfl,_,be,_⟩);go_ret;exact⟨rfl,H.o.trans be⟩
end
section
open Go.RowKit
variable {c f:Fn}
theorem uR:∀{l:List Nd} {g e:List ay},dS l g->dS l e->g=e:=by
 intro l;induction l with
 | nil=>rintro g e rfl rfl;rfl
 | cons d l y => rintro g e ⟨a,L,rfl,w,h⟩ ⟨b,M,rfl,x,i⟩;rw[y h i];obtain⟨z,A,B,C,D,E⟩:=a;obtain⟨F,G,H,I,J,K⟩:=b;obtain⟨j,k,m,n,o,p⟩:=w;obtain⟨q,r,s,t,u,v⟩:=x;simp only at j k m n o p q r s t u v;subst j k m n o q r s t u;rw[qC p v]
theorem Kn.bl {S:Xs}{w W:Xw}(h:Kn S w)(b:xB w W):Kn S W:=by refine⟨h.gl.of (T:=λ_=>False) (Fr.dp b) (λ_ e=>e.elim),?_⟩;have a:=h.oy;unfold Lib.TabIs World.var? at a ⊢;rw[Tryz.ot] at a ⊢;simp only[Option.bind_some] at a ⊢;rw[b.block _ (by have:=h.gl.size;omega)];exact a
theorem uI (v:zX 18 194 f)(t:ig 18 c)(h:zv 17 c)(i:zv 18 f)(S:Xs)(src:Xb)(R:St×List Nd)(u:dm c f 1300 src=R)(z:src.size<=1200)(x:R.1.er=0)(q:R.2.length<=6)(n:List ay)(y:dS R.2 n)(w:Xw)(s:Gl S w) :
 xK 13 #[.string src] w (λe g=>∃b,e=.returned (.tuple #[xP b,.nilIface])/\PT g g.heap.size n (xP b)/\xB w g):=by
 refine (yG v t h i S 1300 (by decide) (by decide) src w s z (R:=R) u).mono ?_;rintro e g ⟨_,m,r⟩;obtain⟨a,rfl,j⟩:=m x;obtain⟨A,l,k⟩:=Ku j q;have:=uR l y;subst this;obtain⟨b,p,B,o,d⟩:=k;cases o;exact⟨b,rfl,⟨b,p,B,rfl,d⟩,r⟩
theorem zz (r:zX 18 194 f)(q:ig 18 c)(a:zv 17 c)(b:zv 18 f)(S:Xs)(src:Xb)(k p:Nat)(h:(1200<src.size/\k=1/\p=0)∨(src.size<=1200/\(dm c f 1300 src).1.er≠0/\k=(dm c f 1300 src).1.er/\p=(dm c f 1300 src).1.at'))(w:Xw)(m:Gl S w) :
 xK 13 #[.string src] w (λe j=>e=.returned (.tuple #[.pointer none,fN S iN k p])/\xB w j):=by
 rcases h with ⟨d,rfl,rfl⟩|⟨d,l,n,o⟩
 . refine (BW S src w m d).mono ?_;rintro e j ⟨rfl,g⟩;exact⟨rfl,g⟩
 refine (yG r q a b S 1300 (by decide) (by decide) src w m d rfl).mono ?_;rintro e j ⟨i,_,g⟩;refine⟨?_,g⟩;rw[i l,n,o];unfold cJ fN;rw[ae l]
end
section
open Go.RowKit
theorem BU (S:Xs)(src:Xb)(a:List ay)(j:∀n∈a,gP n)(t:∀n∈a,(∀v∈n.ab,oe v)/\∀q∈n.eqs,ob S q)(b:∀n∈a,(ez n).length<=10000000000)(i:(dU a).length<=1000000000000)(w:Xw)(r:Kn S w)
 (s:xK 13 #[.string src] w (λe k=>∃f,e=.returned (.tuple #[xP f,.nilIface])/\PT k k.heap.size a (xP f)/\xB w k)) :
 xK 8 #[.string src] w (λe k=>e=.returned (.tuple #[.string ⟨(dU a).toArray⟩,xI 0,xI 0])/\xB w k):=by
 have m:=za s;have h:=za (λW f (d:xB w W) (o:PT W W.heap.size a (xP f))=>LI S W.heap.size a f W (r.bl d) o (an _) (by have:=r.gl.size;have:=d.size;omega) j t b i);obtain⟨T,u⟩:∃T,(dU a).toArray=T:=⟨_,rfl⟩;rw[u] at h ⊢;clear s t b i j;go_enter func8,ntmps8
 go_wp2_with (first
  | (go_at_call 14;revert c;intro c;refine (h.o _ _ g.o c.o).mono ?_;rintro e y ⟨rfl,d⟩;have l:=za d)
  | (go_at_call 13;refine m.o.mono ?_;rintro e x ⟨f,rfl,o,d⟩;have p:=d.size;have c:=za o;have g:=za d))
 exact bodyPost_ret (v:=.tuple #[.string ⟨T⟩,xI 0,xI 0]) (by simp[results,results8,go_sem]) rfl ⟨rfl,g.o.trans (l.o.mono p)⟩
theorem oH {a b:Fn}(c:a=(a6 17).ex)(e:b=(a6 18).ex)(f:zv 17 a)(h:zv 18 b){g:Nat}{src:Xb}(q:src.size<=1200){R:St×List Nd}(z:dm a b g src=R)(p:R.1.er=0) :
 (∀d∈R.2,og d/\kY d)/\R.2.length<=6/\∃l,dS R.2 l/\(∀n∈l,gP n)/\∀n∈l,n.hf.length<=1201:=by
 have u:ZK a:=by rw[c];exact (qD 17).1
 have v:ZK b:=by rw[e];exact (qD 18).1
 have s:bI 17 a:=by rw[c];exact (ma 17).1
 have t:bI 18 b:=by rw[e];exact (ma 18).1
 obtain⟨j,m⟩:=vm c;obtain⟨k,o⟩:=vm e;have x:Inv 0 (⟨src,zZ src 0,0,0,0,[]⟩:St):=sk q;subst z;have A:=CN u v (g:=g) q;have B:=uU j k m o f h g src x p;have r:=FR s t f h g src x p;obtain⟨l,w,y⟩:=Di (λd i=>ER (r d i));exact⟨λd i=>⟨⟨A d i,B d i,ER (r d i)⟩,r d i⟩,CE a b g src,l,w,Eh j k m o f h q p w,y⟩
theorem Dw:∀t:Tm,cc t=vz t:=by
 intro t;have h:∀n (t:Tm),cc t<=n->cc t=vz t:=by
  intro n;induction n with
  | zero=>intro t b;cases t with|mk k a s nm m e=>rw[cc] at b;omega
  | succ n g =>
    intro t b;cases t with
    | mk k a s nm m e =>
      rw[cc] at b ⊢;rw[qz];have f:∀l:List Tm,gB l<=n->gB l=k8 l:=by
       intro l;induction l with
       | nil=>intro _;rfl
       | cons u l d => intro c;rw[gB] at c ⊢;rw[zf,g u (by omega),d (by omega)]
      rw[f e (by omega)];omega
 exact h _ t (an _)
end
section
variable {s:Xb} {c:Sc} {F:Sc->List Nat}
structure e3 (o:List Nd) (g:List ay):Prop where
 hN:dS o g
 r:∀d∈o,og d
 p:∀d∈o,kY d
 wf:∀n∈g,gP n
 bO:o.length<=6
variable {o:List Nd} {g:List ay} {k:Nat} {d:Nd} {n:ay}
theorem e3.ks (h:e3 o g)(b:o[k]?=some d)(i:g[k]?=some n):ht d n/\eH d.az 0 d.eqs n.eqs d.az.length:=by obtain⟨m,e,a⟩:=nr h.hN k d b;rw[i] at e;cases e;obtain⟨⟨j,f⟩,_⟩:=h.p d (aM b);have:=qC f.tq a.eqs;subst this;exact⟨a,f⟩
theorem e3.ok (h:e3 o g)(b:g[k]?=some n):eU ⟨g.take k,n⟩:=by
 refine⟨λm a=>h.wf m (List.mem_of_mem_take a),h.wf n (aM b),?_⟩;have:=h.hN.len;have:=h.bO
 show (g.take k).length<=6;rw[List.length_take];omega
def cR (F:Sc->List Nat)(g:List ay):List Nat:=(bB g).flatMap F
theorem vV {x:Nat}:x∈cR F g↔∃k n,g[k]?=some n/\x∈F ⟨g.take k,n⟩:=by
 unfold cR bB;rw[ed];constructor
 . rintro⟨c,e,b⟩;obtain⟨k,_,f⟩:=List.mem_filterMap.1 e;obtain⟨n,a,rfl⟩:=Option.map_eq_some_iff.1 f;exact⟨k,n,a,b⟩
 rintro⟨k,n,a,b⟩;exact⟨_,List.mem_filterMap.2 ⟨k,List.mem_range.2 (aB.1 a).1,by rw[a];rfl⟩,b⟩
theorem lW (h:zO (cR F g)=none)(b:g[k]?=some n):F ⟨g.take k,n⟩=[]:=by
 have a:=yz h;cases hF:F ⟨g.take k,n⟩ with
 | nil=>rfl
 | cons x l => have:=vV.2 ⟨k,n,b,show x∈F ⟨g.take k,n⟩ by rw[hF];exact ce ..⟩;rw[a] at this;cases this
theorem Gx {v:Vr}(h:v.tm=true):ba v≠0:=by
 rcases oR v with ⟨a,_⟩|⟨_,b⟩
 . rw[a] at h;cases h
 omega
theorem e3.p8 (h:e3 o g)(l:zO (cR Sc.cG g)=none)(j:o[k]?=some d)(f:g[k]?=some n):di o g k d n ⟨g.take k,n⟩:=by
 obtain⟨a,b⟩:=h.ks j f;have e:=ms (h.ok f) (lW l f);have i:=h.r d (aM j);refine⟨h.hN,λx t=>(h.r x t).o.ab,a,rfl,b,i.s.az,i.o.ab,e.root,λv r p=>e.ck v ?_ (Gx p),e.left,e.many,λq m=>((h.wf n (aM f)).eqs q m).2.1⟩
 show v∈n.ab;rw[a.ab];exact r
theorem e3.left (h:e3 o g)(f:zO (cR Sc.cG g)=none)(b:g[k]?=some n):∀q∈n.eqs,∀s∈q.ns,¬(⟨g.take k,n⟩:Sc).idx s<n.ah:=by have a:=lW f b;unfold Sc.cG at a;rw[ec,ec,ec] at a;exact λq e s i=>(xM ((h.wf n (aM b)).eqs q e).1 (mw a.1.2 q e) s i).2
theorem EJ:∀{l:List Vr} {i j:Nat} {v:Vr},l[j]?=some v->v.nm=s->∃f,bm s l i=some f/\f<=i+j
 | [],i,j,v,h,_=>by simp at h
 | x::l,i,j,v,h,b=>by
   rw[bm];by_cases a:x.nm=s
   . rw[ag a];exact⟨i,rfl,by omega⟩
   rw[ae a];cases j with
   | zero=>simp at h;subst h;exact absurd b a
   | succ j => obtain⟨f,e,m⟩:=EJ (i:=i+1) (j:=j) (by simpa using h) b;exact⟨f,e,by omega⟩
theorem vO:∀{l:List Vr} {i j:Nat} {v:Vr},dQ c l i=[]->l[j]?=some v->¬(c.nd.find v.nm).getD 0<i+j
 | [],i,j,v,_,h=>by simp at h
 | x::l,i,j,v,b,h=>by
   rw[dQ,ec,ec] at b;cases j with
   | zero => simp at h;subst h;intro a;rw[Nat.add_zero] at a;have:=b.1.1;rw[ag a] at this;cases this
   | succ j => have:=vO (j:=j) b.2 (by simpa using h);rwa [show i+1+j=i+(j+1) by omega] at this
theorem e3.qk (h:e3 o g)(p:zO (cR Sc.cG g)=none)(q:o[k]?=some d)(m:g[k]?=some n):∀i v,d.ab[i]?=some v->bm v.nm d.ab 0=some i:=by
 obtain⟨a,_⟩:=h.ks q m;have e:=lW p m;unfold Sc.cG at e;rw[ec,ec,ec] at e;have r:=e.1.1.2;intro i v l;obtain⟨f,j,t⟩:=EJ (i:=0) l rfl;have b:n.ab[i]?=some v:=by rw[a.ab];exact l
 have:=vO r b;unfold ay.find at this;change ¬(bm v.nm n.ab 0).getD 0<0+i at this;rw[a.ab,j] at this;change ¬f<0+i at this;rw[j,show f=i by omega]
theorem nj:∀{l:List ay} {i:Nat},fX s l i=none->∀v∈l,v.nm≠s
 | [],_,_,v,h=>by cases h
 | x::l,i,h,v,hv=>by
   rw[fX] at h;split at h
   . cases h
   rename_i a
   rcases cC.1 hv with rfl|hv
   . exact a
   exact nj h v hv
theorem e3.one (w:zO (cR Sc.cG g)=none):q9 g:=by
 have h:∀(i j:Nat) (a b:ay),g[i]?=some a->g[j]?=some b->i<j->a.nm≠b.nm:=by
  intro i j a b l m q;have r:=lW w m;unfold Sc.cG at r;rw[ec,ec,ec] at r;have t:=r.1.1.1;cases p:fX b.nm (g.take j) 0 with
  | none=>exact nj p a (aM (by rw[List.getElem?_take,ag q];exact l))
  | some f =>
    obtain⟨_,_,v,u,_⟩:=iC p;rw[Nat.sub_zero] at u;have:(Sc.called ⟨g.take j,b⟩ b.nm).isSome=true:=by unfold Sc.called;simp only[p,u];rfl
    rw[ag this] at t;cases t
 intro i j a b l m e;rcases Nat.lt_trichotomy i j with h1|h1|h1
 . exact absurd e (h i j a b l m h1)
 . exact h1
 exact absurd e.symm (h j i b a m l h1)
theorem e3.mem (h:e3 o g)(l:zO (cR Sc.cG g)=none):E2 o (MK g):=by
 refine F4 h.hN (e3.one l) (λk d n a b=>(h.ks a b).2) (λk d a e r p=>?_);obtain⟨n,b,_⟩:=nr h.hN k d a;have j:=h.p8 l a b;obtain⟨i,t⟩:=List.mem_iff_getElem?.1 r;obtain⟨A,q,_,_,_,v,w⟩:=j.at t;have u:aF e.op.toList e.n=4:=by have:=(qO e.op.toList e.n).2;rw[p] at this;simpa using this
 obtain⟨z,m,_⟩:=(j.tm q v _ w).2.1 u;obtain⟨f,y,x,_⟩:=j.call m;exact⟨f,x⟩
theorem Gt (h:c.eP=[]):∀q∈c.nd.eqs,lF q.r:=by
 unfold Sc.eP at h;rw[ec] at h;intro q m u p i;have e:=mw (mw h.2 q m) u p;unfold fT at e;rw[ec] at e;have f:=e.2;cases u with
 | mk K a s nm v j =>
   change K=9 at i;subst i;by_cases b:c.operands (.mk 9 a s nm v j)=true
   . rw[w8,ae (by omega),ae (by omega),ae (by omega),ae (by omega),ag rfl,Bool.and_eq_true] at b;cases j with
     | nil=>cases b.1
     | cons t l=>exact⟨t,l,rfl,b.1⟩
   rw[ae b] at f;cases f
theorem we:∀(l:List ax),(∀q∈l,q.ns.length<=16)->(da l).length<=16*l.length
 | [],_=>an _
 | q::l,h=>by have e:=h q (ce ..);have a:=we l (λp b=>h p (cS _ b));unfold da at a ⊢;rw[List.flatMap_cons,aP,bJ];omega
theorem e3.seen (h:e3 o g)(w:zO (cR Sc.cG g)=none)(u:o[k]?=some d)(z:g[k]?=some n):(da d.eqs).length<=100000/\∀q∈n.eqs,cc q.r<=100000:=by
 have a:=h.p8 w u z;have y:=h.r d (aM u);have I:=zl a.dn y;have G:=qG n.eqs;have H:=a.dn.eqs.len;constructor
 . refine aJ (we d.eqs (λq p=>?_)) (by omega);obtain⟨j,i⟩:=List.mem_iff_getElem?.1 p;obtain⟨t,l,b⟩:=kv a.dn.eqs i;have r:=aM l;by_cases x:2<=t.ns.length
   . obtain⟨C,e,D⟩:=a.many t r x;obtain⟨f,B,_,_,A,v⟩:=a.call e;have:=(nk A v).2.2.1;have:=v.bO;rw[<- b.ns];omega
   rw[<- b.ns];omega
 intro q p;obtain⟨j,i⟩:=List.mem_iff_getElem?.1 p;have m:j<d.eqs.length:=by have:=(aB.1 i).1;omega
 obtain⟨t,e,_,E⟩:=B3 a.dn.eqs j _ (av m);rw[i] at e;cases e;have:cc q.r=vz q.r:=Dw q.r;omega
end
section
open Go.RowKit
theorem II (w:Xw):xK 12 #[.nilIface] w (λe a=>e=.returned (.tuple #[xI 0,xI 0])/\w=a):=by go_enter func12,ntmps12;go_wp2_with fail;exact bodyPost_ret (v:=.tuple #[xI 0,xI 0]) (by simp[results,results12,go_sem]) rfl ⟨rfl,rfl⟩
end
section
open Go.RowKit
variable {a:List ay} {N:Nat}
attribute [local go_sem ↓] Go.wp_at_zero Go.wp_at_succ
theorem NL.ne {w:Xw}{e:Xv}{t:Xm}(h:NL w N a e t):NE w N a e:=by
 have p:=h.own;rcases h.own.2 with ⟨l,f⟩|⟨g,b,j,s,_,_,m,o,_⟩
 . exact⟨none,0,by rw[l,f],by omega,by omega,λc=>absurd (List.length_eq_zero_iff.1 f) c⟩
 subst s;refine⟨some (xD g 0),b,rfl,m,by unfold maxLen at o;omega,λ_=>⟨g,rfl,h.lo g rfl,λi n q=>?_⟩⟩;obtain⟨u,r,d⟩:=h.at' i n q;have:=p.cells (g:=g) rfl i u r;have k:((xD g 0):Addr).add i=⟨g,i,none⟩:=by cases i <;> simp[Addr.add]
 rw[k] at this;exact⟨u,this,d⟩
theorem G1 {H:Xv}(k:Nat)(n:ay)(w:Xw)(h:PT w N a H)(D:N<=w.heap.size)(A:a[k]?=some n) :
 xK 99 #[H,xI k] w (λe p=>∃x c j,e=.returned (.agg #[.slice x k c,xP j])/\br p N ⟨a.take k,n⟩ (.slice x k c) (xP j)/\xB w p):=by
 obtain⟨t,V,xs,rfl,L,E,q⟩:=h;have f:=(aB.1 A).1;have C:=q.ne;have X:=q.bO;obtain⟨x,c,rfl,J,M,m⟩:=q.ne;obtain⟨g,rfl,K,l⟩:=m (by intro e;rw[e] at f;simp at f);obtain⟨u,F,o⟩:=l k n A;have r:=za o;have I:=za (C.take f);obtain⟨j,vs,qv,U,rfl,B⟩:=o;obtain⟨G,ak,R⟩:=zu E;have Z:(k:Int)<=(c:Int):=by omega
 have Y:(0:Int)<=(k:Int):=by omega
 have i2:(k:Int)<(a.length:Int):=by omega
 have z:g<w.heap.size:=by omega
 clear C m l B q E A;go_enter func99,ntmps99;go_wp2_with fail;refine zn (λW=>W=w.alloc (.cells #[.slice none 0 0,.pointer none] 202 (0,0))/\True) ⟨rfl,trivial⟩ ?_;rintro W ⟨y,_⟩;have s:=za (y▸zq w (.cells #[.slice none 0 0,.pointer none] 202 (0,0)):xB w W);obtain⟨S,T,al,ar⟩:=zp (y▸zc w (.cells #[.slice none 0 0,.pointer none] 202 (0,0)):W.heap[w.heap.size]?=_);have a0:=zd s.o G R;have s1:=zd s.o F z;have O:¬w.heap.size=t:=by omega
 have P:¬w.heap.size=g:=by omega
 have jK:¬t=w.heap.size:=by omega
 have Q:¬g=w.heap.size:=by omega
 clear y G F;go_region_held3 (λp=>p.cell? (xD t 0)=some (xS g a.length c)/\p.cell? (xD g k)=some (xP j)) (go_keep) (fail);go_wp2_with fail;have d:=zo (zC (i:=1) (zC (b:=w.heap.size) (i:=0) s.o (an _) (xS g k c)) (b:=w.heap.size) (an _) (xP j));refine bodyPost_ret (v:=.agg #[xS g k c,xP j]) (by simp[results,results99,go_sem,S,T]) rfl ⟨_,_,_,rfl,?_,d⟩;exact⟨I.o.am (zm d D),r.o.am (zm d D)⟩
end
section
open Go.RowKit
attribute [local go_sem ↓] Go.wp_at_zero Go.wp_at_succ
theorem HZ (S:Xs)(Y z y O:Nat)(p f:Xv)(N:Nat)(c:Sc)(h6:c.er.length<=6)(go g4:Xv)(E L:Nat)(l1:N<=z)(l2:N<=y) :
 nX N (RT z y) 105 #[xP E,xP L] (λ_=>True) c.nd (λA q t=>(fF c q t).foldl aj A) (b5 S Y z y O p f N c go g4 E L) where
 enters:=K0
 hT:=λk e=>by rcases e with e|e;exact e▸l1;exact e▸l2
 aq:=λs w m h ca=>h.aq ca
 sub:=λt u h hu=>trivial
 root:=λ_ _=>trivial
 call:=by
  intro q lv g7 t v A w g6 fr hT gs hN bt g5;have c0:=za bt;have c3:=za hT;have HEq:=za fr;have fq:=za gs;obtain⟨P,j,M,rfl,rfl,gt⟩:=bt.sc.shape;obtain⟨b,fx,vs,rfl,c5,ck,_⟩:=hT.ptr;have be:=ze ck;have C:=za ck;obtain⟨ak,U,rfl⟩:=zB fr.own;obtain⟨Z,_,_,rfl,_⟩:=fr.tt.ptr;have he:=ze bt.x1;have z2:=ze bt.x2;have hm:=ze bt.rp.l;have hg:=ze bt.rp.b;have d1:=bt.d1;have d2:=bt.d2;have d3:=bt.d3;have d4:=bt.d4;have gc:¬b=z:=by omega
  have fV:¬b=y:=by omega
  have a3:=za (λW (ca:xB w W)=>rq W (hT.am (zm ca hN)));have c4:=za (λW (ca:bV N w W)=>JA W (HEq.o.am ca) (c3.o.am ca) fq.o);have c2:=za (λW (ca:bV N w W) (g3:N<=W.heap.size) (g0:br W N c (xE P c j) (xP M))=>Jo (hp q t) W g0 g3 h6 (c3.o.am ca));have c9:¬w.heap.size=z:=by omega
  have dn:¬w.heap.size=y:=by omega
  show Calls prog _ #[.agg #[.slice ak q.ns.length U,xI q.a,xP Z],xP b,xP E,xP L] w _;have bL:b5 S Y z y O p f N c (xE P c j) (xP M) E L A (w.alloc (.cells #[.slice ak q.ns.length U,xI q.a,xP Z] 161)):=c0.o.aq (zq w _);have a4:=za bL;by_cases bE:t.k=4
  . have D:ch t.k=false:=by rw[bE];rfl
    rw[bE] at C;cases V:c.fits t (hp q t) with
    | true =>
      have bx:aa ((fF c q t).foldl aj A=A):=(by unfold aa fF;rw[D,V];simp);go_enter func105,ntmps105;go_upto_region 1 with fail;refine zn (λW=>b5 S Y z y O p f N c (xE P c j) (xP M) E L A W/\xB w W/\xH W w.heap.size #[.slice ak q.ns.length U,xI q.a,xP Z] 161) ⟨a4.o,zq w _,zc w _⟩ ?_;rintro W ⟨d,i,o⟩;obtain⟨b2,s1,b3,b4⟩:=zp d.x1;obtain⟨bp,b1,bs⟩:=zu d.x2;obtain⟨m0,m1,m2,m3,m4,m5,b0,bl⟩:=zt ((i.block b be).trans C.o);have F:=za d;have B:=za i;have H:=za o;have ar:=ze o;have T:=za (λcm=>nA (a3.o (W.drewN cm) (zI i cm)));rw[D] at T;go_quiet ((go_at_call 106;exact T.o _));go_upto_region 3 with fail;refine zn (λl=>b5 S Y z y O p f N c (xE P c j) (xP M) E L A l/\Fr (RT z y) w l/\xH l w.heap.size #[.slice ak q.ns.length U,xI q.a,xP Z] 161) ⟨F.o.aq (zI (Below.refl _ _) _),zy (zI B.o _),H.o⟩ ?_;rintro l ⟨g,n,J⟩;obtain⟨b2,s1,b3,b4⟩:=zp g.x1;obtain⟨bp,b1,bs⟩:=zu g.x2;obtain⟨em,eq,er,es,ev⟩:=zL J;have r:=c0.o.am n;obtain⟨m0,m1,m2,m3,m4,m5,b0,bl⟩:=zt ((r b c5).trans C.o);have x:=za g;have G:=za n;have fd:=za (c4.o l.drew r);have a9:=g.hN;have fv:xC l b 0 (xI 4):=m0
      go_region_held3 (λm=>m.cell? (xD E 0)=some (xE P c j)/\m.cell? (xD E 1)=some (xP M)/\m.cell? (xD w.heap.size 0)=some (.slice ak q.ns.length U)/\m.cell? (xD w.heap.size 1)=some (xI q.a)/\m.cell? (xD w.heap.size 2)=some (xP Z)/\m.cell? (xD b 0)=some (xI 4))
       (first|(with_reducible (refine⟨?_,?_,?_,?_,?_,?_⟩ <;> repeat (first|assumption|refine zg ?_|refine zj _ ?_|refine zk (by omega) ?_|refine zd al.o ?_ (by first|omega|(rw[au];omega))|refine zd a.o ?_ (by first|omega|(rw[au];omega)))))|go_keep)
       (first
         | (go_at_call 107;refine a2.o.mono ?_;rintro e gl ⟨rfl,cs⟩;have al:=za cs)
         | (go_at_call 108;refine fd.o.mono ?_;rintro e eb ⟨rfl,I⟩;have a:=za (zw I);(have ds:l.heap.size<=eb.heap.size:=I.size);have a2:=za (c2.o eb (r.trans (zm a.o a9)) (by omega) (x.o.aq a.o).sc);rw[V] at a2))
      go_wp2_with fail;go_ret;refine⟨rfl,?_,G.o.trans (zy (a.o.trans (al.o.mono (by have:=a.o.size;omega))))⟩;rw[bx.o];exact x.o.aq (a.o.trans (al.o.mono (by have:=a.o.size;omega)))
    | false =>
      have bx:aa ((fF c q t).foldl aj A=aj A t.nm):=(by unfold aa fF;rw[D,V,bE];rfl);go_enter func105,ntmps105;go_upto_region 1 with fail;refine zn (λW=>b5 S Y z y O p f N c (xE P c j) (xP M) E L A W/\xB w W/\xH W w.heap.size #[.slice ak q.ns.length U,xI q.a,xP Z] 161) ⟨a4.o,zq w _,zc w _⟩ ?_;rintro W ⟨d,i,o⟩;obtain⟨b2,s1,b3,b4⟩:=zp d.x1;obtain⟨bp,b1,bs⟩:=zu d.x2;obtain⟨m0,m1,m2,m3,m4,m5,b0,bl⟩:=zt ((i.block b be).trans C.o);have F:=za d;have B:=za i;have H:=za o;have ar:=ze o;have T:=za (λcm=>nA (a3.o (W.drewN cm) (zI i cm)));rw[D] at T;go_quiet ((go_at_call 106;exact T.o _));go_upto_region 3 with fail;refine zn (λl=>b5 S Y z y O p f N c (xE P c j) (xP M) E L A l/\Fr (RT z y) w l/\xH l w.heap.size #[.slice ak q.ns.length U,xI q.a,xP Z] 161) ⟨F.o.aq (zI (Below.refl _ _) _),zy (zI B.o _),H.o⟩ ?_;rintro l ⟨g,n,J⟩;obtain⟨b2,s1,b3,b4⟩:=zp g.x1;obtain⟨bp,b1,bs⟩:=zu g.x2;obtain⟨em,eq,er,es,ev⟩:=zL J;have r:=c0.o.am n;obtain⟨m0,m1,m2,m3,m4,m5,b0,bl⟩:=zt ((r b c5).trans C.o);have x:=za g;have G:=za n;have fd:=za (c4.o l.drew r);have a9:=g.hN;have fv:xC l b 0 (xI 4):=m0
      go_region_held3 (λm=>m.cell? (xD E 0)=some (xE P c j)/\m.cell? (xD E 1)=some (xP M)/\m.cell? (xD w.heap.size 0)=some (.slice ak q.ns.length U)/\m.cell? (xD w.heap.size 1)=some (xI q.a)/\m.cell? (xD w.heap.size 2)=some (xP Z)/\m.cell? (xD b 0)=some (xI 4))
       (first|(with_reducible (refine⟨?_,?_,?_,?_,?_,?_⟩ <;> repeat (first|assumption|refine zg ?_|refine zj _ ?_|refine zk (by omega) ?_|refine zd al.o ?_ (by first|omega|(rw[au];omega))|refine zd a.o ?_ (by first|omega|(rw[au];omega)))))|go_keep)
       (first
         | (go_at_call 107;refine a2.o.mono ?_;rintro e gl ⟨rfl,cs⟩;have al:=za cs)
         | (go_at_call 108;refine fd.o.mono ?_;rintro e eb ⟨rfl,I⟩;have a:=za (zw I);(have ds:l.heap.size<=eb.heap.size:=I.size);have a2:=za (c2.o eb (r.trans (zm a.o a9)) (by omega) (x.o.aq a.o).sc);rw[V] at a2))
      go_upto_region 4 with fail;have a0:=za (a.o.trans (al.o.mono (by have:=a.o.size;omega)));have g1:=zd a0.o bp bs;have g2:=zd a0.o m3 bl;have Q:=za (eg S Y z y O p f A t.nm gl.drew ((x.o.aq a0.o).rp.aq (zo (Below.refl _ _))));unfold bT at g1
      go_region_held3 (λm=>m.cell? (xD L 0)=some (.func (.func 124) #[] #[xP z,xP y,xP O])/\m.cell? (xD b 3)=some (xI t.nm))
       (first|(with_reducible (refine⟨?_,?_⟩ <;> repeat (first|assumption|refine zg ?_|refine zS K.o ?_ (by omega) (by omega))))|go_keep)
       (first
         | (go_at_call 124;refine (Q.o).mono ?_;rintro e g9 ⟨rfl,cv,a5⟩;have cn:=za cv;have K:=za a5.cQ))
      go_wp2_with fail;go_ret;refine⟨rfl,?_,(G.o.trans (zy a0.o)).trans K.o⟩;rw[bx.o];exact (x.o.aq a0.o).aX cn.o K.o
  have ge:((t.k:Int)==4)=false:=by simp;omega
  have bk:(t.k==4)=false:=by simp[bE]
  cases D:ch t.k with
  | false => have bx:aa ((fF c q t).foldl aj A=A):=(by unfold aa fF;rw[D,bk];rfl);go_enter func105,ntmps105;go_upto_region 1 with fail;refine zn (λW=>b5 S Y z y O p f N c (xE P c j) (xP M) E L A W/\xB w W/\xH W w.heap.size #[.slice ak q.ns.length U,xI q.a,xP Z] 161) ⟨a4.o,zq w _,zc w _⟩ ?_;rintro W ⟨d,i,o⟩;obtain⟨b2,s1,b3,b4⟩:=zp d.x1;obtain⟨bp,b1,bs⟩:=zu d.x2;obtain⟨m0,m1,m2,m3,m4,m5,b0,bl⟩:=zt ((i.block b be).trans C.o);have F:=za d;have B:=za i;have H:=za o;have ar:=ze o;have T:=za (λcm=>nA (a3.o (W.drewN cm) (zI i cm)));rw[D] at T;go_quiet ((go_at_call 106;exact T.o _));go_upto_region 3 with fail;refine zn (λl=>b5 S Y z y O p f N c (xE P c j) (xP M) E L A l/\Fr (RT z y) w l/\xH l w.heap.size #[.slice ak q.ns.length U,xI q.a,xP Z] 161) ⟨F.o.aq (zI (Below.refl _ _) _),zy (zI B.o _),H.o⟩ ?_;rintro l ⟨g,n,J⟩;obtain⟨b2,s1,b3,b4⟩:=zp g.x1;obtain⟨bp,b1,bs⟩:=zu g.x2;obtain⟨em,eq,er,es,ev⟩:=zL J;have r:=c0.o.am n;obtain⟨m0,m1,m2,m3,m4,m5,b0,bl⟩:=zt ((r b c5).trans C.o);have x:=za g;have G:=za n;go_quiet (fail);go_wp2_with fail;go_ret;refine⟨rfl,?_,G.o.trans (zy (zI (Below.refl _ _) _))⟩;rw[bx.o];exact x.o.aq (zI (Below.refl _ _) _)
  | true =>
    cases X:c.has t.s with
    | true =>
      have bx:aa ((fF c q t).foldl aj A=A):=(by unfold aa fF;rw[D,bk,X];rfl);go_enter func105,ntmps105;go_upto_region 1 with fail;refine zn (λW=>b5 S Y z y O p f N c (xE P c j) (xP M) E L A W/\xB w W/\xH W w.heap.size #[.slice ak q.ns.length U,xI q.a,xP Z] 161) ⟨a4.o,zq w _,zc w _⟩ ?_;rintro W ⟨d,i,o⟩;obtain⟨b2,s1,b3,b4⟩:=zp d.x1;obtain⟨bp,b1,bs⟩:=zu d.x2;obtain⟨m0,m1,m2,m3,m4,m5,b0,bl⟩:=zt ((i.block b be).trans C.o);have F:=za d;have B:=za i;have H:=za o;have ar:=ze o;have T:=za (a3.o W.drew (zo i));rw[D] at T;have c1:=za (pv t.s (t.nm:Int) W.drew (d.sc.am (λ_ _=>rfl)) (by show N<=W.heap.size;exact d.hN));have R:(c.nd.find t.s).isSome=true:=X;rw[R] at c1
      go_region_held3 (λm=>m.cell? (xD E 0)=some (xE P c j)/\m.cell? (xD E 1)=some (xP M)/\m.cell? (xD b 2)=some (.string t.s)/\m.cell? (xD b 3)=some (xI t.nm))
       (first|(with_reducible (refine⟨?_,?_,?_,?_⟩ <;> repeat (first|assumption|refine zg ?_|refine zj _ ?_|refine zk (by omega) ?_|refine zd a.o ?_ (by first|omega|(rw[au];omega)))))|go_keep)
       (first
         | (go_at_call 102;refine c1.o.mono ?_;rintro e ex ⟨rfl,I⟩;have a:=za (zw I))
         | (go_at_call 106;refine T.o.mono ?_;rintro e ex ⟨rfl,rfl⟩))
      go_upto_region 3 with fail;refine zn (λl=>b5 S Y z y O p f N c (xE P c j) (xP M) E L A l/\Fr (RT z y) w l/\xH l w.heap.size #[.slice ak q.ns.length U,xI q.a,xP Z] 161) ⟨F.o.aq a.o,zy (B.o.trans (a.o.mono B.o.size)),(a.o.block _ ar).trans H.o⟩ ?_;rintro l ⟨g,n,J⟩;obtain⟨b2,s1,b3,b4⟩:=zp g.x1;obtain⟨bp,b1,bs⟩:=zu g.x2;obtain⟨em,eq,er,es,ev⟩:=zL J;have r:=c0.o.am n;obtain⟨m0,m1,m2,m3,m4,m5,b0,bl⟩:=zt ((r b c5).trans C.o);have x:=za g;have G:=za n;go_quiet (fail);go_wp2_with fail;go_ret;refine⟨rfl,?_,G.o.trans (zy (zI (Below.refl _ _) _))⟩;rw[bx.o];exact x.o.aq (zI (Below.refl _ _) _)
    | false =>
      have bx:aa ((fF c q t).foldl aj A=aj A t.nm):=(by unfold aa fF;rw[D,bk,X];rfl);go_enter func105,ntmps105;go_upto_region 1 with fail;refine zn (λW=>b5 S Y z y O p f N c (xE P c j) (xP M) E L A W/\xB w W/\xH W w.heap.size #[.slice ak q.ns.length U,xI q.a,xP Z] 161) ⟨a4.o,zq w _,zc w _⟩ ?_;rintro W ⟨d,i,o⟩;obtain⟨b2,s1,b3,b4⟩:=zp d.x1;obtain⟨bp,b1,bs⟩:=zu d.x2;obtain⟨m0,m1,m2,m3,m4,m5,b0,bl⟩:=zt ((i.block b be).trans C.o);have F:=za d;have B:=za i;have H:=za o;have ar:=ze o;have T:=za (a3.o W.drew (zo i));rw[D] at T;have c1:=za (pv t.s (t.nm:Int) W.drew (d.sc.am (λ_ _=>rfl)) (by show N<=W.heap.size;exact d.hN));have R:(c.nd.find t.s).isSome=false:=X;rw[R] at c1
      go_region_held3 (λm=>m.cell? (xD E 0)=some (xE P c j)/\m.cell? (xD E 1)=some (xP M)/\m.cell? (xD b 2)=some (.string t.s)/\m.cell? (xD b 3)=some (xI t.nm))
       (first|(with_reducible (refine⟨?_,?_,?_,?_⟩ <;> repeat (first|assumption|refine zg ?_|refine zj _ ?_|refine zk (by omega) ?_|refine zd a.o ?_ (by first|omega|(rw[au];omega)))))|go_keep)
       (first
         | (go_at_call 102;refine c1.o.mono ?_;rintro e ex ⟨rfl,I⟩;have a:=za (zw I))
         | (go_at_call 106;refine T.o.mono ?_;rintro e ex ⟨rfl,rfl⟩))
      go_upto_region 2 with fail;have g1:=zd a.o bp bs;have g2:=zd a.o m3 bl;have Q:=za (eg S Y z y O p f A t.nm ex.drew ((F.o.aq a.o).rp.aq (zo (Below.refl _ _))));unfold bT at g1
      go_region_held3 (λm=>m.cell? (xD L 0)=some (.func (.func 124) #[] #[xP z,xP y,xP O])/\m.cell? (xD b 3)=some (xI t.nm))
       (first|(with_reducible (refine⟨?_,?_⟩ <;> repeat (first|assumption|refine zg ?_|refine zS K.o ?_ (by omega) (by omega))))|go_keep)
       (first
         | (go_at_call 124;refine (Q.o).mono ?_;rintro e g8 ⟨rfl,cv,a5⟩;have cn:=za cv;have K:=za a5.cQ))
      go_upto_region 3 with fail;refine zn (λl=>b5 S Y z y O p f N c (xE P c j) (xP M) E L (aj A t.nm) l/\Fr (RT z y) w l/\xH l w.heap.size #[.slice ak q.ns.length U,xI q.a,xP Z] 161) ⟨(F.o.aq a.o).aX cn.o K.o,(zy (B.o.trans (a.o.mono B.o.size))).trans K.o,(K.o.block _ (by have:=a.o.size;omega) (λe=>by rcases e with e|e;exact c9 e;exact dn e)).trans ((a.o.block _ ar).trans H.o)⟩ ?_;rintro l ⟨g,n,J⟩;obtain⟨b2,s1,b3,b4⟩:=zp g.x1;obtain⟨bp,b1,bs⟩:=zu g.x2;obtain⟨em,eq,er,es,ev⟩:=zL J;have r:=c0.o.am n;obtain⟨m0,m1,m2,m3,m4,m5,b0,bl⟩:=zt ((r b c5).trans C.o);have x:=za g;have G:=za n;go_quiet (fail);go_wp2_with fail;go_ret;refine⟨rfl,?_,G.o.trans (zy (zI (Below.refl _ _) _))⟩;rw[bx.o];exact x.o.aq (zI (Below.refl _ _) _)
end
end Go.Proofs.YtmfkofhgdjechaaGreatDoor
