/- Part 13. -/
import Derived.Shelf.Strings.Builder1
import Derived.Test.YtcnelakggnfnhaaGreatDoorK11
set_option maxRecDepth 100000
set_option maxHeartbeats 8000000
namespace Go.Proofs.YtcnelakggnfnhaaGreatDoor
open Go.Proofs.Tryz
section
open Go.RowKit
variable {b:Xl} {B N lb:Nat} {f:Xv} {W d:Xw}
theorem aQ.room {i:Xw}(h:aQ lb B d f W b)(m:xB W i):∃c,aQ lb B i c i b/\(∀j,c.ownBlock=some j->j<W.heap.size)/\lb<W.heap.size/\∀(p:Xw) (a:Xl),aQ lb B i c p a->aQ lb B d f p a:=by obtain⟨c,l,q⟩:=h.ln;have t:=q.fr.size;have:=h.le;have:=h.lt;have:=m.size;have n:Ln lb B i c b:=⟨(m.block _ (ze l.aC)).trans l.aC,zi l.own (λg _ _ e=>m.block g (l.own.lt g e).2)⟩;refine⟨c,aQ.start n h.lt (by omega),λj e=>(l.own.lt j e).2,by omega,λp a k=>?_⟩;obtain⟨o,r,s⟩:=k.ln;exact⟨h.lt,h.le,h.lo,o,r,(q.trans ⟨Fr.Mo m,λj e=>ao e⟩).trans s⟩
theorem y3 {w:Xw}{n r:Nat}{e:Xy}{g:Nat}{l:List Vr}(h:w.ownsRow B e 7 (xS g n r) n (aag l)){a i:Nat}{v:Vr}(t:l[a+i]?=some v) :
 w.cell? (xD g (a*7+i*7))=some (.string v.nm)/\w.cell? (xD g (a*7+i*7+1))=some (xI v.a)/\w.cell? (xD g (a*7+i*7+2))=some (xI (dv v:Nat))/\w.cell? (xD g (a*7+i*7+3))=some (xI (ba v:Nat))/\w.cell? (xD g (a*7+i*7+4))=some (xI v.on)/\w.cell? (xD g (a*7+i*7+5))=some (.string v.ck)/\w.cell? (xD g (a*7+i*7+6))=some (xI v.ca):=by
 obtain⟨u,s,c,j,k,m,o,p,q⟩:=hj h t;cases s;rw[Nat.add_mul] at c j k m o p q;exact⟨c,j,k,m,o,p,q⟩
theorem LF (h:aQ lb B d f W b)(y:N<=lb)(n:ay)(G:Nat)(g A:Nat)(C:Xv)(H:Xm)(z:NT d N n G (xS g n.ak.length A) C H)(k l a m c:Nat)
 (q:xH d k #[xP lb] 179) (r:xH d l #[.slice (some (xD g (a*7))) m c] 79) (o:¬k=lb) (x:¬l=lb) (t1:¬f.ownBlock=some k) (t2:¬f.ownBlock=some l)
 (i:Nat) (v:Vr) (E:i<m) (_hm16:m<=16) (D:n.ak[a+i]?=some v) (F:(b++eB v).length<=10000000000) :
 xK 80 (#[xI i]++#[xP k,xP l]) W (ey lb B d f (b++eB v)):=by
 have p:aa (∀(j:Xw) (s:Xl),aQ lb B d f j s->j.cell? (xD k 0)=some (xP lb)/\j.cell? (xD l 0)=some (.slice (some (xD g (a*7))) m c)/\j.cell? (xD g (a*7+i*7))=some (.string v.nm)/\j.cell? (xD g (a*7+i*7+1))=some (xI v.a)/\j.cell? (xD g (a*7+i*7+2))=some (xI (dv v:Nat))/\j.cell? (xD g (a*7+i*7+3))=some (xI (ba v:Nat))/\j.cell? (xD g (a*7+i*7+4))=some (xI v.on)/\j.cell? (xD g (a*7+i*7+5))=some (.string v.ck)/\j.cell? (xD g (a*7+i*7+6))=some (xI v.ca)):=by intro j s t;have u:=z.am (t.am y);exact⟨(zu (t.kept q o t1)).1,(zu (t.kept r x t2)).1,y3 u.bZ D⟩
 obtain⟨J,L,O,P,Q,R,S,T,U⟩:=p.o _ _ h;have K:=ze (h.kept q o t1);have M:=ze (h.kept r x t2);have I:g<W.heap.size:=by have:=((z.am (h.am y)).bZ.lt g rfl).2;exact this
 have w:=za (sx h.drew v F);unfold lS at w
 show Calls prog _ #[xI i,xP k,xP l] W _;go_enter func80,ntmps80;go_region_held3 (λj=>j.cell? (xD k 0)=some (xP lb)/\j.cell? (xD l 0)=some (.slice (some (xD g (a*7))) m c)/\j.cell? (xD g (a*7+i*7))=some (.string v.nm)/\j.cell? (xD g (a*7+i*7+1))=some (xI v.a)/\j.cell? (xD g (a*7+i*7+2))=some (xI (dv v:Nat))/\j.cell? (xD g (a*7+i*7+3))=some (xI (ba v:Nat))/\j.cell? (xD g (a*7+i*7+4))=some (xI v.on)/\j.cell? (xD g (a*7+i*7+5))=some (.string v.ck)/\j.cell? (xD g (a*7+i*7+6))=some (xI v.ca)) (first|go_keep|exact p.o _ _ o) (first|(go_at_call 79;refine w.o.mono ?_;rintro e V ⟨rfl,o⟩));all_goals first|go_end0|refine ab (results_none rfl _ _ _) rfl ?_
 all_goals exact⟨rfl,o⟩
theorem LG {S:Xs}(H:aQ lb B d f W b)(y:N<=lb)(cA:21<=N)(eb:Kn S d)(n:ay)(o:Nat)(vs ev:Xv)(xs:Xm)(c6:NT d N n o vs ev xs)(hw:gP n)(cE:∀v∈n.ak,oe v)(eE:∀q∈n.eqs,Qw S q)(hm:(b++ez n).length<=10000000000) :
 xK 33 #[xP lb,xP o] W (ey lb B d f (b++ez n)):=by
 have b1:=c6.am (H.am y);obtain⟨wA,bK⟩:∃wA,wA=(W.alloc (.cells #[xP lb] 179)).alloc (.cells #[xP o] 71):=⟨_,rfl⟩;have bb:xB W wA:=bK▸((yS _ W).alloc (an _) _).alloc (by simp) _;have bY:N<=W.heap.size:=by have:=H.lt;have:=H.le;have:=H.size;omega
 have b0:=b1.am (zm bb bY);have c5:=za (rk wA b0 hw.io (by have:=hw.aG;have:=hw.io;omega));have cR:(W.alloc (.cells #[xP lb] 179)).alloc (.cells #[xP o] 71)=wA:=bK.symm;have dk:xH wA W.heap.size #[xP lb] 179:=bK▸(mm _ _ _ (by rw[au];omega)).trans (zc W _);have cs:wA.heap[W.heap.size+1]?=some (.cells #[xP o] 71 (0,0)):=by have:=zc (W.alloc (.cells #[xP lb] 179)) (.cells #[xP o] 71);rw[au] at this;rw[bK];exact this
 have A1:=za dk;have A2:=za cs;obtain⟨em,_,z2⟩:=zu cs;have a3:=za hm;have bA:=za bb;clear hm b1 b0 bb bK dk cs;go_enter func33,ntmps33;go_upto_region 1 with fail;clear cR;go_wp2_with (go_at_call 75;refine c5.o.mono ?_);rintro e w1 ⟨g,s,rfl,rfl,bL⟩;have K:=za bL;clear bL;go_upto_region 2 with fail;obtain⟨b3,a6⟩:∃b3,b3=w1.heap.size:=⟨_,rfl⟩;have c0:=K.o.size;have eF:W.heap.size+1<b3:=by omega
 have di:(w1.alloc (.cells #[.slice (some (xD g (n.ah*7))) n.aG (s-n.ah)] 79)).heap[b3]?=some (.cells #[.slice (some (xD g (n.ah*7))) n.aG (s-n.ah)] 79 (0,0)):=a6▸zc w1 _;have da:(w1.alloc (.cells #[.slice (some (xD g (n.ah*7))) n.aG (s-n.ah)] 79)).heap[W.heap.size]?=some (.cells #[xP lb] 179 (0,0)):=(mm _ _ _ (by omega)).trans ((K.o.block _ (by omega)).trans A1.o);have dc:(w1.alloc (.cells #[.slice (some (xD g (n.ah*7))) n.aG (s-n.ah)] 79)).heap[W.heap.size+1]?=some (.cells #[xP o] 71 (0,0)):=(mm _ _ _ (by omega)).trans ((K.o.block _ (by omega)).trans A2.o);have c9:xB W (w1.alloc (.cells #[.slice (some (xD g (n.ah*7))) n.aG (s-n.ah)] 79)):=(bA.o.trans (K.o.mono (by omega))).alloc (by omega) _;rw[<- a6];refine zn (λm=>(xH m b3 #[.slice (some (xD g (n.ah*7))) n.aG (s-n.ah)] 79)/\xH m W.heap.size #[xP lb] 179/\xH m (W.heap.size+1) #[xP o] 71/\xB W m) ⟨di,da,dc,c9⟩ ?_;clear c9 da dc di A1 A2 bA K c5 em z2 c0 a6;rintro m ⟨bo,bk,bl,ar⟩;obtain⟨z,c4,a4,eP,ea⟩:=H.room ar;have l:=(c6.am (H.am y)).am (zm ar bY);have cm:Kn S m:=eb.ln (H.aH ar) (by omega);obtain⟨dH,eV,dL,dM,dP,dV,eW,e3⟩:=zt l.aC;have r:=l.lo;have a:aa (∀(p:Xw) (c:Xl),aQ lb B m z p c->xC p W.heap.size 0 (xP lb)/\xC p (W.heap.size+1) 0 (xP o)/\xC p b3 0 (.slice (some (xD g (n.ah*7))) n.aG (s-n.ah))/\xC p o 0 (.string n.nm)/\xC p o 2 (xS g n.ak.length s)/\xC p o 3 (xI n.ah)/\xC p o 4 (xI n.aG)/\xC p o 5 ev):=λp c A =>
  ⟨(zu (A.kept bk (by omega) (λe=>by have:=a4 _ e;omega))).1,(zu (A.kept bl (by omega) (λe=>by have:=a4 _ e;omega))).1,(zu (A.kept bo (by omega) (λe=>by have:=a4 _ e;omega))).1,(iP (A.am y) r).trans dH,(iP (A.am y) r).trans dL,(iP (A.am y) r).trans dM,(iP (A.am y) r).trans dP,(iP (A.am y) r).trans dV⟩
 obtain⟨t,C,D,E,F,G,I,J⟩:=a.o _ _ c4;have eG:=hw.io;have du:=hw.bO;have ds:=yE l.bZ;have i0:(0:Int)<=(n.ah:Int):=by omega
 have i1:(0:Int)<=(n.ah:Int)+(n.aG:Int):=by omega
 have i2:(n.ah:Int)+(n.aG:Int)<=(s:Int):=by omega
 have i6:((n.ah:Int)+(n.aG:Int)).toNat=n.ah+n.aG:=by omega
 have i7:IntKind.i64.wrap ((n.ah:Int)+(n.aG:Int))=(n.ah:Int)+(n.aG:Int):=by rw[IntKind.wrap_i64];omega
 have i8:(n.ah:Int)+(n.aG:Int)<=(n.ak.length:Int):=by omega
 have z0:W.heap.size+1<m.heap.size:=ze bl;have z3:b3<m.heap.size:=ze bo;clear ar dH eV dL dM dP dV eW;have a1:aa (∀k,aQ lb B m z (m.drewN k) b):=λk=>c4.aH ⟨rfl,rfl,rfl,an _,λ_ _=>rfl⟩;go_cut [5] (λv5 wx=>∃la lc,v5=.slice la (n.ak.length-(n.ah+n.aG)) lc/\aa (0<n.ak.length-(n.ah+n.aG)->la=some (xD g ((n.ah+n.aG)*7)))/\aa (aQ lb B m z wx b));case first =>
  by_cases hc:n.ah+n.aG=s
  . have i9:(n.ah:Int)+(n.aG:Int)=(s:Int):=by omega
    have c2:n.ak.length-(n.ah+n.aG)=0:=(by omega);go_quiet (fail);go_wp2_with fail;go_meet;exact⟨_,_,by rw[c2],za (λH=>by omega),a1.o _⟩
  have eY:¬(n.ah+n.aG=s):=hc;have eZ:¬(s=n.ah+n.aG):=by omega
  have e0:¬((n.ah:Int)+(n.aG:Int)=(s:Int)):=by omega
  go_quiet (fail);go_wp2_with fail;go_meet;exact⟨_,_,rfl,za (λ_=>rfl),a1.o _⟩
 case rest =>
  obtain⟨la,lc,rfl,bE,ce⟩:=hcut;obtain⟨t,C,D,E,F,G,I,J⟩:=a.o _ _ ce.o;clear i0 i1 i2 i6 i7 i8 a1;have dw:=hw.ah;have cO:=hw.aG;have ek:W.heap.size<m.heap.size:=by omega
  have dz:n.ak.length<=16:=hw.bO;have L:aa (∀Z c,aQ lb B m z Z c->(c++gS ((n.ak.take n.ah).map eB)).length<=10000000000->xK 77 #[xP lb,xI n.ah,.func (.func 78) #[] #[xP W.heap.size,xP (W.heap.size+1)]] Z (ey lb B m z (c++gS ((n.ak.take n.ah).map eB)))):=by
   intro Z c A bs;have cv:((n.ak.take n.ah).map eB).length=n.ah:=(by simp;omega);have:=y2 (lb:=lb) (B:=B) (w0:=m) (tv0:=z) 78 #[xP W.heap.size,xP (W.heap.size+1)] LL ((n.ak.take n.ah).map eB) (λi u hu co ca a9 R=>?_) Z c A bs (by omega)
   . rw[cv] at this;exact this
   rw[List.getElem?_map,Option.map_eq_some_iff] at hu;obtain⟨x,hx,rfl⟩:=hu;have bt:n.ak[i]?=some x:=(by have hi:=(aB.1 hx).1;simp at hi;rw[List.getElem?_take_of_lt (by omega)] at hx;exact hx);exact LM a9 y n o _ _ _ l _ _ bk bl (by omega) (by omega) (λe=>by have:=a4 _ e;omega) (λe=>by have:=a4 _ e;omega) i x bt R
  have M:aa (∀Z c,aQ lb B m z Z c->(c++gS (((n.ak.drop n.ah).take n.aG).map eB)).length<=10000000000->xK 77 #[xP lb,xI n.aG,.func (.func 80) #[] #[xP W.heap.size,xP b3]] Z (ey lb B m z (c++gS (((n.ak.drop n.ah).take n.aG).map eB)))):=by
   intro Z c A bs;have cv:(((n.ak.drop n.ah).take n.aG).map eB).length=n.aG:=(by simp;omega);have:=y2 (lb:=lb) (B:=B) (w0:=m) (tv0:=z) 80 #[xP W.heap.size,xP b3] LA (((n.ak.drop n.ah).take n.aG).map eB) (λi u hu co ca a9 R=>?_) Z c A bs (by omega)
   . rw[cv] at this;exact this
   rw[List.getElem?_map,Option.map_eq_some_iff] at hu;obtain⟨x,hx,rfl⟩:=hu;have hi:=(aB.1 hx).1;simp at hi;have bt:n.ak[n.ah+i]?=some x:=(by rw[List.getElem?_take_of_lt (by omega),List.getElem?_drop] at hx;exact hx);exact LF a9 y n o g s _ _ l _ _ n.ah n.aG _ bk bo (by omega) (by omega) (λe=>by have:=a4 _ e;omega) (λe=>by have:=a4 _ e;omega) i x (by omega) (by omega) bt R
  have eQ:∀(fn:Go.Fn) (first a5:Xa) (w:Xw),(Instr.makeFunc fn first a5).run prog w=.ok (.func fn first a5) w:=λ_ _ _ _=>rfl;obtain⟨T1,be⟩:∃T,gS ((n.ak.take n.ah).map eB)=T:=⟨_,rfl⟩;obtain⟨T2,bg⟩:∃T,gS (((n.ak.drop n.ah).take n.aG).map eB)=T:=⟨_,rfl⟩;obtain⟨h,aL⟩:∃h,n.ak.drop (n.ah+n.aG)=h:=⟨_,rfl⟩;have b4:n.ak.length-(n.ah+n.aG)=h.length:=by rw[<- aL];simp
  have U:aa (ez n=[⟨#[110,111,100,101]⟩,n.nm]++(T1++([⟨#[45,62]⟩]++(T2++((if 0<h.length then [⟨#[118,97,114]⟩] else [])++(h.flatMap fZ++([⟨#[123]⟩]++(n.eqs.flatMap gT++[⟨#[125]⟩])))))))):=by show ez n=_;unfold ez;rw[be,bg,aL]
  rw[U.o] at a3;rw[be] at L;rw[bg] at M;rw[b4] at bE ⊢;have bC:aa (∀i v,h[i]?=some v->n.ak[n.ah+n.aG+i]?=some v):=λi v hi=>by rw[<- aL,List.getElem?_drop] at hi;exact hi
  have bB:=za (show h.length<=16 by omega);clear be bg aL b4;go_upto_region 3 with fail;go_region_held3 (λp=>p.cell? (xD W.heap.size 0)=some (xP lb)/\p.cell? (xD (W.heap.size+1) 0)=some (xP o)/\p.cell? (xD o 0)=some (.string n.nm)) (first|go_keep|exact⟨(a.o _ _ a0.o).1,(a.o _ _ a0.o).2.1,(a.o _ _ a0.o).2.2.2.1⟩) (first|(go_at_call 76;refine (pO ce.o [⟨#[110,111,100,101]⟩,n.nm] 2 rfl (by have:=a3.o;simp only[aP,bJ,cw] at this ⊢;omega) _ rfl).mono ?_;rintro e w2 ⟨rfl,h2⟩;have a0:=za h2;clear h2));obtain⟨t,C,D,E,F,G,I,J⟩:=a.o _ _ a0.o;have c3:=a0.o.size;go_upto_region 4 with fail;go_region_held3 (λp=>p.cell? (xD W.heap.size 0)=some (xP lb)/\p.cell? (xD (W.heap.size+1) 0)=some (xP o)/\p.cell? (xD o 3)=some (xI n.ah)) (first|go_keep|exact⟨(a.o _ _ bv.o).1,(a.o _ _ bv.o).2.1,(a.o _ _ bv.o).2.2.2.2.2.1⟩) (first|(go_at_call 77;refine (L.o _ _ a0.o.drew (by have:=a3.o;simp only[aP,bJ,cw] at this ⊢;omega)).mono ?_;rintro e w3 ⟨rfl,h3⟩;have bv:=za h3;clear h3));clear t C D E F G I J;obtain⟨t,C,D,E,F,G,I,J⟩:=a.o _ _ bv.o;have tk:=trivial;go_wp2_with (clear tk;go_at_call 76;refine (fY bv.o [⟨#[45,62]⟩] 1 rfl (by have:=a3.o;simp only[aP,bJ,cw] at this ⊢;omega) _ rfl).mono ?_);rintro e w4 ⟨rfl,h4⟩;have cg:=za h4;clear h4 t C D E F G I J;obtain⟨t,C,D,E,F,G,I,J⟩:=a.o _ _ cg.o;have tk:=trivial;go_wp2_with (clear tk;go_at_call 77;refine (M.o _ _ cg.o (by have:=a3.o;simp only[aP,bJ,cw] at this ⊢;omega)).mono ?_);rintro e w5 ⟨rfl,h5⟩;have bx:=za h5;clear h5 t C D E F G I J;obtain⟨t,C,D,E,F,G,I,J⟩:=a.o _ _ bx.o;obtain⟨P,cK⟩:∃P,b++[⟨#[110,111,100,101]⟩,n.nm]++T1++[⟨#[45,62]⟩]++T2=P:=⟨_,rfl⟩;obtain⟨V,hV⟩:∃V:Xl,(if 0<h.length then [⟨#[118,97,114]⟩] else [])=V:=⟨_,rfl⟩;have aV:aa (b++ez n=P++V++h.flatMap fZ++[⟨#[123]⟩]++n.eqs.flatMap gT++[⟨#[125]⟩]):=by show b++ez n=_;rw[U.o,hV,<- cK];simp only[bw]
  have O:aa (P.length+V.length+(h.flatMap fZ).length+1+(n.eqs.flatMap gT).length+1<=10000000000):=by
   have:=a3.o;rw[<- U.o,aV.o] at this;simp only[aP,bJ,cw] at this
   show _<=_;omega
  rw[cK] at bx;have cn:=za hV;clear cK hV a3 U ce a0 bv cg L M c3;go_upto_if 51 with fail;go_cut [] (λwx=>aa (aQ lb B m z wx (P++V)));case first =>
   by_cases h0:0<h.length
   . have cz:(0:Int)<(h.length:Int):=(by omega);have Y:V=[⟨#[118,97,114]⟩]:=(by rw[<- cn.o,ag h0]);go_wp2_with (go_at_call 76;refine (fY bx.o [⟨#[118,97,114]⟩] 1 rfl (by have:=O.o;rw[Y] at this;simp only[aP,bJ,cw] at this ⊢;omega) _ rfl).mono ?_;rintro e w6 ⟨rfl,h6⟩;have ch:=za h6;clear h6);go_meet;have:=ch.o;rw[Y];exact this
   have cz:¬((0:Int)<(h.length:Int)):=(by omega);go_wp2_with fail;go_meet;have Y:V=[]:=by rw[<- cn.o,ae h0]
   show aQ lb B m z w5 (P++V);rw[Y,List.append_nil];exact bx.o
  case rest =>
   have ch:=hcut;clear hcut cn t C D E F G I J bx;have cB:=bB.o;go_upto_region 10 with fail;go_loopg [57] (h.length+1) (λj i wr=>∃k:Nat,k+j=h.length+1/\k<=h.length/\i=xI k/\aa (aQ lb B m z wr (P++V++(h.take k).flatMap fZ)));case atStart=>exact⟨0,by omega,aE _,rfl,za (by simpa using ch.o)⟩
   case round =>
    obtain⟨k,eN,eL,rfl,a2⟩:=hrel;have c1:=a2.o.size;have ct:W.heap.size<wr.heap.size:=(by omega);by_cases bq:k<h.length
    . obtain⟨v,hv⟩:∃v,h[k]?=some v:=⟨_,av bq⟩;obtain rfl:=bE.o (by omega);obtain⟨t,_⟩:=a.o _ _ a2.o;obtain⟨v0,v1,v2,v3,v4,v5,v6⟩:=y3 (l.am (a2.o.am y)).bZ (bC.o k v hv);have Q:(h.take (k+1)).flatMap fZ=(h.take k).flatMap fZ++fZ v:=(by rw[kN hv];simp);have cb:=za (cE v (aM (bC.o k v hv)) _ _ _ _ _ _ (a2.o.alloc (.cells #[.string v.nm,xI v.a,xI (dv v:Nat),xI (ba v:Nat),xI v.on,.string v.ck,xI v.ca] 95)) (by
       have h1:=O.o;have h2:((h.take (k+1)).flatMap fZ).length<=(h.flatMap fZ).length:=by
        conv=>rhs;rw[<- List.take_append_drop (k+1) h]
        rw[List.flatMap_append,aP];omega
       rw[Q] at h2;simp only[aP] at h2 ⊢;omega))
      unfold lS at cb;clear hv;go_wp2_with (go_at_call 81;refine cb.o.mono ?_;rintro e w7 ⟨rfl,dY⟩);go_roundg (gk-1);case measure=>omega
      refine⟨k+1,by omega,by omega,by go_num,za ?_⟩;have:=dY;rw[Q,<- bw];exact this
    obtain rfl:k=h.length:=by omega
    rw[List.take_length] at a2;obtain⟨t,C,D,E,F,G,I,J⟩:=a.o _ _ a2.o;have tk:=trivial;go_wp2_with (clear tk;go_at_call 76;refine (fY a2.o [⟨#[123]⟩] 1 rfl (by have:=O.o;simp only[aP,bJ,cw] at this ⊢;omega) _ rfl).mono ?_);rintro e w8 ⟨rfl,ck⟩;clear t C D E F G I J;obtain⟨t,C,D,E,F,G,I,J⟩:=a.o _ _ ck;obtain⟨e1,eX,rfl⟩:=zB l.own;have eS:=ck.size;have eR:o<w8.heap.size:=(by omega);have ex:n.eqs.length<=9223372036854775807:=by
     rcases l.own.2 with ⟨_,H⟩|⟨g,a5,es,hv,_,_,h3,h4,_⟩
     . omega
     unfold maxLen at h4;omega
    go_upto_region 16 with fail;go_loopg [73] (n.eqs.length+1) (λj i wq=>∃k:Nat,k+j=n.eqs.length+1/\k<=n.eqs.length/\i=xI k/\aa (aQ lb B m z wq (P++V++h.flatMap fZ++[⟨#[123]⟩]++(n.eqs.take k).flatMap gT)));case atStart=>exact⟨0,by omega,aE _,rfl,za (by simpa using ck)⟩
    case round =>
     obtain⟨k,eO,eL,rfl,X⟩:=hrel;have c1:=X.o.size;have ct:W.heap.size<wr.heap.size:=(by omega);by_cases bq:k<n.eqs.length
     . obtain⟨q,cd⟩:∃q,n.eqs[k]?=some q:=⟨_,av bq⟩;obtain⟨ge,lv,rv,rfl,dl,dp,dq,aA⟩:=lj l.own l.eqs cd rfl;have bp:=l.ko ge rfl;have d0:=(iP (X.o.am y) bp).trans dl;have d1:=(iP (X.o.am y) bp).trans dp;have d2:=(iP (X.o.am y) bp).trans dq;obtain⟨eq,_,_,rfl,_⟩:=aA.tt.ptr;obtain⟨eT,er,rfl⟩:=zB aA.own;obtain⟨t,_⟩:=a.o _ _ X.o;have b2:=aM cd;have Q:(n.eqs.take (k+1)).flatMap gT=(n.eqs.take k).flatMap gT++gT q:=(by rw[kN cd];simp);have cb:=za (eE q b2 _ _ _ _ _ _ _ _ _ (X.o.alloc (.cells #[.slice eT q.ns.length er,xI q.a,xP eq] 159)) y cA cm aA (by
        have h1:=O.o;have h2:((n.eqs.take (k+1)).flatMap gT).length<=(n.eqs.flatMap gT).length:=by
         conv=>rhs;rw[<- List.take_append_drop (k+1) n.eqs]
         rw[List.flatMap_append,aP];omega
        rw[Q] at h2;simp only[aP,bJ,cw] at h2 ⊢;omega))
       clear cd aA b2 dl dp dq;go_wp2_with (go_at_call 82;refine cb.o.mono ?_;rintro e w9 ⟨rfl,cl⟩);go_roundg (gk-1);case measure=>omega
       refine⟨k+1,by omega,by omega,by go_num,za ?_⟩;have:=cl;rw[Q,<- bw];exact this
     obtain rfl:k=n.eqs.length:=by omega
     rw[List.take_length] at X;obtain⟨t,_⟩:=a.o _ _ X.o;go_wp2_with (go_at_call 76;refine (fY X.o [⟨#[125]⟩] 1 rfl (by have:=O.o;simp only[aP,bJ,cw] at this ⊢;omega) _ rfl).mono ?_;rintro e w9 ⟨rfl,cl⟩);first|go_end0|refine ab (results_none rfl _ _ _) rfl ?_
     refine⟨rfl,ea _ _ ?_⟩;have:=cl;rw[aV.o];exact this
end
section
open Go.RowKit
variable {a:Xm} {B b:Nat} {w:Xw}
theorem Tryz.tb:(prog.info? 5).map (λi=>(i.zero,i.size,i.bytes))=some (some (.int .u8 0),1,1):=by kernel_rfl
theorem Tryz.s6:(prog.info? 109).map (λi=>i.size)=some 2:=by kernel_rfl
theorem Tryz.Bb:liesAt prog prog.depth 109 (2 / prog.cellsOf 109) 0 109 1=true:=by kernel_rfl
theorem LU (b:Nat)(w:Xw)(f:xC w b 0 (xP b)) :
 xK 83 #[xP b] w λe d=>e=.returned (.tuple #[])/\d=w:=by
 obtain⟨j,c,_⟩:∃j,prog.info? 109=some j/\j.size=2:=by
  have:=Tryz.s6;cases h:prog.info? 109 with
  | none=>rw[h] at this;cases this
  | some j=>rw[h] at this;exact⟨j,rfl,by simpa using this⟩
 have g:=Lib.run_neq_ptr_same (P:=prog) w (xD b 0) underlying107 c;go_enter func83,ntmps83;go_wp2;first|go_end0|refine ab (results_none rfl _ _ _) rfl ?_
 exact⟨rfl,rfl⟩
theorem LK (b:Nat)(w:Xw)(i:xC w b 0 (.pointer none))(c:w.shape? b=some (109,2))(l:w.frozen? (xD b 0)=false) :
 xK 83 #[xP b] w λe g=>e=.returned (.tuple #[])/\g=w.setCell (xD b 0) (xP b):=by
 obtain⟨j,d,f⟩:∃j,prog.info? 109=some j/\j.size=2:=by
  have:=Tryz.s6;cases h:prog.info? 109 with
  | none=>rw[h] at this;cases this
  | some j=>rw[h] at this;exact⟨j,rfl,by simpa using this⟩
 have m:=λw=>Lib.run_neq_ptr_same (P:=prog) w (xD b 0) underlying107 d;have n:=Lib.run_to_unsafe (P:=prog) w (xD b 0) underlying107 underlying133 d (by rw[f];decide) c (Nat.zero_lt_succ 1);have o:=Lib.run_from_unsafe (P:=prog) w (xD b 0) underlying133 underlying107 d c Tryz.Bb;have k:(callFunc 143 #[xP b]).run prog w=.ok (.value (xP b)) w:=by rw[run_callFunc_extern func143 (by kernel_rfl) (by kernel_rfl) (by kernel_rfl) (e:=Extern.AbiNoEscape.same) (by kernel_rfl)];rw[Lib.run_noEscape];rfl
 go_enter func83,ntmps83;go_wp2;first|go_end0|refine ab (results_none rfl _ _ _) rfl ?_
 exact⟨rfl,rfl⟩
theorem yY (h:Lib.IsBuilder 109 5 B b a w) :
 xK 83 #[xP b] w λe c=>e=.returned (.tuple #[])/\Lib.BuilderAt 109 5 B b (xP b) a c/\Below B w c:=by
 rcases h with h|h
 . refine (LK b w h.cell0 h.shape h.frozen0).mono ?_;rintro e c ⟨rfl,rfl⟩;exact⟨rfl,h.used _,(yS B w).setCell (p:=(xD b 0)) h.1 _⟩
 refine (LU b w h.cell0).mono ?_;rintro e c ⟨rfl,rfl⟩;exact⟨rfl,h,yS B _⟩
theorem LC (c:Int)(h:Lib.IsBuilder 109 5 B b a w)(E:a.length+1<=10000000000000)(K:B<=w.heap.size) :
 xK 36 #[xP b,.int .u8 c] w λe G=>e=.returned .nilIface/\Lib.BuilderAt 109 5 B b (xP b) (a++[.int .u8 c]) G/\Below B w G:=by
 obtain⟨O,L,z,A,C⟩:=info_parts Tryz.tb;have H:=za (yY h);clear h;go_enter func36,ntmps36;go_wp2_with (go_at_call 83;refine H.o.mono ?_);rintro e r ⟨rfl,J,q⟩;obtain⟨D,v,l,n,x⟩:=J;have Q:r.cell? (xD b 0)=some (xP b):=by rw[Lib.cell_of_heap l];rfl
 have c1:r.cell? (xD b 1)=some v:=by rw[Lib.cell_of_heap l];rfl
 have y:b<r.heap.size:=(Array.getElem?_eq_some_iff.1 l).1;have S:=q.size;go_wp2_with (at_builtin;refine wpList_append_own _ rfl _ _ 23 rfl B 5 O (.int .u8 0) 1 1 underlying23 L z A C rfl (by decide) _ _ _ rfl (n.alloc _) (xD r.heap.size 0) 1 1 [.int .u8 c] rfl rfl ?c1 ?c2 ?c3 ?c4 ?c5 ?_);case c1 =>
  intro j u s
  match j,s with
  | 0,s=>simp at s;subst s;simp[Addr.add]
 case c2=>intro u F;simp at F;subst F;rfl
 case c3=>unfold maxLen;omega
 case c4=>omega
 case c5=>simp;omega
 intro P t d f _;have i:t.heap[b]?=some (.cells #[xP b,v] 109 (0,0)):=by rw[f.block b (by simp;omega) (λe=>x e.symm),Lib.alloc_old r _ b y];exact l
 have d0:t.cell? (xD b 0)=some (xP b):=by rw[Lib.cell_of_heap i];rfl
 have d1:t.cell? (xD b 1)=some v:=by rw[Lib.cell_of_heap i];rfl
 have f1:t.frozen? (xD b 1)=false:=Lib.frozen_of_heap i 1;obtain⟨g,m,rfl⟩:∃g m,P=xS g (a.length+1) m:=by
  rcases d.2 with ⟨_,R⟩|⟨g,m,I,N,_⟩
  . omega
  exact⟨g,m,N⟩
 have o:=za d;clear d;go_wp2;go_ret;refine⟨rfl,?_,?_⟩
 . exact Lib.BuilderAt.put (T:=109) (e:=5) D i (bs':=a++[.int .u8 c]) (by simpa using o.o) (by decide)
 exact ((q.alloc (by omega) _).grown f (by simp;omega) (λk M=>(n.lt k M).1)).setCell (p:=(xD b 1)) D _
theorem LD (s:Xb)(h:Lib.IsBuilder 109 5 B b a w)(D:a.length+s.size<=10000000000000)(J:B<=w.heap.size) :
 xK 34 #[xP b,.string s] w λe F=>e=.returned (.tuple #[xI s.size,.nilIface])/\Lib.BuilderAt 109 5 B b (xP b) (a++Lib.strCells s) F/\Below B w F:=by
 obtain⟨M,K,u,x,y⟩:=info_parts Tryz.tb;have G:=za (yY h);clear h;go_enter func34,ntmps34;go_wp2_with (go_at_call 83;refine G.o.mono ?_);rintro e z ⟨rfl,I,n⟩;obtain⟨C,v,i,j,q⟩:=I;have O:z.cell? (xD b 0)=some (xP b):=by rw[Lib.cell_of_heap i];rfl
 have P:z.cell? (xD b 1)=some v:=by rw[Lib.cell_of_heap i];rfl
 have r:b<z.heap.size:=(Array.getElem?_eq_some_iff.1 i).1;have Q:=n.size;go_wp2_with (at_builtin;refine Lib.wpList_append_own_string _ rfl _ _ 23 9 rfl B 5 M underlying23 underlying9 K u x y _ _ _ rfl j s rfl ?c3 ?c4 ?c5 ?_);case c3=>unfold maxLen;omega
 case c4=>omega
 case c5=>omega
 intro N o c d _;have f:o.heap[b]?=some (.cells #[xP b,v] 109 (0,0)):=by rw[d.block b r (λe=>q e.symm)];exact i
 have d0:o.cell? (xD b 0)=some (xP b):=by rw[Lib.cell_of_heap f];rfl
 have d1:o.cell? (xD b 1)=some v:=by rw[Lib.cell_of_heap f];rfl
 have f1:o.frozen? (xD b 1)=false:=Lib.frozen_of_heap f 1;obtain⟨A,E,m,rfl⟩:∃A E m,N=.slice A E m:=by
  rcases c.2 with ⟨t,_⟩|⟨g,m,H,t,_⟩
  . exact⟨_,_,_,t⟩
  exact⟨_,_,_,t⟩
 have l:=za c;clear c;go_wp2;go_ret2;refine⟨rfl,?_,?_⟩
 . exact Lib.BuilderAt.put (T:=109) (e:=5) C f (bs':=a++Lib.strCells s) (by simpa [Lib.strCells_length] using l.o) (by decide)
 exact (n.grown d (by omega) (λk L=>(j.lt k L).1)).setCell (p:=(xD b 1)) C _
end
section
open Go.RowKit
theorem yX {B b:Nat}{j:Xm}{w k:Xw}(h:Lib.IsBuilder 109 5 B b j w)(d:bV w.heap.size w k):Lib.IsBuilder 109 5 B b j k:=by
 rcases h with ⟨f,v,a,c,i⟩|⟨f,v,a,c,i⟩
 . exact ao ⟨f,v,(d b (ze a)).trans a,zi c (λg _ _ e=>d g (c.lt g e).2),i⟩
 exact ap ⟨f,v,(d b (ze a)).trans a,zi c (λg _ _ e=>d g (c.lt g e).2),i⟩
theorem Lv {a:List ay}{k:Nat}{n:ay}(h:a[k]?=some n):dU (a.take (k+1))=dU (a.take k)++jp n:=by unfold dU;rw[kN h];simp
theorem LB (n:ay):0<(ez n).length:=by unfold ez;simp
theorem LI (S:Xs)(N:Nat)(a:List ay)(bt:Nat)(w:Xw)(a6:Kn S w)(bC:PT w N a (xP bt))(hN:N<=w.heap.size)(bg:21<=N)(aA:∀n∈a,gP n)(bv:∀n∈a,(∀v∈n.ak,oe v)/\∀q∈n.eqs,Qw S q)(y:∀n∈a,(ez n).length<=10000000000)(Q:(dU a).length<=1000000000000) :
 xK 15 #[xP bt] w (λe w'=>e=.returned (.string ⟨(dU a).toArray⟩)/\xB w w'):=by
 obtain⟨bB,ce,xs,e0,bK,t,B⟩:=bC;cases e0;obtain⟨c0,cb,cz⟩:=zu t;obtain⟨xa,cd,rfl⟩:=zB B.own;have bx:=B.bO;have U:=za aA;have a4:=za bv;have h:=za y;clear aA bv y t;go_enter func15,ntmps15;go_upto_region 3 with fail;go_loopg [12] (a.length+1) (λj i wr=>∃k:Nat,k+j=a.length+1/\k<=a.length/\i=xI k/\aa (Lib.IsBuilder 109 5 w.heap.size w.heap.size (Lib.byteCells (dU (a.take k))) wr)/\aa (xB w wr));case atStart=>exact⟨0,by omega,aE _,rfl,za (ao ⟨an _,_,zc w _,World.ownsRow_nil _ _ _ _,by simp[Value.ownBlock]⟩),za ((yS _ w).alloc (an _) _)⟩
 case round =>
  obtain⟨k,bL,cg,rfl,o,H⟩:=hrel;have F:=H.o.size;by_cases bo:k<a.length
  . obtain⟨n,aL⟩:∃n,a[k]?=some n:=⟨_,av bo⟩;have f:=aM aL;have C:=B.am (zm H.o hN);obtain⟨v,hv,nb,vs,ev,ca,rfl,Z⟩:=C.at' k n aL;obtain⟨g,rfl,bl⟩:=nB C.own hv;have bE:w.heap.size<wr.heap.size:=by rcases o.o with ⟨_,_,r,_⟩|⟨_,_,r,_⟩ <;> exact ze r
    obtain⟨p,l⟩:∃p,p=wr.alloc (.cells #[.slice none 0 0] 112):=⟨_,rfl⟩;have m:xB wr p:=l▸(yS _ wr).alloc (an _) _;have bp:p.heap.size=wr.heap.size+1:=(by rw[l];simp);have Y:Ln wr.heap.size (wr.heap.size+1) p (.slice none 0 0) []:=⟨l▸zc wr _,World.ownsRow_nil _ _ _ _⟩;have bk:N<=wr.heap.size:=(by omega);have X:Kn S p:=(by have V:xB w p:=H.o.trans (m.mono F);refine⟨a6.gl.of (T:=λ_=>False) (Fr.Mo V) (λ_ e=>e.elim),?_⟩;have s:=a6.oy;unfold Lib.TabIs World.var? at s ⊢;rw[Tryz.Qz] at s ⊢;simp only[Option.bind_some] at s ⊢;rw[V.block _ (by have:=a6.gl.size;omega)];exact s);have bq:=za (LG (aQ.start Y (by omega) (by omega)) (N:=N) (by omega) bg X n nb vs ev ca (Z.am (zm m bk)) (U.o n f) (a4.o n f).1 (a4.o n f).2 (by simpa using h.o n f));have b0:wr.alloc (.cells #[.slice none 0 0] 112)=p:=l.symm;have bb:=za (Lv aL);have a9:=za (zm m (an _));have z:=za (H.o.trans (m.mono F));have bY:wr.heap.size<p.heap.size:=(by omega);have O:=za (h.o n f);have R:=za (LB n);clear aL f C hv Z m bp Y X l a4 U h;have G:=trivial;go_wp2_with (clear G;go_at_call 33;refine bq.o.mono ?_);rintro e w2 ⟨rfl,r⟩;rw[List.nil_append] at r;obtain⟨b4,b,d⟩:=r.ln;have P:aa (bV wr.heap.size wr w2):=λj I=>(r.am (an _) j I).trans (a9.o j I);have K:=za (yX o.o P.o);have D:=za (And.intro d.fr.os (And.intro d.fr.tape d.fr.output));have b1:=r.size;obtain⟨t0,_,tz⟩:=zu b.aC;obtain⟨gt,ct,rfl,_⟩:=zM b.own R.o;have bs:=za (Tryz.strings_Join gt 0 ct (ez n) ⟨#[32]⟩ w2 (λj x hx=>by
     have:=r5 b.own (j:=j) (u:=.string x) (by simp[hx]);rw[Nat.zero_add];exact this) ((b.own.lt gt rfl).2) (by have:=O.o;omega) (by
     rcases b.own.2 with ⟨e,_⟩|⟨_,_,_,e,_,_,s,_⟩
     . cases e
     . cases e;exact s) (by
     have h1:(jp n).length<=(dU (a.take (k+1))).length:=(by rw[bb.o];simp);have s:(dU (a.take (k+1))).length<=(dU a).length:=by
      unfold dU
      conv=>rhs;rw[<- List.take_append_drop (k+1) a]
      rw[List.flatMap_append,aP];omega
     have h4:=Q;have aV:(Lib.join ((ez n).map (·.data.toList)) [32]).length<=(jp n).length:=by unfold jp Lib.join;simp
     show (Lib.join ((ez n).map (·.data.toList)) [32]).length<=_;omega))
    have A:aa ((dU (a.take k)).length+(Lib.join ((ez n).map (·.data.toList)) [32]).length+1<=1000000000000):=by
     have h1:(dU (a.take k)).length+(jp n).length=(dU (a.take (k+1))).length:=(by rw[bb.o];simp);have s:(dU (a.take (k+1))).length<=(dU a).length:=by
      unfold dU
      conv=>rhs;rw[<- List.take_append_drop (k+1) a]
      rw[List.flatMap_append,aP];omega
     have h4:=Q;have aV:(Lib.join ((ez n).map (·.data.toList)) [32]).length+1=(jp n).length:=by unfold jp Lib.join;simp
     show _<=_;omega
    obtain⟨J,hJ⟩:∃J,Lib.join ((ez n).map (·.data.toList)) [32]=J:=⟨_,rfl⟩;have a5:aa (jp n=J++[10]):=(by show jp n=_;rw[<- hJ];rfl);have M:aa (xK 35 #[.slice (some (xD gt 0)) (ez n).length ct,.string ⟨#[32]⟩] w2 λe w'=>e=.returned (.string ⟨J.toArray⟩)/\xB w2 w'):=(by rw[<- hJ];exact bs.o);rw[hJ] at A;obtain⟨ln,ar⟩:∃ln,(ez n).length=ln:=⟨_,rfl⟩;rw[ar] at M t0;clear hJ bs b d r bq ar R O;have G:=trivial;go_wp2_with (clear G;go_at_call 35;refine M.o.mono ?_);rintro e w3 ⟨rfl,c⟩;have b2:=c.size;have L:=za (yX K.o (zm c (an _)));have a0:aa (xB w w3):=(by have h1:bV w.heap.size wr w3:=λj I=>((zm c (an _)) j (by omega)).trans (P.o j (by omega));exact⟨c.os.trans (D.o.1.trans z.o.os),c.tape.trans (D.o.2.1.trans z.o.tape),c.output.trans (D.o.2.2.trans z.o.output),by omega,λj I=>(h1 j I).trans (H.o.block j I)⟩);have bA:=za (LD ⟨J.toArray⟩ L.o (by rw[Lib.byteCells_length];have:=A.o;show _+J.toArray.size<=_;simp;omega) (by omega));clear c;have G:=trivial;go_wp2_with (clear G;go_at_call 34;refine bA.o.mono ?_);rintro e w4 ⟨rfl,h4,E⟩;have b3:=E.size;have be:=za (LC 10 (ap h4) (by rw[aP,Lib.byteCells_length,Lib.strCells_length];have:=A.o;show _+J.toArray.size+1<=_;simp;omega) (by omega));have a1:=za (a0.o.trans E);clear h4 E;have G:=trivial;go_wp2_with (clear G;go_at_call 36;refine be.o.mono ?_;rintro e w5 ⟨rfl,aV,W⟩;have a2:=za (a1.o.trans W);clear W);go_roundg (gk-1);case measure=>omega
    refine⟨k+1,by omega,by omega,by go_num,za (ap ?_),a2⟩;have:=aV;rw[bb.o,a5.o];have e1:Lib.byteCells (dU (a.take k)++(J++[10]))=Lib.byteCells (dU (a.take k))++Lib.strCells ⟨J.toArray⟩++[.int .u8 10]:=(by simp[Lib.byteCells,Lib.strCells]);rw[e1];exact this
  obtain rfl:k=a.length:=by omega
  rw[List.take_length] at o;go_wp2_with (go_at_call 37;refine (Tryz.Builder_String_any_k _ _ _ _ (Lib.IsBuilderF.of o.o) F).mono ?_;rintro e w6 ⟨rfl,_,a3,_⟩);go_ret;exact⟨rfl,H.o.trans a3⟩
end
section
open Go.RowKit
variable {b c:Fn}
theorem Kn.bl {S:Xs}{w W:Xw}(h:Kn S w)(d:xB w W):Kn S W:=by refine⟨h.gl.of (T:=λ_=>False) (Fr.Mo d) (λ_ e=>e.elim),?_⟩;have a:=h.oy;unfold Lib.TabIs World.var? at a ⊢;rw[Tryz.Qz] at a ⊢;simp only[Option.bind_some] at a ⊢;rw[d.block _ (by have:=h.gl.size;omega)];exact a
theorem uI (v:zX 18 178 c)(t:ig 18 b)(h:zv 17 b)(i:zv 18 c)(S:Xs)(src:Xb)(R:St×List Nd)(u:dm b c 1300 src=R)(z:src.size<=1200)(x:R.1.er=0)(q:R.2.length<=6)(n:List ay)(y:dS R.2 n)(w:Xw)(s:Gl S w) :
 xK 14 #[.string src] w (λe g=>∃d,e=.returned (.tuple #[xP d,.nilIface])/\PT g g.heap.size n (xP d)/\xB w g):=by
 refine (yG v t h i S 1300 (by decide) (by decide) src w s z (R:=R) u).mono ?_;rintro e g ⟨_,m,r⟩;obtain⟨a,rfl,j⟩:=m x;obtain⟨A,l,k⟩:=Ku j q;have:=uR l y;subst this;obtain⟨d,p,B,o,f⟩:=k;cases o;exact⟨d,rfl,⟨d,p,B,rfl,f⟩,r⟩
theorem zz (r:zX 18 178 c)(q:ig 18 b)(a:zv 17 b)(d:zv 18 c)(S:Xs)(src:Xb)(k p:Nat)(h:(1200<src.size/\k=1/\p=0)∨(src.size<=1200/\(dm b c 1300 src).1.er≠0/\k=(dm b c 1300 src).1.er/\p=(dm b c 1300 src).1.at'))(w:Xw)(m:Gl S w) :
 xK 14 #[.string src] w (λe j=>e=.returned (.tuple #[.pointer none,fN S iN k p])/\xB w j):=by
 rcases h with ⟨f,rfl,rfl⟩|⟨f,l,n,o⟩
 . refine (BW S src w m f).mono ?_;rintro e j ⟨rfl,g⟩;exact⟨rfl,g⟩
 refine (yG r q a d S 1300 (by decide) (by decide) src w m f rfl).mono ?_;rintro e j ⟨i,_,g⟩;refine⟨?_,g⟩;rw[i l,n,o];unfold cJ fN;rw[ae l]
theorem acU (S:Xs)(src:Xb)(k p:Nat)(n:1<=k)(o:k<=11)(w:Xw)(t:Gl S w)(s:Sn S w)(m:fw w)(u:xK 14 #[.string src] w (λe q=>e=.returned (.tuple #[.pointer none,fN S iN k p])/\xB w q)) :
 xK 6 #[.string src] w (λe q=>e=.returned (.tuple #[.string ⟨#[]⟩,xI k,xI p])/\xB w q):=by
 have r:=za u;have g:=za (λW (d:xB w W)=>y0 S iN k p W n o (t.of (T:=λ_=>False) (Fr.Mo d) (λ_ e=>e.elim)) (λi j y z A B x l=>s i j y z A B x (d.trans (l.mono d.size))) ((Z6 (w:=w) (a:=(xD 7 0)) (d.block _ (World.block_lt_of_cell? w (xD 7 0) m))).trans m));unfold fN ew at r g;clear u t s m;go_enter func6,ntmps6
 go_wp2_with (first
  | (go_at_call 11;refine (g.o _ f.o).mono ?_;rintro e D ⟨rfl,d⟩;have h:=za d)
  | (go_at_call 14;refine r.o.mono ?_;rintro e C ⟨rfl,d⟩;have f:=za d))
 exact ab (v:=.tuple #[.string ⟨#[]⟩,xI k,xI p]) (by simp[results,results6,go_sem]) rfl ⟨rfl,f.o.trans (h.o.mono f.o.size)⟩
end
section
open Go.RowKit
theorem BU (S:Xs)(src:Xb)(a:List ay)(j:∀n∈a,gP n)(t:∀n∈a,(∀v∈n.ak,oe v)/\∀q∈n.eqs,Qw S q)(b:∀n∈a,(ez n).length<=10000000000)(i:(dU a).length<=1000000000000)(w:Xw)(r:Kn S w)
 (s:xK 14 #[.string src] w (λe k=>∃f,e=.returned (.tuple #[xP f,.nilIface])/\PT k k.heap.size a (xP f)/\xB w k)) :
 xK 6 #[.string src] w (λe k=>e=.returned (.tuple #[.string ⟨(dU a).toArray⟩,xI 0,xI 0])/\xB w k):=by
 have m:=za s;have h:=za (λW f (d:xB w W) (o:PT W W.heap.size a (xP f))=>LI S W.heap.size a f W (r.bl d) o (an _) (by have:=r.gl.size;have:=d.size;omega) j t b i);obtain⟨T,u⟩:∃T,(dU a).toArray=T:=⟨_,rfl⟩;rw[u] at h ⊢;clear s t b i j;go_enter func6,ntmps6
 go_wp2_with (first
  | (go_at_call 15;revert c;intro c;refine (h.o _ _ g.o c.o).mono ?_;rintro e y ⟨rfl,d⟩;have l:=za d)
  | (go_at_call 14;refine m.o.mono ?_;rintro e x ⟨f,rfl,o,d⟩;have p:=d.size;have c:=za o;have g:=za d))
 exact ab (v:=.tuple #[.string ⟨T⟩,xI 0,xI 0]) (by simp[results,results6,go_sem]) rfl ⟨rfl,g.o.trans (l.o.mono p)⟩
end
section
theorem oH {a b:Fn}(c:a=(fx 17).ex)(e:b=(fx 18).ex)(f:zv 17 a)(h:zv 18 b){g:Nat}{src:Xb}(q:src.size<=1200){R:St×List Nd}(z:dm a b g src=R)(p:R.1.er=0) :
 (∀d∈R.2,og d/\kY d)/\R.2.length<=6/\∃l,dS R.2 l/\(∀n∈l,gP n)/\∀n∈l,n.Nh.length<=1201:=by
 have u:ZK a:=by rw[c];exact (qD 17).1
 have v:ZK b:=by rw[e];exact (qD 18).1
 have s:bI 17 a:=by rw[c];exact (ma 17).1
 have t:bI 18 b:=by rw[e];exact (ma 18).1
 obtain⟨j,m⟩:=vm c;obtain⟨k,o⟩:=vm e;have x:Inv 0 (⟨src,zZ src 0,0,0,0,[]⟩:St):=sk q;subst z;have A:=CN u v (g:=g) q;have B:=uU j k m o f h g src x p;have r:=FR s t f h g src x p;obtain⟨l,w,y⟩:=Di (λd i=>ER (r d i));exact⟨λd i=>⟨⟨A d i,B d i,ER (r d i)⟩,r d i⟩,CE a b g src,l,w,Eh j k m o f h q p w,y⟩
end
section
open Go.RowKit
theorem UA {L:List Ex}(j:∀e∈L,mQ e){x:Nat}{t:Tm}(h:bX L x t):Bk t=true:=by
 induction h with
 | mk x b q n r s p =>
   have hex:=j b (aM n);have m:df b.op.toList b.n<=9223372036854775807:=(by unfold df;split;exact hex.1;exact aE _);have d:∀a:List Tm,(∀u∈a,Bk u=true)->ti a=true:=by
    intro a;induction a with
    | nil=>intro _;rfl
    | cons u l f=>intro c;rw[ti,c u (Mx ..),f (λy o=>c y (cS _ o))];rfl
   rw[Bk,decide_eq_true m,d q (λu c=>?_)]
   . rfl
   obtain⟨i,g⟩:=List.mem_iff_getElem?.1 c;have k:=(aB.1 g).1;exact p i _ u (av (show i<b.ah.length by omega)) g
theorem II (w:Xw):xK 11 #[.nilIface] w (λe a=>e=.returned (.tuple #[xI 0,xI 0])/\w=a):=by go_enter func11,ntmps11;go_wp2_with fail;exact ab (v:=.tuple #[xI 0,xI 0]) (by simp[results,results11,go_sem]) rfl ⟨rfl,rfl⟩
end
section
open Go.RowKit
variable {a:List ay} {N:Nat}
attribute [local go_sem ↓] Go.wp_at_zero Go.wp_at_succ
theorem NL.ne {w:Xw}{e:Xv}{t:Xm}(h:NL w N a e t):NE w N a e:=by
 have p:=h.own;rcases h.own.2 with ⟨l,f⟩|⟨g,b,j,s,_,_,m,o,_⟩
 . exact⟨none,0,by rw[l,f],by omega,by omega,λc=>absurd (List.length_eq_zero_iff.1 f) c⟩
 subst s;refine⟨some (xD g 0),b,rfl,m,by unfold maxLen at o;omega,λ_=>⟨g,rfl,h.lo g rfl,λi n q=>?_⟩⟩;obtain⟨u,r,d⟩:=h.at' i n q;have:=p.cells (g:=g) rfl i u r;have k:((xD g 0):Addr).add i=⟨g,i,none⟩:=by cases i <;> simp[Addr.add]
 rw[k] at this;exact⟨u,this,d⟩
theorem G1 {H:Xv}(k:Nat)(n:ay)(w:Xw)(h:PT w N a H)(D:N<=w.heap.size)(A:a[k]?=some n) :
 xK 26 #[H,xI k] w (λe p=>∃x c j,e=.returned (.agg #[.slice x k c,xP j])/\br p N ⟨a.take k,n⟩ (.slice x k c) (xP j)/\xB w p):=by
 obtain⟨t,V,xs,rfl,L,E,q⟩:=h;have f:=(aB.1 A).1;have C:=q.ne;have X:=q.bO;obtain⟨x,c,rfl,J,M,m⟩:=q.ne;obtain⟨g,rfl,K,l⟩:=m (by intro e;rw[e] at f;simp at f);obtain⟨u,F,o⟩:=l k n A;have r:=za o;have I:=za (C.take f);obtain⟨j,vs,aA,U,rfl,B⟩:=o;obtain⟨G,ar,R⟩:=zu E;have Z:(k:Int)<=(c:Int):=by omega
 have Y:(0:Int)<=(k:Int):=by omega
 have i2:(k:Int)<(a.length:Int):=by omega
 have z:g<w.heap.size:=by omega
 clear C m l B q E A;go_enter func26,ntmps26;go_wp2_with fail;refine zn (λW=>W=w.alloc (.cells #[.slice none 0 0,.pointer none] 73 (0,0))/\True) ⟨rfl,trivial⟩ ?_;rintro W ⟨y,_⟩;have s:=za (y▸zq w (.cells #[.slice none 0 0,.pointer none] 73 (0,0)):xB w W);obtain⟨S,T,rf,aL⟩:=zp (y▸zc w (.cells #[.slice none 0 0,.pointer none] 73 (0,0)):W.heap[w.heap.size]?=_);have aV:=zd s.o G R;have s1:=zd s.o F z;have O:¬w.heap.size=t:=by omega
 have P:¬w.heap.size=g:=by omega
 have jK:¬t=w.heap.size:=by omega
 have Q:¬g=w.heap.size:=by omega
 clear y G F;go_region_held3 (λp=>p.cell? (xD t 0)=some (xS g a.length c)/\p.cell? (xD g k)=some (xP j)) (go_keep) (fail);go_wp2_with fail;have d:=zo (zC (i:=1) (zC (b:=w.heap.size) (i:=0) s.o (an _) (xS g k c)) (b:=w.heap.size) (an _) (xP j));refine ab (v:=.agg #[xS g k c,xP j]) (by simp[results,results26,go_sem,S,T]) rfl ⟨_,_,_,rfl,?_,d⟩;exact⟨I.o.am (zm d D),r.o.am (zm d D)⟩
end
section
open Go.RowKit
attribute [local go_sem ↓] Go.wp_at_zero Go.wp_at_succ
theorem HZ (S:Xs)(X lb y M:Nat)(p f:Xv)(N:Nat)(c:Sc)(h6:c.er.length<=6)(ev nv:Xv)(D K:Nat)(l1:N<=lb)(l2:N<=y) :
 nX N (RT lb y) 100 #[xP D,xP K] (λ_=>True) c.nd (λz q t=>(fF c q t).foldl aj z) (b5 S X lb y M p f N c ev nv D K) where
 enters:=K0
 hT:=λk e=>by rcases e with e|e;exact e▸l1;exact e▸l2
 aq:=λs w m h hB=>h.aq hB
 sub:=λt u h hu=>trivial
 root:=λ_ _=>trivial
 call:=by
  intro q lv rv t v z w ct ce hT cn hN bb hO;have bA:=za bb;have bE:=za hT;have HEq:=za ce;have cd:=za cn;obtain⟨O,j,L,rfl,rfl,co⟩:=bb.sc.shape;obtain⟨b,ch,vs,rfl,bL,bs,_⟩:=hT.ptr;have a4:=ze bs;have B:=za bs;obtain⟨Z,T,rfl⟩:=zB ce.own;obtain⟨Y,_,_,rfl,_⟩:=ce.tt.ptr;have cv:=ze bb.x1;have z2:=ze bb.x2;have cA:=ze bb.rp.l;have cz:=ze bb.rp.b;have d1:=bb.d1;have d2:=bb.d2;have d3:=bb.d3;have d4:=bb.d4;have cl:¬b=lb:=by omega
  have ck:¬b=y:=by omega
  have a0:=za (λW (hB:xB w W)=>rq W (hT.am (zm hB hN)));have bK:=za (λW (hB:bV N w W)=>JA W (HEq.o.am hB) (bE.o.am hB) cd.o);have bC:=za (λW (hB:bV N w W) (hz:N<=W.heap.size) (cs:br W N c (xE O c j) (xP L))=>Jo (hp q t) W cs hz h6 (bE.o.am hB));have bY:¬w.heap.size=lb:=by omega
  have b0:¬w.heap.size=y:=by omega
  show Calls prog _ #[.agg #[.slice Z q.ns.length T,xI q.a,xP Y],xP b,xP D,xP K] w _;have bk:b5 S X lb y M p f N c (xE O c j) (xP L) D K z (w.alloc (.cells #[.slice Z q.ns.length T,xI q.a,xP Y] 159)):=bA.o.aq (zq w _);have a1:=za bk;by_cases bg:t.k=4
  . have C:NA t.k=false:=by rw[bg];rfl
    rw[bg] at B;cases U:c.fits t (hp q t) with
    | true =>
      have be:aa ((fF c q t).foldl aj z=z):=(by unfold aa fF;rw[C,U];simp);go_enter func100,ntmps100;go_upto_region 1 with fail;refine zn (λW=>b5 S X lb y M p f N c (xE O c j) (xP L) D K z W/\xB w W/\xH W w.heap.size #[.slice Z q.ns.length T,xI q.a,xP Y] 159) ⟨a1.o,zq w _,zc w _⟩ ?_;rintro W ⟨d,i,o⟩;obtain⟨bp,s1,bq,sz⟩:=zp d.x1;obtain⟨p0,bo,a9⟩:=zu d.x2;obtain⟨m0,m1,m2,m3,m4,m5,bl,a6⟩:=zt ((i.block b a4).trans B.o);have E:=za d;have A:=za i;have G:=za o;have aA:=ze o;have R:=za (λqn=>nA (a0.o (W.drewN qn) (zI i qn)));rw[C] at R;go_quiet ((go_at_call 101;exact R.o _));go_upto_region 3 with fail;refine zn (λl=>b5 S X lb y M p f N c (xE O c j) (xP L) D K z l/\Fr (RT lb y) w l/\xH l w.heap.size #[.slice Z q.ns.length T,xI q.a,xP Y] 159) ⟨E.o.aq (zI (yS _ _) _),zy (zI A.o _),G.o⟩ ?_;rintro l ⟨g,n,I⟩;obtain⟨bp,s1,bq,sz⟩:=zp g.x1;obtain⟨p0,bo,a9⟩:=zu g.x2;obtain⟨b2,b3,b4,rf,ca⟩:=zL I;have r:=bA.o.am n;obtain⟨m0,m1,m2,m3,m4,m5,bl,a6⟩:=zt ((r b bL).trans B.o);have x:=za g;have F:=za n;have cb:=za (bK.o l.drew r);have a3:=g.hN;have cg:xC l b 0 (xI 4):=m0
      go_region_held3 (λm=>m.cell? (xD D 0)=some (xE O c j)/\m.cell? (xD D 1)=some (xP L)/\m.cell? (xD w.heap.size 0)=some (.slice Z q.ns.length T)/\m.cell? (xD w.heap.size 1)=some (xI q.a)/\m.cell? (xD w.heap.size 2)=some (xP Y)/\m.cell? (xD b 0)=some (xI 4))
       (first|(with_reducible (refine⟨?_,?_,?_,?_,?_,?_⟩ <;> repeat (first|assumption|refine zg ?_|refine zj _ ?_|refine zk (by omega) ?_|refine zd ar.o ?_ (by first|omega|(rw[au];omega))|refine zd a.o ?_ (by first|omega|(rw[au];omega)))))|go_keep)
       (first
         | (go_at_call 102;refine aV.o.mono ?_;rintro e w5 ⟨rfl,bv⟩;have ar:=za bv)
         | (go_at_call 103;refine cb.o.mono ?_;rintro e w4 ⟨rfl,H⟩;have a:=za (zw H);(have b1:l.heap.size<=w4.heap.size:=H.size);have aV:=za (bC.o w4 (r.trans (zm a.o a3)) (by omega) (x.o.aq a.o).sc);rw[U] at aV))
      go_wp2_with fail;go_ret;refine⟨rfl,?_,F.o.trans (zy (a.o.trans (ar.o.mono (by have:=a.o.size;omega))))⟩;rw[be.o];exact x.o.aq (a.o.trans (ar.o.mono (by have:=a.o.size;omega)))
    | false =>
      have be:aa ((fF c q t).foldl aj z=aj z t.nm):=(by unfold aa fF;rw[C,U,bg];rfl);go_enter func100,ntmps100;go_upto_region 1 with fail;refine zn (λW=>b5 S X lb y M p f N c (xE O c j) (xP L) D K z W/\xB w W/\xH W w.heap.size #[.slice Z q.ns.length T,xI q.a,xP Y] 159) ⟨a1.o,zq w _,zc w _⟩ ?_;rintro W ⟨d,i,o⟩;obtain⟨bp,s1,bq,sz⟩:=zp d.x1;obtain⟨p0,bo,a9⟩:=zu d.x2;obtain⟨m0,m1,m2,m3,m4,m5,bl,a6⟩:=zt ((i.block b a4).trans B.o);have E:=za d;have A:=za i;have G:=za o;have aA:=ze o;have R:=za (λqn=>nA (a0.o (W.drewN qn) (zI i qn)));rw[C] at R;go_quiet ((go_at_call 101;exact R.o _));go_upto_region 3 with fail;refine zn (λl=>b5 S X lb y M p f N c (xE O c j) (xP L) D K z l/\Fr (RT lb y) w l/\xH l w.heap.size #[.slice Z q.ns.length T,xI q.a,xP Y] 159) ⟨E.o.aq (zI (yS _ _) _),zy (zI A.o _),G.o⟩ ?_;rintro l ⟨g,n,I⟩;obtain⟨bp,s1,bq,sz⟩:=zp g.x1;obtain⟨p0,bo,a9⟩:=zu g.x2;obtain⟨b2,b3,b4,rf,ca⟩:=zL I;have r:=bA.o.am n;obtain⟨m0,m1,m2,m3,m4,m5,bl,a6⟩:=zt ((r b bL).trans B.o);have x:=za g;have F:=za n;have cb:=za (bK.o l.drew r);have a3:=g.hN;have cg:xC l b 0 (xI 4):=m0
      go_region_held3 (λm=>m.cell? (xD D 0)=some (xE O c j)/\m.cell? (xD D 1)=some (xP L)/\m.cell? (xD w.heap.size 0)=some (.slice Z q.ns.length T)/\m.cell? (xD w.heap.size 1)=some (xI q.a)/\m.cell? (xD w.heap.size 2)=some (xP Y)/\m.cell? (xD b 0)=some (xI 4))
       (first|(with_reducible (refine⟨?_,?_,?_,?_,?_,?_⟩ <;> repeat (first|assumption|refine zg ?_|refine zj _ ?_|refine zk (by omega) ?_|refine zd ar.o ?_ (by first|omega|(rw[au];omega))|refine zd a.o ?_ (by first|omega|(rw[au];omega)))))|go_keep)
       (first
         | (go_at_call 102;refine aV.o.mono ?_;rintro e w5 ⟨rfl,bv⟩;have ar:=za bv)
         | (go_at_call 103;refine cb.o.mono ?_;rintro e w4 ⟨rfl,H⟩;have a:=za (zw H);(have b1:l.heap.size<=w4.heap.size:=H.size);have aV:=za (bC.o w4 (r.trans (zm a.o a3)) (by omega) (x.o.aq a.o).sc);rw[U] at aV))
      go_upto_region 4 with fail;have aL:=za (a.o.trans (ar.o.mono (by have:=a.o.size;omega)));have g1:=zd aL.o p0 a9;have g2:=zd aL.o m3 a6;have P:=za (eg S X lb y M p f z t.nm w5.drew ((x.o.aq aL.o).rp.aq (zo (yS _ _))));unfold bT at g1
      go_region_held3 (λm=>m.cell? (xD K 0)=some (.func (.func 117) #[] #[xP lb,xP y,xP M])/\m.cell? (xD b 3)=some (xI t.nm))
       (first|(with_reducible (refine⟨?_,?_⟩ <;> repeat (first|assumption|refine zg ?_|refine zS J.o ?_ (by omega) (by omega))))|go_keep)
       (first
         | (go_at_call 117;refine (P.o).mono ?_;rintro e w6 ⟨rfl,bx,a2⟩;have bt:=za bx;have J:=za a2.cQ))
      go_wp2_with fail;go_ret;refine⟨rfl,?_,(F.o.trans (zy aL.o)).trans J.o⟩;rw[be.o];exact (x.o.aq aL.o).aX bt.o J.o
  have cm:((t.k:Int)==4)=false:=by simp;omega
  have a5:(t.k==4)=false:=by simp[bg]
  cases C:NA t.k with
  | false => have be:aa ((fF c q t).foldl aj z=z):=(by unfold aa fF;rw[C,a5];rfl);go_enter func100,ntmps100;go_upto_region 1 with fail;refine zn (λW=>b5 S X lb y M p f N c (xE O c j) (xP L) D K z W/\xB w W/\xH W w.heap.size #[.slice Z q.ns.length T,xI q.a,xP Y] 159) ⟨a1.o,zq w _,zc w _⟩ ?_;rintro W ⟨d,i,o⟩;obtain⟨bp,s1,bq,sz⟩:=zp d.x1;obtain⟨p0,bo,a9⟩:=zu d.x2;obtain⟨m0,m1,m2,m3,m4,m5,bl,a6⟩:=zt ((i.block b a4).trans B.o);have E:=za d;have A:=za i;have G:=za o;have aA:=ze o;have R:=za (λqn=>nA (a0.o (W.drewN qn) (zI i qn)));rw[C] at R;go_quiet ((go_at_call 101;exact R.o _));go_upto_region 3 with fail;refine zn (λl=>b5 S X lb y M p f N c (xE O c j) (xP L) D K z l/\Fr (RT lb y) w l/\xH l w.heap.size #[.slice Z q.ns.length T,xI q.a,xP Y] 159) ⟨E.o.aq (zI (yS _ _) _),zy (zI A.o _),G.o⟩ ?_;rintro l ⟨g,n,I⟩;obtain⟨bp,s1,bq,sz⟩:=zp g.x1;obtain⟨p0,bo,a9⟩:=zu g.x2;obtain⟨b2,b3,b4,rf,ca⟩:=zL I;have r:=bA.o.am n;obtain⟨m0,m1,m2,m3,m4,m5,bl,a6⟩:=zt ((r b bL).trans B.o);have x:=za g;have F:=za n;go_quiet (fail);go_wp2_with fail;go_ret;refine⟨rfl,?_,F.o.trans (zy (zI (yS _ _) _))⟩;rw[be.o];exact x.o.aq (zI (yS _ _) _)
  | true =>
    cases V:c.has t.s with
    | true =>
      have be:aa ((fF c q t).foldl aj z=z):=(by unfold aa fF;rw[C,a5,V];rfl);go_enter func100,ntmps100;go_upto_region 1 with fail;refine zn (λW=>b5 S X lb y M p f N c (xE O c j) (xP L) D K z W/\xB w W/\xH W w.heap.size #[.slice Z q.ns.length T,xI q.a,xP Y] 159) ⟨a1.o,zq w _,zc w _⟩ ?_;rintro W ⟨d,i,o⟩;obtain⟨bp,s1,bq,sz⟩:=zp d.x1;obtain⟨p0,bo,a9⟩:=zu d.x2;obtain⟨m0,m1,m2,m3,m4,m5,bl,a6⟩:=zt ((i.block b a4).trans B.o);have E:=za d;have A:=za i;have G:=za o;have aA:=ze o;have R:=za (a0.o W.drew (zo i));rw[C] at R;have bB:=za (pv t.s (t.nm:Int) W.drew (d.sc.am (λ_ _=>rfl)) (by show N<=W.heap.size;exact d.hN));have Q:(c.nd.find t.s).isSome=true:=V;rw[Q] at bB
      go_region_held3 (λm=>m.cell? (xD D 0)=some (xE O c j)/\m.cell? (xD D 1)=some (xP L)/\m.cell? (xD b 2)=some (.string t.s)/\m.cell? (xD b 3)=some (xI t.nm))
       (first|(with_reducible (refine⟨?_,?_,?_,?_⟩ <;> repeat (first|assumption|refine zg ?_|refine zj _ ?_|refine zk (by omega) ?_|refine zd a.o ?_ (by first|omega|(rw[au];omega)))))|go_keep)
       (first
         | (go_at_call 98;refine bB.o.mono ?_;rintro e w1 ⟨rfl,H⟩;have a:=za (zw H))
         | (go_at_call 101;refine R.o.mono ?_;rintro e w1 ⟨rfl,rfl⟩))
      go_upto_region 3 with fail;refine zn (λl=>b5 S X lb y M p f N c (xE O c j) (xP L) D K z l/\Fr (RT lb y) w l/\xH l w.heap.size #[.slice Z q.ns.length T,xI q.a,xP Y] 159) ⟨E.o.aq a.o,zy (A.o.trans (a.o.mono A.o.size)),(a.o.block _ aA).trans G.o⟩ ?_;rintro l ⟨g,n,I⟩;obtain⟨bp,s1,bq,sz⟩:=zp g.x1;obtain⟨p0,bo,a9⟩:=zu g.x2;obtain⟨b2,b3,b4,rf,ca⟩:=zL I;have r:=bA.o.am n;obtain⟨m0,m1,m2,m3,m4,m5,bl,a6⟩:=zt ((r b bL).trans B.o);have x:=za g;have F:=za n;go_quiet (fail);go_wp2_with fail;go_ret;refine⟨rfl,?_,F.o.trans (zy (zI (yS _ _) _))⟩;rw[be.o];exact x.o.aq (zI (yS _ _) _)
    | false =>
      have be:aa ((fF c q t).foldl aj z=aj z t.nm):=(by unfold aa fF;rw[C,a5,V];rfl);go_enter func100,ntmps100;go_upto_region 1 with fail;refine zn (λW=>b5 S X lb y M p f N c (xE O c j) (xP L) D K z W/\xB w W/\xH W w.heap.size #[.slice Z q.ns.length T,xI q.a,xP Y] 159) ⟨a1.o,zq w _,zc w _⟩ ?_;rintro W ⟨d,i,o⟩;obtain⟨bp,s1,bq,sz⟩:=zp d.x1;obtain⟨p0,bo,a9⟩:=zu d.x2;obtain⟨m0,m1,m2,m3,m4,m5,bl,a6⟩:=zt ((i.block b a4).trans B.o);have E:=za d;have A:=za i;have G:=za o;have aA:=ze o;have R:=za (a0.o W.drew (zo i));rw[C] at R;have bB:=za (pv t.s (t.nm:Int) W.drew (d.sc.am (λ_ _=>rfl)) (by show N<=W.heap.size;exact d.hN));have Q:(c.nd.find t.s).isSome=false:=V;rw[Q] at bB
      go_region_held3 (λm=>m.cell? (xD D 0)=some (xE O c j)/\m.cell? (xD D 1)=some (xP L)/\m.cell? (xD b 2)=some (.string t.s)/\m.cell? (xD b 3)=some (xI t.nm))
       (first|(with_reducible (refine⟨?_,?_,?_,?_⟩ <;> repeat (first|assumption|refine zg ?_|refine zj _ ?_|refine zk (by omega) ?_|refine zd a.o ?_ (by first|omega|(rw[au];omega)))))|go_keep)
       (first
         | (go_at_call 98;refine bB.o.mono ?_;rintro e w1 ⟨rfl,H⟩;have a:=za (zw H))
         | (go_at_call 101;refine R.o.mono ?_;rintro e w1 ⟨rfl,rfl⟩))
      go_upto_region 2 with fail;have g1:=zd a.o p0 a9;have g2:=zd a.o m3 a6;have P:=za (eg S X lb y M p f z t.nm w1.drew ((E.o.aq a.o).rp.aq (zo (yS _ _))));unfold bT at g1
      go_region_held3 (λm=>m.cell? (xD K 0)=some (.func (.func 117) #[] #[xP lb,xP y,xP M])/\m.cell? (xD b 3)=some (xI t.nm))
       (first|(with_reducible (refine⟨?_,?_⟩ <;> repeat (first|assumption|refine zg ?_|refine zS J.o ?_ (by omega) (by omega))))|go_keep)
       (first
         | (go_at_call 117;refine (P.o).mono ?_;rintro e w2 ⟨rfl,bx,a2⟩;have bt:=za bx;have J:=za a2.cQ))
      go_upto_region 3 with fail;refine zn (λl=>b5 S X lb y M p f N c (xE O c j) (xP L) D K (aj z t.nm) l/\Fr (RT lb y) w l/\xH l w.heap.size #[.slice Z q.ns.length T,xI q.a,xP Y] 159) ⟨(E.o.aq a.o).aX bt.o J.o,(zy (A.o.trans (a.o.mono A.o.size))).trans J.o,(J.o.block _ (by have:=a.o.size;omega) (λe=>by rcases e with e|e;exact bY e;exact b0 e)).trans ((a.o.block _ aA).trans G.o)⟩ ?_;rintro l ⟨g,n,I⟩;obtain⟨bp,s1,bq,sz⟩:=zp g.x1;obtain⟨p0,bo,a9⟩:=zu g.x2;obtain⟨b2,b3,b4,rf,ca⟩:=zL I;have r:=bA.o.am n;obtain⟨m0,m1,m2,m3,m4,m5,bl,a6⟩:=zt ((r b bL).trans B.o);have x:=za g;have F:=za n;go_quiet (fail);go_wp2_with fail;go_ret;refine⟨rfl,?_,F.o.trans (zy (zI (yS _ _) _))⟩;rw[be.o];exact x.o.aq (zI (yS _ _) _)
end
end Go.Proofs.YtcnelakggnfnhaaGreatDoor
