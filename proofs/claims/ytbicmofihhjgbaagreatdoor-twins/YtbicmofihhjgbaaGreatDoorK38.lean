/- Part 39 of the proof. -/
import Derived.Shelf.Strings.Builder1
import Derived.Test.YtbicmofihhjgbaaGreatDoorK37
set_option maxRecDepth 100000
set_option maxHeartbeats 8000000
namespace Go.Proofs.YtbicmofihhjgbaaGreatDoor
open Go.Proofs.Tryz
section
open Go.RowKit
variable {b:Xl} {B N lb:Nat} {f:Xv} {W d:Xw}
theorem aQ.room {i:Xw}(h:aQ lb B d f W b)(m:xB W i):∃c,aQ lb B i c i b/\(∀j,c.ownBlock=some j->j<W.heap.size)/\lb<W.heap.size/\∀(p:Xw) (a:Xl),aQ lb B i c p a->aQ lb B d f p a:=by obtain⟨c,l,q⟩:=h.ln;have t:=q.fr.size;have:=h.le;have:=h.lt;have:=m.size;have n:Ln lb B i c b:=⟨(m.block _ (ze l.aC)).trans l.aC,zi l.own (λg _ _ e=>m.block g (l.own.lt g e).2)⟩;refine⟨c,aQ.start n h.lt (by omega),λj e=>(l.own.lt j e).2,by omega,λp a k=>?_⟩;obtain⟨o,r,s⟩:=k.ln;exact⟨h.lt,h.le,h.lo,o,r,(q.trans ⟨Fr.Mo m,λj e=>ao e⟩).trans s⟩
theorem y3 {w:Xw}{n r:Nat}{e:Xy}{g:Nat}{l:List Vr}(h:w.ownsRow B e 7 (xS g n r) n (eT l)){a i:Nat}{v:Vr}(t:l[a+i]?=some v) :
 w.cell? (xD g (a*7+i*7))=some (.string v.nm)/\w.cell? (xD g (a*7+i*7+1))=some (xI v.a)/\w.cell? (xD g (a*7+i*7+2))=some (xI (dv v:Nat))/\w.cell? (xD g (a*7+i*7+3))=some (xI (ba v:Nat))/\w.cell? (xD g (a*7+i*7+4))=some (xI v.on)/\w.cell? (xD g (a*7+i*7+5))=some (.string v.ck)/\w.cell? (xD g (a*7+i*7+6))=some (xI v.ca):=by
 obtain⟨u,s,c,j,k,m,o,p,q⟩:=hj h t;cases s;rw[Nat.add_mul] at c j k m o p q;exact⟨c,j,k,m,o,p,q⟩
theorem LF (h:aQ lb B d f W b)(y:N<=lb)(n:ay)(G:Nat)(g A:Nat)(C:Xv)(H:Xm)(z:NT d N n G (xS g n.ak.length A) C H)(k l a m c:Nat)
 (q:xH d k #[xP lb] 175) (r:xH d l #[.slice (some (xD g (a*7))) m c] 118) (o:¬k=lb) (x:¬l=lb) (t1:¬f.ownBlock=some k) (t2:¬f.ownBlock=some l)
 (i:Nat) (v:Vr) (E:i<m) (_hm16:m<=16) (D:n.ak[a+i]?=some v) (F:(b++eB v).length<=10000000000) :
 xK 93 (#[xI i]++#[xP k,xP l]) W (ey lb B d f (b++eB v)):=by
 have p:aa (∀(j:Xw) (s:Xl),aQ lb B d f j s->j.cell? (xD k 0)=some (xP lb)/\j.cell? (xD l 0)=some (.slice (some (xD g (a*7))) m c)/\j.cell? (xD g (a*7+i*7))=some (.string v.nm)/\j.cell? (xD g (a*7+i*7+1))=some (xI v.a)/\j.cell? (xD g (a*7+i*7+2))=some (xI (dv v:Nat))/\j.cell? (xD g (a*7+i*7+3))=some (xI (ba v:Nat))/\j.cell? (xD g (a*7+i*7+4))=some (xI v.on)/\j.cell? (xD g (a*7+i*7+5))=some (.string v.ck)/\j.cell? (xD g (a*7+i*7+6))=some (xI v.ca)):=by intro j s t;have u:=z.am (t.am y);exact⟨(zu (t.kept q o t1)).1,(zu (t.kept r x t2)).1,y3 u.bZ D⟩
 obtain⟨J,L,O,P,Q,R,S,T,U⟩:=p.o _ _ h;have K:=ze (h.kept q o t1);have M:=ze (h.kept r x t2);have I:g<W.heap.size:=by have:=((z.am (h.am y)).bZ.lt g rfl).2;exact this
 have w:=za (sx h.drew v F);unfold lS at w
 show Calls prog _ #[xI i,xP k,xP l] W _;go_enter func93,ntmps93;go_region_held3 (λj=>j.cell? (xD k 0)=some (xP lb)/\j.cell? (xD l 0)=some (.slice (some (xD g (a*7))) m c)/\j.cell? (xD g (a*7+i*7))=some (.string v.nm)/\j.cell? (xD g (a*7+i*7+1))=some (xI v.a)/\j.cell? (xD g (a*7+i*7+2))=some (xI (dv v:Nat))/\j.cell? (xD g (a*7+i*7+3))=some (xI (ba v:Nat))/\j.cell? (xD g (a*7+i*7+4))=some (xI v.on)/\j.cell? (xD g (a*7+i*7+5))=some (.string v.ck)/\j.cell? (xD g (a*7+i*7+6))=some (xI v.ca)) (first|go_keep|exact p.o _ _ o) (first|(go_at_call 92;refine w.o.mono ?_;rintro e V ⟨rfl,o⟩));all_goals first|go_end0|refine bodyPost_ret (results_none rfl _ _ _) rfl ?_
 all_goals exact⟨rfl,o⟩
theorem LG {S:Xs}(H:aQ lb B d f W b)(y:N<=lb)(cz:21<=N)(ek:Kn S d)(n:ay)(o:Nat)(e0 ev:Xv)(xs:Xm)(c5:NT d N n o e0 ev xs)(hw:gP n)(cB:∀v∈n.ak,oe v)(eF:∀q∈n.eqs,Qw S q)(hm:(b++ez n).length<=10000000000) :
 xK 45 #[xP lb,xP o] W (ey lb B d f (b++ez n)):=by
 have b0:=c5.am (H.am y);obtain⟨wA,bE⟩:∃wA,wA=(W.alloc (.cells #[xP lb] 175)).alloc (.cells #[xP o] 90):=⟨_,rfl⟩;have a9:xB W wA:=bE▸((Below.refl _ W).alloc (an _) _).alloc (by simp) _;have bL:N<=W.heap.size:=by have:=H.lt;have:=H.le;have:=H.size;omega
 have bY:=b0.am (zm a9 bL);have c4:=za (rk wA bY hw.io (by have:=hw.aG;have:=hw.io;omega));have cO:(W.alloc (.cells #[xP lb] 175)).alloc (.cells #[xP o] 90)=wA:=bE.symm;have dl:xH wA W.heap.size #[xP lb] 175:=bE▸(Below.heap_alloc _ _ _ (by rw[au];omega)).trans (zc W _);have co:wA.heap[W.heap.size+1]?=some (.cells #[xP o] 90 (0,0)):=by have:=zc (W.alloc (.cells #[xP lb] 175)) (.cells #[xP o] 90);rw[au] at this;rw[bE];exact this
 have A1:=za dl;have A2:=za co;obtain⟨eq,_,z2⟩:=zu co;have a2:=za hm;have bx:=za a9;clear hm b0 bY a9 bE dl co;go_enter func45,ntmps45;go_upto_region 1 with fail;clear cO;go_wp2_with (go_at_call 88;refine c4.o.mono ?_);rintro e w1 ⟨g,s,rfl,rfl,bK⟩;have K:=za bK;clear bK;go_upto_region 2 with fail;obtain⟨b3,a5⟩:∃b3,b3=w1.heap.size:=⟨_,rfl⟩;have cR:=K.o.size;have eG:W.heap.size+1<b3:=by omega
 have dk:(w1.alloc (.cells #[.slice (some (xD g (n.ah*7))) n.aG (s-n.ah)] 118)).heap[b3]?=some (.cells #[.slice (some (xD g (n.ah*7))) n.aG (s-n.ah)] 118 (0,0)):=a5▸zc w1 _;have dc:(w1.alloc (.cells #[.slice (some (xD g (n.ah*7))) n.aG (s-n.ah)] 118)).heap[W.heap.size]?=some (.cells #[xP lb] 175 (0,0)):=(Below.heap_alloc _ _ _ (by omega)).trans ((K.o.block _ (by omega)).trans A1.o);have di:(w1.alloc (.cells #[.slice (some (xD g (n.ah*7))) n.aG (s-n.ah)] 118)).heap[W.heap.size+1]?=some (.cells #[xP o] 90 (0,0)):=(Below.heap_alloc _ _ _ (by omega)).trans ((K.o.block _ (by omega)).trans A2.o);have da:xB W (w1.alloc (.cells #[.slice (some (xD g (n.ah*7))) n.aG (s-n.ah)] 118)):=(bx.o.trans (K.o.mono (by omega))).alloc (by omega) _;rw[<- a5];refine zn (λm=>(xH m b3 #[.slice (some (xD g (n.ah*7))) n.aG (s-n.ah)] 118)/\xH m W.heap.size #[xP lb] 175/\xH m (W.heap.size+1) #[xP o] 90/\xB W m) ⟨dk,dc,di,da⟩ ?_;clear da dc di dk A1 A2 bx K c4 eq z2 cR a5;rintro m ⟨bl,bg,bk,ab⟩;obtain⟨z,c3,a3,eW,eb⟩:=H.room ab;have l:=(c5.am (H.am y)).am (zm ab bL);have cl:Kn S m:=ek.ln (H.aH ab) (by omega);obtain⟨dL,e3,dM,dP,dV,dY,e5,fj⟩:=zt l.aC;have r:=l.lo;have a:aa (∀(p:Xw) (c:Xl),aQ lb B m z p c->xC p W.heap.size 0 (xP lb)/\xC p (W.heap.size+1) 0 (xP o)/\xC p b3 0 (.slice (some (xD g (n.ah*7))) n.aG (s-n.ah))/\xC p o 0 (.string n.nm)/\xC p o 2 (xS g n.ak.length s)/\xC p o 3 (xI n.ah)/\xC p o 4 (xI n.aG)/\xC p o 5 ev):=λp c A =>
  ⟨(zu (A.kept bg (by omega) (λe=>by have:=a3 _ e;omega))).1,(zu (A.kept bk (by omega) (λe=>by have:=a3 _ e;omega))).1,(zu (A.kept bl (by omega) (λe=>by have:=a3 _ e;omega))).1,(iP (A.am y) r).trans dL,(iP (A.am y) r).trans dM,(iP (A.am y) r).trans dP,(iP (A.am y) r).trans dV,(iP (A.am y) r).trans dY⟩
 obtain⟨t,C,D,E,F,G,I,J⟩:=a.o _ _ c3;have eN:=hw.io;have dw:=hw.bO;have du:=yE l.bZ;have i0:(0:Int)<=(n.ah:Int):=by omega
 have i1:(0:Int)<=(n.ah:Int)+(n.aG:Int):=by omega
 have i2:(n.ah:Int)+(n.aG:Int)<=(s:Int):=by omega
 have i6:((n.ah:Int)+(n.aG:Int)).toNat=n.ah+n.aG:=by omega
 have i7:IntKind.i64.wrap ((n.ah:Int)+(n.aG:Int))=(n.ah:Int)+(n.aG:Int):=by rw[IntKind.wrap_i64];omega
 have i8:(n.ah:Int)+(n.aG:Int)<=(n.ak.length:Int):=by omega
 have z0:W.heap.size+1<m.heap.size:=ze bk;have z3:b3<m.heap.size:=ze bl;clear ab dL e3 dM dP dV dY e5;have a0:aa (∀k,aQ lb B m z (m.drewN k) b):=λk=>c3.aH ⟨rfl,rfl,rfl,an _,λ_ _=>rfl⟩;go_cut [5] (λv5 wx=>∃la lc,v5=.slice la (n.ak.length-(n.ah+n.aG)) lc/\aa (0<n.ak.length-(n.ah+n.aG)->la=some (xD g ((n.ah+n.aG)*7)))/\aa (aQ lb B m z wx b));case first =>
  by_cases hc:n.ah+n.aG=s
  . have i9:(n.ah:Int)+(n.aG:Int)=(s:Int):=by omega
    have c1:n.ak.length-(n.ah+n.aG)=0:=(by omega);go_quiet (fail);go_wp2_with fail;go_meet;exact⟨_,_,by rw[c1],za (λH=>by omega),a0.o _⟩
  have fd:¬(n.ah+n.aG=s):=hc;have ff:¬(s=n.ah+n.aG):=by omega
  have fg:¬((n.ah:Int)+(n.aG:Int)=(s:Int)):=by omega
  go_quiet (fail);go_wp2_with fail;go_meet;exact⟨_,_,rfl,za (λ_=>rfl),a0.o _⟩
 case rest =>
  obtain⟨la,lc,rfl,bC,cd⟩:=hcut;obtain⟨t,C,D,E,F,G,I,J⟩:=a.o _ _ cd.o;clear i0 i1 i2 i6 i7 i8 a0;have dz:=hw.ah;have cK:=hw.aG;have em:W.heap.size<m.heap.size:=by omega
  have dH:n.ak.length<=16:=hw.bO;have L:aa (∀Z c,aQ lb B m z Z c->(c++gS ((n.ak.take n.ah).map eB)).length<=10000000000->xK 90 #[xP lb,xI n.ah,.func (.func 91) #[] #[xP W.heap.size,xP (W.heap.size+1)]] Z (ey lb B m z (c++gS ((n.ak.take n.ah).map eB)))):=by
   intro Z c A bq;have ct:((n.ak.take n.ah).map eB).length=n.ah:=(by simp;omega);have:=y2 (lb:=lb) (B:=B) (w0:=m) (tv0:=z) 91 #[xP W.heap.size,xP (W.heap.size+1)] LL ((n.ak.take n.ah).map eB) (λi u hu cn b4 a6 R=>?_) Z c A bq (by omega)
   . rw[ct] at this;exact this
   rw[List.getElem?_map,Option.map_eq_some_iff] at hu;obtain⟨x,hx,rfl⟩:=hu;have bs:n.ak[i]?=some x:=(by have hi:=(aB.1 hx).1;simp at hi;rw[List.getElem?_take_of_lt (by omega)] at hx;exact hx);exact LM a6 y n o _ _ _ l _ _ bg bk (by omega) (by omega) (λe=>by have:=a3 _ e;omega) (λe=>by have:=a3 _ e;omega) i x bs R
  have M:aa (∀Z c,aQ lb B m z Z c->(c++gS (((n.ak.drop n.ah).take n.aG).map eB)).length<=10000000000->xK 90 #[xP lb,xI n.aG,.func (.func 93) #[] #[xP W.heap.size,xP b3]] Z (ey lb B m z (c++gS (((n.ak.drop n.ah).take n.aG).map eB)))):=by
   intro Z c A bq;have ct:(((n.ak.drop n.ah).take n.aG).map eB).length=n.aG:=(by simp;omega);have:=y2 (lb:=lb) (B:=B) (w0:=m) (tv0:=z) 93 #[xP W.heap.size,xP b3] LA (((n.ak.drop n.ah).take n.aG).map eB) (λi u hu cn b4 a6 R=>?_) Z c A bq (by omega)
   . rw[ct] at this;exact this
   rw[List.getElem?_map,Option.map_eq_some_iff] at hu;obtain⟨x,hx,rfl⟩:=hu;have hi:=(aB.1 hx).1;simp at hi;have bs:n.ak[n.ah+i]?=some x:=(by rw[List.getElem?_take_of_lt (by omega),List.getElem?_drop] at hx;exact hx);exact LF a6 y n o g s _ _ l _ _ n.ah n.aG _ bg bl (by omega) (by omega) (λe=>by have:=a3 _ e;omega) (λe=>by have:=a3 _ e;omega) i x (by omega) (by omega) bs R
  have eX:∀(fn:Go.Fn) (first a4:Xa) (w:Xw),(Instr.makeFunc fn first a4).run prog w=.ok (.func fn first a4) w:=λ_ _ _ _=>rfl;obtain⟨c6,bb⟩:∃T,gS ((n.ak.take n.ah).map eB)=T:=⟨_,rfl⟩;obtain⟨c9,be⟩:∃T,gS (((n.ak.drop n.ah).take n.aG).map eB)=T:=⟨_,rfl⟩;obtain⟨h,aA⟩:∃h,n.ak.drop (n.ah+n.aG)=h:=⟨_,rfl⟩;have b2:n.ak.length-(n.ah+n.aG)=h.length:=by rw[<- aA];simp
  have U:aa (ez n=[⟨#[110,111,100,101]⟩,n.nm]++(c6++([⟨#[45,62]⟩]++(c9++((if 0<h.length then [⟨#[118,97,114]⟩] else [])++(h.flatMap fZ++([⟨#[123]⟩]++(n.eqs.flatMap gT++[⟨#[125]⟩])))))))):=by show ez n=_;unfold ez;rw[bb,be,aA]
  rw[U.o] at a2;rw[bb] at L;rw[be] at M;rw[b2] at bC ⊢;have bB:aa (∀i v,h[i]?=some v->n.ak[n.ah+n.aG+i]?=some v):=λi v hi=>by rw[<- aA,List.getElem?_drop] at hi;exact hi
  have bA:=za (show h.length<=16 by omega);clear bb be aA b2;go_upto_region 3 with fail;go_region_held3 (λp=>p.cell? (xD W.heap.size 0)=some (xP lb)/\p.cell? (xD (W.heap.size+1) 0)=some (xP o)/\p.cell? (xD o 0)=some (.string n.nm)) (first|go_keep|exact⟨(a.o _ _ aV.o).1,(a.o _ _ aV.o).2.1,(a.o _ _ aV.o).2.2.2.1⟩) (first|(go_at_call 89;refine (pO cd.o [⟨#[110,111,100,101]⟩,n.nm] 2 rfl (by have:=a2.o;simp only[aP,bJ,cw] at this ⊢;omega) _ rfl).mono ?_;rintro e w2 ⟨rfl,h2⟩;have aV:=za h2;clear h2));obtain⟨t,C,D,E,F,G,I,J⟩:=a.o _ _ aV.o;have c2:=aV.o.size;go_upto_region 4 with fail;go_region_held3 (λp=>p.cell? (xD W.heap.size 0)=some (xP lb)/\p.cell? (xD (W.heap.size+1) 0)=some (xP o)/\p.cell? (xD o 3)=some (xI n.ah)) (first|go_keep|exact⟨(a.o _ _ bt.o).1,(a.o _ _ bt.o).2.1,(a.o _ _ bt.o).2.2.2.2.2.1⟩) (first|(go_at_call 90;refine (L.o _ _ aV.o.drew (by have:=a2.o;simp only[aP,bJ,cw] at this ⊢;omega)).mono ?_;rintro e w3 ⟨rfl,h3⟩;have bt:=za h3;clear h3));clear t C D E F G I J;obtain⟨t,C,D,E,F,G,I,J⟩:=a.o _ _ bt.o;have tk:=trivial;go_wp2_with (clear tk;go_at_call 89;refine (fY bt.o [⟨#[45,62]⟩] 1 rfl (by have:=a2.o;simp only[aP,bJ,cw] at this ⊢;omega) _ rfl).mono ?_);rintro e w4 ⟨rfl,h4⟩;have ce:=za h4;clear h4 t C D E F G I J;obtain⟨t,C,D,E,F,G,I,J⟩:=a.o _ _ ce.o;have tk:=trivial;go_wp2_with (clear tk;go_at_call 90;refine (M.o _ _ ce.o (by have:=a2.o;simp only[aP,bJ,cw] at this ⊢;omega)).mono ?_);rintro e w5 ⟨rfl,h5⟩;have bv:=za h5;clear h5 t C D E F G I J;obtain⟨t,C,D,E,F,G,I,J⟩:=a.o _ _ bv.o;obtain⟨P,cE⟩:∃P,b++[⟨#[110,111,100,101]⟩,n.nm]++c6++[⟨#[45,62]⟩]++c9=P:=⟨_,rfl⟩;obtain⟨V,hV⟩:∃V:Xl,(if 0<h.length then [⟨#[118,97,114]⟩] else [])=V:=⟨_,rfl⟩;have aL:aa (b++ez n=P++V++h.flatMap fZ++[⟨#[123]⟩]++n.eqs.flatMap gT++[⟨#[125]⟩]):=by show b++ez n=_;rw[U.o,hV,<- cE];simp only[bw]
  have O:aa (P.length+V.length+(h.flatMap fZ).length+1+(n.eqs.flatMap gT).length+1<=10000000000):=by
   have:=a2.o;rw[<- U.o,aL.o] at this;simp only[aP,bJ,cw] at this
   show _<=_;omega
  rw[cE] at bv;have cm:=za hV;clear cE hV a2 U cd aV bt ce L M c2;go_upto_if 51 with fail;go_cut [] (λwx=>aa (aQ lb B m z wx (P++V)));case first =>
   by_cases h0:0<h.length
   . have cv:(0:Int)<(h.length:Int):=(by omega);have Y:V=[⟨#[118,97,114]⟩]:=(by rw[<- cm.o,ag h0]);go_wp2_with (go_at_call 89;refine (fY bv.o [⟨#[118,97,114]⟩] 1 rfl (by have:=O.o;rw[Y] at this;simp only[aP,bJ,cw] at this ⊢;omega) _ rfl).mono ?_;rintro e w6 ⟨rfl,h6⟩;have cg:=za h6;clear h6);go_meet;have:=cg.o;rw[Y];exact this
   have cv:¬((0:Int)<(h.length:Int)):=(by omega);go_wp2_with fail;go_meet;have Y:V=[]:=by rw[<- cm.o,ae h0]
   show aQ lb B m z w5 (P++V);rw[Y,List.append_nil];exact bv.o
  case rest =>
   have cg:=hcut;clear hcut cm t C D E F G I J bv;have cA:=bA.o;go_upto_region 10 with fail;go_loopg [57] (h.length+1) (λj i wr=>∃k:Nat,k+j=h.length+1/\k<=h.length/\i=xI k/\aa (aQ lb B m z wr (P++V++(h.take k).flatMap fZ)));case atStart=>exact⟨0,by omega,aE _,rfl,za (by simpa using cg.o)⟩
   case round =>
    obtain⟨k,eR,eQ,rfl,a1⟩:=hrel;have c0:=a1.o.size;have cs:W.heap.size<wr.heap.size:=(by omega);by_cases bp:k<h.length
    . obtain⟨v,hv⟩:∃v,h[k]?=some v:=⟨_,av bp⟩;obtain rfl:=bC.o (by omega);obtain⟨t,_⟩:=a.o _ _ a1.o;obtain⟨v0,v1,v2,v3,v4,v5,v6⟩:=y3 (l.am (a1.o.am y)).bZ (bB.o k v hv);have Q:(h.take (k+1)).flatMap fZ=(h.take k).flatMap fZ++fZ v:=(by rw[kN hv];simp);have ca:=za (cB v (aM (bB.o k v hv)) _ _ _ _ _ _ (a1.o.alloc (.cells #[.string v.nm,xI v.a,xI (dv v:Nat),xI (ba v:Nat),xI v.on,.string v.ck,xI v.ca] 134)) (by
       have h1:=O.o;have h2:((h.take (k+1)).flatMap fZ).length<=(h.flatMap fZ).length:=by
        conv=>rhs;rw[<- List.take_append_drop (k+1) h]
        rw[List.flatMap_append,aP];omega
       rw[Q] at h2;simp only[aP] at h2 ⊢;omega))
      unfold lS at ca;clear hv;go_wp2_with (go_at_call 94;refine ca.o.mono ?_;rintro e w7 ⟨rfl,ea⟩);go_roundg (gk-1);case measure=>omega
      refine⟨k+1,by omega,by omega,by go_num,za ?_⟩;have:=ea;rw[Q,<- bw];exact this
    obtain rfl:k=h.length:=by omega
    rw[List.take_length] at a1;obtain⟨t,C,D,E,F,G,I,J⟩:=a.o _ _ a1.o;have tk:=trivial;go_wp2_with (clear tk;go_at_call 89;refine (fY a1.o [⟨#[123]⟩] 1 rfl (by have:=O.o;simp only[aP,bJ,cw] at this ⊢;omega) _ rfl).mono ?_);rintro e w8 ⟨rfl,ch⟩;clear t C D E F G I J;obtain⟨t,C,D,E,F,G,I,J⟩:=a.o _ _ ch;obtain⟨fh,e7,rfl⟩:=zB l.own;have eZ:=ch.size;have eY:o<w8.heap.size:=(by omega);have eE:n.eqs.length<=9223372036854775807:=by
     rcases l.own.2 with ⟨_,H⟩|⟨g,a4,ex,hv,_,_,h3,h4,_⟩
     . omega
     unfold maxLen at h4;omega
    go_upto_region 16 with fail;go_loopg [73] (n.eqs.length+1) (λj i wq=>∃k:Nat,k+j=n.eqs.length+1/\k<=n.eqs.length/\i=xI k/\aa (aQ lb B m z wq (P++V++h.flatMap fZ++[⟨#[123]⟩]++(n.eqs.take k).flatMap gT)));case atStart=>exact⟨0,by omega,aE _,rfl,za (by simpa using ch)⟩
    case round =>
     obtain⟨k,eS,eQ,rfl,X⟩:=hrel;have c0:=X.o.size;have cs:W.heap.size<wr.heap.size:=(by omega);by_cases bp:k<n.eqs.length
     . obtain⟨q,cb⟩:∃q,n.eqs[k]?=some q:=⟨_,av bp⟩;obtain⟨ge,lv,rv,rfl,dp,dq,ds,ar⟩:=lj l.own l.eqs cb rfl;have bo:=l.ko ge rfl;have d0:=(iP (X.o.am y) bo).trans dp;have d1:=(iP (X.o.am y) bo).trans dq;have d2:=(iP (X.o.am y) bo).trans ds;obtain⟨er,_,_,rfl,_⟩:=ar.tt.ptr;obtain⟨e1,es,rfl⟩:=zB ar.own;obtain⟨t,_⟩:=a.o _ _ X.o;have b1:=aM cb;have Q:(n.eqs.take (k+1)).flatMap gT=(n.eqs.take k).flatMap gT++gT q:=(by rw[kN cb];simp);have ca:=za (eF q b1 _ _ _ _ _ _ _ _ _ (X.o.alloc (.cells #[.slice e1 q.ns.length es,xI q.a,xP er] 184)) y cz cl ar (by
        have h1:=O.o;have h2:((n.eqs.take (k+1)).flatMap gT).length<=(n.eqs.flatMap gT).length:=by
         conv=>rhs;rw[<- List.take_append_drop (k+1) n.eqs]
         rw[List.flatMap_append,aP];omega
        rw[Q] at h2;simp only[aP,bJ,cw] at h2 ⊢;omega))
       clear cb ar b1 dp dq ds;go_wp2_with (go_at_call 95;refine ca.o.mono ?_;rintro e w9 ⟨rfl,ck⟩);go_roundg (gk-1);case measure=>omega
       refine⟨k+1,by omega,by omega,by go_num,za ?_⟩;have:=ck;rw[Q,<- bw];exact this
     obtain rfl:k=n.eqs.length:=by omega
     rw[List.take_length] at X;obtain⟨t,_⟩:=a.o _ _ X.o;go_wp2_with (go_at_call 89;refine (fY X.o [⟨#[125]⟩] 1 rfl (by have:=O.o;simp only[aP,bJ,cw] at this ⊢;omega) _ rfl).mono ?_;rintro e w9 ⟨rfl,ck⟩);first|go_end0|refine bodyPost_ret (results_none rfl _ _ _) rfl ?_
     refine⟨rfl,eb _ _ ?_⟩;have:=ck;rw[aL.o];exact this
end
section
open Go.RowKit
variable {a:Xm} {B b:Nat} {w:Xw}
theorem Tryz.tb:(prog.info? 5).map (λi=>(i.zero,i.size,i.bytes))=some (some (.int .u8 0),1,1):=by kernel_rfl
theorem Tryz.s6:(prog.info? 86).map (λi=>i.size)=some 2:=by kernel_rfl
theorem Tryz.Bb:liesAt prog prog.depth 86 (2 / prog.cellsOf 86) 0 86 1=true:=by kernel_rfl
theorem LU (b:Nat)(w:Xw)(f:xC w b 0 (xP b)) :
 xK 96 #[xP b] w λe d=>e=.returned (.tuple #[])/\d=w:=by
 obtain⟨j,c,_⟩:∃j,prog.info? 86=some j/\j.size=2:=by
  have:=Tryz.s6;cases h:prog.info? 86 with
  | none=>rw[h] at this;cases this
  | some j=>rw[h] at this;exact⟨j,rfl,by simpa using this⟩
 have g:=Lib.run_neq_ptr_same (P:=prog) w (xD b 0) underlying84 c;go_enter func96,ntmps96;go_wp2;first|go_end0|refine bodyPost_ret (results_none rfl _ _ _) rfl ?_
 exact⟨rfl,rfl⟩
theorem LK (b:Nat)(w:Xw)(i:xC w b 0 (.pointer none))(c:w.shape? b=some (86,2))(l:w.frozen? (xD b 0)=false) :
 xK 96 #[xP b] w λe g=>e=.returned (.tuple #[])/\g=w.setCell (xD b 0) (xP b):=by
 obtain⟨j,d,f⟩:∃j,prog.info? 86=some j/\j.size=2:=by
  have:=Tryz.s6;cases h:prog.info? 86 with
  | none=>rw[h] at this;cases this
  | some j=>rw[h] at this;exact⟨j,rfl,by simpa using this⟩
 have m:=λw=>Lib.run_neq_ptr_same (P:=prog) w (xD b 0) underlying84 d;have n:=Lib.run_to_unsafe (P:=prog) w (xD b 0) underlying84 underlying155 d (by rw[f];decide) c (Nat.zero_lt_succ 1);have o:=Lib.run_from_unsafe (P:=prog) w (xD b 0) underlying155 underlying84 d c Tryz.Bb;have k:(callFunc 159 #[xP b]).run prog w=.ok (.value (xP b)) w:=by rw[run_callFunc_extern func159 (by kernel_rfl) (by kernel_rfl) (by kernel_rfl) (e:=Extern.AbiNoEscape.same) (by kernel_rfl)];rw[Lib.run_noEscape];rfl
 go_enter func96,ntmps96;go_wp2;first|go_end0|refine bodyPost_ret (results_none rfl _ _ _) rfl ?_
 exact⟨rfl,rfl⟩
theorem yY (h:Lib.IsBuilder 86 5 B b a w) :
 xK 96 #[xP b] w λe c=>e=.returned (.tuple #[])/\Lib.BuilderAt 86 5 B b (xP b) a c/\Below B w c:=by
 rcases h with h|h
 . refine (LK b w h.cell0 h.shape h.frozen0).mono ?_;rintro e c ⟨rfl,rfl⟩;exact⟨rfl,h.used _,(Below.refl B w).setCell (p:=(xD b 0)) h.1 _⟩
 refine (LU b w h.cell0).mono ?_;rintro e c ⟨rfl,rfl⟩;exact⟨rfl,h,Below.refl B _⟩
theorem LC (c:Int)(h:Lib.IsBuilder 86 5 B b a w)(E:a.length+1<=10000000000000)(K:B<=w.heap.size) :
 xK 48 #[xP b,.int .u8 c] w λe G=>e=.returned .nilIface/\Lib.BuilderAt 86 5 B b (xP b) (a++[.int .u8 c]) G/\Below B w G:=by
 obtain⟨O,L,z,A,C⟩:=info_parts Tryz.tb;have H:=za (yY h);clear h;go_enter func48,ntmps48;go_wp2_with (go_at_call 96;refine H.o.mono ?_);rintro e r ⟨rfl,J,q⟩;obtain⟨D,v,l,n,x⟩:=J;have Q:r.cell? (xD b 0)=some (xP b):=by rw[Lib.cell_of_heap l];rfl
 have c1:r.cell? (xD b 1)=some v:=by rw[Lib.cell_of_heap l];rfl
 have y:b<r.heap.size:=(Array.getElem?_eq_some_iff.1 l).1;have S:=q.size;go_wp2_with (at_builtin;refine wpList_append_own _ rfl _ _ 29 rfl B 5 O (.int .u8 0) 1 1 underlying29 L z A C rfl (by decide) _ _ _ rfl (n.alloc _) (xD r.heap.size 0) 1 1 [.int .u8 c] rfl rfl ?c1 ?c2 ?c3 ?c4 ?c5 ?_);case c1 =>
  intro j u s
  match j,s with
  | 0,s=>simp at s;subst s;simp[Addr.add]
 case c2=>intro u F;simp at F;subst F;rfl
 case c3=>unfold maxLen;omega
 case c4=>omega
 case c5=>simp;omega
 intro P t d f _;have i:t.heap[b]?=some (.cells #[xP b,v] 86 (0,0)):=by rw[f.block b (by simp;omega) (λe=>x e.symm),Lib.alloc_old r _ b y];exact l
 have d0:t.cell? (xD b 0)=some (xP b):=by rw[Lib.cell_of_heap i];rfl
 have d1:t.cell? (xD b 1)=some v:=by rw[Lib.cell_of_heap i];rfl
 have f1:t.frozen? (xD b 1)=false:=Lib.frozen_of_heap i 1;obtain⟨g,m,rfl⟩:∃g m,P=xS g (a.length+1) m:=by
  rcases d.2 with ⟨_,R⟩|⟨g,m,I,N,_⟩
  . omega
  exact⟨g,m,N⟩
 have o:=za d;clear d;go_wp2;go_ret;refine⟨rfl,?_,?_⟩
 . exact Lib.BuilderAt.put (T:=86) (e:=5) D i (bs':=a++[.int .u8 c]) (by simpa using o.o) (by decide)
 exact ((q.alloc (by omega) _).grown f (by simp;omega) (λk M=>(n.lt k M).1)).setCell (p:=(xD b 1)) D _
theorem LD (s:Xb)(h:Lib.IsBuilder 86 5 B b a w)(D:a.length+s.size<=10000000000000)(J:B<=w.heap.size) :
 xK 46 #[xP b,.string s] w λe F=>e=.returned (.tuple #[xI s.size,.nilIface])/\Lib.BuilderAt 86 5 B b (xP b) (a++Lib.strCells s) F/\Below B w F:=by
 obtain⟨M,K,u,x,y⟩:=info_parts Tryz.tb;have G:=za (yY h);clear h;go_enter func46,ntmps46;go_wp2_with (go_at_call 96;refine G.o.mono ?_);rintro e z ⟨rfl,I,n⟩;obtain⟨C,v,i,j,q⟩:=I;have O:z.cell? (xD b 0)=some (xP b):=by rw[Lib.cell_of_heap i];rfl
 have P:z.cell? (xD b 1)=some v:=by rw[Lib.cell_of_heap i];rfl
 have r:b<z.heap.size:=(Array.getElem?_eq_some_iff.1 i).1;have Q:=n.size;go_wp2_with (at_builtin;refine Lib.wpList_append_own_string _ rfl _ _ 29 9 rfl B 5 M underlying29 underlying9 K u x y _ _ _ rfl j s rfl ?c3 ?c4 ?c5 ?_);case c3=>unfold maxLen;omega
 case c4=>omega
 case c5=>omega
 intro N o c d _;have f:o.heap[b]?=some (.cells #[xP b,v] 86 (0,0)):=by rw[d.block b r (λe=>q e.symm)];exact i
 have d0:o.cell? (xD b 0)=some (xP b):=by rw[Lib.cell_of_heap f];rfl
 have d1:o.cell? (xD b 1)=some v:=by rw[Lib.cell_of_heap f];rfl
 have f1:o.frozen? (xD b 1)=false:=Lib.frozen_of_heap f 1;obtain⟨A,E,m,rfl⟩:∃A E m,N=.slice A E m:=by
  rcases c.2 with ⟨t,_⟩|⟨g,m,H,t,_⟩
  . exact⟨_,_,_,t⟩
  exact⟨_,_,_,t⟩
 have l:=za c;clear c;go_wp2;go_ret2;refine⟨rfl,?_,?_⟩
 . exact Lib.BuilderAt.put (T:=86) (e:=5) C f (bs':=a++Lib.strCells s) (by simpa [Lib.strCells_length] using l.o) (by decide)
 exact (n.grown d (by omega) (λk L=>(j.lt k L).1)).setCell (p:=(xD b 1)) C _
end
section
open Go.RowKit
theorem yX {B b:Nat}{j:Xm}{w k:Xw}(h:Lib.IsBuilder 86 5 B b j w)(d:bV w.heap.size w k):Lib.IsBuilder 86 5 B b j k:=by
 rcases h with ⟨f,v,a,c,i⟩|⟨f,v,a,c,i⟩
 . exact ao ⟨f,v,(d b (ze a)).trans a,zi c (λg _ _ e=>d g (c.lt g e).2),i⟩
 exact ap ⟨f,v,(d b (ze a)).trans a,zi c (λg _ _ e=>d g (c.lt g e).2),i⟩
theorem Lv {a:List ay}{k:Nat}{n:ay}(h:a[k]?=some n):dU (a.take (k+1))=dU (a.take k)++jp n:=by unfold dU;rw[kN h];simp
theorem LB (n:ay):0<(ez n).length:=by unfold ez;simp
theorem LI (S:Xs)(N:Nat)(a:List ay)(bs:Nat)(w:Xw)(a5:Kn S w)(bB:PT w N a (xP bs))(hN:N<=w.heap.size)(be:21<=N)(ar:∀n∈a,gP n)(bt:∀n∈a,(∀v∈n.ak,oe v)/\∀q∈n.eqs,Qw S q)(y:∀n∈a,(ez n).length<=10000000000)(Q:(dU a).length<=1000000000000) :
 xK 29 #[xP bs] w (λe w'=>e=.returned (.string ⟨(dU a).toArray⟩)/\xB w w'):=by
 obtain⟨bA,ce,xs,e0,bE,t,B⟩:=bB;cases e0;obtain⟨c0,cb,cz⟩:=zu t;obtain⟨xa,cd,rfl⟩:=zB B.own;have bv:=B.bO;have U:=za ar;have a3:=za bt;have h:=za y;clear ar bt y t;go_enter func29,ntmps29;go_upto_region 3 with fail;go_loopg [12] (a.length+1) (λj i wr=>∃k:Nat,k+j=a.length+1/\k<=a.length/\i=xI k/\aa (Lib.IsBuilder 86 5 w.heap.size w.heap.size (Lib.byteCells (dU (a.take k))) wr)/\aa (xB w wr));case atStart=>exact⟨0,by omega,aE _,rfl,za (ao ⟨an _,_,zc w _,World.ownsRow_nil _ _ _ _,by simp[Value.ownBlock]⟩),za ((Below.refl _ w).alloc (an _) _)⟩
 case round =>
  obtain⟨k,bK,cg,rfl,o,H⟩:=hrel;have F:=H.o.size;by_cases bl:k<a.length
  . obtain⟨n,aA⟩:∃n,a[k]?=some n:=⟨_,av bl⟩;have f:=aM aA;have C:=B.am (zm H.o hN);obtain⟨v,hv,nb,b4,ev,ca,rfl,Z⟩:=C.at' k n aA;obtain⟨g,rfl,bk⟩:=nB C.own hv;have bC:w.heap.size<wr.heap.size:=by rcases o.o with ⟨_,_,r,_⟩|⟨_,_,r,_⟩ <;> exact ze r
    obtain⟨p,l⟩:∃p,p=wr.alloc (.cells #[.slice none 0 0] 93):=⟨_,rfl⟩;have m:xB wr p:=l▸(Below.refl _ wr).alloc (an _) _;have bo:p.heap.size=wr.heap.size+1:=(by rw[l];simp);have Y:Ln wr.heap.size (wr.heap.size+1) p (.slice none 0 0) []:=⟨l▸zc wr _,World.ownsRow_nil _ _ _ _⟩;have bg:N<=wr.heap.size:=(by omega);have X:Kn S p:=(by have V:xB w p:=H.o.trans (m.mono F);refine⟨a5.gl.of (T:=λ_=>False) (Fr.Mo V) (λ_ e=>e.elim),?_⟩;have s:=a5.oy;unfold Lib.TabIs World.var? at s ⊢;rw[Tryz.Qz] at s ⊢;simp only[Option.bind_some] at s ⊢;rw[V.block _ (by have:=a5.gl.size;omega)];exact s);have bp:=za (LG (aQ.start Y (by omega) (by omega)) (N:=N) (by omega) be X n nb b4 ev ca (Z.am (zm m bg)) (U.o n f) (a3.o n f).1 (a3.o n f).2 (by simpa using h.o n f));have bY:wr.alloc (.cells #[.slice none 0 0] 93)=p:=l.symm;have a9:=za (Lv aA);have a6:=za (zm m (an _));have z:=za (H.o.trans (m.mono F));have bL:wr.heap.size<p.heap.size:=(by omega);have O:=za (h.o n f);have R:=za (LB n);clear aA f C hv Z m bo Y X l a3 U h;have G:=trivial;go_wp2_with (clear G;go_at_call 45;refine bp.o.mono ?_);rintro e w2 ⟨rfl,r⟩;rw[List.nil_append] at r;obtain⟨b3,b,d⟩:=r.ln;have P:aa (bV wr.heap.size wr w2):=λj I=>(r.am (an _) j I).trans (a6.o j I);have K:=za (yX o.o P.o);have D:=za (And.intro d.fr.os (And.intro d.fr.tape d.fr.output));have b0:=r.size;obtain⟨t0,_,tz⟩:=zu b.aC;obtain⟨gt,ct,rfl,_⟩:=zM b.own R.o;have bq:=za (Tryz.strings_Join gt 0 ct (ez n) ⟨#[32]⟩ w2 (λj x hx=>by
     have:=r5 b.own (j:=j) (u:=.string x) (by simp[hx]);rw[Nat.zero_add];exact this) ((b.own.lt gt rfl).2) (by have:=O.o;omega) (by
     rcases b.own.2 with ⟨e,_⟩|⟨_,_,_,e,_,_,s,_⟩
     . cases e
     . cases e;exact s) (by
     have h1:(jp n).length<=(dU (a.take (k+1))).length:=(by rw[a9.o];simp);have s:(dU (a.take (k+1))).length<=(dU a).length:=by
      unfold dU
      conv=>rhs;rw[<- List.take_append_drop (k+1) a]
      rw[List.flatMap_append,aP];omega
     have h4:=Q;have aL:(Lib.join ((ez n).map (·.data.toList)) [32]).length<=(jp n).length:=by unfold jp Lib.join;simp
     show (Lib.join ((ez n).map (·.data.toList)) [32]).length<=_;omega))
    have A:aa ((dU (a.take k)).length+(Lib.join ((ez n).map (·.data.toList)) [32]).length+1<=1000000000000):=by
     have h1:(dU (a.take k)).length+(jp n).length=(dU (a.take (k+1))).length:=(by rw[a9.o];simp);have s:(dU (a.take (k+1))).length<=(dU a).length:=by
      unfold dU
      conv=>rhs;rw[<- List.take_append_drop (k+1) a]
      rw[List.flatMap_append,aP];omega
     have h4:=Q;have aL:(Lib.join ((ez n).map (·.data.toList)) [32]).length+1=(jp n).length:=by unfold jp Lib.join;simp
     show _<=_;omega
    obtain⟨J,hJ⟩:∃J,Lib.join ((ez n).map (·.data.toList)) [32]=J:=⟨_,rfl⟩;have a4:aa (jp n=J++[10]):=(by show jp n=_;rw[<- hJ];rfl);have M:aa (xK 47 #[.slice (some (xD gt 0)) (ez n).length ct,.string ⟨#[32]⟩] w2 λe w'=>e=.returned (.string ⟨J.toArray⟩)/\xB w2 w'):=(by rw[<- hJ];exact bq.o);rw[hJ] at A;obtain⟨ln,ab⟩:∃ln,(ez n).length=ln:=⟨_,rfl⟩;rw[ab] at M t0;clear hJ bq b d r bp ab R O;have G:=trivial;go_wp2_with (clear G;go_at_call 47;refine M.o.mono ?_);rintro e w3 ⟨rfl,c⟩;have b1:=c.size;have L:=za (yX K.o (zm c (an _)));have aV:aa (xB w w3):=(by have h1:bV w.heap.size wr w3:=λj I=>((zm c (an _)) j (by omega)).trans (P.o j (by omega));exact⟨c.os.trans (D.o.1.trans z.o.os),c.tape.trans (D.o.2.1.trans z.o.tape),c.output.trans (D.o.2.2.trans z.o.output),by omega,λj I=>(h1 j I).trans (H.o.block j I)⟩);have bx:=za (LD ⟨J.toArray⟩ L.o (by rw[Lib.byteCells_length];have:=A.o;show _+J.toArray.size<=_;simp;omega) (by omega));clear c;have G:=trivial;go_wp2_with (clear G;go_at_call 46;refine bx.o.mono ?_);rintro e w4 ⟨rfl,h4,E⟩;have b2:=E.size;have bb:=za (LC 10 (ap h4) (by rw[aP,Lib.byteCells_length,Lib.strCells_length];have:=A.o;show _+J.toArray.size+1<=_;simp;omega) (by omega));have a0:=za (aV.o.trans E);clear h4 E;have G:=trivial;go_wp2_with (clear G;go_at_call 48;refine bb.o.mono ?_;rintro e w5 ⟨rfl,aL,W⟩;have a1:=za (a0.o.trans W);clear W);go_roundg (gk-1);case measure=>omega
    refine⟨k+1,by omega,by omega,by go_num,za (ap ?_),a1⟩;have:=aL;rw[a9.o,a4.o];have e1:Lib.byteCells (dU (a.take k)++(J++[10]))=Lib.byteCells (dU (a.take k))++Lib.strCells ⟨J.toArray⟩++[.int .u8 10]:=(by simp[Lib.byteCells,Lib.strCells]);rw[e1];exact this
  obtain rfl:k=a.length:=by omega
  rw[List.take_length] at o;go_wp2_with (go_at_call 49;refine (Tryz.Builder_String_any_k _ _ _ _ (Lib.IsBuilderF.of o.o) F).mono ?_;rintro e w6 ⟨rfl,_,a2,_⟩);go_ret;exact⟨rfl,H.o.trans a2⟩
end
section
open Go.RowKit
variable {b c:Fn}
theorem Kn.bl {S:Xs}{w W:Xw}(h:Kn S w)(d:xB w W):Kn S W:=by refine⟨h.gl.of (T:=λ_=>False) (Fr.Mo d) (λ_ e=>e.elim),?_⟩;have a:=h.oy;unfold Lib.TabIs World.var? at a ⊢;rw[Tryz.Qz] at a ⊢;simp only[Option.bind_some] at a ⊢;rw[d.block _ (by have:=h.gl.size;omega)];exact a
theorem uI (v:zX 18 190 c)(t:ig 18 b)(h:zv 17 b)(i:zv 18 c)(S:Xs)(src:Xb)(R:St×List Nd)(u:dm b c 1300 src=R)(z:src.size<=1200)(x:R.1.er=0)(q:R.2.length<=6)(n:List ay)(y:dS R.2 n)(w:Xw)(s:Gl S w) :
 xK 28 #[.string src] w (λe g=>∃d,e=.returned (.tuple #[xP d,.nilIface])/\PT g g.heap.size n (xP d)/\xB w g):=by
 refine (yG v t h i S 1300 (by decide) (by decide) src w s z (R:=R) u).mono ?_;rintro e g ⟨_,m,r⟩;obtain⟨a,rfl,j⟩:=m x;obtain⟨A,l,k⟩:=Ku j q;have:=uR l y;subst this;obtain⟨d,p,B,o,f⟩:=k;cases o;exact⟨d,rfl,⟨d,p,B,rfl,f⟩,r⟩
theorem zz (r:zX 18 190 c)(q:ig 18 b)(a:zv 17 b)(d:zv 18 c)(S:Xs)(src:Xb)(k p:Nat)(h:(1200<src.size/\k=1/\p=0)∨(src.size<=1200/\(dm b c 1300 src).1.er≠0/\k=(dm b c 1300 src).1.er/\p=(dm b c 1300 src).1.at'))(w:Xw)(m:Gl S w) :
 xK 28 #[.string src] w (λe j=>e=.returned (.tuple #[.pointer none,fN S iN k p])/\xB w j):=by
 rcases h with ⟨f,rfl,rfl⟩|⟨f,l,n,o⟩
 . refine (BW S src w m f).mono ?_;rintro e j ⟨rfl,g⟩;exact⟨rfl,g⟩
 refine (yG r q a d S 1300 (by decide) (by decide) src w m f rfl).mono ?_;rintro e j ⟨i,_,g⟩;refine⟨?_,g⟩;rw[i l,n,o];unfold cJ fN;rw[ae l]
end
section
open Go.RowKit
theorem BU (S:Xs)(src:Xb)(a:List ay)(j:∀n∈a,gP n)(t:∀n∈a,(∀v∈n.ak,oe v)/\∀q∈n.eqs,Qw S q)(b:∀n∈a,(ez n).length<=10000000000)(i:(dU a).length<=1000000000000)(w:Xw)(r:Kn S w)
 (s:xK 28 #[.string src] w (λe k=>∃f,e=.returned (.tuple #[xP f,.nilIface])/\PT k k.heap.size a (xP f)/\xB w k)) :
 xK 11 #[.string src] w (λe k=>e=.returned (.tuple #[.string ⟨(dU a).toArray⟩,xI 0,xI 0])/\xB w k):=by
 have m:=za s;have h:=za (λW f (d:xB w W) (o:PT W W.heap.size a (xP f))=>LI S W.heap.size a f W (r.bl d) o (an _) (by have:=r.gl.size;have:=d.size;omega) j t b i);obtain⟨T,u⟩:∃T,(dU a).toArray=T:=⟨_,rfl⟩;rw[u] at h ⊢;clear s t b i j;go_enter func11,ntmps11
 go_wp2_with (first
  | (go_at_call 29;revert c;intro c;refine (h.o _ _ g.o c.o).mono ?_;rintro e y ⟨rfl,d⟩;have l:=za d)
  | (go_at_call 28;refine m.o.mono ?_;rintro e x ⟨f,rfl,o,d⟩;have p:=d.size;have c:=za o;have g:=za d))
 exact bodyPost_ret (v:=.tuple #[.string ⟨T⟩,xI 0,xI 0]) (by simp[results,results11,go_sem]) rfl ⟨rfl,g.o.trans (l.o.mono p)⟩
end
section
theorem oH {a b:Fn}(c:a=(fx 17).ex)(e:b=(fx 18).ex)(f:zv 17 a)(h:zv 18 b){g:Nat}{src:Xb}(q:src.size<=1200){R:St×List Nd}(z:dm a b g src=R)(p:R.1.er=0) :
 (∀d∈R.2,og d/\kY d)/\R.2.length<=6/\∃l,dS R.2 l/\(∀n∈l,gP n)/\∀n∈l,n.Nh.length<=1201:=by
 have u:ZK a:=by rw[c];exact (qD 17).1
 have v:ZK b:=by rw[e];exact (qD 18).1
 have s:bI 17 a:=by rw[c];exact (ma 17).1
 have t:bI 18 b:=by rw[e];exact (ma 18).1
 obtain⟨j,m⟩:=vm c;obtain⟨k,o⟩:=vm e;have x:Inv 0 (⟨src,zZ src 0,0,0,0,[]⟩:St):=sk q;subst z;have A:=CN u v (g:=g) q;have B:=uU j k m o f h g src x p;have r:=FR s t f h g src x p;obtain⟨l,w,y⟩:=Di (λd i=>ER (r d i));exact⟨λd i=>⟨⟨A d i,B d i,ER (r d i)⟩,r d i⟩,CE a b g src,l,w,Eh j k m o f h q p w,y⟩
end
section
open Go.RowKit
theorem UA {L:List Ex}(j:∀e∈L,mQ e){x:Nat}{t:Tm}(h:bX L x t):Bk t=true:=by
 induction h with
 | mk x b q n r s p =>
   have hex:=j b (aM n);have m:df b.op.toList b.n<=9223372036854775807:=(by unfold df;split;exact hex.1;exact aE _);have d:∀a:List Tm,(∀u∈a,Bk u=true)->ti a=true:=by
    intro a;induction a with
    | nil=>intro _;rfl
    | cons u l f=>intro c;rw[ti,c u (Mx ..),f (λy o=>c y (cS _ o))];rfl
   rw[Bk,decide_eq_true m,d q (λu c=>?_)]
   . rfl
   obtain⟨i,g⟩:=List.mem_iff_getElem?.1 c;have k:=(aB.1 g).1;exact p i _ u (av (show i<b.ah.length by omega)) g
theorem DN {a:List ay}{k p:Nat}(h:dh a=some (k,p)):4<=k/\k<=9:=by
 unfold dh at h;repeat (split at h;· cases h;omega)
 cases h
def hP (o:Option (Nat×Nat)):Nat×Nat:=o.getD (0,0)
theorem tY (S:Xs)(src:Xb)(k p:Nat)(q:1<=k)(r:k<=11)(w:Xw)(t:Gl S w)(s:Sn S w)(o:fw w)(u:xK 28 #[.string src] w (λe h=>e=.returned (.tuple #[.pointer none,fN S iN k p])/\xB w h)) :
 xK 10 #[.string src] w (λe h=>e=.returned (.tuple #[xI k,xI p])/\xB w h):=by
 have m:=za u;have d:=za (λW (c:xB w W)=>y0 S iN k p W q r (t.of (T:=λ_=>False) (Fr.Mo c) (λ_ e=>e.elim)) (λi j y z A B x n=>s i j y z A B x (c.trans (n.mono c.size))) ((World.cell?_of_block (w:=w) (a:=(xD 7 0)) (c.block _ (World.block_lt_of_cell? w (xD 7 0) o))).trans o));unfold fN ew at m d;clear u t s o;have g:xK 26 #[.string src] w (λe h=>e=.returned (.tuple #[.pointer none,fN S iN k p])/\xB w h):=by unfold fN ew;clear d;go_enter func26,ntmps26;go_wp2_with (go_at_call 28;refine m.o.mono ?_;rintro e C ⟨rfl,c⟩;have b:=za c);exact bodyPost_ret (v:=.tuple #[.pointer none,_]) (by simp[results,results26,go_sem]) rfl ⟨rfl,b.o⟩
 have f:=za g;unfold fN ew at f;clear g m;go_enter func10,ntmps10
 go_wp2_with (first
  | (go_at_call 27;refine (d.o _ b.o).mono ?_;rintro e D ⟨rfl,c⟩;have l:=za c)
  | (go_at_call 26;refine f.o.mono ?_;rintro e C ⟨rfl,c⟩;have b:=za c))
 exact bodyPost_ret (v:=.tuple #[xI k,xI p]) (by simp[results,results10,go_sem]) rfl ⟨rfl,b.o.trans (l.o.mono b.o.size)⟩
theorem B7 (S:Xs)(src:Xb)(s:List ay)(B:∀n∈s,gP n)(C:∀n∈s,n.Nh.length<=1000000)(w:Xw)(z:Gl S w)(E:Sn S w)(A:fw w)
 (K:xK 28 #[.string src] w (λe q=>∃f,e=.returned (.tuple #[xP f,.nilIface])/\PT q q.heap.size s (xP f)/\xB w q)) :
 xK 10 #[.string src] w (λe q=>e=.returned (.tuple #[.int .i64 (hP (dh s)).1,.int .i64 (hP (dh s)).2])/\xB w q):=by
 have o:=za K;have d:=za (λW f (b:xB w W) (u:PT W W.heap.size s (xP f))=>HF S W.heap.size s B C f W (z.of (T:=λ_=>False) (Fr.Mo b) (λ_ e=>e.elim)) u (an _));clear K;cases y:dh s with
 | none =>
   rw[y] at d;rw[show sv S none=.nilIface from rfl] at d;clear E A z B C y;unfold hP;simp only[Option.getD_none];have k:xK 26 #[.string src] w (λe q=>∃f,e=.returned (.tuple #[xP f,.nilIface])/\xB w q):=by
    go_enter func26,ntmps26
    go_wp2_with (first
     | (go_at_call 38;revert g;intro g;refine (d.o _ _ c.o g.o).mono ?_;rintro e J ⟨rfl,b⟩;have G:=b.size;have h:=za b)
     | (go_at_call 28;refine o.o.mono ?_;rintro e I ⟨f,rfl,u,b⟩;have t:=b.size;have g:=za u;have c:=za b))
    exact bodyPost_ret (v:=.tuple #[xP f,_]) (by simp[results,results26,go_sem]) rfl ⟨f,rfl,c.o.trans (h.o.mono t)⟩
   have m:=za k;clear k o d;go_enter func10,ntmps10
   go_wp2_with (first
    | (go_at_call 27;refine (II _).mono ?_;rintro e J ⟨rfl,rfl⟩)
    | (go_at_call 26;refine m.o.mono ?_;rintro e I ⟨f,rfl,b⟩;have c:=za b))
   exact bodyPost_ret (v:=.tuple #[xI 0,xI 0]) (by simp[results,results10,go_sem]) rfl ⟨rfl,c.o⟩
 | some x =>
   obtain⟨r,p⟩:=x;obtain⟨M,N⟩:=DN y;have l:=za (λW (b:xB w W)=>y0 S (pN r) r p W (by omega) (by omega) (z.of (T:=λ_=>False) (Fr.Mo b) (λ_ e=>e.elim)) (λi j O P Q R L D=>E i j O P Q R L (b.trans (D.mono b.size))) ((World.cell?_of_block (w:=w) (a:=(xD 7 0)) (b.block _ (World.block_lt_of_cell? w (xD 7 0) A))).trans A));rw[y] at d;rw[show sv S (some (r,p))=fN S (pN r) r p from rfl] at d;clear E A z B C y;obtain⟨H,F⟩:∃H,pN r=H:=⟨_,rfl⟩;unfold fN ew at l d;rw[F] at d l;unfold hP;simp only[Option.getD_some];have k:xK 26 #[.string src] w (λe q=>∃f,e=.returned (.tuple #[xP f,fN S H r p])/\xB w q):=by
    unfold fN ew;clear l;go_enter func26,ntmps26
    go_wp2_with (first
     | (go_at_call 38;revert g;intro g;refine (d.o _ _ c.o g.o).mono ?_;rintro e J ⟨rfl,b⟩;have G:=b.size;have h:=za b)
     | (go_at_call 28;refine o.o.mono ?_;rintro e I ⟨f,rfl,u,b⟩;have t:=b.size;have g:=za u;have c:=za b))
    exact bodyPost_ret (v:=.tuple #[xP f,_]) (by simp[results,results26,go_sem]) rfl ⟨f,rfl,c.o.trans (h.o.mono t)⟩
   have m:=za k;unfold fN ew at m;clear k o d;go_enter func10,ntmps10
   go_wp2_with (first
    | (go_at_call 27;refine (l.o _ c.o).mono ?_;rintro e J ⟨rfl,b⟩;have h:=za b)
    | (go_at_call 26;refine m.o.mono ?_;rintro e I ⟨f,rfl,b⟩;have c:=za b))
   exact bodyPost_ret (v:=.tuple #[xI r,xI p]) (by simp[results,results10,go_sem]) rfl ⟨rfl,c.o.trans (h.o.mono c.o.size)⟩
def oE (src:Xb)(k p:Nat):Prop :=
 (1200<src.size/\k=1/\p=0)∨(src.size<=1200/\∃R,dm (fx 17).ex (fx 18).ex 1300 src=R/\((R.1.er≠0/\k=R.1.er/\p=R.1.at')∨(R.1.er=0/\∃a,dS R.2 a/\k=(hP (dh a)).1/\p=(hP (dh a)).2)))
theorem Dv {c d:Fn}(a:zv 17 c)(b:zv 18 d){s:Xb}(j:s.size<=1200):(dm c d 1300 s).1.er<=11:=by
 obtain⟨g,k⟩:∃g,g=1300:=⟨_,rfl⟩;have e:=uF a b g (by omega) s (sk j);have h:=RW a b (f:=g) (nodes:=[]) (sk j) rfl;rw[<- k];rw[e.1.er];have i:∀(f:Nat) (x:St×List Nd),Inv 0 x.1->x.1.op=0->Inv 0 (ik c d g f x).1:=by
  intro f;induction f with
  | zero=>intro x h _;exact h
  | succ f m =>
    intro x h l;unfold ik;split
    . have:=RW a b (f:=g) (nodes:=x.2) h l;exact m _ this.1 this.2.1
    exact h
 exact (i g _ h.1 h.2.1).ok.er
theorem Rm (S:Xs)(src:Xb)(k p:Nat)(h:oE src k p)(w:Xw)(d:Gl S w)(m:Sn S w)(q:fw w) :
 xK 10 #[.string src] w (λe z=>e=.returned (.tuple #[xI k,xI p])/\xB w z):=by
 obtain⟨x,y,g,i,r,o,a,b⟩:=pE;unfold oE at h;rw[<- g,<- i] at h;rcases h with ⟨c,rfl,rfl⟩|⟨c,R,f,⟨l,rfl,rfl⟩|⟨l,s,t,rfl,rfl⟩⟩
 . exact tY S src 1 0 (by omega) (by omega) w d m q (zz r o a b S src 1 0 (ao ⟨c,rfl,rfl⟩) w d)
 . have j:=Dv a b c;rw[f] at j;exact tY S src _ _ (by omega) j w d m q (zz r o a b S src _ _ (ap ⟨c,by rw[f];exact l,by rw[f],by rw[f]⟩) w d)
 obtain⟨f1,f2,v,f3,f4,f5⟩:=oH g i a b c f l;have:=uR t f3;subst this;exact B7 S src s f4 (λn u=>aJ (f5 n u) (by decide)) w d m q (uI r o a b S src R f c l f2 s f3 w d)
end
section
open Go.RowKit
variable {a b:Fn}
structure SK (ds:List Nd) (ns:List ay):Prop where
 of:dS ds ns
 wf:∀n∈ns,gP n
 nm:∀n∈ns,∀q∈n.eqs,Bk q.r=true
 one:1<=ns.length
 bO:ns.length<=6
 Rk:∀n∈ns,n.Nh.length<=1201
theorem UX:∀{l:List Nd} {c:List ay},dS l c->∀n∈c,∃d∈l,ht d n:=by
 intro l;induction l with
 | nil=>rintro c rfl n h;cases h
 | cons d l j =>
   rintro c ⟨m,k,rfl,i,g⟩ n h;rcases cC.1 h with rfl|h
   . exact⟨d,Mx ..,i⟩
   obtain⟨d2,e,f⟩:=j g n h;exact⟨d2,cS _ e,f⟩
theorem U2 {L:List Ex}:∀{l:List ax} {c:List Qn},fM L l c->∀q∈c,∃x,bX L x q.r:=by
 intro l;induction l with
 | nil=>rintro c rfl q h;cases h
 | cons j l f =>
   rintro c ⟨i,g,rfl,e,d⟩ q h;rcases cC.1 h with rfl|h
   . exact⟨_,e.r⟩
   exact f d q h
theorem Sj {g:Nat}:∀(f:Nat) (x:St×List Nd),1<=x.2.length->1<=(Mq a b g f x).2.length
 | 0,_,h=>h
 | f+1,x,h=>by
   unfold Mq;split
   . exact Sj f _ (by simp)
   exact h
theorem Vh (a b:Fn)(g:Nat)(s:Xb):1<=(dm a b g s).2.length:=by unfold dm;exact Sj g _ (by simp)
theorem Vz (c:a=(fx 17).ex)(e:b=(fx 18).ex)(f:zv 17 a)(g:zv 18 b){src:Xb}(r:src.size<=1200){R:St×List Nd}(h:dm a b 1300 src=R)(m:R.1.er=0):∃j,SK R.2 j:=by have k:=Vh a b 1300 src;rw[h] at k;obtain⟨f1,f2,j,f3,f4,f5⟩:=oH c e f g r h m;clear h c e f g;have t:=f3.len;refine⟨j,f3,f4,λn o q p=>?_,by omega,by omega,f5⟩;obtain⟨d,l,i⟩:=UX f3 n o;obtain⟨x,s⟩:=U2 i.eqs q p;exact UA (f1 d l).1.s.az s
end
section
open Go.RowKit
structure Qr (src:Xb) (c:Cd):Prop where
 ex:∃pre n fu gas f K,Q2 src (pre++[n])/\RS fu gas f pre n K/\NY (Nr (MW K))=some c
 ok:OW c
 fit:Mt c.al c.cells.length 0 c.row=some 0
theorem Tj (l:Xn)(h:∀x∈l,x<256):∀x∈Nr l,x<256:=by
 intro x hx;rcases bj.1 hx with hx|hx
 . exact h x hx
 exact QV _ x hx
theorem Sk (S:Xs)(src:Xb)(c:Cd)(h:Qr src c)(w:Xw)(A:Gl S w)(E:M9 w)(I:Nq w) :
 xK 14 #[.string src] w (λe r=>∃(m:Ma) (i:Xv),e=.returned (xP m.M)/\MM r m i c c.cells (List.replicate c.al 0)/\w.heap.size<=m.N/\xB w r/\∀k,m.own i k->w.heap.size<=k):=by
 obtain⟨G,n,N,y,f,K,hF,H,J⟩:=h.ex;have j:=za (Wd S src G n hF N y f K H w A E I);have o:=Tj _ (RQ K H.ops);have b:(Nr (MW K)).length=(MW K).length+8:=by unfold Nr;rw[aP,PO]
 obtain⟨l,P⟩:∃l,l=Nr (MW K):=⟨_,rfl⟩;rw[<- P] at j J o b;have D:l≠[]:=by intro e;rw[e] at b;simp at b
 have t:=za (λW (a:xB w W) v B (C:BR B W v l)=>(by
  obtain⟨g,F⟩:=C.by o;obtain⟨x,M,e,_⟩:=F.ex;subst e
  exact UT S x M g l c h.ok J W (A.of (T:=λ_=>False) (Fr.Mo a) (λ_ e=>e.elim)) (I.am (zm a (an _)) A.size) F (F.Bd D) :
   xK 25 #[v] W (λe r=>∃(m:Ma) (i:Xv),e=.returned (.tuple #[xP m.M,xI 0])/\MM r m i c c.cells (List.replicate c.al 0)/\W.heap.size<=m.N/\xB W r/\∀k,m.own i k->W.heap.size<=k)))
 go_enter func14,ntmps14
 go_wp2_with (first
  | (go_at_call 25;revert d;intro d;refine (t.o Q a _ _ d.o).mono ?_;rintro e V ⟨m,i,rfl,L,R,z,p⟩;have u:=za p;clear p;have s:=za (a.trans (z.mono q)))
  | (go_at_call 13;refine j.o.mono ?_;rintro e Q ⟨U,B,rfl,C,O,a⟩;have q:=a.size;have d:=za C))
 go_ret;exact⟨m,i,rfl,L,by omega,s.o,λk e=>aJ q (u.o k e)⟩
theorem V1 (S:Xs)(src:Xb)(c:Cd)(h:Qr src c)(w:Xw)(k:Gl S w)(a:M9 w)(l:Nq w) :
 xK 14 #[.string src] w (λe d=>∃(m:Ma) (b:Xv),e=.returned (xP m.M)/\MM d m b c c.cells (List.replicate c.al 0)/\w.heap.size<=m.N/\xB w d) :=
 (Sk S src c h w k a l).mono (λ_ _ ⟨m,b,f,g,i,j,_⟩=>⟨m,b,f,g,i,j⟩)
def O0 (x:Int):Bool:=x.tmod 2 != 0
theorem VW (x:Int)(_hx:-9223372036854775808<=x/\x<=9223372036854775807)(w:Xw):xK 16 #[xI x] w (λe a=>e=.returned (.bool (O0 x))/\w=a):=by go_enter func16,ntmps16;go_wp2_with fail;go_ret;exact⟨rfl,rfl⟩
def Pj (b:Bool):Int:=if b then 1 else 0
theorem VD (b:Bool)(w:Xw):xK 18 #[.bool b] w (λe a=>e=.returned (xI (Pj b))/\w=a):=by
 cases b
 all_goals
  go_enter func18,ntmps18;go_wp2_with fail;go_ret;exact⟨rfl,rfl⟩
theorem Xx {w i f:Nat}{src:Xb}{K c:Cd}(I:i<=1000000)(H:17*f<=100000)(h:Qp w i f src=some K)(J:NY (Nr (MW K))=some c)(M:OW c)(q:Mt c.al c.cells.length 0 c.row=some 0):Qr src c:=by
 refine⟨?_,M,q⟩;unfold Qp at h;simp only at h;split at h
 . rename_i G
   split at h
   . cases h
   rename_i p k
   unfold Tp at h;split at h
   . cases h
   rename_i n m
   simp only at h;split at h
   . rename_i x
     cases h;simp only[Bool.and_eq_true,decide_eq_true_eq,List.all_eq_true] at x;obtain⟨⟨⟨⟨⟨⟨⟨y,z⟩,A⟩,B⟩,C⟩,D⟩,E⟩,F⟩:=x;have t:p.dropLast++[n]=p:=(by have b:p≠[]:=(by intro e;subst e;cases m);have:=List.dropLast_concat_getLast b;rw[List.getLast?_eq_some_getLast b] at m;rw[<- Option.some.inj m];exact this);refine⟨p.dropLast,n,w,i,f,_,?_,⟨rfl,I,H,XY B,E,D,C,F⟩,J⟩;rw[t];obtain⟨u,v,d,g,_,_,r,s⟩:=pE;obtain⟨l,a,j⟩:=G;rw[<- d,<- g] at a j k;obtain⟨R,o⟩:∃R,dm u v 1300 src=R:=⟨_,rfl⟩;rw[o] at a j k;obtain⟨_,_,L,f3,_,_⟩:=oH d g r s l o a;have:=yF f3 k;subst this;rw[d,g] at o;exact⟨l,⟨R,o,a,j,f3⟩,λn m=>RJ (y n m),z,A⟩
   cases h
 cases h
end
section
open Go.RowKit
variable {src:Xb} {a:List ay} {gas:Nat}
structure Ru (src:Xb) (a pre:List ay) (n:ay) (gas:Nat):Prop where
 eq:a=pre++[n]
 fix:Q2 src (pre++[n])
 code:RS 18 gas 6 pre n (OE gas pre n)
 rt:PZ (OE gas pre n)
 bo:1<=(OE gas pre n).dn.length
theorem Vt {h j:Fn}(k:h=(fx 17).ex)(l:j=(fx 18).ex)(x:1201<=gas)(m:gas<=1000000)(A:src.size<=1200){R:St×List Nd}(t:dm h j 1300 src=R)(w:R.1.er=0)(b:SK R.2 a)(u:dh a=none):∃r n,Ru src a r n gas:=by
 obtain⟨s,v⟩:=Vx u b.wf b.bO b.Rk b.nm;have d:a≠[]:=by intro e;have:=b.one;rw[e] at this;simp at this
 have c:=List.dropLast_concat_getLast d;refine⟨a.dropLast,a.getLast d,c.symm,?_,?_,?_,?_⟩
 . rw[c];rw[k,l] at t;exact⟨A,⟨R,t,w,by have:=b.of.len;have:=b.bO;omega,b.of⟩,b.wf,λn o=>aJ (b.Rk n o) (by decide),u⟩
 all_goals
  obtain⟨g,C,D⟩:=U5 s c.symm gas (v _ _ c.symm)
 . have o:a[a.dropLast.length]?=some (a.getLast d):=by rw[List.length_dropLast,List.getLast_eq_getElem];exact av _
   have f:=Sv s (gas:=gas) x 6 a.dropLast.length _ o (by have:=b.bO;have:=b.one;rw[List.length_dropLast];omega);have q:a.take a.dropLast.length=a.dropLast:=(by rw[List.length_dropLast,List.dropLast_eq_take]);rw[q] at f;have B:=g.al;have z:=g.aG;refine⟨rfl,m,by decide,f,by omega,by have:=g.bO;omega,C.1,λi y=>?_⟩;obtain⟨E,p,_⟩:=g.row i y;exact PM p
 . exact g
 rw[D];exact (b.wf _ (List.getLast_mem d)).ah
theorem UQ {b:List ay}{n:ay}(h:Ru src a b n gas):∃c,Qr src c/\1<=c.dn.length:=by have g:=Vg _ h.rt;have e:∀x∈Nr (MW (OE gas b n)),x<256:=Tj _ (RQ _ h.code.ops);obtain⟨f,d⟩:=YV e g;exact⟨_,⟨⟨b,n,18,gas,6,_,h.fix,h.code,g⟩,f,d⟩,h.bo⟩
theorem UU (v:1201<=gas)(o:gas<=1000000)(src:Xb):(∃a d n,Ru src a d n gas/\oE src 0 0)∨∃k p,1<=k/\k<=11/\oE src k p:=by
 obtain⟨q,r,b,c,u,t,i,j⟩:=pE;clear u t;unfold oE;rw[<- b,<- c];by_cases g:src.size<=1200
 . obtain⟨R,e⟩:∃R,dm q r 1300 src=R:=⟨_,rfl⟩;by_cases l:R.1.er=0
   . obtain⟨a,m⟩:=Vz b c i j g e l;cases f:dh a with
     | none => left;obtain⟨d,n,h⟩:=Vt b c v o g e l m f;exact⟨a,d,n,h,.inr ⟨g,R,e,.inr ⟨l,a,m.of,by rw[f];rfl,by rw[f];rfl⟩⟩⟩
     | some x => right;obtain⟨w,p⟩:=x;have y:=DN f;exact⟨w,p,by omega,by omega,.inr ⟨g,R,e,.inr ⟨l,a,m.of,by rw[f];rfl,by rw[f];rfl⟩⟩⟩
   right;have s:=Dv i j g;rw[e] at s;exact⟨R.1.er,R.1.at',by omega,by omega,.inr ⟨g,R,e,.inl ⟨l,rfl,rfl⟩⟩⟩
 right;exact⟨1,0,by omega,by omega,.inl ⟨by omega,rfl,rfl⟩⟩
end
section
open Go.RowKit
theorem Vf (S:Xs)(src:Xb)(k p:Nat)(K:1<=k)(h:oE src k p)(w:Xw)(C:Gl S w) :
 xK 26 #[.string src] w (λe N=>∃a m,e=.returned (.tuple #[.pointer a,fN S m k p])/\xB w N):=by
 obtain⟨o,r,x,y,E,D,g,i⟩:=pE;unfold oE at h;rw[<- x,<- y] at h;have M:(1200<src.size/\k=1/\p=0)∨(src.size<=1200/\(dm o r 1300 src).1.er≠0/\k=(dm o r 1300 src).1.er/\p=(dm o r 1300 src).1.at')->xK 26 #[.string src] w (λe N=>∃a m,e=.returned (.tuple #[.pointer a,fN S m k p])/\xB w N):=λh=>by have Q:=za (zz E D g i S src k p h w C);clear h E D;unfold fN ew at Q ⊢;go_enter func26,ntmps26;go_wp2_with (go_at_call 28;refine Q.o.mono ?_;rintro e w1 ⟨rfl,d⟩;have c:=za d);exact bodyPost_ret (v:=.tuple #[.pointer none,_]) (by simp[results,results26,go_sem]) rfl ⟨none,iN,rfl,c.o⟩
 rcases h with ⟨s,j,t⟩|⟨s,R,u,⟨j,t,l⟩|⟨j,A,t,l,H⟩⟩
 . exact M (.inl ⟨s,j,t⟩)
 . exact M (.inr ⟨s,by rw[u];exact j,by rw[u];exact t,by rw[u];exact l⟩)
 obtain⟨f1,f2,ab,f3,O,f5⟩:=oH x y g i s u j;have:=uR t f3;subst this;have P:∀n∈A,n.Nh.length<=1000000:=λn X=>aJ (f5 n X) (by decide);have G:=za (uI E D g i S src R u s j f2 A f3 w C);have b:=za (λW B (d:xB w W) (I:PT W W.heap.size A (xP B))=>HF S W.heap.size A O P B W (C.of (T:=λ_=>False) (Fr.Mo d) (λ_ e=>e.elim)) I (an _));cases J:dh A with
 | none=>rw[J] at l;exact absurd l (by show ¬k=0;omega)
 | some kp =>
   obtain⟨Z,q⟩:=kp;rw[J] at l H b;have U:k=Z:=l;have V:p=q:=H;subst U V;rw[show sv S (some (k,p))=fN S (pN k) k p from rfl] at b;obtain⟨m,z⟩:∃m,pN k=m:=⟨_,rfl⟩;rw[z] at b;clear M E D u j t f1 f2 f3 O f5 P J C z l H s K;unfold fN ew at b ⊢;go_enter func26,ntmps26
   go_wp2_with (first
    | (go_at_call 38;revert f;intro f;refine (b.o _ _ c.o f.o).mono ?_;rintro e w2 ⟨rfl,d⟩;have Y:=d.size;have F:=za d)
    | (go_at_call 28;refine G.o.mono ?_;rintro e w1 ⟨B,rfl,I,d⟩;have L:=d.size;have f:=za I;have c:=za d))
   exact bodyPost_ret (v:=.tuple #[xP B,_]) (by simp[results,results26,go_sem]) rfl ⟨_,m,rfl,c.o.trans (F.o.mono L)⟩
theorem UG (S:Xs)(src:Xb)(k p:Nat)(g:1<=k)(q:k<=11)(h:oE src k p)(w:Xw)(n:Gl S w)(r:Sn S w)(o:fw w) :
 xK 13 #[.string src] w (λe A=>e=.returned (.tuple #[.slice none 0 0,xI k,xI p])/\xB w A):=by
 have f:=za (Vf S src k p g h w n);have d:=za (λs W (b:xB w W)=>y0 S s k p W g q (n.of (T:=λ_=>False) (Fr.Mo b) (λ_ e=>e.elim)) (λi j u x y z t m=>r i j u x y z t (b.trans (m.mono b.size))) ((World.cell?_of_block (w:=w) (a:=(xD 7 0)) (b.block _ (World.block_lt_of_cell? w (xD 7 0) o))).trans o));unfold fN ew at f d;clear h n r o;go_enter func13,ntmps13
 go_wp2_with (first
  | (go_at_call 27;refine (d.o _ _ c.o).mono ?_;rintro e C ⟨rfl,b⟩;have l:=za b)
  | (go_at_call 26;refine f.o.mono ?_;rintro e B ⟨a,s,rfl,b⟩;have c:=za b))
 exact bodyPost_ret (v:=.tuple #[.slice none 0 0,xI k,xI p]) (by simp[results,results13,go_sem]) rfl ⟨rfl,c.o.trans (l.o.mono c.o.size)⟩
theorem UE (S:Xs)(src:Xb)(k p:Nat)(c:1<=k)(d:k<=11)(h:oE src k p)(w:Xw)(g:Gl S w)(f:Sn S w)(i:fw w) :
 xK 14 #[.string src] w (λe m=>e=.returned (.pointer none)/\xB w m):=by
 have b:=za (UG S src k p c d h w g f i);have l:¬(k:Int)=0:=by omega
 clear h g f i;go_enter func14,ntmps14;go_wp2_with (go_at_call 13;refine b.o.mono ?_;rintro e n ⟨rfl,j⟩;have a:=za j);go_ret;exact⟨rfl,a.o⟩
end
section
open Go.RowKit
variable {src:Xb} {P:List ay->Bool}
def lQ (src:Xb)(P:List ay->Bool):Bool :=
 let R:=dm (fx 17).ex (fx 18).ex 1300 src
 decide (src.size<=1200)&&decide (R.1.er=0) &&
  match pA R.2 with
  | none=>false
  | some a=>P a
theorem vr (h:lQ src P=true):src.size<=1200/\(dm (fx 17).ex (fx 18).ex 1300 src).1.er=0/\∃a,pA (dm (fx 17).ex (fx 18).ex 1300 src).2=some a/\P a=true:=by
 unfold lQ at h;simp only[Bool.and_eq_true,decide_eq_true_eq] at h;obtain⟨⟨d,e⟩,b⟩:=h;split at b
 . cases b
 rename_i a c
 exact⟨d,e,a,c,b⟩
theorem uJ {o:Option (Nat×Nat)}(h:lQ src P=true)(p:∀d,P d=true->dh d=o):oE src (hP o).1 (hP o).2:=by
 obtain⟨j,k,a,b,r,q,e,f⟩:=pE;obtain⟨l,c,s,g,n⟩:=vr h;clear h;unfold oE;rw[<- a,<- b] at c g ⊢;obtain⟨R,i⟩:∃R,dm j k 1300 src=R:=⟨_,rfl⟩;rw[i] at c g;obtain⟨_,_,d,f3,_,_⟩:=oH a b e f l i c;have:=yF f3 g;subst this;have m:=p _ n;refine ap ⟨l,R,i,ap ⟨c,d,f3,?_,?_⟩⟩
 . rw[m]
 rw[m]
end
section
open Go.RowKit
theorem R0 (S:Xs)(m:Ma)(n:Xv)(c:Cd)(a b:List Int)(w:Xw)(v:Xv)(g:Nat)(l:List Int)(t:Gl S w)(H:MM w m n c a b)(u:Nm w v g l)(k:l≠[]->g≠m.b2)(x:Nk c.dn l=none)(h:Mt c.al c.cells.length 0 c.row=some 0) :
 xK 21 #[xP m.M,v] w (λe o=>∃f d,e=.returned (.tuple #[xS f c.aG c.aG,xI 0])/\w.heap.size<=f/\o.heap[f]?=some (.cells (zK (M5 c (M1 c a l))).toArray 2 (0,0))/\MM o m d c (M1 c a l).cells (M1 c a l).al/\fV m.mb m.b1 m.b2 w n o d):=by
 have j:=za (VX S m.N m.mb m.cb m.b1 m.b2 m.bv m.cv m.rv n c a b w v g l t H.mc u k x h);obtain⟨y,z,s⟩:=zu H.aC;go_enter func21,ntmps21
 go_wp2_with (first
  | (go_at_call 27;refine (II _).mono ?_;rintro e C ⟨rfl,rfl⟩)
  | (go_at_call 33;refine j.o.mono ?_;rintro e B ⟨f,d,rfl,p,q,A,r,i⟩))
 refine bodyPost_ret (v:=.tuple #[xS f c.aG c.aG,xI 0]) (by simp[results,results21,go_sem]) rfl ⟨f,d,rfl,p,q,⟨?_,r,H.m0,H.m1,H.m2,?_⟩,?_⟩
 . refine (i.fr.block _ s ?_).trans H.aC;rintro (e|e|e|e)
   . exact H.m0 e
   . exact H.m1 e
   . exact H.m2 e
   exact H.ms e
 . intro e;rcases i.new _ e with e|e
   . exact H.ms e
   omega
 exact i
theorem Ty (S:Xs)(m:Ma)(k:Xv)(c:Cd)(a b:List Int)(w:Xw)(v:Xv)(g:Nat)(l:List Int)(y:Int)(r:Gl S w)(h:MM w m k c a b)(s:Nm w v g l)(j:l≠[]->g≠m.b2)(t:Nk c.dn l=none)(i:Mt c.al c.cells.length 0 c.row=some 0)(q:c.aG=1)(u:M5 c (M1 c a l)=[y]) :
 xK 17 #[xP m.M,v] w (λe n=>∃d,e=.returned (.tuple #[xI y,.bool true])/\MM n m d c (M1 c a l).cells (M1 c a l).al/\fV m.mb m.b1 m.b2 w k n d):=by
 have f:=za (R0 S m k c a b w v g l r h s j t i);rw[q,u] at f;generalize M1 c a l=R at *;go_enter func17,ntmps17;go_wp2_with (go_at_call 21;refine f.o.mono ?_;rintro e B ⟨x,d,rfl,F,z,o,p⟩;have A:xH B x #[xI y] 2:=z;obtain⟨C,D,E⟩:=zu A);refine bodyPost_ret (v:=.tuple #[xI y,.bool true]) (by simp[results,results17,go_sem]) rfl ⟨d,rfl,o,p⟩
theorem TC (m:Ma)(f:Xv)(c:Cd)(a b:List Int)(w:Xw)(h:MM w m f c a b) :
 xK 20 #[xP m.M] w (λe g=>e=.returned (xI c.dn.length)/\w=g):=by
 have d:=za (Qc m.mb m.cb m.N _ _ _ m.bv m.cv m.rv c w h.mc.mem.aC h.mc.code);obtain⟨i,j,k⟩:=zu h.aC;go_enter func20,ntmps20;go_wp2_with (go_at_call 32;refine d.o.mono ?_;rintro e l ⟨rfl,rfl⟩);go_ret;exact⟨rfl,rfl⟩
theorem YS (m:Ma)(f:Xv)(c:Cd)(a b:List Int)(w:Xw)(h:MM w m f c a b) :
 xK 24 #[xP m.M] w (λe g=>e=.returned (xI c.aG)/\w=g):=by
 have d:=za (S5 m.mb m.cb m.N _ _ _ m.bv m.cv m.rv c w h.mc.mem.aC h.mc.code);obtain⟨i,j,k⟩:=zu h.aC;go_enter func24,ntmps24;go_wp2_with (go_at_call 35;refine d.o.mono ?_;rintro e l ⟨rfl,rfl⟩);go_ret;exact⟨rfl,rfl⟩
theorem TN (m:Ma)(d:Xv)(c:Cd)(b a:List Int)(w:Xw)(H:MM w m d c b a) :
 xK 22 #[xP m.M] w (λe g=>e=.returned (.tuple #[])/\MM g m d c c.cells a/\Fr (·=m.b1) w g):=by
 have i:=za (Td m.N m.mb m.cb m.b1 m.b2 m.bv m.cv m.rv d c b a [] w H.mc);obtain⟨k,l,j⟩:=zu H.aC;go_enter func22,ntmps22;go_wp2_with (go_at_call 34;refine i.o.mono ?_;rintro e n ⟨rfl,h,f⟩);first|go_end0|refine bodyPost_ret (results_none rfl _ _ _) rfl ?_
 exact⟨rfl,⟨(f.block _ j H.m1).trans H.aC,h,H.m0,H.m1,H.m2,H.ms⟩,f⟩
def RR (a b:Cd):Bool:=decide (a.dn=b.dn)&&decide (a.aG=b.aG)&&decide (a.al=b.al)&&decide (a.cells=b.cells)&&decide (a.depth=b.depth)&&decide (a.row=b.row)
theorem WM {a b:Cd}(h:RR a b=true):a=b:=by obtain⟨c,d,e,f,g,i⟩:=a;obtain⟨j,k,l,m,n,o⟩:=b;simp only[RR,Bool.and_eq_true,decide_eq_true_eq] at h;obtain⟨⟨⟨⟨⟨rfl,rfl⟩,rfl⟩,rfl⟩,rfl⟩,rfl⟩:=h;rfl
def Tq (b a f:Nat)(src:Xb):Option Cd:=(Qp b a f src).bind λK=>NY (Nr (MW K))
def RV (b a f:Nat)(src:Xb)(c:Cd):Bool:=match Tq b a f src with
 | none=>false
 | some d=>RR d c
theorem XL {e a f:Nat}{src:Xb}{c:Cd}(h:RV e a f src c=true):∃K,Qp e a f src=some K/\NY (Nr (MW K))=some c:=by
 unfold RV at h;split at h
 . cases h
 rename_i d b
 have:=WM h;subst this;unfold Tq at b;cases g:Qp e a f src with
 | none=>rw[g] at b;cases b
 | some K=>rw[g] at b;exact⟨K,rfl,b⟩
end
end Go.Proofs.YtbicmofihhjgbaaGreatDoor
