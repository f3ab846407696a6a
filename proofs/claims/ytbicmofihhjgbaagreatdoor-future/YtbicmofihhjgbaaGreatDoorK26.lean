/- Part 27 of the proof. -/
import Derived.Test.YtbicmofihhjgbaaGreatDoorK25
set_option maxRecDepth 100000
set_option maxHeartbeats 8000000
namespace Go.Proofs.YtbicmofihhjgbaaGreatDoor
open Go.Proofs.Tryz
section
open Go.RowKit Go.Shelf
attribute [local go_sem ↓] Go.wp_at_zero Go.wp_at_succ
def Pb (c:Sc):Cd:=⟨(c.nd.ak.take c.nd.ah).map (·.bl),c.nd.aG,0,[],0,[]⟩
def Cd.bool (K:Cd)(x:Bool):Cd:={ K with dn:=K.dn++[x] }
theorem KI.Rd {B q a:Nat}{j t u b:Xv}{K:Cd}{x:Bool}{w c:Xw}{X:Obj}(h:KI B q a j t u K w)(hF:Fr (λk=>j.ownBlock=some k) (w.alloc X) c)
 (o:c.ownsRow B 4 1 b (K.dn.length+1) (K.dn.map .bool++[.bool x])) (g:∀k,b.ownBlock=some k->j.ownBlock=some k∨w.heap.size+1<=k) :
 KW B q a (K.bool x) (c.setCell (xD a 0) b)/\FT (KT a) w (c.setCell (xD a 0) b):=by
 have C:=h.hB;have p:=h.MF;have m:=h.MC;have A:(w.alloc X).heap.size=w.heap.size+1:=by simp
 have z:=hF.size;have y:∀k,k<w.heap.size->¬j.ownBlock=some k->c.heap[k]?=w.heap[k]?:=λk f s=>(hF.block k (by omega) s).trans (Below.heap_alloc _ _ _ f);have d:∀k,k<w.heap.size->¬k=a->¬j.ownBlock=some k->(c.setCell (xD a 0) b).heap[k]?=w.heap[k]?:=λk f r l=>zr r (y k f l);have n:∀k,k<B->¬j.ownBlock=some k:=λk f e=>by have:=(h.xv.lt _ e).1;omega
 have v:KI B q a b t u (K.bool x) (c.setCell (xD a 0) b):=by
  refine⟨(d q (by omega) h.dk (n q p)).trans h.wr,?_,?_,zi h.hQ (λk r l e=>d k l (by omega) (λi=>(h.d1 k i).1 e)),zi h.zA (λk r l e=>d k l (by omega) (λi=>(h.d1 k i).2 e)),p,m,h.dk,λk e=>?_,h.d2,?_⟩
  . exact zh _ _ _ _ ((y a (by omega) (n a m)).trans h.aC)
  . have:=zi o (w':=c.setCell (xD a 0) b) (λk r l _=>zr (by omega) rfl)
    show World.ownsRow _ B 4 1 b (K.dn++[x]).length ((K.dn++[x]).map .bool);rw[aP,List.map_append];exact this
  . rcases g k e with e2|e2
    . exact h.d1 k e2
    exact⟨λi=>by have:=(h.hQ.lt _ i).2;omega,λi=>by have:=(h.zA.lt _ i).2;omega⟩
  have:(c.setCell (xD a 0) b).heap.size=c.heap.size:=by simp
  omega
 refine⟨⟨b,t,u,v⟩,⟨hF.os,hF.tape,hF.output,?_,λk f s=>?_⟩,λk f=>?_⟩
 . have:(c.setCell (xD a 0) b).heap.size=c.heap.size:=by simp
   omega
 . exact d k f (λe=>s ((h.kt k).2 (ao e))) (λe=>s ((h.kt k).2 (ap (ao e))))
 rcases (v.kt k).1 f with e|e|e|e
 . exact ao ((h.kt k).2 (ao e))
 . rcases g k e with e2|e2
   . exact ao ((h.kt k).2 (ap (ao e2)))
   exact ap (by omega)
 . exact ao ((h.kt k).2 (ap (ap (ao e))))
 exact ao ((h.kt k).2 (ap (ap (ap e))))
theorem Tryz.Uv (w:Xw):(sizeOf 134).run prog w=.ok 7 w:=by kernel_rfl
theorem S4 {P:Program}{t e:Xy}{a:Nat}(h:P.underlying t=some (.slice e))(c:∀w,(sizeOf e).run P w=.ok a w)(g n b i:Nat)(j:i<=n)(k:n<=b)(W:Xw):(Instr.slice t (xS g n b) none (some (xI (i:Int))) none).run P W=.ok (xS g i b) W:=by
 have f:i<=b:=by omega
 have d:((xD g 0):Addr).add 0=⟨g,0,none⟩:=by simp[Addr.add]
 simp[Instr.slice,Instr.sliceBounds,Instr.sliceBound,run_underlying h,c,asIntOf,f,d]
theorem Tryz.Ua:(prog.info? 4).map (λi=>(i.zero,i.size,i.bytes))=some (some (.bool false),1,1):=by kernel_rfl
def Pd (n:ay)(m:Nat):Cd:=⟨(n.ak.take m).map (·.bl),n.aG,0,[],0,[]⟩
theorem VT {N:Nat}(fu x f:Nat)(bo:x<=1000000)(F:21<=N)(hf:17*f<=100000)(b:List ay)(n:ay)(c5:Xv)(w:Xw)(c1:PT w N (b++[n]) c5)(hN:N<=w.heap.size)(bx:M9 w)(b0:Pr fu x f ⟨b,n⟩)(bk:qv (MQ fu x f ⟨b,n⟩ 0 ((Pb ⟨b,n⟩).add 0 1))) :
 xK 31 #[c5] w (λe w'=>∃B fk kb,e=.returned (xP kb)/\w.heap.size<=kb/\w.heap.size<=B/\KW B fk kb (MQ fu x f ⟨b,n⟩ 0 ((Pb ⟨b,n⟩).add 0 1)) w'/\xB w w'):=by
 have aA:=za (G1 b.length n w c1 hN (by simp));rw[List.take_left] at aA;obtain⟨fP,cs,xs,rfl,ek,hg,c3⟩:=c1;obtain⟨gt,dz,rfl⟩:=zB c3.own;have h6:b.length<=6:=by
  cases f with
  | zero=>exact b0.elim
  | succ f=>obtain⟨⟨P,hg⟩,_⟩:=b0;exact hg.ok.bO
 have eR:IntKind.i64.wrap ((b.length:Int)+1-1)=(b.length:Int):=by rw[IntKind.wrap_i64];omega
 have eS:IntKind.i64.wrap (((b.length+1:Nat):Int)-1)=(b.length:Int):=by rw[IntKind.wrap_i64];omega
 have cd:=za b0;have ch:=za bk;have cl:=za bx;obtain⟨dc,ft,fz⟩:=zu hg;have bt:(b++[n]).length=b.length+1:=by simp
 rw[bt] at dc;clear hg c3 b0 bk bx bt;go_enter func31,ntmps31
 go_upto_region 3 with (first
  | (go_at_call 54;refine ar.o.mono ?_;rintro e c ⟨qb,cb,rfl,fS,dY,cB,b1,aV⟩;have cO:=za b1;have H:=za (D.o.trans (aV.mono D.o.size));obtain⟨m0,m1,m2,m3,m4,gc,e0⟩:=bz b1.aC;obtain⟨_,fj,ff,fl,co,l⟩:=b1.sc.nd;cases co;obtain⟨n0,n1,n2,n3,n4,n5,nf,nz⟩:=zt l.aC;clear b1 aV m0 m2 m3 m4 n0 n1 n2 n3 n5 l)
  | (go_at_call 55;refine aA.o.mono ?_;rintro e w1 ⟨x1,Q,E,rfl,a6,R⟩;have D:=za R;have ar:=za (SO 0 w1 a6 (aJ hN R.size));(rw[show ((0:Nat):Int)=0 from rfl] at ar);clear R a6))
 refine zn (λW=>(xB c W)/\W.heap.size=c.heap.size+2/\W.heap[c.heap.size]?=some (.cells #[.slice none 0 0,xI n.aG,xI 0,.slice none 0 0,xI 0,.slice none 0 0] 103 (0,0))/\W.heap[c.heap.size+1]?=some (.cells #[xP c.heap.size] 128 (0,0))) ⟨cT c _ _,by simp,(mh c _ _).1,(mh c _ _).2⟩ ?_;rintro W ⟨S,bg,bE,bK⟩
 have a5:KI (c.heap.size+2) (c.heap.size+1) c.heap.size (.slice none 0 0) (.slice none 0 0) (.slice none 0 0) ⟨[],n.aG,0,[],0,[]⟩ W :=
  ⟨bK,bE,⟨by simp,ao ⟨rfl,rfl⟩⟩,⟨by simp[zK],ao ⟨rfl,rfl⟩⟩,⟨by simp[MU],ao ⟨rfl,rfl⟩⟩,by omega,by omega,by omega,λk e=>by simp[Value.ownBlock] at e,λk e=>by simp[Value.ownBlock] at e,by omega⟩
 have J:=za a5;have s:=za (cO.o.aq S);have p:=za (H.o.trans (S.mono H.o.size));have Z:gP n:=by
  cases f with
  | zero=>exact cd.o.elim
  | succ f=>obtain⟨⟨P,hg⟩,_⟩:=cd.o;exact hg.ok.nd
 have es:=Z.io;have er:=Z.ah;obtain⟨k0,ga,eX,eY,k4,kf,kz⟩:=bz s.o.aC;obtain⟨nn,cK,fg,fr,co,l⟩:=s.o.sc.nd;cases co;obtain⟨p0,e1,gd,p3,e5,e7,ge,gl⟩:=zt l.aC;have d:W.ownsRow 0 134 7 cK n.ak.length (eT n.ak):=l.bZ;obtain⟨cs,c0,rfl,eq⟩:=zM d (by omega);have cv:n.ak.length<=c0:=by
  rcases d.2 with ⟨h,_⟩|⟨_,_,_,h,_,_,h3,_⟩
  . cases h
  cases h;exact h3
 have eQ:=S4 (P:=prog) underlying118 Tryz.Uv cs n.ak.length c0 n.ah (by omega) cv;have e3:W.cell? (xD E 3)=some (xI (n.ah:Int)):=p3;have cm:=za d;have bp:=l.jc cs rfl;have da:=za bg;clear S bg bE bK a5 k0 eX eY k4 p0 e1 p3 e5 e7 d l Z m1 n4;have eF:qb<c.heap.size:=e0;have c2:cb<c.heap.size:=cO.o.ck.lt;have c4:=H.o.size;have bb:WI N (c.heap.size+2) (c.heap.size+1) c.heap.size qb cb 0 ⟨b,n⟩ (.slice x1 b.length Q) (xP E) (.slice none 0 0) (Pd n 0) W:=by
  refine⟨⟨_,_,_,J.o⟩,s.o,λe=>?_,λe=>?_,by omega⟩
  . rcases (J.o.kt qb).1 e with e|e|e|e
    . omega
    . simp[Value.ownBlock] at e
    . simp[Value.ownBlock] at e
    simp[Value.ownBlock] at e
  rcases (J.o.kt cb).1 e with e|e|e|e
  . omega
  . simp[Value.ownBlock] at e
  . simp[Value.ownBlock] at e
  simp[Value.ownBlock] at e
 have v:=za bb;clear bb;go_quiet (fail);go_wp2_with fail;go_loopg [45] (n.ah+1) (λj i wr=>∃m:Nat,m+j=n.ah+1/\m<=n.ah/\i=xI m/\aa (WI N (c.heap.size+2) (c.heap.size+1) c.heap.size qb cb 0 ⟨b,n⟩ (.slice x1 b.length Q) (xP E) (.slice none 0 0) (Pd n m) wr)/\aa (FT (KT c.heap.size) W wr));case atStart=>exact⟨0,by omega,aE _,rfl,v.o.aq (zI (Below.refl _ _) _),FT.below (zI (Below.refl _ _) _) (v.o.kw.tk (zI (Below.refl _ _) _))⟩
 case round =>
  obtain⟨m,eE,hm,rfl,ab,b4⟩:=hrel;by_cases ex:m<n.ah
  . obtain⟨g,bB⟩:∃g,n.ak[m]?=some g:=⟨_,av (by omega)⟩;have hO:bV N W wr:=b4.o.am s.o.hN v.o.Pe;have bA:=zi cm.o (w':=wr) (λk _ _ e=>hO k (by cases e;exact bp));obtain⟨g',e',dk,dl,dp,dq,ds,du,dw⟩:=hj bA bB;cases e';have i0:(0:Int)<=(m:Int):=by omega
    have i1:(m:Int)<(n.ah:Int):=(by omega);clear bA hO;go_upto_region 6 with fail;have dV:(((dv g:Nat):Int)==1)=g.bl:=(by unfold dv;cases g.bl <;> rfl);obtain⟨K,hK⟩:∃K,Pd n m=K:=⟨_,rfl⟩;have a3:K.bool g.bl=Pd n (m+1):=(by rw[<- hK];unfold Cd.bool Pd;rw[List.take_add_one,bB];simp);have ea:n.ak.length<=16:=(by obtain⟨_,_,_,_,_,bv⟩:=s.o.sc.nd;exact bv.bO);have dP:K.dn.length<=16:=by
     rw[<- hK]
     show ((n.ak.take m).map (·.bl)).length<=16;rw[List.length_map,List.length_take];omega
    rw[hK] at ab;refine zn (λV=>(xB wr V)/\V.heap.size=wr.heap.size+1/\V.heap[wr.heap.size]?=some (.cells #[.string g.nm,xI g.a,xI (dv g:Nat),xI (ba g:Nat),xI g.on,.string g.ck,xI g.ca] 134 (0,0))) ⟨zq wr _,by simp,zc wr _⟩ ?_;rintro V ⟨T,a9,bL⟩;obtain⟨fC,dL,rv,A⟩:=ab.o.kw;obtain⟨c6,aL,rfl⟩:=O6 A.xv;have z:=A.aq T;have bl:∀k,(Value.slice c6 K.dn.length aL).ownBlock=some k->k<wr.heap.size:=λk e=>(A.xv.lt k e).2;have ck:=za bl;obtain⟨gn,rf,go⟩:=zu z.wr;obtain⟨q0,fd,q2,q3,q4,q5,qf,gm⟩:=zt z.aC;have s2:V.cell? (xD wr.heap.size 2)=some (xI (dv g:Nat)):=(World.cell?_of_block (w:=V) rfl).trans (by simp[World.cell?,bL]);obtain⟨i9,hi,cz,bq,cA⟩:=info_parts Tryz.Ua;have r:=za z;have I:=za T;have c9:=za a9;have ce:=za a3;have mx:K.dn.length+1<=maxLen:=(by unfold maxLen;omega);have cn:(K.dn.length+1)*1<=140737488355328:=(by omega);have dM:=z.hB;have bY:∀u∈[Value.bool g.bl],u.oneCell'=true:=(by simp[Value.oneCell']);have eW:¬wr.heap.size=c.heap.size:=(by have:=ze A.aC;omega);have cE:wr.heap.size<V.heap.size:=(by omega);clear z A bl T a9 bL a3 hK dk dl dp dq ds du dw fd q2 q3 q4 q5;go_region_law (first|(refine zJ _ rfl (.tmp 55) (.tmp 59) 100 rfl (c.heap.size+2) 4 i9 _ 1 1 underlying100 hi cz bq cA rfl (by decide) (.slice c6 K.dn.length aL) K.dn.length (K.dn.map .bool) rfl (zD r.o.xv _) (xD V.heap.size 0) 1 1 [.bool g.bl] rfl rfl (zN (zc V _) rfl) bY mx cn (by simp;omega) ?_;intro v' w9 o C G;obtain⟨g9,cR,rfl,eb⟩:=zM o (by omega);have y:=(Fr.gi C).cQ;have bC:=(y.block (c.heap.size+1) (by simp;omega) (λh=>by have:=(r.o.xv.lt _ h).1;omega)).trans ((Below.heap_alloc _ _ _ (by omega)).trans r.o.wr);have bs:=(y.block c.heap.size (by simp;omega) (λh=>by have:=(r.o.xv.lt _ h).1;omega)).trans ((Below.heap_alloc _ _ _ (by omega)).trans r.o.aC);obtain⟨fA,fB,fD⟩:=zu bC;obtain⟨t0,t1,t2,t3,t4,t5,gs,tz⟩:=zt bs;have d2:=(World.cell?_of_block (w:=V) (a:=(xD wr.heap.size 2)) ((y.block wr.heap.size (by simp;omega) (λh=>by have:=ck.o _ h;omega)).trans (Below.heap_alloc _ _ _ cE))).trans s2;have ca:=za y;have O:=za o;have M:=za G;clear o C G y bC bs));all_goals go_wp2_with fail
    all_goals go_roundg (gk-1)
    all_goals first
     | omega
     | (have U:=r.o.Rd ca.o O.o (λk e=>(M.o k e).imp id (λh=>by have h':(V.alloc (.cells #[.bool g.bl] 4)).heap.size<=k:=h;rw[au] at h';exact h'))
        rw[ce.o] at U;have be:=ab.o.aq I.o;have a1:=(b4.o.trans (FT.below I.o (ab.o.kw.tk I.o))).trans U.2
        first
         | exact⟨m+1,by omega,by omega,by go_num,be.ft U.1 U.2,a1⟩
         | exact⟨m+1,by omega,by omega,by go_num,(be.ft U.1 U.2).aq (zo (Below.refl _ _)),a1.trans (FT.below (zo (Below.refl _ _)) (U.1.tk (zo (Below.refl _ _))))⟩)
  have em:m=n.ah:=by omega
  subst em;have ct:N<=W.heap.size:=s.o.hN;have b2:=za (O5 (c.heap.size+2) (c.heap.size+1) c.heap.size (Pd n n.ah) 0 1 wr ab.o.kw (by simp[Pd]))
  go_wp2_with (first
   | (go_at_call 57
      refine b3.o.mono ?_;rintro e w4 ⟨rfl,⟨eZ,Y⟩,a0⟩;have cg:=za Y;have t:=za a0;obtain⟨di,dH,fh,a2⟩:=Y.wi.kw;obtain⟨gw,gx,gz⟩:=zu a2.wr;clear Y a0 a2)
   | (go_at_call 56
      refine b2.o.mono ?_;rintro e w3 ⟨rfl,a4,X⟩;have q:=za (b4.o.trans X);have L:aa (WL N (c.heap.size+2) (c.heap.size+1) c.heap.size qb cb 0 ⟨b,n⟩ (.slice x1 b.length Q) (xP E) (.slice none 0 0) ((Pb ⟨b,n⟩).add 0 1) [] w3):=⟨ab.o.ft a4 X,⟨[],S0 _ _ _ _,rfl⟩,λk e=>by simp[Value.ownBlock] at e,cB,by omega,by have:=D.o.size;omega⟩;have b3:=za (V8 fu x bo F f ⟨b,n⟩ cd.o 0 (by omega) qb cb _ _ _ w3 L.o (cl.o.am ((zm p.o hN).trans (q.o.am ct v.o.Pe)) F) ch.o);clear a4 X))
  go_ret;have eG:=q.o.fr.size;have eN:=p.o.size;refine⟨_,_,_,rfl,by omega,by omega,cg.o.wi.kw,⟨(t.o.fr.os.trans q.o.fr.os).trans p.o.os,(t.o.fr.tape.trans q.o.fr.tape).trans p.o.tape,(t.o.fr.output.trans q.o.fr.output).trans p.o.output,by have:=t.o.fr.size;omega,λk ev=>?_⟩⟩;refine (t.o.fr.block k (by omega) (λe=>?_)).trans ((q.o.fr.block k (by omega) (λe=>?_)).trans (p.o.block k ev))
  . rcases (L.o.ct k).1 e with e|e|e
    . rcases L.o.wi.kw.ge k e with e|e <;> omega
    . have:=D.o.size;omega
    simp[Value.ownBlock] at e
  rcases v.o.kw.ge k e with e|e <;> omega
end
section
open Go.RowKit
variable {N m z y j r C lb p:Nat} {S:Xs} {g:Xo} {c:Sc} {D A E B:Xv} {w f:Xw}
attribute [local go_sem ↓] Go.wp_at_zero Go.wp_at_succ
structure iq (S:Xs) (C lb j p:Nat) (E D:Xv) (N:Nat) (c:Sc) (A B:Xv) (r m z y:Nat) (g:Xo) (w:Xw):Prop where
 rp:Fx S C lb j p E D g w
 sc:br w N c A B
 ck:dF w c r
 x1:w.heap[m]?=some (.cells #[A,B] 216 (0,0))
 x2:w.heap[z]?=some (.cells #[.map (some r)] 123 (0,0))
 x3:w.heap[y]?=some (.cells #[bT lb j p] 214 (0,0))
 d:∀b,b=m∨b=z∨b=y∨b=r->¬b=lb/\¬b=j
 l1:N<=lb
 l2:N<=j
 hN:N<=w.heap.size
theorem iq.aq (h:iq S C lb j p E D N c A B r m z y g w)(a:xB w f):iq S C lb j p E D N c A B r m z y g f :=
 ⟨h.rp.aq a,h.sc.am (zm a h.hN),h.ck.aq a,(a.block _ (ze h.x1)).trans h.x1,(a.block _ (ze h.x2)).trans h.x2,(a.block _ (ze h.x3)).trans h.x3,h.d,h.l1,h.l2,aJ h.hN a.size⟩
theorem iq.aX {d:Xo}(h:iq S C lb j p E D N c A B r m z y g w)(n:Fx S C lb j p E D d f)(a:Fr (RT lb j) w f):iq S C lb j p E D N c A B r m z y d f:=by
 have i:∀{b},(b=m∨b=z∨b=y∨b=r)->¬RT lb j b:=λl e=>by rcases e with e|e;exact (h.d _ l).1 e;exact (h.d _ l).2 e
 exact⟨n,h.sc.am (a.am h.hN (λk e=>by rcases e with e|e;exact e▸h.l1;exact e▸h.l2)),h.ck.gh (a.block _ h.ck.lt (i (by simp))),(a.block _ (ze h.x1) (i (by simp))).trans h.x1,(a.block _ (ze h.x2) (i (by simp))).trans h.x2,(a.block _ (ze h.x3) (i (by simp))).trans h.x3,h.d,h.l1,h.l2,aJ h.hN a.size⟩
theorem K6:zH 177:=λ_ _=>by kernel_rfl
theorem XW:zH 135:=λ_ _=>by kernel_rfl
theorem xo (k:Nat)(w:Xw):xK 178 #[xI (k:Int)] w (λe f=>e=.returned (xI (lz k:Nat))/\w=f):=by
 unfold lz;by_cases h:k=8
 . subst h;rw[ag rfl];go_enter func178,ntmps178;go_wp2_with fail;go_ret;exact⟨rfl,rfl⟩
 rw[ae h];have a:¬(k:Int)=8:=by omega
 go_enter func178,ntmps178;go_wp2_with fail;go_ret;exact⟨rfl,rfl⟩
theorem GP (w:Xw):xK 178 #[xI 7] w (λe f=>e=.returned (xI 1)/\w=f):=xo 7 w
theorem GM (w:Xw):xK 178 #[xI 8] w (λe f=>e=.returned (xI 2)/\w=f):=xo 8 w
theorem Kl (v:Xv)(k:Nat×Nat)(w:Xw):xK 135 #[v,hG k] w (λe f=>e=.returned (.tuple #[])/\xB w f):=by
 unfold hG;go_enter func135,ntmps135;go_wp2_with fail;first|go_end0|refine bodyPost_ret (results_none rfl _ _ _) rfl ?_
 exact⟨rfl,zq w _⟩
theorem Jh (A B:Xv)(r lb j p:Nat)(w:Xw)(l:Xp)(n b:Nat)(k:Nat)(d:A=.slice l n b)(i:B=xP k) :
 xK 134 #[.agg #[A,B],.map (some r),bT lb j p] w (λe f=>e=.returned (.func (.func 177) #[] #[xP (w.heap.size+1),xP w.heap.size,xP (w.heap.size+1+1)])/\xB w f/\f.heap[w.heap.size]?=some (.cells #[A,B] 216 (0,0))/\f.heap[w.heap.size+1]?=some (.cells #[.map (some r)] 123 (0,0))/\f.heap[w.heap.size+1+1]?=some (.cells #[bT lb j p] 214 (0,0))/\f.heap.size=w.heap.size+1+1+1):=by
 subst d i;unfold bT;have h:∀(fn:Go.Fn) (first a:Xa) (w:Xw),(Instr.makeFunc fn first a).run prog w=.ok (.func fn first a) w:=λ_ _ _ _=>rfl;go_enter func134,ntmps134;go_wp2_with fail;go_ret;exact⟨rfl,mg w _ _ _,(iu w _ _ _).1,(iu w _ _ _).2.1,(iu w _ _ _).2.2,by simp⟩
theorem Ka (S:Xs)(C lb j p:Nat)(E D:Xv)(N:Nat)(c:Sc)(A B:Xv)(r m z y:Nat)(t:Tm)(v:Xv)(k:Nat×Nat)(g:Xo)(w:Xw)(hT:TT w N t v)(K:iq S C lb j p E D N c A B r m z y g w) :
 xK 177 #[v,hG k,xP z,xP m,xP y] w (λe f=>e=.returned (.bool (c.cr t k).2)/\iq S C lb j p E D N c A B r m z y ((c.cr t k).1.foldl aj g) f/\Fr (RT lb j) w f):=by
 obtain⟨ab,M,Y,rfl,rfl,a9⟩:=K.sc.shape;obtain⟨b,a2,bt,rfl,bl,Q,_⟩:=hT.ptr;have hN:=K.hN;have aA:=ze Q;have l1:=K.l1;have l2:=K.l2;have d1:=K.d m (by simp);have d2:=K.d z (by simp);have d3:=K.d y (by simp);obtain⟨d11,d12⟩:=d1;obtain⟨d21,d22⟩:=d2;obtain⟨d31,d32⟩:=d3;have a4:¬b=lb:=by omega
 have a3:¬b=j:=by omega
 have zl:=ze K.rp.l;have bv:=ze K.rp.b;obtain⟨s,u⟩:=k;unfold hG;go_enter func177,ntmps177;go_upto_region 1 with fail;refine zn (λW=>iq S C lb j p E D N c (xE ab c M) (xP Y) r m z y g W/\xB w W/\xH W w.heap.size #[xI (s:Nat),xI (u:Nat)] 198) ⟨K.aq (zq w _),zq w _,zc w _⟩ ?_;rintro W ⟨i,x,ar⟩;obtain⟨bq,s1,bs,sz⟩:=zp i.x1;obtain⟨c0,bk,cz⟩:=zu i.x2;obtain⟨p0,bp,a1⟩:=zu i.x3;obtain⟨k0,bg,kf,kz⟩:=zp ar;obtain⟨m0,m1,m2,m3,m4,m5,bo,a0⟩:=zt ((x.block b aA).trans Q);have a6:w.heap.size<=W.heap.size:=x.size;have P:=za (hW t.s (t.nm:Int) W.drew (i.sc.am (λ_ _=>rfl)) (by show N<=W.heap.size;omega));unfold bT at p0;by_cases h3:t.k=3∨t.k=6
 . have F:aa (c.cr t (s,u)=(if c.of (c.idx t.s)=(s,u) then [] else [t.nm],true)):=ag (by rcases h3 with hk|hk <;> rw[hk] <;> decide);obtain⟨⟨Z,o2⟩,a5⟩:∃o,c.of (c.idx t.s)=o:=⟨_,rfl⟩;rw[a5] at F;have cs:((Z:Int)=(s:Int)/\(o2:Int)=(u:Int))∨((Z:Int)=(s:Int)/\¬(o2:Int)=(u:Int))∨¬(Z:Int)=(s:Int):=by omega
   rcases h3 with hk|hk <;> rcases cs with ⟨e1,T⟩|⟨e1,T⟩|e1
   all_goals
    rw[hk] at m0
    first
     | rw[ag (Prod.ext (by show Z=s;omega) (by show o2=u;omega))] at F
     | rw[ae (λh=>by have U:=congrArg Prod.fst h;have V:=congrArg Prod.snd h;simp only at U V;omega)] at F
    go_upto_region 4 with fail
    go_region_held3 (λf=>f.cell? (xD z 0)=some (.map (some r))/\f.cell? (xD m 0)=some (xE ab c M)/\f.cell? (xD m 1)=some (xP Y)/\f.cell? (xD b 2)=some (.string t.s)/\f.cell? (xD b 3)=some (xI t.nm)/\f.cell? (xD w.heap.size 0)=some (xI (s:Nat))/\f.cell? (xD w.heap.size 1)=some (xI (u:Nat)))
     (first|(with_reducible (refine⟨?_,?_,?_,?_,?_,?_,?_⟩ <;> repeat (first|assumption|refine zg ?_|refine zj _ ?_|refine zk (by omega) ?_|refine zd L.o ?_ (by first|omega|(rw[au];omega))|refine zd d.o ?_ (by first|omega|(rw[au];omega)))))|go_keep)
     (first
       | (go_at_call 104;refine R.o.mono ?_;rintro e w2 ⟨rfl,X⟩;have L:=za X;have be:O.heap.size<=w2.heap.size:=X.size)
       | (go_at_call 105;refine P.o.mono ?_;rintro e O ⟨rfl,G⟩;have d:=za (zw G);have J:W.heap.size<=O.heap.size:=G.size;have R:=za (jW (c.idx t.s) O (i.ck.aq d.o));(rw[a5] at R)))
    first
     | (go_wp2_with fail
        go_ret;rw[F.o];exact⟨rfl,i.aq (d.o.trans (L.o.mono J)),(zy x).trans (zy (d.o.trans (L.o.mono J)))⟩)
     | (go_upto_region 5 with fail
        have a:=za (d.o.trans (L.o.mono J));have g1:=zd a.o p0 a1;have g2:=zd a.o m3 a0;have n:=za (eg S C lb j p E D g t.nm w2.drew ((i.aq a.o).rp.aq (zo (Below.refl _ _))))
        go_region_held3 (λf=>f.cell? (xD y 0)=some (.func (.func 140) #[] #[xP lb,xP j,xP p])/\f.cell? (xD b 3)=some (xI t.nm))
         (first|(with_reducible (refine⟨?_,?_⟩ <;> repeat (first|assumption|refine zg ?_|refine zS l.o ?_ (by omega) (by omega))))|go_keep)
         (first|(go_at_call 140;refine (n.o).mono ?_;rintro e w6 ⟨rfl,I,H⟩;have l:=za H.cQ))
        go_wp2_with fail;go_ret;rw[F.o];refine⟨rfl,?_,((zy x).trans (zy a.o)).trans l.o⟩;exact (i.aq a.o).aX I l.o)
 by_cases h7:t.k=7
 . have aV:W.cell? (xD b 0)=some (xI 7):=by rw[m0,h7];rfl
   have F:aa (c.cr t (s,u)=(if (s,u)=(c.idx t.s,1) then ([],true) else ([t.a],false))):=(by show c.cr t _=_;unfold Sc.cr;rw[ae (by omega),ag (by omega),h7];rfl);have cs:((s:Int)=(c.idx t.s:Int)/\(u:Int)=1)∨((s:Int)=(c.idx t.s:Int)/\¬(u:Int)=1)∨¬(s:Int)=(c.idx t.s:Int):=(by omega);rcases cs with ⟨e1,T⟩|⟨e1,T⟩|e1
   all_goals
    first
     | rw[ag (Prod.ext (by show s=_;omega) (by show u=_;omega))] at F
     | rw[ae (λh=>by have U:=congrArg Prod.fst h;have V:=congrArg Prod.snd h;simp only at U V;omega)] at F
    go_upto_region 8 with fail
    go_region_held3 (λf=>f.cell? (xD m 0)=some (xE ab c M)/\f.cell? (xD m 1)=some (xP Y)/\f.cell? (xD b 0)=some (xI 7)/\f.cell? (xD b 2)=some (.string t.s)/\f.cell? (xD b 3)=some (xI t.nm)/\f.cell? (xD w.heap.size 0)=some (xI (s:Nat))/\f.cell? (xD w.heap.size 1)=some (xI (u:Nat)))
     (first|(with_reducible (refine⟨?_,?_,?_,?_,?_,?_,?_⟩ <;> repeat (first|assumption|refine zg ?_|refine zj _ ?_|refine zk (by omega) ?_|refine zd d.o ?_ (by first|omega|(rw[au];omega)))))|go_keep)
     (first
       | (go_at_call 178;refine (GP _).mono ?_;rintro e w2 ⟨rfl,rfl⟩)
       | (go_at_call 105;refine P.o.mono ?_;rintro e O ⟨rfl,G⟩;have d:=za (zw G);have J:W.heap.size<=O.heap.size:=G.size))
    first
     | (go_wp2_with fail
        go_ret;rw[F.o];exact⟨rfl,i.aq d.o,(zy x).trans (zy d.o)⟩)
     | (go_upto_region 9 with fail
        have a:=za (d.o);have g1:=zd a.o p0 a1;have g2:=zd a.o m1 a0;have n:=za (eg S C lb j p E D g t.a O.drew ((i.aq a.o).rp.aq (zo (Below.refl _ _))))
        go_region_held3 (λf=>f.cell? (xD y 0)=some (.func (.func 140) #[] #[xP lb,xP j,xP p])/\f.cell? (xD b 1)=some (xI t.a))
         (first|(with_reducible (refine⟨?_,?_⟩ <;> repeat (first|assumption|refine zg ?_|refine zS l.o ?_ (by omega) (by omega))))|go_keep)
         (first|(go_at_call 140;refine (n.o).mono ?_;rintro e w6 ⟨rfl,I,H⟩;have l:=za H.cQ))
        go_wp2_with fail;go_ret;rw[F.o];refine⟨rfl,?_,((zy x).trans (zy a.o)).trans l.o⟩;exact (i.aq a.o).aX I l.o)
 by_cases h8:t.k=8
 . have aV:W.cell? (xD b 0)=some (xI 8):=by rw[m0,h8];rfl
   have F:aa (c.cr t (s,u)=(if (s,u)=(c.idx t.s,2) then ([],true) else ([t.a],false))):=(by show c.cr t _=_;unfold Sc.cr;rw[ae (by omega),ag (by omega),h8];rfl);have cs:((s:Int)=(c.idx t.s:Int)/\(u:Int)=2)∨((s:Int)=(c.idx t.s:Int)/\¬(u:Int)=2)∨¬(s:Int)=(c.idx t.s:Int):=(by omega);rcases cs with ⟨e1,T⟩|⟨e1,T⟩|e1
   all_goals
    first
     | rw[ag (Prod.ext (by show s=_;omega) (by show u=_;omega))] at F
     | rw[ae (λh=>by have U:=congrArg Prod.fst h;have V:=congrArg Prod.snd h;simp only at U V;omega)] at F
    go_upto_region 8 with fail
    go_region_held3 (λf=>f.cell? (xD m 0)=some (xE ab c M)/\f.cell? (xD m 1)=some (xP Y)/\f.cell? (xD b 0)=some (xI 8)/\f.cell? (xD b 2)=some (.string t.s)/\f.cell? (xD b 3)=some (xI t.nm)/\f.cell? (xD w.heap.size 0)=some (xI (s:Nat))/\f.cell? (xD w.heap.size 1)=some (xI (u:Nat)))
     (first|(with_reducible (refine⟨?_,?_,?_,?_,?_,?_,?_⟩ <;> repeat (first|assumption|refine zg ?_|refine zj _ ?_|refine zk (by omega) ?_|refine zd d.o ?_ (by first|omega|(rw[au];omega)))))|go_keep)
     (first
       | (go_at_call 178;refine (GM _).mono ?_;rintro e w2 ⟨rfl,rfl⟩)
       | (go_at_call 105;refine P.o.mono ?_;rintro e O ⟨rfl,G⟩;have d:=za (zw G);have J:W.heap.size<=O.heap.size:=G.size))
    first
     | (go_wp2_with fail
        go_ret;rw[F.o];exact⟨rfl,i.aq d.o,(zy x).trans (zy d.o)⟩)
     | (go_upto_region 9 with fail
        have a:=za (d.o);have g1:=zd a.o p0 a1;have g2:=zd a.o m1 a0;have n:=za (eg S C lb j p E D g t.a O.drew ((i.aq a.o).rp.aq (zo (Below.refl _ _))))
        go_region_held3 (λf=>f.cell? (xD y 0)=some (.func (.func 140) #[] #[xP lb,xP j,xP p])/\f.cell? (xD b 1)=some (xI t.a))
         (first|(with_reducible (refine⟨?_,?_⟩ <;> repeat (first|assumption|refine zg ?_|refine zS l.o ?_ (by omega) (by omega))))|go_keep)
         (first|(go_at_call 140;refine (n.o).mono ?_;rintro e w6 ⟨rfl,I,H⟩;have l:=za H.cQ))
        go_wp2_with fail;go_ret;rw[F.o];refine⟨rfl,?_,((zy x).trans (zy a.o)).trans l.o⟩;exact (i.aq a.o).aX I l.o)
 have aL:∀q,c.cr t q=([],true):=λq=>by unfold Sc.cr;rw[ae (by omega),ae (by omega)]
 have F:=za (aL (s,u));have g3:¬(t.k:Int)=3:=by omega
 have g6:¬(t.k:Int)=6:=by omega
 have g7:¬(t.k:Int)=7:=by omega
 have g8:¬(t.k:Int)=8:=by omega
 go_wp2_with fail;go_ret;rw[F.o];exact⟨rfl,i,zy x⟩
theorem KN (S:Xs)(C lb j p:Nat)(E D:Xv)(N:Nat)(c:Sc)(A B:Xv)(r m z y:Nat) :
 yH N c A B r (λ_=>RT lb j) 177 #[xP z,xP m,xP y] 135 #[] (λ_ _=>True) (λt k=>(c.cr t k).2) (λg t k=>(c.cr t k).1.foldl aj g) (λg _ _=>g) (iq S C lb j p E D N c A B r m z y) (λ_=>True) where
 bE:=λ_ _ _ _=>trivial
 bL:=λ_ _ _ _=>trivial
 sJ:=K6
 sK:=XW
 hT:=λs w k a e=>by
  have h:=a.d r (by simp);rcases e with e|e
  . subst e;exact⟨a.l1,ze a.rp.l,λe=>h.1 e.symm⟩
  subst e;exact⟨a.l2,ze a.rp.b,λe=>h.2 e.symm⟩
 aq:=λs w f h l=>⟨h.aq l,λ_ e=>e⟩
 sub:=λ_ _ _ _ _ _ _=>trivial
 sG:=λt v k s w hT o q n a _ _=>by refine (Ka S C lb j p E D N c A B r m z y t v k s w hT a).mono ?_;rintro e f ⟨d,b,i⟩;exact⟨d,b,FT.const i⟩
 p5:=λt v k s w hT o q n a _ _=>by refine (Kl v k w).mono ?_;rintro e f ⟨d,b⟩;exact⟨d,a.aq b,FT.const (zy b)⟩
theorem J4 (c:Sc):∀(t:Tm) (k:Nat×Nat) (g:Xo),gK c (λt k=>(c.cr t k).2) (λg t k=>(c.cr t k).1.foldl aj g) (λg _ _=>g) t k g=(fQ c t k).foldl aj g:=by
 intro t;induction t using Tm.ind with
 | h x a s o n b F =>
   intro k g;have q:∀(l:List Tm),(∀u∈l,u∈b)->∀(i:Nat) (g:Xo),gu c (λt k=>(c.cr t k).2) (λg t k=>(c.cr t k).1.foldl aj g) (λg _ _=>g) (.mk x a s o n b) k l i g=(k6 c (.mk x a s o n b) k l i).foldl aj g:=by
    intro l;induction l with
    | nil=>intro _ i g;rfl
    | cons u l d => intro e i g;rw[gu,k6,bc,d (λu v=>e u (cS _ v)),F u (e u (Mx ..))]
   rw[gK,fQ,bc];split
   . rw[q b (λ_ h=>h)]
   rfl
end
end Go.Proofs.YtbicmofihhjgbaaGreatDoor
