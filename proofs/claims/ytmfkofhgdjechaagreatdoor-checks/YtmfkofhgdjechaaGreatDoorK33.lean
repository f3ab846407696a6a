/- Part 34 of the proof. -/
import Derived.Deep.Strs
import Derived.LaidHandle
import Derived.LaidLaws
import Derived.OpenShut
import Derived.ProofKit
import Derived.Test.YtmfkofhgdjechaaGreatDoorRows
import Derived.Test.YtmfkofhgdjechaaGreatDoorK29
import Derived.Test.YtmfkofhgdjechaaGreatDoorK31
import Derived.Test.YtmfkofhgdjechaaGreatDoorK32
set_option maxRecDepth 100000
set_option maxHeartbeats 8000000
namespace Go.Proofs.YtmfkofhgdjechaaGreatDoor
open Go.Proofs.Tryz
section
open Go.RowKit
attribute [local go_sem ↓] Go.wp_at_zero Go.wp_at_succ
theorem q0 (d:Xk)(i:Nat)(b:Bool):(cZ d).toArray.setIfInBounds i (.bool b)=(cZ (d.set i b)).toArray:=by unfold cZ;rw[List.map_set];simp
structure zG (d:Nd) (nl:ax->List Nat) (q:ax):Prop where
 nm:∀s∈q.ns,lc d.ab s
 lt:∀u∈nl q,u<d.ab.length
 len:(nl q).length<=100000
 ne:∀N vv xv qv,oh N vv xv qv d q.ex (nl q)
theorem FM {N c1:Nat}{tm:Xv}{E:List Nd}{o:Xo}(k:Nat)(d:Nd)(sc:E[k]?=some d)(M:ax->List Nat)(rb:aa (∀q∈d.eqs,zG d M q))(w:Xw)(h:Ak w N c1 tm E o) :
 xK 204 #[xP c1,xI k] w (λe w'=>e=.returned (.tuple #[])/\Ak w' N c1 tm E ((nu d M).foldl aj o)/\Fr (λk=>k=c1) w w'):=by
 obtain⟨zT,i7,rfl,v3,rp⟩:=h.ns;obtain⟨g,er,O,es,ca,cm,ck,g7,H,b4,rfl,zR,zu,zv,zx,zy,zA,it⟩:=rp k d sc;have lo:=za h;obtain⟨rd,vz,h3,zr⟩:=zp h.aC;have n2:=(aB.1 sc).1;have rs:=h.lt;obtain⟨L,nd⟩:∃L,E.length=L:=⟨_,rfl⟩;have up:=za nd;rw[nd] at v3 n2 rd lo;have nt:g<w.heap.size:=by omega
 have ak:=za it;obtain⟨V,le⟩:∃V,d.ab.length=V:=⟨_,rfl⟩;have F:=za le;have ry:V<=16:=by obtain⟨_,_,_,h,_⟩:=ak.o.vs;omega
 have pp:O=V:=by obtain⟨_,_,h,_,_⟩:=ak.o.vs;injection h with _ h _;omega
 subst pp;obtain⟨Q,rt⟩:∃Q,d.eqs.length=Q:=⟨_,rfl⟩;have hv:=za rt;have v4:Q<=100000:=by obtain⟨_,_,_,h,_⟩:=ak.o.qs;omega
 have o8:H=Q:=by obtain⟨_,_,h,_,_⟩:=ak.o.qs;injection h with _ h _;omega
 subst o8;have mk:=yg O (by omega);clear h rp nd it le rt;go_enter func204,ntmps204;go_wp2_with fail;clear mk;obtain⟨i9,b2⟩:∃i9,(w.alloc (.cells #[.string d.nm,xI d.a,.slice er O es,.slice ca cm ck,.slice g7 H b4] 103)).alloc (.cells (cZ (List.replicate O false)).toArray 4)=i9:=⟨_,rfl⟩;obtain⟨l,gl⟩:∃l,w.heap.size+1=l:=⟨_,rfl⟩;have J:aa (bq w i9 N c1 w.heap.size (xS g L i7) E (o) (.slice er O es) (.slice ca cm ck) (.slice g7 H b4) d):=by have c3:xB w i9:=b2▸cT _ _ _;exact⟨lo.o.on c3,Fr.dp c3,b2▸(Below.heap_alloc _ _ _ (by rw[au];omega)).trans (zc w _),ak.o.aH (c3.mono (by omega)),an _,zr⟩
 have bx:aa (i9.heap[l]?=some (.cells (cZ (List.replicate O false)).toArray 4 (0,0))):=by unfold aa;rw[<- b2,<- gl];have:=zc (w.alloc (nf d (.slice er O es) (.slice ca cm ck) (.slice g7 H b4))) (.cells (cZ (List.replicate O false)).toArray 4);rw[au] at this;exact this
 have sE:w.heap.size<l:=by omega
 rw[b2,gl];clear b2 ak lo rd vz h3 zu zv zx zy zA nt gl;go_loopg [6] (O+1) (λj i wr=>∃(m:Nat) (h:Xk),m+j=O+1/\m<=O/\i=xI m/\aa (h.length=O/\∀i,i<m->h[i]?=(d.ab.map (·.bn))[i]?)/\aa (bq w wr N c1 w.heap.size (xS g L i7) E (o) (.slice er O es) (.slice ca cm ck) (.slice g7 H b4) d)/\aa (wr.heap[l]?=some (.cells (cZ (h)).toArray 4 (0,0))));case atStart=>exact⟨0,_,by omega,aE _,rfl,⟨List.length_replicate,λi nx=>by omega⟩,J,bx⟩
 case round =>
  obtain⟨m,h,op,x2,rfl,fv,al,a0⟩:=hrel;clear J bx;obtain⟨a9,s1,s2,be,bk,bl,a4⟩:=bz al.o.bx;have p:=ze a0.o;have ge:∀i,wr.frozen? (xD l i)=false:=λi=>by simp[World.frozen?,a0.o]
  by_cases xH:m<O
  . obtain⟨v,C⟩:∃v,d.ab[m]?=some v:=⟨_,av (by have:=F.o;omega)⟩;obtain⟨zJ,zL,po,_,i5⟩:=al.o.nd.vs;injection po with g3 g4 g5
    subst g3 g5;obtain⟨_,v2,rfl,wp,zF,zH,zI,zV,_⟩:=i5 m v C;have sh:v2<wr.heap.size:=(by have:=al.o.size;omega);have h0:=j4 a0.o (ny (h:=h) (i:=m) (by have:=fv.o.1;omega));have i4:(d.ab.map (·.bn))[m]?=some v.bn:=(by rw[List.getElem?_map,C];rfl);have m3:=za i4;clear i5 C g4 zF zH zI i4;go_wp2_with fail;go_roundg (gk-1);(try (case measure=>omega))
    refine⟨m+1,h.set m v.bn,by omega,by omega,by go_num,⟨by rw[List.length_set];exact fv.o.1,λi nx=>?_⟩,al.o.row (T:=(·=l)) (Fr.aY (Fr.refl _ _) m _) (λk e=>by omega),by unfold aa;rw[zh _ _ _ _ a0.o,q0]⟩;by_cases h5:m=i
    . subst h5;rw[List.getElem?_set_self (by have:=fv.o.1;omega),m3.o]
    rw[List.getElem?_set_ne h5];exact fv.o.2 i (by omega)
  have os:m=O:=by omega
  subst os;have a3:h=d.ab.map (·.bn):=by
   apply List.ext_getElem?;intro i;by_cases nx:i<m
   . exact fv.o.2 i nx
   rw[List.getElem?_eq_none (by have:=fv.o.1;omega),List.getElem?_eq_none (by rw[List.length_map];have:=F.o;omega)]
  subst a3;clear fv op x2;go_wp2_with fail;obtain⟨tx,rfl⟩:∃tx,tx=wr:=⟨_,rfl⟩;clear a9 s1 s2 be bk bl a4 p ge;obtain⟨R,rx⟩:∃R,nn d M=R:=⟨_,rfl⟩;have fr:=za rx;go_loopg [7] (m+1) (λj i wr=>∃D:Nat,D+j=m+1/\D<=m/\i=xI D/\aa (bq w wr N c1 w.heap.size (xS g L i7) E (o) (.slice er m es) (.slice ca cm ck) (.slice g7 H b4) d)/\aa (wr.heap[l]?=some (.cells (cZ (eS R (d.ab.map (·.bn)) D)).toArray 4 (0,0))));case atStart=>exact⟨0,by omega,aE _,rfl,al,a0⟩
  case round =>
   obtain⟨D,or,h9,rfl,bs,a2⟩:=hrel;clear al a0;obtain⟨a9,s1,s2,be,bk,bl,a4⟩:=bz bs.o.bx;by_cases ok:D<m
   . obtain⟨h0,a3⟩:∃h0,eS R (d.ab.map (·.bn)) D=h0:=⟨_,rfl⟩;have m0:aa (eS R (d.ab.map (·.bn)) (D+1)=fD (d.eqs.flatMap (ld d M)) h0):=(by unfold aa;rw[eS,a3,<- fr.o];rfl);have n3:h0.length=m:=(by rw[<- a3,oL,List.length_map];exact F.o);rw[a3] at a2;clear a3;go_wp2_with fail;obtain⟨kd,rfl⟩:∃kd,kd=wr:=⟨_,rfl⟩;obtain⟨fx,rfl⟩:∃fx,fx=gk:=⟨_,rfl⟩;clear a9 s1 s2 be bk bl a4;go_loopg [8] (H+1) (λj i wr=>∃a5:Nat,a5+j=H+1/\a5<=H/\i=xI a5/\aa (bq w wr N c1 w.heap.size (xS g L i7) E (o) (.slice er m es) (.slice ca cm ck) (.slice g7 H b4) d)/\aa (wr.heap[l]?=some (.cells (cZ (fD ((d.eqs.take a5).flatMap (ld d M)) h0)).toArray 4 (0,0))));case atStart=>exact⟨0,by omega,aE _,rfl,bs,a2⟩
     case round =>
      obtain⟨a5,x3,st,rfl,x,ar⟩:=hrel;clear bs a2;obtain⟨a9,s1,s2,be,bk,bl,a4⟩:=bz x.o.bx;by_cases xE:a5<H
      . obtain⟨q,lk⟩:∃q,d.eqs[a5]?=some q:=⟨_,av (by have:=hv.o;omega)⟩;have cn:=za (rb.o q (aM lk));obtain⟨h1,b0⟩:∃h1,fD ((d.eqs.take a5).flatMap (ld d M)) h0=h1:=⟨_,rfl⟩;have md:aa (fD ((d.eqs.take (a5+1)).flatMap (ld d M)) h0=fD (ld d M q) h1):=(by unfold aa fD;unfold fD at b0;rw[List.take_add_one,lk,List.flatMap_append,bc,b0];simp);have of:h1.length=m:=(by rw[<- b0,ky];exact n3);rw[b0] at ar;obtain⟨zB,zC,o7,_,i2⟩:=x.o.nd.qs;injection o7 with g3 g4 g5
        subst g3 g5;clear g4 b0;obtain⟨lb,u1,u2,tn,tr,rfl,wn,rg,ro,vG,v0,eb,_⟩:=i2 a5 q lk;have h4:lb<wr.heap.size:=(by have:=x.o.size;omega);obtain⟨b3,g1⟩:∃b3,q.ns.length=b3:=⟨_,rfl⟩;obtain⟨pl,i1⟩:∃pl,q.ps.length=pl:=⟨_,rfl⟩;rw[g1] at rg eb;rw[i1] at ro;have ev:=za g1;have ta:b3<=100000:=(by obtain⟨_,_,h1,t,_⟩:=eb;omega);obtain⟨P,ds⟩:∃P,M q=P:=⟨_,rfl⟩;have hg:=za ds;have cs:=za (λW (c3:xB wr W)=>cn.o.ne N (.slice er m es) (.slice ca cm ck) (xS lb H b4) W (x.o.on c3).nd (x.o.on c3).size);rw[ds] at cs;have h6:P.length<=100000:=(by have:=cn.o.len;rw[ds] at this;exact this);obtain⟨g6,g0⟩:∃g6,P.length=g6:=⟨_,rfl⟩;have hm:=za g0;rw[g0] at cs h6;clear i2 lk g1 i1 ds g0;go_upto_region 13 with fail;obtain⟨g9,eq⟩:∃g9,wr.alloc (.cells #[.slice u1 b3 u2,.slice tn pl tr,xI q.a,xI (q.ex:Nat)] 275)=g9:=⟨_,rfl⟩;have Y:aa (xB wr g9):=eq▸(Below.refl _ wr).alloc (an _) _;have bt:aa (g9.heap[wr.heap.size]?=some (.cells #[.slice u1 b3 u2,.slice tn pl tr,xI q.a,xI (q.ex:Nat)] 275 (0,0))):=eq▸zc wr _;have ns:l<wr.heap.size:=ze ar.o;have ip:w.heap.size<wr.heap.size:=a4;have ne:=x.o.size;have c9:wr.heap.size<g9.heap.size:=ze bt.o;rw[eq];obtain⟨g8,h2⟩:∃g8,wr.heap.size=g8:=⟨_,rfl⟩;rw[h2] at bt ns ip ne c9 ⊢;clear eq a9 s1 s2 be bk bl a4 rg ro vG v0 h4;obtain⟨a9,s1,s2,be,bk,bl,a4⟩:=bz (x.o.on Y.o).bx;obtain⟨m4,m5,m6,m7,m8,m9⟩:=zU bt.o;go_wp2_with (go_at_call 252;refine (cs.o _ Y.o).mono ?_;rintro e' pt ⟨zP,rfl,em,hQ⟩;obtain⟨zN,zO,rfl⟩:=kE em;have qs:=za em;have U:=za hQ;clear em hQ);have J:=za ((x.o.on Y.o).on U.o);have l5:=za ((U.o.block g8 c9).trans bt.o);have bx:=za ((U.o.block l (by omega)).trans ((Y.o.block l (by omega)).trans ar.o));have m1:=za ((eb.aH (Y.o.mono (by omega))).aH (U.o.mono (by omega)));have pr:g8<pt.heap.size:=dD c9 U.o.size;obtain⟨te,h7⟩:∃te,g9.heap.size=te:=⟨_,rfl⟩;rw[h7] at qs c9;obtain⟨un,rfl⟩:∃un,un=wr:=⟨_,rfl⟩;obtain⟨gc,rfl⟩:∃gc,gc=gk:=⟨_,rfl⟩;clear x ar Y U bt eb a9 s1 s2 be bk bl a4 m4 m5 m6 m7 m8 m9 cs h2 h7;go_loopg [11] (b3+1) (λj i wr=>∃G:Nat,G+j=b3+1/\G<=b3/\i=xI G/\aa (Fr (·=l) pt wr)/\aa (wr.heap[l]?=some (.cells (cZ (fD ((q.ns.take G).map (kx d M q)) h1)).toArray 4 (0,0))));case atStart=>exact⟨0,by omega,aE _,rfl,Fr.refl _ _,bx⟩
        case round =>
         obtain⟨G,w0,sn,rfl,Z,bE⟩:=hrel;clear bx;have cv:=za (J.o.row Z.o (λk e=>by omega));have l6:=za ((Z.o.block g8 pr (by omega)).trans l5.o);have hT:∀k,k=l->N<=k:=λk e=>by have:=J.o.ak.lt;have:=J.o.al;omega
         have m2:=za (m1.o.aH (Z.o.below J.o.size hT));have l3:=za (zi (w':=wr) qs.o (λk h1 t _=>Z.o.block k t (by omega)));have zq:=Z.o.size;obtain⟨a9,s1,s2,be,bk,bl,a4⟩:=bz cv.o.bx;obtain⟨m4,m5,m6,m7,m8,m9⟩:=zU l6.o;by_cases xC:G<b3
         . obtain⟨s,ln⟩:∃s,q.ns[G]?=some s:=⟨_,av (by have:=ev.o;omega)⟩;obtain⟨f,v,h3,C⟩:=cn.o.nm s (aM ln);obtain⟨t,b1⟩:∃t,fD ((q.ns.take G).map (kx d M q)) h1=t:=⟨_,rfl⟩;have mp:aa (fD ((q.ns.take (G+1)).map (kx d M q)) h1=hU t (f,P++(e5 d.ab f).toList)):=by
            unfold aa fD;unfold fD at b1;rw[n8 ln,List.map_append,bc,b1]
            show hU t (kx d M q s)=_;unfold kx fV;rw[h3,hg.o];rfl
           have xs:t.length=m:=(by rw[<- b1,ky];exact of);rw[b1] at bE;have v9:f<m:=(by have:=(aB.1 C).1;have:=F.o;omega);obtain⟨zD,zE,pe,_,i3⟩:=m2.o;injection pe with g3 g4 g5
           subst g3 g5;obtain⟨_,na,rfl,wf,z0⟩:=i3 G s ln;have sg:na<wr.heap.size:=(by omega);have kw:=za (cv.o.drew.find s);rw[h3] at kw;unfold bC at kw;clear i3 g4 b1;go_upto_region 17 with fail
           go_region_held3 (λw'=>w'.cell? (xD w.heap.size 0)=some (.string d.nm)/\w'.cell? (xD w.heap.size 1)=some (xI d.a)/\w'.cell? (xD w.heap.size 2)=some (.slice er m es)/\w'.cell? (xD w.heap.size 3)=some (.slice ca cm ck)/\w'.cell? (xD w.heap.size 4)=some (xS lb H b4)/\w'.cell? (xD g8 0)=some (xS na b3 u2)/\w'.cell? (xD na G)=some (.string s))
            (first|(with_reducible (refine⟨?_,?_,?_,?_,?_,?_,?_⟩ <;> repeat (first|assumption|refine zg ?_|refine zj _ ?_|refine zk (by omega) ?_|refine zd X.o ?_ (by first|omega|(rw[au];omega)))))|go_keep)
            (first
              | (go_at_call 169;refine kw.o.mono ?_;rintro e' ts ⟨rfl,nb⟩;have X:=za (zw nb)))
           have fq:=za (cv.o.on X.o);have K:=za ((X.o.block l (ze bE.o)).trans bE.o);have l2:=za (zi (w':=ts) l3.o (λk _ t _=>X.o.block k t));have zo:=X.o.size;clear a9 s1 s2 be bk bl a4 m4 m5 m6 m7 m8 m9 z0 kw;obtain⟨a9,s1,s2,be,bk,bl,a4⟩:=bz fq.o.bx;have p:=ze K.o;have l1:aa (∀u∈P,u<m):=(by unfold aa;intro u hu;have:=cn.o.lt u (by rw[hg.o];exact hu);have:=F.o;omega);go_wp2_with fail;obtain⟨tt,rfl⟩:∃tt,tt=wr:=⟨_,rfl⟩;obtain⟨c2,rfl⟩:∃c2,c2=gk:=⟨_,rfl⟩;go_loopg [13,14] (g6+1) (λj b i zM=>∃r:Nat,r+j=g6+1/\r<=g6/\b=.bool ((P.take r).all (bv t))/\i=xI r/\zM=ts);case atStart=>exact⟨0,by omega,aE _,rfl,rfl,rfl⟩
           case round =>
            obtain⟨r,zm,zS,rfl,rfl,rfl⟩:=hrel;by_cases ok:r<g6
            . obtain⟨u,hu⟩:∃u,P[r]?=some u:=⟨_,av (by have:=hm.o;omega)⟩;obtain⟨vs,vv,nm,i0⟩:=ga l2.o;injection nm with g3 g4 g5
              subst g3 g5;obtain⟨zQ,rfl,wd,zX⟩:=i0 r (xI (u:Nat)) (by unfold bK;rw[List.getElem?_map,hu];rfl);have zn:u<m:=l1.o u (aM hu);have z2:=j4 K.o (ny (h:=t) (i:=u) (by omega));obtain⟨cur,a⟩:∃cur,(P.take r).all (bv t)=cur:=⟨_,rfl⟩;have lv:aa ((P.take (r+1)).all (bv t)=(cur&&bv t u)):=(by unfold aa;rw[n8 hu,List.all_append,a];simp);rw[a];clear i0 hu a g4;cases cur
              all_goals
               go_wp2_with fail;go_roundg (gk-1);(try (case measure=>omega))
               exact⟨r+1,by omega,by omega,by rw[lv.o];rfl,by go_num,rfl⟩
            have pb:r=g6:=(by omega);subst pb;rw[de (by have:=hm.o;omega)];have y:=za (ng (xv:=.slice ca cm ck) (qv:=(xS lb H b4)) d.nm d.a f v C _ fq.o.nd.vs fq.o.size ⟨_,_,_,rfl⟩ ⟨_,_,_,rfl⟩);unfold k0 at y;rw[w6 C] at y;obtain⟨tk,iR⟩:∃tk,(eN d.ab v).2=tk:=⟨_,rfl⟩;rw[iR] at y;obtain⟨cur,a⟩:∃cur,P.all (bv t)=cur:=⟨_,rfl⟩;have z3:=j4 K.o (ny (h:=t) (i:=f) (by omega));obtain⟨B,gt⟩:∃B,bv t f=B:=⟨_,rfl⟩;rw[gt] at z3;rw[a];have hw:∀(W:Xw) (b:Bool),xB wr W->(B||(P++(e5 d.ab f).toList).all (bv t))=b->aa (Fr (·=l) pt (W.setCell (xD l f) (.bool b)))/\aa ((W.setCell (xD l f) (.bool b)).heap[l]?=some (.cells (cZ (fD ((q.ns.take (G+1)).map (kx d M q)) h1)).toArray 4 (0,0))):=(by intro W b c3 no;have le:W.heap[l]?=some (.cells (cZ t).toArray 4 (0,0)):=(c3.block l p).trans K.o;refine⟨Fr.aY ((Z.o.gA X.o).gA c3) f _,?_⟩;unfold aa;rw[zh _ _ _ _ le,q0,mp.o];unfold hU;simp only;rw[gt,no]);have S:=za hw;clear C h3 ln iR gt hw;cases em:e5 d.ab f with
            | none =>
              rw[em] at y S;unfold bC at y;have bp:aa ((B||(P++(none:Xo).toList).all (bv t))=(B||cur)):=(by unfold aa;rw[Option.toList_none,List.append_nil,a]);clear a em;cases cur <;> cases B
              all_goals
               go_wp2_with (go_at_call 168;refine y.o.mono ?_;rintro e' i8 ⟨rfl,n⟩;have I:=za n;have z4:=zd n z3 p;have bL:=(n.block l p).trans K.o;have ge:∀i,i8.frozen? (xD l i)=false:=(λi=>(by simp[World.frozen?,bL]));have i6:=dD p n.size;clear n bL);go_roundg (c2-1);(try (case measure=>omega))
               obtain⟨ex,fd⟩:=S.o i8 _ I.o bp.o
               first
                | exact⟨G+1,by omega,by omega,by go_num,ex.o.gA ((Below.refl _ _).alloc (an _) _),(Below.heap_alloc _ _ _ (by simp;omega)).trans fd.o⟩
                | (obtain⟨ex,fd⟩:=S.o _ _ (I.o.alloc I.o.size _) bp.o;exact⟨G+1,by omega,by omega,by go_num,ex,fd⟩)
            | some c =>
              have v5:c<m:=(by have:=o2 em;have:=F.o;omega);rw[em] at y S;unfold bC at y;have z5:=j4 K.o (ny (h:=t) (i:=c) (by omega));obtain⟨c4,go⟩:∃c4,bv t c=c4:=⟨_,rfl⟩;have bp:aa ((B||(P++(some c).toList).all (bv t))=(B||(cur&&c4))):=(by unfold aa;rw[List.all_append,a,Option.toList_some,List.all_cons,List.all_nil,go,Bool.and_true]);rw[go] at z5;have rL:¬((c:Int)<0):=(by omega);clear a em go;cases cur <;> cases B <;> cases c4
              all_goals
               go_wp2_with (go_at_call 168;refine y.o.mono ?_;rintro e' i8 ⟨rfl,n⟩;have I:=za n;have z4:=zd n z3 p;have zZ:=zd n z5 p;have bL:=(n.block l p).trans K.o;have ge:∀i,i8.frozen? (xD l i)=false:=(λi=>(by simp[World.frozen?,bL]));have i6:=dD p n.size;clear n bL);go_roundg (c2-1);(try (case measure=>omega))
               obtain⟨ex,fd⟩:=S.o i8 _ I.o bp.o
               first
                | exact⟨G+1,by omega,by omega,by go_num,ex.o.gA ((Below.refl _ _).alloc (an _) _),(Below.heap_alloc _ _ _ (by simp;omega)).trans fd.o⟩
                | (obtain⟨ex,fd⟩:=S.o _ _ (I.o.alloc I.o.size _) bp.o;exact⟨G+1,by omega,by omega,by go_num,ex,fd⟩)
         have n1:G=b3:=(by omega);subst n1;rw[de (by have:=ev.o;omega)] at bE;go_wp2_with fail;go_roundg (gc-1);case measure=>omega
         exact⟨a5+1,by omega,by omega,by go_num,cv,by unfold aa;rw[md.o];exact bE⟩
      have h8:a5=H:=(by omega);subst h8;rw[de (by have:=hv.o;omega),<- m0.o] at ar;go_wp2_with fail;go_roundg (fx-1);case measure=>omega
      exact⟨D+1,by omega,by omega,by go_num,x,ar⟩
   have io:D=m:=(by omega);subst io;obtain⟨C,dn⟩:∃C,eS R (d.ab.map (·.bn)) D=C:=⟨_,rfl⟩;have lt:aa (nu d M=(List.range D).flatMap λi=>if bv C i=true then [] else [d.a]):=(by unfold aa nu o0;rw[F.o,fr.o,dn]);have x0:C.length=D:=(by rw[<- dn,oL,List.length_map];exact F.o);rw[dn] at a2;clear dn or h9 fr rx rb;go_wp2_with fail;obtain⟨kd,rfl⟩:∃kd,kd=wr:=⟨_,rfl⟩;clear a9 s1 s2 be bk bl a4;go_loopg [16] (D+1) (λj i wr=>∃z:Nat,z+j=D+1/\z<=D/\i=xI z/\aa (bq w wr N c1 w.heap.size (xS g L i7) E (((List.range z).flatMap λi=>if bv C i=true then [] else [d.a]).foldl aj o) (.slice er D es) (.slice ca cm ck) (.slice g7 H b4) d)/\aa (wr.heap[l]?=some (.cells (cZ (C)).toArray 4 (0,0))));case atStart=>exact⟨0,by omega,aE _,rfl,bs,a2⟩
   case round =>
    obtain⟨z,zt,zs,rfl,A,c0⟩:=hrel;clear bs a2;obtain⟨a9,s1,s2,be,bk,bl,a4⟩:=bz A.o.bx;have p:=ze c0.o;by_cases x1:z<D
    . have z0:=j4 c0.o (ny (h:=C) (i:=z) (by omega));obtain⟨t0,g2⟩:∃t0,((List.range z).flatMap λi=>if bv C i=true then [] else [d.a]).foldl aj o=t0:=⟨_,rfl⟩;obtain⟨c5,gs⟩:∃c5,bv C z=c5:=⟨_,rfl⟩;have qr:aa (((List.range (z+1)).flatMap λi=>if bv C i=true then [] else [d.a]).foldl aj o=(if c5=true then [] else [d.a]).foldl aj t0):=(by unfold aa;rw[List.range_succ,List.flatMap_append,bc,g2,<- gs];simp);rw[g2] at A;rw[gs] at z0;clear g2 gs;cases c5
      all_goals
       go_wp2_with (go_at_call 246;refine (du d.a _ A.o.ak).mono ?_;rintro e zW ⟨rfl,hN,hR⟩;have ls:=za hN;have he:=za hR;clear hN hR);go_roundg (gk-1);(try (case measure=>omega))
       first
        | exact⟨z+1,by omega,by omega,by go_num,by rw[qr.o];exact A,c0⟩
        | exact⟨z+1,by omega,by omega,by go_num,by rw[qr.o];exact A.o.aX ls.o he.o,(he.o.block l p (by have:=A.o.al;omega)).trans c0.o⟩
    have ps:z=D:=(by omega);subst ps;rw[<- lt.o] at A;go_wp2_with fail;go_end0;exact⟨rfl,by rw[up.o];exact A.o.ak,A.o.fr⟩
end
section
open Go.RowKit
attribute [local go_sem ↓] Go.wp_at_zero Go.wp_at_succ
theorem rc {N T:Nat}{na:Xv}{B:List Nd}{o:Xo}(k:Nat)(d:Nd)(m2:B[k]?=some d)(go:aa (∀q∈d.eqs,q.ns.length=q.ps.length))(b4:aa ((da d.eqs).length<=100000))(w:Xw)(h:Ak w N T na B o) :
 xK 203 #[xP T,xI k] w (λe w'=>e=.returned (.tuple #[])/\Ak w' N T na B ((jP d).foldl aj o)/\Fr (λk=>k=T) w w'):=by
 obtain⟨sE,es,rfl,n3,l6⟩:=h.ns;obtain⟨g,ev,P,dn,eb,eq,em,hu,a2,c9,rfl,sn,pt,qr,qs,qv,rb,g6⟩:=l6 k d m2;have hN:=za h;obtain⟨l5,ne,os,ps⟩:=zp h.aC;have i0:=(aB.1 m2).1;have mk:=h.lt;obtain⟨L,h8⟩:∃L,B.length=L:=⟨_,rfl⟩;have nd:=za h8;rw[h8] at n3 i0 l5 hN;have it:g<w.heap.size:=by omega
 have fr:=za g6;clear h l6 h8 g6;go_enter func203,ntmps203;go_wp2_with fail;obtain⟨hw,bs⟩:∃hw,w.alloc (.cells #[.string d.nm,xI d.a,.slice ev P dn,.slice eb eq em,.slice hu a2 c9] 103)=hw:=⟨_,rfl⟩;have a4:aa (bq w hw N T w.heap.size (xS g L es) B (o) (.slice ev P dn) (.slice eb eq em) (.slice hu a2 c9) d):=by have E:xB w hw:=bs▸(Below.refl _ w).alloc (an _) _;exact⟨hN.o.on E,Fr.dp E,bs▸zc w _,fr.o.aH (E.mono (by omega)),an _,ps⟩
 rw[bs];clear bs fr hN l5 ne os pt qr qs qv rb it;obtain⟨Q,mp⟩:∃Q,d.eqs.length=Q:=⟨_,rfl⟩;have gc:=za mp;have or:Q<=100000:=by obtain⟨_,_,_,h,_⟩:=a4.o.nd.qs;omega
 have i7:a2=Q:=by obtain⟨_,_,h,_,_⟩:=a4.o.nd.qs;injection h with _ h _;omega
 subst i7;clear mp;go_loopg [5,6] (a2+1) (λj lt i wr=>∃(C n:Nat) (I:Xp) (J:Nat),C+j=a2+1/\C<=a2/\lt=.slice I n J/\i=xI C/\aa ((da (d.eqs.take C)).length=n)/\aa (bq w wr N T w.heap.size (xS g L es) B ((fP [] (d.eqs.take C)).foldl aj o) (.slice ev P dn) (.slice eb eq em) (.slice hu a2 c9) d)/\aa (wr.ownsRow (w.heap.size+1) 9 1 (.slice I n J) n ((da (d.eqs.take C)).map .string)));case atStart=>exact⟨0,0,none,0,by omega,aE _,rfl,rfl,rfl,a4,World.ownsRow_nil _ _ _ _⟩
 case round =>
  obtain⟨C,n,I,J,i2,g4,rfl,rfl,a5,l,G⟩:=hrel;clear a4;obtain⟨bt,s1,s2,bx,bE,bL,b0⟩:=bz l.o.bx;by_cases pl:C<a2
  . skip;obtain⟨q,he⟩:∃q,d.eqs[C]?=some q:=⟨_,av (by have:=gc.o;omega)⟩;have b2:=za (go.o q (aM he));have bp:=l.o.nd.qs;obtain⟨rs,rt,i6,_,bp⟩:=bp;injection i6 with al ar a0
    subst al a0;clear ar;obtain⟨gt,u1,u2,rd,rg,io,g2,er,ca,nm,no,cn,bl⟩:=bp C q he;subst io;have bk:=EO he;obtain⟨S0,be⟩:∃S0,da (d.eqs.take C)=S0:=⟨_,rfl⟩;obtain⟨t0,F⟩:∃t0,(fP [] (d.eqs.take C)).foldl aj o=t0:=⟨_,rfl⟩;have h5:aa ((fP [] (d.eqs.take (C+1))).foldl aj o=(fz S0 q.ns q.ps).foldl aj t0):=(by unfold aa;rw[vR he,bc,F,List.nil_append,be]);have cm:=Fi d.eqs (C+1);rw[bk,be,aP] at cm;rw[be] at bk a5 G;rw[F] at l;have ge:=za bk;obtain⟨a3,c0⟩:∃a3,q.ns.length=a3:=⟨_,rfl⟩;rw[<- b2.o] at ca bl;rw[c0] at er cn ca bl cm;have i4:n+a3<=100000:=(by have:=b4.o;have:=a5.o;omega);have u:=za c0;have ok:=l.o.size;have hR:=za (λW (E:Below N wr W)=>cn.aH E);have h1:=za (λW (E:Below N wr W)=>bl.aH E);have fV:=za (λW (E:Below N wr W)=>(⟨cA E g2 er,cA E g2 ca⟩:xC W gt (C*4) (.slice u1 a3 u2)/\xC W gt (C*4+1) (.slice rd a3 rg)));clear bp he F c0 be bk cm cn bl er ca nm no;go_wp2_with fail;clear bt s1 s2 bx bE bL b0;obtain⟨l1,rfl⟩:∃l1,l1=wr:=⟨_,rfl⟩;obtain⟨H,rfl⟩:∃H,H=gk:=⟨_,rfl⟩;go_loopg [5,7] (a3+1) (λj lt i wr=>∃(c:Nat) (I:Xp) (J:Nat),c+j=a3+1/\c<=a3/\lt=.slice I (n+c) J/\i=xI c/\aa (Below N l1 wr)/\aa (bq w wr N T w.heap.size (xS g L es) B ((fz S0 (q.ns.take c) (q.ps.take c)).foldl aj t0) (.slice ev P dn) (.slice eb eq em) (xS gt a2 c9) d)/\aa (wr.ownsRow (w.heap.size+1) 9 1 (.slice I (n+c) J) (n+c) ((S0++q.ns.take c).map .string)));case atStart=>exact⟨0,I,J,by omega,aE _,rfl,rfl,Below.refl _ _,l,by unfold aa;rw[List.take_zero,List.append_nil];exact G⟩
    case round =>
     obtain⟨c,I,J,pb,m8,rfl,rfl,R,K,O⟩:=hrel;clear l G;obtain⟨bt,s1,s2,bx,bE,bL,b0⟩:=bz K.o.bx;obtain⟨er,ca⟩:=fV.o _ R.o;by_cases pe:c<a3
     . obtain⟨s,kw⟩:∃s,q.ns[c]?=some s:=⟨_,av (by have:=u.o;omega)⟩;obtain⟨p,m9⟩:∃p,q.ps[c]?=some p:=⟨_,av (by have:=u.o;have:=b2.o;omega)⟩;obtain⟨t1,c2⟩:∃t1,(fz S0 (q.ns.take c) (q.ps.take c)).foldl aj t0=t1:=⟨_,rfl⟩;have gl:aa ((fz S0 (q.ns.take (c+1)) (q.ps.take (c+1))).foldl aj t0=(jG (S0++q.ns.take c) s p).foldl aj t1):=(by unfold aa;rw[vT kw m9,bc,c2]);rw[c2] at K;have h6:aa (q.ns.take (c+1)=q.ns.take c++[s]):=n8 kw;obtain⟨S,a9⟩:∃S,S0++q.ns.take c=S:=⟨_,rfl⟩;have b3:aa (S.length=n+c):=(by unfold aa;rw[<- a9,aP,a5.o,List.length_take,u.o];omega);have h4:aa (S0++q.ns.take (c+1)=S++[s]):=(by unfold aa;rw[h6.o,<- bw,a9]);rw[a9] at gl O;obtain⟨M,h9⟩:∃M,n+c=M:=⟨_,rfl⟩;have fq:=za h9;rw[h9] at b3 O ⊢;have of:M<=100000:=(by omega);have h3:=za (λW (E:Below N wr W)=>fV.o W (R.o.trans E));have hQ:=za (λW (E:Below N wr W)=>hR.o W (R.o.trans E));have h0:=za (λW (E:Below N wr W)=>h1.o W (R.o.trans E));clear c2 a9 h9;go_wp2_with fail;obtain⟨ds,rfl⟩:∃ds,ds=wr:=⟨_,rfl⟩;obtain⟨ck,rfl⟩:∃ck,ck=gk:=⟨_,rfl⟩;clear bt s1 s2 bx bE bL b0 er ca;go_loopg [8] (M+1) (λj i wr=>∃r:Nat,r+j=M+1/\r<=M/\i=xI r/\aa (Below N ds wr)/\aa (bq w wr N T w.heap.size (xS g L es) B ((jG (S.take r) s p).foldl aj t1) (.slice ev P dn) (.slice eb eq em) (xS gt a2 c9) d)/\aa (wr.ownsRow (w.heap.size+1) 9 1 (.slice I M J) M ((S).map .string)));case atStart=>exact⟨0,by omega,aE _,rfl,Below.refl _ _,K,O⟩
       case round =>
        obtain⟨r,i9,pr,rfl,y,a,t⟩:=hrel;clear K O;obtain⟨bt,s1,s2,bx,bE,bL,b0⟩:=bz a.o.bx;obtain⟨er,ca⟩:=h3.o _ y.o;obtain⟨rx,ry,lb,_,hg⟩:=hQ.o _ y.o;injection lb with al ar a0
        subst al a0;clear ar;obtain⟨_,nt,rfl,o7,z0⟩:=hg c s kw;have m3:nt<wr.heap.size:=(by have:=a.o.size;omega);have m5:gt<wr.heap.size:=(by have:=a.o.size;omega);clear hg;by_cases i1:r<M
        . obtain⟨x,c4⟩:∃x,S[r]?=some x:=⟨_,av (by have:=b3.o;omega)⟩;obtain⟨lo,ls,c1,ak⟩:=ga t.o;injection c1 with al ar a0
          subst al a0;clear ar;obtain⟨nx,rfl,ip,sh⟩:=ak r (.string x) (by rw[List.getElem?_map,c4];rfl);obtain⟨ro,rp,i5,_,g9⟩:=h0.o _ y.o;injection i5 with al ar a0
          subst al a0;clear ar;obtain⟨n1,rfl,o8,z2⟩:=g9 c p m9;have m4:n1<wr.heap.size:=(by have:=a.o.size;omega);have D:aa ((jG (S.take (r+1)) s p).foldl aj t1=(if x=s then [p] else []).foldl aj ((jG (S.take r) s p).foldl aj t1)):=(by unfold aa jG;rw[np c4,bc]);have g8:=λW (hF:Fr (λk=>k=T) wr W)=>zi (w':=W) t.o (λj n2 h2 _=>hF.block j h2 (by omega));have fx:=za g8;clear ak g9 c4 g8;by_cases f:x=s
          . rw[ag f] at D;have cv:=mC f;clear f;go_upto_region 11 with fail;go_quiet (fail);go_wp2_with (go_at_call 246;refine (du p _ (a.o.on (cd (Below.refl _ _))).ak).mono ?_;rintro e sg ⟨rfl,X,Y⟩;have b1:=za X;have z:=za Y;clear X Y);go_roundg (gk-1);(try (case measure=>omega))
            exact⟨r+1,by omega,by omega,by go_num,(y.o.trans (cd (Below.refl _ _))).trans (z.o.below a.o.size (λj e=>by omega)),by rw[D.o];exact (a.o.on (cd (Below.refl _ _))).aX b1.o z.o,fx.o _ ⟨z.o.os,z.o.tape,z.o.output,z.o.size,z.o.block⟩⟩
          rw[ae f] at D;have cv:=mB f;clear f;go_upto_region 11 with fail;go_quiet (fail);go_wp2_with fail;go_roundg (gk-1);(try (case measure=>omega))
          exact⟨r+1,by omega,by omega,by go_num,y.o.trans (cd (Below.refl _ _)),by rw[D.o];exact a.o.on (cd (Below.refl _ _)),zi t.o (λj _ h2 _=>rfl)⟩
        have i8:r=M:=(by omega);subst i8;rw[de (by have:=b3.o;omega),<- gl.o] at a;go_wp2_with (at_builtin;refine BS _ rfl (.tmp 68) (.tmp 78) rfl (w.heap.size+1) (.slice I r J) r _ s rfl t.o rfl (by omega) (by omega) ?_;intro ns gs ta md f9 _;have fd:=za f9;have hT:=za md;clear md f9);go_roundg (ck-1);(try (case measure=>omega))
        have g7:∀j,(Value.slice I r J).ownBlock=some j->w.heap.size<j:=λj e=>by have:=(t.o.lt j e).1;omega
        have g1:xB wr (wr.alloc (.cells #[.string s] 9)):=(Below.refl _ _).alloc (an _) _;refine⟨c+1,some (xD ns 0),gs,by omega,by omega,by rw[<- fq.o];rfl,by go_num,?_,(a.o.on g1).row fd.o g7,?_⟩
        . exact ((R.o.trans y.o).trans (g1.mono a.o.size)).trans (fd.o.below (by rw[au];have:=a.o.size;omega) (λj e=>by have:=g7 j e;omega))
        unfold aa;rw[h4.o,List.map_append,<- Nat.add_assoc,fq.o];exact hT.o
     have iR:c=a3:=(by omega);subst iR;rw[de (by have:=u.o;omega),de (by have:=u.o;have:=b2.o;omega)] at K;rw[de (by have:=u.o;omega),<- ge.o] at O;go_wp2_with fail;go_roundg (H-1);case measure=>omega
     exact⟨C+1,n+c,I,J,by omega,by omega,rfl,by go_num,by unfold aa;rw[ge.o,aP,a5.o,u.o],by rw[h5.o];exact K,O⟩
  have g5:C=a2:=by omega
  subst g5;rw[de (by have:=gc.o;omega)] at l a5 G;obtain⟨S,a9⟩:∃S,da d.eqs=S:=⟨_,rfl⟩;obtain⟨c5,cs⟩:∃c5,(fP [] d.eqs).foldl aj o=c5:=⟨_,rfl⟩;have fv:aa ((jP d).foldl aj o=(gX S d.ab).foldl aj c5):=by unfold aa jP;rw[bc,cs,a9]
  rw[a9] at a5 G;rw[cs] at l;have i4:n<=100000:=by have:=b4.o;have:=a5.o;rw[a9] at *;omega
  clear a9 cs i2 g4 go b4;go_wp2_with fail;obtain⟨V,m0⟩:∃V,d.ab.length=V:=⟨_,rfl⟩;have l3:=za m0;have m1:V<=16:=by obtain⟨_,_,_,h,_⟩:=l.o.nd.vs;omega
  have ln:P=V:=by obtain⟨_,_,h,_,_⟩:=l.o.nd.vs;injection h with _ h _;omega
  subst ln;clear m0 bt s1 s2 bx bE bL b0;obtain⟨nb,rfl⟩:∃nb,nb=wr:=⟨_,rfl⟩;go_loopg [9] (P+1) (λj i wr=>∃m:Nat,m+j=P+1/\m<=P/\i=xI m/\aa (bq w wr N T w.heap.size (xS g L es) B ((gX S (d.ab.take m)).foldl aj c5) (.slice ev P dn) (.slice eb eq em) (.slice hu C c9) d)/\aa (wr.ownsRow (w.heap.size+1) 9 1 (.slice I n J) n ((S).map .string)));case atStart=>exact⟨0,by omega,aE _,rfl,l,G⟩
  case round =>
   obtain⟨m,pp,st,rfl,A,HOr⟩:=hrel;clear l G;obtain⟨bt,s1,s2,bx,bE,bL,b0⟩:=bz A.o.bx;by_cases po:m<P
   . skip;obtain⟨v,le⟩:∃v,d.ab[m]?=some v:=⟨_,av (by have:=l3.o;omega)⟩;obtain⟨rL,sc,lk,_,hm⟩:=A.o.nd.vs;injection lk with al ar a0
     subst al a0;obtain⟨_,g0,rfl,g3,v0,lv,v2,v3,_⟩:=hm m v le;have m7:g0<wr.heap.size:=(by have:=A.o.size;omega);obtain⟨t0,F⟩:∃t0,(gX S (d.ab.take m)).foldl aj c5=t0:=⟨_,rfl⟩;have l2:aa ((gX S (d.ab.take (m+1))).foldl aj c5=(if nv S v=true then [] else [v.a]).foldl aj t0):=(by unfold aa gX;rw[np le,bc];unfold gX at F;rw[F]);rw[F] at A;have h7:=za (λW (E:Below N wr W)=>(⟨cA E g3 v0,cA E g3 lv⟩:xC W g0 (m*10) (.string v.nm)/\xC W g0 (m*10+1) (xI v.a)));clear hm le F ar v0 lv v2;go_wp2_with fail;obtain⟨ds,rfl⟩:∃ds,ds=wr:=⟨_,rfl⟩;obtain⟨H,rfl⟩:∃H,H=gk:=⟨_,rfl⟩;have op:=A.o.size;clear bt s1 s2 bx bE bL b0 v3;go_loopg [10,11] (n+1) (λj b i wr=>∃r:Nat,r+j=n+1/\r<=n/\b=.bool (v.bn||(S.take r).any (λx=>decide (x=v.nm)))/\i=xI r/\aa (Below N ds wr)/\aa (bq w wr N T w.heap.size (xS g L es) B (t0) (xS g0 P dn) (.slice eb eq em) (.slice hu C c9) d)/\aa (wr.ownsRow (w.heap.size+1) 9 1 (.slice I n J) n ((S).map .string)));case atStart=>exact⟨0,by omega,aE _,by simp,rfl,Below.refl _ _,A,HOr⟩
     case round =>
      obtain⟨r,i9,pr,rfl,rfl,y,a,t⟩:=hrel;clear A HOr;obtain⟨bt,s1,s2,bx,bE,bL,b0⟩:=bz a.o.bx;obtain⟨v0,lv⟩:=h7.o _ y.o;have m6:g0<wr.heap.size:=(by have:=a.o.size;omega);by_cases i1:r<n
      . obtain⟨x,c4⟩:∃x,S[r]?=some x:=⟨_,av (by have:=a5.o;omega)⟩;obtain⟨lo,ls,c1,ak⟩:=ga t.o;injection c1 with al ar a0
        subst al a0;clear ar;obtain⟨nx,rfl,ip,sh⟩:=ak r (.string x) (by rw[List.getElem?_map,c4];rfl);obtain⟨U,Z⟩:∃U,(v.bn||(S.take r).any (λx=>decide (x=v.nm)))=U:=⟨_,rfl⟩;have D:aa ((v.bn||(S.take (r+1)).any (λx=>decide (x=v.nm)))=(U||decide (x=v.nm))):=(by unfold aa;rw[n8 c4,List.any_append,<- Bool.or_assoc,Z];simp);rw[Z];clear ak c4 Z;by_cases f:x=v.nm
        . rw[decide_eq_true f] at D;have cv:=mC f;clear f;cases U
          all_goals
           go_upto_region 21 with fail;go_quiet (fail);go_wp2_with fail;go_roundg (gk-1);(try (case measure=>omega))
           exact⟨r+1,by omega,by omega,by rw[D.o];rfl,by go_num,y.o.trans (cd (Below.refl _ _)),a.o.on (cd (Below.refl _ _)),zi t.o (λj _ h2 _=>rfl)⟩
        rw[decide_eq_false f] at D;have cv:=mB f;clear f;cases U
        all_goals
         go_upto_region 21 with fail;go_quiet (fail);go_wp2_with fail;go_roundg (gk-1);(try (case measure=>omega))
         exact⟨r+1,by omega,by omega,by rw[D.o];rfl,by go_num,y.o.trans (cd (Below.refl _ _)),a.o.on (cd (Below.refl _ _)),zi t.o (λj _ h2 _=>rfl)⟩
      have kd:r=n:=(by omega);subst kd;rw[de (by have:=a5.o;omega)];obtain⟨hv,c3⟩:∃hv,(v.bn||S.any (λx=>decide (x=v.nm)))=hv:=⟨_,rfl⟩;have ex:aa ((gX S (d.ab.take (m+1))).foldl aj c5=(if hv=true then [] else [v.a]).foldl aj t0):=(by unfold aa;rw[l2.o,nv,c3]);rw[c3];clear c3 l2;cases hv
      all_goals
       go_wp2_with (go_at_call 246;refine (du v.a _ a.o.ak).mono ?_;rintro e sg ⟨rfl,X,Y⟩;have b1:=za X;have z:=za Y;clear X Y);go_roundg (H-1);(try (case measure=>omega))
       first
        | exact⟨m+1,by omega,by omega,by go_num,by rw[ex.o];exact a,t⟩
        | exact⟨m+1,by omega,by omega,by go_num,by rw[ex.o];exact a.o.aX b1.o z.o,zi t.o (λj n2 h2 _=>z.o.block j h2 (by omega))⟩
   have i3:m=P:=(by omega);subst i3;rw[de (by have:=l3.o;omega),<- fv.o] at A;clear fv;go_wp2_with fail;go_end0;exact⟨rfl,by rw[nd.o];exact A.o.ak,A.o.fr⟩
end
section
open Go.RowKit
variable {e:Ex} {l:Xn} {m:List Nd} {c:List ay} {d:Nd}
theorem hD.mono {C s:Nat->Int->Bool->List Nat->Prop}{j:Int}{k:Bool}(h:hD d C e j k l)(n:∀x j k l,C x j k l->s x j k l):hD d s e j k l:=by
 cases h with
 | lit h=>exact .lit h
 | var h f v a b=>exact .var h f v a b
 | off r h f a p=>exact .off r h f a p
 | co r h f v a b o y g l q=>exact .co r h f v a b o y g l (n _ _ _ _ q)
 | k4 h f v a b y z g w A B t u=>exact .k4 h f v a b y z g w A B (n _ _ _ _ t) (n _ _ _ _ u)
 | hK h D q=>exact .hK h D (λi y g=>n _ _ _ _ (q i y g))
theorem jD.mono {C k:Nat->List Nat->Prop}(h:jD d C e l)(g:∀x l,C x l->k x l):jD d k e l:=by
 cases h with
 | k2 h y b l a=>exact .k2 h y b l (g _ _ a)
 | nm h f n j a=>exact .nm h f n j (λi y b=>g _ _ (a i y b))
 | hK h j a=>exact .hK h j (λi y b=>g _ _ (a i y b))
def FU (m:List Nd)(q k:Nat)(l:Xn):Prop :=
 ∀(N a:Nat) (b:Xv) (d:Nd),m[k]?=some d->∀(o:Xo) (w:Xw),Ak w N a b m o->xK (FV q) #[xP a,xI k] w (λe f=>e=.returned (.tuple #[])/\Ak f N a b m (l.foldl aj o)/\Fr (λk=>k=a) w f)
def eQ:Nat->Sc->List Nat
 | 0=>Sc.cG
 | 1=>Sc.eP
 | 2=>Sc.e4
 | 3=>Sc.fy
 | _=>Sc.gb
theorem Gu (h:e3 m c){q k:Nat}(b:q<5)(Y:∀p,p<q->zO (cR (eQ p) c)=none){n:ay}(r:m[k]?=some d)(A:c[k]?=some n) :
 ∃l,FU m q k l/\∀x,x∈l↔x∈eQ q ⟨c.take k,n⟩:=by
 obtain⟨E,I⟩:=h.ks r A;have T:=h.r d (aM r);have u:∀q∈d.eqs,q.ns.length=q.ps.length:=λq b=>(T.o.eqs q b).1;have B:∀t,m[k]?=some t->t=d:=λt a=>by rw[r] at a;cases a;rfl
 rcases (by omega:q=0∨q=1∨q=2∨q=3∨q=4) with rfl|rfl|rfl|rfl|rfl
 . exact⟨_,λN H J t a o w D=>by cases B t a;exact FX k d r u w D,E3 h.hN E I T.o.ab (λq b=>((h.wf n (aM A)).eqs q b).2.1)⟩
 all_goals
  have K:zO (cR Sc.cG c)=none:=Y 0 (by omega);have M:=h.p8 K r A;have R:∀{s:Xb},(⟨c.take k,n⟩:Sc).has s=true->lc d.ab s:=fun {s} z=>by obtain⟨v,g1,g2⟩:=M.found z;exact⟨_,v,g1,g2⟩
  have G:∀q∈d.eqs,∀s∈q.ns,lc d.ab s:=λq b s z=>by obtain⟨j,a2⟩:=List.mem_iff_getElem?.1 b;obtain⟨q',W,Z⟩:=kv E.eqs a2;exact R (M.left q' (aM W) s (by rw[Z.ns];exact z))
 . obtain⟨bk,ar⟩:=Mn ⟨c.take k,n⟩ d.az;obtain⟨be,rb,L,S,h3⟩:=ET M ar;exact⟨_,λN H J t a o w D=>by cases B t a;exact FZ k d r _ (λi e F=>Fp M ar F) (λv hv a3=>R (M.ck v hv a3)) be L (λi e F y a4=>Nat.lt_trans (wm I i e (aE _) (aB.1 F).1 F y a4) (aB.1 F).1) rb S w D,h3⟩
 . obtain⟨a9,L,S⟩:=EC M (C:=λx ak al l=>∀N H J P Q O,oi N H J m P Q O d x ak al l) (λx e ak al l F z N H J P Q O=>FE x e F ak al l (z.mono (λ_ _ _ _ U=>U N H J P Q O)));exact⟨_,λN H J t a o w D=>by cases B t a;exact EN k d r a9 (λq b=>⟨(T.o.eqs q b).2.1,u q b,G q b,L q b⟩) w D,S⟩
 . exact⟨_,λN H J t a o w D=>by cases B t a;exact rc k d r u (h.seen K r A).1 w D,qP E T.o.ab (h.qk K r A) (λq b=>⟨u q b,λs z=>by obtain⟨f,_,g,_⟩:=G q b s z;rw[g];rfl⟩)⟩
 have a0:jP d=[]:=by
  have X:(⟨c.take k,n⟩:Sc).fy=[]:=lW (Y 3 (by omega)) A;have z:=qP (ns:=c) (k:=k) E T.o.ab (h.qk K r A) (λq b=>⟨u q b,λs z=>by obtain⟨f,_,g,_⟩:=G q b s z;rw[g];rfl⟩);cases V:jP d with
  | nil=>rfl
  | cons x l => have:=(z x).1 (by rw[V];exact ce ..);rw[X] at this;cases this
 obtain⟨a5,L,S⟩:=Ey M (C:=λx l=>∀N P Q O,oh N P Q O d x l) (λx e l F X z N P Q O=>Fj x e F l X (z.mono (λ_ _ U=>U N P Q O))) (Gt (lW (Y 1 (by omega)) A)) (h.seen K r A).2 (h.qk K r A) u a0 (h.left K A);exact⟨_,λN H J t a o w D=>by cases B t a;exact FM k d r a5 (λq b=>⟨G q b,(L q b).1,(L q b).2.1,(L q b).2.2⟩) w D,S⟩
theorem Fz (h:e3 m c)(W:1<=m.length):∃T,EM m T (MK c)/\iB m T (MK c) 5 0=hP (dh c):=by
 have u:=h.hN.len;obtain⟨T,s⟩:∃T:Nat->Nat->List Nat,∀q k,q<5->(∀p,p<q->zO (cR (eQ p) c)=none)->k<m.length->FU m q k (T q k)/\∀n,c[k]?=some n->∀x,x∈T q k↔x∈eQ q ⟨c.take k,n⟩:=by
  have e:∀q k,∃l,q<5->(∀p,p<q->zO (cR (eQ p) c)=none)->k<m.length->FU m q k l/\∀n,c[k]?=some n->∀x,x∈l↔x∈eQ q ⟨c.take k,n⟩:=λq k=>by
   by_cases E:q<5/\(∀p,p<q->zO (cR (eQ p) c)=none)/\k<m.length
   . obtain⟨z,A,B⟩:=E;obtain⟨l,P,Q⟩:=Gu h z A (av B) (av (show k<c.length by omega));exact⟨l,λ_ _ _=>⟨P,λn j=>by rw[av (show k<c.length by omega)] at j;cases j;exact Q⟩⟩
   exact⟨[],λa b d=>absurd ⟨a,b,d⟩ E⟩
  obtain⟨T,s⟩:=Classical.skolem.1 (λq=>Classical.skolem.1 (e q));exact⟨T,s⟩
 have f:∀q,q<5->(∀p,p<q->zO (cR (eQ p) c)=none)->zO (hh m (T q))=zO (cR (eQ q) c):=λq v g=>by
  refine E1 (λx=>?_);unfold hh;rw[ed,vV];constructor
  . rintro⟨k,t,D⟩;rw[List.mem_range] at t;have j:=av (show k<c.length by omega);exact⟨k,_,j,((s q k v g t).2 _ j x).1 D⟩
  rintro⟨k,n,j,D⟩;have t:k<m.length:=by have:=(aB.1 j).1;omega
  exact⟨k,List.mem_range.2 t,((s q k v g t).2 n j x).2 D⟩
 have K:∀q,q<=5->(∀p,p<q->zO (hh m (T p))=none)->∀p,p<q->zO (cR (eQ p) c)=none:=by
  intro q;induction q with
  | zero=>intro _ _ p g;omega
  | succ q O =>
    intro v r p g;have G:=O (by omega) (λp g=>r p (by omega));by_cases e:p=q
    . rw[e,<- f q (by omega) G];exact r q (cf q)
    exact G p (by omega)
 refine⟨T,⟨λq v r N L R k d F o w M=>(s q k v (K q (by omega) r) (aB.1 F).1).1 N L R d F o w M,λr=>h.mem (K 5 (an _) r 0 (by omega))⟩,?_⟩;unfold dh;have U:=f 0 (by omega) (λp g=>by omega);simp only[iB];rw[U]
 show _=hP (match zO (cR Sc.cG c) with|some p=>some (4,p)|none=>match zO (cR Sc.eP c) with|some p=>some (5,p)|none=>match zO (cR Sc.e4 c) with|some p=>some (6,p)|none=>match zO (cR Sc.fy c) with|some p=>some (7,p)|none=>match zO (cR Sc.gb c) with|some p=>some (8,p)|none=>match zO (ih c) with|some p=>some (9,p)|none=>none);cases y:zO (cR Sc.cG c) with
 | some p=>rw[show eQ 0=Sc.cG from rfl,y];rfl
 | none =>
   rw[show eQ 0=Sc.cG from rfl,y];simp only;have H:∀p,p<1->zO (cR (eQ p) c)=none:=λp g=>by rw[show p=0 by omega];exact y
   rw[f 1 (by omega) H,show eQ 1=Sc.eP from rfl];cases z:zO (cR Sc.eP c) with
   | some p=>rfl
   | none =>
     simp only;have I:∀p,p<2->zO (cR (eQ p) c)=none:=λp g=>by rcases (by omega:p<1∨p=1) with e|rfl;exact H p e;exact z
     rw[f 2 (by omega) I,show eQ 2=Sc.e4 from rfl];cases A:zO (cR Sc.e4 c) with
     | some p=>rfl
     | none =>
       simp only;have J:∀p,p<3->zO (cR (eQ p) c)=none:=λp g=>by rcases (by omega:p<2∨p=2) with e|rfl;exact I p e;exact A
       rw[f 3 (by omega) J,show eQ 3=Sc.fy from rfl];cases B:zO (cR Sc.fy c) with
       | some p=>rfl
       | none =>
         simp only;have S:∀p,p<4->zO (cR (eQ p) c)=none:=λp g=>by rcases (by omega:p<3∨p=3) with e|rfl;exact J p e;exact B
         rw[f 4 (by omega) S,show eQ 4=Sc.gb from rfl];cases V:zO (cR Sc.gb c) with
         | some p=>rfl
         | none =>
           simp only;have C:=E7 (ns:=c) (c.length-1) 0 0 (by omega);rw[List.drop_zero] at C;change hr c [] 0=_ at C;unfold ih;rw[C,u];by_cases i:60<MK c (m.length-1)
           . rw[ag i,ag i];rfl
           rw[ae i,ae i];rfl
end
section
open Go.RowKit
variable {src:Xb} {P:List ay->Bool}
def lQ (src:Xb)(P:List ay->Bool):Bool :=
 let R:=dm (a6 17).ex (a6 18).ex 1300 src
 decide (src.size<=1200)&&decide (R.1.er=0) &&
  match pA R.2 with
  | none=>false
  | some a=>P a
theorem vr (h:lQ src P=true):src.size<=1200/\(dm (a6 17).ex (a6 18).ex 1300 src).1.er=0/\∃a,pA (dm (a6 17).ex (a6 18).ex 1300 src).2=some a/\P a=true:=by
 unfold lQ at h;simp only[Bool.and_eq_true,decide_eq_true_eq] at h;obtain⟨⟨d,e⟩,b⟩:=h;split at b
 . cases b
 rename_i a c
 exact⟨d,e,a,c,b⟩
theorem uJ {o:Option (Nat×Nat)}(h:lQ src P=true)(p:∀d,P d=true->dh d=o):oE src (hP o).1 (hP o).2:=by
 obtain⟨j,k,a,b,r,q,e,f⟩:=pE;obtain⟨l,c,s,g,n⟩:=vr h;clear h;unfold oE;rw[<- a,<- b] at c g ⊢;obtain⟨R,i⟩:∃R,dm j k 1300 src=R:=⟨_,rfl⟩;rw[i] at c g;obtain⟨_,_,d,f3,_,_⟩:=oH a b e f l i c;have:=yF f3 g;subst this;have m:=p _ n;refine ap ⟨l,R,i,ap ⟨c,d,f3,?_,?_⟩⟩
 . rw[m]
 rw[m]
def iZ:Nat->Tm->Bool
 | 0,_=>false
 | f+1,.mk k _ _ _ n a=>match a with
   | []=>(k==0&&decide (n<=9223372036854775807))||k==3
   | [x,y]=>(k==9||decide (12<=k))&&decide (k<24)&&iZ f x&&iZ f y
   | _=>false
theorem o3:∀(f:Nat) (t:Tm),iZ f t=true->Sm t
 | 0,_,h=>by rw[iZ] at h;cases h
 | f+1,.mk k a s nm n c,h=>by
   match c,h with
   | [],g =>
     simp only[iZ,Bool.or_eq_true,Bool.and_eq_true,beq_iff_eq,decide_eq_true_eq] at g;rcases g with ⟨rfl,b⟩|rfl
     . exact .num a s nm n b
     exact .var a s nm n
   | [x,y],g => simp only[iZ,Bool.or_eq_true,Bool.and_eq_true,beq_iff_eq,decide_eq_true_eq] at g;exact .two k a s nm n _ _ g.1.1.1 g.1.1.2 (o3 f _ g.1.2) (o3 f _ g.2)
   | [x],g=>simp[iZ] at g
   | x::y::z::l,g=>simp[iZ] at g
def qf (a:List ay):Bool:=a.all λn=>decide ((ez n).length<=1000)&&n.ab.all (λv=>ba v==0)&&n.eqs.all λq=>q.ns.length==1&&iZ 9 q.r
theorem CL (S:Xs){T:Xb}(h:lQ src P=true)(z:∀a,P a=true->dU a=T.data.toList/\qf a=true)(E:T.data.toList.length<=1000)(w:Xw)(i:Kn S w) :
 xK 8 #[.string src] w (λe D=>e=.returned (.tuple #[.string T,xI 0,xI 0])/\xB w D):=by
 obtain⟨p,r,c,d,B,y,f,g⟩:=pE;obtain⟨s,j,F,l,x⟩:=vr h;rw[<- c,<- d] at j l;obtain⟨R,m⟩:∃R,dm p r 1300 src=R:=⟨_,rfl⟩;rw[m] at j l;obtain⟨f1,f2,a,f3,f4,_⟩:=oH c d f g s m j;have:=yF f3 l;subst this;obtain⟨t,u⟩:=z _ x;have A:(⟨(dU a).toArray⟩:Xb)=T:=by rw[t]
 have k:∀n∈a,((ez n).length<=1000/\∀v∈n.ab,ba v=0)/\∀q∈n.eqs,q.ns.length=1/\iZ 9 q.r=true:=by unfold qf at u;simpa only[List.all_eq_true,Bool.and_eq_true,decide_eq_true_eq,beq_iff_eq] using u
 rw[<- A];refine BU S src a f4 (λn b=>⟨λv C=>EY v ((k n b).1.2 v C),λq o=>EH q ((f4 n b).eqs q o).1 ((k n b).2 q o).1 (wA S (o3 9 q.r ((k n b).2 q o).2))⟩) (λn b=>aJ (k n b).1.1 (by decide)) (by rw[t];omega) w i (uI B y f g S src R m s j f2 a f3 w i.gl)
end
section
open Go.RowKit
variable {W w:Xw}
def qL:ByteArray:=⟨#[110,111,100,101,32,110,40,97,58,32,105,110,116,41,32,45,62,32,40,115,58,32,105,110,116,41,32,123,32,115,32,61,32,115,32,43,32,97,59,32,125]⟩
def qK:ByteArray:=⟨#[110,111,100,101,32,110,40,97,58,105,110,116,41,45,62,40,115,58,105,110,116,41,123,115,61,97,43,40,48,53,32,102,98,121,32,115,41,59,125]⟩
def qJ:ByteArray:=⟨#[110,111,100,101,32,110,32,40,32,97,32,58,32,105,110,116,32,41,32,45,62,32,40,32,115,32,58,32,105,110,116,32,41,32,123,32,115,32,61,32,40,32,97,32,43,32,40,32,53,32,102,98,121,32,115,32,41,32,41,32,59,32,125,10]⟩
theorem Ew:lQ qL (λa=>decide (dh a=some (8,5)))=true:=by decide +kernel
theorem vx:lQ qK (λa=>decide (dh a=none)&&(decide (dU a=qJ.data.toList)&&qf a))=true:=by decide +kernel
theorem Sn.bl {S:Xs}(h:Sn S w)(b:xB w W):Sn S W:=λi j d e f g c a=>h i j d e f g c (b.trans (a.mono b.size))
theorem fw.bl (h:fw w)(b:xB w W):fw W:=(World.cell?_of_block (w:=w) (a:=(xD 7 0)) (b.block _ (World.block_lt_of_cell? w (xD 7 0) h))).trans h
theorem CY (S:Xs)(w:Xw)(d:Kn S w)(i:Sn S w)(j:fw w) :
 xK 5 #[] w (λe n=>e=.returned (.bool true)/\xB w n):=by
 have k:=za (nc S qL 8 5 (uJ (o:=some (8,5)) Ew (λm h=>of_decide_eq_true h)) w d.gl i j);have l:=za (λW (c:xB w W)=>nc S qK 0 0 (uJ (o:=none) vx (λm h=>by simp only[Bool.and_eq_true,decide_eq_true_eq] at h;exact h.1)) W (d.bl c).gl (i.bl c) (j.bl c));have g:=za (λW (c:xB w W)=>CL S vx (T:=qJ) (λm h=>by simp only[Bool.and_eq_true,decide_eq_true_eq] at h;exact h.2) (by decide +kernel) W (d.bl c));unfold qL at k;unfold qK at l g;unfold qJ at g;clear d i j;go_enter func5,ntmps5
 go_wp2_with (first
  | (go_at_call 8;revert b;intro b;refine (g.o _ b.o).mono ?_;rintro e r ⟨rfl,c⟩;have f:=za (b.o.trans (c.mono b.o.size)))
  | (go_at_call 7;revert a;intro a;refine (l.o _ a.o).mono ?_;rintro e q ⟨rfl,c⟩;have b:=za (a.o.trans (c.mono a.o.size)))
  | (go_at_call 7;refine k.o.mono ?_;rintro e p ⟨rfl,c⟩;have a:=za c))
 go_ret;exact⟨rfl,f.o⟩
end
section
open Go.RowKit
theorem DL (a:Nat)(w:Xw)(c:xC w a 1 (.slice none 0 0)) :
 xK 10 #[xP a] w (λe b=>e=.returned (.bool true)/\xB w b):=by
 go_enter func10,ntmps10;go_wp2_with fail;go_loopg [3] 1 (λj i wr=>j=1/\i=xI 0/\wr=w);case atStart=>exact⟨rfl,rfl,rfl⟩
 case round => obtain⟨rfl,rfl,rfl⟩:=hrel;go_wp2_with fail;go_ret;exact⟨rfl,Below.refl _ _⟩
structure mM where
 kd:Int
 n:Int
 s:ByteArray
 a:Option Addr
 len:Nat
 cap:Nat
def lT (w:Xw)(N:Nat)(v:Xv)(l:List mM):Prop :=
 ∃a c,v=.slice a l.length c/\l.length<=9223372036854775807/\(l≠[]->∃g o,a=some (xD g o)/\g<N/\∀j x,l[j]?=some x->w.cell? (xD g (o+j*4))=some (xI x.kd)/\w.cell? (xD g (o+j*4+1))=some (xI x.n)/\w.cell? (xD g (o+j*4+2))=some (.string x.s)/\w.cell? (xD g (o+j*4+3))=some (.slice x.a x.len x.cap))
def Es (k:Int)(w:Xw):Prop:=∀(W:Xw) (f:Nat) (n:Int) (s:Xb) (a:Xp) (c b:Nat),xB w W->xK 9 #[xP f,.agg #[xI k,xI n,.string s,.slice a c b]] W (λe d=>e=.returned (.bool true)/\xB W d)
theorem Ej (k:Int)(ar:k<3)(w:Xw)(X:aa (Es k w))(v:Xv)(l:List mM)(M:lT w w.heap.size v l) :
 xK 6 #[v,xI k,xI k] w (λe w'=>e=.returned (xI (-1))/\xB w w'):=by
 obtain⟨a,c,rfl,y,M⟩:=M;have V:=za M;clear M;obtain⟨L,O⟩:∃L,l.length=L:=⟨_,rfl⟩;have U:=za O;rw[O] at y ⊢;clear O;obtain⟨z,a0⟩:∃z,z=w.heap.size:=⟨_,rfl⟩;go_enter func6,ntmps6;go_wp2_with fail;go_loopg [8] (L+1) (λj i wr=>∃m:Nat,m+j=L+1/\m<=L/\i=xI m/\aa (xB w wr)/\w.heap.size<wr.heap.size/\xC wr w.heap.size 1 (.slice none 0 0));case atStart=>exact⟨0,by omega,aE _,rfl,(Below.refl _ _).alloc (an _) _,by simp,(zp (zc w _)).2.1⟩
 case round =>
  obtain⟨m,al,ak,rfl,d,A,p⟩:=hrel;by_cases Z:m<L
  . obtain⟨x,R⟩:∃x,l[m]?=some x:=⟨_,av (by have:=U.o;omega)⟩;obtain⟨g,o,rfl,u,t⟩:=V.o (λe=>by subst e;simp at R);obtain⟨H,I,J,K⟩:=t m x R;have H:=zd d.o H u;have I:=zd d.o I u;have J:=zd d.o J u;have K:=zd d.o K u;clear t V R U;obtain⟨f,F,G,C,E,D⟩:=x;simp only at H I J K;have P:g<wr.heap.size:=by omega
    by_cases h1:k<=f
    . by_cases h2:f<=k
      . have e:f=k:=(by omega);subst e;have b:=za (d.o.alloc d.o.size (.cells #[xI f,xI F,.string G,.slice C E D] 38));go_wp2_with (go_at_call 9;refine (X.o _ _ _ _ _ _ _ b.o).mono ?_);rintro e T rfl h;have r:=za (b.o.trans (h.mono (aJ d.o.size (by simp))));have s:xC T w.heap.size 1 (.slice none 0 0):=zd h (zj _ p) (dD A (by simp));have B:w.heap.size<T.heap.size:=(by have:=h.size;simp at this;omega);clear h b H I J K u P p A d;go_wp2_with (go_at_call 10;refine (DL _ T s).mono ?_);rintro e W ⟨rfl,n⟩;have N:=za (r.o.trans (n.mono r.o.size));have Q:xC W w.heap.size 1 (.slice none 0 0):=zd n s B;have S:w.heap.size<W.heap.size:=(by have:=n.size;omega);clear n r s B;go_wp2_with fail;go_roundg (gk-1);case measure=>omega
        exact⟨m+1,by omega,by omega,by go_num,N,S,Q⟩
      have b:=za (d.o.alloc d.o.size (.cells #[xI f,xI F,.string G,.slice C E D] 38));have q:=zj (.cells #[xI f,xI F,.string G,.slice C E D] 38) p;by_cases Y:f<3
      . go_wp2_with fail;go_roundg (gk-1);case measure=>omega
        exact⟨m+1,by omega,by omega,by go_num,b,by simp;omega,q⟩
      go_wp2_with fail;go_roundg (gk-1);case measure=>omega
      exact⟨m+1,by omega,by omega,by go_num,b,by simp;omega,q⟩
    have b:=za (d.o.alloc d.o.size (.cells #[xI f,xI F,.string G,.slice C E D] 38));have q:=zj (.cells #[xI f,xI F,.string G,.slice C E D] 38) p;have Y:f<3:=(by omega);go_wp2_with fail;go_roundg (gk-1);case measure=>omega
    exact⟨m+1,by omega,by omega,by go_num,b,by simp;omega,q⟩
  go_wp2_with fail;go_ret;exact⟨rfl,d.o⟩
theorem lT.bl {w W:Xw}{v:Xv}{l:List mM}(h:lT w w.heap.size v l)(b:xB w W):lT W W.heap.size v l:=by obtain⟨a,c,rfl,m,n⟩:=h;refine⟨a,c,rfl,m,λr=>?_⟩;obtain⟨g,o,rfl,d,p⟩:=n r;refine⟨g,o,rfl,dD d b.size,λj x q=>?_⟩;obtain⟨e,f,i,k⟩:=p j x q;exact⟨zd b e d,zd b f d,zd b i d,zd b k d⟩
end
section
open Go.RowKit
variable {b j:Fn} {g:Nat}
theorem wl:∀(f:Nat) (x:St×List Nd),1<=x.2.length->1<=(ct b j g f x).2.length
 | 0,_,h=>h
 | f+1,x,h=>by
   rw[ct];split
   . exact wl f _ (by simp)
   exact h
theorem ra {s:Xb}{R:St×List Nd}(h:dm b j g s=R):1<=R.2.length:=by rw[<- h];exact wl g _ (by simp)
theorem Fg (src:Xb):∃(k p:Nat),(∀(S:Xs) (w:Xw),Kn S w->Sn S w->fw w->xK 7 #[.string src] w (λe x=>e=.returned (.tuple #[xI k,xI p])/\xB w x))/\∀w:Xw,xK 39 #[.string src] w (λe x=>e=.returned (.tuple #[xI k,xI p])/\xB w x):=by
 obtain⟨b,j,m,o,Y,X,r,s⟩:=pE;have D:bY 17 260 b:=by rw[m];exact (Mg 17).1
 have E:bY 18 260 j:=by rw[o];exact (Mg 18).1
 by_cases B:src.size<=1200
 . obtain⟨g,L⟩:∃g,g=1300:=⟨_,rfl⟩;have c:=uF r s g (by omega) src (pY B);obtain⟨R,z⟩:∃R,dm b j g src=R:=⟨_,rfl⟩;obtain⟨M,K⟩:∃M,mY b j g src=M:=⟨_,rfl⟩;rw[z,K] at c;have l:=λw=>Ds D r E s g L src w B K;rw[L] at z;have A:dm (a6 17).ex (a6 18).ex 1300 src=R:=by rw[<- m,<- o];exact z
   by_cases v:R.1.er=0
   . obtain⟨f0,f2,C,f3,f4,_⟩:=oH m o r s B z v;have a:M.1.er=0:=c.1.er▸v;have Q:=c.2 v;have f1:=λd u=>(f0 d u).1;have V:e3 R.2 C:=⟨f3,f1,λd u=>(f0 d u).2,f4,f2⟩;have J:1<=R.2.length:=ra z;obtain⟨T,t,U⟩:=Fz V J;refine⟨(hP (dh C)).1,(hP (dh C)).2,λS w f y t=>nc S src _ _ (ap ⟨B,R,A,ap ⟨v,C,f3,rfl,rfl⟩⟩) w f.gl y t,λw=>vM src _ _ w ?_⟩;rw[<- U];refine v7 src R.2 T (MK C) t J f2 (λd u=>?_) w ((l w).mono ?_)
     . obtain⟨i,W⟩:=List.mem_iff_getElem?.1 u;obtain⟨n,_,H⟩:=B5 f3 i d W;have N:=CI H (f1 d u);exact⟨N,λq O=>by rw[<- ((f1 d u).o.eqs q O).1];exact N.ns q O⟩
     rintro e x ⟨P,n,I,rfl,G,F⟩;rw[ag a,ag a,a];rw[Q];exact⟨P,n,I,rfl,G a,F⟩
   have a:M.1.er≠0:=λh=>v (c.1.er.trans h);refine⟨R.1.er,R.1.at',λS w f y t=>nc S src _ _ (ap ⟨B,R,A,ao ⟨v,rfl,rfl⟩⟩) w f.gl y t,λw=>vM src _ _ w (vL src _ _ (by omega) w ((l w).mono ?_))⟩;rintro e x ⟨P,n,_,rfl,_,F⟩;rw[ae a,ae a,c.1.er,c.1.at'];exact⟨rfl,F⟩
 refine⟨1,0,λS w f y t=>nc S src 1 0 (ao ⟨by omega,rfl,rfl⟩) w f.gl y t,λw=>vM src 1 0 w (vL src 1 0 (by omega) w ((B1 src w (by omega)).mono ?_))⟩;rintro e x ⟨rfl,rfl⟩;exact⟨rfl,Below.refl _ _⟩
theorem E5 (S:Xs)(A n:Int)(s:Xb)(a:Xp)(m i:Nat)(w:Xw)(t:Kn S w)(r:Sn S w)(u:fw w) :
 xK 15 #[.agg #[xI A,xI n,.string s,.slice a m i]] w (λe B=>e=.returned (.bool true)/\xB w B):=by
 obtain⟨k,p,v,x⟩:=Fg s;have o:=za (λW (l:xB w W)=>v S W (t.bl l) (r.bl l) (u.bl l));have q:=za x;clear v x t r u;go_enter func15,ntmps15;go_wp2_with (go_at_call 7;refine (o.o _ ((Below.refl _ _).alloc (an _) _)).mono ?_);rintro e C ⟨rfl,c⟩;have y:=zd c (zU (zc w _)).2.2.1 (by simp);have d:=za (zE c);have z:=c.size;clear c o;go_wp2_with (go_at_call 39;refine (q.o _).mono ?_);rintro e D ⟨rfl,f⟩;have h:=za (d.o.trans (f.mono d.o.size));clear f q y;go_wp2_with fail;go_ret;exact⟨rfl,h.o⟩
theorem Fw (S:Xs)(q:Nat)(n:Int)(s:Xb)(a:Xp)(f c:Nat)(w:Xw)(m:Kn S w)(l:Sn S w)(o:fw w) :
 xK 9 #[xP q,.agg #[xI 1,xI n,.string s,.slice a f c]] w (λe p=>e=.returned (.bool true)/\xB w p):=by
 have k:=za (λW (i:xB w W)=>E5 S 1 n s a f c W (m.bl i) (l.bl i) (o.bl i));clear m l o;go_enter func9,ntmps9;go_wp2_with (go_at_call 15;refine (k.o _ ((Below.refl _ _).alloc (an _) _)).mono ?_);rintro e r ⟨rfl,d⟩;have h:=za (zE d);clear d k;go_wp2_with fail;go_ret;exact⟨rfl,h.o⟩
theorem EB (S:Xs)(w:Xw)(o:Kn S w)(m:Sn S w)(p:fw w)(v:Xv)(l:List mM)(u:lT w w.heap.size v l) :
 xK 3 #[v] w (λe z=>e=.returned (.bool true)/\xB w z):=by
 have x:=za (CY S w o m p);have r:=za (λW (d:xB w W)=>Ej 1 (by decide) W (λy A n s a q k h=>Fw S A n s a q k y ((o.bl d).bl h) ((m.bl d).bl h) ((p.bl d).bl h)) v l (u.bl d));obtain⟨a,c,rfl,_,_⟩:=u;obtain⟨L,t⟩:∃L,l.length=L:=⟨_,rfl⟩;rw[t] at r ⊢;clear o m p t;go_enter func3,ntmps3
 go_wp2_with (first
  | (go_at_call 6;refine (r.o _ f.o).mono ?_;rintro e C ⟨rfl,d⟩;have i:=za (f.o.trans (d.mono f.o.size)))
  | (go_at_call 5;refine x.o.mono ?_;rintro e B ⟨rfl,d⟩;have f:=za d))
 go_ret;exact⟨rfl,i.o⟩
end
section
open Go.ChangeShapes Go.WideShapes Go.ChangeAt Go.RowKit
variable {l:List (String×DataW Unit)} {g k:Nat} {W:Xw}
theorem r0 {P:Program}{w:Xw}:∀{l:List (String×DataW Unit)} {e:List MemPlace},DataW.LaidVars P w l e->∀{k:Nat} {n:String} {d:DataW Unit},l[k]?=some (n,d)->∃g t cs a p,P.globalNamed n=some g/\(P.globals[g]?).map (·.type)=some t/\w.var? P n=some cs/\DataW.trod (λ_=>()) P w 0 (λ_=>true) false a t cs.toList=some (d,p)/\∀x∈MemPlace.row (xD g 0) cs.size,x∈e:=by
 intro l;induction l with
 | nil=>intro e _ k n d c;simp at c
 | cons x l C =>
   obtain⟨F,d0⟩:=x;rintro e ⟨g,t,cs,a,p,q,v,y,z,A,B,i⟩ k n d c;cases k with
   | zero => simp at c;obtain⟨rfl,rfl⟩:=c;exact⟨g,t,cs,a,p,v,y,z,A,λx h=>by rw[i];simp[h]⟩
   | succ k => obtain⟨u,E,f,b,D,j,m,o,r,s⟩:=C B (k:=k) (by simpa using c);exact⟨u,E,f,b,D,j,m,o,r,λx h=>by rw[i];simp[s x h]⟩
theorem Tryz.star: "*"++ "errors.errorString"= "*errors.errorString":=by decide
theorem Tryz.tw (u:Xy)(h:prog.typeName? 3 u=some "*errors.errorString"):u=399 :=
 typeName_ptr_named (nm:= "errors.errorString") (by rw[Tryz.star];kernel_rfl) (by kernel_rfl) (by decide) u (by rw[Tryz.star];exact h)
theorem Tryz.sI:prog.cellsOf 401=1:=by kernel_rfl
theorem Tryz.p6:prog.cellsOf 9=1:=by kernel_rfl
theorem ic (h:laidMet prog l W){n:String}{c:Xu}(w:l[k]?=some (n,.iface "*errors.errorString" (.ptr (.agg [.lit (.string c)]))))(r:prog.globalNamed n=some g)(x:(prog.globals[g]?).map (·.type)=some 42) :
 ∃a,W.cell? (xD g 0)=some (.iface 399 (.pointer (some a))):=by
 obtain⟨B,q,_,b⟩:=h;obtain⟨A,t,cs,i,p,d,j,f,m,o⟩:=r0 q w;obtain rfl:=Option.some.inj (r.symm.trans d);obtain rfl:=Option.some.inj (x.symm.trans j);obtain⟨y⟩:=cs;have z:∀u v,y=[.iface u v]->Value.okWide prog W .any 0 u v:=λu v e=>by subst e;exact (b g 0 (o _ (by simp[MemPlace.row]))).2 u v (by simpa using World.var?_cell d f 0)
 obtain⟨a,s,rfl,_⟩:=errorString_of_trod underlying42 Tryz.tw underlying399 underlying401 rfl rfl underlying9 Tryz.sI Tryz.p6 m z;exact⟨a,by simpa using World.var?_cell d f 0⟩
theorem x4 (h:laidMet prog l W){n:Nat}{t e:Xy}{nm:String}{c:List (DataW Unit)}(F:l[k]?=some (nm,.agg c))(D:prog.globalNamed nm=some g)(H:(prog.globals[g]?).map (·.type)=some t)(I:prog.underlying t=some (.array n e))(C:prog.cellsOf e=1)(d:prog.cellsOf t=n) :
 ∀i,i<n->∃v f x,W.cell? (xD g i)=some v/\DataW.trod (λ_=>()) prog W 0 (λ_=>true) false f e [v]=some x/\c[i]?=some x.1:=by
 obtain⟨O,B,_,q⟩:=h;obtain⟨M,P,cs,u,p,s,y,z,A,L⟩:=r0 B F;obtain rfl:=Option.some.inj (D.symm.trans s);obtain rfl:=Option.some.inj (H.symm.trans y);obtain⟨w,m,_,K,G,N,o⟩:=DataW.trod_array I A;intro i E;have a:=o i E;rw[C] at a;obtain⟨x,b⟩:∃x,w[i]?=some x:=⟨_,av (by omega)⟩;rw[b] at a;have j:c=w.map (·.1):=by have:=congrArg Prod.fst K;simpa using this
 simp only[Nat.mul_one] at a;rcases hd:cs.toList.drop i with _|⟨v,r⟩
 . have:=List.drop_eq_nil_iff.1 hd;rw[d] at G;omega
 rw[hd] at a;refine⟨v,m,x,?_,by simpa using a,by rw[j,List.getElem?_map,b];rfl⟩;have J:cs[i]?=some v:=by
  have:cs.toList[i]?=some v:=by have:=congrArg (λl=>l[0]?) hd;simpa [List.getElem?_drop] using this
  simpa using this
 rw[World.var?_cell s z i];exact J
end
end Go.Proofs.YtmfkofhgdjechaaGreatDoor
