/- Part 26 of the proof. -/
import Derived.Test.YtmfkofhgdjechaaGreatDoorK24
set_option maxRecDepth 100000
set_option maxHeartbeats 8000000
namespace Go.Proofs.YtmfkofhgdjechaaGreatDoor
open Go.Proofs.Tryz
open Go.RowKit
section
variable {a:List Nd} {N l n:Nat} {d:Nd} {o:Xo} {t u x y:Xv} {W w wr:Xw}
attribute [local go_sem ↓] Go.wp_at_zero Go.wp_at_succ
abbrev nf (d:Nd) (x y u:Xv):Obj:=.cells #[.string d.nm,xI d.a,x,y,u] 103 (0,0)
structure bq (w wr:Xw) (N l n:Nat) (t:Xv) (a:List Nd) (o:Xo) (x y u:Xv) (d:Nd):Prop where
 ak:Ak wr N l t a o
 fr:Fr (λk=>k=l) w wr
 bx:wr.heap[n]?=some (nf d x y u)
 nd:kX wr N x y u d
 lo:w.heap.size<=n
 al:l<w.heap.size
theorem bq.on (h:bq w wr N l n t a o x y u d)(b:xB wr W):bq w W N l n t a o x y u d :=
 ⟨h.ak.on b,h.fr.gA b,(b.block n (ze h.bx)).trans h.bx,h.nd.aH (b.mono (by have:=ze h.ak.aC;have:=h.ak.lt;omega)),h.lo,h.al⟩
theorem bq.aX {b:Xo}(h:bq w wr N l n t a o x y u d)(c:Ak W N l t a b)(hF:Fr (λk=>k=l) wr W):bq w W N l n t a b x y u d :=
 ⟨c,h.fr.trans hF,(hF.block n (ze h.bx) (by have:=h.lo;have:=h.al;omega)).trans h.bx,h.nd.aH (hF.below (by have:=ze h.ak.aC;have:=h.ak.lt;omega) (λk e=>by subst e;exact h.ak.lt)),h.lo,h.al⟩
theorem bq.size (h:bq w wr N l n t a o x y u d):N<=wr.heap.size:=by have:=ze h.ak.aC;have:=h.ak.lt;omega
theorem bq.drew (h:bq w wr N l n t a o x y u d):bq w wr.drew N l n t a o x y u d:=h.on ⟨rfl,rfl,rfl,an _,λ_ _=>rfl⟩
theorem bq.find {g k b:Xp}{j i p m f c:Nat}(h:bq w wr N l n t a o (.slice g j i) (.slice k p m) (.slice b f c) d)(s:Xb) :
 xK 169 #[.agg #[.string d.nm,xI d.a,.slice g j i,.slice k p m,.slice b f c],.string s] wr (λe q=>e=.returned (xI (bC (bm s d.ab 0)))/\xB wr q) :=
 qM d.nm s d.a wr h.nd.vs h.size ⟨_,_,_,rfl⟩ ⟨_,_,_,rfl⟩
theorem FX (k:Nat)(d:Nd)(z7:a[k]?=some d)(tk:aa (∀q∈d.eqs,q.ns.length=q.ps.length))(w:Xw)(h:Ak w N l t a o) :
 xK 200 #[xP l,xI k] w (λe C=>e=.returned (.tuple #[])/\Ak C N l t a ((l8 a k d).foldl aj o)/\Fr (λk=>k=l) w C):=by
 obtain⟨NA,g8,rfl,h6,h3⟩:=h.ns;obtain⟨g,ev,ex,ck,c4,ar,cm,es,bs,c0,rfl,MU,qr,qs,rb,rd,rg,nt⟩:=h3 k d z7;have ry:=za h;obtain⟨zX,MN,MS,Na⟩:=zp h.aC;have x2:=(aB.1 z7).1;have zZ:=h.lt;obtain⟨L,wf⟩:∃L,a.length=L:=⟨_,rfl⟩;have sg:=za wf;rw[wf] at h6 x2 zX ry;have xH:g<w.heap.size:=by omega
 have le:=za nt;have lk:=za (λW (M:xB w W)=>lX d.nm k (by omega) W (h.on M));clear h h3 wf nt;go_enter func200,ntmps200;go_upto_region 2 with (go_at_call 95;refine (lk.o _ ((Below.refl _ _).alloc (an _) _)).mono ?_;rintro e be ⟨rfl,rfl⟩);obtain⟨r,cv⟩:∃r,ea d.nm (a.take k) 0=r:=⟨_,rfl⟩;have zV:=za cv;rw[cv];clear cv lk;obtain⟨c2,n1⟩:∃c2,(if r.isSome=true then [d.a] else []).foldl aj o=c2:=⟨_,rfl⟩;have fV:=za n1;obtain⟨kd,gt⟩:∃kd,kd=w.alloc (nf d (.slice ev ex ck) (.slice c4 ar cm) (.slice es bs c0)):=⟨_,rfl⟩;have c5:aa (bq w kd N l w.heap.size (xS g L g8) a o (.slice ev ex ck) (.slice c4 ar cm) (.slice es bs c0) d):=by have M:xB w kd:=gt▸(Below.refl _ w).alloc (an _) _;exact⟨ry.o.on M,Fr.dp M,gt▸zc w _,le.o.aH (M.mono (by omega)),an _,Na⟩
 have g7:w.alloc (.cells #[.string d.nm,xI d.a,.slice ev ex ck,.slice c4 ar cm,.slice es bs c0] 103)=kd:=gt.symm;rw[g7];clear gt g7 n1 le ry zX MN MS qr qs rb rd rg MU xH;obtain⟨a4,s1,s2,a5,a9,bt,Z⟩:=bz c5.o.bx;go_upto_if 30 with fail;go_cut [] (λi5=>aa (bq w i5 N l w.heap.size (xS g L g8) a c2 (.slice ev ex ck) (.slice c4 ar cm) (.slice es bs c0) d));case first =>
  cases r with
  | none => unfold bC;go_wp2_with fail;go_meet;rw[<- fV.o];exact c5
  | some i => unfold bC;have M1:(0:Int)<=(i:Int):=(by omega);go_wp2_with (go_at_call 246;refine (du d.a kd c5.o.ak).mono ?_;rintro e pe ⟨rfl,A,B⟩;have J:=za A;have D:=za B;clear A B);go_meet;rw[<- fV.o];exact c5.o.aX J.o D.o
 case rest =>
  have fv:=hcut;have zS:aa ((l8 a k d).foldl aj o=(ek a k d 0 d.az).foldl aj ((gZ d.ab d.eqs).foldl aj ((e7 d.ab 0 d.ab).foldl aj c2))):=by unfold aa l8;rw[bc,bc,bc,zV.o,fV.o]
  obtain⟨Bx,ok⟩:∃Bx:Int,bC r=Bx:=⟨_,rfl⟩;rw[ok];clear ok;clear hcut c5 fV zV a4 s1 s2 a5 a9 bt Z;go_wp2_with fail;obtain⟨V,z3⟩:∃V,d.ab.length=V:=⟨_,rfl⟩;have zW:=za z3;have z4:V<=16:=by obtain⟨_,_,_,h,_⟩:=fv.o.nd.vs;omega
  have zv:ex=V:=by obtain⟨_,_,h,_,_⟩:=fv.o.nd.vs;injection h with _ h _;omega
  subst zv;clear z3;go_loopg [6] (ex+1) (λj i wr=>∃m:Nat,m+j=ex+1/\m<=ex/\i=xI m/\aa (bq w wr N l w.heap.size (xS g L g8) a ((e7 d.ab 0 (d.ab.take m)).foldl aj c2) (.slice ev ex ck) (.slice c4 ar cm) (.slice es bs c0) d));case atStart=>exact⟨0,by omega,aE _,rfl,fv⟩
  case round =>
   obtain⟨m,x3,M7,rfl,K⟩:=hrel;obtain⟨a4,s1,s2,a5,a9,bt,Z⟩:=bz K.o.bx;by_cases M5:m<ex
   . skip;obtain⟨v,i3⟩:∃v,d.ab[m]?=some v:=⟨_,av (by have:=zW.o;omega)⟩;obtain⟨zM,zN,i4,_,em⟩:=K.o.nd.vs;cases i4;obtain⟨_,bx,rfl,xE,zL,v1,v2,v3,v4,v5,v6,By,Nl,BY⟩:=em m v i3;have pr:=za (wi (vs:=d.ab) (j:=0) i3);have b3:bx<wr.heap.size:=(by have:=K.o.size;omega);clear em;obtain⟨q,g6⟩:∃q,(e7 d.ab 0 (d.ab.take m)).foldl aj c2=q:=⟨_,rfl⟩;have zT:=za g6;rw[g6] at K;clear g6;go_upto_region 7 with fail;have he:=za (K.o.drew.find v.nm);obtain⟨rp,i0⟩:∃rp,bC (bm v.nm d.ab 0)=rp:=⟨_,rfl⟩;have lt:=za i0;rw[i0] at he;clear i0
     go_region_held3 (λC=>C.cell? (xD w.heap.size 0)=some (.string d.nm)/\C.cell? (xD w.heap.size 1)=some (xI d.a)/\C.cell? (xD w.heap.size 2)=some (xS bx d.ab.length ck)/\C.cell? (xD w.heap.size 3)=some (.slice c4 ar cm)/\C.cell? (xD w.heap.size 4)=some (.slice es bs c0)/\C.cell? (xD bx (m*10))=some (.string v.nm))
      (first|(with_reducible (refine⟨?_,?_,?_,?_,?_,?_⟩ <;> repeat (first|assumption|refine zg ?_|refine zj _ ?_|refine zk (by omega) ?_|refine zd z.o ?_ (by first|omega|(rw[au];omega)))))|go_keep)
      (first
        | (go_at_call 169;refine he.o.mono ?_;rintro e be ⟨rfl,al⟩;have z:=za (zw al)))
     have c9:=za (K.o.on z.o);have Nn:=zd z.o v1 b3;have zP:=zd z.o v6 b3;have rt:=zd z.o By b3;have po:=zd z.o BY b3;have b4:bx<be.heap.size:=(by have:=z.o.size;omega);clear K z he a4 s1 s2 a5 a9 bt Z zL v1 v2 v3 v4 v5 v6 By Nl BY;obtain⟨a4,s1,s2,a5,a9,bt,Z⟩:=bz c9.o.bx;obtain⟨i9,n3⟩:∃i9,(if rp<(m:Int) then [v.a] else []).foldl aj q=i9:=⟨_,rfl⟩;have cs:=za n3;clear n3;go_upto_if 52 with fail;go_cut [] from 35 to 86 (λi5=>aa (bq w i5 N l w.heap.size (xS g L g8) a i9 (xS bx d.ab.length ck) (.slice c4 ar cm) (.slice es bs c0) d)/\bx<i5.heap.size/\i5.cell? (xD bx (m*10+6))=some (.string v.ck)/\i5.cell? (xD bx (m*10+7))=some (xI v.ca)/\i5.cell? (xD bx (m*10+9))=some (.bool v.tm))
     case first =>
      by_cases cv:rp<(m:Int)
      . rw[ag cv] at cs;go_wp2_with (go_at_call 246;refine (du v.a be c9.o.ak).mono ?_;rintro e pe ⟨rfl,A,B⟩;have J:=za A;have D:=za B;clear A B);go_meet;have m9:¬bx=l:=(by omega);have h8:=D.o.block bx b4 m9;refine⟨by rw[<- cs.o];exact c9.o.aX J.o D.o,dD b4 D.o.size,(World.cell?_of_block (w:=be) h8).trans zP,(World.cell?_of_block (w:=be) h8).trans rt,(World.cell?_of_block (w:=be) h8).trans po⟩
      rw[ae cv] at cs;go_wp2_with fail;go_meet;exact⟨by rw[<- cs.o];exact c9,b4,zP,rt,po⟩
     case rest =>
      obtain⟨fx,io,Nr,MF,MG⟩:=hcut;have g0:=cs;clear c9 cs Nn zP rt po b4 a4 s1 s2 a5 a9 bt Z;obtain⟨a4,s1,s2,a5,a9,bt,Z⟩:=bz fx.o.bx;go_upto_region 10 with fail;have hg:=za (fx.o.drew.find v.ck);obtain⟨rs,i1⟩:∃rs,bC (bm v.ck d.ab 0)=rs:=⟨_,rfl⟩;have lv:=za i1;rw[i1] at hg;clear i1
      go_region_held3 (λC=>C.cell? (xD w.heap.size 0)=some (.string d.nm)/\C.cell? (xD w.heap.size 1)=some (xI d.a)/\C.cell? (xD w.heap.size 2)=some (xS bx d.ab.length ck)/\C.cell? (xD w.heap.size 3)=some (.slice c4 ar cm)/\C.cell? (xD w.heap.size 4)=some (.slice es bs c0)/\C.cell? (xD bx (m*10+6))=some (.string v.ck))
       (first|(with_reducible (refine⟨?_,?_,?_,?_,?_,?_⟩ <;> repeat (first|assumption|refine zg ?_|refine zj _ ?_|refine zk (by omega) ?_|refine zd a0.o ?_ (by first|omega|(rw[au];omega)))))|go_keep)
       (first
         | (go_at_call 169;refine hg.o.mono ?_;rintro e zO ⟨rfl,gl⟩;have a0:=za (zw gl)))
      have dn:=za (fx.o.on a0.o);have rt:=zd a0.o MF io;have po:=zd a0.o MG io;have MV:bx<zO.heap.size:=(by have:=a0.o.size;omega);have I:(e7 d.ab 0 (d.ab.take (m+1))).foldl aj c2=(if (v.tm&&decide (rs<0))=true then [v.ca] else []).foldl aj i9:=(by rw[pr.o,bc,zT.o,oz,bc,lt.o,lv.o,Nat.zero_add,g0.o]);clear fx a0 hg a4 s1 s2 a5 a9 bt Z Nr MF MG io pr zT lt lv g0;obtain⟨a4,s1,s2,a5,a9,bt,Z⟩:=bz dn.o.bx;obtain⟨zH,or⟩:∃zH,v.tm=zH:=⟨_,rfl⟩;rw[or] at po I;have I:=za I;clear or;cases zH with
      | false =>
        go_wp2_with fail;go_roundg (gk-1);case measure=>omega
        exact⟨m+1,by omega,by omega,by go_num,by rw[I.o];exact dn⟩
      | true =>
        by_cases cv:rs<0
        . have F:(e7 d.ab 0 (d.ab.take (m+1))).foldl aj c2=aj i9 v.ca:=(by rw[I.o];simp[cv]);have I:=za F;clear F;go_wp2_with (go_at_call 246;refine (du v.ca zO dn.o.ak).mono ?_;rintro e NB ⟨rfl,m0,m2⟩;have rL:=za m0;have sc:=za m2;clear m0 m2);go_roundg (gk-1);case measure=>omega
          exact⟨m+1,by omega,by omega,by go_num,by rw[I.o];exact dn.o.aX rL.o sc.o⟩
        have F:(e7 d.ab 0 (d.ab.take (m+1))).foldl aj c2=i9:=(by rw[I.o];simp[cv]);have I:=za F;clear F;go_wp2_with fail;go_roundg (gk-1);case measure=>omega
        exact⟨m+1,by omega,by omega,by go_num,by rw[I.o];exact dn⟩
   have zi:m=ex:=(by omega);subst zi;have F:(e7 d.ab 0 (d.ab.take m)).foldl aj c2=(e7 d.ab 0 d.ab).foldl aj c2:=(by rw[de (by have:=zW.o;omega)]);rw[F] at K;obtain⟨g9,ip⟩:∃g9,(e7 d.ab 0 d.ab).foldl aj c2=g9:=⟨_,rfl⟩;have ln:=za ip;rw[ip] at K;clear F ip fv x3 M7;go_wp2_with fail;obtain⟨Q,z2⟩:∃Q,d.eqs.length=Q:=⟨_,rfl⟩;have ls:=za z2;have MQ:Q<=100000:=(by obtain⟨_,_,_,h,_⟩:=K.o.nd.qs;omega);have zr:bs=Q:=(by obtain⟨_,_,h,_,_⟩:=K.o.nd.qs;injection h with _ h _;omega);subst zr;clear z2;obtain⟨Ch,rfl⟩:∃Ch,Ch=wr:=⟨_,rfl⟩;go_loopg [9] (bs+1) (λj i wr=>∃b0:Nat,b0+j=bs+1/\b0<=bs/\i=xI b0/\aa (bq w wr N l w.heap.size (xS g L g8) a ((gZ d.ab (d.eqs.take b0)).foldl aj g9) (.slice ev m ck) (.slice c4 ar cm) (.slice es bs c0) d));case atStart=>exact⟨0,by omega,aE _,rfl,K⟩
   case round =>
    obtain⟨b0,zh,ne,rfl,G⟩:=hrel;obtain⟨a4,s1,s2,a5,a9,bt,Z⟩:=bz G.o.bx;by_cases M4:b0<bs
    . skip;obtain⟨q,g6⟩:∃q,d.eqs[b0]?=some q:=⟨_,av (by have:=ls.o;omega)⟩;have gc:=za (tk.o q (aM g6));obtain⟨Nh,Ni,zq,_,of⟩:=G.o.nd.qs;injection zq with c1 eq er
      subst c1 er;clear eq;obtain⟨vG,u1,u2,ro,pb,rfl,MZ,tt,tx,un,up,gs,ca⟩:=of b0 q g6;have pr:=za (rf (vs:=d.ab) g6);have z9:vG<wr.heap.size:=(by have:=G.o.size;omega);clear of g6;obtain⟨t0,bL⟩:∃t0,(gZ d.ab (d.eqs.take b0)).foldl aj g9=t0:=⟨_,rfl⟩;have sE:=za bL;rw[bL] at G;clear bL;go_wp2_with fail;obtain⟨a3,iR⟩:∃a3,q.ns.length=a3:=⟨_,rfl⟩;rw[<- gc.o];rw[<- gc.o] at ca;rw[iR] at gs ca ⊢;have b2:=za iR;have Bu:a3<=100000:=(by obtain⟨_,_,h1,h2,_⟩:=gs;omega);clear iR tt tx un up;obtain⟨bk,a2⟩:∃bk,wr.alloc (.cells #[.slice u1 a3 u2,.slice ro a3 pb,xI q.a,xI (q.ex:Nat)] 275)=bk:=⟨_,rfl⟩;have bE:xB wr bk:=a2▸(Below.refl _ wr).alloc (an _) _;have E:=za (G.o.on bE);have sh:=za (gs.aH (bE.mono G.o.size));have sn:=za (ca.aH (bE.mono G.o.size));have st:aa (bk.heap[wr.heap.size]?=some (.cells #[.slice u1 a3 u2,.slice ro a3 pb,xI q.a,xI (q.ex:Nat)] 275 (0,0))):=a2▸zc wr _;have z0:=G.o.size;have g1:l<wr.heap.size:=ze G.o.ak.aC;rw[a2];obtain⟨kw,rfl⟩:∃kw,kw=wr:=⟨_,rfl⟩;obtain⟨hT,rfl⟩:∃hT,hT=gk:=⟨_,rfl⟩;clear gs ca a2 bE G a4 s1 s2 a5 a9 bt Z;go_loopg [11] (a3+1) (λj i wr=>∃Y:Nat,Y+j=a3+1/\Y<=a3/\i=xI Y/\aa (bq w wr N l w.heap.size (xS g L g8) a ((fA d.ab (q.ns.take Y) (q.ps.take Y)).foldl aj t0) (.slice ev m ck) (.slice c4 ar cm) (xS vG bs c0) d)/\aa (wr.heap[kw.heap.size]?=some (.cells #[.slice u1 a3 u2,.slice ro a3 pb,xI q.a,xI (q.ex:Nat)] 275 (0,0)))/\aa (kf wr N (.slice u1 a3 u2) q.ns)/\aa (gm wr N (.slice ro a3 pb) q.ps));case atStart=>exact⟨0,by omega,aE _,rfl,E,st,sh,sn⟩
      case round =>
       obtain⟨Y,M2,AT,rfl,R,hw,hQ,hv⟩:=hrel;obtain⟨a4,s1,s2,a5,a9,bt,Z⟩:=bz R.o.bx;obtain⟨tm,tn,hR,mp,tr,fq⟩:=zU hw.o;by_cases M3:Y<a3
       . skip;obtain⟨s,zs⟩:∃s,q.ns[Y]?=some s:=⟨_,av (by have:=b2.o;omega)⟩;obtain⟨p,zn⟩:∃p,q.ps[Y]?=some p:=⟨_,av (by have:=b2.o;have:=gc.o;omega)⟩;obtain⟨Nj,Nk,zu,_,op⟩:=hQ.o;injection zu with c1 eq er
         subst c1 er;clear eq;obtain⟨_,pt,rfl,MX,Ns⟩:=op Y s zs;obtain⟨Nf,Ng,zo,_,n2⟩:=hv.o;injection zo with c1 eq er
         subst c1 er;clear eq;obtain⟨vz,rfl,MY,MJ⟩:=n2 Y p zn;have l2:=za (wx (vs:=d.ab) zs zn);have na:pt<wr.heap.size:=(by have:=R.o.size;omega);have g3:vz<wr.heap.size:=(by have:=R.o.size;omega);have M9:kw.heap.size<wr.heap.size:=fq;clear op n2 zs zn;obtain⟨t1,i2⟩:∃t1,(fA d.ab (q.ns.take Y) (q.ps.take Y)).foldl aj t0=t1:=⟨_,rfl⟩;have l3:=za i2;rw[i2] at R;clear i2;go_upto_region 20 with fail;have zR:=za (R.o.drew.find s)
         go_region_held3 (λC=>C.cell? (xD w.heap.size 0)=some (.string d.nm)/\C.cell? (xD w.heap.size 1)=some (xI d.a)/\C.cell? (xD w.heap.size 2)=some (.slice ev m ck)/\C.cell? (xD w.heap.size 3)=some (.slice c4 ar cm)/\C.cell? (xD w.heap.size 4)=some (xS vG bs c0)/\C.cell? (xD kw.heap.size 0)=some (xS pt a3 u2)/\C.cell? (xD pt Y)=some (.string s))
          (first|(with_reducible (refine⟨?_,?_,?_,?_,?_,?_,?_⟩ <;> repeat (first|assumption|refine zg ?_|refine zj _ ?_|refine zk (by omega) ?_|refine zd z.o ?_ (by first|omega|(rw[au];omega)))))|go_keep)
          (first
            | (go_at_call 169;refine zR.o.mono ?_;rintro e be ⟨rfl,al⟩;have z:=za (zw al)))
         have O:=za (R.o.on z.o);have ge:aa (be.heap[kw.heap.size]?=some (.cells #[xS pt a3 u2,xS vz a3 pb,xI q.a,xI (q.ex:Nat)] 275 (0,0))):=(z.o.block _ fq).trans hw.o;have hN:=za (hQ.o.aH (z.o.mono R.o.size));have hu:=za (hv.o.aH (z.o.mono R.o.size));have Nt:=zd z.o MJ g3;have z8:vz<be.heap.size:=(by have:=z.o.size;omega);have m1:(fA d.ab (q.ns.take (Y+1)) (q.ps.take (Y+1))).foldl aj t0=(if kp d.ab s=true then [p] else []).foldl aj t1:=(by rw[l2.o,bc,l3.o]);have fr:=za m1;have te:=za O.o.nd.vs;clear m1 R hw hQ hv z zR l2 l3 a4 s1 s2 a5 a9 bt Z tm tn hR mp tr fq Ns MJ na g3;obtain⟨a4,s1,s2,a5,a9,bt,Z⟩:=bz O.o.bx;obtain⟨tm,tn,hR,mp,tr,fq⟩:=zU ge.o;have A6:Y+1<=100000:=(by omega);obtain⟨o8,eb⟩:∃o8,kp d.ab s=o8:=⟨_,rfl⟩;rw[eb] at fr;cases P:bm s d.ab 0 with
         | none =>
           have nd:o8=true:=(by rw[<- eb];unfold kp;rw[P]);subst nd;clear eb P;unfold bC;go_wp2_with (go_at_call 246;refine (du p be O.o.ak).mono ?_;rintro e pe ⟨rfl,A,B⟩;have J:=za A;have D:=za B;clear A B);go_roundg (gk-1);case measure=>omega
           have ds:=D.o.below (show N<=be.heap.size from O.o.size) (λk e=>by subst e;exact O.o.ak.lt);exact⟨Y+1,by omega,by omega,by go_num,by rw[fr.o];exact O.o.aX J.o D.o,(D.o.block _ fq (by omega)).trans ge.o,hN.o.aH ds,hu.o.aH ds⟩
         | some f =>
           obtain⟨_,m7,v,i3,_⟩:=kP P;rw[Nat.sub_zero] at i3;rw[Nat.zero_add] at m7;obtain⟨zM,zN,i4,os,em⟩:=te.o;injection i4 with c1 eq er
           subst c1 er;obtain⟨_,bx,rfl,xE,zL,v1,v2,v3,_⟩:=em f v i3;have g5:o8=v.bn:=(by rw[<- eb];unfold kp;rw[P];simp only[i3]);have MT:f<m:=(by omega);have xC:m<=16:=(by omega);have AI:bx<be.heap.size:=(by have:=O.o.size;omega);clear em i3 eb P eq m7 zL v1 v2 os;rw[<- g5] at v3;clear g5;unfold bC;have h9:¬((f:Int)<0):=(by omega);cases o8 with
           | true =>
             go_wp2_with (go_at_call 246;refine (du p be O.o.ak).mono ?_;rintro e pe ⟨rfl,A,B⟩;have J:=za A;have D:=za B;clear A B);go_roundg (gk-1);case measure=>omega
             have ds:=D.o.below (show N<=be.heap.size from O.o.size) (λk e=>by subst e;exact O.o.ak.lt);exact⟨Y+1,by omega,by omega,by go_num,by rw[fr.o];exact O.o.aX J.o D.o,(D.o.block _ fq (by omega)).trans ge.o,hN.o.aH ds,hu.o.aH ds⟩
           | false =>
             go_wp2_with fail;go_roundg (gk-1);case measure=>omega
             exact⟨Y+1,by omega,by omega,by go_num,by rw[fr.o];exact O,ge,hN,hu⟩
       have x1:Y=a3:=(by omega);subst x1;have F:(gZ d.ab (d.eqs.take (b0+1))).foldl aj g9=(fA d.ab (q.ns.take Y) (q.ps.take Y)).foldl aj t0:=(by rw[pr.o,bc,sE.o,de (by have:=b2.o;omega),de (by have:=b2.o;have:=gc.o;omega)]);rw[<- F] at R;clear F;go_wp2_with fail;go_roundg (hT-1);case measure=>omega
       exact⟨b0+1,by omega,by omega,by go_num,R⟩
    have nm:b0=bs:=(by omega);subst nm;have F:(gZ d.ab (d.eqs.take b0)).foldl aj g9=(gZ d.ab d.eqs).foldl aj g9:=(by rw[de (by have:=ls.o;omega)]);rw[F] at G;obtain⟨c3,it⟩:∃c3,(gZ d.ab d.eqs).foldl aj g9=c3:=⟨_,rfl⟩;have lo:=za it;rw[it] at G;clear F it K zh ne;go_wp2_with fail;obtain⟨X,z5⟩:∃X,d.az.length=X:=⟨_,rfl⟩;have md:=za z5;have MR:X<=100000:=(by obtain⟨_,_,_,h,_⟩:=G.o.nd.xs;omega);have zy:ar=X:=(by obtain⟨_,_,h,_,_⟩:=G.o.nd.xs;injection h with _ h _;omega);subst zy;clear z5 a4 s1 s2 a5 a9 bt Z;obtain⟨Ev,rfl⟩:∃Ev,Ev=wr:=⟨_,rfl⟩;go_loopg [13] (ar+1) (λj i wr=>∃H:Nat,H+j=ar+1/\H<=ar/\i=xI H/\aa (bq w wr N l w.heap.size (xS g L g8) a ((ek a k d 0 (d.az.take H)).foldl aj c3) (.slice ev m ck) (.slice c4 ar cm) (.slice es b0 c0) d));case atStart=>exact⟨0,by omega,aE _,rfl,G⟩
    case round =>
     obtain⟨H,M8,A7,rfl,ak⟩:=hrel;obtain⟨a4,s1,s2,a5,a9,bt,Z⟩:=bz ak.o.bx;by_cases M6:H<ar
     . obtain⟨e,w0⟩:∃e,d.az[H]?=some e:=⟨_,av (by have:=md.o;omega)⟩;obtain⟨No,Np,zx,_,o7⟩:=ak.o.nd.xs;injection zx with c1 eq er
       subst c1 er;clear eq;obtain⟨v0,Nz,rfl,M0,⟨tt,tx,un,up,MO,MP⟩,zA,zB,rfl,x0,_⟩:=o7 H e w0;have AS:v0<wr.heap.size:=(by have:=ak.o.size;omega);have l5:=za (wa (nds:=a) (k:=k) (d:=d) (j:=0) w0);obtain⟨t0,bL⟩:∃t0,(ek a k d 0 (d.az.take H)).foldl aj c3=t0:=⟨_,rfl⟩;rw[bL] at ak;have F:(ek a k d 0 (d.az.take (H+1))).foldl aj c3=(jb a k d H e).foldl aj t0:=(by rw[l5.o,bc,bL,Nat.zero_add]);have I:=za F;clear o7 w0 bL F l5;go_upto_region 27 with fail;obtain⟨bk,a2⟩:∃bk,wr.alloc (.cells #[.string e.op,xI e.a,xI e.nm,.slice zA e.ah.length zB,.string e.s,xI e.n] 190)=bk:=⟨_,rfl⟩;have bE:xB wr bk:=a2▸(Below.refl _ wr).alloc (an _) _;have E:=za (ak.o.on bE);have l6:aa (bk.heap[wr.heap.size]?=some (.cells #[.string e.op,xI e.a,xI e.nm,.slice zA e.ah.length zB,.string e.s,xI e.n] 190 (0,0))):=a2▸zc wr _;have g1:l<wr.heap.size:=ze ak.o.ak.aC;rw[a2];obtain⟨ps,m4⟩:∃ps,wr.heap.size=ps:=⟨_,rfl⟩;rw[m4] at l6 g1 ⊢;clear m4 a2 bE ak a4 s1 s2 a5 a9 bt Z tt tx un up MO MP;obtain⟨a4,s1,s2,a5,a9,bt,Z⟩:=bz E.o.bx;obtain⟨tm,tn,hR,mp,Nw,Nx,tr,fq⟩:=zt l6.o;have bl:=za (E.o.find e.s);rcases Fm e.op.toList with ⟨rx,fd⟩|⟨rx,zQ,fd⟩|⟨rx,zQ,MD,fd⟩|⟨rx,zQ,MD,Nq,fd⟩|⟨rx,zQ,MD,Nq,fd⟩
       rotate_right 1
       . have mk:=za fd;clear fd;cases ME:(e.op.toList==[99,97,108,108]) with
         | false =>
           have F:(ek a k d 0 (d.az.take (H+1))).foldl aj c3=t0:=(by rw[I.o,jb,ae (by rw[mk.o];simp),ME];rfl);have I:=za F;clear F bl;go_wp2_with fail;go_roundg (gk-1);case measure=>omega
           exact⟨H+1,by omega,by omega,by go_num,by rw[I.o];exact E⟩
         | true =>
           have F:(ek a k d 0 (d.az.take (H+1))).foldl aj c3=(if jQ a k d H e=true then [] else [e.nm]).foldl aj t0:=(by rw[I.o,jb,ae (by rw[mk.o];simp),ME];rfl);have I:=za F;have hm:=za (lX e.s k (by have:=sg.o;omega) bk E.o.ak);clear F bl;go_upto_region 37 with (go_at_call 95;refine hm.o.mono ?_;rintro e' be ⟨rfl,rfl⟩);obtain⟨ML,Nu,Nv,MM⟩:=zp E.o.ak.aC;have MK:aa (xB bk bk.drew):=⟨rfl,rfl,rfl,an _,λ_ _=>rfl⟩;cases go:ea e.s (a.take k) 0 with
           | none =>
             have F:(ek a k d 0 (d.az.take (H+1))).foldl aj c3=aj t0 e.nm:=(by rw[I.o,ae (by unfold jQ;rw[go];simp)];rfl);have I:=za F;clear F hm;unfold bC;refine wp_region_held_drew (S:=(λC=>C.cell? (xD ps 2)=some (xI e.nm))) (by kernel_rfl) (zg hR) (λwd=>?_);refine aR 0 rfl (v:=?v1) (ao ⟨by rfl,?h1⟩) ?_;case h1=>(intro pl T;(try dsimp only at T);go_simp;try with_reducible rfl)
             try simp only[Act.put,aD]
             refine aR 1 rfl (v:=?v2) (ao ⟨by rfl,?h2⟩) ?_;case h2=>(intro pl T;(try dsimp only at T);go_simp;try with_reducible rfl)
             try simp only[Act.put,aD]
             refine aR 2 rfl (v:=?v3) (ao ⟨by rfl,?h3⟩) ?_;case h3=>(intro pl T;(try dsimp only at T);go_simp;try with_reducible rfl)
             try simp only[Act.put,aD]
             refine aR 3 rfl (v:=undef) (ap ⟨by rfl,rfl⟩) ?_;try simp only[Act.put,aD]
             refine aR 4 rfl (v:=undef) (ap ⟨by rfl,rfl⟩) ?_;try simp only[Act.put,aD]
             refine aR 5 rfl (v:=undef) (ap ⟨by rfl,rfl⟩) ?_;try simp only[Act.put,aD]
             refine aR 6 rfl (v:=undef) (ap ⟨by rfl,rfl⟩) ?_;try simp only[Act.put,aD]
             refine aR 7 rfl (v:=undef) (ap ⟨by rfl,rfl⟩) ?_;try simp only[Act.put,aD]
             refine aR 8 rfl (v:=undef) (ap ⟨by rfl,rfl⟩) ?_;try simp only[Act.put,aD]
             refine aR 9 rfl (v:=undef) (ap ⟨by rfl,rfl⟩) ?_;try simp only[Act.put,aD]
             refine aR 10 rfl (v:=undef) (ap ⟨by rfl,rfl⟩) ?_;try simp only[Act.put,aD]
             refine aR 11 rfl (v:=undef) (ap ⟨by rfl,rfl⟩) ?_;try simp only[Act.put,aD]
             refine aR 12 rfl (v:=undef) (ap ⟨by rfl,rfl⟩) ?_;try simp only[Act.put,aD]
             refine aR 13 rfl (v:=undef) (ap ⟨by rfl,rfl⟩) ?_;try simp only[Act.put,aD]
             refine aR 14 rfl (v:=undef) (ap ⟨by rfl,rfl⟩) ?_;try simp only[Act.put,aD]
             refine aR 15 rfl (v:=?v4) (ao ⟨by rfl,?h4⟩) ?_;case h4=>(intro pl T;(try dsimp only at T);go_simp;try with_reducible rfl)
             try simp only[Act.put,aD]
             refine aR 16 rfl (v:=?v5) (ao ⟨by rfl,?h5⟩) ?_;case h5=>(intro pl T;(try dsimp only at T);go_simp;try with_reducible rfl)
             try simp only[Act.put,aD]
             refine aR 17 rfl (v:=undef) (ap ⟨by rfl,rfl⟩) ?_;try simp only[Act.put,aD]
             refine aR 18 rfl (v:=undef) (ap ⟨by rfl,rfl⟩) ?_;try simp only[Act.put,aD]
             refine aR 19 rfl (v:=undef) (ap ⟨by rfl,rfl⟩) ?_;try simp only[Act.put,aD]
             refine aR 20 rfl (v:=undef) (ap ⟨by rfl,rfl⟩) ?_;try simp only[Act.put,aD]
             refine aR 21 rfl (v:=undef) (ap ⟨by rfl,rfl⟩) ?_;try simp only[Act.put,aD]
             refine aR 22 rfl (v:=undef) (ap ⟨by rfl,rfl⟩) ?_;try simp only[Act.put,aD]
             refine aR 23 rfl (v:=undef) (ap ⟨by rfl,rfl⟩) ?_;try simp only[Act.put,aD]
             refine aR 24 rfl (v:=undef) (ap ⟨by rfl,rfl⟩) ?_;try simp only[Act.put,aD]
             refine aR 25 rfl (v:=undef) (ap ⟨by rfl,rfl⟩) ?_;try simp only[Act.put,aD]
             refine aR 26 rfl (v:=undef) (ap ⟨by rfl,rfl⟩) ?_;try simp only[Act.put,aD]
             refine aR 27 rfl (v:=undef) (ap ⟨by rfl,rfl⟩) ?_;try simp only[Act.put,aD]
             refine aR 28 rfl (v:=undef) (ap ⟨by rfl,rfl⟩) ?_;try simp only[Act.put,aD]
             refine aR 29 rfl (v:=?v6) (ao ⟨by rfl,?h6⟩) ?_;case h6=>(intro pl T;(try dsimp only at T);go_simp;try with_reducible rfl)
             try simp only[Act.put,aD]
             refine wpAnyH_done (by kernel_rfl) ?_ _;have d2:=zg hR;have cn:=za E.o.drew;go_wp2_with (go_at_call 246;refine (du e.nm bk.drew cn.o.ak).mono ?_;rintro e' pe ⟨rfl,A,B⟩;have J:=za A;have D:=za B;clear A B);go_roundg (gk-1);case measure=>omega
             exact⟨H+1,by omega,by omega,by go_num,by rw[I.o];exact cn.o.aX J.o D.o⟩
           | some f =>
             obtain⟨v9,m5,c,m3,wp⟩:=q7 go;clear wp v9;rw[Nat.sub_zero,List.getElem?_take] at m3;have m6:f<k:=(by rw[List.length_take] at m5;omega);rw[ag m6] at m3;obtain⟨Nb,Nc,zm,_,nx⟩:=E.o.ak.ns;injection zm with c1 eq er
             subst er;clear eq;obtain⟨g',MH,fd,MI,zC,zJ,zD,zE,zI,zF,m8,MW,qr,qs,rb,rd,rg,ns⟩:=nx f c m3;rw[<- c1] at m8;clear c1;cases m8;have bp:g<bk.heap.size:=(by have:=E.o.size;omega);have pp:=za (λ(b:Bool) W (M:xB bk W)=>vU c.nm c.a b W (ns.vs.aH (M.mono E.o.size)) (aJ E.o.size M.size) ⟨zC,zJ,zD,rfl⟩ ⟨zE,zI,zF,rfl⟩);have ta:=za (λW (M:xB bk W)=>FD d.nm d.a H W (E.o.nd.qs.aH (M.mono E.o.size)) (aJ E.o.size M.size) ⟨ev,m,ck,rfl⟩ ⟨some (xD v0 0),ar,cm,rfl⟩);have g2:jQ a k d H e=((dP true c.ab==e.ah.length)&&(dP false c.ab==fC H d.eqs)):=(by unfold jQ;rw[go];simp only[m3]);have b1:=za g2;obtain⟨i8,g4⟩:∃i8,e.ah.length=i8:=⟨_,rfl⟩;rw[g4] at mp x0 b1;have l1:aa (∀W,xB bk W->(λC=>C.cell? (xD l 0)=some (xS g L g8)/\C.cell? (xD g (f*5))=some (.string c.nm)/\C.cell? (xD g (f*5+1))=some (xI c.a)/\C.cell? (xD g (f*5+2))=some (.slice MH fd MI)/\C.cell? (xD g (f*5+3))=some (.slice zC zJ zD)/\C.cell? (xD g (f*5+4))=some (.slice zE zI zF)/\C.cell? (xD ps 3)=some (.slice zA i8 zB)/\C.cell? (xD w.heap.size 0)=some (.string d.nm)/\C.cell? (xD w.heap.size 1)=some (xI d.a)/\C.cell? (xD w.heap.size 2)=some (.slice ev m ck)/\C.cell? (xD w.heap.size 3)=some (xS v0 ar cm)/\C.cell? (xD w.heap.size 4)=some (.slice es b0 c0)) W):=λW M=>⟨zd M ML MM,zd M qr bp,zd M qs bp,zd M rb bp,zd M rd bp,zd M rg bp,zd M mp fq,zd M a4 Z,zd M s1 Z,zd M s2 Z,zd M a5 Z,zd M a9 Z⟩;have lb:=pp;obtain⟨i6,h0⟩:∃i6,dP true c.ab=i6:=⟨_,rfl⟩;obtain⟨i7,h7⟩:∃i7,dP false c.ab=i7:=⟨_,rfl⟩;obtain⟨U,wn⟩:∃U,fC H d.eqs=U:=⟨_,rfl⟩;rw[h0,h7,wn] at b1;rw[wn] at ta;have pp:aa (∀(b:Bool) W,xB bk W->xK 46 #[.agg #[.string c.nm,xI c.a,.slice MH fd MI,.slice zC zJ zD,.slice zE zI zF],.bool b] W (λe C=>e=.returned (xI ((if b=true then i6 else i7:Nat):Int))/\xB W C)):=λb W M=>by
              have:=lb.o b W M;cases b
              . rw[h7] at this;exact this
              rw[h0] at this;exact this
             have h9:¬((f:Int)<0):=(by omega);have xs:f<L:=(by have:=sg.o;omega);clear hm go m5 m3 nx ns g2 g4 lb h0 h7 wn qr qs rb rd rg;unfold bC;obtain⟨r,cv⟩:∃r:Bool,((i6:Int) != (i8:Int)||(i7:Int) != (U:Int))=r:=⟨_,rfl⟩;have F:(ek a k d 0 (d.az.take (H+1))).foldl aj c3=if r=true then aj t0 e.nm else t0:=by
              rw[I.o,b1.o,<- cv];by_cases h1:i6=i8
              . by_cases h2:i7=U
                . rw[h1,h2];simp
                simp[h1,h2,show ¬((i7:Int)=U) by omega]
              simp[h1,show ¬((i6:Int)=i8) by omega]
             have I:=za F;clear F;refine Gy l1 pp ta h9 xs cv _ (λ_ _ ts _ _ h=>by cases ts <;> exact h) ?_;intro zO Ex EI EQ Fx FT Gl GI If In IN IS IT Kn Ln Mo Mp Mq Mr Ms Mt Mu Mv Mw Mx My Mz MA MB MC gl;have a0:=za gl;clear gl pp ta l1 b1 cv;have d2:=zd a0.o hR fq;have cn:=za (E.o.on a0.o);cases r with
             | false =>
               go_wp2_with fail;go_roundg (gk-1);case measure=>omega
               exact⟨H+1,by omega,by omega,by go_num,by rw[I.o];exact cn⟩
             | true =>
               go_wp2_with (go_at_call 246;refine (du e.nm _ cn.o.ak).mono ?_;rintro e' NC ⟨rfl,A,B⟩;have J:=za A;have D:=za B;clear A B);go_roundg (gk-1);case measure=>omega
               exact⟨H+1,by omega,by omega,by go_num,by rw[I.o];exact cn.o.aX J.o D.o⟩
       all_goals
        have mk:=za fd;clear fd;cases P:bm e.s d.ab 0 with
        | none =>
          have F:(ek a k d 0 (d.az.take (H+1))).foldl aj c3=aj t0 e.nm:=(by rw[I.o,jb,ag mk.o,P];rfl);have I:=za F;rw[P] at bl;unfold bC at bl;clear F P
          go_wp2_with (first
           | (go_at_call 246;revert z;intro z;refine (du e.nm be (E.o.on z.o).ak).mono ?_;rintro e' pe ⟨rfl,A,B⟩;have J:=za A;have D:=za B;clear A B)
           | (go_at_call 169;refine bl.o.mono ?_;rintro e' be ⟨rfl,al⟩;have z:=za al;have Ny:=zd al hR fq;clear al))
          go_roundg (gk-1);case measure=>omega
          exact⟨H+1,by omega,by omega,by go_num,by rw[I.o];exact (E.o.on z.o).aX J.o D.o⟩
        | some f =>
          have F:(ek a k d 0 (d.az.take (H+1))).foldl aj c3=t0:=(by rw[I.o,jb,ag mk.o,P];rfl);have I:=za F;rw[P] at bl;unfold bC at bl;have h9:¬((f:Int)<0):=(by omega);clear F P;go_wp2_with (go_at_call 169;refine bl.o.mono ?_;rintro e' be ⟨rfl,al⟩;have z:=za al;clear al);go_roundg (gk-1);case measure=>omega
          exact⟨H+1,by omega,by omega,by go_num,by rw[I.o];exact E.o.on z.o⟩
     have no:H=ar:=(by omega);subst no;have F:(l8 a k d).foldl aj o=(ek a k d 0 (d.az.take H)).foldl aj c3:=(by rw[zS.o,ln.o,lo.o,de (by have:=md.o;omega)]);rw[<- F] at ak;clear F zS ln lo;go_wp2_with fail;go_end0;exact⟨rfl,by rw[sg.o];exact ak.o.ak,ak.o.fr⟩
end
end Go.Proofs.YtmfkofhgdjechaaGreatDoor
