/- Part 32 of the proof. -/
import Derived.Test.YtmfkofhgdjechaaGreatDoorK30
set_option maxRecDepth 100000
set_option maxHeartbeats 8000000
namespace Go.Proofs.YtmfkofhgdjechaaGreatDoor
open Go.Proofs.Tryz
open Go.RowKit
section
theorem xa {N:Nat}{T xv qv:Xv}{d:Nd}(nm:Xb)(a:Int)(v:Nat)(B:v<d.ab.length)(w:Xw)(h:iW w N T d.ab)(K:N<=w.heap.size)(r:∃a n c,xv=.slice a n c)(ar:∃a n c,qv=.slice a n c) :
 xK 250 #[.agg #[.string nm,xI a,T,xv,qv],xI v] w (λe w'=>e=.returned (.bool (fS d.ab v (d.ab.length+1) v))/\xB w w'):=by
 obtain⟨V,Y,X,rfl⟩:=r;obtain⟨Q,S,R,rfl⟩:=ar;have D:=za (λW i x (r:d.ab[i]?=some x) (J:xB w W)=>ng nm a i x r W (h.aH (J.mono K)) (aJ K J.size) ⟨V,Y,X,rfl⟩ ⟨Q,S,R,rfl⟩);obtain⟨a3,a4,rfl,F,_⟩:=h;obtain⟨L,G⟩:∃L,d.ab.length=L:=⟨_,rfl⟩;have H:=za G;rw[G] at F B D ⊢;clear G;unfold k0 at D;go_enter func250,ntmps250;go_wp2_with fail;go_loopg [5,6] (L+2) (λj p i wr=>∃m P:Nat,m+j=L+2/\m<=L+1/\P<L/\p=xI P/\i=xI m/\aa (fS d.ab v (L+1-m) P=fS d.ab v (L+1) v)/\aa (xB w wr)/\aa (xH wr w.heap.size #[.string nm,xI a,.slice a3 L a4,.slice V Y X,.slice Q S R] 103));case atStart=>exact⟨0,v,by omega,by omega,B,rfl,rfl,rfl,(Below.refl _ _).alloc (an _) _,zc w _⟩
 case round =>
  obtain⟨m,P,al,hm,a5,rfl,rfl,C,l,I⟩:=hrel;obtain⟨a9,s1,s2,be,bk,bl,a2⟩:=bz I.o;by_cases ak:m<=L
  . obtain⟨x,r⟩:∃x,d.ab[P]?=some x:=⟨_,av (by have:=H.o;omega)⟩;have f:=za (D.o wr P x r l.o);rw[w6 r] at f;have y:(m:Int)<=(L:Int):=by omega
    have k:fS d.ab v (L+1) v=match e5 d.ab P with|none=>false|some j=>if j=v then true else fS d.ab v (L+1-(m+1)) j:=by rw[<- C.o,show L+1-m=(L+1-(m+1))+1 by omega];rfl
    obtain⟨O,z⟩:∃O,(eN d.ab x).2=O:=⟨_,rfl⟩;rw[z] at f;clear r z C;cases A:e5 d.ab P with
    | none => rw[A] at f k;have o:=za k;unfold bC at f;clear A k;go_wp2_with (go_at_call 168;refine f.o.mono ?_;rintro e U ⟨rfl,b⟩;have g:=za (l.o.trans (b.mono l.o.size));clear b);go_ret;exact⟨by rw[o.o];rfl,g.o.alloc g.o.size _⟩
    | some j =>
      have u:=o2 A;rw[H.o] at u;rw[A] at f k;simp only at k;have o:=za k;unfold bC at f;have Z:¬((j:Int)<0):=(by omega);clear A k;by_cases q:j=v
      . have s:fS d.ab v (L+1) v=true:=(by rw[o.o,ag q]);have o:=za s;clear s;subst q;go_wp2_with (go_at_call 168;refine f.o.mono ?_;rintro e U ⟨rfl,b⟩;have g:=za (l.o.trans (b.mono l.o.size));clear b);go_ret;exact⟨by rw[o.o];rfl,g.o.alloc g.o.size _⟩
      have M:((j:Int)==(v:Int))=false:=(by rw[bf];omega);go_wp2_with (go_at_call 168;refine f.o.mono ?_;rintro e U ⟨rfl,b⟩;have g:=za (l.o.trans (b.mono l.o.size));have t:=(b.block _ a2).trans I.o;have E:=za t;have a0:=b.size;clear b t);go_roundg (gk-1);case measure=>omega
      exact⟨m+1,j,by omega,by omega,u,rfl,by go_num,by rw[o.o,ae q];rfl,g.o.alloc g.o.size _,(Below.heap_alloc _ _ _ (by omega)).trans E.o⟩
  have k:fS d.ab v (L+1) v=false:=by rw[<- C.o,show L+1-m=0 by omega];rfl
  have o:=za k;have y:¬((m:Int)<=(L:Int)):=by omega
  clear k C;go_wp2_with fail;go_ret;exact⟨by rw[o.o];rfl,l.o⟩
end
section
attribute [local go_sem ↓] Go.wp_at_zero Go.wp_at_succ
theorem wF {w:Xw}{b:Nat}{u v x y:Xv}{e:Xy}(h:xH w b #[u,v] e):((w.setCell (xD b 0) x).setCell (xD b 1) y).heap[b]?=some (.cells #[x,y] e (0,0)):=by rw[zh _ _ _ _ (zh _ _ _ _ h)];rfl
structure zK (nds:List Nd) (d:Nd) (ol:ax->List Nat) (q:ax):Prop where
 one:1<=q.ns.length
 ps:q.ns.length=q.ps.length
 nm:∀s∈q.ns,lc d.ab s
 on:∀N ab nv vv xv qv,oi N ab nv nds vv xv qv d q.ex (fB d q).1 (fB d q).2 (ol q)
theorem EN {N bt:Nat}{pl:Xv}{D:List Nd}{o:Xo}(k:Nat)(d:Nd)(op:D[k]?=some d)(bx:ax->List Nat)(nt:aa (∀q∈d.eqs,zK D d bx q))(w:Xw)(h:Ak w N bt pl D o) :
 xK 202 #[xP bt,xI k] w (λe b=>e=.returned (.tuple #[])/\Ak b N bt pl D ((lY d bx).foldl aj o)/\Fr (λk=>k=bt) w b):=by
 obtain⟨wd,h9,rfl,rp,h3⟩:=h.ns;obtain⟨g,c0,cn,c1,bl,bs,bp,ip,H,bk,rfl,v9,tm,tn,tr,ts,tt,h4⟩:=h3 k d op;have kw:=za h;obtain⟨nx,qs,ak,tk⟩:=zp h.aC;have l6:=(aB.1 op).1;have n2:=h.lt;obtain⟨L,lv⟩:∃L,D.length=L:=⟨_,rfl⟩;have qr:=za lv;rw[lv] at rp l6 nx kw;have l3:g<w.heap.size:=by omega
 have g0:=za h4;clear h h3 lv h4;go_enter func202,ntmps202;go_wp2_with fail;obtain⟨kd,ca⟩:∃kd,w.alloc (.cells #[.string d.nm,xI d.a,.slice c0 cn c1,.slice bl bs bp,.slice ip H bk] 103)=kd:=⟨_,rfl⟩;have bE:aa (bq w kd N bt w.heap.size (xS g L h9) D (o) (.slice c0 cn c1) (.slice bl bs bp) (.slice ip H bk) d):=by have y:xB w kd:=ca▸(Below.refl _ w).alloc (an _) _;exact⟨kw.o.on y,Fr.dp y,ca▸zc w _,g0.o.aH (y.mono (by omega)),an _,tk⟩
 rw[ca];clear ca g0 kw nx qs ak tm tn tr ts tt l3;obtain⟨V,of⟩:∃V,d.ab.length=V:=⟨_,rfl⟩;have lo:=za of;have ok:V<=16:=by obtain⟨_,_,_,h,_⟩:=bE.o.nd.vs;omega
 have m5:cn=V:=by obtain⟨_,_,h,_,_⟩:=bE.o.nd.vs;injection h with _ h _;omega
 subst m5;clear of;obtain⟨gl,hw⟩:∃gl:Nat->Vr->List Nat,gl=λi v=>if fS d.ab i (d.ab.length+1) i=true then [v.a] else []:=⟨_,rfl⟩;have c9:=za hw;clear hw;go_loopg [5] (cn+1) (λj i wr=>∃m:Nat,m+j=cn+1/\m<=cn/\i=xI m/\aa (bq w wr N bt w.heap.size (xS g L h9) D ((gY gl 0 (d.ab.take m)).foldl aj o) (.slice c0 cn c1) (.slice bl bs bp) (.slice ip H bk) d));case atStart=>exact⟨0,by omega,aE _,rfl,bE⟩
 case round =>
  obtain⟨m,md,sE,rfl,n⟩:=hrel;clear bE;obtain⟨fx,s1,s2,fV,gc,ge,cm⟩:=bz n.o.bx;by_cases st:m<cn
  . skip;obtain⟨v,U⟩:∃v,d.ab[m]?=some v:=⟨_,av (by have:=lo.o;omega)⟩;obtain⟨vz,vG,m4,_,h8⟩:=n.o.nd.vs;injection m4 with al cv ck
    subst al ck;obtain⟨_,ro,rfl,ry,v0,vv,_⟩:=h8 m v U;have hR:ro<wr.heap.size:=(by have:=n.o.size;omega);have gt:=za (xa (xv:=.slice bl bs bp) (qv:=.slice ip H bk) d.nm d.a m (by have:=lo.o;omega) wr n.o.nd.vs n.o.size ⟨_,_,_,rfl⟩ ⟨_,_,_,rfl⟩);obtain⟨t0,P⟩:∃t0,(gY gl 0 (d.ab.take m)).foldl aj o=t0:=⟨_,rfl⟩;have go:(gY gl 0 (d.ab.take (m+1))).foldl aj o=(if fS d.ab m (d.ab.length+1) m=true then [v.a] else []).foldl aj t0:=(by rw[vP U,bc,P,Nat.zero_add,c9.o]);rw[P] at n;obtain⟨ls,hu⟩:∃ls,fS d.ab m (d.ab.length+1) m=ls:=⟨_,rfl⟩;rw[hu] at gt go;have ns:=za go;clear h8 U P go hu cv v0;cases ls
    all_goals
     go_wp2_with (first
      | (go_at_call 246;revert ar;intro ar;refine (du v.a _ ar.o.ak).mono ?_;rintro e wf ⟨rfl,he,hg⟩;have lb:=za he;have lk:=za hg;clear he hg)
      | (go_at_call 250;refine gt.o.mono ?_;rintro e pp ⟨rfl,u⟩;have ar:=za (n.o.on u);have x1:=zd u vv hR;have t2:=zd u s2 cm;clear u))
     go_roundg (gk-1);(try (case measure=>omega))
     first
      | exact⟨m+1,by omega,by omega,by go_num,by rw[ns.o];exact ar⟩
      | exact⟨m+1,by omega,by omega,by go_num,by rw[ns.o];exact ar.o.aX lb.o lk.o⟩
  have mk:m=cn:=by omega
  subst mk;rw[de (by have:=lo.o;omega)] at n;obtain⟨fv,ex⟩:∃fv,(gY gl 0 d.ab).foldl aj o=fv:=⟨_,rfl⟩;have g2:aa ((lY d bx).foldl aj o=(d.eqs.flatMap λq=>eE d.ab (fB d q) q.ns q.ps++bx q).foldl aj fv):=by unfold aa lY;rw[bc,<- c9.o,ex]
  rw[ex] at n;clear ex md sE c9;go_wp2_with fail;obtain⟨Q,n3⟩:∃Q,d.eqs.length=Q:=⟨_,rfl⟩;have g6:=za n3;have rs:Q<=100000:=by obtain⟨_,_,_,h,_⟩:=n.o.nd.qs;omega
  have m3:H=Q:=by obtain⟨_,_,h,_,_⟩:=n.o.nd.qs;injection h with _ h _;omega
  subst m3;clear n3 fx s1 s2 fV gc ge cm;obtain⟨ps,rfl⟩:∃ps,ps=wr:=⟨_,rfl⟩;go_loopg [7] (H+1) (λj i wr=>∃Z:Nat,Z+j=H+1/\Z<=H/\i=xI Z/\aa (bq w wr N bt w.heap.size (xS g L h9) D (((d.eqs.take Z).flatMap λq=>eE d.ab (fB d q) q.ns q.ps++bx q).foldl aj fv) (.slice c0 m c1) (.slice bl bs bp) (.slice ip H bk) d));case atStart=>exact⟨0,by omega,aE _,rfl,n⟩
  case round =>
   obtain⟨Z,ta,o8,rfl,t⟩:=hrel;clear n;obtain⟨fx,s1,s2,fV,gc,ge,cm⟩:=bz t.o.bx;by_cases sn:Z<H
   . skip;obtain⟨q,i6⟩:∃q,d.eqs[Z]?=some q:=⟨_,av (by have:=g6.o;omega)⟩;have E:=za (nt.o q (aM i6));obtain⟨up,vs,m2,_,h7⟩:=t.o.nd.qs;injection m2 with al cv ck
     subst al ck;clear cv;obtain⟨ev,u1,u2,i8,i9,rfl,rx,n1,lt,rb,rd,b2,b3⟩:=h7 Z q i6;obtain⟨t0,P⟩:∃t0,((d.eqs.take Z).flatMap λq=>eE d.ab (fB d q) q.ns q.ps++bx q).foldl aj fv=t0:=⟨_,rfl⟩;have g9:aa (((d.eqs.take (Z+1)).flatMap λq=>eE d.ab (fB d q) q.ns q.ps++bx q).foldl aj fv=(bx q).foldl aj ((eE d.ab (fB d q) q.ns q.ps).foldl aj t0)):=(by unfold aa;rw[List.take_add_one,i6,List.flatMap_append,bc,P];simp);rw[P] at t;have hQ:ev<wr.heap.size:=(by have:=t.o.size;omega);obtain⟨B,fd⟩:∃B,q.ns.length=B:=⟨_,rfl⟩;rw[<- E.o.ps] at lt b3;rw[fd] at n1 b2 lt b3;have r:=za fd;have pe:B<=100000:=(by obtain⟨_,_,h1,h2,_⟩:=b2;omega);clear h7 i6 P fd;go_upto_region 11 with fail;obtain⟨it,b4⟩:∃it,wr.alloc (.cells #[.slice u1 B u2,.slice i8 B i9,xI q.a,xI (q.ex:Nat)] 275)=it:=⟨_,rfl⟩;have b1:xB wr it:=b4▸(Below.refl _ wr).alloc (an _) _;have a:=za (t.o.on b1);have K:=za (b2.aH (b1.mono t.o.size));have a0:=za (b3.aH (b1.mono t.o.size));have G:aa (xH it wr.heap.size #[.slice u1 B u2,.slice i8 B i9,xI q.a,xI (q.ex:Nat)] 275):=b4▸zc wr _;have hm:bt<wr.heap.size:=ze t.o.ak.aC;have h0:w.heap.size<wr.heap.size:=cm;rw[b4];obtain⟨eb,hv⟩:∃eb,wr.heap.size=eb:=⟨_,rfl⟩;rw[hv] at G hm h0 ⊢;clear b2 b3 b4 b1 t fx s1 s2 fV gc ge cm n1 lt rb rd hv hQ;obtain⟨pt,rfl⟩:∃pt,pt=wr:=⟨_,rfl⟩;obtain⟨wr,rfl⟩:∃wr,wr=it:=⟨_,rfl⟩;obtain⟨er,rfl⟩:∃er,er=gk:=⟨_,rfl⟩;obtain⟨fx,s1,s2,fV,gc,ge,cm⟩:=bz a.o.bx;obtain⟨i0,i1,i2,i3,i4,eq⟩:=zU G.o;have m1:1<=B:=(by have:=E.o.one;have:=r.o;omega);obtain⟨s,Y⟩:∃s,q.ns[0]?=some s:=⟨_,av (by have:=r.o;omega)⟩;obtain⟨f,v,ak,U⟩:=E.o.nm s (aM Y);have S:aa (fB d q=eN d.ab v):=(by unfold aa fB;rw[List.headD_eq_head?_getD,List.head?_eq_getElem?,Y];exact nw ak U);obtain⟨⟨T,X⟩,z⟩:∃c,eN d.ab v=c:=⟨_,rfl⟩;rw[z] at S;go_cut [9] from 38 to 89 (λp iR=>∃b0:Nat,p=xP b0/\wr.heap.size<=b0/\aa (xH iR b0 #[xI T,.bool X] 309)/\aa (xB wr iR))
     case first =>
      obtain⟨na,nb,fr,_,be⟩:=K.o;injection fr with al cv ck
      subst al ck;clear cv;obtain⟨_,es,rfl,l2,z0⟩:=be 0 s Y;have te:0<B:=(by have:=(aB.1 Y).1;have:=r.o;omega);have hN:es<wr.heap.size:=(by have:=a.o.size;omega);have c5:=za (λW (y:xB wr W)=>((a.o.on y).find s).mono (λe' b h=>(⟨h.1,y.trans (h.2.mono y.size),h.2⟩:e'=_/\xB wr b/\xB W b)));rw[ak] at c5;unfold bC at c5;have I:=za (λW (y:xB wr W)=>(ng (xv:=.slice bl bs bp) (qv:=(xS ev H bk)) d.nm d.a f v U W ((a.o.on y).nd.vs) (a.o.on y).size ⟨_,_,_,rfl⟩ ⟨_,_,_,rfl⟩).mono (λe' b h=>(⟨h.1,y.trans (h.2.mono y.size),h.2⟩:e'=_/\xB wr b/\xB W b)));unfold k0 at I;rw[z] at I;clear be Y ak U z
      go_region_held3 (λb=>b.cell? (xD w.heap.size 0)=some (.string d.nm)/\b.cell? (xD w.heap.size 1)=some (xI d.a)/\b.cell? (xD w.heap.size 2)=some (.slice c0 m c1)/\b.cell? (xD w.heap.size 3)=some (.slice bl bs bp)/\b.cell? (xD w.heap.size 4)=some (xS ev H bk)/\b.cell? (xD eb 0)=some (xS es B u2)/\b.cell? (xD es 0)=some (.string s))
       (first|(with_reducible (refine⟨?_,?_,?_,?_,?_,?_,?_⟩ <;> repeat (first|assumption|refine zg ?_|refine zj _ ?_|refine zk (by omega) ?_|refine zd l.o ?_ (by first|omega|(rw[au];omega))|refine zd C.o ?_ (by first|omega|(rw[au];omega)))))|go_keep)
       (first
         | (go_at_call 168;revert l;intro l;refine (I.o _ (by first|exact l.o|exact l.o.alloc l.o.size _)).mono ?_;rintro e' v2 ⟨rfl,M,O⟩;have C:=za M;have m7:=M.size;(try (have R:=(O.block _ (ze a2.o)).trans a2.o;obtain⟨nd,ne,nm,no⟩:=zp R;have a3:=za R;clear R));(try (have R:=(O.block _ (by simp)).trans (zc _ _);obtain⟨nd,ne,nm,no⟩:=zp R;have a3:=za R;clear R));clear M O)
         | (go_at_call 169;refine (c5.o _ (by first|exact zo (Below.refl _ _)|exact zo ((Below.refl _ _).alloc (an _) _)|exact (zo (Below.refl _ _)).alloc (an _) _)).mono ?_;rintro e' pp ⟨rfl,u,a5⟩;have l:=za u;have m6:=u.size;(try (have io:=(a5.block _ (by simp)).trans (zc _ _);have a2:=za io;clear io));clear u a5))
      all_goals
       go_wp2_with fail;go_meet
       first
        | exact⟨_,rfl,(by first|omega|(simp;omega)),zc _ _,C.o.alloc C.o.size _⟩
        | exact⟨_,rfl,by omega,wF a3.o,hi C.o (by omega) _ _⟩
     case rest =>
      obtain⟨b0,rfl,l1,gs,x⟩:=hcut;have g1:=za (a.o.on x.o);have g5:=za ((x.o.block eb eq).trans G.o);have g8:=za (K.o.aH (x.o.mono a.o.size));have g4:=za (a0.o.aH (x.o.mono a.o.size));have or:eb<b0:=(by omega);have pb:w.heap.size<b0:=(by omega);obtain⟨po,h5⟩:∃po,q.ps[0]?=some po:=⟨_,av (by have:=r.o;have:=E.o.ps;omega)⟩;have ln:aa ((eE d.ab (T,X) (q.ns.take 1) (q.ps.take 1)).foldl aj t0=t0):=(by unfold aa;rw[qV Y h5,nw ak U,z,ag rfl];rfl);rw[S.o] at g9;have g3:=za (E.o.on N bt (xS g L h9) (.slice c0 m c1) (.slice bl bs bp) (xS ev H bk));rw[S.o] at g3;obtain⟨pr,rfl⟩:∃pr,pr=wr:=⟨_,rfl⟩;clear a G K a0 x Y ak U z h5 S fx s1 s2 fV gc ge cm i0 i1 i2 i3 i4 eq l1;go_wp2_with fail;go_loopg [10] B (λj i wr=>∃A:Nat,A+j=B+1/\1<=A/\A<=B/\i=xI A/\aa (bq w wr N bt w.heap.size (xS g L h9) D ((eE d.ab (T,X) (q.ns.take A) (q.ps.take A)).foldl aj t0) (.slice c0 m c1) (.slice bl bs bp) (xS ev H bk) d)/\aa (xH wr eb #[.slice u1 B u2,.slice i8 B i9,xI q.a,xI (q.ex:Nat)] 275)/\aa (kf wr N (.slice u1 B u2) q.ns)/\aa (gm wr N (.slice i8 B i9) q.ps)/\aa (xH wr b0 #[xI T,.bool X] 309));case atStart=>exact⟨1,by omega,an _,m1,rfl,by rw[ln.o];exact g1,g5,g8,g4,gs⟩
      case round =>
       obtain⟨A,sc,sg,o7,rfl,a,G,K,a0,c4⟩:=hrel;clear g1 g5 g8 g4 gs;obtain⟨fx,s1,s2,fV,gc,ge,cm⟩:=bz a.o.bx;obtain⟨i0,i1,i2,i3,i4,eq⟩:=zU G.o;obtain⟨m8,al,m9,i7⟩:=zp c4.o;by_cases sh:A<B
       . obtain⟨s,Y⟩:∃s,q.ns[A]?=some s:=⟨_,av (by have:=r.o;omega)⟩;obtain⟨p,mp⟩:∃p,q.ps[A]?=some p:=⟨_,av (by have:=r.o;have:=E.o.ps;omega)⟩;obtain⟨f,v,ak,U⟩:=E.o.nm s (aM Y);obtain⟨t1,fq⟩:∃t1,(eE d.ab (T,X) (q.ns.take A) (q.ps.take A)).foldl aj t0=t1:=⟨_,rfl⟩;obtain⟨⟨bL,cs⟩,z⟩:∃c,eN d.ab v=c:=⟨_,rfl⟩;have em:aa ((eE d.ab (T,X) (q.ns.take (A+1)) (q.ps.take (A+1))).foldl aj t0=(if (bL,cs)=(T,X) then [] else [p]).foldl aj t1):=(by unfold aa;rw[qV Y mp,bc,fq,nw ak U,z]);rw[fq] at a;clear fq;go_upto_region 15 with fail;go_cut [11] from 58 to 83 (λp iR=>∃i5:Nat,p=xP i5/\wr.heap.size<=i5/\aa (xH iR i5 #[xI bL,.bool cs] 309)/\aa (xB wr iR))
         case first =>
          obtain⟨na,nb,fr,_,be⟩:=K.o;injection fr with al cv ck
          subst al ck;clear cv;obtain⟨_,es,rfl,l2,z0⟩:=be A s Y;have hN:es<wr.heap.size:=(by have:=a.o.size;omega);have c5:=za (λW (y:xB wr W)=>((a.o.on y).find s).mono (λe' b h=>(⟨h.1,y.trans (h.2.mono y.size),h.2⟩:e'=_/\xB wr b/\xB W b)));rw[ak] at c5;unfold bC at c5;have I:=za (λW (y:xB wr W)=>(ng (xv:=.slice bl bs bp) (qv:=(xS ev H bk)) d.nm d.a f v U W ((a.o.on y).nd.vs) (a.o.on y).size ⟨_,_,_,rfl⟩ ⟨_,_,_,rfl⟩).mono (λe' b h=>(⟨h.1,y.trans (h.2.mono y.size),h.2⟩:e'=_/\xB wr b/\xB W b)));unfold k0 at I;rw[z] at I;clear be Y ak U z m8 al m9
          go_region_held3 (λb=>b.cell? (xD w.heap.size 0)=some (.string d.nm)/\b.cell? (xD w.heap.size 1)=some (xI d.a)/\b.cell? (xD w.heap.size 2)=some (.slice c0 m c1)/\b.cell? (xD w.heap.size 3)=some (.slice bl bs bp)/\b.cell? (xD w.heap.size 4)=some (xS ev H bk)/\b.cell? (xD eb 0)=some (xS es B u2)/\b.cell? (xD es A)=some (.string s))
           (first|(with_reducible (refine⟨?_,?_,?_,?_,?_,?_,?_⟩ <;> repeat (first|assumption|refine zg ?_|refine zj _ ?_|refine zk (by omega) ?_|refine zd l.o ?_ (by first|omega|(rw[au];omega))|refine zd C.o ?_ (by first|omega|(rw[au];omega)))))|go_keep)
           (first
             | (go_at_call 168;revert l;intro l;refine (I.o _ (by first|exact l.o|exact l.o.alloc l.o.size _)).mono ?_;rintro e' v2 ⟨rfl,M,O⟩;have C:=za M;have m7:=M.size;(try (have R:=(O.block _ (ze a2.o)).trans a2.o;obtain⟨nd,ne,nm,no⟩:=zp R;have a3:=za R;clear R));(try (have R:=(O.block _ (by simp)).trans (zc _ _);obtain⟨nd,ne,nm,no⟩:=zp R;have a3:=za R;clear R));clear M O)
             | (go_at_call 169;refine (c5.o _ (by first|exact zo (Below.refl _ _)|exact zo ((Below.refl _ _).alloc (an _) _)|exact (zo (Below.refl _ _)).alloc (an _) _)).mono ?_;rintro e' pp ⟨rfl,u,a5⟩;have l:=za u;have m6:=u.size;(try (have io:=(a5.block _ (by simp)).trans (zc _ _);have a2:=za io;clear io));clear u a5))
          all_goals
           go_wp2_with fail;go_meet
           first
            | exact⟨_,rfl,(by first|omega|(simp;omega)),zc _ _,C.o.alloc C.o.size _⟩
            | exact⟨_,rfl,by omega,wF a3.o,hi C.o (by omega) _ _⟩
         case rest =>
          obtain⟨i5,rfl,rL,le,x⟩:=hcut;have F:=za (a.o.on x.o);have ds:=za ((x.o.block eb eq).trans G.o);have g7:=za (K.o.aH (x.o.mono a.o.size));have dn:=za (a0.o.aH (x.o.mono a.o.size));have c3:=za ((x.o.block b0 i7).trans c4.o);obtain⟨tx,un,m0,_,h6⟩:=dn.o;injection m0 with al cv ck
          subst al ck;obtain⟨rg,rfl,rt,wn⟩:=h6 A p mp;have os:rg<wc.heap.size:=(by have:=F.o.size;omega);clear h6 mp Y ak U z a G K a0 c4 fx s1 s2 fV gc ge cm i0 i1 i2 i3 i4 eq m8 m9 i7;obtain⟨i0,i1,i2,i3,i4,eq⟩:=zU ds.o;obtain⟨m8,al,m9,i7⟩:=zp c3.o;obtain⟨d0,d1,v4,v5⟩:=zp le.o;have h3:(bL=T/\cs=X/\(if (bL,cs)=(T,X) then [] else [p])=[])∨((bL=T/\¬cs=X)/\(if (bL,cs)=(T,X) then [] else [p])=[p])∨(¬bL=T/\(if (bL,cs)=(T,X) then [] else [p])=[p]):=by
           by_cases h1:bL=T
           . by_cases h2:cs=X
             . exact ao ⟨h1,h2,ag (by rw[h1,h2])⟩
             exact ap (ao ⟨⟨h1,h2⟩,ae (λe=>h2 (Prod.mk.inj e).2)⟩)
           exact ap (ap ⟨h1,ae (λe=>h1 (Prod.mk.inj e).1)⟩)
          rcases h3 with ⟨h1,h2,h3⟩|⟨⟨h1,h2⟩,h3⟩|⟨h2,h3⟩
          all_goals
           rw[h3] at em;clear h3;go_wp2_with (go_at_call 246;refine (du p _ F.o.ak).mono ?_;rintro e v3 ⟨rfl,a4,a9⟩;have c2:=za a4;have J:=za a9;clear a4 a9);go_roundg (gk-1);(try (case measure=>omega))
           first
            | exact⟨A+1,by omega,by omega,by omega,by go_num,by rw[em.o];exact F,ds,g7,dn,c3⟩
            | exact⟨A+1,by omega,by omega,by omega,by go_num,by rw[em.o];exact F.o.aX c2.o J.o,(J.o.block eb eq (by omega)).trans ds.o,g7.o.aH (J.o.below F.o.size (λj e=>by have:=F.o.ak.lt;omega)),dn.o.aH (J.o.below F.o.size (λj e=>by have:=F.o.ak.lt;omega)),(J.o.block b0 i7 (by omega)).trans c3.o⟩
       have l5:A=B:=(by omega);subst l5;rw[de (by have:=r.o;omega),de (by have:=r.o;have:=E.o.ps;omega)] at a;go_wp2_with (go_at_call 251;refine (g3.o _ _ a.o.ak a.o.nd).mono ?_;rintro e v3 ⟨rfl,a4,a9⟩;have c2:=za a4;have J:=za a9;clear a4 a9);go_roundg (er-1);case measure=>omega
       exact⟨Z+1,by omega,by omega,by go_num,by rw[g9.o];exact a.o.aX c2.o J.o⟩
   have hT:Z=H:=(by omega);subst hT;have go:(lY d bx).foldl aj o=((d.eqs.take Z).flatMap λq=>eE d.ab (fB d q) q.ns q.ps++bx q).foldl aj fv:=(by rw[g2.o,de (by have:=g6.o;omega)]);rw[<- go] at t;clear go g2 nt;go_wp2_with fail;go_end0;exact⟨rfl,by rw[qr.o];exact t.o.ak,t.o.fr⟩
end
end Go.Proofs.YtmfkofhgdjechaaGreatDoor
