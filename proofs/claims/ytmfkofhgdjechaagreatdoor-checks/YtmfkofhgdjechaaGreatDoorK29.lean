/- Part 30 of the proof. -/
import Derived.Test.YtmfkofhgdjechaaGreatDoorK28
set_option maxRecDepth 100000
set_option maxHeartbeats 8000000
namespace Go.Proofs.YtmfkofhgdjechaaGreatDoor
open Go.Proofs.Tryz
open Go.RowKit
section
attribute [local go_sem ↓] Go.wp_at_zero Go.wp_at_succ
theorem FZ {N Z:Nat}{IT:Xv}{x:List Nd}{o:Xo}(k:Nat)(d:Nd)(zu:x[k]?=some d)(J:Xh)(AS:aa (∀i e,d.az[i]?=some e->p3 x k d J i e))
 (z7:aa (∀v∈d.ab,v.tm=true->lc d.ab v.ck)) (g4:Nat->List Nat) (z9:aa (∀i e,d.az[i]?=some e->gz x k d J e (g4 i))) (z8:aa (∀(i:Nat) (e:Ex),d.az[i]?=some e->∀y∈e.ah,y<d.az.length)) (rb:ax->Nat->Bool) (AI:aa (∀q∈d.eqs,od x k d J q (rb q))) (w:Xw) (h:Ak w N Z IT x o) :
 xK 201 #[xP Z,xI k] w (λe a=>e=.returned (.tuple #[])/\Ak a N Z IT x ((nl d g4 rb).foldl aj o)/\Fr (λk=>k=Z) w a):=by
 obtain⟨NA,g3,rfl,A7,A6⟩:=h.ns;obtain⟨g,g5,cv,c3,gt,A,c0,kd,T,c2,rfl,Nz,Nc,Nf,Ng,Nh,Ni,ps⟩:=A6 k d zu;have vG:=za h;obtain⟨AT,MB,gc,M3⟩:=zp h.aC;have pe:=(aB.1 zu).1;have By:=h.lt;have hN:=za (λW (le:xB w W)=>re k d zu J AS W (h.on le));obtain⟨L,zn⟩:∃L,x.length=L:=⟨_,rfl⟩;have v4:=za zn;rw[zn] at A7 pe AT vG;have or:g<w.heap.size:=by omega
 have ex:=za ps;obtain⟨X,zr⟩:∃X,d.az.length=X:=⟨_,rfl⟩;have ta:=za zr;have MM:X<=100000:=by obtain⟨_,_,_,h,_⟩:=ex.o.xs;omega
 have zQ:A=X:=by obtain⟨_,_,h,_,_⟩:=ex.o.xs;injection h with _ h _;omega
 subst zQ;rw[zr] at hN;clear h A6 zn ps zr;go_enter func201,ntmps201;go_upto_region 1 with fail;obtain⟨l1,gl⟩:∃l1,w.alloc (.cells #[.string d.nm,xI d.a,.slice g5 cv c3,.slice gt A c0,.slice kd T c2] 103)=l1:=⟨_,rfl⟩;have bt:aa (xB w l1):=gl▸(Below.refl _ w).alloc (an _) _
 have er:aa (bq w l1 N Z w.heap.size (xS g L g3) x o (.slice g5 cv c3) (.slice gt A c0) (.slice kd T c2) d) :=
  ⟨vG.o.on bt.o,Fr.dp bt.o,gl▸zc w _,ex.o.aH (bt.o.mono (by omega)),an _,M3⟩
 rw[gl];clear gl ex vG AT MB gc Nc Nf Ng Nh Ni or;go_wp2_with (go_at_call 248;refine (hN.o _ bt.o).mono ?_;rintro e lv ⟨Nx,rfl,⟨_,h2,g0,rfl,S⟩,R⟩;have l:=za R;have l6:=za S;clear R S);have a9:Z<l1.heap.size:=ze er.o.ak.aC;obtain⟨lo,ge⟩:∃lo,l1.heap.size=lo:=⟨_,rfl⟩;obtain⟨c1,o7⟩:∃c1,lv.heap.size=c1:=⟨_,rfl⟩;have mk:aa (cE lv lo c1 (.slice h2 A g0) A (eG J A)):=by rw[<- ge,<- o7];exact⟨an _,h2,g0,rfl,l6.o⟩
 have If:w.heap.size<lo:=ge▸ze er.o.bx;rw[ge] at a9;have es:=za (er.o.on l.o);clear l6 l er bt hN ge o7;obtain⟨V,Ch⟩:∃V,d.ab.length=V:=⟨_,rfl⟩;have sE:=za Ch;have Ev:V<=16:=by obtain⟨_,_,_,h,_⟩:=es.o.nd.vs;omega
 have zO:cv=V:=by obtain⟨_,_,h,_,_⟩:=es.o.nd.vs;injection h with _ h _;omega
 subst zO;clear Ch;go_loopg [6] (cv+1) (λj i wr=>∃m:Nat,m+j=cv+1/\m<=cv/\i=xI m/\aa (bq w wr N Z w.heap.size (xS g L g3) x ((jL d.ab (d.ab.take m)).foldl aj o) (.slice g5 cv c3) (.slice gt A c0) (.slice kd T c2) d)/\aa (cE wr lo c1 (.slice h2 A g0) A (eG J A)));case atStart=>exact⟨0,by omega,aE _,rfl,es,mk⟩
 case round =>
  obtain⟨m,zD,MZ,rfl,z,bx⟩:=hrel;clear es mk;obtain⟨a2,s1,s2,a3,a4,a5,U⟩:=bz z.o.bx;by_cases MX:m<cv
  . skip;as_aux_lemma =>
     obtain⟨v,hv⟩:∃v,d.ab[m]?=some v:=⟨_,av (by have:=sE.o;omega)⟩;have dn:=za (z7.o v (aM hv));obtain⟨zZ,z0,i6,_,a0⟩:=z.o.nd.vs;injection i6 with F H G
     subst F G;obtain⟨_,fx,rfl,zy,zW,zX,v2,No,Np,Kn,Nq,Nr,Ns,Ln⟩:=a0 m v hv;have g1:fx<wr.heap.size:=(by have:=z.o.size;omega);have bl:(jL d.ab (d.ab.take (m+1))).foldl aj o=(if (v.tm&&!oZ d.ab v.ck)=true then [v.on] else []).foldl aj ((jL d.ab (d.ab.take m)).foldl aj o):=(by unfold jL;rw[np hv,bc]);obtain⟨q,i2⟩:∃q,(jL d.ab (d.ab.take m)).foldl aj o=q:=⟨_,rfl⟩;rw[i2] at z bl;obtain⟨zV,ro⟩:∃zV,v.tm=zV:=⟨_,rfl⟩;rw[ro] at Ln bl dn;clear i2 ro H hv;cases zV with
     | false =>
       have g6:=za bl;clear bl a0 dn;go_upto_region 5 with fail;go_quiet (fail);go_wp2_with fail;go_roundg (gk-1);case measure=>omega
       exact⟨m+1,by omega,by omega,by go_num,by rw[g6.o];exact z.o.on (cd (Below.refl _ _)),bx.o.on (cd (Below.refl _ _))⟩
     | true =>
       obtain⟨f,u,gc,tt⟩:=dn.o rfl;obtain⟨_,MG,ip,_,u0,u1,u2,_⟩:=a0 f u tt;cases ip;have zv:f<cv:=(by have:=(aB.1 tt).1;have:=sE.o;omega);rw[l4 gc tt] at bl;have em:=za (z.o.drew.find v.ck);rw[gc] at em;unfold bC at em;obtain⟨vv,rp⟩:∃vv,u.bl=vv:=⟨_,rfl⟩;rw[rp] at u2 bl;clear a0 dn gc tt rp u0 u1 zW zX v2 No Np Nr Ns;go_upto_region 5 with fail
       go_region_held3 (λa=>a.cell? (xD w.heap.size 0)=some (.string d.nm)/\a.cell? (xD w.heap.size 1)=some (xI d.a)/\a.cell? (xD w.heap.size 2)=some (xS fx cv c3)/\a.cell? (xD w.heap.size 3)=some (.slice gt A c0)/\a.cell? (xD w.heap.size 4)=some (.slice kd T c2)/\a.cell? (xD fx (m*10+9))=some (.bool true)/\a.cell? (xD fx (m*10+6))=some (.string v.ck)/\a.cell? (xD fx (f*10+2))=some (.bool vv))
        (first|(with_reducible (refine⟨?_,?_,?_,?_,?_,?_,?_,?_⟩ <;> repeat (first|assumption|refine zg ?_|refine zj _ ?_|refine zk (by omega) ?_|refine zd l.o ?_ (by first|omega|(rw[au];omega)))))|go_keep)
        (first
          | (go_at_call 169;refine em.o.mono ?_;rintro e lv ⟨rfl,R⟩;have l:=za (zw R)))
       have ev:=za (z.o.on l.o);have l2:=za (bx.o.on l.o);have NK:=zd l.o Kn g1;clear z bx l em a2 s1 s2 a3 a4 a5 U Kn Nq Ln u2;obtain⟨a2,s1,s2,a3,a4,a5,U⟩:=bz ev.o.bx;cases vv with
       | true =>
         have g6:=za bl;clear bl;go_wp2_with fail;go_roundg (gk-1);case measure=>omega
         exact⟨m+1,by omega,by omega,by go_num,by rw[g6.o];exact ev,l2⟩
       | false =>
         have g6:=za bl;clear bl;go_wp2_with (go_at_call 246;refine (du v.on _ ev.o.ak).mono ?_;rintro e NI ⟨rfl,no,nx⟩;have v3:=za no;have m2:=za nx;clear no nx);go_roundg (gk-1);case measure=>omega
         exact⟨m+1,by omega,by omega,by go_num,by rw[g6.o];exact ev.o.aX v3.o m2.o,l2.o.aX a9 m2.o⟩
  have zE:m=cv:=by omega
  subst zE;rw[de (by have:=sE.o;omega)] at z;obtain⟨ls,i0⟩:∃ls,(jL d.ab d.ab).foldl aj o=ls:=⟨_,rfl⟩;have m8:=za i0;rw[i0] at z;clear i0 zD MZ z7;go_wp2_with fail;obtain⟨Mq,rfl⟩:∃Mq,Mq=wr:=⟨_,rfl⟩;clear a2 s1 s2 a3 a4 a5 U;go_loopg [7] (A+1) (λj i wr=>∃r:Nat,r+j=A+1/\r<=A/\i=xI r/\aa (bq w wr N Z w.heap.size (xS g L g3) x (((List.range r).flatMap g4).foldl aj ls) (.slice g5 m c3) (.slice gt A c0) (.slice kd T c2) d)/\aa (cE wr lo c1 (.slice h2 A g0) A (eG J A)));case atStart=>exact⟨0,by omega,aE _,rfl,z,bx⟩
  case round =>
   obtain⟨r,zF,pp,rfl,t,bE⟩:=hrel;clear z bx;obtain⟨a2,s1,s2,a3,a4,a5,U⟩:=bz t.o.bx;by_cases MY:r<A
   . skip;obtain⟨e,tr⟩:∃e,d.az[r]?=some e:=⟨_,av (by have:=ta.o;omega)⟩;have m6:=za (z9.o r e tr);have m5:=za (z8.o r e tr);obtain⟨z3,z4,i7,_,cs⟩:=t.o.nd.xs;injection i7 with F H G
     subst F G;clear H;obtain⟨lb,zS,rfl,zA,⟨te,tk,xE,tm,MC,MD⟩,i8,i9,rfl,pb,cm⟩:=cs r e tr;have g2:lb<wr.heap.size:=(by have:=t.o.size;omega);have m4:=za cm;obtain⟨bs,ck⟩:∃bs,e.ah.length=bs:=⟨_,rfl⟩;have g8:=za ck;rw[ck] at tm pb;obtain⟨t0,ar⟩:∃t0,((List.range r).flatMap g4).foldl aj ls=t0:=⟨_,rfl⟩;rw[ar] at t;have g6:aa (((List.range (r+1)).flatMap g4).foldl aj ls=(g4 r).foldl aj t0):=(by unfold aa;rw[List.range_succ,List.flatMap_append,bc,ar];simp);clear cs tr cm ck ar;go_wp2_with fail;obtain⟨c4,K⟩:∃c4,wr.alloc (.cells #[.string e.op,xI e.a,xI e.nm,.slice i8 bs i9,.string e.s,xI e.n] 190)=c4:=⟨_,rfl⟩;have Y:aa (xB wr c4):=K▸(Below.refl _ wr).alloc (an _) _;have b1:=za (t.o.on Y.o);have md:=za (bE.o.on Y.o);have hQ:aa (xH c4 wr.heap.size #[.string e.op,xI e.a,xI e.nm,.slice i8 bs i9,.string e.s,xI e.n] 190):=K▸zc wr _;have m3:aa (gm c4 N (.slice i8 bs i9) e.ah):=(by have:=g8.o;subst this;exact (show gm wr N (.slice i8 _ i9) e.ah from ⟨i8,i9,rfl,pb,m4.o⟩).aH (Y.o.mono t.o.size));rw[K];obtain⟨B,ca⟩:∃B,wr.heap.size=B:=⟨_,rfl⟩;have cn:w.heap.size<B:=(by omega);have b4:Z<B:=(by have:=ze t.o.ak.aC;omega);have MK:N<=B:=(by have:=t.o.size;omega);have MS:c1<=B:=(by have:=bE.o.1;omega);rw[ca] at hQ ⊢;clear K a2 s1 s2 a3 a4 a5 U te tk xE tm MC MD m4 t bE ca Y g2;obtain⟨rL,rfl⟩:∃rL,rL=wr:=⟨_,rfl⟩;obtain⟨ak,rfl⟩:∃ak,ak=gk:=⟨_,rfl⟩;go_loopg [9,10] (bs+1) (λj zS i wr=>∃(p:Nat) (lk:Xp) (ln:Nat),p+j=bs+1/\p<=bs/\zS=.slice lk p ln/\i=xI p/\aa (bq w wr N Z w.heap.size (xS g L g3) x t0 (.slice g5 m c3) (xS lb A c0) (.slice kd T c2) d)/\aa (cE wr lo c1 (.slice h2 A g0) A (eG J A))/\aa (xH wr B #[.string e.op,xI e.a,xI e.nm,.slice i8 bs i9,.string e.s,xI e.n] 190)/\aa (gm wr N (.slice i8 bs i9) e.ah)/\aa (wr.ownsRow (B+1) 4 1 (.slice lk p ln) p (cZ ((e.ah.map J).take p))));case atStart=>exact⟨0,none,0,by omega,aE _,rfl,rfl,b1,md,hQ,m3,World.ownsRow_nil _ _ _ _⟩
     case round =>
      obtain⟨p,lk,ln,zI,M1,rfl,rfl,b2,c9,fr,eq,fd⟩:=hrel;clear b1 md hQ m3;obtain⟨a2,s1,s2,a3,a4,a5,U⟩:=bz b2.o.bx;obtain⟨hR,hT,h0,h1,Mz,MA,h3,fv⟩:=zt fr.o;by_cases MV:p<bs
      . skip;as_aux_lemma =>
         obtain⟨y,tx⟩:∃y,e.ah[p]?=some y:=⟨_,av (by have:=g8.o;omega)⟩;have zR:y<A:=(by have:=m5.o y (aM tx);have:=ta.o;omega);obtain⟨M4,M5,zB,_,cm⟩:=eq.o;injection zB with F H G
         subst F G;clear H;obtain⟨MF,rfl,MP,Ms⟩:=cm p y tx;obtain⟨_,w0,xs,h9,S⟩:=c9.o;injection h9 with F H G
         subst F G;clear H;obtain⟨x1,rfl,_,zx,z5⟩:=S y _ (oQ zR);have wp:aa ((e.ah.map J).take (p+1)=(e.ah.map J).take p++[J y]):=n8 (by rw[List.getElem?_map,tx];rfl);have EQ:MF<wr.heap.size:=(by have:=b2.o.size;omega);clear cm S tx;go_wp2_with (at_builtin;refine ww _ rfl (.tmp 87) (.tmp 96) rfl (B+1) (.slice lk p ln) p _ (J y) rfl fd.o rfl (by omega) (by omega) ?_;intro ME ne Mp Bu f9;have g7:=za f9;have v9:=za Bu;clear Bu f9);go_roundg (gk-1);case measure=>omega
         have it:∀j,(Value.slice lk p ln).ownBlock=some j->B<j:=λj e=>by have:=(fd.o.lt j e).1;omega
         have h6:xB wr (wr.alloc (.cells #[.bool (J y)] 4)):=(Below.refl _ _).alloc (an _) _;have zi:Below (B+1) (wr.alloc (.cells #[.bool (J y)] 4)) Mp:=g7.o.below (by rw[au];omega) (λj e=>by have:=it j e;omega);have ns:Below (B+1) wr Mp:=(h6.mono (by omega)).trans zi;refine⟨p+1,some (xD ME 0),ne,by omega,by omega,rfl,by go_num,(b2.o.on h6).row g7.o (λj e=>by have:=it j e;omega),?_,(ns.block B (by omega)).trans fr.o,eq.o.aH (ns.mono (by omega)),?_⟩
         . exact (c9.o.on h6).fr g7.o (λj e=>by have:=it j e;omega)
         unfold aa;rw[wp.o,cZ,List.map_append];exact v9.o
      have zH:p=bs:=(by omega);subst zH;have zq:(e.ah.map J).length=p:=(by rw[List.length_map];exact g8.o);have g9:aa (cE wr (B+1) wr.heap.size (.slice lk p ln) p (e.ah.map J)):=(by have:=oU fd.o;rw[de (by omega)] at this;exact this);obtain⟨Gl,o8⟩:∃Gl,wr.heap.size=Gl:=⟨_,rfl⟩;rw[o8] at g9;clear fd zI o8 M1;go_upto_block 6 with fail;refine FC m6 zq (by omega) a9 b4 A7 pe cn (by omega) b2 c9 fr eq g9 _ (λ_ _ xC _ _ h=>by cases xC <;> exact h) ?_;intro sg _ _ _ _ _ _ _ _ _ _ _ _ _ _ _ _ _ _ _ _ _ _ _ _ _ _ _ _ _ _ _ _ _ _ _ _ _ _ _ _ _ _ _ _ _ _ _ _ _ _ _ _ _ _ _ _ _ _ _ _ _ _ _ _ _ _ _ _ _ _ _ _ _ _ _ _ _ _ _ _ _ _ _ _ _ _ _ _ _ _ _ _ _ _ _ _ _ _ _ _ _ _ _ _ _ _ _ _ _ _ _ _ _ _ _ _ _ _ _ _ _ _ _ _ _ _ _ _ _ _ _ _ _ _ _ _ _ _ _ _ _ _ _ _ _ _ _ _ _ _ _ _ _ _ _ _ _ _ _ _ _ _ _ _ _ _ _ _ _ _ _ _ _ _ _ _ v5 bk;clear g9 eq fr b2 c9 a2 s1 s2 a3 a4 a5 U hR hT h0 h1 Mz MA h3 fv m6 m5;go_wp2_with fail;go_roundg (ak-1);case measure=>omega
      exact⟨r+1,by omega,by omega,by go_num,by rw[g6.o];exact v5,bk⟩
   have pr:r=A:=(by omega);subst pr;obtain⟨lt,i1⟩:∃lt,((List.range r).flatMap g4).foldl aj ls=lt:=⟨_,rfl⟩;have m9:=za i1;rw[i1] at t;clear i1 zF pp AS z9 z8;go_wp2_with fail;obtain⟨Q,BY⟩:∃Q,d.eqs.length=Q:=⟨_,rfl⟩;have na:=za BY;have ML:Q<=100000:=(by obtain⟨_,_,_,h,_⟩:=t.o.nd.qs;omega);have zL:T=Q:=(by obtain⟨_,_,h,_,_⟩:=t.o.nd.qs;injection h with _ h _;omega);subst zL;clear BY a2 s1 s2 a3 a4 a5 U;obtain⟨Mr,rfl⟩:∃Mr,Mr=wr:=⟨_,rfl⟩;go_loopg [16] (T+1) (λj i wr=>∃bp:Nat,bp+j=T+1/\bp<=T/\i=xI bp/\aa (bq w wr N Z w.heap.size (xS g L g3) x (((d.eqs.take bp).flatMap λq=>dY d.ab q.a (rb q) 0 q.ns).foldl aj lt) (.slice g5 m c3) (.slice gt r c0) (.slice kd T c2) d)/\aa (cE wr lo c1 (.slice h2 r g0) r (eG J r)));case atStart=>exact⟨0,by omega,aE _,rfl,t,bE⟩
   case round =>
    obtain⟨bp,M0,In,rfl,D,mp⟩:=hrel;clear t bE;obtain⟨a2,s1,s2,a3,a4,a5,U⟩:=bz D.o.bx;by_cases MW:bp<T
    . skip;obtain⟨q,i2⟩:∃q,d.eqs[bp]?=some q:=⟨_,av (by have:=na.o;omega)⟩;have bL:=za (AI.o q (aM i2));obtain⟨Nj,Nk,zJ,_,qr⟩:=D.o.nd.qs;injection zJ with F H G
      subst F G;clear H;obtain⟨tn,u1,u2,up,vs,rfl,MR,te,tk,xE,tm,al,_⟩:=qr bp q i2;obtain⟨t0,ar⟩:∃t0,((d.eqs.take bp).flatMap λq=>dY d.ab q.a (rb q) 0 q.ns).foldl aj lt=t0:=⟨_,rfl⟩;have wf:aa (((d.eqs.take (bp+1)).flatMap λq=>dY d.ab q.a (rb q) 0 q.ns).foldl aj lt=(dY d.ab q.a (rb q) 0 q.ns).foldl aj t0):=(by unfold aa;rw[np i2,bc,ar]);rw[ar] at D;have op:tn<wr.heap.size:=(by have:=D.o.size;omega);obtain⟨M,i3⟩:∃M,q.ns.length=M:=⟨_,rfl⟩;obtain⟨pl,pt⟩:∃pl,q.ps.length=pl:=⟨_,rfl⟩;rw[i3] at te al;rw[pt] at tk;have P:=za i3;have IN:M<=100000:=(by obtain⟨_,_,MH,Ny,_⟩:=al;omega);clear qr i2 ar i3 pt;go_wp2_with fail;obtain⟨c4,K⟩:∃c4,wr.alloc (.cells #[.slice u1 M u2,.slice up pl vs,xI q.a,xI (q.ex:Nat)] 275)=c4:=⟨_,rfl⟩;have fV:xB wr c4:=K▸(Below.refl _ wr).alloc (an _) _;have b1:=za (D.o.on fV);have Y:=za (mp.o.on fV);have m7:=za (al.aH (fV.mono D.o.size));have hm:aa (xH c4 wr.heap.size #[.slice u1 M u2,.slice up pl vs,xI q.a,xI (q.ex:Nat)] 275):=K▸zc wr _;have b4:Z<wr.heap.size:=ze D.o.ak.aC;have cn:w.heap.size<wr.heap.size:=U;rw[K];obtain⟨B,ca⟩:∃B,wr.heap.size=B:=⟨_,rfl⟩;rw[ca] at hm b4 cn ⊢;clear al K fV D mp a2 s1 s2 a3 a4 a5 U te tk xE tm ca op;obtain⟨rL,rfl⟩:∃rL,rL=wr:=⟨_,rfl⟩;obtain⟨ak,rfl⟩:∃ak,ak=gk:=⟨_,rfl⟩;go_loopg [18] (M+1) (λj i wr=>∃E:Nat,E+j=M+1/\E<=M/\i=xI E/\aa (bq w wr N Z w.heap.size (xS g L g3) x ((dY d.ab q.a (rb q) 0 (q.ns.take E)).foldl aj t0) (.slice g5 m c3) (.slice gt r c0) (xS tn T c2) d)/\aa (cE wr lo c1 (.slice h2 r g0) r (eG J r))/\aa (xH wr B #[.slice u1 M u2,.slice up pl vs,xI q.a,xI (q.ex:Nat)] 275)/\aa (kf wr N (.slice u1 M u2) q.ns));case atStart=>exact⟨0,by omega,aE _,rfl,b1,Y,hm,m7⟩
      case round =>
       obtain⟨E,MT,GI,rfl,n,be,b3,hw⟩:=hrel;clear b1 Y hm m7;obtain⟨a2,s1,s2,a3,a4,a5,U⟩:=bz n.o.bx;obtain⟨hR,hT,h0,h1,h3,fv⟩:=zU b3.o;by_cases MU:E<M
       . obtain⟨s,ts⟩:∃s,q.ns[E]?=some s:=⟨_,av (by have:=P.o;omega)⟩;obtain⟨f,v,gc,hv⟩:=bL.o.nm s (aM ts);have zM:q.ex<r:=(by have:=bL.o.ex;have:=ta.o;omega);obtain⟨_,w0,xs,h9,S⟩:=be.o;injection h9 with F H G
         subst F G;clear H;obtain⟨x1,rfl,_,zx,z5⟩:=S q.ex _ (oQ zM);have EI:x1<wr.heap.size:=(by have:=be.o.1;omega);obtain⟨t1,i4⟩:∃t1,(dY d.ab q.a (rb q) 0 (q.ns.take E)).foldl aj t0=t1:=⟨_,rfl⟩;have fq:aa ((dY d.ab q.a (rb q) 0 (q.ns.take (E+1))).foldl aj t0=(if v.bl=rb q E then [] else [q.a]).foldl aj t1):=(by unfold aa;rw[vY ts,bc,i4,Nat.zero_add,l4 gc hv]);rw[i4] at n;clear S i4;go_upto_if 298 with fail;go_cut [19,20] from 283 to 341 (λb _ sg=>b=.bool (rb q E)/\aa (bq w sg N Z w.heap.size (xS g L g3) x (t1) (.slice g5 m c3) (.slice gt r c0) (xS tn T c2) d)/\aa (cE sg lo c1 (xS x1 r g0) r (eG J r))/\aa (xH sg B #[.slice u1 M u2,.slice up pl vs,xI q.a,xI (q.ex:Nat)] 275)/\aa (kf sg N (.slice u1 M u2) q.ns))
         case first =>
          as_aux_lemma =>
           by_cases MH:1<M
           . obtain⟨x0,h5,c,IS,of,zs,ok⟩:=bL.o.many (by have:=P.o;omega);obtain⟨v',i5,qs⟩:=ok E (by have:=P.o;omega);have Mu:=za qs;have ds:=za (λW (le:xB wr W)=>lX x0.s k (by have:=v4.o;omega) W (n.o.ak.on le));rw[of] at ds;unfold bC at ds;obtain⟨_,_,iR,_,al⟩:=n.o.ak.ns;obtain⟨g',kw,wn,gs,sh,st,sn,ry,un,sc,ip,MO,M7,M8,M9,Na,Nb,n3⟩:=al h5 c zs;injection iR with F H G
             subst F G;cases ip;have MN:h5<L:=(by have:=(aB.1 zs).1;have:=v4.o;omega);obtain⟨Mv,Mw,Mx,My⟩:=zp n.o.ak.aC;have os:g<wr.heap.size:=(by have:=n.o.size;omega);obtain⟨z3,z4,i7,_,cs⟩:=n.o.nd.xs;injection i7 with F M6 G
             subst F G;obtain⟨lb,zS,rfl,zA,⟨_,_,_,_,Nw,_⟩,_⟩:=cs q.ex x0 IS;have g2:lb<wr.heap.size:=(by have:=n.o.size;omega);have zh:(1:Int)<(M:Int):=(by omega);clear al zs of H cs M6 IS ok qs;go_upto_region 69 with fail
             go_region_held3 (λa=>a.cell? (xD Z 0)=some (xS g L g3)/\a.cell? (xD w.heap.size 3)=some (xS lb r c0)/\a.cell? (xD B 3)=some (xI (q.ex:Nat))/\a.cell? (xD lb (q.ex*6+4))=some (.string x0.s)/\a.cell? (xD g (h5*5))=some (.string c.nm)/\a.cell? (xD g (h5*5+1))=some (xI c.a)/\a.cell? (xD g (h5*5+2))=some (.slice kw wn gs)/\a.cell? (xD g (h5*5+3))=some (.slice sh st sn)/\a.cell? (xD g (h5*5+4))=some (.slice ry un sc))
              (first|(with_reducible (refine⟨?_,?_,?_,?_,?_,?_,?_,?_,?_⟩ <;> repeat (first|assumption|refine zg ?_|refine zj _ ?_|refine zk (by omega) ?_)))|go_keep)
              (first
                | (go_at_call 95;refine (ds.o _ (by first|exact zo (Below.refl _ _)|exact zo ((Below.refl _ _).alloc (an _) _)|exact (zo (Below.refl _ _)).alloc (an _) _)).mono ?_;rintro e' lv ⟨rfl,rfl⟩))
             all_goals
              rename_i h7
              clear h7;obtain⟨wd,go⟩:∃wd,(wr.alloc (.cells #[.string c.nm,xI c.a,.slice kw wn gs,.slice sh st sn,.slice ry un sc] 103)).drew=wd:=⟨_,rfl⟩;have c5:aa (xB wr wd):=go▸zo ((Below.refl _ _).alloc (an _) _);have nd:aa (wd.heap[wr.heap.size]?=some (nf c (.slice kw wn gs) (.slice sh st sn) (.slice ry un sc))):=go▸zc wr _;have m0:=za (n3.aH (c5.o.mono n.o.size));have n1:N<=wd.heap.size:=(by have:=c5.o.size;have:=n.o.size;omega);rw[go];obtain⟨h4,n2⟩:∃h4,wr.heap.size=h4:=⟨_,rfl⟩;rw[n2] at nd ⊢;clear go n3 M7 M8 M9 Na Nb Mv Mw Mx My a2 s1 s2 a3 a4 a5 U hR hT h0 h1 h3 fv ds Nw z5 os n2;obtain⟨NB,NC,ND,NE,NF,NG,NH⟩:=bz nd.o;have m1:=za (λW (le:xB wd W)=>vU (xv:=.slice sh st sn) (qv:=.slice ry un sc) c.nm c.a true W (m0.o.vs.aH (le.mono n1)) (aJ n1 le.size) ⟨_,_,_,rfl⟩ ⟨_,_,_,rfl⟩);obtain⟨Nu,Nv,zP,rt,rx⟩:=m0.o.vs;injection zP with F H G
              subst F G;obtain⟨_,x3,rfl,or,Nt,z2,Mo,_⟩:=rx _ v' i5;have io:=(aB.1 i5).1;rw[<- H] at io rt;obtain⟨C,Bx⟩:∃C,dP true c.ab=C:=⟨_,rfl⟩;rw[Bx] at m1 Mo io;have FT:x3<wd.heap.size:=(by omega);have zm:(C:Int)+(E:Int)=((C+E:Nat):Int):=(by omega);clear rx i5 Bx H Nt z2;obtain⟨I,h8⟩:∃I,C+E=I:=⟨_,rfl⟩;rw[h8] at zm io Mo;have Mt:=za h8;have M2:IntKind.i64.wrap ((C:Int)+(E:Int))=(I:Int):=(by rw[IntKind.wrap_i64,zm];omega);have MI:(0:Int)<=(I:Int):=(by omega);have MJ:(I:Int)<(wn:Int):=(by omega);clear h8 zm;go_upto_region 70 with fail
              go_region_held3 (λa=>a.cell? (xD h4 0)=some (.string c.nm)/\a.cell? (xD h4 1)=some (xI c.a)/\a.cell? (xD h4 2)=some (xS x3 wn gs)/\a.cell? (xD h4 3)=some (.slice sh st sn)/\a.cell? (xD h4 4)=some (.slice ry un sc)/\a.cell? (xD x3 (I*10+2))=some (.bool v'.bl))
               (first|(with_reducible (refine⟨?_,?_,?_,?_,?_,?_⟩ <;> repeat (first|assumption|refine zg ?_|refine zj _ ?_|refine zk (by omega) ?_|refine zd l.o ?_ (by first|omega|(rw[au];omega)))))|go_keep)
               (first
                 | (go_at_call 46;refine (m1.o _ (zo (Below.refl _ _))).mono ?_;rintro e' lv ⟨rfl,R⟩;have l:=za (zw R)))
              have bk:=za (c5.o.trans (l.o.mono c5.o.size));go_wp2_with fail;go_meet;exact⟨by rw[Mu.o],n.o.on bk.o,be.o.on bk.o,(bk.o.block B (ze b3.o)).trans b3.o,hw.o.aH (bk.o.mono n.o.size)⟩
           have zh:¬((1:Int)<(M:Int)):=(by omega);go_wp2_with fail;go_meet;exact⟨by rw[bL.o.one (by have:=P.o;omega)],n,be,b3,hw⟩
         case rest =>
          as_aux_lemma =>
           obtain⟨rfl,O,l3,he,hu⟩:=hcut;clear n be b3 hw a2 s1 s2 a3 a4 a5 U hR hT h0 h1 h3 fv z5 bL;obtain⟨a2,s1,s2,a3,a4,a5,U⟩:=bz O.o.bx;obtain⟨hR,hT,h0,h1,h3,fv⟩:=zU he.o;obtain⟨Nl,Nn,zN,_,rg⟩:=hu.o;injection zN with F H G
           subst F G;clear H;obtain⟨_,x2,rfl,MQ,Ms⟩:=rg E s ts;obtain⟨zZ,z0,i6,_,a0⟩:=O.o.nd.vs;injection i6 with F H G
           subst F G;obtain⟨_,fx,rfl,zy,zW,zX,v2,_⟩:=a0 f v hv;have zv:f<m:=(by have:=(aB.1 hv).1;have:=sE.o;omega);have ds:=za (O.o.drew.find s);rw[gc] at ds;unfold bC at ds;have Fx:x2<wc.heap.size:=(by have:=O.o.size;omega);have g1:fx<wc.heap.size:=(by have:=O.o.size;omega);obtain⟨vz,rs⟩:∃vz,v.bl=vz:=⟨_,rfl⟩;rw[rs] at v2 fq;obtain⟨zT,rd⟩:∃zT,rb q E=zT:=⟨_,rfl⟩;rw[rd] at fq ⊢;clear rg a0 ts gc hv H zW zX rs rd;go_upto_region 71 with fail
           go_region_held3 (λa=>a.cell? (xD w.heap.size 0)=some (.string d.nm)/\a.cell? (xD w.heap.size 1)=some (xI d.a)/\a.cell? (xD w.heap.size 2)=some (xS fx m c3)/\a.cell? (xD w.heap.size 3)=some (.slice gt r c0)/\a.cell? (xD w.heap.size 4)=some (xS tn T c2)/\a.cell? (xD B 0)=some (xS x2 M u2)/\a.cell? (xD x2 E)=some (.string s)/\a.cell? (xD fx (f*10+2))=some (.bool vz))
            (first|(with_reducible (refine⟨?_,?_,?_,?_,?_,?_,?_,?_⟩ <;> repeat (first|assumption|refine zg ?_|refine zj _ ?_|refine zk (by omega) ?_|refine zd l.o ?_ (by first|omega|(rw[au];omega)))))|go_keep)
            (first
              | (go_at_call 169;refine ds.o.mono ?_;rintro e lv ⟨rfl,R⟩;have l:=za (zw R)))
           have b0:=za (O.o.on l.o);have l5:=za (l3.o.on l.o);have hg:=za ((l.o.block B fv).trans he.o);have nb:=za (hu.o.aH (l.o.mono O.o.size));clear a2 s1 s2 a3 a4 a5 U hR hT h0 h1 h3 fv Ms v2 ds O l3 he hu;obtain⟨hR,hT,h0,h1,h3,fv⟩:=zU hg.o;cases vz <;> cases zT
           all_goals
            go_wp2_with (go_at_call 246;refine (du q.a _ b0.o.ak).mono ?_;rintro e NJ ⟨rfl,nm,nt⟩;have v0:=za nm;have eb:=za nt;clear nm nt);go_roundg (gk-1);(try (case measure=>omega))
            first
             | exact⟨E+1,by omega,by omega,by go_num,by rw[fq.o];exact b0,l5,hg,nb⟩
             | exact⟨E+1,by omega,by omega,by go_num,by rw[fq.o];exact b0.o.aX v0.o eb.o,l5.o.aX a9 eb.o,(eb.o.block B fv (by omega)).trans hg.o,nb.o.aH (eb.o.below b0.o.size (λj e=>by have:=b0.o.ak.lt;omega))⟩
       have zC:E=M:=(by omega);subst zC;rw[de (by have:=P.o;omega)] at n;go_wp2_with fail;go_roundg (ak-1);case measure=>omega
       exact⟨bp+1,by omega,by omega,by go_num,by rw[wf.o];exact n,be⟩
    have po:bp=T:=(by omega);subst po;have bl:(nl d g4 rb).foldl aj o=((d.eqs.take bp).flatMap λq=>dY d.ab q.a (rb q) 0 q.ns).foldl aj lt:=(by unfold nl;rw[bc,bc,m8.o,ta.o,m9.o,de (by have:=na.o;omega)]);rw[<- bl] at D;clear bl m8 m9 AI;go_wp2_with fail;go_end0;exact⟨rfl,by rw[v4.o];exact D.o.ak,D.o.fr⟩
end
end Go.Proofs.YtmfkofhgdjechaaGreatDoor
