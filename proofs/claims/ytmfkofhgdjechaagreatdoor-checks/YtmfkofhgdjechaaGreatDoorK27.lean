/- Part 28 of the proof. -/
import Derived.Test.YtmfkofhgdjechaaGreatDoorK26
set_option maxRecDepth 100000
set_option maxHeartbeats 8000000
namespace Go.Proofs.YtmfkofhgdjechaaGreatDoor
open Go.Proofs.Tryz
open Go.RowKit
section
theorem cd {B n:Nat}{w W:Xw}(h:Below B w W):Below B w (W.drewN n):=⟨h.os,h.tape,h.output,h.size,h.block⟩
theorem F6 {N:Nat}{vv B qv:Xv}{d:Nd}(nm:Xb)(a:Int)(x:Nat)(e:Ex)(l:d.az[x]?=some e)(b:(e.op.toList==[110,101,103])=true->∃y u,e.ah[0]?=some y/\d.az[y]?=some u)(w:Xw)(h:lK w N B d.az)(V:N<=w.heap.size)(K:∃a n c,vv=.slice a n c)(J:∃a n c,qv=.slice a n c) :
 xK 249 #[.agg #[.string nm,xI a,vv,B,qv],xI x] w (λD O=>D=.returned (.bool (jT d.az e))/\xB w O):=by
 obtain⟨a4,a5,rfl,I,k⟩:=h;obtain⟨a0,a3,a2,rfl⟩:=K;obtain⟨ak,ar,al,rfl⟩:=J;obtain⟨g,Z,rfl,W,⟨P,Q,R,E,S,T⟩,X,Y,rfl,s,i⟩:=k x e l;have t:=(aB.1 l).1;obtain⟨L,p⟩:∃L,d.az.length=L:=⟨_,rfl⟩;have C:=za p;rw[p] at I t ⊢;have H:g<w.heap.size:=by omega
 clear p;cases v:(e.op.toList==[110,101,103]) with
 | true =>
   obtain⟨y,u,o,m⟩:=b v;obtain⟨F,rfl,G,z0⟩:=i 0 y o;obtain⟨U,_,q,_,⟨f0,_⟩,_⟩:=k y u m;cases q;have M:y<L:=(by have:=(aB.1 m).1;have:=C.o;omega);have r:0<e.ah.length:=(aB.1 o).1;have j:jT d.az e=(u.op.toList==[110,117,109,98,101,114]):=(by unfold jT;rw[v,ag rfl,o];simp only[m]);rw[j];have z:F<w.heap.size:=(by omega);obtain⟨A,f⟩:∃A,e.ah.length=A:=⟨_,rfl⟩;rw[f] at E s r;clear k i o m l b j f;go_enter func249,ntmps249;go_upto_region 3 with fail;go_quiet (fail);all_goals go_wp2_with fail
   all_goals go_ret
   all_goals exact⟨rfl,cd (cT w _ _)⟩
 | false =>
   have j:jT d.az e=(e.op.toList==[110,117,109,98,101,114]||e.op.toList==[98,111,111,108]):=(by unfold jT;rw[v];rfl);rw[j];clear k i l b j;cases a9:(e.op.toList==[110,117,109,98,101,114]) <;> cases be:(e.op.toList==[98,111,111,108]);all_goals go_enter func249,ntmps249
   all_goals go_wp2_with fail
   all_goals go_ret
   all_goals exact⟨rfl,((Below.refl _ _).alloc (an _) _).alloc (by simp) _⟩
end
section
attribute [local go_sem ↓] Go.wp_at_zero Go.wp_at_succ
def jS (n:Nat):Code->Option Code
 | .block k c=>if k=n then some (.block k c) else jS n c
 | .seq a b=>match jS n a with
   | some c=>some c
   | none=>jS n b
 | .scope c=>jS n c
 | .loop c=>jS n c
 | .cond _ a b=>match jS n a with
   | some c=>some c
   | none=>jS n b
 | _=>none
theorem w1 {w wr:Xw}{N v4 MZ M3 Nk l p m k M9 Nb Nf M8 Nn MY:Nat}{Na Nc M7 Nl MX:Xp}{M6 M1:Xv}{v5:List Nd}{d:Nd}{e:Ex}{f:Xh}{a:Bool}{t0:Xo}(Nz:(e.ah.map f).length=p)(NP:p<=100000)(xB:v4<MZ)(Nh:v4<l)
 (wn:aa (bq w wr N v4 w.heap.size M6 v5 t0 (.slice Na m Nb) (.slice Nc k Nf) (.slice M7 M9 M8) d)) (v9:aa (cE wr MZ M3 M1 k (eG f k))) (wp:aa (xH wr l #[.string e.op,xI e.a,xI e.nm,.slice Nl p Nn,.string e.s,xI e.n] 190)) (wf:aa (cE wr (l+1) Nk (.slice MX p MY) p (e.ah.map f)))
 (Q:Exit->Act->World->Prop) {Np Nq Nr Ns Nt Nu Nv xD xE zg zp zq zr zs zu zv zw zx zy zA zB zC zD zE zF zH zI zJ zL zM zN zO zP zQ zR zS zT zU zV zW zX zZ z0 z2 z3 z4 z5 z7 z8 z9 Ak AI AS AT A6 A7 Bu Bx By BY Ch Ev EI EQ Fr Fx FT Gl GI If In IN IS IT Kn Ln Mo Mp Mq Mr Ms Mt Mu Mv Mw Mx My Mz MA MB MC MD ME MF MG o q s t u v x y z A B C D E F G H I J K L M O P R S T U V W X xK xS x0 x1 x2 x3 zc zd ze zh zi zj zk zm zn zo Y Z ak al ar a0 a2 a3 a4 a5 a9 be bk bl bp bs bt bx bE bL b0 b1 b2 b3 b4 ca ck cm cn cs cv c0 c1 c2 c3 c4 c5 c9 dn ds eb em eq er es ev ex fd fq fr fv fx fV gc ge gl go gs gt g0 g1 g2 g3 g4 g5 g6 g7 g8 g9 he hg hm hu hv hw hN hQ hR hT h0 h1 h2 h3 h4 h5 h6 h7 h8 h9 io ip it iR i0 i1 i2 i3 i4 i5 i6 i7 i8 i9 kd kw lb le lk ln lo ls lt lv l1 l2 l3 l5 l6 md mk mp m0 m1 m2 m3 m4 m5 m6 m7 m8 m9 na nb nd ne nm no ns nt nx n1 n2 n3 of ok op or os o7 o8 pb pe pl po pp pr ps pt qr qs qv rb rd rg ro rp rs rt rx ry rL sc sg sh sn st sE s1 s2 ta te tk tm tn tr ts tt tx un up vs vv vz vG v0:Xv}
 (Nw:aa (∀(n:Xw) {Ng MH MI MJ MK ML MM MN MO MP MQ MR MS MT MU MV MW:Xv},aa (bq w n N v4 w.heap.size M6 v5 ((km e.a a (e.ah.map f)).foldl aj t0) (.slice Na m Nb) (.slice Nc k Nf) (.slice M7 M9 M8) d)->aa (cE n MZ M3 M1 k (eG f k))->Q .normal ⟨#[xP v4,Np,Nq,Nr,Ns,Nt,Nu,Nv,xP l,.slice MX p MY,xD,.bool a,Ng,xE,zg,zp,zq,zr,zs,zu,zv,zw,zx,zy,zA,zB,zC,zD,zE,zF,zH,zI,zJ,zL,zM,zN,zO,zP,zQ,zR,zS,zT,zU,zV,zW,zX,zZ,z0,z2,z3,z4,z5,z7,z8,z9,Ak,AI,AS,AT,A6,A7,Bu,Bx,By,BY,Ch,Ev,EI,EQ,Fr,Fx,FT,Gl,GI,If,In,IN,IS,IT,Kn,Ln,Mo,Mp,Mq,Mr,Ms,Mt,Mu,Mv,Mw,Mx,My,Mz,MA,MB,MC,MD,ME,MF,MG,o,q,s,t,u,v,x,y,z,A,B,C,D,E,F,G,H,I,J,K,L,M,O,P,R,S,T,U,V,W,X,MH,MI,MJ,MK,ML,MM,MN,MO,MP,MQ,MR,MS,MT,MU,MV,MW,Y,Z,ak,al,ar,a0,a2,a3,a4,a5,a9,be,bk,bl,bp,bs,bt,bx,bE,bL,b0,b1,b2,b3,b4,ca,ck,cm,cn,cs,cv,c0,c1,c2,c3,c4,c5,c9,dn,ds,eb,em,eq,er,es,ev,ex,fd,fq,fr,fv,fx,fV,gc,ge,gl,go,gs,gt,g0,g1,g2,g3,g4,g5,g6,g7,g8,g9,he,hg,hm,hu,hv,hw,hN,hQ,hR,hT,h0,h1,h2,h3,h4,h5,h6,h7,h8,h9,io,ip,it,iR,i0,i1,i2,i3,i4,i5,i6,i7,i8,i9,kd,kw,lb,le,lk,ln,lo,ls,lt,lv,l1,l2,l3,l5,l6,md,mk,mp,m0,m1,m2,m3,m4,m5,m6,m7,m8,m9,na,nb,nd,ne,nm,no,ns,nt,nx,n1,n2,n3,of,ok,op,or,os,o7,o8,pb,pe,pl,po,pp,pr,ps,pt,qr,qs,qv,rb,rd,rg,ro,rp,rs,rt,rx,ry,rL,sc,sg,sh,sn,st,sE,s1,s2,ta,te,tk,tm,tn,tr,ts,tt,tx,un,up,vs,vv,vz,vG,v0],[]⟩ n)) :
 Code.wp prog ((Tryz.f201.body.bind (jS 7)).getD .skip) Q ⟨#[xP v4,Np,Nq,Nr,Ns,Nt,Nu,Nv,xP l,.slice MX p MY,xD,.bool a,xI 0,xE,zg,zp,zq,zr,zs,zu,zv,zw,zx,zy,zA,zB,zC,zD,zE,zF,zH,zI,zJ,zL,zM,zN,zO,zP,zQ,zR,zS,zT,zU,zV,zW,zX,zZ,z0,z2,z3,z4,z5,z7,z8,z9,Ak,AI,AS,AT,A6,A7,Bu,Bx,By,BY,Ch,Ev,EI,EQ,Fr,Fx,FT,Gl,GI,If,In,IN,IS,IT,Kn,Ln,Mo,Mp,Mq,Mr,Ms,Mt,Mu,Mv,Mw,Mx,My,Mz,MA,MB,MC,MD,ME,MF,MG,o,q,s,t,u,v,x,y,z,A,B,C,D,E,F,G,H,I,J,K,L,M,O,P,R,S,T,U,V,W,X,xK,xS,x0,x1,x2,x3,zc,zd,ze,zh,zi,zj,zk,zm,zn,zo,Y,Z,ak,al,ar,a0,a2,a3,a4,a5,a9,be,bk,bl,bp,bs,bt,bx,bE,bL,b0,b1,b2,b3,b4,ca,ck,cm,cn,cs,cv,c0,c1,c2,c3,c4,c5,c9,dn,ds,eb,em,eq,er,es,ev,ex,fd,fq,fr,fv,fx,fV,gc,ge,gl,go,gs,gt,g0,g1,g2,g3,g4,g5,g6,g7,g8,g9,he,hg,hm,hu,hv,hw,hN,hQ,hR,hT,h0,h1,h2,h3,h4,h5,h6,h7,h8,h9,io,ip,it,iR,i0,i1,i2,i3,i4,i5,i6,i7,i8,i9,kd,kw,lb,le,lk,ln,lo,ls,lt,lv,l1,l2,l3,l5,l6,md,mk,mp,m0,m1,m2,m3,m4,m5,m6,m7,m8,m9,na,nb,nd,ne,nm,no,ns,nt,nx,n1,n2,n3,of,ok,op,or,os,o7,o8,pb,pe,pl,po,pp,pr,ps,pt,qr,qs,qv,rb,rd,rg,ro,rp,rs,rt,rx,ry,rL,sc,sg,sh,sn,st,sE,s1,s2,ta,te,tk,tm,tn,tr,ts,tt,tx,un,up,vs,vv,vz,vG,v0],[]⟩ wr:=by
 conv=>arg 2;whnf
 go_wp2_with fail;obtain⟨No,rfl⟩:∃No,No=wr:=⟨_,rfl⟩;go_loopg [12] (p+1) (λj i n=>∃r:Nat,r+j=p+1/\r<=p/\i=xI r/\aa (bq w n N v4 w.heap.size M6 v5 ((km e.a a ((e.ah.map f).take r)).foldl aj t0) (.slice Na m Nb) (.slice Nc k Nf) (.slice M7 M9 M8) d)/\aa (cE n MZ M3 M1 k (eG f k))/\aa (xH n l #[.string e.op,xI e.a,xI e.nm,.slice Nl p Nn,.string e.s,xI e.n] 190)/\aa (cE n (l+1) Nk (.slice MX p MY) p (e.ah.map f)));case atStart=>exact⟨0,by omega,aE _,rfl,wn,v9,wp,wf⟩
 case round =>
  obtain⟨r,NC,NQ,rfl,c,v2,v3,h⟩:=hrel;clear wn v9 wp wf;obtain⟨NI,NJ,NK,NL,NM,NN,NO,Nx⟩:=zt v3.o;by_cases NB:r<p
  . obtain⟨b,M2⟩:∃b,(e.ah.map f)[r]?=some b:=⟨_,av (by omega)⟩;obtain⟨_,ND,NE,M4,xC⟩:=h.o;injection M4 with NF NG NH
    subst NF NH;clear NG;obtain⟨Ny,rfl,NA,Ni,NS⟩:=xC r b M2;have xs:(km e.a a ((e.ah.map f).take (r+1))).foldl aj t0=(if b=a then [] else [e.a]).foldl aj ((km e.a a ((e.ah.map f).take r)).foldl aj t0):=(by unfold km;rw[np M2,bc]);have wd:=za xs;have Nj:Ny<wr.heap.size:=(by have:=h.o.1;omega);clear xC M2 xs;cases b <;> cases a
    all_goals
     go_wp2_with (go_at_call 246;refine (du e.a _ c.o.ak).mono ?_;rintro e' NR ⟨rfl,w0,xv⟩;have M0:=za w0;have g:=za xv;clear w0 xv);go_roundg (gk-1);(try (case measure=>omega))
     first
      | exact⟨r+1,by omega,by omega,by go_num,by rw[wd.o];exact c,v2,v3,h⟩
      | exact⟨r+1,by omega,by omega,by go_num,by rw[wd.o];exact c.o.aX M0.o g.o,v2.o.aX xB g.o,(g.o.block l Nx (by omega)).trans v3.o,h.o.aX (by omega) g.o⟩
  have M5:r=p:=by omega
  subst M5;rw[de (by omega)] at c;go_wp2_with fail;exact Nw.o _ c v2
end
end Go.Proofs.YtmfkofhgdjechaaGreatDoor
