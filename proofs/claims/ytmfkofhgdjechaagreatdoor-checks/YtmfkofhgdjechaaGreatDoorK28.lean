/- Part 29 of the proof. -/
import Derived.Test.YtmfkofhgdjechaaGreatDoorK27
set_option maxRecDepth 100000
set_option maxHeartbeats 8000000
namespace Go.Proofs.YtmfkofhgdjechaaGreatDoor
open Go.Proofs.Tryz
open Go.RowKit
section
attribute [local go_sem ↓] Go.wp_at_zero Go.wp_at_succ
theorem FZ {N Z:Nat}{Mg:Xv}{x:List Nd}{o:Xo}(k:Nat)(d:Nd)(zv:x[k]?=some d)(J:Xh)(AT:aa (∀i e,d.az[i]?=some e->p3 x k d J i e))
 (z8:aa (∀v∈d.ab,v.tm=true->lc d.ab v.ck)) (g5:Nat->List Nat) (AI:aa (∀i e,d.az[i]?=some e->gz x k d J e (g5 i))) (z9:aa (∀(i:Nat) (e:Ex),d.az[i]?=some e->∀y∈e.ah,y<d.az.length)) (rb:ax->Nat->Bool) (AS:aa (∀q∈d.eqs,od x k d J q (rb q))) (w:Xw) (h:Ak w N Z Mg x o) :
 xK 201 #[xP Z,xI k] w (λe a=>e=.returned (.tuple #[])/\Ak a N Z Mg x ((nl d g5 rb).foldl aj o)/\Fr (λk=>k=Z) w a):=by
 obtain⟨Nw,g4,rfl,BY,By⟩:=h.ns;obtain⟨g,g6,cv,c4,g0,A,c0,lb,T,c2,rfl,Nv,M7,M8,M9,Na,Nb,qr⟩:=By k d zv;have v0:=za h;obtain⟨Bx,Mw,ge,MY⟩:=zp h.aC;have pp:=(aB.1 zv).1;have EI:=h.lt;have hR:=za (λW (ln:xB w W)=>re k d zv J AT W (h.on ln));obtain⟨L,zq⟩:∃L,x.length=L:=⟨_,rfl⟩;have v5:=za zq;rw[zq] at BY pp Bx v0;have o7:g<w.heap.size:=by omega
 have fd:=za qr;obtain⟨X,zs⟩:∃X,d.az.length=X:=⟨_,rfl⟩;have tk:=za zs;have MH:X<=100000:=by obtain⟨_,_,_,h,_⟩:=fd.o.xs;omega
 have zR:A=X:=by obtain⟨_,_,h,_,_⟩:=fd.o.xs;injection h with _ h _;omega
 subst zR;rw[zs] at hR;clear h By zq qr zs;go_enter func201,ntmps201;go_upto_region 1 with fail;obtain⟨l3,go⟩:∃l3,w.alloc (.cells #[.string d.nm,xI d.a,.slice g6 cv c4,.slice g0 A c0,.slice lb T c2] 103)=l3:=⟨_,rfl⟩;have bt:aa (xB w l3):=go▸(Below.refl _ w).alloc (an _) _
 have es:aa (bq w l3 N Z w.heap.size (xS g L g4) x o (.slice g6 cv c4) (.slice g0 A c0) (.slice lb T c2) d) :=
  ⟨v0.o.on bt.o,Fr.dp bt.o,go▸zc w _,fd.o.aH (bt.o.mono (by omega)),an _,MY⟩
 rw[go];clear go fd v0 Bx Mw ge M7 M8 M9 Na Nb o7;go_wp2_with (go_at_call 248;refine (hR.o _ bt.o).mono ?_;rintro e l2 ⟨Nt,rfl,⟨_,h4,g1,rfl,S⟩,R⟩;have l:=za R;have mk:=za S;clear R S);have a9:Z<l3.heap.size:=ze es.o.ak.aC;obtain⟨lo,gl⟩:∃lo,l3.heap.size=lo:=⟨_,rfl⟩;obtain⟨c1,pb⟩:∃c1,l2.heap.size=c1:=⟨_,rfl⟩;have m0:aa (cE l2 lo c1 (.slice h4 A g1) A (eG J A)):=by rw[<- gl,<- pb];exact⟨an _,h4,g1,rfl,mk.o⟩
 have IT:w.heap.size<lo:=gl▸ze es.o.bx;rw[gl] at a9;have ev:=za (es.o.on l.o);clear mk l es bt hR gl pb;obtain⟨V,Fx⟩:∃V,d.ab.length=V:=⟨_,rfl⟩;have te:=za Fx;have FT:V<=16:=by obtain⟨_,_,_,h,_⟩:=ev.o.nd.vs;omega
 have zP:cv=V:=by obtain⟨_,_,h,_,_⟩:=ev.o.nd.vs;injection h with _ h _;omega
 subst zP;clear Fx;go_loopg [6] (cv+1) (λj i wr=>∃m:Nat,m+j=cv+1/\m<=cv/\i=xI m/\aa (bq w wr N Z w.heap.size (xS g L g4) x ((jL d.ab (d.ab.take m)).foldl aj o) (.slice g6 cv c4) (.slice g0 A c0) (.slice lb T c2) d)/\aa (cE wr lo c1 (.slice h4 A g1) A (eG J A)));case atStart=>exact⟨0,by omega,aE _,rfl,ev,m0⟩
 case round =>
  obtain⟨m,zE,MU,rfl,z,bx⟩:=hrel;clear ev m0;obtain⟨a2,s1,s2,a3,a4,a5,U⟩:=bz z.o.bx;by_cases MS:m<cv
  . skip;as_aux_lemma =>
     obtain⟨v,hv⟩:∃v,d.ab[m]?=some v:=⟨_,av (by have:=te.o;omega)⟩;have ds:=za (z8.o v (aM hv));obtain⟨z0,z2,i8,_,a0⟩:=z.o.nd.vs;injection i8 with F H G
     subst F G;obtain⟨_,fV,rfl,zA,zX,zZ,v2,Nj,Nk,Mh,Nl,Nn,No,Mi⟩:=a0 m v hv;have g2:fV<wr.heap.size:=(by have:=z.o.size;omega);have bl:(jL d.ab (d.ab.take (m+1))).foldl aj o=(if (v.tm&&!oZ d.ab v.ck)=true then [v.on] else []).foldl aj ((jL d.ab (d.ab.take m)).foldl aj o):=(by unfold jL;rw[np hv,bc]);obtain⟨q,i4⟩:∃q,(jL d.ab (d.ab.take m)).foldl aj o=q:=⟨_,rfl⟩;rw[i4] at z bl;obtain⟨zW,rs⟩:∃zW,v.tm=zW:=⟨_,rfl⟩;rw[rs] at Mi bl ds;clear i4 rs H hv;cases zW with
     | false =>
       have g7:=za bl;clear bl a0 ds;go_upto_region 5 with fail;go_quiet (fail);go_wp2_with fail;go_roundg (gk-1);case measure=>omega
       exact⟨m+1,by omega,by omega,by go_num,by rw[g7.o];exact z.o.on (cd (Below.refl _ _)),bx.o.on (cd (Below.refl _ _))⟩
     | true =>
       obtain⟨f,u,ge,up⟩:=ds.o rfl;obtain⟨_,MB,iR,_,Ng,u1,c3,_⟩:=a0 f u up;cases iR;have zx:f<cv:=(by have:=(aB.1 up).1;have:=te.o;omega);rw[l4 ge up] at bl;have eq:=za (z.o.drew.find v.ck);rw[ge] at eq;unfold bC at eq;obtain⟨vv,rt⟩:∃vv,u.bl=vv:=⟨_,rfl⟩;rw[rt] at c3 bl;clear a0 ds ge up rt Ng u1 zX zZ v2 Nj Nk Nn No;go_upto_region 5 with fail
       go_region_held3 (λa=>a.cell? (xD w.heap.size 0)=some (.string d.nm)/\a.cell? (xD w.heap.size 1)=some (xI d.a)/\a.cell? (xD w.heap.size 2)=some (xS fV cv c4)/\a.cell? (xD w.heap.size 3)=some (.slice g0 A c0)/\a.cell? (xD w.heap.size 4)=some (.slice lb T c2)/\a.cell? (xD fV (m*10+9))=some (.bool true)/\a.cell? (xD fV (m*10+6))=some (.string v.ck)/\a.cell? (xD fV (f*10+2))=some (.bool vv))
        (first|(with_reducible (refine⟨?_,?_,?_,?_,?_,?_,?_,?_⟩ <;> repeat (first|assumption|refine zg ?_|refine zj _ ?_|refine zk (by omega) ?_|refine zd l.o ?_ (by first|omega|(rw[au];omega)))))|go_keep)
        (first
          | (go_at_call 169;refine eq.o.mono ?_;rintro e l2 ⟨rfl,R⟩;have l:=za (zw R)))
       have ex:=za (z.o.on l.o);have l5:=za (bx.o.on l.o);have NG:=zd l.o Mh g2;clear z bx l eq a2 s1 s2 a3 a4 a5 U Mh Nl Mi c3;obtain⟨a2,s1,s2,a3,a4,a5,U⟩:=bz ex.o.bx;cases vv with
       | true =>
         have g7:=za bl;clear bl;go_wp2_with fail;go_roundg (gk-1);case measure=>omega
         exact⟨m+1,by omega,by omega,by go_num,by rw[g7.o];exact ex,l5⟩
       | false =>
         have g7:=za bl;clear bl;go_wp2_with (go_at_call 246;refine (du v.on _ ex.o.ak).mono ?_;rintro e NE ⟨rfl,nt,n2⟩;have v4:=za nt;have m4:=za n2;clear nt n2);go_roundg (gk-1);case measure=>omega
         exact⟨m+1,by omega,by omega,by go_num,by rw[g7.o];exact ex.o.aX v4.o m4.o,l5.o.aX a9 m4.o⟩
  have zF:m=cv:=by omega
  subst zF;rw[de (by have:=te.o;omega)] at z;obtain⟨lv,i2⟩:∃lv,(jL d.ab d.ab).foldl aj o=lv:=⟨_,rfl⟩;have na:=za i2;rw[i2] at z;clear i2 zE MU z8;go_wp2_with fail;obtain⟨Ml,rfl⟩:∃Ml,Ml=wr:=⟨_,rfl⟩;clear a2 s1 s2 a3 a4 a5 U;go_loopg [7] (A+1) (λj i wr=>∃r:Nat,r+j=A+1/\r<=A/\i=xI r/\aa (bq w wr N Z w.heap.size (xS g L g4) x (((List.range r).flatMap g5).foldl aj lv) (.slice g6 m c4) (.slice g0 A c0) (.slice lb T c2) d)/\aa (cE wr lo c1 (.slice h4 A g1) A (eG J A)));case atStart=>exact⟨0,by omega,aE _,rfl,z,bx⟩
  case round =>
   obtain⟨r,zH,ps,rfl,t,bE⟩:=hrel;clear z bx;obtain⟨a2,s1,s2,a3,a4,a5,U⟩:=bz t.o.bx;by_cases MT:r<A
   . skip;obtain⟨e,tt⟩:∃e,d.az[r]?=some e:=⟨_,av (by have:=tk.o;omega)⟩;have m8:=za (AI.o r e tt);have m7:=za (z9.o r e tt);obtain⟨z4,z5,i9,_,cs⟩:=t.o.nd.xs;injection i9 with F H G
     subst F G;clear H;obtain⟨lk,zT,rfl,zB,⟨tm,tn,x0,tr,Mx,My⟩,kd,kw,rfl,po,cm⟩:=cs r e tt;have g3:lk<wr.heap.size:=(by have:=t.o.size;omega);have m6:=za cm;obtain⟨bs,ck⟩:∃bs,e.ah.length=bs:=⟨_,rfl⟩;have g9:=za ck;rw[ck] at tr po;obtain⟨t0,ar⟩:∃t0,((List.range r).flatMap g5).foldl aj lv=t0:=⟨_,rfl⟩;rw[ar] at t;have g7:aa (((List.range (r+1)).flatMap g5).foldl aj lv=(g5 r).foldl aj t0):=(by unfold aa;rw[List.range_succ,List.flatMap_append,bc,ar];simp);clear cs tt cm ck ar;go_wp2_with fail;obtain⟨c5,K⟩:∃c5,wr.alloc (.cells #[.string e.op,xI e.a,xI e.nm,.slice kd bs kw,.string e.s,xI e.n] 190)=c5:=⟨_,rfl⟩;have Y:aa (xB wr c5):=K▸(Below.refl _ wr).alloc (an _) _;have b1:=za (t.o.on Y.o);have mp:=za (bE.o.on Y.o);have hT:aa (xH c5 wr.heap.size #[.string e.op,xI e.a,xI e.nm,.slice kd bs kw,.string e.s,xI e.n] 190):=K▸zc wr _;have m5:aa (gm c5 N (.slice kd bs kw) e.ah):=(by have:=g9.o;subst this;exact (show gm wr N (.slice kd _ kw) e.ah from ⟨kd,kw,rfl,po,m6.o⟩).aH (Y.o.mono t.o.size));rw[K];obtain⟨B,ca⟩:∃B,wr.heap.size=B:=⟨_,rfl⟩;have cn:w.heap.size<B:=(by omega);have b4:Z<B:=(by have:=ze t.o.ak.aC;omega);have MF:N<=B:=(by have:=t.o.size;omega);have MN:c1<=B:=(by have:=bE.o.1;omega);rw[ca] at hT ⊢;clear K a2 s1 s2 a3 a4 a5 U tm tn x0 tr Mx My m6 t bE ca Y g3;obtain⟨sh,rfl⟩:∃sh,sh=wr:=⟨_,rfl⟩;obtain⟨ak,rfl⟩:∃ak,ak=gk:=⟨_,rfl⟩;go_loopg [9,10] (bs+1) (λj zT i wr=>∃(p:Nat) (ls:Xp) (lt:Nat),p+j=bs+1/\p<=bs/\zT=.slice ls p lt/\i=xI p/\aa (bq w wr N Z w.heap.size (xS g L g4) x t0 (.slice g6 m c4) (xS lk A c0) (.slice lb T c2) d)/\aa (cE wr lo c1 (.slice h4 A g1) A (eG J A))/\aa (xH wr B #[.string e.op,xI e.a,xI e.nm,.slice kd bs kw,.string e.s,xI e.n] 190)/\aa (gm wr N (.slice kd bs kw) e.ah)/\aa (wr.ownsRow (B+1) 4 1 (.slice ls p lt) p (cZ ((e.ah.map J).take p))));case atStart=>exact⟨0,none,0,by omega,aE _,rfl,rfl,b1,mp,hT,m5,World.ownsRow_nil _ _ _ _⟩
     case round =>
      obtain⟨p,ls,lt,zJ,MW,rfl,rfl,b2,dn,fv,er,fq⟩:=hrel;clear b1 mp hT m5;obtain⟨a2,s1,s2,a3,a4,a5,U⟩:=bz b2.o.bx;obtain⟨h0,h1,h2,h3,Mu,Mv,h5,fx⟩:=zt fv.o;by_cases MQ:p<bs
      . skip;as_aux_lemma =>
         obtain⟨y,u0⟩:∃y,e.ah[p]?=some y:=⟨_,av (by have:=g9.o;omega)⟩;have zS:y<A:=(by have:=m7.o y (aM u0);have:=tk.o;omega);obtain⟨MZ,M0,zC,_,cm⟩:=er.o;injection zC with F H G
         subst F G;clear H;obtain⟨MA,rfl,MK,Mn⟩:=cm p y u0;obtain⟨_,xs,xC,ip,S⟩:=dn.o;injection ip with F H G
         subst F G;clear H;obtain⟨x2,rfl,_,zy,z7⟩:=S y _ (oQ zS);have w0:aa ((e.ah.map J).take (p+1)=(e.ah.map J).take p++[J y]):=n8 (by rw[List.getElem?_map,u0];rfl);have GI:MA<wr.heap.size:=(by have:=b2.o.size;omega);clear cm S u0;go_wp2_with (at_builtin;refine ww _ rfl (.tmp 87) (.tmp 96) rfl (B+1) (.slice ls p lt) p _ (J y) rfl fq.o rfl (by omega) (by omega) ?_;intro Mz no Mk Ch f9;have g8:=za f9;have wf:=za Ch;clear Ch f9);go_roundg (gk-1);case measure=>omega
         have i0:∀j,(Value.slice ls p lt).ownBlock=some j->B<j:=λj e=>by have:=(fq.o.lt j e).1;omega
         have h8:xB wr (wr.alloc (.cells #[.bool (J y)] 4)):=(Below.refl _ _).alloc (an _) _;have zm:Below (B+1) (wr.alloc (.cells #[.bool (J y)] 4)) Mk:=g8.o.below (by rw[au];omega) (λj e=>by have:=i0 j e;omega);have nx:Below (B+1) wr Mk:=(h8.mono (by omega)).trans zm;refine⟨p+1,some (xD Mz 0),no,by omega,by omega,rfl,by go_num,(b2.o.on h8).row g8.o (λj e=>by have:=i0 j e;omega),?_,(nx.block B (by omega)).trans fv.o,er.o.aH (nx.mono (by omega)),?_⟩
         . exact (dn.o.on h8).fr g8.o (λj e=>by have:=i0 j e;omega)
         unfold aa;rw[w0.o,cZ,List.map_append];exact wf.o
      have zI:p=bs:=(by omega);subst zI;have zr:(e.ah.map J).length=p:=(by rw[List.length_map];exact g9.o);have he:aa (cE wr (B+1) wr.heap.size (.slice ls p lt) p (e.ah.map J)):=(by have:=oU fq.o;rw[de (by omega)] at this;exact this);obtain⟨IN,pe⟩:∃IN,wr.heap.size=IN:=⟨_,rfl⟩;rw[pe] at he;clear fq zJ pe MW;go_upto_block 6 with fail;refine FC m8 zr (by omega) a9 b4 BY pp cn (by omega) b2 dn fv er he _ (λ_ _ xE _ _ h=>by cases xE <;> exact h) ?_;intro sn _ _ _ _ _ _ _ _ _ _ _ _ _ _ _ _ _ _ _ _ _ _ _ _ _ _ _ _ _ _ _ _ _ _ _ _ _ _ _ _ _ _ _ _ _ _ _ _ _ _ _ _ _ _ _ _ _ _ _ _ _ _ _ _ _ _ _ _ _ _ _ _ _ _ _ _ _ _ _ _ _ _ _ _ _ _ _ _ _ _ _ _ _ _ _ _ _ _ _ _ _ _ _ _ _ _ _ _ _ _ _ _ _ _ _ _ _ _ _ _ _ _ _ _ _ _ _ _ _ _ _ _ _ _ _ _ _ _ _ _ _ _ _ _ _ _ _ _ _ _ _ _ _ _ _ _ _ _ _ _ _ _ _ _ _ _ _ _ _ _ _ _ _ _ _ _ v9 bk;clear he er fv b2 dn a2 s1 s2 a3 a4 a5 U h0 h1 h2 h3 Mu Mv h5 fx m8 m7;go_wp2_with fail;go_roundg (ak-1);case measure=>omega
      exact⟨r+1,by omega,by omega,by go_num,by rw[g7.o];exact v9,bk⟩
   have pt:r=A:=(by omega);subst pt;obtain⟨l1,i3⟩:∃l1,((List.range r).flatMap g5).foldl aj lv=l1:=⟨_,rfl⟩;have nb:=za i3;rw[i3] at t;clear i3 zH ps AT AI z9;go_wp2_with fail;obtain⟨Q,EQ⟩:∃Q,d.eqs.length=Q:=⟨_,rfl⟩;have nd:=za EQ;have MG:Q<=100000:=(by obtain⟨_,_,_,h,_⟩:=t.o.nd.qs;omega);have zM:T=Q:=(by obtain⟨_,_,h,_,_⟩:=t.o.nd.qs;injection h with _ h _;omega);subst zM;clear EQ a2 s1 s2 a3 a4 a5 U;obtain⟨Mm,rfl⟩:∃Mm,Mm=wr:=⟨_,rfl⟩;go_loopg [16] (T+1) (λj i wr=>∃bp:Nat,bp+j=T+1/\bp<=T/\i=xI bp/\aa (bq w wr N Z w.heap.size (xS g L g4) x (((d.eqs.take bp).flatMap λq=>dY d.ab q.a (rb q) 0 q.ns).foldl aj l1) (.slice g6 m c4) (.slice g0 r c0) (.slice lb T c2) d)/\aa (cE wr lo c1 (.slice h4 r g1) r (eG J r)));case atStart=>exact⟨0,by omega,aE _,rfl,t,bE⟩
   case round =>
    obtain⟨bp,MV,Kn,rfl,D,m1⟩:=hrel;clear t bE;obtain⟨a2,s1,s2,a3,a4,a5,U⟩:=bz D.o.bx;by_cases MR:bp<T
    . skip;obtain⟨q,i4⟩:∃q,d.eqs[bp]?=some q:=⟨_,av (by have:=nd.o;omega)⟩;have bL:=za (AS.o q (aM i4));obtain⟨Nc,Nf,zL,_,rd⟩:=D.o.nd.qs;injection zL with F H G
      subst F G;clear H;obtain⟨ts,u1,c3,u8,vs,rfl,MM,tm,tn,x0,tr,al,_⟩:=rd bp q i4;obtain⟨t0,ar⟩:∃t0,((d.eqs.take bp).flatMap λq=>dY d.ab q.a (rb q) 0 q.ns).foldl aj l1=t0:=⟨_,rfl⟩;have wp:aa (((d.eqs.take (bp+1)).flatMap λq=>dY d.ab q.a (rb q) 0 q.ns).foldl aj l1=(dY d.ab q.a (rb q) 0 q.ns).foldl aj t0):=(by unfold aa;rw[np i4,bc,ar]);rw[ar] at D;have os:ts<wr.heap.size:=(by have:=D.o.size;omega);obtain⟨M,i5⟩:∃M,q.ns.length=M:=⟨_,rfl⟩;obtain⟨pl,qs⟩:∃pl,q.ps.length=pl:=⟨_,rfl⟩;rw[i5] at tm al;rw[qs] at tn;have P:=za i5;have Ln:M<=100000:=(by obtain⟨_,_,MC,Nu,_⟩:=al;omega);clear rd i4 ar i5 qs;go_wp2_with fail;obtain⟨c5,K⟩:∃c5,wr.alloc (.cells #[.slice u1 M c3,.slice u8 pl vs,xI q.a,xI (q.ex:Nat)] 275)=c5:=⟨_,rfl⟩;have gc:xB wr c5:=K▸(Below.refl _ wr).alloc (an _) _;have b1:=za (D.o.on gc);have Y:=za (m1.o.on gc);have m9:=za (al.aH (gc.mono D.o.size));have hw:aa (xH c5 wr.heap.size #[.slice u1 M c3,.slice u8 pl vs,xI q.a,xI (q.ex:Nat)] 275):=K▸zc wr _;have b4:Z<wr.heap.size:=ze D.o.ak.aC;have cn:w.heap.size<wr.heap.size:=U;rw[K];obtain⟨B,ca⟩:∃B,wr.heap.size=B:=⟨_,rfl⟩;rw[ca] at hw b4 cn ⊢;clear al K gc D m1 a2 s1 s2 a3 a4 a5 U tm tn x0 tr ca os;obtain⟨sh,rfl⟩:∃sh,sh=wr:=⟨_,rfl⟩;obtain⟨ak,rfl⟩:∃ak,ak=gk:=⟨_,rfl⟩;go_loopg [18] (M+1) (λj i wr=>∃E:Nat,E+j=M+1/\E<=M/\i=xI E/\aa (bq w wr N Z w.heap.size (xS g L g4) x ((dY d.ab q.a (rb q) 0 (q.ns.take E)).foldl aj t0) (.slice g6 m c4) (.slice g0 r c0) (xS ts T c2) d)/\aa (cE wr lo c1 (.slice h4 r g1) r (eG J r))/\aa (xH wr B #[.slice u1 M c3,.slice u8 pl vs,xI q.a,xI (q.ex:Nat)] 275)/\aa (kf wr N (.slice u1 M c3) q.ns));case atStart=>exact⟨0,by omega,aE _,rfl,b1,Y,hw,m9⟩
      case round =>
       obtain⟨E,MO,IS,rfl,n,be,b3,hQ⟩:=hrel;clear b1 Y hw m9;obtain⟨a2,s1,s2,a3,a4,a5,U⟩:=bz n.o.bx;obtain⟨h0,h1,h2,h3,h5,fx⟩:=zU b3.o;by_cases MP:E<M
       . obtain⟨s,tx⟩:∃s,q.ns[E]?=some s:=⟨_,av (by have:=P.o;omega)⟩;obtain⟨f,v,ge,hv⟩:=bL.o.nm s (aM tx);have zN:q.ex<r:=(by have:=bL.o.ex;have:=tk.o;omega);obtain⟨_,xs,xC,ip,S⟩:=be.o;injection ip with F H G
         subst F G;clear H;obtain⟨x2,rfl,_,zy,z7⟩:=S q.ex _ (oQ zN);have Gl:x2<wr.heap.size:=(by have:=be.o.1;omega);obtain⟨t1,i6⟩:∃t1,(dY d.ab q.a (rb q) 0 (q.ns.take E)).foldl aj t0=t1:=⟨_,rfl⟩;have fr:aa ((dY d.ab q.a (rb q) 0 (q.ns.take (E+1))).foldl aj t0=(if v.bl=rb q E then [] else [q.a]).foldl aj t1):=(by unfold aa;rw[vY tx,bc,i6,Nat.zero_add,l4 ge hv]);rw[i6] at n;clear S i6;go_upto_if 298 with fail;go_cut [19,20] from 283 to 341 (λb _ sn=>b=.bool (rb q E)/\aa (bq w sn N Z w.heap.size (xS g L g4) x (t1) (.slice g6 m c4) (.slice g0 r c0) (xS ts T c2) d)/\aa (cE sn lo c1 (xS x2 r g1) r (eG J r))/\aa (xH sn B #[.slice u1 M c3,.slice u8 pl vs,xI q.a,xI (q.ex:Nat)] 275)/\aa (kf sn N (.slice u1 M c3) q.ns))
         case first =>
          as_aux_lemma =>
           by_cases MC:1<M
           . obtain⟨x1,h7,c,Mf,op,zu,or⟩:=bL.o.many (by have:=P.o;omega);obtain⟨v',i7,rg⟩:=or E (by have:=P.o;omega);have Mp:=za rg;have eb:=za (λW (ln:xB wr W)=>lX x1.s k (by have:=v5.o;omega) W (n.o.ak.on ln));rw[op] at eb;unfold bC at eb;obtain⟨_,_,i1,_,al⟩:=n.o.ak.ns;obtain⟨g',le,wn,gt,st,ta,sE,sc,un,sg,iR,MJ,M2,M3,M4,M5,M6,ok⟩:=al h7 c zu;injection i1 with F H G
             subst F G;cases iR;have MI:h7<L:=(by have:=(aB.1 zu).1;have:=v5.o;omega);obtain⟨Mq,Mr,Ms,Mt⟩:=zp n.o.ak.aC;have o8:g<wr.heap.size:=(by have:=n.o.size;omega);obtain⟨z4,z5,i9,_,cs⟩:=n.o.nd.xs;injection i9 with F M1 G
             subst F G;obtain⟨lk,zT,rfl,zB,⟨_,_,_,_,Ns,_⟩,_⟩:=cs q.ex x1 Mf;have g3:lk<wr.heap.size:=(by have:=n.o.size;omega);have zi:(1:Int)<(M:Int):=(by omega);clear al zu op H cs M1 Mf or rg;go_upto_region 69 with fail
             go_region_held3 (λa=>a.cell? (xD Z 0)=some (xS g L g4)/\a.cell? (xD w.heap.size 3)=some (xS lk r c0)/\a.cell? (xD B 3)=some (xI (q.ex:Nat))/\a.cell? (xD lk (q.ex*6+4))=some (.string x1.s)/\a.cell? (xD g (h7*5))=some (.string c.nm)/\a.cell? (xD g (h7*5+1))=some (xI c.a)/\a.cell? (xD g (h7*5+2))=some (.slice le wn gt)/\a.cell? (xD g (h7*5+3))=some (.slice st ta sE)/\a.cell? (xD g (h7*5+4))=some (.slice sc un sg))
              (first|(with_reducible (refine⟨?_,?_,?_,?_,?_,?_,?_,?_,?_⟩ <;> repeat (first|assumption|refine zg ?_|refine zj _ ?_|refine zk (by omega) ?_)))|go_keep)
              (first
                | (go_at_call 95;refine (eb.o _ (by first|exact zo (Below.refl _ _)|exact zo ((Below.refl _ _).alloc (an _) _)|exact (zo (Below.refl _ _)).alloc (an _) _)).mono ?_;rintro e' l2 ⟨rfl,rfl⟩))
             all_goals
              rename_i h9
              clear h9;obtain⟨wd,gs⟩:∃wd,(wr.alloc (.cells #[.string c.nm,xI c.a,.slice le wn gt,.slice st ta sE,.slice sc un sg] 103)).drew=wd:=⟨_,rfl⟩;have c9:aa (xB wr wd):=gs▸zo ((Below.refl _ _).alloc (an _) _);have nm:aa (wd.heap[wr.heap.size]?=some (nf c (.slice le wn gt) (.slice st ta sE) (.slice sc un sg))):=gs▸zc wr _;have m2:=za (ok.aH (c9.o.mono n.o.size));have n3:N<=wd.heap.size:=(by have:=c9.o.size;have:=n.o.size;omega);rw[gs];obtain⟨h6,of⟩:∃h6,wr.heap.size=h6:=⟨_,rfl⟩;rw[of] at nm ⊢;clear gs ok M2 M3 M4 M5 M6 Mq Mr Ms Mt a2 s1 s2 a3 a4 a5 U h0 h1 h2 h3 h5 fx eb Ns z7 o8 of;obtain⟨Nx,Ny,Nz,NA,NB,NC,ND⟩:=bz nm.o;have m3:=za (λW (ln:xB wd W)=>vU (xv:=.slice st ta sE) (qv:=.slice sc un sg) c.nm c.a true W (m2.o.vs.aH (ln.mono n3)) (aJ n3 ln.size) ⟨_,_,_,rfl⟩ ⟨_,_,_,rfl⟩);obtain⟨Nq,Nr,zQ,ry,rL⟩:=m2.o.vs;injection zQ with F H G
              subst F G;obtain⟨_,zh,rfl,o7,Np,z3,Mj,_⟩:=rL _ v' i7;have it:=(aB.1 i7).1;rw[<- H] at it ry;obtain⟨C,Ev⟩:∃C,dP true c.ab=C:=⟨_,rfl⟩;rw[Ev] at m3 Mj it;have In:zh<wd.heap.size:=(by omega);have zn:(C:Int)+(E:Int)=((C+E:Nat):Int):=(by omega);clear rL i7 Ev H Np z3;obtain⟨I,io⟩:∃I,C+E=I:=⟨_,rfl⟩;rw[io] at zn it Mj;have Mo:=za io;have MX:IntKind.i64.wrap ((C:Int)+(E:Int))=(I:Int):=(by rw[IntKind.wrap_i64,zn];omega);have MD:(0:Int)<=(I:Int):=(by omega);have ME:(I:Int)<(wn:Int):=(by omega);clear io zn;go_upto_region 70 with fail
              go_region_held3 (λa=>a.cell? (xD h6 0)=some (.string c.nm)/\a.cell? (xD h6 1)=some (xI c.a)/\a.cell? (xD h6 2)=some (xS zh wn gt)/\a.cell? (xD h6 3)=some (.slice st ta sE)/\a.cell? (xD h6 4)=some (.slice sc un sg)/\a.cell? (xD zh (I*10+2))=some (.bool v'.bl))
               (first|(with_reducible (refine⟨?_,?_,?_,?_,?_,?_⟩ <;> repeat (first|assumption|refine zg ?_|refine zj _ ?_|refine zk (by omega) ?_|refine zd l.o ?_ (by first|omega|(rw[au];omega)))))|go_keep)
               (first
                 | (go_at_call 46;refine (m3.o _ (zo (Below.refl _ _))).mono ?_;rintro e' l2 ⟨rfl,R⟩;have l:=za (zw R)))
              have bk:=za (c9.o.trans (l.o.mono c9.o.size));go_wp2_with fail;go_meet;exact⟨by rw[Mp.o],n.o.on bk.o,be.o.on bk.o,(bk.o.block B (ze b3.o)).trans b3.o,hQ.o.aH (bk.o.mono n.o.size)⟩
           have zi:¬((1:Int)<(M:Int)):=(by omega);go_wp2_with fail;go_meet;exact⟨by rw[bL.o.one (by have:=P.o;omega)],n,be,b3,hQ⟩
         case rest =>
          as_aux_lemma =>
           obtain⟨rfl,O,l6,hm,hN⟩:=hcut;clear n be b3 hQ a2 s1 s2 a3 a4 a5 U h0 h1 h2 h3 h5 fx z7 bL;obtain⟨a2,s1,s2,a3,a4,a5,U⟩:=bz O.o.bx;obtain⟨h0,h1,h2,h3,h5,fx⟩:=zU hm.o;obtain⟨Nh,Ni,zO,_,rp⟩:=hN.o;injection zO with F H G
           subst F G;clear H;obtain⟨_,x3,rfl,ML,Mn⟩:=rp E s tx;obtain⟨z0,z2,i8,_,a0⟩:=O.o.nd.vs;injection i8 with F H G
           subst F G;obtain⟨_,fV,rfl,zA,zX,zZ,v2,_⟩:=a0 f v hv;have zx:f<m:=(by have:=(aB.1 hv).1;have:=te.o;omega);have eb:=za (O.o.drew.find s);rw[ge] at eb;unfold bC at eb;have If:x3<wc.heap.size:=(by have:=O.o.size;omega);have g2:fV<wc.heap.size:=(by have:=O.o.size;omega);obtain⟨vz,rx⟩:∃vz,v.bl=vz:=⟨_,rfl⟩;rw[rx] at v2 fr;obtain⟨zV,ro⟩:∃zV,rb q E=zV:=⟨_,rfl⟩;rw[ro] at fr ⊢;clear rp a0 tx ge hv H zX zZ rx ro;go_upto_region 71 with fail
           go_region_held3 (λa=>a.cell? (xD w.heap.size 0)=some (.string d.nm)/\a.cell? (xD w.heap.size 1)=some (xI d.a)/\a.cell? (xD w.heap.size 2)=some (xS fV m c4)/\a.cell? (xD w.heap.size 3)=some (.slice g0 r c0)/\a.cell? (xD w.heap.size 4)=some (xS ts T c2)/\a.cell? (xD B 0)=some (xS x3 M c3)/\a.cell? (xD x3 E)=some (.string s)/\a.cell? (xD fV (f*10+2))=some (.bool vz))
            (first|(with_reducible (refine⟨?_,?_,?_,?_,?_,?_,?_,?_⟩ <;> repeat (first|assumption|refine zg ?_|refine zj _ ?_|refine zk (by omega) ?_|refine zd l.o ?_ (by first|omega|(rw[au];omega)))))|go_keep)
            (first
              | (go_at_call 169;refine eb.o.mono ?_;rintro e l2 ⟨rfl,R⟩;have l:=za (zw R)))
           have b0:=za (O.o.on l.o);have md:=za (l6.o.on l.o);have hu:=za ((l.o.block B fx).trans hm.o);have ne:=za (hN.o.aH (l.o.mono O.o.size));clear a2 s1 s2 a3 a4 a5 U h0 h1 h2 h3 h5 fx Mn v2 eb O l6 hm hN;obtain⟨h0,h1,h2,h3,h5,fx⟩:=zU hu.o;cases vz <;> cases zV
           all_goals
            go_wp2_with (go_at_call 246;refine (du q.a _ b0.o.ak).mono ?_;rintro e NF ⟨rfl,ns,n1⟩;have v3:=za ns;have em:=za n1;clear ns n1);go_roundg (gk-1);(try (case measure=>omega))
            first
             | exact⟨E+1,by omega,by omega,by go_num,by rw[fr.o];exact b0,md,hu,ne⟩
             | exact⟨E+1,by omega,by omega,by go_num,by rw[fr.o];exact b0.o.aX v3.o em.o,md.o.aX a9 em.o,(em.o.block B fx (by omega)).trans hu.o,ne.o.aH (em.o.below b0.o.size (λj e=>by have:=b0.o.ak.lt;omega))⟩
       have zD:E=M:=(by omega);subst zD;rw[de (by have:=P.o;omega)] at n;go_wp2_with fail;go_roundg (ak-1);case measure=>omega
       exact⟨bp+1,by omega,by omega,by go_num,by rw[wp.o];exact n,be⟩
    have pr:bp=T:=(by omega);subst pr;have bl:(nl d g5 rb).foldl aj o=((d.eqs.take bp).flatMap λq=>dY d.ab q.a (rb q) 0 q.ns).foldl aj l1:=(by unfold nl;rw[bc,bc,na.o,tk.o,nb.o,de (by have:=nd.o;omega)]);rw[<- bl] at D;clear bl na nb AS;go_wp2_with fail;go_end0;exact⟨rfl,by rw[v5.o];exact D.o.ak,D.o.fr⟩
end
end Go.Proofs.YtmfkofhgdjechaaGreatDoor
