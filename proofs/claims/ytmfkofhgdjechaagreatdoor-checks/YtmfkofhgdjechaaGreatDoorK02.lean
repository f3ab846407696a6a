/- Part 3 of the proof. -/
import Derived.Deep.LoopGhost
import Derived.Test.YtmfkofhgdjechaaGreatDoorK01
set_option maxRecDepth 100000
set_option maxHeartbeats 8000000
namespace Go.Proofs.YtmfkofhgdjechaaGreatDoor
open Go.Proofs.Tryz
section
open Go.RowKit
variable {a:Rw} {w:Xw}
def jB (d:Nat)(f:FuncId)(n:Nat)(M:Fn):Prop:=∀(c:Nat) (F:Fx) (a:Rw) (b:St) (p:Nat) (w:Xw),Inv p b->18<=b.op+d->zs w c F a b->aV w (c+1) a b.L ->
 xK f #[xP c,xI n] w (dV c F a w (M b).1 (M b).2)
theorem aV.below {c:Xw}{b:Nat}{L:List Ex}(h:aV w b a L)(d:xB w c):aV c b a L:=h.kept (λk _ e=>d.block k e)
theorem Ev.below {d:Nat}{b:Rw}{c e:Xw}(h:Ev d a b w c)(f:xB c e):Ev d a b w e:=h.fr ((Fr.refl _ c).gA f)
theorem oG {d:Nat}{part:Fn}(g:Nat)(b0:jB d 302 g part)(bx:zv d part):jB d 297 g (eo g part):=by
 intro s F a J p w bE bl hR b1;have Z:=bx J p bE bl;have cv:=za (b0 s F a J p w bE bl hR b1);have bL:eo g part J=dx g part 1300 (part J):=rfl;rw[bL];have cs:=za Z.af;have N1:=za Z.num;have O1:aa (18<=(part J).1.op+d):=by unfold aa;rw[Z.op];exact bl
 clear hR b1 bL Z;generalize part J=x0 at *;obtain⟨R,o⟩:∃R,dx g part 1300 x0=R:=⟨_,rfl⟩;rw[o];have L:=za o;clear o;go_enter func297,ntmps297;go_wp2_with fail;refine cv.o.mono ?_;rintro e hg ⟨bs,rfl,P,U,T⟩;have al:=za P;have a5:=za U;have a3:=za T;clear P U T;go_wp2_with fail;go_loopg [5] 1300 (λk l wr=>∃(x:St×Nat) (G:Rw),l=xI x.2/\aa (dx g part k x=R)/\rem x.1<k/\aa (Inv p x.1)/\aa (18<=x.1.op+d)/\aa (x.1.er=0->x.2<x.1.L.length)/\aa (zs wr s F G x.1)/\aa (aV wr (s+1) G x.1.L)/\aa (Ev s a G w wr));case atStart => refine⟨x0,bs,rfl,L.o,?_,cs.o,O1.o,N1.o,al.o,a5.o,a3.o⟩;unfold rem;split <;> omega
 case round =>
  obtain⟨x,q,rfl,H,b3,j,t,c0,m,z,u⟩:=hrel;obtain⟨fr,fv,fx,fV,gc,ge,gl,go,gs,gt,c5,c9,dn,ds,eb⟩:=m.o.cells;have b2:=m.o.lt;obtain⟨f,rfl⟩:∃f,gk=f+1:=⟨gk-1,by omega⟩;by_cases r:x.1.er=0
  . have bk:((x.1.er:Int)==0)=true:=beq_iff_eq.2 (by omega);have fq:=za r;cases c:et x.1.t g with
    | true =>
      have a2:=za c;have be:=ai.gj j.o r (nS c);have I:=bx x.1.ad (p+1) be.af (by rw[St.bQ];exact t.o);have i:aa (dx g part f ((part x.1.ad).1.put ⟨x.1.t.s,x.1.t.a,0,[x.2,(part x.1.ad).2],sE,0⟩)=R):=by
       have h:=H.o;unfold aa;rw[<- h]
       show _=(if x.1.er=0/\et x.1.t g=true then _ else x);rw[ag ⟨r,c⟩]
      have D:(part x.1.ad).1.L.length<=100000:=I.af.len;have X:aa (Inv p ((part x.1.ad).1.put ⟨x.1.t.s,x.1.t.a,0,[x.2,(part x.1.ad).2],sE,0⟩).1):=(ai.put I.af _).af;have bp:aa (18<=((part x.1.ad).1.put ⟨x.1.t.s,x.1.t.a,0,[x.2,(part x.1.ad).2],sE,0⟩).1.op+d):=(by unfold aa;show 18<=(part x.1.ad).1.op+d;rw[I.op,St.bQ];exact t.o);have E:aa (rem ((part x.1.ad).1.put ⟨x.1.t.s,x.1.t.a,0,[x.2,(part x.1.ad).2],sE,0⟩).1<f):=by
       unfold aa rem
       show (if (part x.1.ad).1.er=0 then 1201-(part x.1.ad).1.t.a else 0)<f;have h1:rem x.1=1201-x.1.t.a:=(by unfold rem;rw[ag r]);have h2:=I.ta;have h3:x.1.t.a+1<=x.1.ad.t.a:=(by have:=j.o.tok (nS c);rw[St.dZ r];have he:=zV x.1.src x.1.t.t j.o.ok.tt;simp only;omega);have h4:=I.af.ok.bR;have h5:=j.o.ok.bR;split <;> omega
      have cn:=za be;clear r c be I H;generalize b4:part x.1.ad=y at *;have c1:=za b4;clear b4;go_wp2_with fail;refine (ul x.1.t g _).mono ?_;rintro e Y ⟨rfl,b⟩;have n:=za (m.o.below b);have A:=za (z.o.below b);have v:=za (u.o.below b);obtain⟨g0,g1,g2,g3,g4,g5,g6,g7,g8,g9,em,eq,er,es,ev⟩:=n.o.cells;have n3:¬Y.heap.size=s:=(by have:=n.o.lt;omega);have c:=a2.o;clear b;go_wp2_with fail;refine (dH s F q x.1 (Y.alloc (z8 x.1.t)) j.o.ok (n.o.alloc _)).mono ?_;rintro e ex ⟨rfl,Q,B⟩;have N:=(B.block Y.heap.size (by simp) n3).trans (zc Y (z8 x.1.t));have ak:=za N;clear N;have ar:=za Q;have K:=za B;clear Q B;go_wp2_with fail;have V:aV ex (s+1) q x.1.ad.L:=(by rw[St.bu];exact (A.o.alloc _).fr K.o);have M:=za V;clear V;refine (b0 s F q x.1.ad (p+1) _ cn.o.af (by rw[St.bQ];exact t.o) ar.o M.o).mono ?_;rw[c1.o];rintro e hm ⟨fd,rfl,S,W,C⟩;have O:=C.box ak.o n3 M.o;obtain⟨t0,t1,t2,t3,t4⟩:=eY O;clear O;have a0:=za S;have a9:=za W;have a4:=za C;clear S W C;go_wp2_with fail;refine (qq ⟨x.1.t.s,x.1.t.a,0,[x.2,y.2],sE,0⟩ _ _ rfl rfl (by simp) _ _ _ _ _ rfl rfl rfl rfl rfl D a0.o a9.o ((v.o.trans ((Ev.bA K.o).alloc _)).trans a4.o)).mono ?_;rintro e hu ⟨bt,rfl,ca,ck,cm⟩;have c2:=za ca;have c3:=za ck;have c4:=za cm;clear ca ck cm;go_wp2_with fail;go_roundg f;case measure=>omega
      case rel=>exact⟨_,bt,rfl,i.o,E.out,X,bp,za (λ_=>lw _ _),c2,c3,c4⟩
    | false =>
      have i:aa (R=x):=by
       have h:=H.o;unfold aa;rw[<- h]
       show (if x.1.er=0/\et x.1.t g=true then _ else x)=x;rw[ae (by rw[c];simp)]
      clear r H;go_wp2_with fail;refine (ul x.1.t g _).mono ?_;rintro e Y ⟨rfl,b⟩;have n:=za (m.o.below b);have A:=za (z.o.below b);have v:=za (u.o.below b);clear b;go_wp2_with fail;go_ret;rw[i.o];exact⟨q,rfl,n.o,A.o,v.o⟩
  have bk:((x.1.er:Int)==0)=false:=bf.2 (by omega);have i:aa (R=x):=by
   have h:=H.o;unfold aa;rw[<- h]
   show (if x.1.er=0/\et x.1.t g=true then _ else x)=x;rw[ae (by simp[r])]
  clear r H;go_wp2_with fail;go_ret;rw[i.o];exact⟨q,rfl,m.o,z.o,u.o⟩
end
section
open Go.RowKit
variable {M:Fn} {d:Nat}
theorem vn {i:Nat}{F:Fx}{j p:Rw}{s:St}{q w:Xw}(b:Nat)(B:b=w.heap.size)(e:Ex)(a:Xa)(n:Nat)(g:a=(bK e.ah).toArray)(C:n=e.ah.length)(k:n<=100000)(f:Xb)(l c:Int)(o:Xb)(m:Int)
 (r:f=e.op) (t:l=e.a) (u:c=e.nm) (v:o=e.s) (x:m=e.n) (h:s.L.length<=100000)
 (z:zs w i F p s) (A:aV w (i+1) p s.L) (y:Ev i j p q w) :
 xK 283 #[xP i,.agg #[.string f,xI l,xI c,xS b n n,.string o,xI m]] (w.alloc (.cells a 3)) (dV i F j q (s.put e).1 (s.put e).2):=by
 subst B;exact qq e a n g C k f l c o m r t u v x h z A y
theorem Cv (h:jB d 297 0 M):bY d 284 M:=by intro m F o n p w b i c f;have g:=za (h m F o n p w b i c f);clear c f b h;go_enter func284,ntmps284;go_wp2_with fail;refine g.o.mono ?_;rintro e q ⟨a,rfl,j,k,l⟩;go_wp2_with fail;go_ret;exact⟨a,rfl,j,k,l⟩
theorem C5 (h:jB d 297 1 M):jB d 302 0 M:=by intro m F o n p w b i c f;have g:=za (h m F o n p w b i c f);clear c f b h;go_enter func302,ntmps302;go_wp2_with fail;refine g.o.mono ?_;rintro e q ⟨a,rfl,j,k,l⟩;go_wp2_with fail;go_ret;exact⟨a,rfl,j,k,l⟩
theorem CS (h:bY d 306 M):jB d 302 1 M:=by intro m F o n p w b i c f;have g:=za (h m F o n p w b i c f);clear c f b h;go_enter func302,ntmps302;go_wp2_with fail;refine g.o.mono ?_;rintro e q ⟨a,rfl,j,k,l⟩;go_wp2_with fail;go_ret;exact⟨a,rfl,j,k,l⟩
theorem Cy (h:jB d 297 3 M):jB d 302 2 M:=by intro m F o n p w b i c f;have g:=za (h m F o n p w b i c f);clear c f b h;go_enter func302,ntmps302;go_wp2_with fail;refine g.o.mono ?_;rintro e q ⟨a,rfl,j,k,l⟩;go_wp2_with fail;go_ret;exact⟨a,rfl,j,k,l⟩
theorem CD (h:bY d 307 M):jB d 302 3 M:=by intro m F o n p w b i c f;have g:=za (h m F o n p w b i c f);clear c f b h;go_enter func302,ntmps302;go_wp2_with fail;refine g.o.mono ?_;rintro e q ⟨a,rfl,j,k,l⟩;go_wp2_with fail;go_ret;exact⟨a,rfl,j,k,l⟩
theorem B9 {t:Fn}(bt:bY d 312 t)(bs:zv d t):bY d 309 (gR t):=by
 intro j F xs st p w bx b1 hR bL;have g1:=bs st p bx b1;have b4:=za (bt j F xs st p w bx b1 hR bL);have bE:gR t st=dk 1300 (t st):=rfl;rw[bE];have b3:=za g1.af;have N1:=za g1.num;clear hR bL bE g1 bs bt;generalize t st=x0 at *;obtain⟨R,D⟩:∃R,dk 1300 x0=R:=⟨_,rfl⟩;rw[D];have V:=za D;clear D;go_enter func309,ntmps309;go_wp2_with fail;refine b4.o.mono ?_;rintro e es ⟨bp,rfl,W,Y,X⟩;have a3:=za W;have a5:=za Y;have a4:=za X;clear W Y X;go_wp2_with fail;go_loopg [3] 1300 (λk l wr=>∃(x:St×Nat) (T:Rw),l=xI x.2/\aa (dk k x=R)/\rem x.1<k/\aa (Inv p x.1)/\aa (x.1.er=0->x.2<x.1.L.length)/\aa (zs wr j F T x.1)/\aa (aV wr (j+1) T x.1.L)/\aa (Ev j xs T w wr));case atStart => refine⟨x0,bp,rfl,V.o,?_,b3.o,N1.o,a3.o,a5.o,a4.o⟩;unfold rem;split <;> omega
 case round =>
  obtain⟨x,a,rfl,J,b2,c,ca,b,I,H⟩:=hrel;obtain⟨c3,c4,c5,c9,dn,ds,eb,em,eq,er,ck,cm,cn,cs,cv⟩:=b.o.cells;have b0:=b.o.lt;have n2:¬wr.heap.size=j:=by omega
  obtain⟨f,rfl⟩:∃f,gk=f+1:=⟨gk-1,by omega⟩;by_cases u:x.1.er=0
  . have bl:((x.1.er:Int)==0)=true:=beq_iff_eq.2 (by omega);cases P:x.1.is 5 [119,104,101,110] with
    | true =>
      have i:eu x.1=true:=(by unfold eu;rw[P];rfl);have O:=ai.gj c.o u (n5 i);have y:=ai.name O.af;have m:aa (dk f (x.1.ad.name.put ⟨x.1.t.s,x.1.t.a,x.1.ad.t.a,[x.2],x.1.ad.t.s,0⟩)=R):=by
       have h:=J.o;unfold aa;rw[<- h]
       show _=(if x.1.er=0/\eu x.1=true then _ else x);rw[ag ⟨u,i⟩]
      have q:x.1.ad.name.L.length<=100000:=y.af.len;have G:aa (Inv p (x.1.ad.name.put ⟨x.1.t.s,x.1.t.a,x.1.ad.t.a,[x.2],x.1.ad.t.s,0⟩).1):=(ai.put y.af _).af;have r:aa (rem (x.1.ad.name.put ⟨x.1.t.s,x.1.t.a,x.1.ad.t.a,[x.2],x.1.ad.t.s,0⟩).1<f):=by
       unfold aa rem
       show (if x.1.ad.name.er=0 then 1201-x.1.ad.name.t.a else 0)<f;have h1:rem x.1=1201-x.1.t.a:=(by unfold rem;rw[ag u]);have h2:=y.ta;have h3:x.1.t.a+1<=x.1.ad.t.a:=(by have:=c.o.tok (n5 i);rw[St.dZ u];have c0:=zV x.1.src x.1.t.t c.o.ok.tt;simp only;omega);have h4:=y.af.ok.bR;have h5:=c.o.ok.bR;split <;> omega
      have a2:=za O.af;clear u i O y J;go_wp2_with fail;refine (cb j F a x.1 5 5 rfl ⟨#[119,104,101,110]⟩ [119,104,101,110] (by decide +kernel) _ b.o).mono ?_;rintro e w' ⟨rfl,rfl⟩;go_wp2_with fail;refine (dH j F a x.1 (wr.alloc (z8 x.1.t)) c.o.ok (b.o.alloc _)).mono ?_;rintro e c1 ⟨rfl,B,o⟩;have z:=(o.block wr.heap.size (by simp) n2).trans (zc wr (z8 x.1.t));have K:=za z;clear z;have L:=za B;have n:=za o;clear B o;go_wp2_with fail;refine (e0 j F a x.1.ad _ a2.o.ok L.o).mono ?_;rintro e S ⟨rfl,C,g⟩;have s:=n.o.size;have Q:=g.size;have A:=(g.block wr.heap.size (by simp at s;omega) n2).trans K.o;obtain⟨t0,t1,t2,t3,t4⟩:=eY A;have ak:wr.heap.size<S.heap.size:=(by simp at s;omega);clear A s Q;have N:=za C;have v:=za g;clear C g;go_wp2_with fail;have E:aV S (j+1) a x.1.ad.name.L:=(by rw[St.c8,St.bu];exact ((I.o.alloc _).fr n.o).fr v.o);refine (vn (S.heap.size+1) (by simp) ⟨x.1.t.s,x.1.t.a,x.1.ad.t.a,[x.2],x.1.ad.t.s,0⟩ _ _ rfl rfl (by simp) _ _ _ _ _ rfl rfl rfl rfl rfl q (N.o.alloc _) (E.alloc _) (((H.o.trans ((Ev.bA n.o).alloc _)).fr v.o).jE _)).mono ?_;rintro e c2 ⟨U,rfl,al,ar,a0⟩;have a9:=za al;have be:=za ar;have bk:=za a0;clear al ar a0 E;go_wp2_with fail;go_roundg f;case measure=>omega
      case rel=>exact⟨_,U,rfl,m.o,r.out,G,za (λ_=>lw _ _),a9,be,bk⟩
    | false =>
      cases Z:x.1.is 5 [119,104,101,110,111,116] with
      | true =>
        have i:eu x.1=true:=(by unfold eu;rw[P,Z];rfl);have O:=ai.gj c.o u (n5 i);have y:=ai.name O.af;have m:aa (dk f (x.1.ad.name.put ⟨x.1.t.s,x.1.t.a,x.1.ad.t.a,[x.2],x.1.ad.t.s,0⟩)=R):=by
         have h:=J.o;unfold aa;rw[<- h]
         show _=(if x.1.er=0/\eu x.1=true then _ else x);rw[ag ⟨u,i⟩]
        have q:x.1.ad.name.L.length<=100000:=y.af.len;have G:aa (Inv p (x.1.ad.name.put ⟨x.1.t.s,x.1.t.a,x.1.ad.t.a,[x.2],x.1.ad.t.s,0⟩).1):=(ai.put y.af _).af;have r:aa (rem (x.1.ad.name.put ⟨x.1.t.s,x.1.t.a,x.1.ad.t.a,[x.2],x.1.ad.t.s,0⟩).1<f):=by
         unfold aa rem
         show (if x.1.ad.name.er=0 then 1201-x.1.ad.name.t.a else 0)<f;have h1:rem x.1=1201-x.1.t.a:=(by unfold rem;rw[ag u]);have h2:=y.ta;have h3:x.1.t.a+1<=x.1.ad.t.a:=(by have:=c.o.tok (n5 i);rw[St.dZ u];have c0:=zV x.1.src x.1.t.t c.o.ok.tt;simp only;omega);have h4:=y.af.ok.bR;have h5:=c.o.ok.bR;split <;> omega
        have a2:=za O.af;clear u i O y J;go_wp2_with fail;refine (cb j F a x.1 5 5 rfl ⟨#[119,104,101,110]⟩ [119,104,101,110] (by decide +kernel) _ b.o).mono ?_;rintro e w' ⟨rfl,rfl⟩;go_wp2_with fail;refine (cb j F a x.1 5 5 rfl ⟨#[119,104,101,110,111,116]⟩ [119,104,101,110,111,116] (by decide +kernel) _ b.o).mono ?_;rintro e w' ⟨rfl,rfl⟩;go_wp2_with fail;refine (dH j F a x.1 (wr.alloc (z8 x.1.t)) c.o.ok (b.o.alloc _)).mono ?_;rintro e c1 ⟨rfl,B,o⟩;have z:=(o.block wr.heap.size (by simp) n2).trans (zc wr (z8 x.1.t));have K:=za z;clear z;have L:=za B;have n:=za o;clear B o;go_wp2_with fail;refine (e0 j F a x.1.ad _ a2.o.ok L.o).mono ?_;rintro e S ⟨rfl,C,g⟩;have s:=n.o.size;have Q:=g.size;have A:=(g.block wr.heap.size (by simp at s;omega) n2).trans K.o;obtain⟨t0,t1,t2,t3,t4⟩:=eY A;have ak:wr.heap.size<S.heap.size:=(by simp at s;omega);clear A s Q;have N:=za C;have v:=za g;clear C g;go_wp2_with fail;have E:aV S (j+1) a x.1.ad.name.L:=(by rw[St.c8,St.bu];exact ((I.o.alloc _).fr n.o).fr v.o);refine (vn (S.heap.size+1) (by simp) ⟨x.1.t.s,x.1.t.a,x.1.ad.t.a,[x.2],x.1.ad.t.s,0⟩ _ _ rfl rfl (by simp) _ _ _ _ _ rfl rfl rfl rfl rfl q (N.o.alloc _) (E.alloc _) (((H.o.trans ((Ev.bA n.o).alloc _)).fr v.o).jE _)).mono ?_;rintro e c2 ⟨U,rfl,al,ar,a0⟩;have a9:=za al;have be:=za ar;have bk:=za a0;clear al ar a0 E;go_wp2_with fail;go_roundg f;case measure=>omega
        case rel=>exact⟨_,U,rfl,m.o,r.out,G,za (λ_=>lw _ _),a9,be,bk⟩
      | false =>
        have m:aa (R=x):=by
         have h:=J.o;unfold aa;rw[<- h]
         show (if x.1.er=0/\eu x.1=true then _ else x)=x;rw[ae (by unfold eu;rw[P,Z];simp)]
        clear u J;go_wp2_with fail;refine (cb j F a x.1 5 5 rfl ⟨#[119,104,101,110]⟩ [119,104,101,110] (by decide +kernel) _ b.o).mono ?_;rintro e w' ⟨rfl,rfl⟩;go_wp2_with fail;refine (cb j F a x.1 5 5 rfl ⟨#[119,104,101,110,111,116]⟩ [119,104,101,110,111,116] (by decide +kernel) _ b.o).mono ?_;rintro e w' ⟨rfl,rfl⟩;go_wp2_with fail;go_ret;rw[m.o];exact⟨a,rfl,b.o,I.o,H.o⟩
  have bl:((x.1.er:Int)==0)=false:=bf.2 (by omega);have m:aa (R=x):=by
   have h:=J.o;unfold aa;rw[<- h]
   show (if x.1.er=0/\eu x.1=true then _ else x)=x;rw[ae (by simp[u])]
  clear u J;go_wp2_with fail;go_ret;rw[m.o];exact⟨a,rfl,b.o,I.o,H.o⟩
end
section
open Go.RowKit
variable {t:Tk}
theorem CG (h:eh t=true):t.k=4/\(t.s.toList=[61]∨t.s.toList=[60,62]∨t.s.toList=[60]∨t.s.toList=[60,61]):=by simp[eh] at h;refine⟨h.1,?_⟩;rcases h.2 with ((h|h)|h)|h <;> simp[h]
theorem Cl (h:eh t=false):t.k≠4∨(t.k=4/\(t.s.toList != [61])=true/\(t.s.toList != [60,62])=true/\(t.s.toList != [60])=true/\(t.s.toList != [60,61])=true):=by
 by_cases a:t.k=4
 . right;simp[eh,a] at h;simp[a,h]
 left;exact a
theorem CM {d:Nat}{sum:Fn}(al:jB d 297 2 sum)(ak:zv d sum):bY d 306 (ei sum):=by
 intro Q F xs b p w bx S hR ar;have r:=ak b p bx S;have T:=za (al Q F xs b p w bx S hR ar);by_cases R:(sum b).1.er=0/\eh (sum b).1.t=true
 . obtain⟨O,s⟩:=R;have Z:=ai.gj r.af O (yD s);have g3:=ak (sum b).1.ad (p+1) Z.af (by rw[St.bQ,r.op];exact S);have K:ei sum b=(sum (sum b).1.ad).1.put ⟨(sum b).1.t.s,(sum b).1.t.a,0,[(sum b).2,(sum (sum b).1.ad).2],sE,0⟩:=by unfold ei;simp only;rw[ag ⟨O,s⟩]
   rw[K];have q:(sum (sum b).1.ad).1.L.length<=100000:=g3.af.len;have O2:aa (18<=(sum b).1.ad.op+d):=(by unfold aa;rw[St.bQ,r.op];exact S);have o:(((sum b).1.er:Int) != 0)=false:=(by simp;omega);obtain⟨cm,a0⟩:=CG s;have P:(((sum b).1.t.k:Int) != 4)=false:=(by simp;omega);have b4:=za r.af;have b3:=za Z.af;clear hR ar K r Z g3 O s cm;generalize sum b=x at *;generalize bE:sum x.1.ad=y at *;have ca:=za bE;clear bE;rcases a0 with hx|hx|hx|hx
   all_goals
    go_enter func306,ntmps306;go_wp2_with fail;refine T.o.mono ?_;rintro e u ⟨g,rfl,a,f,c⟩;obtain⟨a3,a4,a5,a9,be,bk,bl,bp,bs,bt,A,B,C,D,E⟩:=a.cells;have l:=a.lt;have n1:¬u.heap.size=Q:=(by omega);have i:=za a;have k:=za f;have j:=za c;clear a f c;go_wp2_with fail;refine (dH Q F g x.1 (u.alloc (z8 x.1.t)) b4.o.ok (i.o.alloc _)).mono ?_;rintro e c0 ⟨rfl,I,m⟩;have G:=(m.block u.heap.size (by simp) n1).trans (zc u (z8 x.1.t));have U:=za G;clear G;have V:=za I;have v:=za m;clear I m;go_wp2_with fail;have L:aV c0 (Q+1) g x.1.ad.L:=(by rw[St.bu];exact (k.o.alloc _).fr v.o);have z:=za L;clear L;refine (al Q F g x.1.ad (p+1) _ b3.o O2.o V.o z.o).mono ?_;rw[ca.o];rintro e c2 ⟨c1,rfl,J,M,n⟩;have H:=n.box U.o n1 z.o;obtain⟨t0,t1,t2,t3,t4⟩:=eY H;clear H;have W:=za J;have Y:=za M;have X:=za n;clear J M n;go_wp2_with fail;refine (qq ⟨x.1.t.s,x.1.t.a,0,[x.2,y.2],sE,0⟩ _ _ rfl rfl (by simp) _ _ _ _ _ rfl rfl rfl rfl rfl q W.o Y.o ((j.o.trans ((Ev.bA v.o).alloc _)).trans X.o)).mono ?_;rintro e c3 ⟨a2,rfl,cn,cs,cv⟩;go_wp2_with fail;go_ret;exact⟨a2,rfl,cn,cs,cv⟩
 have K:ei sum b=sum b:=by unfold ei;simp only;rw[ae R]
 rw[K];have N:(((sum b).1.er:Int) != 0)=true∨((((sum b).1.er:Int) != 0)=false/\eh (sum b).1.t=false):=by
  by_cases O:(sum b).1.er=0
  . right;refine⟨by simp;omega,?_⟩;cases s:eh (sum b).1.t with
    | false=>rfl
    | true=>exact absurd ⟨O,s⟩ R
  left;simp;omega
 clear hR ar K R r ak al;generalize sum b=x at *;have ck:(((x.1.er:Int) != 0)=true)∨(((x.1.er:Int) != 0)=false/\((x.1.t.k:Int) != 4)=true)∨(((x.1.er:Int) != 0)=false/\((x.1.t.k:Int) != 4)=false/\(x.1.t.s.toList != [61])=true/\(x.1.t.s.toList != [60,62])=true/\(x.1.t.s.toList != [60])=true/\(x.1.t.s.toList != [60,61])=true):=by
  rcases N with h|⟨h,h2⟩
  . exact ao h
  right;rcases Cl h2 with h3|⟨h3,h4⟩
  . left;exact⟨h,by simp;omega⟩
  right;exact⟨h,by simp;omega,h4⟩
 clear N;rcases ck with o|⟨o,P⟩|⟨o,P,bL,b0,b1,b2⟩;case inr.inr =>
  have c4:(x.1.t.s.toList==[61])=false:=by simpa using bL
  have z2:(x.1.t.s.toList==[60,62])=false:=by simpa using b0
  have z3:(x.1.t.s.toList==[60])=false:=by simpa using b1
  have z4:(x.1.t.s.toList==[60,61])=false:=by simpa using b2
  clear bL b0 b1 b2;go_enter func306,ntmps306;go_wp2_with fail;refine T.o.mono ?_;rintro e u ⟨g,rfl,a,f,c⟩;obtain⟨a3,a4,a5,a9,be,bk,bl,bp,bs,bt,A,B,C,D,E⟩:=a.cells;have l:=a.lt;have i:=za a;have k:=za f;have j:=za c;clear a f c;go_wp2_with fail;go_ret;exact⟨g,rfl,i.o.alloc _,k.o.alloc _,j.o.jE _⟩
 all_goals
  go_enter func306,ntmps306;go_wp2_with fail;refine T.o.mono ?_;rintro e u ⟨g,rfl,a,f,c⟩;obtain⟨a3,a4,a5,a9,be,bk,bl,bp,bs,bt,A,B,C,D,E⟩:=a.cells;have l:=a.lt;have i:=za a;have k:=za f;have j:=za c;clear a f c;go_wp2_with fail;go_ret;exact⟨g,rfl,i.o.alloc _,k.o.alloc _,j.o.jE _⟩
end
section
open Go.RowKit
variable {A:Fn} {F:Fx} {l:Xn} {b G e n q D y:Nat} {o:Obj} {r B:Rw} {x I:St} {t:Tk} {v:Xv} {w H C wr:Xw}
theorem jy {P:Program}(w:Xw){L:Array Oper}{g:List Oper}{o:Oper}{a:Act}{Q:Exit->Act->World->Prop}(T:o.guard=none)(s x:Operand)(t:Xy)
 (a0:o.op=.call { callee:=.builtin .append,args:=#[s,x],argTypes:=#[t,t] })
 (G:Nat) (e:Xy) (i:TypeInfo) (z:Xv) (D bytes:Nat) (a3:P.underlying t=some (.slice e)) (al:P.info? e=some i) (a5:i.zero=some z)
 (J:i.size=D) (S:i.bytes=bytes) (V:z.cells.size=D) (U:0<D)
 (v:Xv) (n:Nat) (r:Xm) (a2:a.eval s=v) (K:w.ownsRow G e D v n r)
 (O:Addr) (m c:Nat) (d:Xm) (a4:a.eval x=.slice (some O) m c) (ar:d.length=m*D) (E:∀j u,d[j]?=some u->w.cell? (O.add j)=some u) (W:∀u∈d,u.oneCell'=true)
 (R:n+m<=maxLen) (f:(n+m)*bytes<=140737488355328) (p:G<=w.heap.size)
 (h:∀M N,N.ownsRow G e D M (n+m) (r++d)->w.grownBy N v.ownBlock->(∀k,M.ownBlock=some k->v.ownBlock=some k∨w.heap.size<=k)->wpList P L Q g (a.put o.dst M) N):wpList P L Q (o::g) a w :=
 wpList_plain T λ_ ak=>rA w s x t a0 G e i z D bytes a3 al a5 J S V U v n r a2 K O m c d a4 ar E W R f p λM N X Y Z=>ak _ _ (h M N X Y Z)
def kg (t:Tk)(v:Xv):Obj:=.cells #[.string ⟨#[99,97,108,108]⟩,xI t.a,xI t.a,v,.string t.s,xI 0] 190 (0,0)
theorem mJ (h:w.heap[b]?=some (kg t v)):w.cell? (xD b 0)=some (.string ⟨#[99,97,108,108]⟩)/\w.cell? (xD b 1)=some (xI t.a)/\w.cell? (xD b 2)=some (xI t.a)/\w.cell? (xD b 3)=some v/\w.cell? (xD b 4)=some (.string t.s)/\w.cell? (xD b 5)=some (xI 0):=by simp[World.cell?,h,kg]
theorem uj (h:w.heap[b]?=some (kg t v))(i:Nat):w.frozen? (xD b i)=false:=by simp[World.frozen?,h,kg]
theorem zA (h:w.heap[b]?=some o):b<w.heap.size:=by
 rcases Nat.lt_or_ge b w.heap.size with h1|h1
 . exact h1
 rw[Array.getElem?_eq_none h1] at h;cases h
theorem hy {r:Xm}(h:w.ownsRow G e D v n r){c:Xa}{i:Xy}{f:Nat×Nat}(z:w.heap[b]?=some (.cells c i f))(E:e≠i):v.ownBlock≠some b:=by
 intro a;rcases h.2 with ⟨d,_⟩|⟨g,k,m,d,_,j,_⟩
 . rw[d] at a;cases a
 rw[d] at a;have p:g=b:=by simpa [Value.ownBlock] using a
 rw[p,z] at j;injection j with s
 injection s with _ u
 exact E u.symm
theorem aV.AN {L:List Ex}(h:aV w G r L){u:Xv}(f:u∈r.ah):∃l:Xn,w.ownsRow G 3 1 u l.length (bK l):=by
 obtain⟨i,a⟩:=List.getElem?_of_mem f;have c:=(aB.1 a).1;have d:i<L.length:=by rw[h.1];exact c
 exact⟨_,h.2.2 i L[i] u (av d) a⟩
structure hz (q:Nat) (F:Fx) (r:Rw) (w:Xw) (t:Tk) (wr:Xw) (x:St) (B:Rw) (v:Xv) (l:Xn):Prop where
 aL:zs wr q F B x
 aj:aV wr (q+1) B x.L
 ev:Ev q r B w wr
 box:wr.heap[w.heap.size+1]?=some (kg t v)
 own:wr.ownsRow w.heap.size 3 1 v l.length (bK l)
 qa:∀u,u∈B.ah->∀k,u.ownBlock=some k->v.ownBlock≠some k
 nb:B.v.ownBlock≠some (w.heap.size+1)
 lt:q<w.heap.size
theorem hz.sub {a:Rw}(h:hz q F r w t wr x B v l)(c:Ev q B a wr C)(s:zs C q F a I)(z:aV C (q+1) a I.L):hz q F r w t C I a v l:=by
 have J:=zA h.box;have f:=h.lt;refine⟨s,z,h.ev.trans c,?_,?_,?_,?_,f⟩
 . rw[c.cell J (by omega) h.nb,h.box]
 . refine zi h.own (λk h1 g p=>c.cell g (by omega) ?_);exact kT h.own h.aj.2.1 (by decide) p
 . obtain⟨_,E,j,m⟩:=c;intro u hu k d i;rw[j] at hu;rcases bj.1 hu with hu|hu
   . exact h.qa u hu k d i
   have h1:=m u hu k d;have g:=(h.own.lt k i).2;omega
 intro d;rcases c.1.2 _ d with h1|h1
 . exact h.nb h1
 omega
theorem hz.fr (h:hz q F r w t wr x B v l)(hF:Fr (·=q) wr C)(a:zs C q F B I)(c:I.L=x.L):hz q F r w t C I B v l :=
 h.sub (Ev.bA hF) a (by rw[c];exact h.aj.fr hF)
theorem hz.qb (h:hz q F r w t wr x B v l)(c:(wr.alloc o).ownsRow w.heap.size 3 1 v l.length (bK l))(f:(wr.alloc o).grownBy H v.ownBlock):H.heap[w.heap.size+1]?=some (kg t v):=by have d:=zA h.box;have a:(wr.alloc o).heap[w.heap.size+1]?=some (kg t v):=(Below.heap_alloc wr o _ d).trans h.box;rw[f.block _ (zA a) (λe=>hy c a (by decide) e.symm),a]
theorem hz.append {m:Xv}(h:hz q F r w t wr x B v l)
 (f:H.ownsRow w.heap.size 3 1 m (l.length+1) (bK l++[xI y])) (c:(wr.alloc o).grownBy H v.ownBlock) (S:∀k,m.ownBlock=some k->v.ownBlock=some k∨(wr.alloc o).heap.size<=k) :
 hz q F r w t (H.setCell (xD (w.heap.size+1) 3) m) x B m (l++[y]):=by
 have L:=h.lt;have V:=h.ev.1.1.size;have j:=h.qb (zD h.own o) c;have g:∀k,v.ownBlock=some k->w.heap.size<=k:=λk a=>(h.own.lt k a).1;have K:Ev q r B w H:=by obtain⟨⟨d,E⟩,J⟩:=h.ev.jE o;refine⟨⟨⟨c.os.trans d.os,c.tape.trans d.tape,c.output.trans d.output,aJ d.size c.size,?_⟩,E⟩,J⟩;intro k a T;rw[c.block k (dD a d.size) (λe=>by have:=g k e.symm;omega)];exact d.block k a T
 have M:m.ownBlock≠some (w.heap.size+1):=hy f j (by decide);refine⟨?_,⟨h.aj.1,?_,?_⟩,?_,?_,?_,?_,h.nb,L⟩
 . exact ((h.aL.alloc o).grown c (λe=>by have:=g q e;omega)).aU (by omega) _ _
 . refine zi (w:=H) (mF (zD h.aj.2.1 o) c (λk a z=>kT (zD h.own o) (zD h.aj.2.1 o) (by decide) z a)) (λk _ _ a=>Below.heap_setCell _ _ _ _ ?_);intro e;have p:k=w.heap.size+1:=e;exact h.nb (p▸a)
 . intro i N u Q s;have R:=aM s;have O:=h.aj.2.2 i N u Q s;have h1:=mF (zD O o) c (λk a z=>h.qa u R k a z);refine zi h1 (λk _ _ a=>Below.heap_setCell _ _ _ _ ?_);intro e;have p:k=w.heap.size+1:=e;exact hy h1 j (by decide) (p▸a)
 . obtain⟨⟨d,E⟩,J⟩:=K;exact⟨⟨d.setCell (ap (Nat.le_succ _)) _,E⟩,J⟩
 . exact zh _ _ _ _ j
 . have h1:(H.setCell (xD (w.heap.size+1) 3) m).ownsRow w.heap.size 3 1 m (l.length+1) (bK l++[xI y]):=by refine zi f (λk _ _ a=>Below.heap_setCell _ _ _ _ ?_);intro e;have p:k=w.heap.size+1:=e;exact M (p▸a)
   simpa [bK] using h1
 intro u s k a z;rcases S k z with h1|h1
 . exact h.qa u s k a h1
 obtain⟨W,P⟩:=h.aj.AN s;have U:=(P.lt k a).2;simp at h1;omega
theorem Tryz.mT:(prog.info? 3).map (λi=>(i.zero,i.size,i.bytes))=some (some (xI 0),1,8):=by kernel_rfl
theorem mG:∀u∈([xI y]:Xm),u.oneCell'=true:=by intro u a;simp at a;subst a;rfl
theorem gU {r:Xm}(h:w.ownsRow G e D v n r):v.oneCell'=true:=by
 rcases h.2 with ⟨a,_⟩|⟨g,c,d,a,_⟩
 . rw[a];rfl
 rw[a];rfl
theorem Ce (q:Nat)(F:Fx)(r:Rw)(a:St)(w:Xw)(t:Tk)(E:a.is 4 [40]=false)(d:zs w q F r a)(i:aV w (q+1) r a.L) :
 xK 259 #[xP q,.agg #[xI t.k,xI t.a,xI t.t,.string t.s,xI t.n]] w (dV q F r w (a1 A t a).1 (a1 A t a).2):=by
 have h:a1 A t a=(a.fail 2 a.t.a,0):=by unfold a1;rw[ae (by rw[E];simp)]
 rw[h];obtain⟨K,L,M,N,O,P,Q,R,S,T,m,p,s,u,z⟩:=d.cells;have J:=d.lt;have j:q<w.heap.size+1:=by omega
 have g:=za d;have k:=za i;clear d i h;go_enter func259,ntmps259;go_wp2_with fail;refine (cb q F r a 4 4 rfl ⟨#[40]⟩ [40] (by decide +kernel) _ ((g.o.alloc _).alloc _)).mono ?_;rintro e U ⟨rfl,rfl⟩;go_wp2_with fail;refine (lB q F r a _ 2 a.t.a rfl _ ((g.o.alloc _).alloc _)).mono ?_;rintro e V ⟨rfl,f,c⟩;go_wp2_with fail;go_ret;exact⟨r,rfl,f,by rw[St.gd];exact ((k.o.alloc _).alloc _).fr c,((Ev.bA c).alloc _).alloc _⟩
theorem Cj {d:Nat}(bL:bY d 260 A)(g9:zv d A)(q:Nat)(F:Fx)(r:Rw)(g:St)(p:Nat)(w:Xw)(t:Tk)(c1:Inv p g)(na:18<=g.op+(d+1))(i6:1<=g.t.a)(ds:g.is 4 [40]=true)(hR:zs w q F r g)(hg:aV w (q+1) r g.L) :
 xK 259 #[xP q,.agg #[xI t.k,xI t.a,xI t.t,.string t.s,xI t.n]] w (dV q F r w (a1 A t g).1 (a1 A t g).2):=by
 have Q:=c1.gf (by omega) ds;have c0:=ai.enter c1 Q (by have:=Inv.bP ds;omega);have g2:=g9 g.enter (p+1) c0.af (by rw[St.bN];omega);have hQ:g.enter.op=g.op+1:=St.bN;have he:a1 A t g=((cY A 1300 ((A g.enter).1,[(A g.enter).2])).1.ac 4 [41]).aI.put ⟨fL,t.a,t.a,(cY A 1300 ((A g.enter).1,[(A g.enter).2])).2,t.s,0⟩:=by unfold a1;rw[ag ds];rfl
 rw[he];have hw:1<=(A g.enter).1.t.a:=aJ i6 (aJ c0.ta g2.ta);have O2:aa ((A g.enter).1.op=g.op+1):=g2.op.trans hQ;obtain⟨h0,ip,h2,i4,i5,m3,m4,m5,m6,m7,it,iR,i1,i2,i3⟩:=hR.cells;have Z:=hR.lt;have hu:q<w.heap.size+1:=by omega
 obtain⟨i0,hm,cm,cn,cs⟩:=info_parts Tryz.mT;have gt:=za hR;have g0:=za hg;have gs:=za c1;have hT:=za c0.af;have h3:=za g2.af;have er:18<=g.enter.op+d:=by omega
 clear hR hg c1 he Q c0 g2 hQ;generalize ck:A g.enter=a0 at *;have c9:=za ck;clear ck;obtain⟨R,O⟩:∃R,cY A 1300 (a0.1,[a0.2])=R:=⟨_,rfl⟩;rw[O];have a4:=za O;clear O;go_enter func259,ntmps259;go_wp2_with fail;refine (cb q F r g 4 4 rfl ⟨#[40]⟩ [40] (by decide +kernel) _ ((gt.o.alloc _).alloc _)).mono ?_;rintro e w' ⟨rfl,rfl⟩;go_wp2_with fail;have a9:hz q F r w t ((w.alloc (z8 t)).alloc (kg t (.slice none 0 0))) g r (.slice none 0 0) []:=by
  refine⟨(gt.o.alloc _).alloc _,(g0.o.alloc _).alloc _,(((Ev.refl _ _ _).jE _).jE _),?_,World.ownsRow_nil _ _ _ _,(λ_ _ _ _ h=>by cases h),?_,Z⟩
  . have h:=zc (w.alloc (z8 t)) (kg t (.slice none 0 0));rw[show (w.alloc (z8 t)).heap.size=w.heap.size+1 by simp] at h;exact h
  intro b2;have:=(g0.o.2.1.lt _ b2).2;omega
 have a2:=za a9;clear a9;refine (lA q F r g _ gs.o.ok (by have:=gs.o.dq;omega) a2.o.aL).mono ?_;rintro e H ⟨rfl,bl,be⟩;have T:=za (a2.o.fr be bl (St.dA _));clear bl be;go_wp2_with fail;refine (bL q F r g.enter (p+1) _ hT.o er T.o.aL T.o.aj).mono ?_;rw[c9.o];rintro e C ⟨gl,rfl,bp,b0,bx⟩;have E:=za (T.o.sub bx bp b0);clear bp b0 bx;obtain⟨d0,d1,d2,d3,d4,d5⟩:=mJ E.o.box;have c2:([]:Xn).length+1<=maxLen:=by have h0:([]:Xn).length=0:=rfl;unfold maxLen;omega
 have S:(([]:Xn).length+1)*8<=140737488355328:=by have h0:([]:Xn).length=0:=rfl;omega
 have cv:w.heap.size<=(C.alloc (.cells #[xI (a0.2:Nat)] 3)).heap.size:=by simp;have:=E.o.ev.1.1.size;omega
 go_wp2_with (at_builtin;refine jy _ rfl (.tmp 31) (.tmp 33) 188 rfl w.heap.size 3 i0 _ 1 8 underlying188 hm cm cn cs rfl (by decide) (.slice none 0 0) ([]:Xn).length (bK ([]:Xn)) rfl (zD E.o.own _) (xD C.heap.size 0) 1 1 [xI (a0.2:Nat)] rfl rfl (zN (zc C _) rfl) mG c2 S cv ?_;intro v' l1 i c s;have V:=za (E.o.append i c s);have z:=E.o.qb (zD E.o.own _) c;obtain⟨g1,g3,g4,g5,g6,g7⟩:=mJ z;have g8:=uj z;obtain⟨io,a5,rfl,_⟩:=zM i (by omega);clear i c s z);clear c2 S cv g1 g3 g4 g5 g6 g7 g8 d0 d1 d2 d3 d4 d5;go_loopg [7] 1300 (λk _ wr=>∃(x:St) (l:Xn) (B:Rw) (v:Xv),aa (cY A k (x,l)=R)/\rem x<k/\l.length<=1200/\aa (l.length<=x.t.a)/\aa (Inv (p+1) x)/\aa (x.op=g.op+1)/\aa (hz q F r w t wr x B v l));case atStart => refine⟨a0.1,[a0.2],gl,_,a4.o,?_,by simp,by unfold aa;simp;omega,h3.o,O2.o,V.o⟩;unfold rem;split <;> omega
 case round =>
  obtain⟨x,l,u,v3,ar,hv,m9,c4,j,L,m⟩:=hrel;obtain⟨l2,l3,l5,l6,md,mk,mp,m0,m1,m2,h5,h6,h7,h8,h9⟩:=m.o.aL.cells;obtain⟨f,rfl⟩:∃f,gk=f+1:=⟨gk-1,by omega⟩;by_cases Q:x.er=0
  . have eb:((x.er:Int)==0)=true:=beq_iff_eq.2 (by omega);cases Y:x.is 4 [44] with
    | true =>
      have em:=Inv.bP Y;have dn:=ai.ad j.o;have ev:x.t.a+1<=x.ad.t.a:=(by have:=j.o.tok (by omega);rw[St.dZ Q];have m8:=zV x.src x.t.t j.o.ok.tt;simp only;omega);have W:=g9 x.ad (p+1) dn.af (by rw[St.bQ,L.o];omega);have K:aa (cY A f ((A x.ad).1,l++[(A x.ad).2])=R):=by
       have h:=ar.o;unfold aa;rw[<- h]
       show _=(if x.er=0/\x.is 4 [44]=true then _ else (x,l));rw[ag ⟨Q,Y⟩]
      have ak:aa (rem (A x.ad).1<f):=(by unfold aa rem;have ip:rem x=1201-x.t.a:=(by unfold rem;rw[ag Q]);have h2:=W.ta;have i5:=W.af.ok.bR;split <;> omega);have a3:aa ((l++[(A x.ad).2]).length<=(A x.ad).1.t.a):=(by unfold aa;have h2:=W.ta;have i4:=c4.o;simp only[aP,bJ,cw];omega);have eq:(l++[(A x.ad).2]).length<=1200:=aJ a3.o W.af.ok.bR;have c3:=za W.af;have c5:aa ((A x.ad).1.op=g.op+1):=(by unfold aa;rw[W.op,St.bQ];exact L.o);have h1:=za dn.af;clear Q em dn W ar ev;generalize hN:A x.ad=y at *;have h4:=za hN;clear hN;go_wp2_with fail;refine (cb q F u x 4 4 rfl ⟨#[44]⟩ [44] (by decide +kernel) _ m.o.aL).mono ?_;rintro e w' ⟨rfl,rfl⟩;go_wp2_with fail;refine (dH q F u x _ j.o.ok m.o.aL).mono ?_;rintro e nb ⟨rfl,bs,bk⟩;have U:=za (m.o.fr bk bs (St.bu _));clear bs bk;go_wp2_with fail;refine (bL q F u x.ad (p+1) _ h1.o (by rw[St.bQ,L.o];omega) U.o.aL U.o.aj).mono ?_;rw[h4.o];rintro e ge ⟨go,rfl,bt,b1,bE⟩;have J:=za (U.o.sub bE bt b1);clear bt b1 bE;obtain⟨d0,d1,d2,d3,d4,d5⟩:=mJ J.o.box;have c2:l.length+1<=maxLen:=(by unfold maxLen;omega);have S:(l.length+1)*8<=140737488355328:=(by omega);have cv:w.heap.size<=(ge.alloc (.cells #[xI (y.2:Nat)] 3)).heap.size:=(by simp;have:=J.o.ev.1.1.size;omega);go_wp2_with (at_builtin;refine jy _ rfl (.tmp 50) (.tmp 52) 188 rfl w.heap.size 3 i0 _ 1 8 underlying188 hm cm cn cs rfl (by decide) v3 l.length (bK l) rfl (zD J.o.own _) (xD ge.heap.size 0) 1 1 [xI (y.2:Nat)] rfl rfl (zN (zc ge _) rfl) mG c2 S cv ?_;intro v' l1 i c s;have V:=za (J.o.append i c s);have z:=J.o.qb (zD J.o.own _) c;obtain⟨g1,g3,g4,g5,g6,g7⟩:=mJ z;have g8:=uj z;obtain⟨io,a5,rfl,_⟩:=zM i (by omega);clear i c s z);go_roundg f;case measure=>omega
      case rel=>exact⟨y.1,l++[y.2],go,_,K.o,ak.out,eq,a3.o,c3,c5,V⟩
    | false =>
      have K:aa (R=(x,l)):=by
       have h:=ar.o;unfold aa;rw[<- h]
       show (if x.er=0/\x.is 4 [44]=true then _ else (x,l))=(x,l);rw[ae (by rw[Y];simp)]
      clear Q ar;go_wp2_with fail;refine (cb q F u x 4 4 rfl ⟨#[44]⟩ [44] (by decide +kernel) _ m.o.aL).mono ?_;rintro e w' ⟨rfl,rfl⟩;go_wp2_with fail;refine (cO q F u x 4 4 rfl ⟨#[41]⟩ [41] (by decide +kernel) _ j.o.ok m.o.aL).mono ?_;rintro e lt ⟨rfl,N,M⟩;have a:=za (m.o.fr M N (St.bi _ _ _));clear N M;obtain⟨i7,i8,i9,kd,kw,lb,le,lk,ln,lo,fr,fv,fx,fV,gc⟩:=a.o.aL.cells;have ls:=a.o.aL.frozen;obtain⟨d0,d1,d2,d3,d4,d5⟩:=mJ a.o.box;have b3:¬w.heap.size+1=q:=(by omega);have b4:¬q=w.heap.size+1:=(by omega);have P:1<=(x.ac 4 [41]).op:=(by rw[St.a8,L.o];omega);have ca:(x.ac 4 [41]).op<=17:=(by rw[St.a8];exact j.o.dq);go_wp2_with fail;have X:=gU a.o.own;refine (lE q F u (x.ac 4 [41]).aI ⟨fL,t.a,t.a,l,t.s,0⟩ v3 _ _ _ _ _ _ rfl rfl rfl rfl rfl (by show (x.ac 4 [41]).L.length<=100000;rw[St.bi];exact j.o.len) (a.o.aL.aI P) (a.o.aj.ox _ _) (ownsRow_setCell_below (zR a.o.own Z) (cf q) _) X).mono ?_;intro e lv es;obtain⟨al,rfl,ex,fd,fq⟩:=es.post (a.o.ev.fr ((Fr.refl _ _).aY _ _)) (λk b2=>(a.o.own.lt k b2).1);go_wp2_with fail;go_ret;rw[K.o];exact⟨al,rfl,ex,fd,fq⟩
  have eb:((x.er:Int)==0)=false:=bf.2 (by omega);have K:aa (R=(x,l)):=by
   have h:=ar.o;unfold aa;rw[<- h]
   show (if x.er=0/\x.is 4 [44]=true then _ else (x,l))=(x,l);rw[ae (by simp[Q])]
  clear Q ar;go_wp2_with fail;refine (cO q F u x 4 4 rfl ⟨#[41]⟩ [41] (by decide +kernel) _ j.o.ok m.o.aL).mono ?_;rintro e lt ⟨rfl,N,M⟩;have a:=za (m.o.fr M N (St.bi _ _ _));clear N M;obtain⟨i7,i8,i9,kd,kw,lb,le,lk,ln,lo,fr,fv,fx,fV,gc⟩:=a.o.aL.cells;have ls:=a.o.aL.frozen;obtain⟨d0,d1,d2,d3,d4,d5⟩:=mJ a.o.box;have b3:¬w.heap.size+1=q:=by omega
  have b4:¬q=w.heap.size+1:=by omega
  have P:1<=(x.ac 4 [41]).op:=by rw[St.a8,L.o];omega
  have ca:(x.ac 4 [41]).op<=17:=by rw[St.a8];exact j.o.dq
  go_wp2_with fail;have X:=gU a.o.own;refine (lE q F u (x.ac 4 [41]).aI ⟨fL,t.a,t.a,l,t.s,0⟩ v3 _ _ _ _ _ _ rfl rfl rfl rfl rfl (by show (x.ac 4 [41]).L.length<=100000;rw[St.bi];exact j.o.len) (a.o.aL.aI P) (a.o.aj.ox _ _) (ownsRow_setCell_below (zR a.o.own Z) (cf q) _) X).mono ?_;intro e lv es;obtain⟨al,rfl,ex,fd,fq⟩:=es.post (a.o.ev.fr ((Fr.refl _ _).aY _ _)) (λk b2=>(a.o.own.lt k b2).1);go_wp2_with fail;go_ret;rw[K.o];exact⟨al,rfl,ex,fd,fq⟩
end
section
open Go.RowKit
variable {c b:Fn} {d:Nat} {a:St}
theorem jv {k:Nat}{l:Xu}(h:a.is k l=true):a.t.k=k/\a.t.s.toList=l:=by simp[St.is] at h;exact h
theorem CO (e:Nat)(F:Fx)(g:Rw)(a:St)(p:Nat)(w:Xw)(h:Inv p a)(_ho:18<=a.op+(d+1))(f:zs w e F g a)(j:aV w (e+1) g a.L)(s:a.er≠0):xK 312 #[xP e] w (dV e F g w (aN b c a).1 (aN b c a).2):=by
 have i:aN b c a=(a,0):=by unfold aN;rw[ag s]
 rw[i];obtain⟨x,y,z,A,B,C,D,E,G,H,m,n,o,q,r⟩:=f.cells;have u:=f.lt;have I:¬w.heap.size=e:=by omega
 have t:((a.er:Int) != 0)=true:=by simp;omega
 have k:=za f;have l:=za j;have v:=za h;clear f j h i;go_enter func312,ntmps312;go_wp2_with fail;go_ret;exact⟨g,rfl,k.o.alloc _,l.o.alloc _,(Ev.refl _ _ _).jE _⟩
theorem Cd (f:Nat)(F:Fx)(h:Rw)(a:St)(p:Nat)(w:Xw)(j:Inv p a)(_ho:18<=a.op+(d+1))(g:zs w f F h a)(l:aV w (f+1) h a.L)(N:a.er=0)(y:a.t.k=3):xK 312 #[xP f] w (dV f F h w (aN b c a).1 (aN b c a).2):=by
 have k:aN b c a=fK fJ a.t.n a:=by unfold aN;rw[ae (by omega),ag y]
 rw[k];obtain⟨C,D,E,G,H,I,J,K,L,M,r,s,t,u,v⟩:=g.cells;have z:=g.lt;have O:¬w.heap.size=f:=by omega
 have x:((a.er:Int) != 0)=false:=by simp;omega
 have m:((a.t.k:Int)==3)=true:=beq_iff_eq.2 (by omega);have o:=za g;have q:=za l;have n:=za j;clear g l j k;go_enter func312,ntmps312;go_wp2_with fail;refine (qx f F h a p fJ _ a.t.n rfl _ n.o (o.o.alloc _) (q.o.alloc _)).mono ?_;rintro e P ⟨i,rfl,A,B,m⟩;go_wp2_with fail;go_ret;exact⟨i,rfl,A,B,m.alloc _⟩
theorem Dh (f:Nat)(F:Fx)(g:Rw)(a:St)(p:Nat)(w:Xw)(n:Inv p a)(al:18<=a.op+(d+1))(o:zs w f F g a)(z:aV w (f+1) g a.L)(x:∀(g:Rw) (a:St) (p:Nat) (w:Xw) (t:Tk),Inv p a->a.er=0->18<=a.op+(d+1)->1<=a.t.a->zs w f F g a->aV w (f+1) g a.L->xK 259 #[xP f,.agg #[xI t.k,xI t.a,xI t.t,.string t.s,xI t.n]] w (dV f F g w (a1 b t a).1 (a1 b t a).2))(r:a.er=0)(A:a.t.k=2)(O:a.ad.is 4 [40]=true):xK 312 #[xP f] w (dV f F g w (aN b c a).1 (aN b c a).2):=by
 have y:aN b c a=a1 b a.t a.ad:=by unfold aN;rw[ae (by omega),ae (by omega),ag A,ag O]
 rw[y];obtain⟨R,S,T,U,V,W,X,Y,Z,h9,H,I,J,K,L⟩:=o.cells;have N:=o.lt;have Q:¬w.heap.size=f:=by omega
 have M:((a.er:Int) != 0)=false:=by simp;omega
 have C:((a.t.k:Int)==3)=false:=bf.2 (by omega);have B:((a.t.k:Int)==2)=true:=beq_iff_eq.2 (by omega);have s:1<=a.ad.t.a:=by have:=n.tok (by omega);rw[St.dZ r];have ak:=zV a.src a.t.t n.ok.tt;simp only;omega
 have m:a.ad.er=0:=by rw[St.ja];exact r
 have q:=za m;have D:=za x;clear r A m x;have E:=za o;have G:=za z;have v:=za n;clear o z n y;go_enter func312,ntmps312;go_wp2_with fail;refine (dH f F g a (w.alloc (z8 a.t)) v.o.ok (E.o.alloc _)).mono ?_;rintro e ar ⟨rfl,l,h⟩;have k:=(h.block w.heap.size (by simp) Q).trans (zc w (z8 a.t));obtain⟨t0,t1,t2,t3,t4⟩:=eY k;clear k;have j:=za l;have i:=za h;clear l h;go_wp2_with fail;refine (cb f F g a.ad 4 4 rfl ⟨#[40]⟩ [40] (by decide +kernel) _ j.o).mono ?_;rintro e w' ⟨rfl,rfl⟩;go_wp2_with fail;refine (D.o g a.ad p _ a.t (ai.ad v.o).af q.o (by rw[St.bQ];omega) s j.o (by rw[St.bu];exact (G.o.alloc _).fr i.o)).mono ?_;rintro e a0 ⟨u,rfl,P,B,C⟩;go_wp2_with fail;go_ret;exact⟨u,rfl,P,B,((Ev.bA i.o).trans C).alloc _⟩
theorem CQ (f:Nat)(F:Fx)(h:Rw)(a:St)(p:Nat)(w:Xw)(s:Inv p a)(_ho:18<=a.op+(d+1))(n:zs w f F h a)(u:aV w (f+1) h a.L)(G:a.er=0)(o:a.t.k=2)(J:a.ad.is 4 [40]=false):xK 312 #[xP f] w (dV f F h w (aN b c a).1 (aN b c a).2):=by
 have t:aN b c a=a.ad.put ⟨gQ,a.t.a,a.t.a,[],a.t.s,0⟩:=by unfold aN;rw[ae (by omega),ae (by omega),ag o,ae (by rw[J];simp)];rfl
 rw[t];obtain⟨N,O,P,Q,R,S,T,U,V,W,A,B,C,D,E⟩:=n.cells;have I:=n.lt;have M:¬w.heap.size=f:=by omega
 have H:((a.er:Int) != 0)=false:=by simp;omega
 have x:((a.t.k:Int)==3)=false:=bf.2 (by omega);have v:((a.t.k:Int)==2)=true:=beq_iff_eq.2 (by omega);clear G o;have y:=za n;have z:=za u;have r:=za s;clear n u s t;go_enter func312,ntmps312;go_wp2_with fail;refine (dH f F h a (w.alloc (z8 a.t)) r.o.ok (y.o.alloc _)).mono ?_;rintro e Y ⟨rfl,m,g⟩;have l:=(g.block w.heap.size (by simp) M).trans (zc w (z8 a.t));obtain⟨t0,t1,t2,t3,t4⟩:=eY l;clear l;have j:=za m;have i:=za g;clear m g;go_wp2_with fail;refine (cb f F h a.ad 4 4 rfl ⟨#[40]⟩ [40] (by decide +kernel) _ j.o).mono ?_;rintro e X ⟨rfl,rfl⟩;go_wp2_with fail;refine (lE f F h a.ad ⟨gQ,a.t.a,a.t.a,[],a.t.s,0⟩ _ _ _ _ _ _ _ rfl rfl rfl rfl rfl (by rw[St.bu];exact r.o.len) j.o (by rw[St.bu];exact (z.o.alloc _).fr i.o) (World.ownsRow_nil _ _ _ _) rfl).mono ?_;intro e Z K;obtain⟨q,rfl,L,v,x⟩:=K.post (Ev.bA i.o) (λk o=>by cases o);go_wp2_with fail;go_ret;exact⟨q,rfl,L,v,x.alloc _⟩
theorem Cw (g:Nat)(F:Fx)(v:Rw)(a:St)(p:Nat)(w:Xw)(n:Inv p a)(bk:18<=a.op+(d+1))(A:zs w g F v a)(M:aV w (g+1) v a.L)(I:bY d 260 b)(K:zv d b)(i:a.is 4 [40]=true):xK 312 #[xP g] w (dV g F v w (aN b c a).1 (aN b c a).2):=by
 have L:aN b c a=iM b a:=by have W:=(jv i).1;have h2:=n.gf (by omega) i;unfold aN;rw[ae (by omega),ae (by omega),ae (by omega),ag i]
 rw[L];obtain⟨h0,W,h2,h3,h4,h5,h6,h7,h8,h9,X,Y,Z,ak,al⟩:=A.cells;have a2:=A.lt;have n1:¬w.heap.size=g:=by omega
 obtain⟨a0,bl⟩:=jv i;have N:=n.gf (by omega) i;have ar:((a.er:Int) != 0)=false:=by simp;omega
 have bs:((a.t.k:Int)==3)=false:=bf.2 (by omega);have bp:((a.t.k:Int)==2)=false:=bf.2 (by omega);have bt:((a.t.k:Int)==4)=true:=beq_iff_eq.2 (by omega);have H:=ai.enter n N (by omega);have z:=K a.enter (p+1) H.af (by rw[St.bN];omega);have r:iM b a=(((b a.enter).1.ac 4 [41]).aI,(b a.enter).2):=rfl;rw[r];have u:1<=((b a.enter).1.ac 4 [41]).op:=by rw[St.a8,z.op,St.bN];omega
 have O:((b a.enter).1.ac 4 [41]).op<=17:=by rw[St.a8];exact z.af.dq
 have V:aa (18<=a.enter.op+d):=by unfold aa;rw[St.bN];omega
 have Q:=za H.af;have R:=za z.af;clear N a0 i r H z K;generalize P:b a.enter=y at *;have U:=za P;clear P;have S:=za A;have T:=za M;have J:=za n;clear A M n L;go_enter func312,ntmps312;go_wp2_with fail;refine (lA g F v a _ J.o.ok (by have:=J.o.dq;omega) (S.o.alloc _)).mono ?_;rintro e cn ⟨rfl,o,l⟩;have B:=za o;have j:=za l;clear o l;go_wp2_with fail;refine (I g F v a.enter (p+1) _ Q.o V.o B.o (by rw[St.dA];exact (T.o.alloc _).fr j.o)).mono ?_;rw[U.o];rintro e cs ⟨x,rfl,q,t,s⟩;have C:=za q;have G:=za t;have E:=za s;clear q t s;go_wp2_with fail;refine (cO g F x y.1 4 4 rfl ⟨#[41]⟩ [41] (by decide +kernel) _ R.o.ok C.o).mono ?_;rintro e cv ⟨rfl,f,m⟩;obtain⟨bx,bE,bL,b0,b1,b2,b3,b4,ca,ck,a3,a4,a5,a9,be⟩:=f.cells;have cm:=f.frozen;have D:=za f;have k:=za m;clear f m;go_wp2_with fail;go_ret;refine⟨x,rfl,D.o.aI u,?_,?_⟩
 . have h:=(G.o.fr k.o).ox 7 (xI ((((y.1.ac 4 [41]).op:Nat):Int)-1))
   show aV _ _ _ (y.1.ac 4 [41]).L;rw[St.bi];exact h
 exact (((((Ev.bA j.o).trans E.o).fr k.o).fr ((Fr.refl _ _).aY _ _))).alloc _
theorem C8 (g:Nat)(F:Fx)(j:Rw)(a:St)(p:Nat)(w:Xw)(h:Inv p a)(_ho:18<=a.op+(d+1))(i:zs w g F j a)(m:aV w (g+1) j a.L)(f:a.is 5 [116,114,117,101]=true):xK 312 #[xP g] w (dV g F j w (aN b c a).1 (aN b c a).2):=by
 have l:aN b c a=fK dl 1 a:=by have t:=(jv f).1;have A:=h.gf (by omega) f;unfold aN;rw[ae (by omega),ae (by omega),ae (by omega),ae (by unfold St.is;simp;omega),ag f]
 rw[l];obtain⟨H,t,A,I,J,K,L,M,N,O,u,v,x,y,z⟩:=i.cells;have E:=i.lt;have S:¬w.heap.size=g:=by omega
 obtain⟨D,P⟩:=jv f;have B:=h.gf (by omega) f;have C:((a.er:Int) != 0)=false:=by simp;omega
 have o:((a.t.k:Int)==3)=false:=bf.2 (by omega);have n:((a.t.k:Int)==2)=false:=bf.2 (by omega);have Q:((a.t.k:Int)==4)=false:=bf.2 (by omega);have R:((a.t.k:Int)==5)=true:=beq_iff_eq.2 (by omega);clear B D f;have r:=za i;have s:=za m;have q:=za h;clear i m h l;go_enter func312,ntmps312;go_wp2_with fail;refine (qx g F j a p dl _ 1 rfl _ q.o (r.o.alloc _) (s.o.alloc _)).mono ?_;rintro e T ⟨k,rfl,G,n,o⟩;go_wp2_with fail;go_ret;exact⟨k,rfl,G,n,o.alloc _⟩
theorem Cu (g:Nat)(F:Fx)(j:Rw)(a:St)(p:Nat)(w:Xw)(h:Inv p a)(_ho:18<=a.op+(d+1))(i:zs w g F j a)(m:aV w (g+1) j a.L)(f:a.is 5 [102,97,108,115,101]=true)(t:a.is 5 [116,114,117,101]=false):xK 312 #[xP g] w (dV g F j w (aN b c a).1 (aN b c a).2):=by
 have l:aN b c a=fK dl 0 a:=by have u:=(jv f).1;have B:=h.gf (by omega) f;unfold aN;rw[ae (by omega),ae (by omega),ae (by omega),ae (by unfold St.is;simp;omega),ae (by rw[t];simp),ag f]
 rw[l];obtain⟨I,u,B,J,K,L,M,N,O,P,v,x,y,z,A⟩:=i.cells;have G:=i.lt;have T:¬w.heap.size=g:=by omega
 obtain⟨E,Q⟩:=jv f;have C:=h.gf (by omega) f;have D:((a.er:Int) != 0)=false:=by simp;omega
 have o:((a.t.k:Int)==3)=false:=bf.2 (by omega);have n:((a.t.k:Int)==2)=false:=bf.2 (by omega);have R:((a.t.k:Int)==4)=false:=bf.2 (by omega);have S:((a.t.k:Int)==5)=true:=beq_iff_eq.2 (by omega);clear C E f;have r:=za i;have s:=za m;have q:=za h;clear i m h l;go_enter func312,ntmps312;go_wp2_with fail;refine (qx g F j a p dl _ 0 rfl _ q.o (r.o.alloc _) (s.o.alloc _)).mono ?_;rintro e U ⟨k,rfl,H,n,o⟩;go_wp2_with fail;go_ret;exact⟨k,rfl,H,n,o.alloc _⟩
theorem DB (g:Nat)(F:Fx)(k:Rw)(a:St)(p:Nat)(w:Xw)(h:Inv p a)(G:18<=a.op+(d+1))(i:zs w g F k a)(m:aV w (g+1) k a.L)(j:bY d 260 b)(o:zv d b)(f:a.is 5 [105,102]=true):xK 312 #[xP g] w (dV g F k w (aN b c a).1 (aN b c a).2):=by
 have q:aN b c a=fp b a:=by have l:=jv f;have B:=h.gf (by omega) f;unfold aN;rw[ae (by omega),ae (by omega),ae (by omega),ae (by unfold St.is;simp;omega),ae (by unfold St.is;simp[l]),ae (by unfold St.is;simp[l]),ag f]
 rw[q];obtain⟨L,l,B,M,N,O,P,Q,R,S,v,x,y,z,A⟩:=i.cells;have E:=i.lt;have W:¬w.heap.size=g:=by omega
 obtain⟨D,T⟩:=jv f;have r:=h.gf (by omega) f;have u:=za (Ct j o g F k a p (w.alloc (z8 a.t)) h r (by omega) G (i.alloc _) (m.alloc _));have C:((a.er:Int) != 0)=false:=by simp;omega
 have t:((a.t.k:Int)==3)=false:=bf.2 (by omega);have s:((a.t.k:Int)==2)=false:=bf.2 (by omega);have U:((a.t.k:Int)==4)=false:=bf.2 (by omega);have V:((a.t.k:Int)==5)=true:=beq_iff_eq.2 (by omega);clear r D f j o;have J:=za i;have K:=za m;have I:=za h;clear i m h q;go_enter func312,ntmps312;go_wp2_with fail;refine u.o.mono ?_;rintro e X ⟨n,rfl,H,s,t⟩;go_wp2_with fail;go_ret;exact⟨n,rfl,H,s,t.alloc _⟩
theorem CH (g:Nat)(F:Fx)(k:Rw)(a:St)(p:Nat)(w:Xw)(h:Inv p a)(G:18<=a.op+(d+1))(i:zs w g F k a)(l:aV w (g+1) k a.L)(q:bY d 319 (bF c))(n:zv d (bF c))(f:a.is 5 [109,101,114,103,101]=true):xK 312 #[xP g] w (dV g F k w (aN b c a).1 (aN b c a).2):=by
 have o:aN b c a=fs c a:=by have j:=jv f;have B:=h.gf (by omega) f;unfold aN;rw[ae (by omega),ae (by omega),ae (by omega),ae (by unfold St.is;simp;omega),ae (by unfold St.is;simp[j]),ae (by unfold St.is;simp[j]),ae (by unfold St.is;simp[j]),ag f]
 rw[o];obtain⟨L,j,B,M,N,O,P,Q,R,S,v,x,y,z,A⟩:=i.cells;have E:=i.lt;have W:¬w.heap.size=g:=by omega
 obtain⟨D,T⟩:=jv f;have r:=h.gf (by omega) f;have u:=za (CV q n g F k a p (w.alloc (z8 a.t)) h r (by omega) G (i.alloc _) (l.alloc _));have C:((a.er:Int) != 0)=false:=by simp;omega
 have t:((a.t.k:Int)==3)=false:=bf.2 (by omega);have s:((a.t.k:Int)==2)=false:=bf.2 (by omega);have U:((a.t.k:Int)==4)=false:=bf.2 (by omega);have V:((a.t.k:Int)==5)=true:=beq_iff_eq.2 (by omega);clear r D f q n;have J:=za i;have K:=za l;have I:=za h;clear i l h o;go_enter func312,ntmps312;go_wp2_with fail;refine u.o.mono ?_;rintro e X ⟨m,rfl,H,s,t⟩;go_wp2_with fail;go_ret;exact⟨m,rfl,H,s,t.alloc _⟩
theorem Db (_h3:a.t.k≠3)(_h2:a.t.k≠2)(f:a.is 4 [40]=false)(g:a.is 5 [116,114,117,101]=false)(h:a.is 5 [102,97,108,115,101]=false)(i:a.is 5 [105,102]=false)(j:a.is 5 [109,101,114,103,101]=false) :
 (((a.t.k:Int)==4)=true/\(a.t.s.toList==[40])=false)∨(((a.t.k:Int)==4)=false/\((a.t.k:Int)==5)=true/\(a.t.s.toList==[116,114,117,101])=false/\(a.t.s.toList==[102,97,108,115,101])=false/\(a.t.s.toList==[105,102])=false/\(a.t.s.toList==[109,101,114,103,101])=false)∨(((a.t.k:Int)==4)=false/\((a.t.k:Int)==5)=false):=by
 by_cases k:a.t.k=4
 . left;refine⟨beq_iff_eq.2 (by omega),?_⟩;simpa [St.is,k] using f
 by_cases e:a.t.k=5
 . right;left;refine⟨bf.2 (by omega),beq_iff_eq.2 (by omega),?_,?_,?_,?_⟩
   . simpa [St.is,e] using g
   . simpa [St.is,e] using h
   . simpa [St.is,e] using i
   simpa [St.is,e] using j
 right;right;exact⟨bf.2 (by omega),bf.2 (by omega)⟩
theorem Cq (g:Nat)(F:Fx)(h:Rw)(a:St)(p:Nat)(w:Xw)(_hI:Inv p a)(_ho:18<=a.op+(d+1))(i:zs w g F h a)(t:aV w (g+1) h a.L)(D:a.er=0)(q:a.t.k≠3)(o:a.t.k≠2)(j:a.is 4 [40]=false)(k:a.is 5 [116,114,117,101]=false)(l:a.is 5 [102,97,108,115,101]=false)(m:a.is 5 [105,102]=false)(n:a.is 5 [109,101,114,103,101]=false):xK 312 #[xP g] w (dV g F h w (aN b c a).1 (aN b c a).2):=by
 have s:aN b c a=(a.fail 2 a.t.a,0):=by unfold aN;rw[ae (by omega),ae q,ae o,ae (by rw[j];simp),ae (by rw[k];simp),ae (by rw[l];simp),ae (by rw[m];simp),ae (by rw[n];simp)]
 rw[s];obtain⟨K,L,M,N,O,P,Q,R,S,T,y,z,A,B,C⟩:=i.cells;have G:=i.lt;have H:=Db q o j k l m n;have E:((a.er:Int) != 0)=false:=by simp;omega
 have V:((a.t.k:Int)==3)=false:=bf.2 (by omega);have U:((a.t.k:Int)==2)=false:=bf.2 (by omega);have v:=za i;have x:=za t;clear i t _hI s j k l m n D q o;rcases H with ⟨u,J⟩|⟨u,I,J,X,Y,Z⟩|⟨u,I⟩
 all_goals
  go_enter func312,ntmps312;go_wp2_with fail;refine (lB g F h a _ 2 a.t.a rfl _ (v.o.alloc _)).mono ?_;rintro e W ⟨rfl,r,f⟩;go_wp2_with fail;go_ret;exact⟨h,rfl,r,by rw[St.gd];exact (x.o.alloc _).fr f,(Ev.bA f).alloc _⟩
theorem DR (k:bY d 260 b)(u:zv d b)(A:bY d 319 (bF c))(y:zv d c)
 (z:∀(e:Nat) (F:Fx) (f:Rw) (a:St) (p:Nat) (w:Xw) (t:Tk),Inv p a->a.er=0->18<=a.op+(d+1)->1<=a.t.a->zs w e F f a->aV w (e+1) f a.L->xK 259 #[xP e,.agg #[xI t.k,xI t.a,xI t.t,.string t.s,xI t.n]] w (dV e F f w (a1 b t a).1 (a1 b t a).2)) :
 bY (d+1) 312 (aN b c):=by
 intro e F f a p w g j h i;by_cases l:a.er=0
 . by_cases v:a.t.k=3
   . exact Cd e F f a p w g j h i l v
   by_cases n:a.t.k=2
   . cases x:a.ad.is 4 [40] with
     | true=>exact Dh e F f a p w g j h i (z e F) l n x
     | false=>exact CQ e F f a p w g j h i l n x
   cases o:a.is 4 [40] with
   | true=>exact Cw e F f a p w g j h i k u o
   | false =>
     cases m:a.is 5 [116,114,117,101] with
     | true=>exact C8 e F f a p w g j h i m
     | false =>
       cases q:a.is 5 [102,97,108,115,101] with
       | true=>exact Cu e F f a p w g j h i q m
       | false =>
         cases r:a.is 5 [105,102] with
         | true=>exact DB e F f a p w g j h i k u r
         | false =>
           cases s:a.is 5 [109,101,114,103,101] with
           | true=>exact CH e F f a p w g j h i A (pf y) s
           | false=>exact Cq e F f a p w g j h i l v n o m q r s
 exact CO e F f a p w g j h i l
end
section
open Go.RowKit
theorem qn {d:Nat}{e:Fn}(f:bY d 260 e)(j:zv d e)(b:Nat)(F:Fx)(c:Rw)(a:St)(p:Nat)(w:Xw)(t:Tk)(k:Inv p a)(m:18<=a.op+(d+1))(l:1<=a.t.a)(g:zs w b F c a)(h:aV w (b+1) c a.L) :
 xK 259 #[xP b,.agg #[xI t.k,xI t.a,xI t.t,.string t.s,xI t.n]] w (dV b F c w (a1 e t a).1 (a1 e t a).2):=by
 cases i:a.is 4 [40] with
 | true=>exact Cj f j b F c a p w t k m l i g h
 | false=>exact Ce b F c a w t i g h
theorem Mg:∀d,bY d 260 (a6 d).ex/\bY d 307 (a6 d).un/\bY d 312 (a6 d).at':=by
 intro d;induction d with
 | zero =>
   have h:∀(f:FuncId) (M:Fn),bY 0 f M:=λf M o F u a p w e m _ _=>by have:=e.dq;omega
   exact⟨h _ _,h _ _,h _ _⟩
 | succ d B => obtain⟨b,g,i⟩:=pm d;obtain⟨c,v,x⟩:=B;have j:=rT b i;have l:=DR c b (DQ x) i (λo F u a p w t e _ m A y z=>qn c b o F u a p w t e m A y z);have k:=r4 g (rG j);have n:=CB v g (B9 l j);have G:=oG 3 (CD n) k;have s:=ib (lv:=3) k;have E:=oG 2 (Cy G) s;have r:=ib (lv:=2) s;have I:=CM E r;have a:=rS r;have D:=oG 1 (CS I) a;have q:=ib (lv:=1) a;have C:=oG 0 (C5 D) q;have H:=ib (lv:=0) q;exact⟨C1 c b (Cv C) H,n,l⟩
end
section
variable {p:Nat} {b:St}
structure Vr where
 nm:ByteArray
 a:Nat
 bl:Bool
 bn:Bool
 out:Bool
 on:Nat
 ck:ByteArray
 ca:Nat
 nt:Bool
 tm:Bool
def cD:List UInt8:=[98,111,111,108]
def jo:List UInt8:=[105,110,116]
def cF:List UInt8:=[111,110]
def eL:List UInt8:=[110,111,116]
def z9 (b:St):St:=if b.is 5 cD=true then b.ad else b.ac 5 jo
def aS (b:St):St:=if b.is 5 eL=true then b.ad else b
def zx (i o:Bool)(b:St)(a:List Vr):St×List Vr :=
 if 16<=a.length then (b.fail 2 b.t.a,a)
 else
  let d:=b.name.ac 4 [58]
  let c:=z9 d
  if (c.is 5 cF&&!i&&!o)=true then
   let e:=aS c.ad
   (e.name,a++[⟨b.t.s,b.t.a,d.is 5 cD,i,o,c.t.a,e.t.s,e.t.a,c.ad.is 5 eL,true⟩])
  else (c,a++[⟨b.t.s,b.t.a,d.is 5 cD,i,o,0,sE,0,false,false⟩])
theorem ai.type (h:Inv p b):ai p b (z9 b):=by
 unfold z9;split
 . exact ai.ad h
 exact ai.ac h _ _
theorem ai.hb (h:Inv p b):ai p b (aS b):=by
 unfold aS;split
 . exact ai.ad h
 exact ai.refl h
theorem JB (b:St):(z9 b).op=b.op:=by unfold z9;split;exact b.bQ;exact b.a8 _ _
theorem Kt (b:St):(aS b).op=b.op:=by unfold aS;split;exact b.bQ;rfl
theorem KW (b:St):(z9 b).L=b.L:=by unfold z9;split;exact b.bu;exact b.bi _ _
theorem KQ (b:St):(aS b).L=b.L:=by unfold aS;split;exact b.bu;rfl
theorem jX {i o:Bool}{ab:List Vr}(e:Inv p b):ai p b (zx i o b ab).1/\(zx i o b ab).1.op=b.op/\(zx i o b ab).1.L=b.L:=by
 unfold zx;split
 . exact⟨ai.fail e (by omega) (by omega) e.ok.bR,St.jH _ _ _,St.gd _ _ _⟩
 have a:=ai.name e;have c:=ai.ac a.af 4 [58];have d:=ai.type c.af;have j:(z9 (b.name.ac 4 [58])).op=b.op:=by rw[JB,St.a8,St.dB]
 have h:(z9 (b.name.ac 4 [58])).L=b.L:=by rw[KW,St.bi,St.c8]
 simp only;split
 . have f:=ai.ad d.af;have g:=ai.hb f.af;have k:=ai.name g.af;exact⟨((((a.trans c).trans d).trans f).trans g).trans k,by rw[St.dB,Kt,St.bQ,j],by rw[St.c8,KQ,St.bu,h]⟩
 exact⟨(a.trans c).trans d,j,h⟩
end
end Go.Proofs.YtmfkofhgdjechaaGreatDoor
