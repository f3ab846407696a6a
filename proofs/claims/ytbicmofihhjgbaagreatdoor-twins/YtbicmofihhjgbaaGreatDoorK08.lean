/- Part 9 of the proof. -/
import Derived.Laws.CopyOwn
import Derived.Lib.SliceRun
import Derived.Test.YtbicmofihhjgbaaGreatDoorK07
set_option maxRecDepth 100000
set_option maxHeartbeats 8000000
namespace Go.Proofs.YtbicmofihhjgbaaGreatDoor
open Go.Proofs.Tryz
section
open Go.RowKit
variable {r z:Fn} {D:Xm} {E:List Vr} {B f n G p d:Nat} {S:Xs} {s l:St} {R H:St×List ax} {A j C:St×List Vr} {J I c3 c4 K F:Xv} {w wr:Xw}
theorem yC:(⟨#[110,111,100,101]⟩:Xb).toList=zW:=by decide +kernel
theorem Lm:(⟨#[118,97,114]⟩:Xb).toList=ly:=by decide +kernel
theorem J6:(⟨#[45,62]⟩:Xb).toList=[45,62]:=by decide +kernel
theorem Li:(⟨#[123]⟩:Xb).toList=[123]:=by decide +kernel
theorem Ll:(⟨#[125]⟩:Xb).toList=[125]:=by decide +kernel
structure my (r z:Fn) (f:Nat) (l:St) (A j C:St×List Vr) (H R:St×List ax):Prop where
 h3:bW true (l.aw.ac 5 zW).name []=A
 h5:bW false (A.1.ac 4 [45,62]) A.2=j
 h6:bD f j.1 j.2=C
 h8:zF r z (C.1.ac 4 [123]) []=H
 hR:bS r z f H=R
theorem Jn (h:my r z f l A j C H R) :
 a7 r z f l=(R.1.ac 4 [125],⟨(l.aw.ac 5 zW).t.s,(l.aw.ac 5 zW).t.a,C.2,(R.1.ac 4 [125]).L,R.2⟩):=by
 have a:aT l.aw=j:=by unfold aT;simp only;rw[h.h3,h.h5]
 unfold a7 dy;simp only;rw[a,h.h6,h.h8,h.hR]
theorem HC (b:zv 17 r)(c:zv 18 z)(g:Inv p l)(i:l.op=0)(h:my r z f l A j C H R):sd l A j C H R:=by have a:=yk b c g i (⟨h.h3,h.h5,h.h6,h.h8,rfl⟩:pM r z f l A j C H (gL r z f H));have e:=nO b c f 0 H a.i8 a.o8;rw[h.hR] at e;exact⟨a.i0,a.i1,a.i2,a.i3,a.i4,a.i5,a.i6,a.i7,a.i8,e.1.af,a.o7,a.o8,a.l3,a.l5,a.l6⟩
theorem VI.Bz (h:VI S d G B p w wr J I c3 c4 K s E F n D)(a:d<G)(b:G<B)(v:Xv):VI S d G B p w (wr.setCell (xD G 3) v) J I v c4 K s E F n D :=
 ⟨h.af,h.pl.aU a _ _,zh _ _ _ _ h.aC,zi h.own (λk c _ _=>zr (by omega) rfl),h.ok,h.fr.setCell (ao (ap (ao rfl))) _⟩
theorem VI.BA (h:VI S d G B p w wr J I c3 c4 K s E F n D)(a:d<G)(b:G<B)(v:Xv):VI S d G B p w (wr.setCell (xD G 4) v) J I c3 v K s E F n D :=
 ⟨h.af,h.pl.aU a _ _,zh _ _ _ _ h.aC,zi h.own (λk c _ _=>zr (by omega) rfl),h.ok,h.fr.setCell (ao (ap (ao rfl))) _⟩
theorem PL.aw (h:PL S w d l):PL S w d l.aw:=⟨h.tx,h.heap,h.gl,h.pb⟩
theorem rz (t:Tk):(((ck t:Nat):Int)==3)=(t.k==2):=by have h:=rY (t:=t);rw[bne] at h;cases a:(((ck t:Nat):Int)==3) <;> cases b:(t.k==2) <;> simp_all
theorem Hp:zH 155:=λ_ _=>by kernel_rfl
theorem Tryz.AF:(prog.info? 184).map (λi=>(i.zero,i.size,i.bytes))=some (some (.agg #[.slice none 0 0,xI 0,.pointer none]),3,40):=by kernel_rfl
theorem K9 {x:Xp}{k c:Nat}{a:Int}{b:Xp}:∀u∈[Value.slice x k c,xI a,.pointer b],u.oneCell'=true:=by intro u e;simp at e;rcases e with rfl|rfl|rfl <;> rfl
theorem fI.BQ {c:Nat}{i:Xv}{L:List Ex}(o:c<=B):∀{b:List ax} {D:Xm},fI B wr i L b D->fI c wr (.slice none 0 0) L b D:=by
 intro b;induction b with
 | nil=>intro D h;exact h
 | cons q b u => rintro D ⟨N,a,P,k,⟨O,e,v,x,y,_,M⟩,m⟩;exact⟨N,a,P,k,⟨O,e,aJ o v,x,y,λg t=>(by cases t),M⟩,u m⟩
theorem xg (i o:Bool)(l:St)(E:List Vr):E.length<=(zx i o l E).2.length:=by
 unfold zx;split
 . exact an _
 simp only;split <;> simp
theorem Ia (i:Bool):∀(f:Nat) (x:St×List Vr),x.2.length<=(MG i f x).2.length:=by
 intro f;induction f with
 | zero=>intro x;exact an _
 | succ f a =>
   intro x
   show x.2.length<=(if _ then _ else x).2.length;split
   . exact aJ (xg _ _ _ _) (a _)
   exact an _
theorem Io (i:Bool)(l:St)(E:List Vr):E.length<=(bW i l E).2.length:=by obtain⟨f,a⟩:∃f,f=1300:=⟨_,rfl⟩;rw[zip a];exact aJ (xg _ _ _ _) (Ia i f _)
theorem Iy (b:zv 17 r)(c:zv 18 z)(a:sd l A j C H R)(h:my r z f l A j C H R)(L:R.1.er=0):(l.aw.ac 5 zW).name.er=0/\A.1.er=0/\(A.1.ac 4 [45,62]).er=0/\j.1.er=0/\C.1.er=0:=by have v:=nO b c f 0 H a.i8 a.o8;rw[h.hR] at v;have y:=v.1.back L;have u:=gD b c (eqs:=[]) a.i7 a.o7;rw[h.h8] at u;have x:=u.1.back y;have m:C.1.er=0:=(ai.ac a.i6 4 [123]).back x;have t:=kM (f:=f) (ak:=j.2) a.i5;rw[h.h6] at t;have k:=t.1.back m;have q:=kH (i:=false) (ak:=A.2) a.i4;rw[h.h5] at q;have g:=q.1.back k;have e:A.1.er=0:=(ai.ac a.i3 4 [45,62]).back g;have o:=kH (i:=true) (ak:=[]) a.i2;rw[h.h3] at o;exact⟨o.1.back e,e,g,k,m⟩
def Lh (S:Xs)(d:Nat)(w:Xw)(c:St)(a:Nd)(h i:Nat)(e:Ending)(b:Xw):Prop :=
 ∃(G:Nat),e=.returned (xP G)/\w.heap.size<=G/\PL S b d c/\Fr (·=d) w b /\
  aa (c.er=0->∃(F g:Xv) (D:Xm),b.heap[G]?=some (.cells #[.string a.nm,xI a.a,F,xI h,xI i,g] 121 (0,0)) /\
   b.ownsRow w.heap.size 134 7 F a.ak.length (eT a.ak)/\a.ak.length<=16/\b.ownsRow w.heap.size 184 3 g a.eqs.length D/\fI w.heap.size b (.slice none 0 0) a.az a.eqs D)
theorem J0 (fA:zX 18 190 z)(fu:ig 18 r)(W:zv 17 r)(X:zv 18 z)(S:Xs)(d p f:Nat)(go:1202<f)(gs:f<=5000)(l:St)(w:Xw)(gn:Inv p l)(gC:l.op=0)(hR:PL S w d l)(M:my r z f l A j C H R) :
 xK 86 #[xP d] w (Lh S d w (R.1.ac 4 [125]) ⟨(l.aw.ac 5 zW).t.s,(l.aw.ac 5 zW).t.a,C.2,(R.1.ac 4 [125]).L,R.2⟩ A.2.length (j.2.length-A.2.length)):=by
 have o:=hR.lt;have c:=HC W X gn gC M;have fz:=za hR.aw;have a4:=za (λw1 h=>zP S d l.aw ⟨#[110,111,100,101]⟩ _ yC w1 c.i0.bd h);rw[nI hR.aw.tx (by decide)] at a4;have bC:=za (λw1 h=>gG S d (l.aw.ac 5 zW) w1 c.i1.bd h);obtain⟨nx,a9,eN,di⟩:=jk (l.aw.ac 5 zW);rw[eN] at bC;go_enter func86,ntmps86;go_wp2_with fail;refine (a4.o _ (fz.o.alloc _)).mono ?_;rintro e w1 ⟨rfl,dY,bo⟩;have eS:=bo.size;rw[au] at eS;have eq:w1.heap[w.heap.size]?=some (.cells #[.string ⟨#[]⟩,xI 0,.slice none 0 0,xI 0,xI 0,.slice none 0 0] 121 (0,0)):=(bo.block _ (by simp) (by omega)).trans (zc w _);have c6:=za dY;have cR:=za bo;have dq:=za eq;go_wp2_with fail;refine (bC.o _ c6.o).mono ?_;rintro e w2 ⟨rfl,bg,O⟩;have gV:=O.size;have Y:=(O.block w.heap.size (by omega) (by omega)).trans dq.o;obtain⟨q0,eY,q2,q3,q4,q5,qf,cE⟩:=zt Y;have b0:aa (VI S d w.heap.size (w.heap.size+1) 0 (w.alloc (.cells #[.string ⟨#[]⟩,xI 0,.slice none 0 0,xI 0,xI 0,.slice none 0 0] 121)) ((w2.setCell (xD w.heap.size 0) (.string nx)).setCell (xD w.heap.size 1) (xI a9)) (.string nx) (xI a9) (xI 0) (xI 0) (.slice none 0 0) (l.aw.ac 5 zW).name [] (.slice none 0 0) 0 []):=by refine⟨c.i2,(bg.aU o _ _).aU o _ _,zh _ _ _ _ (zh _ _ _ _ Y),World.ownsRow_nil _ _ _ _,λ_=>⟨rfl,by simp,rfl⟩,?_⟩;have h:Fr (λk=>k=d∨k=w.heap.size∨w.heap.size+1<=k) (w.alloc (.cells #[.string ⟨#[]⟩,xI 0,.slice none 0 0,xI 0,xI 0,.slice none 0 0] 121)) w2:=(cR.o.trans O).mono (λ_ _ h=>ao h);exact (h.setCell (ao (ap (ao rfl))) _).setCell (ao (ap (ao rfl))) _
 go_wp2_with fail;generalize ca:w.alloc (.cells #[.string ⟨#[]⟩,xI 0,.slice none 0 0,xI 0,xI 0,.slice none 0 0] 121)=w0 at b0;have gU:w0.heap.size=w.heap.size+1:=by rw[<- ca,au]
 have bE:=za (xG S d w.heap.size (w.heap.size+1) 0 16 true w0 _ _ _ _ _ _ _ _ _ 0 _ (by omega) (by omega) (by omega) o (by omega) (by omega) b0.o);rw[M.h3] at bE;refine bE.o.mono ?_;rintro e w3 ⟨g9,Q,hg,rfl,jK,bp⟩;obtain⟨q0,eY,q2,q3,q4,q5,qf,cE⟩:=zt bp.aC;have bk:=za (bp.Bz o (by omega) (xI ((Q:Int)-((0:Nat):Int))));have gW:=bp.fr.size;go_wp2_with fail;have a5:=za (zP S d A.1 ⟨#[45,62]⟩ _ J6 _ c.i3.bd bk.o.pl);rw[fo bk.o.pl.tx (by decide)] at a5;refine a5.o.mono ?_;rintro e w4 ⟨rfl,ea,dV⟩;have b1:=za (bk.o.goes o (by omega) c.i4 (λv=>eJ v) ea dV);go_wp2_with fail;have bK:=za (xG S d w.heap.size (w.heap.size+1) 0 17 false w0 _ _ _ _ _ _ _ _ _ _ _ (by omega) (by omega) (by omega) o (by omega) (by omega) b1.o);rw[M.h5] at bK;refine bK.o.mono ?_;rintro e w5 ⟨eZ,n5,e5,rfl,gx,a2⟩;obtain⟨q0,eY,q2,q3,q4,q5,qf,cE⟩:=zt a2.aC;have V:=za (a2.BA o (by omega) (xI ((n5:Int)-(Q:Int))));have gX:=a2.fr.size;have du:=za b1.o.ok;have dw:=za a2.ok;go_wp2_with fail;have bY:=za (hY S d j.1 ⟨#[118,97,114]⟩ _ Lm _ c.i5.bd V.o.pl);have cs:j.1.cP ly=if j.1.is 5 ly=true then j.1.ad else j.1:=by unfold St.cP;rw[MH V.o.pl.tx (by decide)]
 rw[MH V.o.pl.tx (by decide),cs] at bY;refine bY.o.mono ?_;rintro e w6 ⟨rfl,eb,ch⟩;have aL:=za eb;have bA:=za ch;have gY:=ch.size;go_upto_if 30 with fail;go_cut [] (λwy=>∃F n D,aa (VI S d w.heap.size (w.heap.size+1) 0 w0 wy (.string nx) (xI a9) (xI ((Q:Int)-((0:Nat):Int))) (xI ((n5:Int)-(Q:Int))) (.slice none 0 0) C.1 C.2 F n D));case first =>
  cases hc:j.1.is 5 ly with
  | false => rw[hc,ae (by simp)] at aL;have h6:bD f j.1 j.2=(j.1,j.2):=(by unfold bD;rw[ae (by rw[hc];simp)]);rw[M.h6] at h6;have cK:=za h6;go_wp2_with fail;go_meet;rw[cK.o];exact⟨_,_,_,V.o.goes o (by omega) c.i5 (λh=>h) aL.o bA.o⟩
  | true =>
    rw[hc,ag rfl] at aL;have h6:bD f j.1 j.2=en f (MN j.1.ad j.2):=(by unfold bD;rw[ag hc]);rw[M.h6] at h6;have cK:=za h6;have v:j.1.er=0:=c.i5.bd.er (by rw[Inv.bP hc];decide);have gl:=ai.ad c.i5;have dp:=za (V.o.goes o (by omega) gl.af (λ_=>v) aL.o bA.o);have cn:n5<=16:=(by have:=V.o.ok v;omega);go_wp2_with fail;go_loopg [4] f (λk eX wx=>∃(b:Bool) (s:St) (vl:List Vr) (e1:Xv) (nn:Nat) (fd:Xm),eX=.bool b/\aa (VI S d w.heap.size (w.heap.size+1) 0 w0 wx (.string nx) (xI a9) (xI ((Q:Int)-((0:Nat):Int))) (xI ((n5:Int)-(Q:Int))) (.slice none 0 0) s vl e1 nn fd)/\aa (b=true->nn<=16/\en k (MN s vl)=C/\1201-s.t.a<k)/\aa (b=false->(s,vl)=C));case atStart=>exact⟨true,j.1.ad,j.2,eZ,n5,e5,rfl,dp,λ_=>⟨cn,cK.o.symm,by omega⟩,λh=>by cases h⟩
    case round =>
     obtain⟨b,s,vl,e1,nn,fd,rfl,u,dl,be⟩:=hrel;cases b with
     | false => have dk:=za (be.o rfl);go_wp2_with fail;go_meet;rw[<- dk.o];exact⟨_,_,_,u⟩
     | true =>
       obtain⟨gz,a,ar⟩:=dl.o rfl;have da:=za (Hk S d w.heap.size (w.heap.size+1) 0 w0 wr _ _ _ _ _ s vl e1 nn fd (by omega) o (by omega) (by omega) u.o);have cm:=mn (ak:=vl) u.o.af;have ft:=za cm;have aV:=za (λv eQ=>yB (ak:=vl) u.o.af v eQ);generalize hy:MN s vl=y at *;have a0:=za a;have P:=za ar;have c2:=za cm.1;go_wp2_with fail;refine da.o.mono ?_;rintro e w8 ⟨rfl,e0,e7,bq⟩;obtain⟨h0,h1,h2,h3,h4,h5,h6⟩:=bq.pl.cells;have fh:=bq.pl.lt;have a1:=za bq;go_wp2_with fail;obtain⟨g,rfl⟩:∃g,gk=g+1:=⟨gk-1,by have:=P.o;omega⟩;go_roundg g;case measure=>omega
       have ct:en (g+1) y=if y.1.er=0/\y.1.t.k=2 then en g (MN y.1 y.2) else y:=rfl;have a:=a0.o;rw[ct] at a;refine⟨(y.1.t.k==2),y.1,y.2,e0,nn+1,e7,by rw[rz],a1,λem=>?_,λem=>?_⟩
       . have ab:y.1.t.k=2:=(by simpa using em);have v:y.1.er=0:=a1.o.af.bd.er (by rw[ab];decide);rw[ag ⟨v,ab⟩] at a;have hw:=a1.o.ok v;have g2:=aV.o (c2.o.back v) v;have g4:=P.o;have k4:=a1.o.af.ok.bR;have g6:=u.o.af.ok.bR;exact⟨by omega,a,by omega⟩
       have ab:¬y.1.t.k=2:=(by simpa using em);rw[ae (λh=>ab h.2)] at a;exact a
 case rest =>
  obtain⟨F,n,D,T⟩:=hcut;have g0:=T.o.fr.size;have a6:=za (zP S d C.1 ⟨#[123]⟩ _ Li _ c.i6.bd T.o.pl);rw[fo T.o.pl.tx (by decide)] at a6;go_wp2_with fail;refine a6.o.mono ?_;rintro e w9 ⟨rfl,ek,L⟩;have gZ:=L.size;have dP:EI S d w.heap.size (w.heap.size+1) 0 w w9 (.string nx) (xI a9) F (xI ((Q:Int)-((0:Nat):Int))) (xI ((n5:Int)-(Q:Int))) n D (C.1.ac 4 [123]) [] (.slice none 0 0) 0 []:=by refine⟨c.i7,c.o7,ek,(L.block _ (by omega) (by omega)).trans T.o.aC,zi T.o.own (λk h1 h2 _=>L.block k h2 (by omega)),(λk _ h=>by cases h),World.ownsRow_nil _ _ _ _,λ_=>⟨rfl,rfl⟩,?_⟩;have h1:Fr (·=d) w w0:=(by rw[<- ca];exact (Fr.refl _ w).alloc _);exact (h1.dr T.o.fr (λi hi h=>by omega)).trans L
  have cO:=za dP;have b2:=za T.o.ok;have fr:aa (bS r z f (zF r z (C.1.ac 4 [123]) [])=R):=by unfold aa;rw[M.h8,M.hR]
  go_wp2_with fail;go_loopg [5] f (λk eX wx=>∃(b:Bool) (s:St) (t:List ax) (ev:Xv) (m:Nat) (cz:Xm),eX=.bool b/\aa (EI S d w.heap.size (w.heap.size+1) 0 w wx (.string nx) (xI a9) F (xI ((Q:Int)-((0:Nat):Int))) (xI ((n5:Int)-(Q:Int))) n D s t ev m cz)/\m+k<=f/\aa (w0.heap.size<=wx.heap.size)/\aa (b=true->bS r z k (zF r z s t)=R/\1201-s.t.a<k)/\aa (b=false->(s,t)=R));case atStart=>exact⟨true,_,[],.slice none 0 0,0,[],rfl,cO,by omega,by unfold aa;omega,λ_=>⟨fr.o,by omega⟩,λh=>by cases h⟩
  case round =>
   obtain⟨b,s,t,ev,m,cz,rfl,u,gw,dH,dl,be⟩:=hrel;cases b with
   | false => have dk:=za (be.o rfl);have cB:EI S d w.heap.size (w.heap.size+1) 0 w wr (.string nx) (xI a9) F (xI ((Q:Int)-((0:Nat):Int))) (xI ((n5:Int)-(Q:Int))) n D R.1 R.2 ev m cz:=(by rw[<- dk.o];exact u.o);have bb:=za cB;have bx:=za (zP S d R.1 ⟨#[125]⟩ _ Ll wr cB.af.bd cB.pl);rw[fo cB.pl.tx (by decide)] at bx;go_wp2_with fail;refine bx.o.mono ?_;rintro e he ⟨rfl,ck,ce⟩;have x:=za (bb.o.goes o (by omega) (ai.ac bb.o.af 4 [125]).af (by rw[St.a8];exact bb.o.op) (St.bi _ _ _) (λv=>eJ v) ck ce);go_wp2_with fail;go_ret;refine⟨w.heap.size,rfl,an _,x.o.pl,x.o.fr,?_⟩;intro v;obtain⟨fC,hm,fD,fP,fS⟩:=Iy W X c M (eJ v);obtain⟨I,ga⟩:=di (lm fC);obtain⟨d1,d2,d3⟩:=b2.o fS;obtain⟨gd,ge⟩:=x.o.ok v;have f3:=(du.o fD).1;have f5:=(dw.o fP).1;have f35:=Io false (A.1.ac 4 [45,62]) A.2;rw[M.h5] at f35;have cl:=x.o.aC;subst I ga d1 d3 gd;have g3:((Q:Int)-((0:Nat):Int))=((A.2.length:Nat):Int):=(by omega);have g5:((n5:Int)-(Q:Int))=((j.2.length-A.2.length:Nat):Int):=(by omega);rw[g3,g5] at cl;exact⟨F,ev,cz,cl,zR x.o.bZ (by omega),d2,zR x.o.own (by omega),ge.BQ (by omega)⟩
   | true =>
     obtain⟨a,ar⟩:=dl.o rfl;have g1:=dH.o;have fj:=u.o.pl.lt;have bL:=za (λw1 h=>HO fA fu W X S d 0 s w1 u.o.af u.o.op h);have ex:=gD W X (eqs:=t) u.o.af u.o.op;have aA:=za ex;have aV:=za (λv eQ=>xL W X (eqs:=t) u.o.af u.o.op v eQ);obtain⟨y,hy⟩:∃y,zF r z s t=y:=⟨_,rfl⟩;obtain⟨q,fk⟩:∃q,lr r z s=q:=⟨_,rfl⟩;have eR:(zF r z s []).1=y.1:=(by rw[<- Ht r z s t,hy]);have dz:y.2=t++[q]:=(by rw[<- hy,He,fk]);rw[eR,fk] at bL;rw[hy] at a aA aV;have a0:=za a;have P:=za ar;obtain⟨q0,eY,q2,q3,q4,q5,qf,cE⟩:=zt u.o.aC;obtain⟨i0,hi,eE,eF,eG⟩:=info_parts Tryz.AF;have mx:m+1<=maxLen:=(by unfold maxLen;omega);have dL:(m+1)*40<=140737488355328:=(by omega);go_upto_block 3 with fail;go_cut [] (λwy=>∃dM e3,aa (EI S d w.heap.size (w.heap.size+1) 0 w wy (.string nx) (xI a9) F (xI ((Q:Int)-((0:Nat):Int))) (xI ((n5:Int)-(Q:Int))) n D y.1 y.2 dM (m+1) e3)/\aa (w0.heap.size<=wy.heap.size));case first =>
      go_wp2_with fail;go_region_law (first|(refine kD rfl 155 (.tmp 59) 172 rfl Hp (xP d) rfl (bL.o _ u.o.pl.drew) ?_;rintro e w2 ⟨hx,g7,hh,g8,fB,rfl,⟨hf,gc,rfl⟩,bg,ds,co,cg⟩;refine⟨_,rfl,?_⟩;have O:Fr (·=d) wr w2:=cg.cQ;have fl:=O.size;have Y:=(O.block w.heap.size cE (by omega)).trans u.o.aC;obtain⟨f0,f1,f2,f3,f4,f5,hu,gm⟩:=zt Y;have U:=za (zi u.o.own (λk h1 h2 _=>O.block k h2 (by omega)));have b4:=za co.out;have eW:w.heap.size+1<=w2.heap.size+1:=(by omega))|(refine zJ _ rfl (.tmp 58) (.tmp 61) 119 rfl (w.heap.size+1) 184 i0 _ 3 40 underlying119 hi eE eF eG rfl (by decide) ev m cz rfl (zD U.o _) (xD w2.heap.size 0) 1 1 [.slice hf g7 gc,xI g8,.pointer fB] rfl rfl (zN (zc w2 _) rfl) K9 mx dL (by simpa using eW) ?_;intro v' w9 Z bs bl;obtain⟨hv,ff,rfl,gt⟩:=zM Z (by omega);have L:=Fr.gi bs;have er:w9.heap[w.heap.size]?=w2.heap[w.heap.size]?:=((L.block w.heap.size (by rw[au];omega) (λh=>by have:=(U.o.lt _ h).1;omega)).trans (Below.heap_alloc _ _ _ gm));have b3:=za (er.trans Y);obtain⟨m0,m1,m2,m3,m4,m5,hz,hB⟩:=zt b3.o;have c9:=za (PL.fr (bg.alloc _) L (λk ab=>by have:=(U.o.lt k ab).1;omega));have cv:=L.size;rw[au] at cv));all_goals go_wp2_with fail
      all_goals go_meet
      all_goals exact⟨_,_,(by unfold aa;rw[dz];exact Km u.o o (by omega) (by omega) (by omega) aA.o.1 (aA.o.2.trans u.o.op) O ds b4.o c9.o L b3.o Z bl),(by unfold aa;simp[World.setCell];omega)⟩
     case rest =>
      obtain⟨cd,cA,N,cb⟩:=hcut;have a3:=za N.o.af.bd;obtain⟨h0,h1,h2,h3,h4,h5,h6⟩:=N.o.pl.cells;have fg:=N.o.pl.lt;obtain⟨g,rfl⟩:∃g,gk=g+1:=⟨gk-1,by have:=P.o;omega⟩;have bv:=za (fH S d y.1 ⟨#[40]⟩ _ j7 wc a3.o.ok.tk N.o.pl);rw[fm N.o.pl.tx (by decide)] at bv;have bB:aa ((y.1.t.k=2∨y.1.is 4 [40]=true)->bS r z g (zF r z y.1 y.2)=R/\1201-y.1.t.a<g):=λhc=>by
       have a:=a0.o;rw[show bS r z (g+1) y=if y.1.t.k=2∨y.1.is 4 [40]=true then bS r z g (zF r z y.1 y.2) else y from rfl,ag hc] at a;have v:y.1.er=0:=a3.o.er (by
        rcases hc with h|h
        . rw[h];decide
        rw[Inv.bP h];decide)
       have g2:=aV.o (aA.o.1.back v) v;have g4:=P.o;have k4:=N.o.af.ok.bR;have g6:=u.o.af.ok.bR;exact⟨a,by omega⟩
      have dc:aa (¬(y.1.t.k=2∨y.1.is 4 [40]=true)->(y.1,y.2)=R):=λhc=>by have a:=a0.o;rw[show bS r z (g+1) y=if y.1.t.k=2∨y.1.is 4 [40]=true then bS r z g (zF r z y.1 y.2) else y from rfl,ae hc] at a;exact a
      cases ab:(y.1.t.k==2) with
      | true =>
        have es:=(rz y.1.t).trans ab;go_wp2_with fail;go_roundg g;case measure=>omega
        have bt:y.1.t.k=2:=(by simpa using ab);exact⟨true,y.1,y.2,cd,m+1,cA,by simp,N,by omega,cb,λ_=>bB.o (.inl bt),λh=>by cases h⟩
      | false =>
        have es:=(rz y.1.t).trans ab;go_wp2_with (go_at_call 85;refine bv.o.mono ?_;rintro e w' ⟨rfl,rfl⟩);go_roundg g;case measure=>omega
        have bt:¬y.1.t.k=2:=(by simpa using ab);refine⟨y.1.is 4 [40],y.1,y.2,cd,m+1,cA,by simp,N,by omega,cb,λh=>bB.o (.inr h),λh=>dc.o ?_⟩;rintro (h'|h')
        . exact bt h'
        rw[h] at h';cases h'
end
section
open Go.RowKit
variable {c d:Fn} {L:List Ex} {l:List Vr} {B j:Nat} {b:Nd} {m v:Xv} {p:Vr->Bool} {w g:Xw}
def jn (L:List Ex)(w:Xw)(B:Nat):List ax->List Value->Prop
 | [],e=>e=[]
 | q::i,e=>∃f a h,e=f::(xI q.a)::.pointer a::h/\EQ L q f a w B/\jn L w B i h
theorem fI.now:∀{e:List ax} {f:Xm},fI B w m L e f->jn L w B e f:=by
 intro e;induction e with
 | nil=>intro f h;exact h
 | cons q e o => rintro f ⟨r,a,s,i,k,n⟩;exact⟨r,a,s,i,Kz k,o n⟩
theorem jn.kept (r:∀k,B<=k->k<w.heap.size->g.heap[k]?=w.heap[k]?):∀{e:List ax} {f:Xm},jn L w B e f->jn L g B e f:=by
 intro e;induction e with
 | nil=>intro f h;exact h
 | cons q e s => rintro f ⟨t,a,u,i,n,o⟩;exact⟨t,a,u,i,n.kept r,s o⟩
theorem jn.down (o:j<=B):∀{e:List ax} {f:Xm},jn L w B e f->jn L w j e f:=by
 intro e;induction e with
 | nil=>intro f h;exact h
 | cons q e r => rintro f ⟨s,a,t,i,k,n⟩;exact⟨s,a,t,i,k.down o,r n⟩
def Nd.ah (b:Nd):Nat:=(b.ak.filter (·.bn)).length
def Nd.aG (b:Nd):Nat:=(b.ak.filter (·.out)).length
theorem o6 (i o:Bool)(e:St)(a:List Vr):∃E,(zx i o e a).2=a++E/\∀v∈E,v.bn=i/\v.out=o:=by
 unfold zx;split
 . exact⟨[],by simp,by simp⟩
 simp only;split
 . exact⟨_,rfl,by simp⟩
 exact⟨_,rfl,by simp⟩
theorem Ip (i:Bool):∀(f:Nat) (x:St×List Vr),∃E,(MG i f x).2=x.2++E/\∀v∈E,v.bn=i/\v.out=!i:=by
 intro f;induction f with
 | zero=>intro x;exact⟨[],by simp[MG],by simp⟩
 | succ f r =>
   intro x;rw[show MG i (f+1) x=if x.1.er=0/\x.1.is 4 [44]=true then MG i f (zx i (!i) x.1.ad x.2) else x from rfl];split
   . obtain⟨E,e,k⟩:=o6 i (!i) x.1.ad x.2;obtain⟨a,n,o⟩:=r (zx i (!i) x.1.ad x.2);refine⟨E++a,by rw[n,e,bw],λv q=>?_⟩;rcases bj.1 q with h|h
     . exact k v h
     exact o v h
   exact⟨[],by simp,by simp⟩
theorem xW (i:Bool)(e:St)(a:List Vr):∃E,(bW i e a).2=a++E/\∀v∈E,v.bn=i/\v.out=!i:=by
 obtain⟨f,s⟩:∃f,f=1300:=⟨_,rfl⟩;rw[zip s];obtain⟨E,n,o⟩:=o6 i (!i) (e.ac 4 [40]) a;obtain⟨k,q,r⟩:=Ip i f (zx i (!i) (e.ac 4 [40]) a);refine⟨E++k,by simp only;rw[q,n,bw],λv t=>?_⟩;rcases bj.1 t with h|h
 . exact o v h
 exact r v h
theorem Il:∀(f:Nat) (x:St×List Vr),∃E,(en f x).2=x.2++E/\∀v∈E,v.bn=false/\v.out=false:=by
 intro f;induction f with
 | zero=>intro x;exact⟨[],by simp[en],by simp⟩
 | succ f q =>
   intro x;rw[show en (f+1) x=if x.1.er=0/\x.1.t.k=2 then en f (MN x.1 x.2) else x from rfl];split
   . obtain⟨E,e,i⟩:=o6 false false x.1 x.2;obtain⟨a,k,n⟩:=q (MN x.1 x.2);refine⟨E++a,by rw[k,show (MN x.1 x.2).2=(zx false false x.1 x.2).2 from rfl,e,bw],λv o=>?_⟩;rcases bj.1 o with h|h
     . exact i v h
     exact n v h
   exact⟨[],by simp,by simp⟩
theorem Kb (f:Nat)(e:St)(a:List Vr):∃E,(bD f e a).2=a++E/\∀v∈E,v.bn=false/\v.out=false:=by
 unfold bD;split
 . obtain⟨E,k,n⟩:=o6 false false e.ad a;obtain⟨i,o,q⟩:=Il f (MN e.ad a);refine⟨E++i,by rw[o,show (MN e.ad a).2=(zx false false e.ad a).2 from rfl,k,bw],λv r=>?_⟩;rcases bj.1 r with h|h
   . exact n v h
   exact q v h
 exact⟨[],by simp,by simp⟩
theorem xp (h:∀v∈l,p v=true):(l.filter p).length=l.length:=by rw[List.filter_eq_self.2 h]
theorem pd (h:∀v∈l,p v=false):(l.filter p).length=0:=by rw[List.filter_eq_nil_iff.2 (λv a=>by rw[h v a];simp)];rfl
theorem IF {f:Nat}{u:St}{e i n:St×List Vr}{y R:St×List ax}(h:my c d f u e i n y R):(n.2.filter (·.bn)).length=e.2.length/\(n.2.filter (·.out)).length=i.2.length-e.2.length:=by obtain⟨z,k,r⟩:=xW true (u.aw.ac 5 zW).name [];obtain⟨x,o,s⟩:=xW false (e.1.ac 4 [45,62]) e.2;obtain⟨A,q,t⟩:=Kb f i.1 i.2;rw[h.h3] at k;rw[h.h5] at o;rw[h.h6] at q;simp only[List.nil_append] at k;rw[q,o,k];simp only[List.filter_append,aP];rw[xp (λv a=>(r v a).1),pd (λv a=>(s v a).1),pd (λv a=>(t v a).1),pd (λv a=>(r v a).2),xp (l:=x) (λv a=>(s v a).2),pd (λv a=>(t v a).2)];omega
structure z6 (b:Nd) (w:Xw) (B nb:Nat) (vs ev:Xv) (xs:Xm):Prop where
 aC:xH w nb #[.string b.nm,xI b.a,vs,xI b.ah,xI b.aG,ev] 121
 lo:B<=nb
 bZ:w.ownsRow B 134 7 vs b.ak.length (eT b.ak)
 bO:b.ak.length<=16
 own:w.ownsRow B 184 3 ev b.eqs.length xs
 eqs:jn b.az w B b.eqs xs
def ND (b:Nd)(v:Xv)(w:Xw)(B:Nat):Prop:=∃a f e h,v=xP a/\z6 b w B a f e h
theorem ND.kept (h:ND b v w B)(a:∀k,B<=k->k<w.heap.size->g.heap[k]?=w.heap[k]?):ND b v g B:=by obtain⟨i,q,n,r,o,h⟩:=h;exact⟨i,q,n,r,o,(a i h.lo (ze h.aC)).trans h.aC,h.lo,zi h.bZ (λk e f _=>a k e f),h.bO,zi h.own (λk e f _=>a k e f),h.eqs.kept a⟩
theorem ND.down (h:ND b v w B)(a:j<=B):ND b v w j:=by obtain⟨i,k,e,n,f,h⟩:=h;exact⟨i,k,e,n,f,h.aC,aJ a h.lo,zR h.bZ a,h.bO,zR h.own a,h.eqs.down a⟩
theorem KP {wr:Xw}(h:hE B wr m (ND b v)):ND b v wr B:=by obtain⟨k,i,a,e,f,_,_⟩:=h;exact (e.kept f).down a
theorem IU (O:zX 18 190 d)(M:ig 18 c)(t:zv 17 c)(u:zv 18 d)(S:Xs)(k p f:Nat)(y:1202<f)(z:f<=5000)(h:St)(w:Xw)(K:Inv p h)(Q:h.op=0)(N:PL S w k h) :
 xK 86 #[xP k] w (λe g=>∃a:Addr,e=.returned (.pointer (some a))/\PL S g k (a7 c d f h).1/\Fr (·=k) w g/\aa ((a7 c d f h).1.er=0->ND (a7 c d f h).2 (.pointer (some a)) g w.heap.size)):=by
 obtain⟨n,q⟩:∃n,bW true (h.aw.ac 5 zW).name []=n:=⟨_,rfl⟩;obtain⟨o,A⟩:∃o,bW false (n.1.ac 4 [45,62]) n.2=o:=⟨_,rfl⟩;obtain⟨r,C⟩:∃r,bD f o.1 o.2=r:=⟨_,rfl⟩;obtain⟨s,D⟩:∃s,zF c d (r.1.ac 4 [123]) []=s:=⟨_,rfl⟩;obtain⟨R,i⟩:∃R,bS c d f s=R:=⟨_,rfl⟩;have x:my c d f h n o r s R:=⟨q,A,C,D,i⟩;clear q A C D i;have E:=IF x;rw[Jn x];refine (J0 O M t u S k p f y z h w K Q N x).mono ?_;rintro e g ⟨F,rfl,H,I,q,J⟩;refine⟨(xD F 0),rfl,I,q,λP=>?_⟩;obtain⟨Y,G,Z,T,U,V,W,X⟩:=J.out P;refine⟨F,Y,G,Z,rfl,?_,H,U,V,W,X.now⟩;dsimp only[Nd.ah,Nd.aG];rw[E.1,E.2];exact T
end
section
open Go.RowKit
variable {c d:Fn} {B:Nat} {q:Nd} {j:Xv} {w wr:Xw}
def ie (B:Nat)(wr:Xw)(j:Xv):List Nd->List Value->Prop
 | [],a=>a=[]
 | q::e,a=>∃v b,a=v::b/\hE B wr j (ND q v)/\ie B wr j e b
theorem ie.next {e:Xw}{av':Xv}{T:Xj}(o:Fr T wr e)(m:∀k,T k->k<B∨j.ownBlock=some k)(n:∀k,av'.ownBlock=some k->j.ownBlock=some k∨wr.heap.size<=k) :
 ∀(a:List Nd) (b:Xm),ie B wr j a b->ie B e av' a b:=by
 intro a;induction a with
 | nil=>intro b h;exact h
 | cons q a p => rintro b ⟨v,f,g,i,l⟩;exact⟨v,f,g,i.next o m n,p f l⟩
theorem ie.snoc {v:Xv}(e:hE B wr j (ND q v)):∀(a:List Nd) (b:Xm),ie B wr j a b->ie B wr j (a++[q]) (b++[v]):=by
 intro a;induction a with
 | nil=>rintro b rfl;exact⟨v,[],rfl,e,rfl⟩
 | cons l a h => rintro b ⟨i,k,rfl,g,f⟩;exact⟨i,_,rfl,g,h k f⟩
structure GI (S:Xs) (pb gb B:Nat) (w wr:Xw) (s:St) (nds:List Nd) (gv:Xv) (m:Nat) (xs:Xm):Prop where
 af:∃p,Inv p s
 op:s.op=0
 pl:PL S wr pb s
 aC:xH wr gb #[gv] 89
 own:wr.ownsRow B 90 1 gv m xs
 ok:s.er=0->m=nds.length/\ie B wr gv nds xs
 fr:Fr (·=pb) w wr
theorem KV {S:Xs}{n b:Nat}{f x:Xw}{s u:St}{z:List Nd}{o v:Xv}{m:Nat}{K:Xm}{a:Xp}{X:Obj}
 (h:GI S n b B w wr s z o m K) (H:n<b) (Q:b<B) (J:w.heap.size<=b) (A:B<=wr.heap.size) (M:∃p,Inv p u) (F:u.er=0->s.er=0) (T:u.op=0)
 (r:Fr (·=n) wr f) (I:u.er=0->ND q (.pointer a) f wr.heap.size)
 (E:PL S x n u) (e:Fr (λk=>o.ownBlock=some k) (f.alloc X) x) (G:x.heap[b]?=some (.cells #[o] 89 (0,0)))
 (y:x.ownsRow B 90 1 v (m+1) (K++[.pointer a])) (l:∀k,v.ownBlock=some k->o.ownBlock=some k∨(f.alloc X).heap.size<=k) :
 GI S n b B w (x.setCell (xD b 0) v) u (z++[q]) v (m+1) (K++[.pointer a]):=by
 have t:∀k,o.ownBlock=some k->B<=k/\k<wr.heap.size:=λk hk=>h.own.lt k hk;have V:=r.size;have W:=e.size;have Y:(f.alloc X).heap.size=f.heap.size+1:=by simp
 have D:Fr (λk=>k=n∨k=b∨o.ownBlock=some k) wr (x.setCell (xD b 0) v):=by have h1:Fr (λk=>k=n∨k=b∨o.ownBlock=some k) wr (f.alloc X):=(r.mono (λ_ _ h=>ao h)).alloc X;exact (h1.dr e (λ_ _ h=>ap (ap h))).setCell (ao (ap (ao rfl))) _
 refine⟨M,T,E.aU H _ _,zh _ _ _ _ G,zi y (λk h1 _ _=>zr (by omega) rfl),?_,?_⟩
 . intro L;obtain⟨N,O⟩:=h.ok (F L);refine⟨by simp[N],?_⟩;have C:=ie.next (av':=v) D (λk hk=>by
    rcases hk with hk|hk|hk
    . left;omega
    . left;omega
    . exact ap hk) (λk hk=>by
    rcases l k hk with h1|h1
    . exact ao h1
    right;omega) _ _ O
   refine ie.snoc ?_ _ _ C;refine⟨f,wr.heap.size,A,I L,λk h1 P=>?_,λg R=>?_,?_⟩
   . exact zr (by omega) ((e.block k (by omega) (λh=>by have:=(t k h).2;omega)).trans (Below.heap_alloc _ _ _ P))
   . rcases l g R with h|h
     . left;exact (t g h).2
     right;omega
   simp[World.setCell];omega
 have h1:Fr (·=n) w (f.alloc X):=(h.fr.trans r).alloc X;exact (h1.dr e (λi M U=>by have:=(t i U).1;omega)).aO J _ _
theorem IJ (t:Tk):(((ck t:Nat):Int) != 1)=!(t.k==0):=by
 by_cases h:t.k=0
 . simp[ck,h]
 have:ck t≠1:=by unfold ck;(repeat' split) <;> first|decide|(exfalso;omega)
 have a:(t.k==0)=false:=by simp[h]
 rw[a];simp;omega
theorem JJ (a:zv 17 c)(b:zv 18 d){f p:Nat}{e:St}(g:Inv p e)(i:e.op=0)(l:(a7 c d f e).1.er=0):e.er=0:=by
 have k:=(px a b (f:=f) (nodes:=[]) g i (by simp)).1.er;by_cases h:e.er=0
 . exact h
 exact absurd (k.symm.trans l) ((RW a b (f:=f) (nodes:=[]) g i).2.2.2 h)
theorem KS:zH 86:=λ_ _=>by kernel_rfl
theorem Tryz.AJ:(prog.info? 90).map (λi=>(i.zero,i.size,i.bytes))=some (some (.pointer none),1,8):=by kernel_rfl
def lq (w:Xw)(B:Nat):List Nd->List Value->Prop
 | [],a=>a=[]
 | q::e,a=>∃v b,a=v::b/\ND q v w B/\lq w B e b
theorem ie.now:∀{a:List Nd} {b:Xm},ie B w j a b->lq w B a b:=by
 intro a;induction a with
 | nil=>intro b h;exact h
 | cons q a i => rintro b ⟨v,k,e,f,g⟩;exact⟨v,k,e,KP f,i g⟩
theorem lq.down {e:Nat}(k:e<=B):∀{a:List Nd} {b:Xm},lq w B a b->lq w e a b:=by
 intro a;induction a with
 | nil=>intro b h;exact h
 | cons q a l => rintro b ⟨v,m,f,g,i⟩;exact⟨v,m,f,g.down k,l i⟩
def PG (a:List Nd)(v:Xv)(w:Xw)(B:Nat):Prop:=∃b e f,v=xP b/\B<=b/\w.heap[b]?=some (.cells #[e] 89 (0,0))/\w.ownsRow B 90 1 e a.length f/\lq w B a f
theorem H7 (ck:zX 18 190 d)(ce:ig 18 c)(I:zv 17 c)(J:zv 18 d)(S:Xs)(t p f:Nat)(bB:1202<f)(bC:f<=5000)(Q:St)(w:Xw)(co:Inv p Q)(cv:Q.op=0)(hR:PL S w t Q){R:St×List Nd}(bx:Mq c d f f ((a7 c d f Q).1,[]++[(a7 c d f Q).2])=R) :
 xK 44 #[xP t] w (λe w'=>∃a:Addr,e=.returned (.pointer (some a))/\PL S w' t (cW R.1)/\Fr (·=t) w w'/\aa ((cW R.1).er=0->PG R.2 (.pointer (some a)) w' w.heap.size)):=by
 have b0:=hR.lt;have bl:=za bx
 have bv:GI S t w.heap.size (w.heap.size+1) w (w.alloc (.cells #[.slice none 0 0] 89)) Q [] (.slice none 0 0) 0 [] :=
  ⟨⟨p,co⟩,cv,hR.alloc _,zc w _,World.ownsRow_nil _ _ _ _,λ_=>⟨rfl,rfl⟩,(Fr.refl _ w).alloc _⟩
 have a6:=za bv;go_enter func44,ntmps44;go_wp2_with fail;go_loopg [4] f (λk cB wx=>∃(b:Bool) (s:St) (i:List Nd) (Z:Xv) (m:Nat) (xs:Xm),cB=.bool b/\aa (GI S t w.heap.size (w.heap.size+1) w wx s i Z m xs)/\aa (w.heap.size+1<=wx.heap.size)/\aa (b=true->m<=5/\Mq c d f k ((a7 c d f s).1,i++[(a7 c d f s).2])=R/\1201-s.t.a<k)/\aa (b=false->(s,i)=R));case atStart=>exact⟨true,Q,[],.slice none 0 0,0,[],rfl,a6,by unfold aa;simp,λ_=>⟨by omega,bl.o,by omega⟩,λh=>by cases h⟩
 case round =>
  obtain⟨b,s,i,Z,m,xs,rfl,u,bq,ch,a5⟩:=hrel;cases b with
  | false =>
    have cg:=za (a5.o rfl);have l:GI S t w.heap.size (w.heap.size+1) w wr R.1 R.2 Z m xs:=(by rw[<- cg.o];exact u.o);obtain⟨h0,h1,h2,h3,h4,h5,N⟩:=l.pl.cells;have aL:=l.pl.lt;have ca:wr.cell? (xD 8 0)=some (.iface 324 (.pointer (some (S 2)))):=l.pl.gl.e6;have aA:=IJ R.1.t;cases T:(R.1.t.k==0) with
    | true => rw[T] at aA;go_wp2_with fail;go_ret;have C:cW R.1=R.1:=(by unfold cW;rw[ag (by simpa using T)]);rw[C];refine⟨(xD w.heap.size 0),rfl,l.pl,l.fr,λO=>?_⟩;obtain⟨e1,cn⟩:=l.ok O;subst e1;exact⟨w.heap.size,Z,xs,rfl,an _,l.aC,zR l.own (by omega),cn.now.down (by omega)⟩
    | false => rw[T] at aA;go_wp2_with fail;refine (li S t R.1 2 (by decide) wr l.pl).mono ?_;rintro e w5 ⟨rfl,bb,a4⟩;go_wp2_with fail;go_ret;have C:cW R.1=R.1.fail 2 R.1.t.a:=(by unfold cW;rw[ae (by simpa using T)]);rw[C];exact⟨(xD w.heap.size 0),rfl,bb,l.fr.trans a4,λO=>absurd O (St.cy _ (by decide))⟩
  | true =>
    obtain⟨ct,o,a0⟩:=ch.o rfl;have cz:=bq.o;have aL:=u.o.pl.lt;obtain⟨cK,F⟩:=u.o.af;have V:=za (λw1 h=>IU ck ce I J S t cK f bB bC s w1 F u.o.op h);obtain⟨_,_,n3,n4,n5⟩:=px I J (f:=f) (nodes:=[]) F u.o.op (by simp);have K:=za (λC=>JJ I J (f:=f) F u.o.op C);obtain⟨y,hy⟩:∃y,a7 c d f s=y:=⟨_,rfl⟩;rw[hy] at V n3 n4 n5 K o;have bk:=za o;have H:=za a0;have L:=za n3;have bo:=za n4;have bp:=za n5;obtain⟨q0,qf,cO⟩:=zu u.o.aC;obtain⟨i0,hi,bK,bL,bY⟩:=info_parts Tryz.AJ;have mx:m+1<=maxLen:=(by unfold maxLen;omega);have bs:(m+1)*8<=140737488355328:=(by omega);go_upto_block 1 with fail;go_cut [] (λwy=>∃bt b3,aa (GI S t w.heap.size (w.heap.size+1) w wy y.1 (i++[y.2]) bt (m+1) b3)/\aa (w.heap.size+1<=wy.heap.size));case first =>
     go_wp2_with fail;go_region_law (first|(refine kD rfl 86 (.tmp 23) 172 rfl KS (xP t) rfl (V.o _ u.o.pl.drew) ?_;rintro e w2 ⟨cl,rfl,a9,ar,aV⟩;refine⟨_,rfl,?_⟩;have D:Fr (·=t) wr w2:=ar.cQ;have cb:=D.size;have z:=(D.block w.heap.size cO (by omega)).trans u.o.aC;obtain⟨f0,ff,fz⟩:=zu z;have r:=za (zi u.o.own (λk h1 h2 _=>D.block k h2 (by omega)));have X:=za aV.out;have b1:w.heap.size+1<=w2.heap.size+1:=(by omega))|(refine zJ _ rfl (.tmp 22) (.tmp 25) 87 rfl (w.heap.size+1) 90 i0 _ 1 8 underlying87 hi bK bL bY rfl (by decide) Z m xs rfl (zD r.o _) (xD w2.heap.size 0) 1 1 [.pointer (some cl)] rfl rfl (zN (zc w2 _) rfl) yv mx bs (by simpa using b1) ?_;intro v' w9 A P M;obtain⟨g9,b4,rfl,cs⟩:=zM A (by omega);have E:=Fr.gi P;have bA:w9.heap[w.heap.size]?=w2.heap[w.heap.size]?:=((E.block w.heap.size (by rw[au];omega) (λh=>by have:=(r.o.lt _ h).1;omega)).trans (Below.heap_alloc _ _ _ fz));have W:=za (bA.trans z);obtain⟨m0,cA,cE⟩:=zu W.o;have be:=za (PL.fr (a9.alloc _) E (λk T=>by have:=(r.o.lt k T).1;omega));have a2:=E.size;rw[au] at a2));all_goals go_wp2_with fail
     all_goals go_meet
     all_goals exact⟨_,_,KV u.o b0 (by omega) (by omega) (by omega) ⟨0,L.o⟩ K.o bo.o D X.o be.o E W.o A M,(by unfold aa;simp[World.setCell];omega)⟩
    case rest =>
     obtain⟨ab,a3,n,Y⟩:=hcut;have x:=za L.o.bd;obtain⟨x2,cm,bE⟩:=kE n.o.own;have z:=n.o.aC;rw[bE] at z;obtain⟨m0,cA,cE⟩:=zu z;obtain⟨g,rfl⟩:∃g,gk=g+1:=⟨gk-1,by have:=H.o;omega⟩;have v:=za (fH S t y.1 ⟨#[110,111,100,101]⟩ _ yC wc x.o.ok.tk n.o.pl);rw[MH n.o.pl.tx (by decide)] at v;have a1:Mq c d f (g+1) (y.1,i++[y.2])=if y.1.is 5 zW=true/\(i++[y.2]).length<6 then Mq c d f g ((a7 c d f y.1).1,(i++[y.2])++[(a7 c d f y.1).2]) else (y.1,i++[y.2]):=rfl;have o:=bk.o;rw[a1] at o;have bg:aa (y.1.is 5 zW=true->m+1<6->Mq c d f g ((a7 c d f y.1).1,(i++[y.2])++[(a7 c d f y.1).2])=R/\1201-y.1.t.a<g):=λG cR=>by have C:y.1.er=0:=x.o.er (by rw[Inv.bP G];decide);have b2:=(n.o.ok C).1;rw[ag ⟨G,by omega⟩] at o;have cd:=bp.o (K.o C) C;have c0:=H.o;have k4:=L.o.ok.bR;have c3:=F.ok.bR;exact⟨o,by omega⟩
     have U:aa (¬(y.1.is 5 zW=true/\m+1<6)->(y.1,i++[y.2])=R):=λG=>by
      rw[ae] at o
      . exact o
      rintro⟨c1,c2⟩;have C:y.1.er=0:=x.o.er (by rw[Inv.bP c1];decide);have b2:=(n.o.ok C).1;exact G ⟨c1,by omega⟩
     cases G:y.1.is 5 zW with
     | false =>
       rw[G] at v;go_wp2_with (go_at_call 85;refine v.o.mono ?_;rintro e w' ⟨rfl,rfl⟩);go_roundg g;case measure=>omega
       exact⟨false,y.1,i++[y.2],ab,m+1,a3,rfl,n,Y,λh=>(by cases h),λ_=>U.o (λh=>by rw[G] at h;cases h.1)⟩
     | true =>
       rw[G] at v;go_wp2_with (go_at_call 85;refine v.o.mono ?_;rintro e w' ⟨rfl,rfl⟩);go_roundg g;case measure=>omega
       refine⟨decide (m+1<6),y.1,i++[y.2],ab,m+1,a3,?_,n,Y,λh=>?_,λh=>?_⟩
       . congr 1;by_cases N:m+1<6
         . rw[decide_eq_true N];exact decide_eq_true (by omega)
         rw[decide_eq_false N];exact decide_eq_false (by omega)
       . have N:m+1<6:=(by simpa using h);obtain⟨b2,cd⟩:=bg.o G N;exact⟨by omega,b2,cd⟩
       have N:¬m+1<6:=(by simpa using h);exact U.o (λh'=>N h'.2)
end
section
open Go.RowKit
def ew (p:Xb)(e:Xv):Value:=.iface 169 (.agg #[.string p,e])
theorem rm (p:Xb)(t:Xy)(v:Xv)(w:Xw):xK 41 #[.string p,.iface t v] w λe a=>e=.returned (ew p (.iface t v))/\w=a:=by go_enter func41,ntmps41;go_wp2_with fail;go_ret;exact⟨rfl,rfl⟩
def St.first (s:Xb):St:=⟨s,zZ s 0,0,0,0,[]⟩
theorem sk {s:Xb}(a:s.size<=1200):Inv 0 (St.first s):=by have h:=zV s 0 (aE _);refine⟨⟨a,h.2.2.1,h.2.1,h.2.2.2.1,by simp[St.first],by simp[St.first],by simp[St.first],h.2.2.2.2.1⟩,?_,?_,?_,?_,?_⟩;all_goals first|exact h.2.2.2.2.2|simp[St.first]
def iN:ByteArray:=⟨#[114,101,97,100,105,110,103]⟩
def Jr (S:Xs)(w:Xw)(r:St×List Nd)(e:Ending)(b:Xw):Prop :=
 (r.1.er≠0->e=.returned (.tuple #[.pointer none,ew iN (cJ S r.1.er r.1.at')])) /\
 (r.1.er=0->∃a:Addr,e=.returned (.tuple #[.pointer (some a),.nilIface])/\PG r.2 (.pointer (some a)) b w.heap.size)/\xB w b
theorem yG {b c:Fn}(U:zX 18 190 c)(P:ig 18 b)(x:zv 17 b)(y:zv 18 c)(S:Xs)(f:Nat)(C:1202<f)(D:f<=5000)(s:Xb)(w:Xw)(q:Gl S w)(K:s.size<=1200){R:St×List Nd}(B:dm b c f s=R) :
 xK 28 #[.string s] w (Jr S w R):=by
 have Y:=q.size;have u:=za (xJ S s 0 w K (aE _) q);obtain⟨Q,I⟩:∃Q,Mq b c f f ((a7 b c f (St.first s)).1,[]++[(a7 b c f (St.first s)).2])=Q:=⟨_,rfl⟩;have n:R=(cW Q.1,Q.2):=by rw[<- B,<- I];rfl
 have t:=za (λpb j h=>H7 U P x y S pb 0 f C D (St.first s) j (sk K) rfl h I);have W:¬(1200<(s.size:Int)):=by omega
 go_enter func28,ntmps28;go_wp2_with fail;refine u.o.mono ?_;rintro e j ⟨rfl,d⟩;have Z:=d.size;have z:PL S (j.alloc (lu S (St.first s))) j.heap.size (St.first s):=⟨yh s 0,zc j _,q.of (T:=λ_=>False) (Fr.alloc (Fr.Mo d) _) (λ_ h=>h.elim),by omega⟩;have m:=za z;unfold Tk.dX;have E:lu S (St.first s)=.cells #[.string s,xI (ck (zZ s 0)),.string (cs s (zZ s 0)),.int .i64 (zZ s 0).a,xI (cn (zZ s 0)),xI 0,.nilIface] 82:=by simp[lu,St.first,cJ]
 rw[E] at m;go_wp2_with fail;refine (t.o _ _ m.o).mono ?_;rintro e w2 ⟨a,rfl,p,o,A⟩;have F:=o.size;rw[au] at F;have l:aa (xB w w2):=by have G:Fr (λ_=>False) w j:=Fr.Mo d;have h:=(G.alloc (.cells #[.string s,xI (ck (zZ s 0)),.string (cs s (zZ s 0)),.int .i64 (zZ s 0).a,xI (cn (zZ s 0)),xI 0,.nilIface] 82)).dr o (λi hi h=>by omega);exact⟨h.os,h.tape,h.output,h.size,λk V=>h.block k V (λh=>h)⟩
 obtain⟨h0,G,h2,h3,h4,h5,H⟩:=p.cells;have J:=p.lt;have r:=za A.out;by_cases g:(cW Q.1).er=0
 . rw[show cJ S (cW Q.1).er (cW Q.1).at'=.nilIface by simp[cJ,g]] at H;go_wp2_with fail;refine bodyPost_ret (v:=.tuple #[.pointer (some a),.nilIface]) (by simp[results,results28,go_sem]) rfl ?_;rw[n];refine⟨λh=>absurd g h,λ_=>⟨a,rfl,?_⟩,l.o⟩;have X:=r.o g;obtain⟨N,O,xs,k0,ab,ar,L,M⟩:=X;rw[au] at ab L M;exact⟨N,O,xs,k0,by omega,ar,zR L (by omega),M.down (by omega)⟩
 rw[show cJ S (cW Q.1).er (cW Q.1).at'=.iface 71 (.agg #[aW S (cW Q.1).er,.int .i64 (cW Q.1).at']) by simp[cJ,g]] at H;go_wp2_with (go_at_call 41;refine (rm _ _ _ _).mono ?_;rintro e w3 ⟨rfl,rfl⟩);refine bodyPost_ret (v:=.tuple #[.pointer none,ew iN (.iface 71 (.agg #[aW S (cW Q.1).er,.int .i64 (cW Q.1).at']))]) (by simp[results,results28,go_sem,iN]) rfl ?_;rw[n];refine⟨λ_=>?_,λh=>absurd h g,l.o⟩
 show _=Ending.returned (.tuple #[.pointer none,ew iN (cJ S (cW Q.1).er (cW Q.1).at')]);rw[show cJ S (cW Q.1).er (cW Q.1).at'=.iface 71 (.agg #[aW S (cW Q.1).er,.int .i64 (cW Q.1).at']) by simp[cJ,g]]
theorem BW (S:Xs)(s:Xb)(w:Xw)(c:Gl S w)(j:1200<s.size) :
 xK 28 #[.string s] w (λe h=>e=.returned (.tuple #[.pointer none,ew iN (cJ S 1 0)])/\xB w h):=by
 have f:=c.size;have a:=c.ou;have d:1200<(s.size:Int):=by omega
 unfold aW at a;go_enter func28,ntmps28;go_wp2_with (first|(go_at_call 42;refine (py S 1 0 _).mono ?_;rintro i k ⟨rfl,b⟩;have g:=b.size)|(go_at_call 41;refine (rm _ _ _ _).mono ?_;rintro e l ⟨rfl,rfl⟩));refine bodyPost_ret (v:=.tuple #[.pointer none,ew iN (cJ S 1 0)]) (by simp[results,results28,go_sem,iN,cJ,aW]) rfl ⟨rfl,b⟩
theorem pE:∃a b:Fn,a=(fx 17).ex/\b=(fx 18).ex/\zX 18 190 b/\ig 18 a/\zv 17 a/\zv 18 b:=by obtain⟨d,_,_,c⟩:=JH 18;refine⟨_,_,rfl,rfl,d,?_,(pm 17).1,(pm 18).1⟩;rw[ae (by decide)] at c;exact c
end
section
open Go.RowKit
variable {a:Addr} {B N b i j:Nat} {l m:Obj} {P:Program} {u v:Xv} {W w w' n:Xw}
theorem WH (w:Xw)(g:Nat)(cs:Xa):Fr (·=g) w (w.setRow g cs) :=
 ⟨rfl,rfl,rfl,by simp[World.setRow],λk _ c=>setRow_other w g k cs c⟩
theorem Rx (w:Xw)(r y A e:Xy)(g d h:Nat)(z:Xp)(f k:Nat)(c:Xm)(t:Xy)(cs:Xm)
 (E:P.underlying r=some (.slice e)) (D:(P.info? e).map (·.size)=some 1)
 (s:xH w g c.toArray t) (C:cs.length=Nat.min f d)
 (p:0<cs.length->∃q,z=some q/\∀j v,cs[j]?=some v->w.cell? (q.add j)=some v) (o:cs.length<=c.length) (G:∀v∈cs,v.oneCell'=true) :
 ∃w',(Builtin.copy_ #[r,y] A #[xS g d h,.slice z f k]).run P w=.ok (goInt cs.length) w'/\w'.heap[g]?=some (.cells (cs++c.drop cs.length).toArray t (0,0))/\Fr (·=g) w w':=by
 by_cases F:cs.length=0
 . obtain rfl:cs=[]:=List.eq_nil_of_length_eq_zero F;exact⟨w,run_copy_none (P:=P) w r y A e _ z d h f k E D (by simpa using C.symm),by simpa using s,Fr.refl _ w⟩
 obtain⟨q,rfl,x⟩:=p (by omega);refine⟨_,run_copy_row (P:=P) w r y A e g 0 d h q f k c.toArray t cs E D s C x (by simpa using o) G,?_,WH _ _ _⟩;have:=setRow_heap w g c.toArray (c.take 0++cs++c.drop (0+cs.length)).toArray t _ s;simpa using this
theorem Wu {z:Array Oper}{o:Oper}{a:Act}{K:Act->World->Prop}{Q:Exit->Act->World->Prop}{E:Prop}(C:o.guard=none)(d s:Operand)(A H:Xy)
 (S:o.op=.call { callee:=.builtin .copy,args:=#[d,s],argTypes:=#[A,H] }) (e:Xy) (U:P.underlying A=some (.slice e)) (D:(P.info? e).map (·.size)=some 1)
 (g c p:Nat) (F:Xp) (f q:Nat) (M:a.eval d=xS g c p) (T:a.eval s=.slice F f q)
 (k:Xm) (t:Xy) (O:xH w g k.toArray t) (cs:Xm) (R:cs.length=Nat.min f c)
 (y:0<cs.length->∃G,F=some G/\∀j v,cs[j]?=some v->w.cell? (G.add j)=some v) (r:cs.length<=k.length) (I:∀v∈cs,v.oneCell'=true)
 (h:∀w',w'.heap[g]?=some (.cells (cs++k.drop cs.length).toArray t (0,0))->Fr (·=g) w w'->K (a.put o.dst (goInt cs.length)) w') :
 if Region.wanted o (yielded z a.tmps)=true then Oper.wp P o a w K Q else E:=by
 have V:Region.wanted o (yielded z a.tmps)=true:=by simp[Region.wanted,C]
 rw[ag V];obtain⟨w',x,J,L⟩:=Rx (P:=P) w A H o.type e g c p F f q k t cs U D O R y r I;unfold Oper.wp;simp[execOp,S,resolve,invoke,builtin,M,T,x,Result.andThen];exact h w' J L
theorem VV (b:Nat)(t:Xy):∀(d:Xm) (o:Nat) (w:Xw) (c:Xm),w.heap[b]?=some (.cells c.toArray t (0,0))->o+d.length<=c.length->(w.setCells b o d).heap[b]?=some (.cells (c.take o++d++c.drop (o+d.length)).toArray t (0,0))/\Fr (·=b) w (w.setCells b o d):=by
 intro d;induction d with
 | nil=>intro o w c h _;exact⟨by simpa [World.setCells] using h,Fr.refl _ w⟩
 | cons v d q =>
   intro o w c h p;simp only[bJ] at p;have e:=zh w b o v h;have k:c.toArray.setIfInBounds o v=(c.set o v).toArray:=(by simp);rw[k] at e;obtain⟨r,s⟩:=q (o+1) (w.setCell (xD b o) v) (c.set o v) e (by simp;omega);refine⟨?_,((Fr.refl (·=b) w).aY o v).trans s⟩
   show (World.setCells (w.setCell (xD b o) v) b (o+1) d).heap[b]?=_;rw[r];congr 3;have f:(c.set o v).take (o+1)=c.take o++[v]:=(by rw[List.take_set,List.take_succ_eq_append_getElem (by omega:o<c.length),List.set_append_right _ _ (by simp;omega)];simp[Nat.min_eq_left (by omega:o<=c.length)]);have g:(c.set o v).drop (o+1+d.length)=c.drop (o+(d.length+1)):=(by rw[List.drop_set_of_lt (by omega)];congr 1;omega);rw[f,g];simp
theorem VO (w:Xw)(t e o:Xy)(z:Xv)(k:P.underlying t=some (.slice e))(r:∀w,(zeroValue e).run P w=.ok z w)(s:z.cells=#[z])(q:z.oneCell'=true)(b c:Nat)(d:Xm)(g:Xy)
 (f:w.heap[b]?=some (.cells d.toArray g (0,0))) :
 ∃w',(Builtin.clear_ #[t] o #[xS b d.length c]).run P w=.ok (.tuple #[]) w'/\w'.heap[b]?=some (.cells (List.replicate d.length z).toArray g (0,0))/\Fr (·=b) w w':=by
 by_cases p:d.length=0
 . obtain rfl:d=[]:=List.eq_nil_of_length_eq_zero p;refine⟨w,?_,by simpa using f,Fr.refl _ w⟩;simp[Builtin.clear_,run_underlying k]
 refine⟨_,Lib.run_clear_slice (P:=P) w t e o z k r s q b 0 d.length c (by omega) (λj h=>?_) (λj h=>?_),?_⟩
 . simp[World.cell?,f,h]
 . simp[World.frozen?,f]
 have:=VV b g (List.replicate d.length z) 0 w d f (by simp);simpa using this
theorem zg (h:W.cell? a=some v):W.drew.cell? a=some v:=h
theorem zj (o:Obj)(h:W.cell? a=some v):(W.alloc o).cell? a=some v:=Lib.cell?_alloc_some o h
theorem zk {k:Nat}(c:¬k=b)(h:W.cell? (xD k i)=some v):(W.setCell (xD b j) u).cell? (xD k i)=some v :=
 (World.cell?_of_block (w:=W) (Below.heap_setCell W _ u k c)).trans h
theorem xb (h:∃v,W.cell? (xD b i)=some v):(W.setCell (xD b i) u).cell? (xD b i)=some u:=by
 obtain⟨v,d⟩:=h;unfold World.cell? at d ⊢;simp only[World.setCell,Array.getElem?_modify] at d ⊢;cases g:W.heap[b]? with
 | none=>simp[g] at d
 | some o =>
   cases o with
   | cells c e f =>
     simp only[g] at d;have k:i<c.size:=by
      rcases Nat.lt_or_ge i c.size with h|h
      . exact h
      simp[Array.getElem?_eq_none h] at d
     simp[k]
   | _=>simp[g] at d
theorem xc (h:W.cell? (xD b i)=some v):∃v,(W.setCell (xD b j) u).cell? (xD b i)=some v:=by
 unfold World.cell? at h ⊢;simp only[World.setCell,Array.getElem?_modify] at h ⊢;cases d:W.heap[b]? with
 | none=>simp[d] at h
 | some o =>
   cases o with
   | cells c e f =>
     simp only[d] at h;have g:i<c.size:=by
      rcases Nat.lt_or_ge i c.size with h'|h'
      . exact h'
      simp[Array.getElem?_eq_none h'] at h
     simp[g]
   | _=>simp[d] at h
theorem zd (h:Below B w W)(d:w.cell? (xD b i)=some v)(c:b<B):W.cell? (xD b i)=some v:=(World.cell?_of_block (w:=w) (h.block b c)).trans d
theorem zE (h:Below (w.alloc l).heap.size (w.alloc l) n):xB w n :=
 ((Below.refl w.heap.size w).alloc (an _) l).trans (h.mono (by simp))
theorem r3 (h:Below ((w.alloc l).alloc m).heap.size ((w.alloc l).alloc m) n):xB w n:=zE (zE h)
theorem QQ {c:Obj}(h:Below (((w.alloc l).alloc m).alloc c).heap.size (((w.alloc l).alloc m).alloc c) n):xB w n:=zE (r3 h)
theorem OJ (c:N<=w.heap.size)(l:Obj):∀k,k<N->(w.alloc l).heap[k]?=w.heap[k]?:=λk d=>Below.heap_alloc _ _ _ (by omega)
theorem j8 (c:N<=w.heap.size)(l m:Obj):∀k,k<N->((w.alloc l).alloc m).heap[k]?=w.heap[k]?:=λk d=>(Below.heap_alloc _ _ _ (by simp;omega)).trans (Below.heap_alloc _ _ _ (by omega))
theorem yR (c:N<=w.heap.size)(l m e:Obj):∀k,k<N->(((w.alloc l).alloc m).alloc e).heap[k]?=w.heap[k]?:=λk d=>(Below.heap_alloc _ _ _ (by simp;omega)).trans (j8 c l m k d)
theorem zq (w:Xw)(l:Obj):xB w (w.alloc l):=(Below.refl w.heap.size w).alloc (an _) l
theorem cT (w:Xw)(l m:Obj):xB w ((w.alloc l).alloc m):=zE (zq _ _)
theorem mg (w:Xw)(l m c:Obj):xB w (((w.alloc l).alloc m).alloc c):=zE (cT _ _ _)
theorem zo (h:Below B w W):Below B w W.drew:=⟨h.os,h.tape,h.output,h.size,h.block⟩
theorem zC (h:Below B w W)(c:B<=b)(u:Xv):Below B w (W.setCell (xD b i) u):=h.setCell c u
def bV (N:Nat)(w w':Xw):Prop:=∀k,k<N->w'.heap[k]?=w.heap[k]?
theorem bV.refl (N:Nat)(w:Xw):bV N w w:=λ_ _=>rfl
theorem bV.trans {a b c:Xw}(h:bV N a b)(k:bV N b c):bV N a c:=λi d=>(k i d).trans (h i d)
theorem Fr.am {S:Xj}(h:Fr S w w')(e:N<=w.heap.size)(c:∀k,S k->N<=k):bV N w w':=λk f=>h.block k (by omega) (λd=>by have:=c k d;omega)
theorem zm (h:Below B w w')(c:N<=B):bV N w w':=λk d=>h.block k (by omega)
end
section
open Go.RowKit
variable {L:List Ex} {c:Xm} {B N:Nat} {v:Xv} {w w':Xw}
inductive Tm where
 | mk (k a:Nat) (s:Xb) (nm n:Nat) (as':List Tm)
def Tm.k:Tm->Nat|.mk k _ _ _ _ _=>k
def Tm.a:Tm->Nat|.mk _ a _ _ _ _=>a
def Tm.s:Tm->ByteArray|.mk _ _ s _ _ _=>s
def Tm.nm:Tm->Nat|.mk _ _ _ nm _ _=>nm
def Tm.n:Tm->Nat|.mk _ _ _ _ n _=>n
def Tm.ts:Tm->List Tm|.mk _ _ _ _ _ l=>l
inductive bX (L:List Ex):Nat->Tm->Prop
 | mk (x:Nat) (ex:Ex) (ts:List Tm) (hx:L[x]?=some ex) (hl:ts.length=ex.ah.length) (hr:∀(i y:Nat) (t:Tm),ex.ah[i]?=some y->ts[i]?=some t->bX L y t) :
    bX L x (.mk (aF ex.op.toList ex.n) ex.a ex.s ex.nm (df ex.op.toList ex.n) ts)
inductive TT (w:Xw) (N:Nat):Tm->Value->Prop
 | mk (k a:Nat) (s:Xb) (nm n:Nat) (ts:List Tm) (b:Nat) (args:Xv) (vs:Xm) (hN:b<N)
    (hb:xH w b #[xI k,xI a,.string s,xI nm,xI n,args] 226)
    (ha:w.ownsRow 0 182 1 args vs.length vs) (hg:∀g,args.ownBlock=some g->g<N) (hl:vs.length=ts.length)
    (hr:∀(i:Nat) (t:Tm) (v:Xv),ts[i]?=some t->vs[i]?=some v->TT w N t v):TT w N (.mk k a s nm n ts) (xP b)
theorem TT.am {t:Tm}(h:TT w N t v)(j:bV N w w'):TT w' N t v:=by
 induction h with
 | mk k a s q n r b d u f m l i o _ p => exact TT.mk k a s q n r b d u f ((j b f).trans m) (zi l (λg _ _ e=>j g (i g e))) i o p
theorem HG {P:Nat->Tm->Value->Prop}:∀(a:Xn) (b:Xm),b.length=a.length->(∀(i y:Nat) (v:Xv),a[i]?=some y->b[i]?=some v->∃t,P y t v)->∃g:List Tm,g.length=a.length/\∀(i y:Nat) (t:Tm) (v:Xv),a[i]?=some y->g[i]?=some t->b[i]?=some v->P y t v:=by
 intro a;induction a with
 | nil=>intro b _ _;exact⟨[],rfl,λi y t v h=>by simp at h⟩
 | cons y a n =>
   intro b j h;cases b with
   | nil=>simp at j
   | cons v b =>
     obtain⟨t,m⟩:=h 0 y v rfl rfl;obtain⟨g,k,l⟩:=n b (by simpa using j) (λi y v f e=>h (i+1) y v (by simpa using f) (by simpa using e));refine⟨t::g,by simp[k],λi q o p f d e=>?_⟩;cases i with
     | zero=>simp at f d e;subst f d e;exact m
     | succ i=>exact l i q o p (by simpa using f) (by simpa using d) (by simpa using e)
theorem TR.tree {x:Nat}(h:TR w B L x v):∃t,bX L x t/\TT w w.heap.size t v:=by
 induction h with
 | mk x a b f l A E q p z _ D =>
   obtain⟨j,u,o⟩:=HG (P:=λy t v=>bX L y t/\TT w w.heap.size t v) a.ah l z D;have r:∀i t,j[i]?=some t->∃y v,a.ah[i]?=some y/\l[i]?=some v:=λi t d=>by have F:=(aB.1 d).1;exact⟨_,_,av (by omega),av (by omega)⟩
   refine⟨.mk (aF a.op.toList a.n) a.a a.s a.nm (df a.op.toList a.n) j,bX.mk x a j A u (λi y t C d=>?_),TT.mk _ _ _ _ _ j b f l (ze q) q (zR p (aE _)) (λg e=>(p.lt g e).2) (by omega) (λi t v d k=>?_)⟩
   . obtain⟨s,v,m,n⟩:=r i t d;exact (o i y t v C d n).1
   obtain⟨s,G,m,n⟩:=r i t d;exact (o i s t v m d k).2
structure Qn where
 ns:List ByteArray
 ps:List Nat
 a:Nat
 r:Tm
structure ay where
 nm:ByteArray
 a:Nat
 ak:List Vr
 ah:Nat
 aG:Nat
 eqs:List Qn
def j2 (w:Xw)(N:Nat):List Qn->List Value->Prop
 | [],c=>c=[]
 | q::d,c=>∃a v b,c=a::(xI q.a)::v::b/\w.ownsRow 0 117 2 a q.ns.length (gg q.ns q.ps)/\(∀g,a.ownBlock=some g->g<N)/\TT w N q.r v/\j2 w N d b
theorem j2.am (d:bV N w w'):∀{a:List Qn} {c:Xm},j2 w N a c->j2 w' N a c:=by
 intro a;induction a with
 | nil=>intro c h;exact h
 | cons q a l => rintro c ⟨m,v,n,f,i,b,j,k⟩;exact⟨m,v,n,f,zi i (λg _ _ e=>d g (b g e)),b,j.am d,l k⟩
structure NT (w:Xw) (N:Nat) (n:ay) (nb:Nat) (vs ev:Xv) (c:Xm):Prop where
 aC:xH w nb #[.string n.nm,xI n.a,vs,xI n.ah,xI n.aG,ev] 121
 lo:nb<N
 bZ:w.ownsRow 0 134 7 vs n.ak.length (eT n.ak)
 jc:∀g,vs.ownBlock=some g->g<N
 own:w.ownsRow 0 184 3 ev n.eqs.length c
 ko:∀g,ev.ownBlock=some g->g<N
 eqs:j2 w N n.eqs c
 bO:n.ak.length<=16
theorem NT.am {n:ay}{d:Nat}{f b:Xv}(h:NT w N n d f b c)(a:bV N w w'):NT w' N n d f b c :=
 ⟨(a _ h.lo).trans h.aC,h.lo,zi h.bZ (λg _ _ e=>a g (h.jc g e)),h.jc,zi h.own (λg _ _ e=>a g (h.ko g e)),h.ko,h.eqs.am a,h.bO⟩
def NP (w:Xw)(N:Nat)(n:ay)(v:Xv):Prop:=∃a d b c,v=xP a/\NT w N n a d b c
theorem NP.am {n:ay}(h:NP w N n v)(d:bV N w w'):NP w' N n v:=by obtain⟨e,f,a,c,b,h⟩:=h;exact⟨e,f,a,c,b,h.am d⟩
structure NL (w:Xw) (N:Nat) (ns:List ay) (gv:Xv) (c:Xm):Prop where
 own:w.ownsRow 0 90 1 gv ns.length c
 lo:∀g,gv.ownBlock=some g->g<N
 at':∀(i:Nat) (n:ay),ns[i]?=some n->∃v,c[i]?=some v/\NP w N n v
 bO:ns.length<=6
theorem NL.am {d:List ay}{a:Xv}(h:NL w N d a c)(b:bV N w w'):NL w' N d a c :=
 ⟨zi h.own (λg _ _ e=>b g (h.lo g e)),h.lo,λi n k=>by obtain⟨v,f,j⟩:=h.at' i n k;exact⟨v,f,j.am b⟩,h.bO⟩
def PT (w:Xw)(N:Nat)(d:List ay)(v:Xv):Prop:=∃a b c,v=xP a/\a<N/\w.heap[a]?=some (.cells #[b] 89 (0,0))/\NL w N d b c
theorem PT.am {d:List ay}(h:PT w N d v)(b:bV N w w'):PT w' N d v:=by obtain⟨e,f,c,g,a,i,j⟩:=h;exact⟨e,f,c,g,a,(b _ a).trans i,j.am b⟩
structure RZ (L:List Ex) (q:ax) (q':Qn):Prop where
 ns:q'.ns=q.ns
 ps:q'.ps=q.ps
 a:q'.a=q.a
 r:bX L q.ex q'.r
def fM (L:List Ex):List ax->List Qn->Prop
 | [],a=>a=[]
 | q::l,a=>∃d b,a=d::b/\RZ L q d/\fM L l b
theorem fM.len:∀{l:List ax} {a:List Qn},fM L l a->a.length=l.length:=by
 intro l;induction l with
 | nil=>rintro a rfl;rfl
 | cons q l b=>rintro a ⟨e,d,rfl,_,h⟩;simp[b h]
structure ht (nd:Nd) (n:ay):Prop where
 nm:n.nm=nd.nm
 a:n.a=nd.a
 ak:n.ak=nd.ak
 ah:n.ah=nd.ah
 aG:n.aG=nd.aG
 eqs:fM nd.az nd.eqs n.eqs
def dS:List Nd->List ay->Prop
 | [],a=>a=[]
 | d::l,a=>∃n b,a=n::b/\ht d n/\dS l b
theorem dS.len:∀{l:List Nd} {a:List ay},dS l a->a.length=l.length:=by
 intro l;induction l with
 | nil=>rintro a rfl;rfl
 | cons q l b=>rintro a ⟨e,d,rfl,_,h⟩;simp[b h]
theorem JE:∀{b:List ax} {c:Xm},jn L w B b c->∃d,fM L b d/\j2 w w.heap.size d c:=by
 intro b;induction b with
 | nil=>intro c h;exact⟨[],rfl,h⟩
 | cons q b o => rintro c ⟨r,a,s,i,f,j⟩;obtain⟨p,k,l⟩:=o j;obtain⟨t,m,n⟩:=f.tr.tree;exact⟨⟨q.ns,q.ps,q.a,t⟩::p,⟨_,_,rfl,⟨rfl,rfl,rfl,m⟩,k⟩,r,_,s,i,zR f.own (aE _),λg e=>(f.own.lt g e).2,n,l⟩
theorem Kg {a:Nd}(h:ND a v w B):∃n,ht a n/\NP w w.heap.size n v:=by obtain⟨k,l,f,c,i,h⟩:=h;obtain⟨d,b,j⟩:=JE h.eqs;refine⟨⟨a.nm,a.a,a.ak,a.ah,a.aG,d⟩,⟨rfl,rfl,rfl,rfl,rfl,b⟩,k,l,f,c,i,⟨h.aC,ze h.aC,zR h.bZ (aE _),λg e=>(h.bZ.lt g e).2,?_,λg e=>(h.own.lt g e).2,j,h.bO⟩⟩;rw[show (d.length)=a.eqs.length from b.len];exact zR h.own (aE _)
theorem JK:∀{a:List Nd} {c:Xm},lq w B a c->∃b,dS a b/\∀(i:Nat) (n:ay),b[i]?=some n->∃v,c[i]?=some v/\NP w w.heap.size n v:=by
 intro a;induction a with
 | nil=>intro c _;exact⟨[],rfl,λi n h=>by simp at h⟩
 | cons d a p =>
   rintro c ⟨v,q,rfl,f,g⟩;obtain⟨b,j,k⟩:=p g;obtain⟨n,l,o⟩:=Kg f;refine⟨n::b,⟨n,b,rfl,l,j⟩,λi m e=>?_⟩;cases i with
   | zero=>simp at e;subst e;exact⟨v,rfl,o⟩
   | succ i=>simpa using k i m (by simpa using e)
theorem Ku {a:List Nd}(h:PG a v w B)(n:a.length<=6):∃b,dS a b/\PT w w.heap.size b v:=by obtain⟨j,k,c,l,p,f,i,m⟩:=h;obtain⟨b,d,o⟩:=JK m;refine⟨b,d,j,k,c,l,ze f,f,?_,λg e=>(i.lt g e).2,o,by rw[d.len];exact n⟩;rw[d.len];exact zR i (aE _)
end
section
variable {s:Xb} {k:Nat}
structure Sc where
 er:List ay
 nd:ay
def bm (s:Xb):List Vr->Nat->Option Nat
 | [],_=>none
 | v::l,i=>if v.nm=s then some i else bm s l (i+1)
def ay.find (n:ay)(s:Xb):Option Nat:=bm s n.ak 0
def Sc.idx (c:Sc)(s:Xb):Nat:=(c.nd.find s).getD 0
def fX (s:Xb):List ay->Nat->Option Nat
 | [],_=>none
 | n::l,i=>if n.nm=s then some i else fX s l (i+1)
def Sc.called (c:Sc)(s:Xb):Option Sc :=
 match fX s c.er 0 with
 | none=>none
 | some i=>match c.er[i]? with
   | none=>none
   | some n=>some ⟨c.er.take i,n⟩
theorem yA {l:List Vr}{v:Vr}(h:l[k]?=some v):bm s (l.drop k) k=if v.nm=s then some k else bm s (l.drop (k+1)) (k+1):=by obtain⟨a,b⟩:=aB.1 h;rw[dE a,b];rfl
theorem Iv {l:List ay}{v:ay}(h:l[k]?=some v):fX s (l.drop k) k=if v.nm=s then some k else fX s (l.drop (k+1)) (k+1):=by obtain⟨a,b⟩:=aB.1 h;rw[dE a,b];rfl
theorem kP:∀{l:List Vr} {i j:Nat},bm s l i=some j->i<=j/\j<i+l.length/\∃v,l[j-i]?=some v/\v.nm=s:=by
 intro l;induction l with
 | nil=>intro i j h;cases h
 | cons v l d =>
   intro i j h;unfold bm at h;split at h
   . rename_i c;cases h;exact⟨an _,by simp,v,by simp,c⟩
   obtain⟨e,f,u,a,b⟩:=d h;refine⟨by omega,by simp only[bJ];omega,u,?_,b⟩;rw[show j-i=(j-(i+1))+1 by omega];simpa using a
theorem iC:∀{l:List ay} {i j:Nat},fX s l i=some j->i<=j/\j<i+l.length/\∃v,l[j-i]?=some v/\v.nm=s:=by
 intro l;induction l with
 | nil=>intro i j h;cases h
 | cons v l d =>
   intro i j h;unfold fX at h;split at h
   . rename_i c;cases h;exact⟨an _,by simp,v,by simp,c⟩
   obtain⟨e,f,u,a,b⟩:=d h;refine⟨by omega,by simp only[bJ];omega,u,?_,b⟩;rw[show j-i=(j-(i+1))+1 by omega];simpa using a
abbrev xE (x:Xp) (c:Sc) (p:Nat):Value:=.slice x c.er.length p
end
end Go.Proofs.YtbicmofihhjgbaaGreatDoor
