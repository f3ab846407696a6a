/- Part 6. -/
import Derived.Laws.CopyOwn
import Derived.Lib.SliceRun
import Derived.Test.YtcnelakggnfnhaaGreatDoorK04
set_option maxRecDepth 100000
set_option maxHeartbeats 8000000
namespace Go.Proofs.YtcnelakggnfnhaaGreatDoor
open Go.Proofs.Tryz
section
open Go.RowKit
variable {r z:Fn} {D:Xm} {E:List Vr} {B f n G p d:Nat} {S:Xs} {s l:St} {R H:St×List ax} {A j C:St×List Vr} {J I c3 c4 K F:Xv} {w wr:Xw}
theorem yC:(⟨#[110,111,100,101]⟩:Xb).toList=zW:=by decide +kernel
theorem Lm:(⟨#[118,97,114]⟩:Xb).toList=ly:=by decide +kernel
theorem J6:(⟨#[45,62]⟩:Xb).toList=[45,62]:=by decide +kernel
theorem Li:(⟨#[123]⟩:Xb).toList=[123]:=by decide +kernel
theorem Ll:(⟨#[125]⟩:Xb).toList=[125]:=by decide +kernel
structure my (r z:Fn) (f:Nat) (l:St) (A j C:St×List Vr) (H R:St×List ax):Prop where
 h3:bW true (l.aw.ac 5 zW).name []=A
 h5:bW false (A.1.ac 4 [45,62]) A.2=j
 h6:bD f j.1 j.2=C
 h8:zF r z (C.1.ac 4 [123]) []=H
 hR:bS r z f H=R
theorem Jn (h:my r z f l A j C H R) :
 a7 r z f l=(R.1.ac 4 [125],⟨(l.aw.ac 5 zW).t.s,(l.aw.ac 5 zW).t.a,C.2,(R.1.ac 4 [125]).L,R.2⟩):=by
 have a:aT l.aw=j:=by unfold aT;simp only;rw[h.h3,h.h5]
 unfold a7 dy;simp only;rw[a,h.h6,h.h8,h.hR]
theorem HC (b:zv 17 r)(c:zv 18 z)(g:Inv p l)(i:l.op=0)(h:my r z f l A j C H R):sd l A j C H R:=by have a:=yk b c g i (⟨h.h3,h.h5,h.h6,h.h8,rfl⟩:pM r z f l A j C H (gL r z f H));have e:=nO b c f 0 H a.i8 a.o8;rw[h.hR] at e;exact⟨a.i0,a.i1,a.i2,a.i3,a.i4,a.i5,a.i6,a.i7,a.i8,e.1.af,a.o7,a.o8,a.l3,a.l5,a.l6⟩
theorem VI.Bz (h:VI S d G B p w wr J I c3 c4 K s E F n D)(a:d<G)(b:G<B)(v:Xv):VI S d G B p w (wr.setCell (xD G 3) v) J I v c4 K s E F n D :=
 ⟨h.af,h.pl.aU a _ _,zh _ _ _ _ h.aC,zi h.own (λk c _ _=>zr (by omega) rfl),h.ok,h.fr.setCell (ao (ap (ao rfl))) _⟩
theorem VI.BA (h:VI S d G B p w wr J I c3 c4 K s E F n D)(a:d<G)(b:G<B)(v:Xv):VI S d G B p w (wr.setCell (xD G 4) v) J I c3 v K s E F n D :=
 ⟨h.af,h.pl.aU a _ _,zh _ _ _ _ h.aC,zi h.own (λk c _ _=>zr (by omega) rfl),h.ok,h.fr.setCell (ao (ap (ao rfl))) _⟩
theorem PL.aw (h:PL S w d l):PL S w d l.aw:=⟨h.tx,h.heap,h.gl,h.pb⟩
theorem rz (t:Tk):(((ck t:Nat):Int)==3)=(t.k==2):=by have h:=rY (t:=t);rw[bne] at h;cases a:(((ck t:Nat):Int)==3) <;> cases b:(t.k==2) <;> simp_all
theorem Hp:zH 139:=λ_ _=>by kernel_rfl
theorem Tryz.AF:(prog.info? 159).map (λi=>(i.zero,i.size,i.bytes))=some (some (.agg #[.slice none 0 0,xI 0,.pointer none]),3,40):=by kernel_rfl
theorem K9 {x:Xp}{k c:Nat}{a:Int}{b:Xp}:∀u∈[Value.slice x k c,xI a,.pointer b],u.oneCell'=true:=by intro u e;simp at e;rcases e with rfl|rfl|rfl <;> rfl
theorem fI.BQ {c:Nat}{i:Xv}{L:List Ex}(o:c<=B):∀{b:List ax} {D:Xm},fI B wr i L b D->fI c wr (.slice none 0 0) L b D:=by
 intro b;induction b with
 | nil=>intro D h;exact h
 | cons q b u => rintro D ⟨N,a,P,k,⟨O,e,v,x,y,_,M⟩,m⟩;exact⟨N,a,P,k,⟨O,e,aJ o v,x,y,λg t=>(by cases t),M⟩,u m⟩
theorem xg (i o:Bool)(l:St)(E:List Vr):E.length<=(zx i o l E).2.length:=by
 unfold zx;split
 . exact an _
 simp only;split <;> simp
theorem Ia (i:Bool):∀(f:Nat) (x:St×List Vr),x.2.length<=(MG i f x).2.length:=by
 intro f;induction f with
 | zero=>intro x;exact an _
 | succ f a =>
   intro x
   show x.2.length<=(if _ then _ else x).2.length;split
   . exact aJ (xg _ _ _ _) (a _)
   exact an _
theorem Io (i:Bool)(l:St)(E:List Vr):E.length<=(bW i l E).2.length:=by obtain⟨f,a⟩:∃f,f=1300:=⟨_,rfl⟩;rw[zip a];exact aJ (xg _ _ _ _) (Ia i f _)
theorem Iy (b:zv 17 r)(c:zv 18 z)(a:sd l A j C H R)(h:my r z f l A j C H R)(L:R.1.er=0):(l.aw.ac 5 zW).name.er=0/\A.1.er=0/\(A.1.ac 4 [45,62]).er=0/\j.1.er=0/\C.1.er=0:=by have v:=nO b c f 0 H a.i8 a.o8;rw[h.hR] at v;have y:=v.1.back L;have u:=gD b c (eqs:=[]) a.i7 a.o7;rw[h.h8] at u;have x:=u.1.back y;have m:C.1.er=0:=(ai.ac a.i6 4 [123]).back x;have t:=kM (f:=f) (ak:=j.2) a.i5;rw[h.h6] at t;have k:=t.1.back m;have q:=kH (i:=false) (ak:=A.2) a.i4;rw[h.h5] at q;have g:=q.1.back k;have e:A.1.er=0:=(ai.ac a.i3 4 [45,62]).back g;have o:=kH (i:=true) (ak:=[]) a.i2;rw[h.h3] at o;exact⟨o.1.back e,e,g,k,m⟩
def Lh (S:Xs)(d:Nat)(w:Xw)(c:St)(a:Nd)(h i:Nat)(e:Ending)(b:Xw):Prop :=
 ∃(G:Nat),e=.returned (xP G)/\w.heap.size<=G/\PL S b d c/\Fr (·=d) w b /\
  aa (c.er=0->∃(F g:Xv) (D:Xm),b.heap[G]?=some (.cells #[.string a.nm,xI a.a,F,xI h,xI i,g] 82 (0,0)) /\
   b.ownsRow w.heap.size 95 7 F a.ak.length (aag a.ak)/\a.ak.length<=16/\b.ownsRow w.heap.size 159 3 g a.eqs.length D/\fI w.heap.size b (.slice none 0 0) a.az a.eqs D)
theorem J0 (fr:zX 18 178 z)(fk:ig 18 r)(W:zv 17 r)(X:zv 18 z)(S:Xs)(d p f:Nat)(ge:1202<f)(gl:f<=5000)(l:St)(w:Xw)(gd:Inv p l)(gt:l.op=0)(hR:PL S w d l)(M:my r z f l A j C H R) :
 xK 73 #[xP d] w (Lh S d w (R.1.ac 4 [125]) ⟨(l.aw.ac 5 zW).t.s,(l.aw.ac 5 zW).t.a,C.2,(R.1.ac 4 [125]).L,R.2⟩ A.2.length (j.2.length-A.2.length)):=by
 have o:=hR.lt;have c:=HC W X gd gt M;have fl:=za hR.aw;have a5:=za (λw1 h=>zP S d l.aw ⟨#[110,111,100,101]⟩ _ yC w1 c.i0.bd h);rw[nI hR.aw.tx (by decide)] at a5;have bE:=za (λw1 h=>gG S d (l.aw.ac 5 zW) w1 c.i1.bd h);obtain⟨nx,bb,eN,dk⟩:=jk (l.aw.ac 5 zW);rw[eN] at bE;go_enter func73,ntmps73;go_wp2_with fail;refine (a5.o _ (fl.o.alloc _)).mono ?_;rintro e w1 ⟨rfl,ea,bp⟩;have eQ:=bp.size;rw[au] at eQ;have er:w1.heap[w.heap.size]?=some (.cells #[.string ⟨#[]⟩,xI 0,.slice none 0 0,xI 0,xI 0,.slice none 0 0] 82 (0,0)):=(bp.block _ (by simp) (by omega)).trans (zc w _);have c9:=za ea;have c2:=za bp;have ds:=za er;go_wp2_with fail;refine (bE.o _ c9.o).mono ?_;rintro e w2 ⟨rfl,bk,O⟩;have gx:=O.size;have Y:=(O.block w.heap.size (by omega) (by omega)).trans ds.o;obtain⟨q0,eT,q2,q3,q4,q5,qf,cK⟩:=zt Y;have b1:aa (VI S d w.heap.size (w.heap.size+1) 0 (w.alloc (.cells #[.string ⟨#[]⟩,xI 0,.slice none 0 0,xI 0,xI 0,.slice none 0 0] 82)) ((w2.setCell (xD w.heap.size 0) (.string nx)).setCell (xD w.heap.size 1) (xI bb)) (.string nx) (xI bb) (xI 0) (xI 0) (.slice none 0 0) (l.aw.ac 5 zW).name [] (.slice none 0 0) 0 []):=by refine⟨c.i2,(bk.aU o _ _).aU o _ _,zh _ _ _ _ (zh _ _ _ _ Y),World.ownsRow_nil _ _ _ _,λ_=>⟨rfl,by simp,rfl⟩,?_⟩;have h:Fr (λk=>k=d∨k=w.heap.size∨w.heap.size+1<=k) (w.alloc (.cells #[.string ⟨#[]⟩,xI 0,.slice none 0 0,xI 0,xI 0,.slice none 0 0] 82)) w2:=(c2.o.trans O).mono (λ_ _ h=>ao h);exact (h.setCell (ao (ap (ao rfl))) _).setCell (ao (ap (ao rfl))) _
 go_wp2_with fail;generalize cb:w.alloc (.cells #[.string ⟨#[]⟩,xI 0,.slice none 0 0,xI 0,xI 0,.slice none 0 0] 82)=w0 at b1;have gw:w0.heap.size=w.heap.size+1:=by rw[<- cb,au]
 have bK:=za (xG S d w.heap.size (w.heap.size+1) 0 16 true w0 _ _ _ _ _ _ _ _ _ 0 _ (by omega) (by omega) (by omega) o (by omega) (by omega) b1.o);rw[M.h3] at bK;refine bK.o.mono ?_;rintro e w3 ⟨g4,Q,g8,rfl,jK,bq⟩;obtain⟨q0,eT,q2,q3,q4,q5,qf,cK⟩:=zt bq.aC;have bl:=za (bq.Bz o (by omega) (xI ((Q:Int)-((0:Nat):Int))));have gz:=bq.fr.size;go_wp2_with fail;have a6:=za (zP S d A.1 ⟨#[45,62]⟩ _ J6 _ c.i3.bd bl.o.pl);rw[fo bl.o.pl.tx (by decide)] at a6;refine a6.o.mono ?_;rintro e w4 ⟨rfl,eb,dY⟩;have b2:=za (bl.o.goes o (by omega) c.i4 (λv=>eJ v) eb dY);go_wp2_with fail;have bL:=za (xG S d w.heap.size (w.heap.size+1) 0 17 false w0 _ _ _ _ _ _ _ _ _ _ _ (by omega) (by omega) (by omega) o (by omega) (by omega) b2.o);rw[M.h5] at bL;refine bL.o.mono ?_;rintro e w5 ⟨eV,n5,eZ,rfl,go,a3⟩;obtain⟨q0,eT,q2,q3,q4,q5,qf,cK⟩:=zt a3.aC;have V:=za (a3.BA o (by omega) (xI ((n5:Int)-(Q:Int))));have gC:=a3.fr.size;have dw:=za b2.o.ok;have dz:=za a3.ok;go_wp2_with fail;have b0:=za (hY S d j.1 ⟨#[118,97,114]⟩ _ Lm _ c.i5.bd V.o.pl);have ct:j.1.cP ly=if j.1.is 5 ly=true then j.1.ad else j.1:=by unfold St.cP;rw[MH V.o.pl.tx (by decide)]
 rw[MH V.o.pl.tx (by decide),ct] at b0;refine b0.o.mono ?_;rintro e w6 ⟨rfl,ek,ck⟩;have aV:=za ek;have bB:=za ck;have gU:=ck.size;go_upto_if 30 with fail;go_cut [] (λwy=>∃F n D,aa (VI S d w.heap.size (w.heap.size+1) 0 w0 wy (.string nx) (xI bb) (xI ((Q:Int)-((0:Nat):Int))) (xI ((n5:Int)-(Q:Int))) (.slice none 0 0) C.1 C.2 F n D));case first =>
  cases hc:j.1.is 5 ly with
  | false => rw[hc,ae (by simp)] at aV;have h6:bD f j.1 j.2=(j.1,j.2):=(by unfold bD;rw[ae (by rw[hc];simp)]);rw[M.h6] at h6;have cO:=za h6;go_wp2_with fail;go_meet;rw[cO.o];exact⟨_,_,_,V.o.goes o (by omega) c.i5 (λh=>h) aV.o bB.o⟩
  | true =>
    rw[hc,ag rfl] at aV;have h6:bD f j.1 j.2=en f (MN j.1.ad j.2):=(by unfold bD;rw[ag hc]);rw[M.h6] at h6;have cO:=za h6;have v:j.1.er=0:=c.i5.bd.er (by rw[Inv.bP hc];decide);have ga:=ai.ad c.i5;have dq:=za (V.o.goes o (by omega) ga.af (λ_=>v) aV.o bB.o);have co:n5<=16:=(by have:=V.o.ok v;omega);go_wp2_with fail;go_loopg [4] f (λk eS wx=>∃(b:Bool) (s:St) (vl:List Vr) (eX:Xv) (nn:Nat) (e1:Xm),eS=.bool b/\aa (VI S d w.heap.size (w.heap.size+1) 0 w0 wx (.string nx) (xI bb) (xI ((Q:Int)-((0:Nat):Int))) (xI ((n5:Int)-(Q:Int))) (.slice none 0 0) s vl eX nn e1)/\aa (b=true->nn<=16/\en k (MN s vl)=C/\1201-s.t.a<k)/\aa (b=false->(s,vl)=C));case atStart=>exact⟨true,j.1.ad,j.2,eV,n5,eZ,rfl,dq,λ_=>⟨co,cO.o.symm,by omega⟩,λh=>by cases h⟩
    case round =>
     obtain⟨b,s,vl,eX,nn,e1,rfl,u,dp,bg⟩:=hrel;cases b with
     | false => have dl:=za (bg.o rfl);go_wp2_with fail;go_meet;rw[<- dl.o];exact⟨_,_,_,u⟩
     | true =>
       obtain⟨gs,a,aA⟩:=dp.o rfl;have dc:=za (Hk S d w.heap.size (w.heap.size+1) 0 w0 wr _ _ _ _ _ s vl eX nn e1 (by omega) o (by omega) (by omega) u.o);have cn:=mn (ak:=vl) u.o.af;have fj:=za cn;have a0:=za (λv eO=>yB (ak:=vl) u.o.af v eO);generalize hy:MN s vl=y at *;have a1:=za a;have P:=za aA;have c6:=za cn.1;go_wp2_with fail;refine dc.o.mono ?_;rintro e w8 ⟨rfl,eW,e0,bs⟩;obtain⟨h0,h1,h2,h3,h4,h5,h6⟩:=bs.pl.cells;have e7:=bs.pl.lt;have a2:=za bs;go_wp2_with fail;obtain⟨g,rfl⟩:∃g,gk=g+1:=⟨gk-1,by have:=P.o;omega⟩;go_roundg g;case measure=>omega
       have cv:en (g+1) y=if y.1.er=0/\y.1.t.k=2 then en g (MN y.1 y.2) else y:=rfl;have a:=a1.o;rw[cv] at a;refine⟨(y.1.t.k==2),y.1,y.2,eW,nn+1,e0,by rw[rz],a2,λeq=>?_,λeq=>?_⟩
       . have ar:y.1.t.k=2:=(by simpa using eq);have v:y.1.er=0:=a2.o.af.bd.er (by rw[ar];decide);rw[ag ⟨v,ar⟩] at a;have hh:=a2.o.ok v;have gY:=a0.o (c6.o.back v) v;have gZ:=P.o;have k4:=a2.o.af.ok.bR;have g0:=u.o.af.ok.bR;exact⟨by omega,a,by omega⟩
       have ar:¬y.1.t.k=2:=(by simpa using eq);rw[ae (λh=>ar h.2)] at a;exact a
 case rest =>
  obtain⟨F,n,D,T⟩:=hcut;have gW:=T.o.fr.size;have a9:=za (zP S d C.1 ⟨#[123]⟩ _ Li _ c.i6.bd T.o.pl);rw[fo T.o.pl.tx (by decide)] at a9;go_wp2_with fail;refine a9.o.mono ?_;rintro e w9 ⟨rfl,em,L⟩;have gV:=L.size;have dV:EI S d w.heap.size (w.heap.size+1) 0 w w9 (.string nx) (xI bb) F (xI ((Q:Int)-((0:Nat):Int))) (xI ((n5:Int)-(Q:Int))) n D (C.1.ac 4 [123]) [] (.slice none 0 0) 0 []:=by refine⟨c.i7,c.o7,em,(L.block _ (by omega) (by omega)).trans T.o.aC,zi T.o.own (λk h1 h2 _=>L.block k h2 (by omega)),(λk _ h=>by cases h),World.ownsRow_nil _ _ _ _,λ_=>⟨rfl,rfl⟩,?_⟩;have h1:Fr (·=d) w w0:=(by rw[<- cb];exact (Fr.refl _ w).alloc _);exact (h1.dr T.o.fr (λi hi h=>by omega)).trans L
  have cR:=za dV;have b3:=za T.o.ok;have fh:aa (bS r z f (zF r z (C.1.ac 4 [123]) [])=R):=by unfold aa;rw[M.h8,M.hR]
  go_wp2_with fail;go_loopg [5] f (λk eS wx=>∃(b:Bool) (s:St) (t:List ax) (ev:Xv) (m:Nat) (cA:Xm),eS=.bool b/\aa (EI S d w.heap.size (w.heap.size+1) 0 w wx (.string nx) (xI bb) F (xI ((Q:Int)-((0:Nat):Int))) (xI ((n5:Int)-(Q:Int))) n D s t ev m cA)/\m+k<=f/\aa (w0.heap.size<=wx.heap.size)/\aa (b=true->bS r z k (zF r z s t)=R/\1201-s.t.a<k)/\aa (b=false->(s,t)=R));case atStart=>exact⟨true,_,[],.slice none 0 0,0,[],rfl,cR,by omega,by unfold aa;omega,λ_=>⟨fh.o,by omega⟩,λh=>by cases h⟩
  case round =>
   obtain⟨b,s,t,ev,m,cA,rfl,u,gn,dL,dp,bg⟩:=hrel;cases b with
   | false => have dl:=za (bg.o rfl);have cE:EI S d w.heap.size (w.heap.size+1) 0 w wr (.string nx) (xI bb) F (xI ((Q:Int)-((0:Nat):Int))) (xI ((n5:Int)-(Q:Int))) n D R.1 R.2 ev m cA:=(by rw[<- dl.o];exact u.o);have be:=za cE;have bA:=za (zP S d R.1 ⟨#[125]⟩ _ Ll wr cE.af.bd cE.pl);rw[fo cE.pl.tx (by decide)] at bA;go_wp2_with fail;refine bA.o.mono ?_;rintro e g6 ⟨rfl,cl,cg⟩;have x:=za (be.o.goes o (by omega) (ai.ac be.o.af 4 [125]).af (by rw[St.a8];exact be.o.op) (St.bi _ _ _) (λv=>eJ v) cl cg);go_wp2_with fail;go_ret;refine⟨w.heap.size,rfl,an _,x.o.pl,x.o.fr,?_⟩;intro v;obtain⟨fu,he,fz,fA,fB⟩:=Iy W X c M (eJ v);obtain⟨I,fC⟩:=dk (lm fu);obtain⟨d1,d2,d3⟩:=b3.o fB;obtain⟨fP,fS⟩:=x.o.ok v;have f3:=(dw.o fz).1;have f5:=(dz.o fA).1;have f35:=Io false (A.1.ac 4 [45,62]) A.2;rw[M.h5] at f35;have cm:=x.o.aC;subst I fC d1 d3 fP;have g3:((Q:Int)-((0:Nat):Int))=((A.2.length:Nat):Int):=(by omega);have g5:((n5:Int)-(Q:Int))=((j.2.length-A.2.length:Nat):Int):=(by omega);rw[g3,g5] at cm;exact⟨F,ev,cA,cm,zR x.o.bZ (by omega),d2,zR x.o.own (by omega),fS.BQ (by omega)⟩
   | true =>
     obtain⟨a,aA⟩:=dp.o rfl;have gX:=dL.o;have fd:=u.o.pl.lt;have bY:=za (λw1 h=>HO fr fk W X S d 0 s w1 u.o.af u.o.op h);have eE:=gD W X (eqs:=t) u.o.af u.o.op;have aL:=za eE;have a0:=za (λv eO=>xL W X (eqs:=t) u.o.af u.o.op v eO);obtain⟨y,hy⟩:∃y,zF r z s t=y:=⟨_,rfl⟩;obtain⟨q,ff⟩:∃q,lr r z s=q:=⟨_,rfl⟩;have eP:(zF r z s []).1=y.1:=(by rw[<- Ht r z s t,hy]);have dH:y.2=t++[q]:=(by rw[<- hy,He,ff]);rw[eP,ff] at bY;rw[hy] at a aL a0;have a1:=za a;have P:=za aA;obtain⟨q0,eT,q2,q3,q4,q5,qf,cK⟩:=zt u.o.aC;obtain⟨i0,hi,eF,eG,eL⟩:=info_parts Tryz.AF;have mx:m+1<=maxLen:=(by unfold maxLen;omega);have dM:(m+1)*40<=140737488355328:=(by omega);go_upto_block 3 with fail;go_cut [] (λwy=>∃dP eY,aa (EI S d w.heap.size (w.heap.size+1) 0 w wy (.string nx) (xI bb) F (xI ((Q:Int)-((0:Nat):Int))) (xI ((n5:Int)-(Q:Int))) n D y.1 y.2 dP (m+1) eY)/\aa (w0.heap.size<=wy.heap.size));case first =>
      go_wp2_with fail;go_region_law (first|(refine kD rfl 139 (.tmp 59) 176 rfl Hp (xP d) rfl (bY.o _ u.o.pl.drew) ?_;rintro e w2 ⟨hm,g1,g9,g2,ft,rfl,⟨g7,fD,rfl⟩,bk,du,cs,ch⟩;refine⟨_,rfl,?_⟩;have O:Fr (·=d) wr w2:=ch.cQ;have fg:=O.size;have Y:=(O.block w.heap.size cK (by omega)).trans u.o.aC;obtain⟨f0,f1,f2,f3,f4,f5,hf,gc⟩:=zt Y;have U:=za (zi u.o.own (λk h1 h2 _=>O.block k h2 (by omega)));have ca:=za cs.out;have eR:w.heap.size+1<=w2.heap.size+1:=(by omega))|(refine zJ _ rfl (.tmp 58) (.tmp 61) 80 rfl (w.heap.size+1) 159 i0 _ 3 40 underlying80 hi eF eG eL rfl (by decide) ev m cA rfl (zD U.o _) (xD w2.heap.size 0) 1 1 [.slice g7 g1 fD,xI g2,.pointer ft] rfl rfl (zN (zc w2 _) rfl) K9 mx dM (by simpa using eR) ?_;intro v' w9 Z bt bo;obtain⟨hg,e3,rfl,gm⟩:=zM Z (by omega);have L:=Fr.gi bt;have es:w9.heap[w.heap.size]?=w2.heap[w.heap.size]?:=((L.block w.heap.size (by rw[au];omega) (λh=>by have:=(U.o.lt _ h).1;omega)).trans (mm _ _ _ gc));have b4:=za (es.trans Y);obtain⟨m0,m1,m2,m3,m4,m5,hu,hv⟩:=zt b4.o;have da:=za (PL.fr (bk.alloc _) L (λk ar=>by have:=(U.o.lt k ar).1;omega));have cz:=L.size;rw[au] at cz));all_goals go_wp2_with fail
      all_goals go_meet
      all_goals exact⟨_,_,(by unfold aa;rw[dH];exact Km u.o o (by omega) (by omega) (by omega) aL.o.1 (aL.o.2.trans u.o.op) O du ca.o da.o L b4.o Z bo),(by unfold aa;simp[World.setCell];omega)⟩
     case rest =>
      obtain⟨ce,cB,N,cd⟩:=hcut;have a4:=za N.o.af.bd;obtain⟨h0,h1,h2,h3,h4,h5,h6⟩:=N.o.pl.cells;have e5:=N.o.pl.lt;obtain⟨g,rfl⟩:∃g,gk=g+1:=⟨gk-1,by have:=P.o;omega⟩;have bx:=za (fH S d y.1 ⟨#[40]⟩ _ j7 wc a4.o.ok.tk N.o.pl);rw[fm N.o.pl.tx (by decide)] at bx;have bC:aa ((y.1.t.k=2∨y.1.is 4 [40]=true)->bS r z g (zF r z y.1 y.2)=R/\1201-y.1.t.a<g):=λhc=>by
       have a:=a1.o;rw[show bS r z (g+1) y=if y.1.t.k=2∨y.1.is 4 [40]=true then bS r z g (zF r z y.1 y.2) else y from rfl,ag hc] at a;have v:y.1.er=0:=a4.o.er (by
        rcases hc with h|h
        . rw[h];decide
        rw[Inv.bP h];decide)
       have gY:=a0.o (aL.o.1.back v) v;have gZ:=P.o;have k4:=N.o.af.ok.bR;have g0:=u.o.af.ok.bR;exact⟨a,by omega⟩
      have di:aa (¬(y.1.t.k=2∨y.1.is 4 [40]=true)->(y.1,y.2)=R):=λhc=>by have a:=a1.o;rw[show bS r z (g+1) y=if y.1.t.k=2∨y.1.is 4 [40]=true then bS r z g (zF r z y.1 y.2) else y from rfl,ae hc] at a;exact a
      cases ar:(y.1.t.k==2) with
      | true =>
        have ex:=(rz y.1.t).trans ar;go_wp2_with fail;go_roundg g;case measure=>omega
        have bv:y.1.t.k=2:=(by simpa using ar);exact⟨true,y.1,y.2,ce,m+1,cB,by simp,N,by omega,cd,λ_=>bC.o (.inl bv),λh=>by cases h⟩
      | false =>
        have ex:=(rz y.1.t).trans ar;go_wp2_with (go_at_call 72;refine bx.o.mono ?_;rintro e w' ⟨rfl,rfl⟩);go_roundg g;case measure=>omega
        have bv:¬y.1.t.k=2:=(by simpa using ar);refine⟨y.1.is 4 [40],y.1,y.2,ce,m+1,cB,by simp,N,by omega,cd,λh=>bC.o (.inr h),λh=>di.o ?_⟩;rintro (h'|h')
        . exact bv h'
        rw[h] at h';cases h'
end
section
open Go.RowKit
variable {c d:Fn} {L:List Ex} {l:List Vr} {B j:Nat} {b:Nd} {m v:Xv} {p:Vr->Bool} {w g:Xw}
def jn (L:List Ex)(w:Xw)(B:Nat):List ax->List Value->Prop
 | [],e=>e=[]
 | q::i,e=>∃f a h,e=f::(xI q.a)::.pointer a::h/\EQ L q f a w B/\jn L w B i h
theorem fI.now:∀{e:List ax} {f:Xm},fI B w m L e f->jn L w B e f:=by
 intro e;induction e with
 | nil=>intro f h;exact h
 | cons q e o => rintro f ⟨r,a,s,i,k,n⟩;exact⟨r,a,s,i,Kz k,o n⟩
theorem jn.kept (r:∀k,B<=k->k<w.heap.size->g.heap[k]?=w.heap[k]?):∀{e:List ax} {f:Xm},jn L w B e f->jn L g B e f:=by
 intro e;induction e with
 | nil=>intro f h;exact h
 | cons q e s => rintro f ⟨t,a,u,i,n,o⟩;exact⟨t,a,u,i,n.kept r,s o⟩
theorem jn.down (o:j<=B):∀{e:List ax} {f:Xm},jn L w B e f->jn L w j e f:=by
 intro e;induction e with
 | nil=>intro f h;exact h
 | cons q e r => rintro f ⟨s,a,t,i,k,n⟩;exact⟨s,a,t,i,k.down o,r n⟩
def Nd.ah (b:Nd):Nat:=(b.ak.filter (·.bn)).length
def Nd.aG (b:Nd):Nat:=(b.ak.filter (·.out)).length
theorem o6 (i o:Bool)(e:St)(a:List Vr):∃E,(zx i o e a).2=a++E/\∀v∈E,v.bn=i/\v.out=o:=by
 unfold zx;split
 . exact⟨[],by simp,by simp⟩
 simp only;split
 . exact⟨_,rfl,by simp⟩
 exact⟨_,rfl,by simp⟩
theorem Ip (i:Bool):∀(f:Nat) (x:St×List Vr),∃E,(MG i f x).2=x.2++E/\∀v∈E,v.bn=i/\v.out=!i:=by
 intro f;induction f with
 | zero=>intro x;exact⟨[],by simp[MG],by simp⟩
 | succ f r =>
   intro x;rw[show MG i (f+1) x=if x.1.er=0/\x.1.is 4 [44]=true then MG i f (zx i (!i) x.1.ad x.2) else x from rfl];split
   . obtain⟨E,e,k⟩:=o6 i (!i) x.1.ad x.2;obtain⟨a,n,o⟩:=r (zx i (!i) x.1.ad x.2);refine⟨E++a,by rw[n,e,bw],λv q=>?_⟩;rcases bj.1 q with h|h
     . exact k v h
     exact o v h
   exact⟨[],by simp,by simp⟩
theorem xW (i:Bool)(e:St)(a:List Vr):∃E,(bW i e a).2=a++E/\∀v∈E,v.bn=i/\v.out=!i:=by
 obtain⟨f,s⟩:∃f,f=1300:=⟨_,rfl⟩;rw[zip s];obtain⟨E,n,o⟩:=o6 i (!i) (e.ac 4 [40]) a;obtain⟨k,q,r⟩:=Ip i f (zx i (!i) (e.ac 4 [40]) a);refine⟨E++k,by simp only;rw[q,n,bw],λv t=>?_⟩;rcases bj.1 t with h|h
 . exact o v h
 exact r v h
theorem Il:∀(f:Nat) (x:St×List Vr),∃E,(en f x).2=x.2++E/\∀v∈E,v.bn=false/\v.out=false:=by
 intro f;induction f with
 | zero=>intro x;exact⟨[],by simp[en],by simp⟩
 | succ f q =>
   intro x;rw[show en (f+1) x=if x.1.er=0/\x.1.t.k=2 then en f (MN x.1 x.2) else x from rfl];split
   . obtain⟨E,e,i⟩:=o6 false false x.1 x.2;obtain⟨a,k,n⟩:=q (MN x.1 x.2);refine⟨E++a,by rw[k,show (MN x.1 x.2).2=(zx false false x.1 x.2).2 from rfl,e,bw],λv o=>?_⟩;rcases bj.1 o with h|h
     . exact i v h
     exact n v h
   exact⟨[],by simp,by simp⟩
theorem Kb (f:Nat)(e:St)(a:List Vr):∃E,(bD f e a).2=a++E/\∀v∈E,v.bn=false/\v.out=false:=by
 unfold bD;split
 . obtain⟨E,k,n⟩:=o6 false false e.ad a;obtain⟨i,o,q⟩:=Il f (MN e.ad a);refine⟨E++i,by rw[o,show (MN e.ad a).2=(zx false false e.ad a).2 from rfl,k,bw],λv r=>?_⟩;rcases bj.1 r with h|h
   . exact n v h
   exact q v h
 exact⟨[],by simp,by simp⟩
theorem xp (h:∀v∈l,p v=true):(l.filter p).length=l.length:=by rw[List.filter_eq_self.2 h]
theorem pd (h:∀v∈l,p v=false):(l.filter p).length=0:=by rw[List.filter_eq_nil_iff.2 (λv a=>by rw[h v a];simp)];rfl
theorem IF {f:Nat}{u:St}{e i n:St×List Vr}{y R:St×List ax}(h:my c d f u e i n y R):(n.2.filter (·.bn)).length=e.2.length/\(n.2.filter (·.out)).length=i.2.length-e.2.length:=by obtain⟨z,k,r⟩:=xW true (u.aw.ac 5 zW).name [];obtain⟨x,o,s⟩:=xW false (e.1.ac 4 [45,62]) e.2;obtain⟨A,q,t⟩:=Kb f i.1 i.2;rw[h.h3] at k;rw[h.h5] at o;rw[h.h6] at q;simp only[List.nil_append] at k;rw[q,o,k];simp only[List.filter_append,aP];rw[xp (λv a=>(r v a).1),pd (λv a=>(s v a).1),pd (λv a=>(t v a).1),pd (λv a=>(r v a).2),xp (l:=x) (λv a=>(s v a).2),pd (λv a=>(t v a).2)];omega
structure z6 (b:Nd) (w:Xw) (B nb:Nat) (vs ev:Xv) (xs:Xm):Prop where
 aC:xH w nb #[.string b.nm,xI b.a,vs,xI b.ah,xI b.aG,ev] 82
 lo:B<=nb
 bZ:w.ownsRow B 95 7 vs b.ak.length (aag b.ak)
 bO:b.ak.length<=16
 own:w.ownsRow B 159 3 ev b.eqs.length xs
 eqs:jn b.az w B b.eqs xs
def ND (b:Nd)(v:Xv)(w:Xw)(B:Nat):Prop:=∃a f e h,v=xP a/\z6 b w B a f e h
theorem ND.kept (h:ND b v w B)(a:∀k,B<=k->k<w.heap.size->g.heap[k]?=w.heap[k]?):ND b v g B:=by obtain⟨i,q,n,r,o,h⟩:=h;exact⟨i,q,n,r,o,(a i h.lo (ze h.aC)).trans h.aC,h.lo,zi h.bZ (λk e f _=>a k e f),h.bO,zi h.own (λk e f _=>a k e f),h.eqs.kept a⟩
theorem ND.down (h:ND b v w B)(a:j<=B):ND b v w j:=by obtain⟨i,k,e,n,f,h⟩:=h;exact⟨i,k,e,n,f,h.aC,aJ a h.lo,zR h.bZ a,h.bO,zR h.own a,h.eqs.down a⟩
theorem KP {wr:Xw}(h:hE B wr m (ND b v)):ND b v wr B:=by obtain⟨k,i,a,e,f,_,_⟩:=h;exact (e.kept f).down a
theorem IU (O:zX 18 178 d)(M:ig 18 c)(t:zv 17 c)(u:zv 18 d)(S:Xs)(k p f:Nat)(y:1202<f)(z:f<=5000)(h:St)(w:Xw)(K:Inv p h)(Q:h.op=0)(N:PL S w k h) :
 xK 73 #[xP k] w (λe g=>∃a:Addr,e=.returned (.pointer (some a))/\PL S g k (a7 c d f h).1/\Fr (·=k) w g/\aa ((a7 c d f h).1.er=0->ND (a7 c d f h).2 (.pointer (some a)) g w.heap.size)):=by
 obtain⟨n,q⟩:∃n,bW true (h.aw.ac 5 zW).name []=n:=⟨_,rfl⟩;obtain⟨o,A⟩:∃o,bW false (n.1.ac 4 [45,62]) n.2=o:=⟨_,rfl⟩;obtain⟨r,C⟩:∃r,bD f o.1 o.2=r:=⟨_,rfl⟩;obtain⟨s,D⟩:∃s,zF c d (r.1.ac 4 [123]) []=s:=⟨_,rfl⟩;obtain⟨R,i⟩:∃R,bS c d f s=R:=⟨_,rfl⟩;have x:my c d f h n o r s R:=⟨q,A,C,D,i⟩;clear q A C D i;have E:=IF x;rw[Jn x];refine (J0 O M t u S k p f y z h w K Q N x).mono ?_;rintro e g ⟨F,rfl,H,I,q,J⟩;refine⟨(xD F 0),rfl,I,q,λP=>?_⟩;obtain⟨Y,G,Z,T,U,V,W,X⟩:=J.out P;refine⟨F,Y,G,Z,rfl,?_,H,U,V,W,X.now⟩;dsimp only[Nd.ah,Nd.aG];rw[E.1,E.2];exact T
end
section
open Go.RowKit
variable {c d:Fn} {B:Nat} {q:Nd} {j:Xv} {w wr:Xw}
def ie (B:Nat)(wr:Xw)(j:Xv):List Nd->List Value->Prop
 | [],a=>a=[]
 | q::e,a=>∃v b,a=v::b/\hE B wr j (ND q v)/\ie B wr j e b
theorem ie.next {e:Xw}{av':Xv}{T:Xj}(o:Fr T wr e)(m:∀k,T k->k<B∨j.ownBlock=some k)(n:∀k,av'.ownBlock=some k->j.ownBlock=some k∨wr.heap.size<=k) :
 ∀(a:List Nd) (b:Xm),ie B wr j a b->ie B e av' a b:=by
 intro a;induction a with
 | nil=>intro b h;exact h
 | cons q a p => rintro b ⟨v,f,g,i,l⟩;exact⟨v,f,g,i.next o m n,p f l⟩
theorem ie.snoc {v:Xv}(e:hE B wr j (ND q v)):∀(a:List Nd) (b:Xm),ie B wr j a b->ie B wr j (a++[q]) (b++[v]):=by
 intro a;induction a with
 | nil=>rintro b rfl;exact⟨v,[],rfl,e,rfl⟩
 | cons l a h => rintro b ⟨i,k,rfl,g,f⟩;exact⟨i,_,rfl,g,h k f⟩
structure GI (S:Xs) (pb gb B:Nat) (w wr:Xw) (s:St) (nds:List Nd) (gv:Xv) (m:Nat) (xs:Xm):Prop where
 af:∃p,Inv p s
 op:s.op=0
 pl:PL S wr pb s
 aC:xH wr gb #[gv] 76
 own:wr.ownsRow B 71 1 gv m xs
 ok:s.er=0->m=nds.length/\ie B wr gv nds xs
 fr:Fr (·=pb) w wr
theorem KV {S:Xs}{n b:Nat}{f x:Xw}{s u:St}{z:List Nd}{o v:Xv}{m:Nat}{K:Xm}{a:Xp}{X:Obj}
 (h:GI S n b B w wr s z o m K) (H:n<b) (Q:b<B) (J:w.heap.size<=b) (A:B<=wr.heap.size) (M:∃p,Inv p u) (F:u.er=0->s.er=0) (T:u.op=0)
 (r:Fr (·=n) wr f) (I:u.er=0->ND q (.pointer a) f wr.heap.size)
 (E:PL S x n u) (e:Fr (λk=>o.ownBlock=some k) (f.alloc X) x) (G:x.heap[b]?=some (.cells #[o] 76 (0,0)))
 (y:x.ownsRow B 71 1 v (m+1) (K++[.pointer a])) (l:∀k,v.ownBlock=some k->o.ownBlock=some k∨(f.alloc X).heap.size<=k) :
 GI S n b B w (x.setCell (xD b 0) v) u (z++[q]) v (m+1) (K++[.pointer a]):=by
 have t:∀k,o.ownBlock=some k->B<=k/\k<wr.heap.size:=λk hk=>h.own.lt k hk;have V:=r.size;have W:=e.size;have Y:(f.alloc X).heap.size=f.heap.size+1:=by simp
 have D:Fr (λk=>k=n∨k=b∨o.ownBlock=some k) wr (x.setCell (xD b 0) v):=by have h1:Fr (λk=>k=n∨k=b∨o.ownBlock=some k) wr (f.alloc X):=(r.mono (λ_ _ h=>ao h)).alloc X;exact (h1.dr e (λ_ _ h=>ap (ap h))).setCell (ao (ap (ao rfl))) _
 refine⟨M,T,E.aU H _ _,zh _ _ _ _ G,zi y (λk h1 _ _=>zr (by omega) rfl),?_,?_⟩
 . intro L;obtain⟨N,O⟩:=h.ok (F L);refine⟨by simp[N],?_⟩;have C:=ie.next (av':=v) D (λk hk=>by
    rcases hk with hk|hk|hk
    . left;omega
    . left;omega
    . exact ap hk) (λk hk=>by
    rcases l k hk with h1|h1
    . exact ao h1
    right;omega) _ _ O
   refine ie.snoc ?_ _ _ C;refine⟨f,wr.heap.size,A,I L,λk h1 P=>?_,λg R=>?_,?_⟩
   . exact zr (by omega) ((e.block k (by omega) (λh=>by have:=(t k h).2;omega)).trans (mm _ _ _ P))
   . rcases l g R with h|h
     . left;exact (t g h).2
     right;omega
   simp[World.setCell];omega
 have h1:Fr (·=n) w (f.alloc X):=(h.fr.trans r).alloc X;exact (h1.dr e (λi M U=>by have:=(t i U).1;omega)).aO J _ _
theorem IJ (t:Tk):(((ck t:Nat):Int) != 1)=!(t.k==0):=by
 by_cases h:t.k=0
 . simp[ck,h]
 have:ck t≠1:=by unfold ck;(repeat' split) <;> first|decide|(exfalso;omega)
 have a:(t.k==0)=false:=by simp[h]
 rw[a];simp;omega
theorem JJ (a:zv 17 c)(b:zv 18 d){f p:Nat}{e:St}(g:Inv p e)(i:e.op=0)(l:(a7 c d f e).1.er=0):e.er=0:=by
 have k:=(px a b (f:=f) (nodes:=[]) g i (by simp)).1.er;by_cases h:e.er=0
 . exact h
 exact absurd (k.symm.trans l) ((RW a b (f:=f) (nodes:=[]) g i).2.2.2 h)
theorem KS:zH 73:=λ_ _=>by kernel_rfl
theorem Tryz.AJ:(prog.info? 71).map (λi=>(i.zero,i.size,i.bytes))=some (some (.pointer none),1,8):=by kernel_rfl
def lq (w:Xw)(B:Nat):List Nd->List Value->Prop
 | [],a=>a=[]
 | q::e,a=>∃v b,a=v::b/\ND q v w B/\lq w B e b
theorem ie.now:∀{a:List Nd} {b:Xm},ie B w j a b->lq w B a b:=by
 intro a;induction a with
 | nil=>intro b h;exact h
 | cons q a i => rintro b ⟨v,k,e,f,g⟩;exact⟨v,k,e,KP f,i g⟩
theorem lq.down {e:Nat}(k:e<=B):∀{a:List Nd} {b:Xm},lq w B a b->lq w e a b:=by
 intro a;induction a with
 | nil=>intro b h;exact h
 | cons q a l => rintro b ⟨v,m,f,g,i⟩;exact⟨v,m,f,g.down k,l i⟩
def PG (a:List Nd)(v:Xv)(w:Xw)(B:Nat):Prop:=∃b e f,v=xP b/\B<=b/\w.heap[b]?=some (.cells #[e] 76 (0,0))/\w.ownsRow B 71 1 e a.length f/\lq w B a f
theorem H7 (cl:zX 18 178 d)(cg:ig 18 c)(I:zv 17 c)(J:zv 18 d)(S:Xs)(t p f:Nat)(bC:1202<f)(bE:f<=5000)(Q:St)(w:Xw)(cs:Inv p Q)(cz:Q.op=0)(hR:PL S w t Q){R:St×List Nd}(bA:Mq c d f f ((a7 c d f Q).1,[]++[(a7 c d f Q).2])=R) :
 xK 32 #[xP t] w (λe w'=>∃a:Addr,e=.returned (.pointer (some a))/\PL S w' t (cW R.1)/\Fr (·=t) w w'/\aa ((cW R.1).er=0->PG R.2 (.pointer (some a)) w' w.heap.size)):=by
 have b1:=hR.lt;have bo:=za bA
 have bx:GI S t w.heap.size (w.heap.size+1) w (w.alloc (.cells #[.slice none 0 0] 76)) Q [] (.slice none 0 0) 0 [] :=
  ⟨⟨p,cs⟩,cz,hR.alloc _,zc w _,World.ownsRow_nil _ _ _ _,λ_=>⟨rfl,rfl⟩,(Fr.refl _ w).alloc _⟩
 have a9:=za bx;go_enter func32,ntmps32;go_wp2_with fail;go_loopg [4] f (λk cE wx=>∃(b:Bool) (s:St) (i:List Nd) (Z:Xv) (m:Nat) (xs:Xm),cE=.bool b/\aa (GI S t w.heap.size (w.heap.size+1) w wx s i Z m xs)/\aa (w.heap.size+1<=wx.heap.size)/\aa (b=true->m<=5/\Mq c d f k ((a7 c d f s).1,i++[(a7 c d f s).2])=R/\1201-s.t.a<k)/\aa (b=false->(s,i)=R));case atStart=>exact⟨true,Q,[],.slice none 0 0,0,[],rfl,a9,by unfold aa;simp,λ_=>⟨by omega,bo.o,by omega⟩,λh=>by cases h⟩
 case round =>
  obtain⟨b,s,i,Z,m,xs,rfl,u,bs,ck,a6⟩:=hrel;cases b with
  | false =>
    have ch:=za (a6.o rfl);have l:GI S t w.heap.size (w.heap.size+1) w wr R.1 R.2 Z m xs:=(by rw[<- ch.o];exact u.o);obtain⟨h0,h1,h2,h3,h4,h5,N⟩:=l.pl.cells;have aV:=l.pl.lt;have cb:wr.cell? (xD 8 0)=some (.iface 316 (.pointer (some (S 2)))):=l.pl.gl.e6;have aL:=IJ R.1.t;cases T:(R.1.t.k==0) with
    | true => rw[T] at aL;go_wp2_with fail;go_ret;have C:cW R.1=R.1:=(by unfold cW;rw[ag (by simpa using T)]);rw[C];refine⟨(xD w.heap.size 0),rfl,l.pl,l.fr,λO=>?_⟩;obtain⟨e1,co⟩:=l.ok O;subst e1;exact⟨w.heap.size,Z,xs,rfl,an _,l.aC,zR l.own (by omega),co.now.down (by omega)⟩
    | false => rw[T] at aL;go_wp2_with fail;refine (li S t R.1 2 (by decide) wr l.pl).mono ?_;rintro e w5 ⟨rfl,be,a5⟩;go_wp2_with fail;go_ret;have C:cW R.1=R.1.fail 2 R.1.t.a:=(by unfold cW;rw[ae (by simpa using T)]);rw[C];exact⟨(xD w.heap.size 0),rfl,be,l.fr.trans a5,λO=>absurd O (St.cy _ (by decide))⟩
  | true =>
    obtain⟨cv,o,a1⟩:=ck.o rfl;have cA:=bs.o;have aV:=u.o.pl.lt;obtain⟨cO,F⟩:=u.o.af;have V:=za (λw1 h=>IU cl cg I J S t cO f bC bE s w1 F u.o.op h);obtain⟨_,_,n3,n4,n5⟩:=px I J (f:=f) (nodes:=[]) F u.o.op (by simp);have K:=za (λC=>JJ I J (f:=f) F u.o.op C);obtain⟨y,hy⟩:∃y,a7 c d f s=y:=⟨_,rfl⟩;rw[hy] at V n3 n4 n5 K o;have bl:=za o;have H:=za a1;have L:=za n3;have bp:=za n4;have bq:=za n5;obtain⟨q0,qf,cR⟩:=zu u.o.aC;obtain⟨i0,hi,bL,bY,b0⟩:=info_parts Tryz.AJ;have mx:m+1<=maxLen:=(by unfold maxLen;omega);have bt:(m+1)*8<=140737488355328:=(by omega);go_upto_block 1 with fail;go_cut [] (λwy=>∃bv b4,aa (GI S t w.heap.size (w.heap.size+1) w wy y.1 (i++[y.2]) bv (m+1) b4)/\aa (w.heap.size+1<=wy.heap.size));case first =>
     go_wp2_with fail;go_region_law (first|(refine kD rfl 73 (.tmp 23) 176 rfl KS (xP t) rfl (V.o _ u.o.pl.drew) ?_;rintro e w2 ⟨cm,rfl,bb,aA,a0⟩;refine⟨_,rfl,?_⟩;have D:Fr (·=t) wr w2:=aA.cQ;have cd:=D.size;have z:=(D.block w.heap.size cR (by omega)).trans u.o.aC;obtain⟨f0,ff,fz⟩:=zu z;have r:=za (zi u.o.own (λk h1 h2 _=>D.block k h2 (by omega)));have X:=za a0.out;have b2:w.heap.size+1<=w2.heap.size+1:=(by omega))|(refine zJ _ rfl (.tmp 22) (.tmp 25) 70 rfl (w.heap.size+1) 71 i0 _ 1 8 underlying70 hi bL bY b0 rfl (by decide) Z m xs rfl (zD r.o _) (xD w2.heap.size 0) 1 1 [.pointer (some cm)] rfl rfl (zN (zc w2 _) rfl) yv mx bt (by simpa using b2) ?_;intro v' w9 A P M;obtain⟨g9,ca,rfl,ct⟩:=zM A (by omega);have E:=Fr.gi P;have bB:w9.heap[w.heap.size]?=w2.heap[w.heap.size]?:=((E.block w.heap.size (by rw[au];omega) (λh=>by have:=(r.o.lt _ h).1;omega)).trans (mm _ _ _ fz));have W:=za (bB.trans z);obtain⟨m0,cB,cK⟩:=zu W.o;have bg:=za (PL.fr (bb.alloc _) E (λk T=>by have:=(r.o.lt k T).1;omega));have a3:=E.size;rw[au] at a3));all_goals go_wp2_with fail
     all_goals go_meet
     all_goals exact⟨_,_,KV u.o b1 (by omega) (by omega) (by omega) ⟨0,L.o⟩ K.o bp.o D X.o bg.o E W.o A M,(by unfold aa;simp[World.setCell];omega)⟩
    case rest =>
     obtain⟨ar,a4,n,Y⟩:=hcut;have x:=za L.o.bd;obtain⟨x2,cn,bK⟩:=kE n.o.own;have z:=n.o.aC;rw[bK] at z;obtain⟨m0,cB,cK⟩:=zu z;obtain⟨g,rfl⟩:∃g,gk=g+1:=⟨gk-1,by have:=H.o;omega⟩;have v:=za (fH S t y.1 ⟨#[110,111,100,101]⟩ _ yC wc x.o.ok.tk n.o.pl);rw[MH n.o.pl.tx (by decide)] at v;have a2:Mq c d f (g+1) (y.1,i++[y.2])=if y.1.is 5 zW=true/\(i++[y.2]).length<6 then Mq c d f g ((a7 c d f y.1).1,(i++[y.2])++[(a7 c d f y.1).2]) else (y.1,i++[y.2]):=rfl;have o:=bl.o;rw[a2] at o;have bk:aa (y.1.is 5 zW=true->m+1<6->Mq c d f g ((a7 c d f y.1).1,(i++[y.2])++[(a7 c d f y.1).2])=R/\1201-y.1.t.a<g):=λG c0=>by have C:y.1.er=0:=x.o.er (by rw[Inv.bP G];decide);have b3:=(n.o.ok C).1;rw[ag ⟨G,by omega⟩] at o;have ce:=bq.o (K.o C) C;have c3:=H.o;have k4:=L.o.ok.bR;have c4:=F.ok.bR;exact⟨o,by omega⟩
     have U:aa (¬(y.1.is 5 zW=true/\m+1<6)->(y.1,i++[y.2])=R):=λG=>by
      rw[ae] at o
      . exact o
      rintro⟨c1,c2⟩;have C:y.1.er=0:=x.o.er (by rw[Inv.bP c1];decide);have b3:=(n.o.ok C).1;exact G ⟨c1,by omega⟩
     cases G:y.1.is 5 zW with
     | false =>
       rw[G] at v;go_wp2_with (go_at_call 72;refine v.o.mono ?_;rintro e w' ⟨rfl,rfl⟩);go_roundg g;case measure=>omega
       exact⟨false,y.1,i++[y.2],ar,m+1,a4,rfl,n,Y,λh=>(by cases h),λ_=>U.o (λh=>by rw[G] at h;cases h.1)⟩
     | true =>
       rw[G] at v;go_wp2_with (go_at_call 72;refine v.o.mono ?_;rintro e w' ⟨rfl,rfl⟩);go_roundg g;case measure=>omega
       refine⟨decide (m+1<6),y.1,i++[y.2],ar,m+1,a4,?_,n,Y,λh=>?_,λh=>?_⟩
       . congr 1;by_cases N:m+1<6
         . rw[decide_eq_true N];exact decide_eq_true (by omega)
         rw[decide_eq_false N];exact decide_eq_false (by omega)
       . have N:m+1<6:=(by simpa using h);obtain⟨b3,ce⟩:=bk.o G N;exact⟨by omega,b3,ce⟩
       have N:¬m+1<6:=(by simpa using h);exact U.o (λh'=>N h'.2)
end
section
open Go.RowKit
def ew (p:Xb)(e:Xv):Value:=.iface 173 (.agg #[.string p,e])
theorem rm (p:Xb)(t:Xy)(v:Xv)(w:Xw):xK 29 #[.string p,.iface t v] w λe a=>e=.returned (ew p (.iface t v))/\w=a:=by go_enter func29,ntmps29;go_wp2_with fail;go_ret;exact⟨rfl,rfl⟩
def St.first (s:Xb):St:=⟨s,zZ s 0,0,0,0,[]⟩
theorem sk {s:Xb}(a:s.size<=1200):Inv 0 (St.first s):=by have h:=zV s 0 (aE _);refine⟨⟨a,h.2.2.1,h.2.1,h.2.2.2.1,by simp[St.first],by simp[St.first],by simp[St.first],h.2.2.2.2.1⟩,?_,?_,?_,?_,?_⟩;all_goals first|exact h.2.2.2.2.2|simp[St.first]
def iN:ByteArray:=⟨#[114,101,97,100,105,110,103]⟩
def Jr (S:Xs)(w:Xw)(r:St×List Nd)(e:Ending)(b:Xw):Prop :=
 (r.1.er≠0->e=.returned (.tuple #[.pointer none,ew iN (cJ S r.1.er r.1.at')])) /\
 (r.1.er=0->∃a:Addr,e=.returned (.tuple #[.pointer (some a),.nilIface])/\PG r.2 (.pointer (some a)) b w.heap.size)/\xB w b
theorem yG {b c:Fn}(U:zX 18 178 c)(P:ig 18 b)(x:zv 17 b)(y:zv 18 c)(S:Xs)(f:Nat)(C:1202<f)(D:f<=5000)(s:Xb)(w:Xw)(q:Gl S w)(K:s.size<=1200){R:St×List Nd}(B:dm b c f s=R) :
 xK 14 #[.string s] w (Jr S w R):=by
 have Y:=q.size;have u:=za (xJ S s 0 w K (aE _) q);obtain⟨Q,I⟩:∃Q,Mq b c f f ((a7 b c f (St.first s)).1,[]++[(a7 b c f (St.first s)).2])=Q:=⟨_,rfl⟩;have n:R=(cW Q.1,Q.2):=by rw[<- B,<- I];rfl
 have t:=za (λpb j h=>H7 U P x y S pb 0 f C D (St.first s) j (sk K) rfl h I);have W:¬(1200<(s.size:Int)):=by omega
 go_enter func14,ntmps14;go_wp2_with fail;refine u.o.mono ?_;rintro e j ⟨rfl,d⟩;have Z:=d.size;have z:PL S (j.alloc (lu S (St.first s))) j.heap.size (St.first s):=⟨yh s 0,zc j _,q.of (T:=λ_=>False) (Fr.alloc (Fr.Mo d) _) (λ_ h=>h.elim),by omega⟩;have m:=za z;unfold Tk.dX;have E:lu S (St.first s)=.cells #[.string s,xI (ck (zZ s 0)),.string (cs s (zZ s 0)),.int .i64 (zZ s 0).a,xI (cn (zZ s 0)),xI 0,.nilIface] 105:=by simp[lu,St.first,cJ]
 rw[E] at m;go_wp2_with fail;refine (t.o _ _ m.o).mono ?_;rintro e w2 ⟨a,rfl,p,o,A⟩;have F:=o.size;rw[au] at F;have l:aa (xB w w2):=by have G:Fr (λ_=>False) w j:=Fr.Mo d;have h:=(G.alloc (.cells #[.string s,xI (ck (zZ s 0)),.string (cs s (zZ s 0)),.int .i64 (zZ s 0).a,xI (cn (zZ s 0)),xI 0,.nilIface] 105)).dr o (λi hi h=>by omega);exact⟨h.os,h.tape,h.output,h.size,λk V=>h.block k V (λh=>h)⟩
 obtain⟨h0,G,h2,h3,h4,h5,H⟩:=p.cells;have J:=p.lt;have r:=za A.out;by_cases g:(cW Q.1).er=0
 . rw[show cJ S (cW Q.1).er (cW Q.1).at'=.nilIface by simp[cJ,g]] at H;go_wp2_with fail;refine ab (v:=.tuple #[.pointer (some a),.nilIface]) (by simp[results,results14,go_sem]) rfl ?_;rw[n];refine⟨λh=>absurd g h,λ_=>⟨a,rfl,?_⟩,l.o⟩;have X:=r.o g;obtain⟨N,O,xs,k0,ar,aA,L,M⟩:=X;rw[au] at ar L M;exact⟨N,O,xs,k0,by omega,aA,zR L (by omega),M.down (by omega)⟩
 rw[show cJ S (cW Q.1).er (cW Q.1).at'=.iface 53 (.agg #[aW S (cW Q.1).er,.int .i64 (cW Q.1).at']) by simp[cJ,g]] at H;go_wp2_with (go_at_call 29;refine (rm _ _ _ _).mono ?_;rintro e w3 ⟨rfl,rfl⟩);refine ab (v:=.tuple #[.pointer none,ew iN (.iface 53 (.agg #[aW S (cW Q.1).er,.int .i64 (cW Q.1).at']))]) (by simp[results,results14,go_sem,iN]) rfl ?_;rw[n];refine⟨λ_=>?_,λh=>absurd h g,l.o⟩
 show _=Ending.returned (.tuple #[.pointer none,ew iN (cJ S (cW Q.1).er (cW Q.1).at')]);rw[show cJ S (cW Q.1).er (cW Q.1).at'=.iface 53 (.agg #[aW S (cW Q.1).er,.int .i64 (cW Q.1).at']) by simp[cJ,g]]
theorem BW (S:Xs)(s:Xb)(w:Xw)(c:Gl S w)(j:1200<s.size) :
 xK 14 #[.string s] w (λe h=>e=.returned (.tuple #[.pointer none,ew iN (cJ S 1 0)])/\xB w h):=by
 have f:=c.size;have a:=c.ou;have d:1200<(s.size:Int):=by omega
 unfold aW at a;go_enter func14,ntmps14;go_wp2_with (first|(go_at_call 30;refine (py S 1 0 _).mono ?_;rintro i k ⟨rfl,b⟩;have g:=b.size)|(go_at_call 29;refine (rm _ _ _ _).mono ?_;rintro e l ⟨rfl,rfl⟩));refine ab (v:=.tuple #[.pointer none,ew iN (cJ S 1 0)]) (by simp[results,results14,go_sem,iN,cJ,aW]) rfl ⟨rfl,b⟩
theorem pE:∃a b:Fn,a=(fx 17).ex/\b=(fx 18).ex/\zX 18 178 b/\ig 18 a/\zv 17 a/\zv 18 b:=by obtain⟨d,_,_,c⟩:=JH 18;refine⟨_,_,rfl,rfl,d,?_,(pm 17).1,(pm 18).1⟩;rw[ae (by decide)] at c;exact c
end
section
open Go.RowKit
variable {a:Addr} {B N b i j:Nat} {l m:Obj} {P:Program} {u v:Xv} {W w w' n:Xw}
theorem WH (w:Xw)(g:Nat)(cs:Xa):Fr (·=g) w (w.setRow g cs) :=
 ⟨rfl,rfl,rfl,by simp[World.setRow],λk _ c=>setRow_other w g k cs c⟩
theorem Rx (w:Xw)(r y A e:Xy)(g d h:Nat)(z:Xp)(f k:Nat)(c:Xm)(t:Xy)(cs:Xm)
 (E:P.underlying r=some (.slice e)) (D:(P.info? e).map (·.size)=some 1)
 (s:xH w g c.toArray t) (C:cs.length=Nat.min f d)
 (p:0<cs.length->∃q,z=some q/\∀j v,cs[j]?=some v->w.cell? (q.add j)=some v) (o:cs.length<=c.length) (G:∀v∈cs,v.oneCell'=true) :
 ∃w',(Builtin.copy_ #[r,y] A #[xS g d h,.slice z f k]).run P w=.ok (goInt cs.length) w'/\w'.heap[g]?=some (.cells (cs++c.drop cs.length).toArray t (0,0))/\Fr (·=g) w w':=by
 by_cases F:cs.length=0
 . obtain rfl:cs=[]:=List.eq_nil_of_length_eq_zero F;exact⟨w,run_copy_none (P:=P) w r y A e _ z d h f k E D (by simpa using C.symm),by simpa using s,Fr.refl _ w⟩
 obtain⟨q,rfl,x⟩:=p (by omega);refine⟨_,run_copy_row (P:=P) w r y A e g 0 d h q f k c.toArray t cs E D s C x (by simpa using o) G,?_,WH _ _ _⟩;have:=setRow_heap w g c.toArray (c.take 0++cs++c.drop (0+cs.length)).toArray t _ s;simpa using this
theorem Wu {z:Array Oper}{o:Oper}{a:Act}{K:Act->World->Prop}{Q:Exit->Act->World->Prop}{E:Prop}(C:o.guard=none)(d s:Operand)(A H:Xy)
 (S:o.op=.call { callee:=.builtin .copy,args:=#[d,s],argTypes:=#[A,H] }) (e:Xy) (U:P.underlying A=some (.slice e)) (D:(P.info? e).map (·.size)=some 1)
 (g c p:Nat) (F:Xp) (f q:Nat) (M:a.eval d=xS g c p) (T:a.eval s=.slice F f q)
 (k:Xm) (t:Xy) (O:xH w g k.toArray t) (cs:Xm) (R:cs.length=Nat.min f c)
 (y:0<cs.length->∃G,F=some G/\∀j v,cs[j]?=some v->w.cell? (G.add j)=some v) (r:cs.length<=k.length) (I:∀v∈cs,v.oneCell'=true)
 (h:∀w',w'.heap[g]?=some (.cells (cs++k.drop cs.length).toArray t (0,0))->Fr (·=g) w w'->K (a.put o.dst (goInt cs.length)) w') :
 if Region.wanted o (yielded z a.tmps)=true then Oper.wp P o a w K Q else E:=by
 have V:Region.wanted o (yielded z a.tmps)=true:=by simp[Region.wanted,C]
 rw[ag V];obtain⟨w',x,J,L⟩:=Rx (P:=P) w A H o.type e g c p F f q k t cs U D O R y r I;unfold Oper.wp;simp[execOp,S,resolve,invoke,builtin,M,T,x,Result.andThen];exact h w' J L
theorem VV (b:Nat)(t:Xy):∀(d:Xm) (o:Nat) (w:Xw) (c:Xm),w.heap[b]?=some (.cells c.toArray t (0,0))->o+d.length<=c.length->(w.setCells b o d).heap[b]?=some (.cells (c.take o++d++c.drop (o+d.length)).toArray t (0,0))/\Fr (·=b) w (w.setCells b o d):=by
 intro d;induction d with
 | nil=>intro o w c h _;exact⟨by simpa [World.setCells] using h,Fr.refl _ w⟩
 | cons v d q =>
   intro o w c h p;simp only[bJ] at p;have e:=zh w b o v h;have k:c.toArray.setIfInBounds o v=(c.set o v).toArray:=(by simp);rw[k] at e;obtain⟨r,s⟩:=q (o+1) (w.setCell (xD b o) v) (c.set o v) e (by simp;omega);refine⟨?_,((Fr.refl (·=b) w).aY o v).trans s⟩
   show (World.setCells (w.setCell (xD b o) v) b (o+1) d).heap[b]?=_;rw[r];congr 3;have f:(c.set o v).take (o+1)=c.take o++[v]:=(by rw[List.take_set,List.take_succ_eq_append_getElem (by omega:o<c.length),List.set_append_right _ _ (by simp;omega)];simp[Nat.min_eq_left (by omega:o<=c.length)]);have g:(c.set o v).drop (o+1+d.length)=c.drop (o+(d.length+1)):=(by rw[List.drop_set_of_lt (by omega)];congr 1;omega);rw[f,g];simp
theorem VO (w:Xw)(t e o:Xy)(z:Xv)(k:P.underlying t=some (.slice e))(r:∀w,(zeroValue e).run P w=.ok z w)(s:z.cells=#[z])(q:z.oneCell'=true)(b c:Nat)(d:Xm)(g:Xy)
 (f:w.heap[b]?=some (.cells d.toArray g (0,0))) :
 ∃w',(Builtin.clear_ #[t] o #[xS b d.length c]).run P w=.ok (.tuple #[]) w'/\w'.heap[b]?=some (.cells (List.replicate d.length z).toArray g (0,0))/\Fr (·=b) w w':=by
 by_cases p:d.length=0
 . obtain rfl:d=[]:=List.eq_nil_of_length_eq_zero p;refine⟨w,?_,by simpa using f,Fr.refl _ w⟩;simp[Builtin.clear_,run_underlying k]
 refine⟨_,Lib.run_clear_slice (P:=P) w t e o z k r s q b 0 d.length c (by omega) (λj h=>?_) (λj h=>?_),?_⟩
 . simp[World.cell?,f,h]
 . simp[World.frozen?,f]
 have:=VV b g (List.replicate d.length z) 0 w d f (by simp);simpa using this
theorem zg (h:W.cell? a=some v):W.drew.cell? a=some v:=h
theorem zj (o:Obj)(h:W.cell? a=some v):(W.alloc o).cell? a=some v:=Lib.cell?_alloc_some o h
theorem zk {k:Nat}(c:¬k=b)(h:W.cell? (xD k i)=some v):(W.setCell (xD b j) u).cell? (xD k i)=some v :=
 (Z6 (w:=W) (Below.heap_setCell W _ u k c)).trans h
theorem xb (h:∃v,W.cell? (xD b i)=some v):(W.setCell (xD b i) u).cell? (xD b i)=some u:=by
 obtain⟨v,d⟩:=h;unfold World.cell? at d ⊢;simp only[World.setCell,Array.getElem?_modify] at d ⊢;cases g:W.heap[b]? with
 | none=>simp[g] at d
 | some o =>
   cases o with
   | cells c e f =>
     simp only[g] at d;have k:i<c.size:=by
      rcases Nat.lt_or_ge i c.size with h|h
      . exact h
      simp[Array.getElem?_eq_none h] at d
     simp[k]
   | _=>simp[g] at d
theorem xc (h:W.cell? (xD b i)=some v):∃v,(W.setCell (xD b j) u).cell? (xD b i)=some v:=by
 unfold World.cell? at h ⊢;simp only[World.setCell,Array.getElem?_modify] at h ⊢;cases d:W.heap[b]? with
 | none=>simp[d] at h
 | some o =>
   cases o with
   | cells c e f =>
     simp only[d] at h;have g:i<c.size:=by
      rcases Nat.lt_or_ge i c.size with h'|h'
      . exact h'
      simp[Array.getElem?_eq_none h'] at h
     simp[g]
   | _=>simp[d] at h
theorem zd (h:Below B w W)(d:w.cell? (xD b i)=some v)(c:b<B):W.cell? (xD b i)=some v:=(Z6 (w:=w) (h.block b c)).trans d
theorem zE (h:Below (w.alloc l).heap.size (w.alloc l) n):xB w n :=
 ((yS w.heap.size w).alloc (an _) l).trans (h.mono (by simp))
theorem r3 (h:Below ((w.alloc l).alloc m).heap.size ((w.alloc l).alloc m) n):xB w n:=zE (zE h)
theorem QQ {c:Obj}(h:Below (((w.alloc l).alloc m).alloc c).heap.size (((w.alloc l).alloc m).alloc c) n):xB w n:=zE (r3 h)
theorem OJ (c:N<=w.heap.size)(l:Obj):∀k,k<N->(w.alloc l).heap[k]?=w.heap[k]?:=λk d=>mm _ _ _ (by omega)
theorem j8 (c:N<=w.heap.size)(l m:Obj):∀k,k<N->((w.alloc l).alloc m).heap[k]?=w.heap[k]?:=λk d=>(mm _ _ _ (by simp;omega)).trans (mm _ _ _ (by omega))
theorem yR (c:N<=w.heap.size)(l m e:Obj):∀k,k<N->(((w.alloc l).alloc m).alloc e).heap[k]?=w.heap[k]?:=λk d=>(mm _ _ _ (by simp;omega)).trans (j8 c l m k d)
theorem zq (w:Xw)(l:Obj):xB w (w.alloc l):=(yS w.heap.size w).alloc (an _) l
theorem cT (w:Xw)(l m:Obj):xB w ((w.alloc l).alloc m):=zE (zq _ _)
theorem mg (w:Xw)(l m c:Obj):xB w (((w.alloc l).alloc m).alloc c):=zE (cT _ _ _)
theorem zo (h:Below B w W):Below B w W.drew:=⟨h.os,h.tape,h.output,h.size,h.block⟩
theorem zC (h:Below B w W)(c:B<=b)(u:Xv):Below B w (W.setCell (xD b i) u):=h.setCell c u
def bV (N:Nat)(w w':Xw):Prop:=∀k,k<N->w'.heap[k]?=w.heap[k]?
theorem bV.trans {a b c:Xw}(h:bV N a b)(k:bV N b c):bV N a c:=λi d=>(k i d).trans (h i d)
theorem Fr.am {S:Xj}(h:Fr S w w')(e:N<=w.heap.size)(c:∀k,S k->N<=k):bV N w w':=λk f=>h.block k (by omega) (λd=>by have:=c k d;omega)
theorem zm (h:Below B w w')(c:N<=B):bV N w w':=λk d=>h.block k (by omega)
end
section
open Go.RowKit
variable {L:List Ex} {c:Xm} {B N:Nat} {v:Xv} {w w':Xw}
inductive Tm where
 | mk (k a:Nat) (s:Xb) (nm n:Nat) (as':List Tm)
def Tm.k:Tm->Nat|.mk k _ _ _ _ _=>k
def Tm.a:Tm->Nat|.mk _ a _ _ _ _=>a
def Tm.s:Tm->ByteArray|.mk _ _ s _ _ _=>s
def Tm.nm:Tm->Nat|.mk _ _ _ nm _ _=>nm
def Tm.n:Tm->Nat|.mk _ _ _ _ n _=>n
def Tm.ts:Tm->List Tm|.mk _ _ _ _ _ l=>l
inductive bX (L:List Ex):Nat->Tm->Prop
 | mk (x:Nat) (ex:Ex) (ts:List Tm) (hx:L[x]?=some ex) (hl:ts.length=ex.ah.length) (hr:∀(i y:Nat) (t:Tm),ex.ah[i]?=some y->ts[i]?=some t->bX L y t) :
    bX L x (.mk (aF ex.op.toList ex.n) ex.a ex.s ex.nm (df ex.op.toList ex.n) ts)
inductive TT (w:Xw) (N:Nat):Tm->Value->Prop
 | mk (k a:Nat) (s:Xb) (nm n:Nat) (ts:List Tm) (b:Nat) (args:Xv) (vs:Xm) (hN:b<N)
    (hb:xH w b #[xI k,xI a,.string s,xI nm,xI n,args] 211)
    (ha:w.ownsRow 0 157 1 args vs.length vs) (hg:∀g,args.ownBlock=some g->g<N) (hl:vs.length=ts.length)
    (hr:∀(i:Nat) (t:Tm) (v:Xv),ts[i]?=some t->vs[i]?=some v->TT w N t v):TT w N (.mk k a s nm n ts) (xP b)
theorem TT.am {t:Tm}(h:TT w N t v)(j:bV N w w'):TT w' N t v:=by
 induction h with
 | mk k a s q n r b d u f m l i o _ p => exact TT.mk k a s q n r b d u f ((j b f).trans m) (zi l (λg _ _ e=>j g (i g e))) i o p
theorem HG {P:Nat->Tm->Value->Prop}:∀(a:Xn) (b:Xm),b.length=a.length->(∀(i y:Nat) (v:Xv),a[i]?=some y->b[i]?=some v->∃t,P y t v)->∃g:List Tm,g.length=a.length/\∀(i y:Nat) (t:Tm) (v:Xv),a[i]?=some y->g[i]?=some t->b[i]?=some v->P y t v:=by
 intro a;induction a with
 | nil=>intro b _ _;exact⟨[],rfl,λi y t v h=>by simp at h⟩
 | cons y a n =>
   intro b j h;cases b with
   | nil=>simp at j
   | cons v b =>
     obtain⟨t,m⟩:=h 0 y v rfl rfl;obtain⟨g,k,l⟩:=n b (by simpa using j) (λi y v f e=>h (i+1) y v (by simpa using f) (by simpa using e));refine⟨t::g,by simp[k],λi q o p f d e=>?_⟩;cases i with
     | zero=>simp at f d e;subst f d e;exact m
     | succ i=>exact l i q o p (by simpa using f) (by simpa using d) (by simpa using e)
theorem TR.tree {x:Nat}(h:TR w B L x v):∃t,bX L x t/\TT w w.heap.size t v:=by
 induction h with
 | mk x a b f l A E q p z _ D =>
   obtain⟨j,u,o⟩:=HG (P:=λy t v=>bX L y t/\TT w w.heap.size t v) a.ah l z D;have r:∀i t,j[i]?=some t->∃y v,a.ah[i]?=some y/\l[i]?=some v:=λi t d=>by have F:=(aB.1 d).1;exact⟨_,_,av (by omega),av (by omega)⟩
   refine⟨.mk (aF a.op.toList a.n) a.a a.s a.nm (df a.op.toList a.n) j,bX.mk x a j A u (λi y t C d=>?_),TT.mk _ _ _ _ _ j b f l (ze q) q (zR p (aE _)) (λg e=>(p.lt g e).2) (by omega) (λi t v d k=>?_)⟩
   . obtain⟨s,v,m,n⟩:=r i t d;exact (o i y t v C d n).1
   obtain⟨s,G,m,n⟩:=r i t d;exact (o i s t v m d k).2
structure Qn where
 ns:List ByteArray
 ps:List Nat
 a:Nat
 r:Tm
structure ay where
 nm:ByteArray
 a:Nat
 ak:List Vr
 ah:Nat
 aG:Nat
 eqs:List Qn
def j2 (w:Xw)(N:Nat):List Qn->List Value->Prop
 | [],c=>c=[]
 | q::d,c=>∃a v b,c=a::(xI q.a)::v::b/\w.ownsRow 0 78 2 a q.ns.length (gg q.ns q.ps)/\(∀g,a.ownBlock=some g->g<N)/\TT w N q.r v/\j2 w N d b
theorem j2.am (d:bV N w w'):∀{a:List Qn} {c:Xm},j2 w N a c->j2 w' N a c:=by
 intro a;induction a with
 | nil=>intro c h;exact h
 | cons q a l => rintro c ⟨m,v,n,f,i,b,j,k⟩;exact⟨m,v,n,f,zi i (λg _ _ e=>d g (b g e)),b,j.am d,l k⟩
structure NT (w:Xw) (N:Nat) (n:ay) (nb:Nat) (vs ev:Xv) (c:Xm):Prop where
 aC:xH w nb #[.string n.nm,xI n.a,vs,xI n.ah,xI n.aG,ev] 82
 lo:nb<N
 bZ:w.ownsRow 0 95 7 vs n.ak.length (aag n.ak)
 jc:∀g,vs.ownBlock=some g->g<N
 own:w.ownsRow 0 159 3 ev n.eqs.length c
 ko:∀g,ev.ownBlock=some g->g<N
 eqs:j2 w N n.eqs c
 bO:n.ak.length<=16
theorem NT.am {n:ay}{d:Nat}{f b:Xv}(h:NT w N n d f b c)(a:bV N w w'):NT w' N n d f b c :=
 ⟨(a _ h.lo).trans h.aC,h.lo,zi h.bZ (λg _ _ e=>a g (h.jc g e)),h.jc,zi h.own (λg _ _ e=>a g (h.ko g e)),h.ko,h.eqs.am a,h.bO⟩
def NP (w:Xw)(N:Nat)(n:ay)(v:Xv):Prop:=∃a d b c,v=xP a/\NT w N n a d b c
theorem NP.am {n:ay}(h:NP w N n v)(d:bV N w w'):NP w' N n v:=by obtain⟨e,f,a,c,b,h⟩:=h;exact⟨e,f,a,c,b,h.am d⟩
structure NL (w:Xw) (N:Nat) (ns:List ay) (gv:Xv) (c:Xm):Prop where
 own:w.ownsRow 0 71 1 gv ns.length c
 lo:∀g,gv.ownBlock=some g->g<N
 at':∀(i:Nat) (n:ay),ns[i]?=some n->∃v,c[i]?=some v/\NP w N n v
 bO:ns.length<=6
theorem NL.am {d:List ay}{a:Xv}(h:NL w N d a c)(b:bV N w w'):NL w' N d a c :=
 ⟨zi h.own (λg _ _ e=>b g (h.lo g e)),h.lo,λi n k=>by obtain⟨v,f,j⟩:=h.at' i n k;exact⟨v,f,j.am b⟩,h.bO⟩
def PT (w:Xw)(N:Nat)(d:List ay)(v:Xv):Prop:=∃a b c,v=xP a/\a<N/\w.heap[a]?=some (.cells #[b] 76 (0,0))/\NL w N d b c
theorem PT.am {d:List ay}(h:PT w N d v)(b:bV N w w'):PT w' N d v:=by obtain⟨e,f,c,g,a,i,j⟩:=h;exact⟨e,f,c,g,a,(b _ a).trans i,j.am b⟩
structure RZ (L:List Ex) (q:ax) (q':Qn):Prop where
 ns:q'.ns=q.ns
 ps:q'.ps=q.ps
 a:q'.a=q.a
 r:bX L q.ex q'.r
def fM (L:List Ex):List ax->List Qn->Prop
 | [],a=>a=[]
 | q::l,a=>∃d b,a=d::b/\RZ L q d/\fM L l b
theorem fM.len:∀{l:List ax} {a:List Qn},fM L l a->a.length=l.length:=by
 intro l;induction l with
 | nil=>rintro a rfl;rfl
 | cons q l b=>rintro a ⟨e,d,rfl,_,h⟩;simp[b h]
structure ht (nd:Nd) (n:ay):Prop where
 nm:n.nm=nd.nm
 a:n.a=nd.a
 ak:n.ak=nd.ak
 ah:n.ah=nd.ah
 aG:n.aG=nd.aG
 eqs:fM nd.az nd.eqs n.eqs
def dS:List Nd->List ay->Prop
 | [],a=>a=[]
 | d::l,a=>∃n b,a=n::b/\ht d n/\dS l b
theorem dS.len:∀{l:List Nd} {a:List ay},dS l a->a.length=l.length:=by
 intro l;induction l with
 | nil=>rintro a rfl;rfl
 | cons q l b=>rintro a ⟨e,d,rfl,_,h⟩;simp[b h]
theorem JE:∀{b:List ax} {c:Xm},jn L w B b c->∃d,fM L b d/\j2 w w.heap.size d c:=by
 intro b;induction b with
 | nil=>intro c h;exact⟨[],rfl,h⟩
 | cons q b o => rintro c ⟨r,a,s,i,f,j⟩;obtain⟨p,k,l⟩:=o j;obtain⟨t,m,n⟩:=f.tr.tree;exact⟨⟨q.ns,q.ps,q.a,t⟩::p,⟨_,_,rfl,⟨rfl,rfl,rfl,m⟩,k⟩,r,_,s,i,zR f.own (aE _),λg e=>(f.own.lt g e).2,n,l⟩
theorem Kg {a:Nd}(h:ND a v w B):∃n,ht a n/\NP w w.heap.size n v:=by obtain⟨k,l,f,c,i,h⟩:=h;obtain⟨d,b,j⟩:=JE h.eqs;refine⟨⟨a.nm,a.a,a.ak,a.ah,a.aG,d⟩,⟨rfl,rfl,rfl,rfl,rfl,b⟩,k,l,f,c,i,⟨h.aC,ze h.aC,zR h.bZ (aE _),λg e=>(h.bZ.lt g e).2,?_,λg e=>(h.own.lt g e).2,j,h.bO⟩⟩;rw[show (d.length)=a.eqs.length from b.len];exact zR h.own (aE _)
theorem JK:∀{a:List Nd} {c:Xm},lq w B a c->∃b,dS a b/\∀(i:Nat) (n:ay),b[i]?=some n->∃v,c[i]?=some v/\NP w w.heap.size n v:=by
 intro a;induction a with
 | nil=>intro c _;exact⟨[],rfl,λi n h=>by simp at h⟩
 | cons d a p =>
   rintro c ⟨v,q,rfl,f,g⟩;obtain⟨b,j,k⟩:=p g;obtain⟨n,l,o⟩:=Kg f;refine⟨n::b,⟨n,b,rfl,l,j⟩,λi m e=>?_⟩;cases i with
   | zero=>simp at e;subst e;exact⟨v,rfl,o⟩
   | succ i=>simpa using k i m (by simpa using e)
theorem Ku {a:List Nd}(h:PG a v w B)(n:a.length<=6):∃b,dS a b/\PT w w.heap.size b v:=by obtain⟨j,k,c,l,p,f,i,m⟩:=h;obtain⟨b,d,o⟩:=JK m;refine⟨b,d,j,k,c,l,ze f,f,?_,λg e=>(i.lt g e).2,o,by rw[d.len];exact n⟩;rw[d.len];exact zR i (aE _)
end
section
variable {s:Xb} {k:Nat}
structure Sc where
 er:List ay
 nd:ay
def bm (s:Xb):List Vr->Nat->Option Nat
 | [],_=>none
 | v::l,i=>if v.nm=s then some i else bm s l (i+1)
def ay.find (n:ay)(s:Xb):Option Nat:=bm s n.ak 0
def Sc.idx (c:Sc)(s:Xb):Nat:=(c.nd.find s).getD 0
def fX (s:Xb):List ay->Nat->Option Nat
 | [],_=>none
 | n::l,i=>if n.nm=s then some i else fX s l (i+1)
def Sc.called (c:Sc)(s:Xb):Option Sc :=
 match fX s c.er 0 with
 | none=>none
 | some i=>match c.er[i]? with
   | none=>none
   | some n=>some ⟨c.er.take i,n⟩
theorem yA {l:List Vr}{v:Vr}(h:l[k]?=some v):bm s (l.drop k) k=if v.nm=s then some k else bm s (l.drop (k+1)) (k+1):=by obtain⟨a,b⟩:=aB.1 h;rw[dE a,b];rfl
theorem Iv {l:List ay}{v:ay}(h:l[k]?=some v):fX s (l.drop k) k=if v.nm=s then some k else fX s (l.drop (k+1)) (k+1):=by obtain⟨a,b⟩:=aB.1 h;rw[dE a,b];rfl
theorem kP:∀{l:List Vr} {i j:Nat},bm s l i=some j->i<=j/\j<i+l.length/\∃v,l[j-i]?=some v/\v.nm=s:=by
 intro l;induction l with
 | nil=>intro i j h;cases h
 | cons v l d =>
   intro i j h;unfold bm at h;split at h
   . rename_i c;cases h;exact⟨an _,by simp,v,by simp,c⟩
   obtain⟨e,f,u,a,b⟩:=d h;refine⟨by omega,by simp only[bJ];omega,u,?_,b⟩;rw[show j-i=(j-(i+1))+1 by omega];simpa using a
theorem iC:∀{l:List ay} {i j:Nat},fX s l i=some j->i<=j/\j<i+l.length/\∃v,l[j-i]?=some v/\v.nm=s:=by
 intro l;induction l with
 | nil=>intro i j h;cases h
 | cons v l d =>
   intro i j h;unfold fX at h;split at h
   . rename_i c;cases h;exact⟨an _,by simp,v,by simp,c⟩
   obtain⟨e,f,u,a,b⟩:=d h;refine⟨by omega,by simp only[bJ];omega,u,?_,b⟩;rw[show j-i=(j-(i+1))+1 by omega];simpa using a
abbrev xE (x:Xp) (c:Sc) (p:Nat):Value:=.slice x c.er.length p
end
section
variable {t:Tm}
mutual
def cc:Tm->Nat
 | .mk _ _ _ _ _ a=>gB a+1
def gB:List Tm->Nat
 | []=>0
 | t::l=>cc t+gB l
end
theorem mA {l:List Tm}(h:t∈l):cc t<=gB l:=by
 induction l with
 | nil=>simp at h
 | cons x l a =>
   rcases cC.1 h with rfl|h
   . simp[gB]
   have:=a h;simp[gB];omega
theorem Tm.ind {P:Tm->Prop}(h:∀k a s c n b,(∀t∈b,P t)->P (.mk k a s c n b)):∀t,P t
 | .mk k a s c n b=>h k a s c n b (λt _=>Tm.ind h t)
termination_by t=>cc t
decreasing_by simp only[cc];have:=mA ‹_›;omega
def dJ (k n:Nat):Bool :=
 if k<=3 then n==0 else if k=4 then decide (1<=n) else if k=5 then n==3 else if k=6 then n==2 else if k<=8 then n==1 else if k=9 then n==2 else if k<=11 then n==1 else if k<=23 then n==2 else false
inductive Wf:Tm->Prop
 | mk (k a:Nat) (s:Xb) (nm n:Nat) (ts:List Tm) (h:dJ k ts.length=true) (hr:∀t∈ts,Wf t):Wf (.mk k a s nm n ts)
theorem Wf.sub {u:Tm}(h:Wf t)(c:u∈t.ts):Wf u:=by
 cases h with
 | mk k a s d n e h b=>exact b u c
theorem Wf.ar (h:Wf t):dJ t.k t.ts.length=true:=by
 cases h with
 | mk k a s c n d h b=>exact h
mutual
def bh (g:Tm->Bool):Tm->List Tm
 | .mk k a s c n b=>.mk k a s c n b::(if g (.mk k a s c n b)=true then cN g b else [])
def cN (g:Tm->Bool):List Tm->List Tm
 | []=>[]
 | t::l=>bh g t++cN g l
end
def b8 (_:Tm):Bool:=true
def gH (t:Tm):Bool:=t.k != 9
def Sc.has (c:Sc)(s:Xb):Bool:=(c.nd.find s).isSome
def NA (k:Nat):Bool:=k==3||k==7||k==8||k==6
def hp (q:Qn)(t:Tm):Nat:=if cc t=cc q.r then q.ns.length else 1
def Sc.fits (c:Sc)(t:Tm)(u:Nat):Bool :=
 match c.called t.s with
 | none=>false
 | some d=>d.nd.ah==t.ts.length&&d.nd.aG==u
def dQ (c:Sc):List Vr->Nat->List Nat
 | [],_=>[]
 | v::l,i=>(if (c.nd.find v.nm).getD 0<i then [v.a] else [])++(if (ba v != 0&&!c.has v.ck)=true then [v.ca] else [])++dQ c l (i+1)
def z7 (c:Sc):List ByteArray->List Nat->List Nat
 | s::a,p::b=>(if (!c.has s||decide (c.idx s<c.nd.ah))=true then [p] else [])++z7 c a b
 | _,_=>[]
def fF (c:Sc)(q:Qn)(t:Tm):List Nat :=
 (if (NA t.k&&!c.has t.s)=true then [t.nm] else [])++(if (t.k==4&&!c.fits t (hp q t))=true then [t.nm] else [])
def Sc.cG (c:Sc):List Nat :=
 (if (c.called c.nd.nm).isSome=true then [c.nd.a] else [])++dQ c c.nd.ak 0++(c.nd.eqs.flatMap λq=>z7 c q.ns q.ps)++(c.nd.eqs.flatMap λq=>(bh b8 q.r).flatMap (fF c q))
def dt (v:Vr):Nat:=if v.bl=true then 1 else 0
def Sc.decl (c:Sc)(s:Xb):Nat:=((c.nd.ak[c.idx s]?).map dt).getD 0
def ay.results (n:ay):List Vr:=(n.ak.drop n.ah).take n.aG
def Sc.mP (c:Sc)(s:Xb):Nat :=
 match c.called s with
 | none=>0
 | some d=>((d.nd.results[0]?).map dt).getD 0
mutual
def MO (c:Sc):Tm->Nat
 | .mk k _ s _ _ a =>
   if k=3 then c.decl s else if k=4 then c.mP s else if k=7∨k=8∨k=6 then dO c a 0 else if k=5∨k=9 then dO c a 1
   else if k=0∨k=10∨(19<=k/\k<=23) then 0 else 1
def dO (c:Sc):List Tm->Nat->Nat
 | [],_=>0
 | t::_,0=>MO c t
 | _::l,n+1=>dO c l n
end
def aam (c:Sc)(a:Nat)(l:List Tm):Bool:=l.all λt=>MO c t==a
def gp (c:Sc)(l:List Tm):Bool:=dO c l 0==dO c l 1
def gq (t:Tm):Bool :=
 if t.k=0∨t.k=1∨t.k=2 then true else if t.k=10 then (match t.ts with|[]=>false|u::_=>u.k==0) else false
def gF (c:Sc):List Tm->List Vr->Bool
 | t::l,v::a=>if (MO c t != dt v)=true then false else gF c l a
 | [],_=>true
 | _::_,[]=>true
def Sc.operands (c:Sc)(t:Tm):Bool :=
 if t.k=10∨t.k=17∨t.k=18∨(19<=t.k/\t.k<=23) then aam c 0 t.ts
 else if t.k=11∨t.k=12∨t.k=13∨t.k=14 then aam c 1 t.ts
 else if t.k=15∨t.k=16∨t.k=6 then gp c t.ts
 else if t.k=5 then aam c 1 (t.ts.take 1)&&gp c (t.ts.drop 1)
 else if t.k=9 then (match t.ts with|[]=>false|u::_=>gq u)&&gp c t.ts
 else if t.k=4 then (match c.called t.s with|none=>true|some d=>gF c t.ts d.nd.ak)
 else true
def gE (c:Sc):List ByteArray->List Vr->Bool
 | s::a,r::b=>if (c.decl s != dt r)=true then false else gE c a b
 | _,_=>true
def Sc.holds (c:Sc)(q:Qn):Bool :=
 match q.ns with
 | [s]=>c.decl s==MO c q.r
 | ns=>match c.called q.r.s with
   | none=>true
   | some d=>gE c ns d.nd.results
def eI (c:Sc):List Vr->List Nat
 | []=>[]
 | v::l=>(if (ba v != 0&&c.decl v.ck != 1)=true then [v.on] else [])++eI c l
def fT (c:Sc)(t:Tm):List Nat :=
 (if (NA t.k&&t.k != 3&&c.decl t.s != 1)=true then [t.nm] else [])++(if c.operands t=true then [] else [t.a])
def Sc.aaj (c:Sc):List Nat :=
 eI c c.nd.ak++(c.nd.eqs.flatMap λq=>if c.holds q=true then [] else [q.a])++(c.nd.eqs.flatMap λq=>(bh b8 q.r).flatMap (fT c))
def Sc.own (c:Sc)(v:Vr):Nat×Nat:=if ba v=0 then (0,0) else (c.idx v.ck,ba v)
def Sc.of (c:Sc)(i:Nat):Nat×Nat:=match c.nd.ak[i]? with|none=>(0,0)|some v=>c.own v
def Sc.up (c:Sc)(k:Nat×Nat):Nat×Nat:=if k.2=1∨k.2=2 then c.of k.1 else (0,0)
def lx (c:Sc)(i:Nat):Nat->Nat×Nat->Bool
 | 0,_=>false
 | f+1,k=>if k=(0,0) then false else if k.1=i then true else lx c i f (c.up k)
def Sc.jF (c:Sc)(i:Nat):Bool:=lx c i (2*c.nd.ak.length) (c.of i)
def hZ (c:Sc):List Vr->Nat->List Nat
 | [],_=>[]
 | v::l,i=>(if c.jF i=true then [v.a] else [])++hZ c l (i+1)
def fU (c:Sc)(k:Nat×Nat):List ByteArray->List Nat->List Nat
 | s::a,p::b=>(if c.of (c.idx s)=k then [] else [p])++fU c k a b
 | _,_=>[]
def Sc.operand (c:Sc)(t:Tm)(i:Nat)(k:Nat×Nat):Nat×Nat :=
 if t.k=7∨t.k=8 then c.of (c.idx t.s) else if t.k=6 then (c.idx t.s,if 0<i then 2 else 1) else k
def lz (k:Nat):Nat:=if k=8 then 2 else 1
def Sc.cr (c:Sc)(t:Tm)(k:Nat×Nat):List Nat×Bool :=
 if t.k=3∨t.k=6 then (if c.of (c.idx t.s)=k then [] else [t.nm],true)
 else if t.k=7∨t.k=8 then (if k=(c.idx t.s,lz t.k) then ([],true) else ([t.a],false))
 else ([],true)
mutual
def fQ (c:Sc):Tm->Nat×Nat->List Nat
 | .mk x a s d n b,k=>(c.cr (.mk x a s d n b) k).1++(if (c.cr (.mk x a s d n b) k).2=true then k6 c (.mk x a s d n b) k b 0 else [])
def k6 (c:Sc)(t:Tm)(k:Nat×Nat):List Tm->Nat->List Nat
 | [],_=>[]
 | u::l,i=>fQ c u (c.operand t i k)++k6 c t k l (i+1)
end
def mr (c:Sc)(q:Qn):List Nat :=
 let k:=c.of (c.idx (q.ns.headD ⟨#[]⟩))
 fU c k q.ns.tail q.ps.tail++fQ c q.r k
def Sc.e4 (c:Sc):List Nat:=hZ c c.nd.ak 0++c.nd.eqs.flatMap (mr c)
def ee (c:Sc):List ByteArray->List Nat->List Bool->List Nat×List Bool
 | s::a,p::b,d =>
   let r:=ee c a b (d.set (c.idx s) true)
   ((if d.getD (c.idx s) false=true then [p] else [])++r.1,r.2)
 | _,_,d=>([],d)
def fW (c:Sc):List Qn->List Bool->List Nat×List Bool
 | [],d=>([],d)
 | q::l,d =>
   let r:=ee c q.ns q.ps d
   let a:=fW c l r.2
   (r.1++a.1,a.2)
def hk (a:Nat)(d:Xk):List Vr->Nat->List Nat
 | [],_=>[]
 | v::l,i=>(if (decide (a<=i)&&!d.getD i false)=true then [v.a] else [])++hk a d l (i+1)
def Sc.fy (c:Sc):List Nat :=
 let r:=fW c c.nd.eqs (List.replicate c.nd.ak.length false)
 r.1++hk c.nd.ah r.2 c.nd.ak 0
def j0 (c:Sc)(i:Nat)(t:Tm):List (Nat×Nat):=if NA t.k=true then [(i,c.idx t.s)] else []
def fG (c:Sc)(q:Qn)(s:Xb):List (Nat×Nat) :=
 let i:=c.idx s
 (if (c.of i).2=0 then [] else [(i,(c.of i).1)])++(bh gH q.r).flatMap (j0 c i)
def Sc.hI (c:Sc):List (Nat×Nat):=c.nd.eqs.flatMap λq=>q.ns.flatMap (fG c q)
def iE (a b n:Nat):Nat->List (Nat×Nat)->List (Nat×Nat)
 | 0,L=>L
 | m+1,L=>iE a b n m (if (b,a)∈L/\(a,n-(m+1))∈L then L++[(b,n-(m+1))] else L)
def iD (a n:Nat):Nat->List (Nat×Nat)->List (Nat×Nat)
 | 0,L=>L
 | m+1,L=>iD a n m (iE a (n-(m+1)) n n L)
def kK (n:Nat):Nat->List (Nat×Nat)->List (Nat×Nat)
 | 0,L=>L
 | m+1,L=>kK n m (iD (n-(m+1)) n n L)
def jm (n:Nat)(L:List (Nat×Nat)):List (Nat×Nat):=kK n n L
def kQ (a:Nat)(L:List (Nat×Nat))(n:Nat):Nat->List Nat
 | 0=>[]
 | m+1=>(if (n-(m+1),n-(m+1))∈L then [a] else [])++kQ a L n m
def Sc.gb (c:Sc):List Nat:=kQ c.nd.a (jm c.nd.ak.length c.hI) c.nd.ak.length c.nd.ak.length
def fa (s:Xb):List (ByteArray×Nat)->Nat
 | []=>0
 | p::l=>if p.1=s then p.2 else fa s l
def fE (m:List (ByteArray×Nat))(t:Tm):Nat:=if t.k=9 then 1 else if t.k=4 then 1+fa t.s m else 0
def iK (l:Xn):Nat:=l.foldl (·+·) 0
def hl (n:ay)(m:List (ByteArray×Nat)):Nat:=min (iK ((n.eqs.flatMap λq=>bh b8 q.r).map (fE m))) 61
def hr:List ay->List (ByteArray×Nat)->Nat->Nat
 | [],_,a=>a
 | n::l,m,_=>hr l ((n.nm,hl n m)::m) (hl n m)
def ih (a:List ay):List Nat:=if 60<hr a [] 0 then [0] else []
def kd (a:List ay):List Sc:=(List.range a.length).filterMap λi=>(a[i]?).map λn=>⟨a.take i,n⟩
def aj:Option Nat->Nat->Option Nat
 | none,p=>some p
 | some b,p=>if p<b then some p else some b
def zO (l:Xn):Option Nat:=l.foldl aj none
def dh (a:List ay):Option (Nat×Nat) :=
 match zO ((kd a).flatMap Sc.cG) with
 | some p=>some (4,p)
 | none=>match zO ((kd a).flatMap Sc.aaj) with
   | some p=>some (5,p)
   | none=>match zO ((kd a).flatMap Sc.e4) with
     | some p=>some (6,p)
     | none=>match zO ((kd a).flatMap Sc.fy) with
       | some p=>some (7,p)
       | none=>match zO ((kd a).flatMap Sc.gb) with
         | some p=>some (8,p)
         | none=>match zO (ih a) with
           | some p=>some (9,p)
           | none=>none
theorem yz {l:Xn}(h:zO l=none):l=[]:=by
 have:∀(l:Xn) (s:Xo),s.isSome=true->(l.foldl aj s).isSome=true:=by
  intro l;induction l with
  | nil=>intro s h;exact h
  | cons p l c =>
    intro s h;refine c _ ?_;cases s with
    | none=>rfl
    | some b=>show (if p<b then some p else some b).isSome=true;split <;> rfl
 cases l with
 | nil=>rfl
 | cons p l => have a:=this l (aj none p) rfl;unfold zO at h;rw[List.foldl_cons] at h;rw[h] at a;cases a
end
end Go.Proofs.YtcnelakggnfnhaaGreatDoor
