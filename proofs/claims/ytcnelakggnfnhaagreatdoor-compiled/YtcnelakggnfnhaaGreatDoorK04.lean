/- Part 5. -/
import Derived.Test.YtcnelakggnfnhaaGreatDoorK03
set_option maxRecDepth 100000
set_option maxHeartbeats 8000000
namespace Go.Proofs.YtcnelakggnfnhaaGreatDoor
open Go.Proofs.Tryz
section
open Go.RowKit
variable {l:Xl} {f:Xn} {o:Xm} {B b k p c d m:Nat} {S:Xs} {s:St} {e:Xy} {t z j:Xv} {w wr:Xw}
theorem yV:(⟨#[61]⟩:Xb).toList=[61]:=by decide +kernel
theorem rV:zH 135:=λ_ _=>by kernel_rfl
theorem Tryz.s8:(prog.info? 78).map (λi=>(i.zero,i.size,i.bytes))=some (some (.agg #[.string ⟨#[]⟩,xI 0]),2,24):=by kernel_rfl
theorem sr {s:Xb}{a:Int}:∀u∈[Value.string s,xI a],u.oneCell'=true:=by intro u g;simp at g;rcases g with rfl|rfl <;> rfl
def gg:List ByteArray->List Nat->List Value
 | s::l,a::f=>.string s::(xI a)::gg l f
 | _,_=>[]
theorem JS:∀(l:Xl) (f:Xn) (s:Xb) (a:Nat),l.length=f.length->gg (l++[s]) (f++[a])=gg l f++[.string s,xI a]:=by
 intro l;induction l with
 | nil=>intro f s a h;cases f with
   | nil=>rfl
   | cons _ _=>simp at h
 | cons x l g=>intro f s a h;cases f with
   | nil=>simp at h
   | cons y f=>simp only[List.cons_append,gg,g f s a (by simpa using h)]
structure QI (S:Xs) (c m d B p:Nat) (w wr:Xw) (s:St) (l:Xl) (f:Xn) (j:Xv) (k:Nat) (o:Xm) (t z:Xv):Prop where
 af:Inv p s
 pl:PL S wr c s
 q:xH wr d #[j,t,z] 159
 r:xH wr m #[.slice none 0 0,xI 0,.pointer none] 159
 own:wr.ownsRow B 78 2 j k o
 len:l.length=f.length
 ok:s.er=0->k=l.length/\o=gg l f
 fr:Fr (·=c) w wr
theorem QI.goes {g:Xw}{a:St}(h:QI S c m d B p w wr s l f j k o t z)(q:c<m)(i:c<d)(x:c<B)(r:Inv p a)(v:a.er=0->s.er=0)(u:PL S g c a)(hF:Fr (·=c) wr g):QI S c m d B p w g a l f j k o t z :=
 ⟨r,u,(hF.block d (ze h.q) (by omega)).trans h.q,(hF.block m (ze h.r) (by omega)).trans h.r,zi h.own (λk q i _=>hF.block k i (by omega)),h.len,λn=>h.ok (v n),h.fr.trans hF⟩
theorem rW {G g:Xw}{F:Xv}{X:Obj}{E:Xb}{D:Nat}
 (h:QI S c m d B p w wr s l f j k o t z) (U:c<m) (K:c<d) (_h3:c<B) (y:¬m=d) (L:d<B) (M:m<B) (A:w.heap.size<=d) (_hwB:w.heap.size<=B) (u:aa (s.t.k=2->E=s.t.s/\D=s.t.a)) (a:Fr (·=c) wr G) (r:PL S g c s.name) (v:xH g d #[j,t,z] 159)
 (q:g.ownsRow B 78 2 F (k+1) (o++[.string E,xI D])) (n:Fr (λk=>j.ownBlock=some k) (G.alloc X) g):QI S c m d B p w (g.setCell (xD d 0) F) s.name (l++[s.t.s]) (f++[s.t.a]) F (k+1) (o++[.string E,xI D]) t z:=by
 have O:=a.size;have x:xH g m #[.slice none 0 0,xI 0,.pointer none] 159:=by have C:=ze h.r;exact (n.block m (by rw[au];omega) (λI=>by have:=(h.own.lt m I).1;omega)).trans ((mm _ _ _ (by omega)).trans ((a.block m C (by omega)).trans h.r))
 refine⟨(ai.name h.af).af,r.aU K _ _,zh _ _ _ _ v,zr y x,zi q (λk I _ _=>zr (by omega) rfl),by simp[h.len],?_,?_⟩
 . intro H;obtain⟨P,Q⟩:=h.ok (mo H);obtain⟨R,T⟩:=u.out (lm H);subst R T;exact⟨by simp[P],by rw[JS _ _ _ _ h.len,Q]⟩
 have J:Fr (·=c) w (G.alloc X):=(h.fr.trans a).alloc X;exact (J.dr n (λi V N=>by have:=(h.own.lt i N).1;omega)).aO A _ _
theorem x8 (h:QI S c m d B p w wr s l f j k o t z)(n:c<d)(g:¬m=d)(q:d<B)(i:w.heap.size<=d)(_hwB:w.heap.size<=B)(a:Nat):QI S c m d B p w (wr.setCell (xD d 1) (xI a)) s l f j k o (xI a) z :=
 ⟨h.af,h.pl.aU n _ _,zh _ _ _ _ h.q,zr g h.r,zi h.own (λk r _ _=>zr (by omega) rfl),h.len,h.ok,h.fr.aO i _ _⟩
theorem x7 (h:QI S c m d B p w wr s l f j k o t z)(n:c<d)(g:¬m=d)(q:d<B)(i:w.heap.size<=d)(a:Xp):QI S c m d B p w (wr.setCell (xD d 2) (.pointer a)) s l f j k o t (.pointer a) :=
 ⟨h.af,h.pl.aU n _ _,zh _ _ _ _ h.q,zr g h.r,zi h.own (λk r _ _=>zr (by omega) rfl),h.len,h.ok,h.fr.aO i _ _⟩
theorem xR {n q r:Xv}(h:xH w b #[n,q,r] e)(a g i:Xv):(((w.setCell (xD b 0) a).setCell (xD b 1) g).setCell (xD b 2) i).heap[b]?=some (.cells #[a,g,i] e (0,0)) :=
 zh _ _ _ _ (zh _ _ _ _ (zh _ _ _ _ h))
def sf (S:Xs)(c:Nat)(w:Xw)(g:St)(q:ax)(e:Ending)(h:Xw):Prop :=
 ∃(j:Xv) (k:Nat) (o:Xm) (i:Nat) (a:Xp),e=.returned (.agg #[j,xI i,.pointer a])/\(∃x n,j=.slice x k n)/\PL S h c g/\h.ownsRow w.heap.size 78 2 j k o /\
  aa (g.er=0->k=q.ns.length/\o=gg q.ns q.ps/\i=q.a/\TR h w.heap.size g.L q.ex (.pointer a))/\Fr (·=c) w h
theorem xq {fn:Func}{p:Tmp}(h:fn.results=#[.cell p 159]){a:Xa}(u:a[p]?.getD undef=xP b){g i n:Xv}(r:xH w b #[g,i,n] 159):(results fn a).run prog w=.ok (.agg #[g,i,n]) w:=by obtain⟨q,t,z,_⟩:=zL r;simp[results,h,u,go_sem,q,t,z]
theorem xn {n:Nat}{q:Xv}(h:w.ownsRow B e 2 q n o):∃x r,q=.slice x n r:=by
 rcases h.2 with ⟨i,v⟩|⟨g,a,u,i,_⟩
 . exact⟨none,0,by rw[i,v]⟩
 exact⟨_,a,i⟩
theorem GV {r:Fn}(ca:zX 18 178 r)(b4:zv 18 r)(S:Xs)(c p:Nat)(a:St)(w:Xw)(a1:Inv p a)(hc:a.is 4 [40]=false)(aV:PL S w c a) :
 xK 139 #[xP c] w (sf S c w ((r (a.name.ac 4 [61])).1.ac 4 [59]) ⟨[a.t.s],[a.t.a],a.name.t.a,(r (a.name.ac 4 [61])).2⟩):=by
 have I:=aV.lt;have P:=za (λL h=>hY S c a ⟨#[40]⟩ _ j7 L a1.bd h);have bE:a.cP [40]=a:=by unfold St.cP;rw[fm aV.tx (by decide),hc];rfl
 rw[fm aV.tx (by decide),hc,bE] at P;obtain⟨nx,cv,bC,bB⟩:=jk a;have a4:=za bB;have bY:=za (λL h=>gG S c a L a1.bd h);rw[bC] at bY;obtain⟨i0,hi,bt,bv,bx⟩:=info_parts Tryz.s8;go_enter func139,ntmps139;go_wp2_with fail;refine (P.o _ ((aV.alloc _).alloc _)).mono ?_;rintro e L ⟨rfl,bl,G⟩;have X:QI S c w.heap.size (w.heap.size+1) (w.heap.size+1+1) p w L a [] [] (.slice none 0 0) 0 [] (xI 0) (.pointer none):=by
  refine⟨a1,bl,?_,?_,World.ownsRow_nil _ _ _ _,rfl,λ_=>⟨rfl,rfl⟩,(((Fr.refl _ w).alloc _).alloc _).trans G⟩
  . refine (G.block _ (by simp) (by omega)).trans ?_;have:=zc (w.alloc (.cells #[.slice none 0 0,xI 0,.pointer none] 159)) (.cells #[.slice none 0 0,xI 0,.pointer none] 159);simpa using this
  exact (G.block _ (by simp;omega) (by omega)).trans ((mm _ _ _ (by simp)).trans (zc w _))
 have u:=za X;obtain⟨q0,bL,q2,qf,a0⟩:=zL X.q;go_upto_region 12 with fail;go_cut [] (λwy=>∃j k o,aa (QI S c w.heap.size (w.heap.size+1) (w.heap.size+1+1) p w wy a.name [a.t.s] [a.t.a] j k o (xI 0) (.pointer none))/\k<=1);case first =>
  have mx:0+1<=maxLen:=by unfold maxLen;omega
  have be:(0+1)*24<=140737488355328:=by omega
  have bA:=u.o.pl.lt;go_region_law (first|(refine kD rfl 135 (.tmp 38) 176 rfl rV (xP c) rfl (bY.o _ u.o.pl.drew) ?_;rintro e w2 ⟨rfl,a2,U⟩;refine⟨_,rfl,?_⟩;have C:Fr (·=c) L w2:=U.cQ;have cn:=C.size;have Q:=(C.block (w.heap.size+1) a0 (by omega)).trans u.o.q;obtain⟨f0,f1,f2,ff,fz⟩:=zL Q;have bK:w.heap.size+1+1<=w2.heap.size+1:=(by omega))|(refine zJ _ rfl (.tmp 37) (.tmp 40) 156 rfl (w.heap.size+1+1) 78 i0 _ 2 24 underlying156 hi bt bv bx rfl (by decide) (.slice none 0 0) 0 [] rfl (World.ownsRow_nil _ _ _ _) (xD w2.heap.size 0) 1 1 [.string nx,xI cv] rfl rfl (zN (zc w2 _) rfl) sr mx be (by simpa using bK) ?_;intro v' w9 q H b2;obtain⟨g9,b0,rfl,cd⟩:=zM q (by omega);have D:=Fr.gi H;have bs:w9.heap[w.heap.size+1]?=w2.heap[w.heap.size+1]?:=((D.block (w.heap.size+1) (by rw[au];omega) (λh=>by cases h)).trans (mm _ _ _ fz));have R:=za (bs.trans Q);obtain⟨m0,m1,m2,cs,ct⟩:=zL R.o;have a3:=za (PL.fr (a2.alloc _) D (λk ce=>by cases ce))));all_goals go_wp2_with fail
  all_goals go_meet
  all_goals exact⟨_,_,_,rW u.o (by omega) (by omega) (by omega) (by omega) (by omega) (by omega) (by omega) (by omega) a4 C a3.o R.o q D,by omega⟩
 case rest => obtain⟨j,k,o,g,cg⟩:=hcut;have co:=g.o.fr.size;have b1:=g.o.pl.lt;obtain⟨q0,bL,q2,qf,a0⟩:=zL g.o.q;have bk:=g.o.af.bd;have M:=za (zP S c a.name ⟨#[61]⟩ _ yV wc bk g.o.pl);rw[fo g.o.pl.tx (by decide)] at M;go_wp2_with (go_at_call 134;refine M.o.mono ?_;rintro e w3 ⟨rfl,bo,V⟩;have E:=za (g.o.goes (by omega) (by omega) (by omega) (ai.ac g.o.af 4 [61]).af (λZ=>eJ Z) bo V);obtain⟨m0,m1,m2,cs,ct⟩:=zL E.o.q;have ck:=V.size);obtain⟨s2,T⟩:∃s2,a.name.ac 4 [61]=s2:=⟨_,rfl⟩;rw[T] at E;have J:=x8 E.o (by omega) (by omega) (by omega) (by omega) (by omega) a.name.t.a;have g5:=b4 s2 p J.af (by omega);have a6:=za (ca S c s2 p _ J.af (by omega) J.pl);have cl:=J.fr.size;refine a6.o.mono ?_;rintro e w5 ⟨K,rfl,bp,Y,N⟩;have cm:=N.size;have F:=za (J.goes (by omega) (by omega) (by omega) g5.af (λZ=>g5.dj.dd Z) bp N);obtain⟨q0,bL,q2,qf,a0⟩:=zL F.o.q;have A:=za g5.af.bd;obtain⟨y,bb⟩:∃y,r s2=y:=⟨_,rfl⟩;rw[bb] at F A Y;have a5:=za Y.out;have a9:=g5.af;rw[bb] at a9;go_wp2_with fail;have aL:=x7 F.o (by omega) (by omega) (by omega) (by omega) K;have x:=za (zP S c y.1 ⟨#[59]⟩ _ pH _ A.out aL.pl);rw[fo aL.pl.tx (by decide)] at x;refine x.o.mono ?_;rintro e w7 ⟨rfl,bq,O⟩;have i:=za (aL.goes (by omega) (by omega) (by omega) (ai.ac aL.af 4 [59]).af (λZ=>eJ Z) bq O);obtain⟨cz,bg,n⟩:=xn i.o.own;have aA:=i.o.q;rw[n] at aA;obtain⟨q0,bL,q2,qf,a0⟩:=zL aA;obtain⟨cA,cB,cE,rf,cK⟩:=zL i.o.r;go_wp2_with fail;have W:Fr (·=c) (w5.setCell (xD (w.heap.size+1) 2) (.pointer K)) w7:=O;refine ab (v:=.agg #[j,xI a.name.t.a,.pointer K]) (by rw[n];exact xq rfl rfl (xR i.o.r _ _ _)) rfl ?_;rw[T,bb];refine⟨j,k,o,a.name.t.a,K,rfl,⟨cz,bg,n⟩,((i.o.pl.aU I _ _).aU I _ _).aU I _ _,zR (zi i.o.own (λk h1 _ _=>zr (by omega) (zr (by omega) (zr (by omega) rfl)))) (by omega:w.heap.size<=w.heap.size+1+1),?_,((i.o.fr.aO (an _) _ _).aO (an _) _ _).aO (an _) _ _⟩;intro ar;obtain⟨e1,cb⟩:=i.o.ok ar;refine⟨e1,cb,rfl,?_⟩;rw[St.bi];have t5:=a5.o (eJ ar);have ch:=ze J.q;have Fa:Fr (·=w.heap.size+1) w5 (w5.setCell (xD (w.heap.size+1) 2) (.pointer K)):=(Fr.refl _ w5).aY _ _;have b3:Fr (·=w.heap.size) w7 (((w7.setCell (xD w.heap.size 0) j).setCell (xD w.heap.size 1) (xI a.name.t.a)).setCell (xD w.heap.size 2) (.pointer K)):=((((Fr.refl _ w7).aY _ _).aY _ _).aY _ _);have t7:=(t5.fr Fa (λk h1 _ h2=>by omega)).fr W (λk h1 _ h2=>by omega);have t8:=t7.fr b3 (λk h1 _ h2=>by omega);rw[n] at t8;exact t8.down (by omega)
end
section
open Go.RowKit
variable {r17:Fn} {a:St}
theorem JW {d:Xb}{c:Nat}(h:a.t.k=2->d=a.t.s/\c=a.t.a):Fs r17 ⟨2,c,0,d,0⟩ a.name=Fs r17 a.t a.name:=by
 by_cases b:a.t.k=2
 . obtain⟨e,f⟩:=h b;unfold Fs;simp only[e,f]
 have g:a.name=a.fail 2 a.t.a:=by unfold St.name;rw[ae b]
 rw[g];unfold Fs;rw[St.mR _ (by decide)];rfl
theorem Ke {p:Nat}(d:Inv p a)(h:(Fs r17 a.t a.name).1.er=0):a.name.er=0:=by
 by_cases c:a.name.er=0
 . exact c
 have b:=ai.name d;have f:a.name.is 4 [40]=false:=by have:=b.af.bad c;simp[St.is,this]
 have e:Fs r17 a.t a.name=(a.name.fail 2 a.name.t.a,0):=by unfold Fs;rw[ae (by rw[f];simp)]
 rw[e] at h;exact (ai.fail b.af (by omega) (by omega) b.af.ok.bR:ai p a.name (a.name.fail 2 a.name.t.a)).dd h
theorem GZ {co:Fn}(eN:ig 18 r17)(dl:zv 17 r17)(dp:zv 18 co)(S:Xs)(m p f:Nat)(R:dI)(a:St)(w:Xw)(cR:Inv p a)(eR:a.op=0)(U:a.is 4 [40]=true)(hf:f=1300)(b4:cX f (hq a)=R)(cz:PL S w m a) :
 xK 139 #[xP m] w (sf S m w ((Fs r17 ((R.st.ac 4 [41]).ac 4 [61]).t ((R.st.ac 4 [41]).ac 4 [61]).name).1.ac 4 [59]) ⟨R.ns,R.ps,(R.st.ac 4 [41]).t.a,(Fs r17 ((R.st.ac 4 [41]).ac 4 [61]).t ((R.st.ac 4 [41]).ac 4 [61]).name).2⟩):=by
 have bo:=cz.lt;have bg:=ym cR U hf b4;have q:=za (λw1 h=>hY S m a ⟨#[40]⟩ _ j7 w1 cR.bd h);have dY:a.cP [40]=a.ad:=by unfold St.cP;rw[fm cz.tx (by decide),U];rfl
 rw[fm cz.tx (by decide),U,dY] at q;have e1:=ai.ad cR;have dk:=ai.name e1.af;have e3:=ai.ac dk.af 4 [44];obtain⟨nx,cn,N,M⟩:=jk a.ad;have a4:=za M;have T:=za (λw1 h=>gG S m a.ad w1 e1.af.bd h);rw[N] at T;obtain⟨i0,hi,cb,cd,ce⟩:=info_parts Tryz.s8;have f41:=ai.ac bg.r 4 [41];have f61:=ai.ac f41.af 4 [61];have f62:=ai.name f61.af;have O:1<=((R.st.ac 4 [41]).ac 4 [61]).t.a:=aJ bg.ta (aJ f41.ta f61.ta);have bp:((R.st.ac 4 [41]).ac 4 [61]).op=0:=by rw[St.a8,St.a8,bg.tv,eR]
 have ch:=pj dl dp (many:=true) f61.af bp (λ_=>O);have dP:cx r17 co true ((R.st.ac 4 [41]).ac 4 [61])=Fs r17 ((R.st.ac 4 [41]).ac 4 [61]).t ((R.st.ac 4 [41]).ac 4 [61]).name:=rfl;rw[dP] at ch;have c0:=za e1.af;have c1:=za e3.af;have aA:=za f41.af;have z:=za f61.af;have G:=za f62.af;have K:=za (aJ O f62.ta);have W:=za ch.1;have da:aa (cX 1300 ⟨(a.ad.name.ac 4 [44]).name,[a.ad.t.s]++[(a.ad.name.ac 4 [44]).t.s],[a.ad.t.a]++[(a.ad.name.ac 4 [44]).t.a]⟩=R):=by rw[<- hf];exact b4
 generalize dV:a.ad.name.ac 4 [44]=fj at *;have bC:=za dV;go_enter func139,ntmps139;go_wp2_with fail;refine (q.o _ ((cz.alloc _).alloc _)).mono ?_;rintro e w1 ⟨rfl,ds,a9⟩;have bk:QI S m w.heap.size (w.heap.size+1) (w.heap.size+1+1) p w w1 a.ad [] [] (.slice none 0 0) 0 [] (xI 0) (.pointer none):=by
  refine⟨c0.o,ds,?_,?_,World.ownsRow_nil _ _ _ _,rfl,λ_=>⟨rfl,rfl⟩,(((Fr.refl _ w).alloc _).alloc _).trans a9⟩
  . refine (a9.block _ (by simp) (by omega)).trans ?_;have:=zc (w.alloc (.cells #[.slice none 0 0,xI 0,.pointer none] 159)) (.cells #[.slice none 0 0,xI 0,.pointer none] 159);simpa using this
  exact (a9.block _ (by simp;omega) (by omega)).trans ((mm _ _ _ (by simp)).trans (zc w _))
 have V:=za bk;obtain⟨q0,cB,q2,qf,bt⟩:=zL bk.q;have dM:=bk.pl.lt;go_upto_region 3 with fail;go_cut [] (λwy=>∃X xs,aa (QI S m w.heap.size (w.heap.size+1) (w.heap.size+1+1) p w wy a.ad.name [a.ad.t.s] [a.ad.t.a] X (0+1) xs (xI 0) (.pointer none)));case first =>
  have mx:0+1<=maxLen:=by unfold maxLen;omega
  have a6:(0+1)*24<=140737488355328:=by omega
  go_region_law (first|(refine kD rfl 135 (.tmp 9) 176 rfl rV (xP m) rfl (T.o _ V.o.pl.drew) ?_;rintro e Q ⟨rfl,a2,L⟩;refine⟨_,rfl,?_⟩;have n:Fr (·=m) w1 Q:=L.cQ;have ek:=n.size;have I:=(n.block (w.heap.size+1) bt (by omega)).trans V.o.q;obtain⟨f0,f1,f2,ff,fz⟩:=zL I;have d:=za (zi V.o.own (λk h1 h2 _=>n.block k h2 (by omega)));have bq:w.heap.size+1+1<=Q.heap.size+1:=(by omega))|(refine zJ _ rfl (.tmp 8) (.tmp 11) 156 rfl (w.heap.size+1+1) 78 i0 _ 2 24 underlying156 hi cb cd ce rfl (by decide) (.slice none 0 0) 0 [] rfl (zD d.o _) (xD Q.heap.size 0) 1 1 [.string nx,xI cn] rfl rfl (zN (zc Q _) rfl) sr mx a6 (by simpa using bq) ?_;intro v' w9 l u cg;obtain⟨g9,bE,rfl,dH⟩:=zM l (by omega);have r:=Fr.gi u;have bl:w9.heap[w.heap.size+1]?=Q.heap[w.heap.size+1]?:=((r.block (w.heap.size+1) (by rw[au];omega) (λh=>by have:=(d.o.lt _ h).1;omega)).trans (mm _ _ _ fz));have J:=za (bl.trans I);obtain⟨m0,m1,m2,fd,fh⟩:=zL J.o;have a3:=za (PL.fr (a2.alloc _) r (λk dL=>by have:=(d.o.lt k dL).1;omega))));all_goals go_wp2_with fail
  all_goals go_meet
  all_goals exact⟨_,_,rW V.o (by omega) (by omega) (by omega) (by omega) (by omega) (by omega) (by omega) (by omega) a4 n a3.o J.o l r⟩
 case rest =>
  obtain⟨er,ex,B⟩:=hcut;have em:=B.o.fr.size;have eE:=B.o.pl.lt;have dq:=B.o.af.bd;have E:=za (zP S m a.ad.name ⟨#[44]⟩ _ pL wc dq B.o.pl);rw[fo B.o.pl.tx (by decide),bC.o] at E;go_wp2_with (go_at_call 134;refine E.o.mono ?_;rintro e w3 ⟨rfl,H,A⟩;have c4:=za (B.o.goes (by omega) (by omega) (by omega) c1.o (λc=>eJ (bC.o▸c)) H A);have eV:=A.size);go_loopg [4] 1300 (λk fg wx=>∃(b:Bool) (s:St) (ns:Xl) (ps:Xn) (X:Xv) (P:Nat) (xs:Xm),fg=.bool b/\aa (QI S m w.heap.size (w.heap.size+1) (w.heap.size+1+1) p w wx s ns ps X P xs (xI 0) (.pointer none))/\P+k<=1301/\aa (b=true->cX k ⟨s.name,ns++[s.t.s],ps++[s.t.a]⟩=R/\1201-s.t.a<k)/\aa (b=false->(⟨s,ns,ps⟩:dI)=R));case atStart=>exact⟨true,fj,[a.ad.t.s],[a.ad.t.a],er,0+1,ex,rfl,c4,by omega,λ_=>⟨da.o,by omega⟩,λh=>by cases h⟩
  case round =>
   obtain⟨b,s,ns,ps,X,P,xs,rfl,C,eQ,eP,cO⟩:=hrel;have e7:=C.o.fr.size;have eF:=C.o.pl.lt;have cK:=za C.o.af.bd;cases b with
   | false => have eO:=za (cO.o rfl);have cA:QI S m w.heap.size (w.heap.size+1) (w.heap.size+1+1) p w wr R.st R.ns R.ps X P xs (xI 0) (.pointer none):=(by rw[<- eO.o];exact C.o);have cE:=za cA;have E:=za (zP S m R.st ⟨#[41]⟩ _ pJ wr cA.af.bd cA.pl);rw[fo cA.pl.tx (by decide)] at E;go_wp2_with fail;refine E.o.mono ?_;rintro e w4 ⟨rfl,be,bL⟩;have eW:=bL.size;have c5:=za (cE.o.goes (by omega) (by omega) (by omega) aA.o (λc=>eJ c) be bL);have Z:=za (zP S m (R.st.ac 4 [41]) ⟨#[61]⟩ _ yV w4 aA.o.bd be);rw[fo be.tx (by decide)] at Z;go_wp2_with fail;refine Z.o.mono ?_;rintro e w5 ⟨rfl,du,bY⟩;have eX:=bY.size;have bx:=za (c5.o.goes (by omega) (by omega) (by omega) z.o (λc=>eJ c) du bY);obtain⟨q0,cB,q2,qf,bt⟩:=zL bx.o.q;go_upto_region 11 with fail;have h6:=x8 bx.o (by omega) (by omega) (by omega) (by omega) (by omega) (R.st.ac 4 [41]).t.a;have ct:=za h6;obtain⟨x,aV⟩:∃x,(R.st.ac 4 [41]).ac 4 [61]=x:=⟨_,rfl⟩;rw[aV] at ct z G K W;obtain⟨nx,cn,N,M⟩:=jk x;have T:=za (gG S m x _ z.o.bd ct.o.pl);rw[N] at T;have di:=za (JW (r17:=r17) M);go_wp2_with fail;refine T.o.mono ?_;rintro e w7 ⟨rfl,b3,b0⟩;have eY:=ct.o.fr.size;have eZ:=b0.size;have bA:=za (ct.o.goes (by omega) (by omega) (by omega) G.o (λc=>mo c) b3 b0);obtain⟨y,a0⟩:∃y,Fs r17 x.t x.name=y:=⟨_,rfl⟩;have b1:=eN S m x.name p w7 ⟨2,cn,0,nx,0⟩ G.o (by omega) K.o b3;rw[di.o,a0] at b1;rw[a0] at W;have c3:=za b1;go_wp2_with fail;refine c3.o.mono ?_;rintro e w8 ⟨bs,rfl,dw,dz,bv⟩;have e0:=bv.size;have bB:=za (bA.o.goes (by omega) (by omega) (by omega) W.o.af (λc=>Ke z.o (by rw[a0];exact c)) dw bv);obtain⟨q0,cB,q2,qf,bt⟩:=zL bB.o.q;have dc:=za dz.out;go_wp2_with fail;have cv:=x7 bB.o (by omega) (by omega) (by omega) (by omega) bs;have ar:=za (zP S m y.1 ⟨#[59]⟩ _ pH _ W.o.af.bd cv.pl);rw[fo cv.pl.tx (by decide)] at ar;refine ar.o.mono ?_;rintro e Y ⟨rfl,b2,F⟩;have eG:=F.size;have i:=za (cv.goes (by omega) (by omega) (by omega) (ai.ac cv.af 4 [59]).af (λc=>eJ c) b2 F);obtain⟨es,bK,o⟩:=xn i.o.own;have a1:=i.o.q;rw[o] at a1;obtain⟨q0,cB,q2,qf,bt⟩:=zL a1;obtain⟨fk,fl,fr,rf,ft⟩:=zL i.o.r;go_wp2_with fail;refine ab (v:=.agg #[X,.int .i64 (R.st.ac 4 [41]).t.a,.pointer bs]) (by rw[o];exact xq rfl rfl (xR i.o.r _ _ _)) rfl ?_;rw[aV,a0];refine⟨X,P,xs,(R.st.ac 4 [41]).t.a,bs,rfl,⟨es,bK,o⟩,((i.o.pl.aU bo _ _).aU bo _ _).aU bo _ _,zR (zi i.o.own (λk h1 _ _=>zr (by omega) (zr (by omega) (zr (by omega) rfl)))) (by omega:w.heap.size<=w.heap.size+1+1),?_,((i.o.fr.aO (an _) _ _).aO (an _) _ _).aO (an _) _ _⟩;intro ca;obtain⟨e1,dk⟩:=i.o.ok ca;refine⟨e1,dk,rfl,?_⟩;rw[St.bi];have t8:=dc.o (eJ ca);have eS:=ze bA.o.q;have Fa:Fr (·=w.heap.size+1) w8 (w8.setCell (xD (w.heap.size+1) 2) (.pointer bs)):=(Fr.refl _ w8).aY _ _;have eL:Fr (·=w.heap.size) Y (((Y.setCell (xD w.heap.size 0) X).setCell (xD w.heap.size 1) (.int .i64 (R.st.ac 4 [41]).t.a)).setCell (xD w.heap.size 2) (.pointer bs)):=((((Fr.refl _ Y).aY _ _).aY _ _).aY _ _);have bb:Fr (·=m) (w8.setCell (xD (w.heap.size+1) 2) (.pointer bs)) Y:=F;have t9:=(t8.fr Fa (λk h1 _ h2=>by omega)).fr bb (λk h1 _ h2=>by omega);have t10:=t9.fr eL (λk h1 _ h2=>by omega);rw[o] at t10;exact t10.down (by omega)
   | true =>
     obtain⟨t,aL⟩:=eP.o rfl;obtain⟨nx,cn,N,M⟩:=jk s;have a4:=za M;have T:=za (λw1 h=>gG S m s w1 cK.o h);rw[N] at T;obtain⟨q0,cB,q2,qf,bt⟩:=zL C.o.q;have c6:=za t;have mx:P+1<=maxLen:=(by unfold maxLen;omega);have a6:(P+1)*24<=140737488355328:=(by omega);go_upto_block 1 with fail;go_cut [] (λwy=>∃eq ev,aa (QI S m w.heap.size (w.heap.size+1) (w.heap.size+1+1) p w wy s.name (ns++[s.t.s]) (ps++[s.t.a]) eq (P+1) ev (xI 0) (.pointer none)));case first =>
      go_wp2_with fail;go_region_law (first|(refine kD rfl 135 (.tmp 21) 176 rfl rV (xP m) rfl (T.o _ C.o.pl.drew) ?_;rintro e Q ⟨rfl,a2,L⟩;refine⟨_,rfl,?_⟩;have n:Fr (·=m) wr Q:=L.cQ;have ek:=n.size;have I:=(n.block (w.heap.size+1) bt (by omega)).trans C.o.q;obtain⟨f0,f1,f2,ff,fz⟩:=zL I;have d:=za (zi C.o.own (λk h1 h2 _=>n.block k h2 (by omega)));have bq:w.heap.size+1+1<=Q.heap.size+1:=(by omega))|(refine zJ _ rfl (.tmp 20) (.tmp 23) 156 rfl (w.heap.size+1+1) 78 i0 _ 2 24 underlying156 hi cb cd ce rfl (by decide) X P xs rfl (zD d.o _) (xD Q.heap.size 0) 1 1 [.string nx,xI cn] rfl rfl (zN (zc Q _) rfl) sr mx a6 (by simpa using bq) ?_;intro v' w9 l u cg;obtain⟨g9,bE,rfl,dH⟩:=zM l (by omega);have r:=Fr.gi u;have bl:w9.heap[w.heap.size+1]?=Q.heap[w.heap.size+1]?:=((r.block (w.heap.size+1) (by rw[au];omega) (λh=>by have:=(d.o.lt _ h).1;omega)).trans (mm _ _ _ fz));have J:=za (bl.trans I);obtain⟨m0,m1,m2,fd,fh⟩:=zL J.o;have a3:=za (PL.fr (a2.alloc _) r (λk dL=>by have:=(d.o.lt k dL).1;omega))));all_goals go_wp2_with fail
      all_goals go_meet
      all_goals exact⟨_,_,rW C.o (by omega) (by omega) (by omega) (by omega) (by omega) (by omega) (by omega) (by omega) a4 n a3.o J.o l r⟩
     case rest =>
      obtain⟨cm,cs,j⟩:=hcut;have em:=j.o.fr.size;have D:=za j.o.af.bd;generalize a0:(⟨s.name,ns++[s.t.s],ps++[s.t.a]⟩:dI)=y at *;have a5:s.name=y.st:=(by rw[<- a0]);have ea:ns++[s.t.s]=y.ns:=(by rw[<- a0]);have eb:ps++[s.t.a]=y.ps:=(by rw[<- a0]);rw[a5,ea,eb] at j;rw[a5] at D;have q:=za (hY S m y.st ⟨#[44]⟩ [44] pL wc D.o j.o.pl);have ck:y.st.cP [44]=if y.st.is 4 [44]=true then y.st.ad else y.st:=(by unfold St.cP;rw[fm j.o.pl.tx (by decide)]);rw[fm j.o.pl.tx (by decide),ck] at q;obtain⟨g,rfl⟩:∃g,gk=g+1:=⟨gk-1,by have:=aL;omega⟩;have t:=c6.o;have cl:cX (g+1) y=if y.st.er=0/\y.st.is 4 [44]=true then cX g y.more else y:=rfl;rw[cl] at t;cases U:y.st.is 4 [44] with
      | true =>
        have c:y.st.er=0:=D.o.er (by rw[Inv.bP U];decide);rw[ag ⟨c,U⟩] at t;rw[U,ag rfl] at q;have e5:=ai.ad j.o.af;have eT:y.st.t.a+1<=y.st.ad.t.a:=(by have h1:=j.o.af.tok (by rw[Inv.bP U];decide);have h2:=zV y.st.src y.st.t.t j.o.af.ok.tt;rw[St.dZ c];simp only;omega);have T:aa (cX g ⟨y.st.ad.name,y.ns++[y.st.ad.t.s],y.ps++[y.st.ad.t.a]⟩=R/\1201-y.st.ad.t.a<g):=(by have h1:s.t.a<=y.st.t.a:=(by rw[<- a5];exact (ai.name C.o.af).ta);have h2:=aL;have h3:=C.o.af.ok.bR;have h4:=e5.af.ok.bR;exact⟨t,by omega⟩);have c2:=za e5.af;go_wp2_with (go_at_call 137;refine q.o.mono ?_;rintro e w3 ⟨rfl,H,A⟩);go_roundg g;case measure=>omega
        exact⟨true,y.st.ad,y.ns,y.ps,cm,P+1,cs,rfl,j.o.goes (by omega) (by omega) (by omega) c2.o (λ_=>c) H A,by omega,λ_=>T.o,λh=>by cases h⟩
      | false =>
        rw[ae (by rw[U];simp)] at t;have c9:=za t;rw[U,ae (by simp)] at q;go_wp2_with (go_at_call 137;refine q.o.mono ?_;rintro e w3 ⟨rfl,H,A⟩);go_roundg g;case measure=>omega
        exact⟨false,y.st,y.ns,y.ps,cm,P+1,cs,rfl,j.o.goes (by omega) (by omega) (by omega) j.o.af (λh=>h) H A,by omega,λh=>(by cases h),λ_=>c9.o⟩
end
section
open Go.RowKit
def lr (b c:Fn)(a:St):ax:=⟨(aZ a).ns,(aZ a).ps,(aZ a).st.t.a,(cx b c (a.is 4 [40]) ((aZ a).st.ac 4 [61])).2⟩
theorem He (b c:Fn)(d:St)(a:List ax):(zF b c d a).2=a++[lr b c d]:=rfl
theorem Ht (a b:Fn)(d:St)(c:List ax):(zF a b d c).1=(zF a b d []).1:=rfl
theorem HO {c a:Fn}(t:zX 18 178 a)(s:ig 18 c)(m:zv 17 c)(e:zv 18 a)(S:Xs)(i p:Nat)(b:St)(w:Xw)(n:Inv p b)(u:b.op=0)(o:PL S w i b) :
 xK 139 #[xP i] w (sf S i w (zF c a b []).1 (lr c a b)):=by
 cases d:b.is 4 [40] with
 | true => obtain⟨f,q⟩:∃f,f=1300:=⟨_,rfl⟩;obtain⟨R,g⟩:∃R,cX f (hq b)=R:=⟨_,rfl⟩;have r:=sa q g;have j:aZ b=⟨R.st.ac 4 [41],R.ns,R.ps⟩:=(by unfold aZ;rw[ag d,r]);have h:=GZ s m e S i p f R b w n u d q g o;have k:=VR (r17:=c) (r18:=a) (eqs:=[]) d r;have l:lr c a b=⟨R.ns,R.ps,(R.st.ac 4 [41]).t.a,(Fs c ((R.st.ac 4 [41]).ac 4 [61]).t ((R.st.ac 4 [41]).ac 4 [61]).name).2⟩:=(by unfold lr cx;rw[j,ag d]);rw[k,l];exact h
 | false => have h:=GV t e S i p b w n d o;have j:aZ b=⟨b.name,[b.t.s],[b.t.a]⟩:=(by unfold aZ;rw[ae (by rw[d];simp)]);have k:(zF c a b []).1=(a (b.name.ac 4 [61])).1.ac 4 [59]:=(by unfold zF cx;simp only[j];rw[ae (by rw[d];simp)]);have l:lr c a b=⟨[b.t.s],[b.t.a],b.name.t.a,(a (b.name.ac 4 [61])).2⟩:=(by unfold lr cx;rw[j,ae (by rw[d];simp)]);rw[k,l];exact h
end
section
variable {r17 d:Fn} {f p:Nat} {st:St} {x:St×List ax}
def bS (r17 d:Fn):Nat->St×List ax->St×List ax
 | 0,x=>x
 | f+1,x=>if x.1.t.k=2∨x.1.is 4 [40]=true then bS r17 d f (zF r17 d x.1 x.2) else x
def dy (r17 d:Fn)(f:Nat)(st:St):St×List ax :=
 let x:=bS r17 d f (zF r17 d (st.ac 4 [123]) [])
 (x.1.ac 4 [125],x.2)
def a7 (r17 d:Fn)(f:Nat)(st:St):St×Nd :=
 let h:=aT st.aw
 let v:=bD f h.1 h.2
 let b:=dy r17 d f v.1
 (b.1,⟨(st.aw.ac 5 zW).t.s,(st.aw.ac 5 zW).t.a,v.2,b.1.L,b.2⟩)
def Mq (r17 d:Fn)(g:Nat):Nat->St×List Nd->St×List Nd
 | 0,x=>x
 | f+1,x=>if x.1.is 5 zW=true/\x.2.length<6 then Mq r17 d g f ((a7 r17 d g x.1).1,x.2++[(a7 r17 d g x.1).2]) else x
def cW (st:St):St:=if st.t.k=0 then st else st.fail 2 st.t.a
def dm (r17 d:Fn)(g:Nat)(s:Xb):St×List Nd :=
 let a:St:=⟨s,zZ s 0,0,0,0,[]⟩
 let x:=Mq r17 d g g ((a7 r17 d g a).1,[(a7 r17 d g a).2])
 (cW x.1,x.2)
def aK (a b:St):Prop:=a.er≠0->b.er=a.er/\b.at'=a.at'
theorem aK.refl (a:St):aK a a:=λ_=>⟨rfl,rfl⟩
theorem aK.trans {a b c:St}(h:aK a b)(k:aK b c):aK a c:=λe=>by obtain⟨g,i⟩:=h e;obtain⟨j,l⟩:=k (by rw[g];exact e);exact⟨j.trans g,l.trans i⟩
theorem aK.fail (st:St)(e a:Nat):aK st (st.fail e a):=λh=>by unfold St.fail;rw[ae h];exact⟨rfl,rfl⟩
theorem aK.ad (st:St):aK st st.ad:=λh=>by rw[St.tE h];exact⟨rfl,rfl⟩
theorem aK.ac (st:St)(k:Nat)(l:Xu):aK st (st.ac k l):=by
 unfold St.ac;split
 . exact aK.ad st
 exact aK.fail st _ _
theorem aK.name (st:St):aK st st.name:=by
 unfold St.name;split
 . exact aK.ad st
 exact aK.fail st _ _
theorem Qq (h:st.er=0){e a:Nat}:(st.fail e a).er=e/\(st.fail e a).at'=a:=by unfold St.fail;rw[ag h];exact⟨rfl,rfl⟩
theorem aK.right (a:zv 18 d){many:Bool}(g:Inv p st)(k:st.op=0):aK st (cx r17 d many st).1:=by
 intro b;unfold cx;split
 . have c:=ai.name g;have j:st.name.er≠0:=c.er b;have i:st.name.is 4 [40]=false:=by have:=c.af.bad j;simp[St.is,this]
   have e:Fs r17 st.t st.name=(st.name.fail 2 st.name.t.a,0):=(by unfold Fs;rw[ae (by rw[i];simp)]);rw[e];exact ((aK.name st).trans (aK.fail _ _ _)) b
 have h:=(a st p g (by omega)).er b;rw[h];exact⟨rfl,rfl⟩
theorem LQ:∀(f:Nat) (x:dI),aK x.st (cX f x).st:=by
 intro f;induction f with
 | zero=>intro x;exact aK.refl _
 | succ f _ => intro x a;rw[show cX (f+1) x=if x.st.er=0/\x.st.is 4 [44]=true then cX f x.more else x from rfl,ae (λh=>a h.1)];exact⟨rfl,rfl⟩
theorem aK.left (st:St):aK st (aZ st).st:=by
 unfold aZ;split
 . have h:=LQ 1300 (hq st);have a:aK st (hq st).st:=(((aK.ad st).trans (aK.name _)).trans (aK.ac _ 4 [44])).trans (aK.name _);rw[sa rfl rfl];exact a.trans (h.trans (aK.ac _ 4 [41]))
 exact aK.name st
theorem aK.sL (b:zv 18 d)(g:Inv p st)(h:st.op=0)(a:List ax):aK st (zF r17 d st a).1:=by
 have c:=nN g;have e:=ai.ac c.1.af 4 [61];have i:((aZ st).st.ac 4 [61]).op=0:=by rw[St.a8,c.2.1,h]
 exact (((aK.left st).trans (aK.ac _ 4 [61])).trans (aK.right b e.af i)).trans (aK.ac _ 4 [59])
structure iI (a b:St):Prop where
 er:a.er=b.er
 at':a.at'=b.at'
 eq:a.er=0->a=b
theorem iI.refl (a:St):iI a a:=⟨rfl,rfl,λ_=>rfl⟩
theorem Iw (a:st.er≠0)(k:Nat)(l:Xu):(st.ac k l).er=st.er/\(st.ac k l).at'=st.at':=aK.ac st k l a
theorem HH (g:zv 18 d)(j:Inv p st)(n:st.op=0)(k:st.er=0)(l:¬st.t.k=2)(o:st.is 4 [40]=false)(b:List ax):(zF r17 d st b).1.er=2/\(zF r17 d st b).1.at'=st.t.a:=by
 have m:(aZ st).st=st.fail 2 st.t.a:=by unfold aZ;rw[ae (by rw[o];simp)];unfold St.name;rw[ae l]
 have h:=nN j;have i:=ai.ac h.1.af 4 [61];have r:((aZ st).st.ac 4 [61]).op=0:=by rw[St.a8,h.2.1,n]
 have q:=((aK.ac (aZ st).st 4 [61]).trans (aK.right (r17:=r17) (many:=st.is 4 [40]) g i.af r)).trans (aK.ac _ 4 [59]);have c:=Qq k (e:=2) (a:=st.t.a);rw[<- m] at c;have:=q (by rw[c.1];decide);exact⟨this.1.trans c.1,this.2.trans c.2⟩
theorem r8 (a:x.1.er≠0):gL r17 d f x=x:=by
 cases f with
 | zero=>rfl
 | succ f=>show (if _ then _ else x)=x;rw[ae (λh=>a h.1)]
theorem sb (b:Inv p x.1)(c:x.1.er≠0):bS r17 d f x=x:=by
 cases f with
 | zero=>rfl
 | succ f =>
   show (if _ then _ else x)=x;have a:=b.bad c;rw[ae];rintro (h|h)
   . rw[a] at h;simp at h
   simp[St.is,a] at h
theorem I5 (k:zv 17 r17)(c:zv 18 d):∀(f p:Nat) (x:St×List ax),Inv p x.1->x.1.op=0 ->
 iI ((bS r17 d f x).1.ac 4 [125]) ((gL r17 d f x).1.ac 4 [125])/\(((bS r17 d f x).1.ac 4 [125]).er=0->(bS r17 d f x).2=(gL r17 d f x).2):=by
 intro f;induction f with
 | zero=>intro p x _ _;exact⟨iI.refl _,λ_=>rfl⟩
 | succ f y =>
   intro p x m o;by_cases b:x.1.er=0
   . have r:bS r17 d (f+1) x=if x.1.t.k=2∨x.1.is 4 [40]=true then bS r17 d f (zF r17 d x.1 x.2) else x:=rfl;have s:gL r17 d (f+1) x=if x.1.er=0/\x.1.is 4 [125]=false then gL r17 d f (zF r17 d x.1 x.2) else x:=rfl;have g:=gD k c (eqs:=x.2) m o;by_cases h1:x.1.t.k=2∨x.1.is 4 [40]=true
     . have l:x.1.is 4 [125]=false:=by
        rcases h1 with h1|h1
        . simp[St.is,h1]
        cases q:x.1.is 4 [125] with
        | false=>rfl
        | true => simp only[St.is,Bool.and_eq_true,beq_iff_eq] at h1 q;have:=h1.2.symm.trans q.2;simp at this
       rw[r,s,ag h1,ag ⟨b,l⟩];exact y p _ g.1.af (g.2.trans o)
     rw[r,s,ae h1];cases l:x.1.is 4 [125] with
     | true=>rw[ae (λh=>by cases h.2)];exact⟨iI.refl _,λ_=>rfl⟩
     | false =>
       rw[ag ⟨b,rfl⟩];have u:¬x.1.t.k=2:=λh=>h1 (.inl h)
       have w:x.1.is 4 [40]=false:=by cases h:x.1.is 4 [40] with
        | false=>rfl
        | true=>exact absurd (.inr h) h1
       have n:=HH (r17:=r17) c m o b u w x.2;have i:(zF r17 d x.1 x.2).1.er≠0:=(by rw[n.1];decide);rw[r8 i];have t:=Iw i 4 [125];have v:x.1.ac 4 [125]=x.1.fail 2 x.1.t.a:=(by unfold St.ac;rw[ae (by rw[l];simp)]);have j:=Qq b (e:=2) (a:=x.1.t.a);rw[v];refine⟨⟨by rw[j.1,t.1,n.1],by rw[j.2,t.2,n.2],λh=>?_⟩,λh=>?_⟩
       . rw[j.1] at h;cases h
       rw[j.1] at h;cases h
   rw[r8 b,sb m b];exact⟨iI.refl _,λ_=>rfl⟩
end
section
variable {c d:Fn} {nodes:List Nd} {f g p:Nat} {b:St} {x:St×List Vr}
theorem Da (b:St):aK b (z9 b):=by
 unfold z9;split
 . exact aK.ad b
 exact aK.ac b _ _
theorem Dq (b:St):aK b (aS b):=by
 unfold aS;split
 . exact aK.ad b
 exact aK.refl b
theorem ud (i o:Bool)(b:St)(a:List Vr):aK b (zx i o b a).1:=by
 unfold zx;split
 . exact aK.fail b _ _
 have h:=((aK.name b).trans (aK.ac _ 4 [58])).trans (Da _);simp only;split
 . exact ((h.trans (aK.ad _)).trans (Dq _)).trans (aK.name _)
 exact h
theorem Cb {i:Bool}(a:x.1.er≠0):MG i f x=x:=by
 cases f with
 | zero=>rfl
 | succ f=>show (if _ then _ else x)=x;rw[ae (λh=>a h.1)]
theorem sA (i:Bool)(f:Nat)(x:St×List Vr):aK x.1 (MG i f x).1:=λa=>by rw[Cb a];exact⟨rfl,rfl⟩
theorem zip (e:f=1300)(i:Bool)(b:St)(a:List Vr):bW i b a=((MG i f (zx i (!i) (b.ac 4 [40]) a)).1.ac 4 [41],(MG i f (zx i (!i) (b.ac 4 [40]) a)).2):=by subst e;rfl
theorem sC (i:Bool)(b:St)(a:List Vr):aK b (bW i b a).1:=by obtain⟨f,e⟩:∃f,f=1300:=⟨_,rfl⟩;rw[zip e];exact (((aK.ac b 4 [40]).trans (ud _ _ _ _)).trans (sA i f _)).trans (aK.ac _ 4 [41])
theorem sD (a:x.1.er≠0):en f x=x:=by
 cases f with
 | zero=>rfl
 | succ f=>show (if _ then _ else x)=x;rw[ae (λh=>a h.1)]
theorem uw (f:Nat)(b:St)(a:List Vr):aK b (bD f b a).1:=by
 unfold bD;split
 . have h:aK b (MN b.ad a).1:=((aK.ad b).trans (ud false false _ a)).trans (aK.ac _ 4 [59]);exact h.trans (λe=>by rw[sD e];exact⟨rfl,rfl⟩)
 exact aK.refl b
theorem nO (h:zv 17 c)(i:zv 18 d):∀(f p:Nat) (x:St×List ax),Inv p x.1->x.1.op=0->ai p x.1 (bS c d f x).1/\(bS c d f x).1.op=0:=by
 intro f;induction f with
 | zero=>intro p x e a;exact⟨ai.refl e,a⟩
 | succ f m =>
   intro p x e a
   show ai p x.1 (if _ then _ else x).1/\(if _ then _ else x).1.op=0;by_cases l:x.1.t.k=2∨x.1.is 4 [40]=true
   . rw[ag l];have j:=gD h i (eqs:=x.2) e a;have k:=m p _ j.1.af (j.2.trans a);exact⟨j.1.trans k.1,k.2⟩
   rw[ae l];exact⟨ai.refl e,a⟩
theorem yl (a:zv 17 c)(e:zv 18 d)(q:Inv p b)(m:b.op=0) :
 iI (dy c d f b).1 (iJ c d f b).1/\((dy c d f b).1.er=0->dy c d f b=iJ c d f b)/\ai p b (dy c d f b).1/\(dy c d f b).1.op=0:=by
 have k:=ai.ac q 4 [123];have h:=gD a e (eqs:=[]) k.af (by rw[St.a8,m]);have n:(zF c d (b.ac 4 [123]) []).1.op=0:=by rw[h.2,St.a8,m]
 have i:=I5 a e f p _ h.1.af n;have j:=nO a e f p _ h.1.af n;have o:=ai.ac j.1.af 4 [125];refine⟨i.1,λl=>?_,((k.trans h.1).trans j.1).trans o,?_⟩
 . exact Prod.ext (i.1.eq l) (i.2 l)
 show ((bS c d f (zF c d (b.ac 4 [123]) [])).1.ac 4 [125]).op=0;rw[St.a8,j.2]
theorem px (k:zv 17 c)(l:zv 18 d)(F:Inv p b)(J:b.op=0)(H:¬6<=nodes.length) :
 iI (a7 c d f b).1 (b9 c d f b nodes).1/\((a7 c d f b).1.er=0->b9 c d f b nodes=((a7 c d f b).1,nodes++[(a7 c d f b).2]))/\Inv 0 (a7 c d f b).1/\(a7 c d f b).1.op=0/\(b.er=0->(a7 c d f b).1.er=0->b.t.a+1<=(a7 c d f b).1.t.a):=by
 have j:=ai.aw F;have r:b.aw.op=0:=J;have y:=mz j;have m:=kM (f:=f) (ak:=(aT b.aw).2) y.1.af;have a:=yl k l (f:=f) m.1.af (by rw[m.2.1,y.2.1];exact r);have I:b9 c d f b nodes=((iJ c d f (bD f (aT b.aw).1 (aT b.aw).2).1).1,nodes++[⟨(b.aw.ac 5 zW).t.s,(b.aw.ac 5 zW).t.a,(bD f (aT b.aw).1 (aT b.aw).2).2,(iJ c d f (bD f (aT b.aw).1 (aT b.aw).2).1).1.L,(iJ c d f (bD f (aT b.aw).1 (aT b.aw).2).1).2⟩]):=by unfold b9;rw[ae H]
 have G:a7 c d f b=((dy c d f (bD f (aT b.aw).1 (aT b.aw).2).1).1,⟨(b.aw.ac 5 zW).t.s,(b.aw.ac 5 zW).t.a,(bD f (aT b.aw).1 (aT b.aw).2).2,(dy c d f (bD f (aT b.aw).1 (aT b.aw).2).1).1.L,(dy c d f (bD f (aT b.aw).1 (aT b.aw).2).1).2⟩):=rfl;generalize M:bD f (aT b.aw).1 (aT b.aw).2=v at *;rw[I,G];refine⟨a.1,λn=>?_,a.2.2.1.af,a.2.2.2,λn o=>?_⟩
 . rw[a.2.1 n]
 have C:=ai.ac j 5 zW;have t:=ai.name C.af;have u:=kH (i:=true) (ak:=[]) t.af;have w:=ai.ac u.1.af 4 [45,62];have D:=kH (i:=false) (ak:=(bW true (b.aw.ac 5 zW).name []).2) w.af;have B:ai 0 (b.aw.ac 5 zW) (dy c d f v.1).1:=((((t.trans u.1).trans w).trans D.1).trans m.1).trans a.2.2.1;have z:=B.back o;have e:=B.ta;have A:b.aw.is 5 zW=true:=by
  cases h:b.aw.is 5 zW with
  | true=>rfl
  | false =>
    have:b.aw.ac 5 zW=b.aw.fail 2 b.aw.t.a:=by unfold St.ac;rw[ae (by rw[h];simp)]
    rw[this] at z;exact absurd z (St.cy _ (by decide))
 have s:b.aw.ac 5 zW=b.aw.ad:=by unfold St.ac;rw[ag A]
 have q:b.aw.er=0:=n;have K:=j.tok (by rw[Inv.bP A];decide);have L:=zV b.aw.src b.aw.t.t j.ok.tt;have E:b.aw.t.a+1<=b.aw.ad.t.a:=by rw[St.dZ q];simp only;omega
 rw[s] at e;exact aJ E e
theorem Dx (n:zv 17 c)(i:zv 18 d)(z:Inv p b)(w:b.op=0)(B:b.er=0)(h:¬(b.is 5 zW=true/\nodes.length<6)):(b9 c d f b nodes).1.er=2/\(b9 c d f b nodes).1.at'=b.t.a:=by
 have k:b.aw.er=0:=B;by_cases v:6<=nodes.length
 . unfold b9;rw[ag v];exact Qq k
 have D:b.aw.is 5 zW=false:=by
  cases C:b.aw.is 5 zW with
  | false=>rfl
  | true=>exact absurd ⟨C,by omega⟩ h
 have y:=ai.aw z;have o:=mz y;have m:=kM (f:=f) (ak:=(aT b.aw).2) o.1.af;have J:=yl n i (f:=f) m.1.af (by rw[m.2.1,o.2.1];exact w);have E:b.aw.ac 5 zW=b.aw.fail 2 b.aw.t.a:=by unfold St.ac;rw[ae (by rw[D];simp)]
 have l:=Qq k (e:=2) (a:=b.aw.t.a);rw[<- E] at l;have r:aK (b.aw.ac 5 zW) (aT b.aw).1:=(((aK.name _).trans (sC true _ _)).trans (aK.ac _ 4 [45,62])).trans (sC false _ _);have s:=r.trans (uw f (aT b.aw).1 (aT b.aw).2);have t:=s (by rw[l.1];decide);have u:(bD f (aT b.aw).1 (aT b.aw).2).1.er≠0:=by rw[t.1,l.1];decide
 have A:aK (bD f (aT b.aw).1 (aT b.aw).2).1 (iJ c d f (bD f (aT b.aw).1 (aT b.aw).2).1).1:=by
  have G:=ai.ac m.1.af 4 [123];have H:((bD f (aT b.aw).1 (aT b.aw).2).1.ac 4 [123]).op=0:=by rw[St.a8,m.2.1,o.2.1];exact w
  have I:=(aK.ac (bD f (aT b.aw).1 (aT b.aw).2).1 4 [123]).trans (aK.sL (r17:=c) i G.af H []);refine (I.trans ?_).trans (aK.ac _ 4 [125]);intro q;rw[r8 q];exact⟨rfl,rfl⟩
 have j:=A u;have F:(b9 c d f b nodes).1=(iJ c d f (bD f (aT b.aw).1 (aT b.aw).2).1).1:=by unfold b9;rw[ae v]
 rw[F];exact⟨(j.1.trans t.1).trans l.1,(j.2.trans t.2).trans l.2⟩
theorem R6 {x:St×List Nd}(a:x.1.er≠0):ik c d g f x=x:=by
 cases f with
 | zero=>rfl
 | succ f=>show (if _ then _ else x)=x;rw[ae (λh=>a h.1)]
theorem mI {x:St×List Nd}(a:Inv p x.1)(i:x.1.er≠0):Mq c d g f x=x:=by
 cases f with
 | zero=>rfl
 | succ f => show (if _ then _ else x)=x;have e:=a.bad i;rw[ae];rintro⟨h,_⟩;simp[St.is,e] at h
theorem pU (b:St):aK b (cW b):=by
 unfold cW;split
 . exact aK.refl b
 exact aK.fail b _ _
theorem B8 (l:zv 17 c)(m:zv 18 d)(g:Nat):∀(f p:Nat) (x:St×List Nd),Inv p x.1->x.1.op=0->x.1.er=0->1201-x.1.t.a<f ->
 iI (cW (Mq c d g f x).1) (ik c d g f x).1/\((cW (Mq c d g f x).1).er=0->(Mq c d g f x).2=(ik c d g f x).2):=by
 intro f;induction f with
 | zero=>intro p x _ _ _ h;omega
 | succ f E =>
   intro p x s C n o;have A:Mq c d g (f+1) x=if x.1.is 5 zW=true/\x.2.length<6 then Mq c d g f ((a7 c d g x.1).1,x.2++[(a7 c d g x.1).2]) else x:=rfl;have B:ik c d g (f+1) x=if x.1.er=0/\x.1.t.k≠0 then ik c d g f (b9 c d g x.1 x.2) else x:=rfl;by_cases q:x.1.is 5 zW=true/\x.2.length<6
   . have k:=Inv.bP q.1;rw[A,B,ag q,ag ⟨n,by rw[k];decide⟩];obtain⟨t,D,v,z,j⟩:=px l m (f:=g) (nodes:=x.2) s C (by omega);by_cases i:(a7 c d g x.1).1.er=0
     . rw[D i];have F:=j n i;have:=s.ok.bR;have:=v.ok.bR;exact E 0 _ v z i (by simp only;omega)
     have u:(b9 c d g x.1 x.2).1.er≠0:=(by rw[<- t.er];exact i);rw[R6 u,mI v i];have r:=pU (a7 c d g x.1).1 i;simp only;refine⟨⟨by rw[r.1,t.er],by rw[r.2,t.at'],λh=>?_⟩,λh=>?_⟩
     . rw[r.1] at h;exact absurd h i
     rw[r.1] at h;exact absurd h i
   rw[A,B,ae q];by_cases k:x.1.t.k=0
   . rw[ae (λh=>h.2 k)];have:cW x.1=x.1:=by unfold cW;rw[ag k]
     rw[this];exact⟨iI.refl _,λ_=>rfl⟩
   rw[ag ⟨n,k⟩];have w:=Dx l m (f:=g) s C n q;have y:(b9 c d g x.1 x.2).1.er≠0:=(by rw[w.1];decide);rw[R6 y];have:cW x.1=x.1.fail 2 x.1.t.a:=(by unfold cW;rw[ae k]);rw[this];have o:=Qq n (e:=2) (a:=x.1.t.a);refine⟨⟨by rw[o.1,w.1],by rw[o.2,w.2],λh=>?_⟩,λh=>?_⟩
   . rw[o.1] at h;cases h
   rw[o.1] at h;cases h
theorem uF (e:zv 17 c)(i:zv 18 d)(g:Nat)(t:1201<g)(s:Xb)(q:Inv 0 (⟨s,zZ s 0,0,0,0,[]⟩:St)) :
 iI (dm c d g s).1 (mY c d g s).1/\((dm c d g s).1.er=0->(dm c d g s).2=(mY c d g s).2):=by
 unfold dm mY;simp only;obtain⟨k,r,o,n,m⟩:=px e i (f:=g) (nodes:=[]) q rfl (by simp);by_cases a:(a7 c d g (⟨s,zZ s 0,0,0,0,[]⟩:St)).1.er=0
 . rw[r a];exact B8 e i g g 0 _ o n a (by simp only;omega)
 have l:(b9 c d g (⟨s,zZ s 0,0,0,0,[]⟩:St) []).1.er≠0:=by rw[<- k.er];exact a
 rw[R6 l,mI o a];have j:=pU (a7 c d g (⟨s,zZ s 0,0,0,0,[]⟩:St)).1 a;refine⟨⟨by rw[j.1,k.er],by rw[j.2,k.at'],λh=>?_⟩,λh=>?_⟩
 . rw[j.1] at h;exact absurd h a
 rw[j.1] at h;exact absurd h a
end
section
open Go.RowKit
variable {q:ax} {t:List ax} {L:List Ex} {z c:Xm} {B m e A p j:Nat} {S:Xs} {T:Xj} {a:Xp} {s n:St} {f av' u v o x y l d:Xv} {w r wr:Xw} {P:World->Nat->Prop}
def hE (B:Nat)(wr:Xw)(f:Xv)(P:World->Nat->Prop):Prop :=
 ∃(b:Xw) (h:Nat),B<=h/\P b h/\(∀k,h<=k->k<b.heap.size->wr.heap[k]?=b.heap[k]?)/\(∀g,f.ownBlock=some g->g<h∨b.heap.size<=g)/\b.heap.size<=wr.heap.size
theorem hE.imp {Q:World->Nat->Prop}(h:hE B wr f P)(F:∀w b,P w b->Q w b):hE B wr f Q:=by obtain⟨G,g,i,k,C,D,E⟩:=h;exact⟨G,g,i,F _ _ k,C,D,E⟩
theorem hE.next (h:hE B wr f P)(E:Fr T wr r)(J:∀k,T k->k<B∨f.ownBlock=some k)(K:∀k,av'.ownBlock=some k->f.ownBlock=some k∨wr.heap.size<=k):hE B r av' P:=by
 obtain⟨O,F,G,H,I,D,i⟩:=h;refine⟨O,F,G,H,λk C b=>?_,λg M=>?_,aJ i E.size⟩
 . refine (E.block k (dD b i) (λN=>?_)).trans (I k C b);rcases J k N with h|h
   . omega
   rcases D k h with h|h <;> omega
 rcases K g M with h|h
 . exact D g h
 exact ap (aJ i h)
structure EQ (L:List Ex) (q:ax) (d:Xv) (a:Xp) (w:Xw) (B:Nat):Prop where
 own:w.ownsRow B 78 2 d q.ns.length (gg q.ns q.ps)
 tr:TR w B L q.ex (.pointer a)
theorem EQ.kept (h:EQ L q d a w B)(b:∀k,B<=k->k<w.heap.size->r.heap[k]?=w.heap[k]?):EQ L q d a r B :=
 ⟨zi h.own (λk g i _=>b k g i),h.tr.kept b⟩
theorem EQ.down {b:Nat}(h:EQ L q d a w B)(g:b<=B):EQ L q d a w b:=⟨zR h.own g,h.tr.down g⟩
theorem EQ.more (h:EQ L q d a w B)(E:List Ex):EQ (L++E) q d a w B:=⟨h.own,h.tr.more E⟩
theorem Kz (h:hE B wr f (EQ L q d a)):EQ L q d a wr B:=by obtain⟨C,k,b,g,i,_,_⟩:=h;exact (g.kept i).down b
def fI (B:Nat)(wr:Xw)(f:Xv)(L:List Ex):List ax->List Value->Prop
 | [],c=>c=[]
 | q::g,c=>∃d a b,c=d::(xI q.a)::.pointer a::b/\hE B wr f (EQ L q d a)/\fI B wr f L g b
theorem fI.next (E:List Ex)(H:Fr T wr r)(F:∀k,T k->k<B∨f.ownBlock=some k)(G:∀k,av'.ownBlock=some k->f.ownBlock=some k∨wr.heap.size<=k) :
 ∀(b:List ax) (c:Xm),fI B wr f L b c->fI B r av' (L++E) b c:=by
 intro b;induction b with
 | nil=>intro c h;exact h
 | cons q b I => rintro c ⟨d,a,g,i,C,D⟩;exact⟨d,a,g,i,(C.next H F G).imp (λ_ _ h=>h.more E),I g D⟩
theorem fI.snoc (i:hE B wr f (EQ L q d a)):∀(b:List ax) (c:Xm),fI B wr f L b c->fI B wr f L (b++[q]) (c++[d,xI q.a,.pointer a]):=by
 intro b;induction b with
 | nil=>rintro c rfl;exact⟨d,a,[],rfl,i,rfl⟩
 | cons F b D => rintro c ⟨g,h,E,rfl,C,k⟩;exact⟨g,h,_,rfl,C,D E k⟩
structure EI (S:Xs) (j e B p:Nat) (w wr:Xw) (u v o x y:Xv) (A:Nat) (z:Xm) (s:St) (t:List ax) (l:Xv) (m:Nat) (c:Xm):Prop where
 af:Inv p s
 op:s.op=0
 pl:PL S wr j s
 aC:xH wr e #[u,v,o,x,y,l] 82
 bZ:wr.ownsRow B 95 7 o A z
 ach:∀k,o.ownBlock=some k->¬l.ownBlock=some k
 own:wr.ownsRow B 159 3 l m c
 ok:s.er=0->m=t.length/\fI B wr l s.L t c
 fr:Fr (·=j) w wr
theorem EI.goes (h:EI S j e B p w wr u v o x y A z s t l m c)(I:j<e)(D:e<B)(E:Inv p n)(J:n.op=0)(H:n.L=s.L)(G:n.er=0->s.er=0)(F:PL S r j n)(hF:Fr (·=j) wr r):EI S j e B p w r u v o x y A z n t l m c:=by refine⟨E,J,F,(hF.block e (ze h.aC) (by omega)).trans h.aC,zi h.bZ (λk C b _=>hF.block k b (by omega)),h.ach,zi h.own (λk C b _=>hF.block k b (by omega)),λi=>?_,h.fr.trans hF⟩;obtain⟨K,M⟩:=h.ok (G i);refine⟨K,?_⟩;have:=fI.next (av':=l) [] hF (λk g=>ao (by omega)) (λk g=>ao g) _ _ M;rw[H];simpa using this
theorem Km {C J:Xw}{I:Xv}{aA pl:Nat}{aL:Xm}{X:Obj}
 (h:EI S j e B p w wr u v o x y A z s t l m c) (W:j<e) (a0:e<B) (ar:w.heap.size<=e) (Q:B<=wr.heap.size) (g:ai p s n) (a2:n.op=0)
 (F:Fr (·=j) wr C) (H:C.ownsRow wr.heap.size 78 2 d aA aL) (Y:n.er=0->aA=q.ns.length/\aL=gg q.ns q.ps/\pl=q.a/\TR C wr.heap.size n.L q.ex (.pointer a))
 (R:PL S J j n) (D:Fr (λk=>l.ownBlock=some k) (C.alloc X) J) (V:J.heap[e]?=some (.cells #[u,v,o,x,y,l] 82 (0,0)))
 (N:J.ownsRow B 159 3 I (m+1) (c++[d,xI pl,.pointer a])) (b:∀k,I.ownBlock=some k->l.ownBlock=some k∨(C.alloc X).heap.size<=k) :
 EI S j e B p w (J.setCell (xD e 5) I) u v o x y A z n (t++[q]) I (m+1) (c++[d,xI pl,.pointer a]):=by
 have G:∀k,l.ownBlock=some k->B<=k/\k<wr.heap.size:=λk hk=>h.own.lt k hk;have Z:∀k,o.ownBlock=some k->B<=k/\k<wr.heap.size:=λk hk=>h.bZ.lt k hk;have a4:=F.size;have a5:=D.size;have a6:(C.alloc X).heap.size=C.heap.size+1:=by simp
 have M:Fr (λk=>k=j∨k=e∨l.ownBlock=some k) wr (J.setCell (xD e 5) I):=by have h1:Fr (λk=>k=j∨k=e∨l.ownBlock=some k) wr (C.alloc X):=(F.mono (λ_ _ h=>ao h)).alloc X;exact (h1.dr D (λ_ _ h=>ap (ap h))).setCell (ao (ap (ao rfl))) _
 obtain⟨E,a1⟩:=g.L;refine⟨g.af,a2,R.aU W _ _,zh _ _ _ _ V,?_,?_,zi N (λk h1 _ _=>zr (by omega) rfl),?_,?_⟩
 . exact zi h.bZ (λk h1 O h3=>M.block k O (λhk=>by
    rcases hk with hk|hk|hk
    . omega
    . omega
    exact h.ach k h3 hk))
 . intro k hk U;rcases b k U with h1|h1
   . exact h.ach k hk h1
   have:=(Z k hk).2;omega
 . intro he;obtain⟨e1,aV⟩:=h.ok (g.sM he);obtain⟨o1,o2,o3,a9⟩:=Y he;subst o1 o2 o3;refine⟨by simp[e1],?_⟩;have K:=fI.next (av':=I) E M (λk hk=>by
    rcases hk with hk|hk|hk
    . left;omega
    . left;omega
    . exact ap hk) (λk hk=>by
    rcases b k hk with h1|h1
    . exact ao h1
    right;omega) _ _ aV
   rw[<- a1] at K;refine fI.snoc ?_ _ _ K;refine⟨C,wr.heap.size,Q,⟨H,a9⟩,λk h1 O=>?_,λg hg=>?_,?_⟩
   . exact zr (by omega) ((D.block k (by omega) (λh=>by have:=(G k h).2;omega)).trans (mm _ _ _ O))
   . rcases b g hg with h|h
     . left;exact (G g h).2
     right;omega
   simp[World.setCell];omega
 have h1:Fr (·=j) w (C.alloc X):=(h.fr.trans F).alloc X;exact (h1.dr D (λi hi a3=>by have:=(G i a3).1;omega)).aO ar _ _
end
end Go.Proofs.YtcnelakggnfnhaaGreatDoor
