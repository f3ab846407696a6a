/- Part 11 of the proof. -/
import Derived.Test.YtmfkofhgdjechaaGreatDoorK09
set_option maxRecDepth 100000
set_option maxHeartbeats 8000000
namespace Go.Proofs.YtmfkofhgdjechaaGreatDoor
open Go.Proofs.Tryz
section
open Go.RowKit
variable {l:Xl} {f:Xn} {o:Xm} {B b k p c d m:Nat} {S:Xs} {s:St} {e:Xy} {t z j:Xv} {w wr:Xw}
theorem yV:(⟨#[61]⟩:Xb).toList=[61]:=by decide +kernel
theorem rV:zH 135:=λ_ _=>by kernel_rfl
theorem Tryz.s8:(prog.info? 144).map (λi=>(i.zero,i.size,i.bytes))=some (some (.agg #[.string ⟨#[]⟩,xI 0]),2,24):=by kernel_rfl
theorem sr {s:Xb}{a:Int}:∀u∈[Value.string s,xI a],u.oneCell'=true:=by intro u g;simp at g;rcases g with rfl|rfl <;> rfl
def gg:List ByteArray->List Nat->List Value
 | s::l,a::f=>.string s::(xI a)::gg l f
 | _,_=>[]
theorem JS:∀(l:Xl) (f:Xn) (s:Xb) (a:Nat),l.length=f.length->gg (l++[s]) (f++[a])=gg l f++[.string s,xI a]:=by
 intro l;induction l with
 | nil=>intro f s a h;cases f with
   | nil=>rfl
   | cons _ _=>simp at h
 | cons x l g=>intro f s a h;cases f with
   | nil=>simp at h
   | cons y f=>simp only[List.cons_append,gg,g f s a (by simpa using h)]
structure QI (S:Xs) (c m d B p:Nat) (w wr:Xw) (s:St) (l:Xl) (f:Xn) (j:Xv) (k:Nat) (o:Xm) (t z:Xv):Prop where
 af:Inv p s
 pl:PL S wr c s
 q:xH wr d #[j,t,z] 161
 r:xH wr m #[.slice none 0 0,xI 0,.pointer none] 161
 own:wr.ownsRow B 144 2 j k o
 len:l.length=f.length
 ok:s.er=0->k=l.length/\o=gg l f
 fr:Fr (·=c) w wr
theorem QI.goes {g:Xw}{a:St}(h:QI S c m d B p w wr s l f j k o t z)(q:c<m)(i:c<d)(x:c<B)(r:Inv p a)(v:a.er=0->s.er=0)(u:PL S g c a)(hF:Fr (·=c) wr g):QI S c m d B p w g a l f j k o t z :=
 ⟨r,u,(hF.block d (ze h.q) (by omega)).trans h.q,(hF.block m (ze h.r) (by omega)).trans h.r,zi h.own (λk q i _=>hF.block k i (by omega)),h.len,λn=>h.ok (v n),h.fr.trans hF⟩
theorem rW {G g:Xw}{F:Xv}{X:Obj}{E:Xb}{D:Nat}
 (h:QI S c m d B p w wr s l f j k o t z) (U:c<m) (K:c<d) (_h3:c<B) (y:¬m=d) (L:d<B) (M:m<B) (A:w.heap.size<=d) (_hwB:w.heap.size<=B) (u:aa (s.t.k=2->E=s.t.s/\D=s.t.a)) (a:Fr (·=c) wr G) (r:PL S g c s.name) (v:xH g d #[j,t,z] 161)
 (q:g.ownsRow B 144 2 F (k+1) (o++[.string E,xI D])) (n:Fr (λk=>j.ownBlock=some k) (G.alloc X) g):QI S c m d B p w (g.setCell (xD d 0) F) s.name (l++[s.t.s]) (f++[s.t.a]) F (k+1) (o++[.string E,xI D]) t z:=by
 have O:=a.size;have x:xH g m #[.slice none 0 0,xI 0,.pointer none] 161:=by have C:=ze h.r;exact (n.block m (by rw[au];omega) (λI=>by have:=(h.own.lt m I).1;omega)).trans ((Below.heap_alloc _ _ _ (by omega)).trans ((a.block m C (by omega)).trans h.r))
 refine⟨(ai.name h.af).af,r.aU K _ _,zh _ _ _ _ v,zr y x,zi q (λk I _ _=>zr (by omega) rfl),by simp[h.len],?_,?_⟩
 . intro H;obtain⟨P,Q⟩:=h.ok (mo H);obtain⟨R,T⟩:=u.out (lm H);subst R T;exact⟨by simp[P],by rw[JS _ _ _ _ h.len,Q]⟩
 have J:Fr (·=c) w (G.alloc X):=(h.fr.trans a).alloc X;exact (J.dr n (λi V N=>by have:=(h.own.lt i N).1;omega)).aO A _ _
theorem x8 (h:QI S c m d B p w wr s l f j k o t z)(n:c<d)(g:¬m=d)(q:d<B)(i:w.heap.size<=d)(_hwB:w.heap.size<=B)(a:Nat):QI S c m d B p w (wr.setCell (xD d 1) (xI a)) s l f j k o (xI a) z :=
 ⟨h.af,h.pl.aU n _ _,zh _ _ _ _ h.q,zr g h.r,zi h.own (λk r _ _=>zr (by omega) rfl),h.len,h.ok,h.fr.aO i _ _⟩
theorem x7 (h:QI S c m d B p w wr s l f j k o t z)(n:c<d)(g:¬m=d)(q:d<B)(i:w.heap.size<=d)(a:Xp):QI S c m d B p w (wr.setCell (xD d 2) (.pointer a)) s l f j k o t (.pointer a) :=
 ⟨h.af,h.pl.aU n _ _,zh _ _ _ _ h.q,zr g h.r,zi h.own (λk r _ _=>zr (by omega) rfl),h.len,h.ok,h.fr.aO i _ _⟩
theorem xR {n q r:Xv}(h:xH w b #[n,q,r] e)(a g i:Xv):(((w.setCell (xD b 0) a).setCell (xD b 1) g).setCell (xD b 2) i).heap[b]?=some (.cells #[a,g,i] e (0,0)) :=
 zh _ _ _ _ (zh _ _ _ _ (zh _ _ _ _ h))
def sf (S:Xs)(c:Nat)(w:Xw)(g:St)(q:ax)(e:Ending)(h:Xw):Prop :=
 ∃(j:Xv) (k:Nat) (o:Xm) (i:Nat) (a:Xp),e=.returned (.agg #[j,xI i,.pointer a])/\(∃x n,j=.slice x k n)/\PL S h c g/\h.ownsRow w.heap.size 144 2 j k o /\
  aa (g.er=0->k=q.ns.length/\o=gg q.ns q.ps/\i=q.a/\TR h w.heap.size g.L q.ex (.pointer a))/\Fr (·=c) w h
theorem xq {fn:Func}{p:Tmp}(h:fn.results=#[.cell p 161]){a:Xa}(u:a[p]?.getD undef=xP b){g i n:Xv}(r:xH w b #[g,i,n] 161):(results fn a).run prog w=.ok (.agg #[g,i,n]) w:=by obtain⟨q,t,z,_⟩:=zL r;simp[results,h,u,go_sem,q,t,z]
theorem xn {n:Nat}{q:Xv}(h:w.ownsRow B e 2 q n o):∃x r,q=.slice x n r:=by
 rcases h.2 with ⟨i,v⟩|⟨g,a,u,i,_⟩
 . exact⟨none,0,by rw[i,v]⟩
 exact⟨_,a,i⟩
theorem GV {r:Fn}(fq:zX 18 194 r)(fd:zv 18 r)(S:Xs)(c p:Nat)(a:St)(w:Xw)(a9:Inv p a)(eq:a.is 4 [40]=false)(a2:PL S w c a) :
 xK 139 #[xP c] w (sf S c w ((r (a.name.ac 4 [61])).1.ac 4 [59]) ⟨[a.t.s],[a.t.a],a.name.t.a,(r (a.name.ac 4 [61])).2⟩):=by
 have I:=a2.lt;have P:=za (λL h=>hY S c a ⟨#[40]⟩ _ j7 L a9.bd h);have c3:a.cP [40]=a:=by unfold St.cP;rw[fm a2.tx (by decide),eq];rfl
 rw[fm a2.tx (by decide),eq,c3] at P;obtain⟨nx,na,c0,cv⟩:=jk a;have bl:=za cv;have eb:=za (λL h=>gG S c a L a9.bd h);rw[c0] at eb;obtain⟨i0,gc,ck,cm,cn⟩:=info_parts Tryz.s8;go_enter func139,ntmps139;go_wp2_with fail;refine (P.o _ ((a2.alloc _).alloc _)).mono ?_;rintro e L ⟨rfl,b1,G⟩;have X:QI S c w.heap.size (w.heap.size+1) (w.heap.size+1+1) p w L a [] [] (.slice none 0 0) 0 [] (xI 0) (.pointer none):=by
  refine⟨a9,b1,?_,?_,World.ownsRow_nil _ _ _ _,rfl,λ_=>⟨rfl,rfl⟩,(((Fr.refl _ w).alloc _).alloc _).trans G⟩
  . refine (G.block _ (by simp) (by omega)).trans ?_;have:=zc (w.alloc (.cells #[.slice none 0 0,xI 0,.pointer none] 161)) (.cells #[.slice none 0 0,xI 0,.pointer none] 161);simpa using this
  exact (G.block _ (by simp;omega) (by omega)).trans ((Below.heap_alloc _ _ _ (by simp)).trans (zc w _))
 have u:=za X;obtain⟨c5,c9,dn,ds,a3⟩:=zL X.q;go_upto_region 12 with fail;go_cut [] (λg8=>∃j k o,aa (QI S c w.heap.size (w.heap.size+1) (w.heap.size+1+1) p w g8 a.name [a.t.s] [a.t.a] j k o (xI 0) (.pointer none))/\k<=1);case first =>
  have g4:0+1<=maxLen:=by unfold maxLen;omega
  have bE:(0+1)*24<=140737488355328:=by omega
  have cs:=u.o.pl.lt;go_region_law (first|(refine kD rfl 135 (.tmp 38) 136 rfl rV (xP c) rfl (eb.o _ u.o.pl.drew) ?_;rintro e ar ⟨rfl,be,U⟩;refine⟨_,rfl,?_⟩;have C:Fr (·=c) L ar:=U.cQ;have g1:=C.size;have Q:=(C.block (w.heap.size+1) a3 (by omega)).trans u.o.q;obtain⟨f0,f1,f2,he,fx⟩:=zL Q;have c4:w.heap.size+1+1<=ar.heap.size+1:=(by omega))|(refine zJ _ rfl (.tmp 37) (.tmp 40) 158 rfl (w.heap.size+1+1) 144 i0 _ 2 24 underlying158 gc ck cm cn rfl (by decide) (.slice none 0 0) 0 [] rfl (World.ownsRow_nil _ _ _ _) (xD ar.heap.size 0) 1 1 [.string nx,xI na] rfl rfl (zN (zc ar _) rfl) sr g4 bE (by simpa using c4) ?_;intro v' g7 q H es;obtain⟨hg,em,rfl,fV⟩:=zM q (by omega);have D:=Fr.gi H;have ca:g7.heap[w.heap.size+1]?=ar.heap[w.heap.size+1]?:=((D.block (w.heap.size+1) (by rw[au];omega) (λh=>by cases h)).trans (Below.heap_alloc _ _ _ fx));have R:=za (ca.trans Q);obtain⟨m0,m1,m2,g3,g6⟩:=zL R.o;have bk:=za (PL.fr (be.alloc _) D (λk ge=>by cases ge))));all_goals go_wp2_with fail
  all_goals go_meet
  all_goals exact⟨_,_,_,rW u.o (by omega) (by omega) (by omega) (by omega) (by omega) (by omega) (by omega) (by omega) bl C bk.o R.o q D,by omega⟩
 case rest => obtain⟨j,k,o,g,gl⟩:=hcut;have g2:=g.o.fr.size;have er:=g.o.pl.lt;obtain⟨c5,c9,dn,ds,a3⟩:=zL g.o.q;have b0:=g.o.af.bd;have M:=za (zP S c a.name ⟨#[61]⟩ _ yV wc b0 g.o.pl);rw[fo g.o.pl.tx (by decide)] at M;go_wp2_with (go_at_call 134;refine M.o.mono ?_;rintro e hQ ⟨rfl,b2,V⟩;have E:=za (g.o.goes (by omega) (by omega) (by omega) (ai.ac g.o.af 4 [61]).af (λZ=>eJ Z) b2 V);obtain⟨m0,m1,m2,g3,g6⟩:=zL E.o.q;have gs:=V.size);obtain⟨s2,T⟩:∃s2,a.name.ac 4 [61]=s2:=⟨_,rfl⟩;rw[T] at E;have J:=x8 E.o (by omega) (by omega) (by omega) (by omega) (by omega) a.name.t.a;have g5:=fd s2 p J.af (by omega);have bs:=za (fq S c s2 p _ J.af (by omega) J.pl);have gt:=J.fr.size;refine bs.o.mono ?_;rintro e a4 ⟨K,rfl,b3,Y,N⟩;have g0:=N.size;have F:=za (J.goes (by omega) (by omega) (by omega) g5.af (λZ=>g5.dj.dd Z) b3 N);obtain⟨c5,c9,dn,ds,a3⟩:=zL F.o.q;have A:=za g5.af.bd;obtain⟨y,bx⟩:∃y,r s2=y:=⟨_,rfl⟩;rw[bx] at F A Y;have bp:=za Y.out;have bt:=g5.af;rw[bx] at bt;go_wp2_with fail;have a0:=x7 F.o (by omega) (by omega) (by omega) (by omega) K;have x:=za (zP S c y.1 ⟨#[59]⟩ _ pH _ A.out a0.pl);rw[fo a0.pl.tx (by decide)] at x;refine x.o.mono ?_;rintro e a5 ⟨rfl,b4,O⟩;have i:=za (a0.goes (by omega) (by omega) (by omega) (ai.ac a0.af 4 [59]).af (λZ=>eJ Z) b4 O);obtain⟨g9,bL,n⟩:=xn i.o.own;have al:=i.o.q;rw[n] at al;obtain⟨c5,c9,dn,ds,a3⟩:=zL al;obtain⟨hm,hu,hv,hw,hN⟩:=zL i.o.r;go_wp2_with fail;have W:Fr (·=c) (a4.setCell (xD (w.heap.size+1) 2) (.pointer K)) a5:=O;refine bodyPost_ret (v:=.agg #[j,xI a.name.t.a,.pointer K]) (by rw[n];exact xq rfl rfl (xR i.o.r _ _ _)) rfl ?_;rw[T,bx];refine⟨j,k,o,a.name.t.a,K,rfl,⟨g9,bL,n⟩,((i.o.pl.aU I _ _).aU I _ _).aU I _ _,zR (zi i.o.own (λk h1 _ _=>zr (by omega) (zr (by omega) (zr (by omega) rfl)))) (by omega:w.heap.size<=w.heap.size+1+1),?_,((i.o.fr.aO (an _) _ _).aO (an _) _ _).aO (an _) _ _⟩;intro ak;obtain⟨fr,fv⟩:=i.o.ok ak;refine⟨fr,fv,rfl,?_⟩;rw[St.bi];have t5:=bp.o (eJ ak);have go:=ze J.q;have ev:Fr (·=w.heap.size+1) a4 (a4.setCell (xD (w.heap.size+1) 2) (.pointer K)):=(Fr.refl _ a4).aY _ _;have ex:Fr (·=w.heap.size) a5 (((a5.setCell (xD w.heap.size 0) j).setCell (xD w.heap.size 1) (xI a.name.t.a)).setCell (xD w.heap.size 2) (.pointer K)):=((((Fr.refl _ a5).aY _ _).aY _ _).aY _ _);have t7:=(t5.fr ev (λk h1 _ h2=>by omega)).fr W (λk h1 _ h2=>by omega);have t8:=t7.fr ex (λk h1 _ h2=>by omega);rw[n] at t8;exact t8.down (by omega)
end
section
open Go.RowKit
variable {r17:Fn} {a:St}
theorem JW {d:Xb}{c:Nat}(h:a.t.k=2->d=a.t.s/\c=a.t.a):a1 r17 ⟨2,c,0,d,0⟩ a.name=a1 r17 a.t a.name:=by
 by_cases b:a.t.k=2
 . obtain⟨e,f⟩:=h b;unfold a1;simp only[e,f]
 have g:a.name=a.fail 2 a.t.a:=by unfold St.name;rw[ae b]
 rw[g];unfold a1;rw[St.mR _ (by decide)];rfl
theorem Ke {p:Nat}(d:Inv p a)(h:(a1 r17 a.t a.name).1.er=0):a.name.er=0:=by
 by_cases c:a.name.er=0
 . exact c
 have b:=ai.name d;have f:a.name.is 4 [40]=false:=by have:=b.af.bad c;simp[St.is,this]
 have e:a1 r17 a.t a.name=(a.name.fail 2 a.name.t.a,0):=by unfold a1;rw[ae (by rw[f];simp)]
 rw[e] at h;exact (ai.fail b.af (by omega) (by omega) b.af.ok.bR:ai p a.name (a.name.fail 2 a.name.t.a)).dd h
theorem GZ {fr:Fn}(l2:ig 18 r17)(hR:zv 17 r17)(hT:zv 18 fr)(S:Xs)(m p f:Nat)(R:dI)(a:St)(w:Xw)(g4:Inv p a)(m1:a.op=0)(U:a.is 4 [40]=true)(lb:f=1300)(ds:cX f (hq a)=R)(gc:PL S w m a) :
 xK 139 #[xP m] w (sf S m w ((a1 r17 ((R.st.ac 4 [41]).ac 4 [61]).t ((R.st.ac 4 [41]).ac 4 [61]).name).1.ac 4 [59]) ⟨R.ns,R.ps,(R.st.ac 4 [41]).t.a,(a1 r17 ((R.st.ac 4 [41]).ac 4 [61]).t ((R.st.ac 4 [41]).ac 4 [61]).name).2⟩):=by
 have b0:=gc.lt;have bx:=ym g4 U lb ds;have q:=za (λa4 h=>hY S m a ⟨#[40]⟩ _ j7 a4 g4.bd h);have it:a.cP [40]=a.ad:=by unfold St.cP;rw[fm gc.tx (by decide),U];rfl
 rw[fm gc.tx (by decide),U,it] at q;have c1:=ai.ad g4;have hN:=ai.name c1.af;have l6:=ai.ac hN.af 4 [44];obtain⟨nx,na,N,M⟩:=jk a.ad;have be:=za M;have T:=za (λa4 h=>gG S m a.ad a4 c1.af.bd h);rw[N] at T;obtain⟨ls,le,em,eq,er⟩:=info_parts Tryz.s8;have f41:=ai.ac bx.r 4 [41];have f61:=ai.ac f41.af 4 [61];have f62:=ai.name f61.af;have O:1<=((R.st.ac 4 [41]).ac 4 [61]).t.a:=aJ bx.ta (aJ f41.ta f61.ta);have b1:((R.st.ac 4 [41]).ac 4 [61]).op=0:=by rw[St.a8,St.a8,bx.tv,m1]
 have ev:=pj hR hT (many:=true) f61.af b1 (λ_=>O);have io:cx r17 fr true ((R.st.ac 4 [41]).ac 4 [61])=a1 r17 ((R.st.ac 4 [41]).ac 4 [61]).t ((R.st.ac 4 [41]).ac 4 [61]).name:=rfl;rw[io] at ev;have g5:=za c1.af;have g6:=za l6.af;have al:=za f41.af;have z:=za f61.af;have G:=za f62.af;have K:=za (aJ O f62.ta);have W:=za ev.1;have hu:aa (cX 1300 ⟨(a.ad.name.ac 4 [44]).name,[a.ad.t.s]++[(a.ad.name.ac 4 [44]).t.s],[a.ad.t.a]++[(a.ad.name.ac 4 [44]).t.a]⟩=R):=by rw[<- lb];exact ds
 generalize ip:a.ad.name.ac 4 [44]=n2 at *;have cs:=za ip;go_enter func139,ntmps139;go_wp2_with fail;refine (q.o _ ((gc.alloc _).alloc _)).mono ?_;rintro e a4 ⟨rfl,h3,bp⟩;have bE:QI S m w.heap.size (w.heap.size+1) (w.heap.size+1+1) p w a4 a.ad [] [] (.slice none 0 0) 0 [] (xI 0) (.pointer none):=by
  refine⟨g5.o,h3,?_,?_,World.ownsRow_nil _ _ _ _,rfl,λ_=>⟨rfl,rfl⟩,(((Fr.refl _ w).alloc _).alloc _).trans bp⟩
  . refine (bp.block _ (by simp) (by omega)).trans ?_;have:=zc (w.alloc (.cells #[.slice none 0 0,xI 0,.pointer none] 161)) (.cells #[.slice none 0 0,xI 0,.pointer none] 161);simpa using this
  exact (bp.block _ (by simp;omega) (by omega)).trans ((Below.heap_alloc _ _ _ (by simp)).trans (zc w _))
 have V:=za bE;obtain⟨gl,go,gs,gt,b4⟩:=zL bE.q;have h9:=bE.pl.lt;go_upto_region 3 with fail;go_cut [] (λi7=>∃X xs,aa (QI S m w.heap.size (w.heap.size+1) (w.heap.size+1+1) p w i7 a.ad.name [a.ad.t.s] [a.ad.t.a] X (0+1) xs (xI 0) (.pointer none)));case first =>
  have i5:0+1<=maxLen:=by unfold maxLen;omega
  have bl:(0+1)*24<=140737488355328:=by omega
  go_region_law (first|(refine kD rfl 135 (.tmp 9) 136 rfl rV (xP m) rfl (T.o _ V.o.pl.drew) ?_;rintro e Q ⟨rfl,a5,L⟩;refine⟨_,rfl,?_⟩;have n:Fr (·=m) a4 Q:=L.cQ;have i1:=n.size;have I:=(n.block (w.heap.size+1) b4 (by omega)).trans V.o.q;obtain⟨f0,f1,f2,md,hQ⟩:=zL I;have d:=za (zi V.o.own (λk h1 h2 _=>n.block k h2 (by omega)));have b2:w.heap.size+1+1<=Q.heap.size+1:=(by omega))|(refine zJ _ rfl (.tmp 8) (.tmp 11) 158 rfl (w.heap.size+1+1) 144 ls _ 2 24 underlying158 le em eq er rfl (by decide) (.slice none 0 0) 0 [] rfl (zD d.o _) (xD Q.heap.size 0) 1 1 [.string nx,xI na] rfl rfl (zN (zc Q _) rfl) sr i5 bl (by simpa using b2) ?_;intro v' i6 l u es;obtain⟨mk,cv,rfl,h7⟩:=zM l (by omega);have r:=Fr.gi u;have bL:i6.heap[w.heap.size+1]?=Q.heap[w.heap.size+1]?:=((r.block (w.heap.size+1) (by rw[au];omega) (λh=>by have:=(d.o.lt _ h).1;omega)).trans (Below.heap_alloc _ _ _ hQ));have J:=za (bL.trans I);obtain⟨nd,ne,nm,no,n1⟩:=zL J.o;have a9:=za (PL.fr (a5.alloc _) r (λk h8=>by have:=(d.o.lt k h8).1;omega))));all_goals go_wp2_with fail
  all_goals go_meet
  all_goals exact⟨_,_,rW V.o (by omega) (by omega) (by omega) (by omega) (by omega) (by omega) (by omega) (by omega) be n a9.o J.o l r⟩
 case rest =>
  obtain⟨i4,kd,B⟩:=hcut;have i2:=B.o.fr.size;have lk:=B.o.pl.lt;have h0:=B.o.af.bd;have E:=za (zP S m a.ad.name ⟨#[44]⟩ _ pL wc h0 B.o.pl);rw[fo B.o.pl.tx (by decide),cs.o] at E;go_wp2_with (go_at_call 134;refine E.o.mono ?_;rintro e lt ⟨rfl,H,A⟩;have g9:=za (B.o.goes (by omega) (by omega) (by omega) g6.o (λc=>eJ (cs.o▸c)) H A);have m4:=A.size);go_loopg [4] 1300 (λk nt ok=>∃(b:Bool) (s:St) (ns:Xl) (ps:Xn) (X:Xv) (P:Nat) (xs:Xm),nt=.bool b/\aa (QI S m w.heap.size (w.heap.size+1) (w.heap.size+1+1) p w ok s ns ps X P xs (xI 0) (.pointer none))/\P+k<=1301/\aa (b=true->cX k ⟨s.name,ns++[s.t.s],ps++[s.t.a]⟩=R/\1201-s.t.a<k)/\aa (b=false->(⟨s,ns,ps⟩:dI)=R));case atStart=>exact⟨true,n2,[a.ad.t.s],[a.ad.t.a],i4,0+1,kd,rfl,g9,by omega,λ_=>⟨hu.o,by omega⟩,λh=>by cases h⟩
  case round =>
   obtain⟨b,s,ns,ps,X,P,xs,rfl,C,m0,l5,g3⟩:=hrel;have nb:=C.o.fr.size;have ln:=C.o.pl.lt;have g2:=za C.o.af.bd;cases b with
   | false => have l3:=za (g3.o rfl);have ge:QI S m w.heap.size (w.heap.size+1) (w.heap.size+1+1) p w wr R.st R.ns R.ps X P xs (xI 0) (.pointer none):=(by rw[<- l3.o];exact C.o);have g1:=za ge;have E:=za (zP S m R.st ⟨#[41]⟩ _ pJ wr ge.af.bd ge.pl);rw[fo ge.pl.tx (by decide)] at E;go_wp2_with fail;refine E.o.mono ?_;rintro e n3 ⟨rfl,bt,c2⟩;have m5:=c2.size;have he:=za (g1.o.goes (by omega) (by omega) (by omega) al.o (λc=>eJ c) bt c2);have Z:=za (zP S m (R.st.ac 4 [41]) ⟨#[61]⟩ _ yV n3 al.o.bd bt);rw[fo bt.tx (by decide)] at Z;go_wp2_with fail;refine Z.o.mono ?_;rintro e pl ⟨rfl,h4,c3⟩;have m6:=c3.size;have ck:=za (he.o.goes (by omega) (by omega) (by omega) z.o (λc=>eJ c) h4 c3);obtain⟨gl,go,gs,gt,b4⟩:=zL ck.o.q;go_upto_region 11 with fail;have mp:=x8 ck.o (by omega) (by omega) (by omega) (by omega) (by omega) (R.st.ac 4 [41]).t.a;have fx:=za mp;obtain⟨x,a0⟩:∃x,(R.st.ac 4 [41]).ac 4 [61]=x:=⟨_,rfl⟩;rw[a0] at fx z G K W;obtain⟨nx,na,N,M⟩:=jk x;have T:=za (gG S m x _ z.o.bd fx.o.pl);rw[N] at T;have hw:=za (JW (r17:=r17) M);go_wp2_with fail;refine T.o.mono ?_;rintro e of ⟨rfl,dn,c4⟩;have m7:=fx.o.fr.size;have m8:=c4.size;have cm:=za (fx.o.goes (by omega) (by omega) (by omega) G.o (λc=>mo c) dn c4);obtain⟨y,a2⟩:∃y,a1 r17 x.t x.name=y:=⟨_,rfl⟩;have c5:=l2 S m x.name p of ⟨2,na,0,nx,0⟩ G.o (by omega) K.o dn;rw[hw.o,a2] at c5;rw[a2] at W;have g8:=za c5;go_wp2_with fail;refine g8.o.mono ?_;rintro e g0 ⟨b3,rfl,h5,h6,ca⟩;have m9:=ca.size;have cn:=za (cm.o.goes (by omega) (by omega) (by omega) W.o.af (λc=>Ke z.o (by rw[a2];exact c)) h5 ca);obtain⟨gl,go,gs,gt,b4⟩:=zL cn.o.q;have hv:=za h6.out;go_wp2_with fail;have fV:=x7 cn.o (by omega) (by omega) (by omega) (by omega) b3;have ak:=za (zP S m y.1 ⟨#[59]⟩ _ pH _ W.o.af.bd fV.pl);rw[fo fV.pl.tx (by decide)] at ak;refine ak.o.mono ?_;rintro e Y ⟨rfl,c9,F⟩;have lo:=F.size;have i:=za (fV.goes (by omega) (by omega) (by omega) (ai.ac fV.af 4 [59]).af (λc=>eJ c) c9 F);obtain⟨i8,c0,o⟩:=xn i.o.own;have a3:=i.o.q;rw[o] at a3;obtain⟨gl,go,gs,gt,b4⟩:=zL a3;obtain⟨os,o7,o8,pb,pe⟩:=zL i.o.r;go_wp2_with fail;refine bodyPost_ret (v:=.agg #[X,.int .i64 (R.st.ac 4 [41]).t.a,.pointer b3]) (by rw[o];exact xq rfl rfl (xR i.o.r _ _ _)) rfl ?_;rw[a0,a2];refine⟨X,P,xs,(R.st.ac 4 [41]).t.a,b3,rfl,⟨i8,c0,o⟩,((i.o.pl.aU b0 _ _).aU b0 _ _).aU b0 _ _,zR (zi i.o.own (λk h1 _ _=>zr (by omega) (zr (by omega) (zr (by omega) rfl)))) (by omega:w.heap.size<=w.heap.size+1+1),?_,((i.o.fr.aO (an _) _ _).aO (an _) _ _).aO (an _) _ _⟩;intro eb;obtain⟨c1,hN⟩:=i.o.ok eb;refine⟨c1,hN,rfl,?_⟩;rw[St.bi];have t8:=hv.o (eJ eb);have m2:=ze cm.o.q;have lv:Fr (·=w.heap.size+1) g0 (g0.setCell (xD (w.heap.size+1) 2) (.pointer b3)):=(Fr.refl _ g0).aY _ _;have l1:Fr (·=w.heap.size) Y (((Y.setCell (xD w.heap.size 0) X).setCell (xD w.heap.size 1) (.int .i64 (R.st.ac 4 [41]).t.a)).setCell (xD w.heap.size 2) (.pointer b3)):=((((Fr.refl _ Y).aY _ _).aY _ _).aY _ _);have bs:Fr (·=m) (g0.setCell (xD (w.heap.size+1) 2) (.pointer b3)) Y:=F;have t9:=(t8.fr lv (λk h1 _ h2=>by omega)).fr bs (λk h1 _ h2=>by omega);have t10:=t9.fr l1 (λk h1 _ h2=>by omega);rw[o] at t10;exact t10.down (by omega)
   | true =>
     obtain⟨t,ar⟩:=l5.o rfl;obtain⟨nx,na,N,M⟩:=jk s;have be:=za M;have T:=za (λa4 h=>gG S m s a4 g2.o h);rw[N] at T;obtain⟨gl,go,gs,gt,b4⟩:=zL C.o.q;have hg:=za t;have i5:P+1<=maxLen:=(by unfold maxLen;omega);have bl:(P+1)*24<=140737488355328:=(by omega);go_upto_block 1 with fail;go_cut [] (λi7=>∃i3 i9,aa (QI S m w.heap.size (w.heap.size+1) (w.heap.size+1+1) p w i7 s.name (ns++[s.t.s]) (ps++[s.t.a]) i3 (P+1) i9 (xI 0) (.pointer none)));case first =>
      go_wp2_with fail;go_region_law (first|(refine kD rfl 135 (.tmp 21) 136 rfl rV (xP m) rfl (T.o _ C.o.pl.drew) ?_;rintro e Q ⟨rfl,a5,L⟩;refine⟨_,rfl,?_⟩;have n:Fr (·=m) wr Q:=L.cQ;have i1:=n.size;have I:=(n.block (w.heap.size+1) b4 (by omega)).trans C.o.q;obtain⟨f0,f1,f2,md,hQ⟩:=zL I;have d:=za (zi C.o.own (λk h1 h2 _=>n.block k h2 (by omega)));have b2:w.heap.size+1+1<=Q.heap.size+1:=(by omega))|(refine zJ _ rfl (.tmp 20) (.tmp 23) 158 rfl (w.heap.size+1+1) 144 ls _ 2 24 underlying158 le em eq er rfl (by decide) X P xs rfl (zD d.o _) (xD Q.heap.size 0) 1 1 [.string nx,xI na] rfl rfl (zN (zc Q _) rfl) sr i5 bl (by simpa using b2) ?_;intro v' i6 l u es;obtain⟨mk,cv,rfl,h7⟩:=zM l (by omega);have r:=Fr.gi u;have bL:i6.heap[w.heap.size+1]?=Q.heap[w.heap.size+1]?:=((r.block (w.heap.size+1) (by rw[au];omega) (λh=>by have:=(d.o.lt _ h).1;omega)).trans (Below.heap_alloc _ _ _ hQ));have J:=za (bL.trans I);obtain⟨nd,ne,nm,no,n1⟩:=zL J.o;have a9:=za (PL.fr (a5.alloc _) r (λk h8=>by have:=(d.o.lt k h8).1;omega))));all_goals go_wp2_with fail
      all_goals go_meet
      all_goals exact⟨_,_,rW C.o (by omega) (by omega) (by omega) (by omega) (by omega) (by omega) (by omega) (by omega) be n a9.o J.o l r⟩
     case rest =>
      obtain⟨fq,fv,j⟩:=hcut;have i2:=j.o.fr.size;have D:=za j.o.af.bd;generalize a2:(⟨s.name,ns++[s.t.s],ps++[s.t.a]⟩:dI)=y at *;have bk:s.name=y.st:=(by rw[<- a2]);have iR:ns++[s.t.s]=y.ns:=(by rw[<- a2]);have i0:ps++[s.t.a]=y.ps:=(by rw[<- a2]);rw[bk,iR,i0] at j;rw[bk] at D;have q:=za (hY S m y.st ⟨#[44]⟩ [44] pL wc D.o j.o.pl);have ex:y.st.cP [44]=if y.st.is 4 [44]=true then y.st.ad else y.st:=(by unfold St.cP;rw[fm j.o.pl.tx (by decide)]);rw[fm j.o.pl.tx (by decide),ex] at q;obtain⟨g,rfl⟩:∃g,gk=g+1:=⟨gk-1,by have:=ar;omega⟩;have t:=hg.o;have fd:cX (g+1) y=if y.st.er=0/\y.st.is 4 [44]=true then cX g y.more else y:=rfl;rw[fd] at t;cases U:y.st.is 4 [44] with
      | true =>
        have c:y.st.er=0:=D.o.er (by rw[Inv.bP U];decide);rw[ag ⟨c,U⟩] at t;rw[U,ag rfl] at q;have kw:=ai.ad j.o.af;have m3:y.st.t.a+1<=y.st.ad.t.a:=(by have h1:=j.o.af.tok (by rw[Inv.bP U];decide);have h2:=zV y.st.src y.st.t.t j.o.af.ok.tt;rw[St.dZ c];simp only;omega);have T:aa (cX g ⟨y.st.ad.name,y.ns++[y.st.ad.t.s],y.ps++[y.st.ad.t.a]⟩=R/\1201-y.st.ad.t.a<g):=(by have h1:s.t.a<=y.st.t.a:=(by rw[<- bk];exact (ai.name C.o.af).ta);have h2:=ar;have op:=C.o.af.ok.bR;have or:=kw.af.ok.bR;exact⟨t,by omega⟩);have g7:=za kw.af;go_wp2_with (go_at_call 137;refine q.o.mono ?_;rintro e lt ⟨rfl,H,A⟩);go_roundg g;case measure=>omega
        exact⟨true,y.st.ad,y.ns,y.ps,fq,P+1,fv,rfl,j.o.goes (by omega) (by omega) (by omega) g7.o (λ_=>c) H A,by omega,λ_=>T.o,λh=>by cases h⟩
      | false =>
        rw[ae (by rw[U];simp)] at t;have hm:=za t;rw[U,ae (by simp)] at q;go_wp2_with (go_at_call 137;refine q.o.mono ?_;rintro e lt ⟨rfl,H,A⟩);go_roundg g;case measure=>omega
        exact⟨false,y.st,y.ns,y.ps,fq,P+1,fv,rfl,j.o.goes (by omega) (by omega) (by omega) j.o.af (λh=>h) H A,by omega,λh=>(by cases h),λ_=>hm.o⟩
end
section
open Go.RowKit
def lr (b c:Fn)(a:St):ax:=⟨(aZ a).ns,(aZ a).ps,(aZ a).st.t.a,(cx b c (a.is 4 [40]) ((aZ a).st.ac 4 [61])).2⟩
theorem He (b c:Fn)(d:St)(a:List ax):(zF b c d a).2=a++[lr b c d]:=rfl
theorem Ht (a b:Fn)(d:St)(c:List ax):(zF a b d c).1=(zF a b d []).1:=rfl
theorem HO {c a:Fn}(t:zX 18 194 a)(s:ig 18 c)(m:zv 17 c)(e:zv 18 a)(S:Xs)(i p:Nat)(b:St)(w:Xw)(n:Inv p b)(u:b.op=0)(o:PL S w i b) :
 xK 139 #[xP i] w (sf S i w (zF c a b []).1 (lr c a b)):=by
 cases d:b.is 4 [40] with
 | true => obtain⟨f,q⟩:∃f,f=1300:=⟨_,rfl⟩;obtain⟨R,g⟩:∃R,cX f (hq b)=R:=⟨_,rfl⟩;have r:=sa q g;have j:aZ b=⟨R.st.ac 4 [41],R.ns,R.ps⟩:=(by unfold aZ;rw[ag d,r]);have h:=GZ s m e S i p f R b w n u d q g o;have k:=x5 (r17:=c) (r18:=a) (eqs:=[]) d r;have l:lr c a b=⟨R.ns,R.ps,(R.st.ac 4 [41]).t.a,(a1 c ((R.st.ac 4 [41]).ac 4 [61]).t ((R.st.ac 4 [41]).ac 4 [61]).name).2⟩:=(by unfold lr cx;rw[j,ag d]);rw[k,l];exact h
 | false => have h:=GV t e S i p b w n d o;have j:aZ b=⟨b.name,[b.t.s],[b.t.a]⟩:=(by unfold aZ;rw[ae (by rw[d];simp)]);have k:(zF c a b []).1=(a (b.name.ac 4 [61])).1.ac 4 [59]:=(by unfold zF cx;simp only[j];rw[ae (by rw[d];simp)]);have l:lr c a b=⟨[b.t.s],[b.t.a],b.name.t.a,(a (b.name.ac 4 [61])).2⟩:=(by unfold lr cx;rw[j,ae (by rw[d];simp)]);rw[k,l];exact h
end
section
variable {c d:Fn} {aA:List Nd} {f g p:Nat} {b:St} {x:St×List Vr}
theorem Da (b:St):aK b (z9 b):=by
 unfold z9;split
 . exact aK.ad b
 exact aK.ac b _ _
theorem Dq (b:St):aK b (aS b):=by
 unfold aS;split
 . exact aK.ad b
 exact aK.refl b
theorem ud (i o:Bool)(b:St)(a:List Vr):aK b (zx i o b a).1:=by
 unfold zx;split
 . exact aK.fail b _ _
 have h:=((aK.name b).trans (aK.ac _ 4 [58])).trans (Da _);simp only;split
 . exact ((h.trans (aK.ad _)).trans (Dq _)).trans (aK.name _)
 exact h
theorem Cb {i:Bool}(a:x.1.er≠0):cK i f x=x:=by
 cases f with
 | zero=>rfl
 | succ f=>show (if _ then _ else x)=x;rw[ae (λh=>a h.1)]
theorem sA (i:Bool)(f:Nat)(x:St×List Vr):aK x.1 (cK i f x).1:=λa=>by rw[Cb a];exact⟨rfl,rfl⟩
theorem zip (e:f=1300)(i:Bool)(b:St)(a:List Vr):bW i b a=((cK i f (zx i (!i) (b.ac 4 [40]) a)).1.ac 4 [41],(cK i f (zx i (!i) (b.ac 4 [40]) a)).2):=by subst e;rfl
theorem sC (i:Bool)(b:St)(a:List Vr):aK b (bW i b a).1:=by obtain⟨f,e⟩:∃f,f=1300:=⟨_,rfl⟩;rw[zip e];exact (((aK.ac b 4 [40]).trans (ud _ _ _ _)).trans (sA i f _)).trans (aK.ac _ 4 [41])
theorem sD (a:x.1.er≠0):en f x=x:=by
 cases f with
 | zero=>rfl
 | succ f=>show (if _ then _ else x)=x;rw[ae (λh=>a h.1)]
theorem uw (f:Nat)(b:St)(a:List Vr):aK b (bD f b a).1:=by
 unfold bD;split
 . have h:aK b (cz b.ad a).1:=((aK.ad b).trans (ud false false _ a)).trans (aK.ac _ 4 [59]);exact h.trans (λe=>by rw[sD e];exact⟨rfl,rfl⟩)
 exact aK.refl b
theorem nO (h:zv 17 c)(i:zv 18 d):∀(f p:Nat) (x:St×List ax),Inv p x.1->x.1.op=0->ai p x.1 (bS c d f x).1/\(bS c d f x).1.op=0:=by
 intro f;induction f with
 | zero=>intro p x e a;exact⟨ai.refl e,a⟩
 | succ f m =>
   intro p x e a
   show ai p x.1 (if _ then _ else x).1/\(if _ then _ else x).1.op=0;by_cases l:x.1.t.k=2∨x.1.is 4 [40]=true
   . rw[ag l];have j:=gD h i (eqs:=x.2) e a;have k:=m p _ j.1.af (j.2.trans a);exact⟨j.1.trans k.1,k.2⟩
   rw[ae l];exact⟨ai.refl e,a⟩
theorem yl (a:zv 17 c)(e:zv 18 d)(q:Inv p b)(m:b.op=0) :
 iI (dy c d f b).1 (iJ c d f b).1/\((dy c d f b).1.er=0->dy c d f b=iJ c d f b)/\ai p b (dy c d f b).1/\(dy c d f b).1.op=0:=by
 have k:=ai.ac q 4 [123];have h:=gD a e (eqs:=[]) k.af (by rw[St.a8,m]);have n:(zF c d (b.ac 4 [123]) []).1.op=0:=by rw[h.2,St.a8,m]
 have i:=I5 a e f p _ h.1.af n;have j:=nO a e f p _ h.1.af n;have o:=ai.ac j.1.af 4 [125];refine⟨i.1,λl=>?_,((k.trans h.1).trans j.1).trans o,?_⟩
 . exact Prod.ext (i.1.eq l) (i.2 l)
 show ((bS c d f (zF c d (b.ac 4 [123]) [])).1.ac 4 [125]).op=0;rw[St.a8,j.2]
theorem px (k:zv 17 c)(l:zv 18 d)(F:Inv p b)(J:b.op=0)(H:¬6<=aA.length) :
 iI (a7 c d f b).1 (b9 c d f b aA).1/\((a7 c d f b).1.er=0->b9 c d f b aA=((a7 c d f b).1,aA++[(a7 c d f b).2]))/\Inv 0 (a7 c d f b).1/\(a7 c d f b).1.op=0/\(b.er=0->(a7 c d f b).1.er=0->b.t.a+1<=(a7 c d f b).1.t.a):=by
 have j:=ai.aw F;have r:b.aw.op=0:=J;have y:=mz j;have m:=kM (f:=f) (ab:=(aT b.aw).2) y.1.af;have a:=yl k l (f:=f) m.1.af (by rw[m.2.1,y.2.1];exact r);have I:b9 c d f b aA=((iJ c d f (bD f (aT b.aw).1 (aT b.aw).2).1).1,aA++[⟨(b.aw.ac 5 zW).t.s,(b.aw.ac 5 zW).t.a,(bD f (aT b.aw).1 (aT b.aw).2).2,(iJ c d f (bD f (aT b.aw).1 (aT b.aw).2).1).1.L,(iJ c d f (bD f (aT b.aw).1 (aT b.aw).2).1).2⟩]):=by unfold b9;rw[ae H]
 have G:a7 c d f b=((dy c d f (bD f (aT b.aw).1 (aT b.aw).2).1).1,⟨(b.aw.ac 5 zW).t.s,(b.aw.ac 5 zW).t.a,(bD f (aT b.aw).1 (aT b.aw).2).2,(dy c d f (bD f (aT b.aw).1 (aT b.aw).2).1).1.L,(dy c d f (bD f (aT b.aw).1 (aT b.aw).2).1).2⟩):=rfl;generalize M:bD f (aT b.aw).1 (aT b.aw).2=v at *;rw[I,G];refine⟨a.1,λn=>?_,a.2.2.1.af,a.2.2.2,λn o=>?_⟩
 . rw[a.2.1 n]
 have C:=ai.ac j 5 zW;have t:=ai.name C.af;have u:=kH (i:=true) (ab:=[]) t.af;have w:=ai.ac u.1.af 4 [45,62];have D:=kH (i:=false) (ab:=(bW true (b.aw.ac 5 zW).name []).2) w.af;have B:ai 0 (b.aw.ac 5 zW) (dy c d f v.1).1:=((((t.trans u.1).trans w).trans D.1).trans m.1).trans a.2.2.1;have z:=B.back o;have e:=B.ta;have A:b.aw.is 5 zW=true:=by
  cases h:b.aw.is 5 zW with
  | true=>rfl
  | false =>
    have:b.aw.ac 5 zW=b.aw.fail 2 b.aw.t.a:=by unfold St.ac;rw[ae (by rw[h];simp)]
    rw[this] at z;exact absurd z (St.cy _ (by decide))
 have s:b.aw.ac 5 zW=b.aw.ad:=by unfold St.ac;rw[ag A]
 have q:b.aw.er=0:=n;have K:=j.tok (by rw[Inv.bP A];decide);have L:=zV b.aw.src b.aw.t.t j.ok.tt;have E:b.aw.t.a+1<=b.aw.ad.t.a:=by rw[St.dZ q];simp only;omega
 rw[s] at e;exact aJ E e
theorem Dx (n:zv 17 c)(i:zv 18 d)(z:Inv p b)(w:b.op=0)(B:b.er=0)(h:¬(b.is 5 zW=true/\aA.length<6)):(b9 c d f b aA).1.er=2/\(b9 c d f b aA).1.at'=b.t.a:=by
 have k:b.aw.er=0:=B;by_cases v:6<=aA.length
 . unfold b9;rw[ag v];exact n0 k
 have D:b.aw.is 5 zW=false:=by
  cases C:b.aw.is 5 zW with
  | false=>rfl
  | true=>exact absurd ⟨C,by omega⟩ h
 have y:=ai.aw z;have o:=mz y;have m:=kM (f:=f) (ab:=(aT b.aw).2) o.1.af;have J:=yl n i (f:=f) m.1.af (by rw[m.2.1,o.2.1];exact w);have E:b.aw.ac 5 zW=b.aw.fail 2 b.aw.t.a:=by unfold St.ac;rw[ae (by rw[D];simp)]
 have l:=n0 k (e:=2) (a:=b.aw.t.a);rw[<- E] at l;have r:aK (b.aw.ac 5 zW) (aT b.aw).1:=(((aK.name _).trans (sC true _ _)).trans (aK.ac _ 4 [45,62])).trans (sC false _ _);have s:=r.trans (uw f (aT b.aw).1 (aT b.aw).2);have t:=s (by rw[l.1];decide);have u:(bD f (aT b.aw).1 (aT b.aw).2).1.er≠0:=by rw[t.1,l.1];decide
 have A:aK (bD f (aT b.aw).1 (aT b.aw).2).1 (iJ c d f (bD f (aT b.aw).1 (aT b.aw).2).1).1:=by
  have G:=ai.ac m.1.af 4 [123];have H:((bD f (aT b.aw).1 (aT b.aw).2).1.ac 4 [123]).op=0:=by rw[St.a8,m.2.1,o.2.1];exact w
  have I:=(aK.ac (bD f (aT b.aw).1 (aT b.aw).2).1 4 [123]).trans (aK.sL (r17:=c) i G.af H []);refine (I.trans ?_).trans (aK.ac _ 4 [125]);intro q;rw[r8 q];exact⟨rfl,rfl⟩
 have j:=A u;have F:(b9 c d f b aA).1=(iJ c d f (bD f (aT b.aw).1 (aT b.aw).2).1).1:=by unfold b9;rw[ae v]
 rw[F];exact⟨(j.1.trans t.1).trans l.1,(j.2.trans t.2).trans l.2⟩
theorem sz {x:St×List Nd}(a:x.1.er≠0):ik c d g f x=x:=by
 cases f with
 | zero=>rfl
 | succ f=>show (if _ then _ else x)=x;rw[ae (λh=>a h.1)]
theorem mI {x:St×List Nd}(a:Inv p x.1)(i:x.1.er≠0):ct c d g f x=x:=by
 cases f with
 | zero=>rfl
 | succ f => show (if _ then _ else x)=x;have e:=a.bad i;rw[ae];rintro⟨h,_⟩;simp[St.is,e] at h
theorem pU (b:St):aK b (cW b):=by
 unfold cW;split
 . exact aK.refl b
 exact aK.fail b _ _
theorem B8 (l:zv 17 c)(m:zv 18 d)(g:Nat):∀(f p:Nat) (x:St×List Nd),Inv p x.1->x.1.op=0->x.1.er=0->1201-x.1.t.a<f ->
 iI (cW (ct c d g f x).1) (ik c d g f x).1/\((cW (ct c d g f x).1).er=0->(ct c d g f x).2=(ik c d g f x).2):=by
 intro f;induction f with
 | zero=>intro p x _ _ _ h;omega
 | succ f E =>
   intro p x s C n o;have A:ct c d g (f+1) x=if x.1.is 5 zW=true/\x.2.length<6 then ct c d g f ((a7 c d g x.1).1,x.2++[(a7 c d g x.1).2]) else x:=rfl;have B:ik c d g (f+1) x=if x.1.er=0/\x.1.t.k≠0 then ik c d g f (b9 c d g x.1 x.2) else x:=rfl;by_cases q:x.1.is 5 zW=true/\x.2.length<6
   . have k:=Inv.bP q.1;rw[A,B,ag q,ag ⟨n,by rw[k];decide⟩];obtain⟨t,D,v,z,j⟩:=px l m (f:=g) (aA:=x.2) s C (by omega);by_cases i:(a7 c d g x.1).1.er=0
     . rw[D i];have F:=j n i;have:=s.ok.bR;have:=v.ok.bR;exact E 0 _ v z i (by simp only;omega)
     have u:(b9 c d g x.1 x.2).1.er≠0:=(by rw[<- t.er];exact i);rw[sz u,mI v i];have r:=pU (a7 c d g x.1).1 i;simp only;refine⟨⟨by rw[r.1,t.er],by rw[r.2,t.at'],λh=>?_⟩,λh=>?_⟩
     . rw[r.1] at h;exact absurd h i
     rw[r.1] at h;exact absurd h i
   rw[A,B,ae q];by_cases k:x.1.t.k=0
   . rw[ae (λh=>h.2 k)];have:cW x.1=x.1:=by unfold cW;rw[ag k]
     rw[this];exact⟨iI.refl _,λ_=>rfl⟩
   rw[ag ⟨n,k⟩];have w:=Dx l m (f:=g) s C n q;have y:(b9 c d g x.1 x.2).1.er≠0:=(by rw[w.1];decide);rw[sz y];have:cW x.1=x.1.fail 2 x.1.t.a:=(by unfold cW;rw[ae k]);rw[this];have o:=n0 n (e:=2) (a:=x.1.t.a);refine⟨⟨by rw[o.1,w.1],by rw[o.2,w.2],λh=>?_⟩,λh=>?_⟩
   . rw[o.1] at h;cases h
   rw[o.1] at h;cases h
theorem uF (e:zv 17 c)(i:zv 18 d)(g:Nat)(t:1201<g)(s:Xb)(q:Inv 0 (⟨s,zZ s 0,0,0,0,[]⟩:St)) :
 iI (dm c d g s).1 (mY c d g s).1/\((dm c d g s).1.er=0->(dm c d g s).2=(mY c d g s).2):=by
 unfold dm mY;simp only;obtain⟨k,r,o,n,m⟩:=px e i (f:=g) (aA:=[]) q rfl (by simp);by_cases a:(a7 c d g (⟨s,zZ s 0,0,0,0,[]⟩:St)).1.er=0
 . rw[r a];exact B8 e i g g 0 _ o n a (by simp only;omega)
 have l:(b9 c d g (⟨s,zZ s 0,0,0,0,[]⟩:St) []).1.er≠0:=by rw[<- k.er];exact a
 rw[sz l,mI o a];have j:=pU (a7 c d g (⟨s,zZ s 0,0,0,0,[]⟩:St)).1 a;refine⟨⟨by rw[j.1,k.er],by rw[j.2,k.at'],λh=>?_⟩,λh=>?_⟩
 . rw[j.1] at h;exact absurd h a
 rw[j.1] at h;exact absurd h a
end
section
open Go.RowKit
variable {q:ax} {t:List ax} {L:List Ex} {z c:Xm} {B m e A p j:Nat} {S:Xs} {T:Xj} {a:Xp} {s n:St} {f av' u v o x y l d:Xv} {w r wr:Xw} {P:World->Nat->Prop}
def hE (B:Nat)(wr:Xw)(f:Xv)(P:World->Nat->Prop):Prop :=
 ∃(b:Xw) (h:Nat),B<=h/\P b h/\(∀k,h<=k->k<b.heap.size->wr.heap[k]?=b.heap[k]?)/\(∀g,f.ownBlock=some g->g<h∨b.heap.size<=g)/\b.heap.size<=wr.heap.size
theorem hE.imp {Q:World->Nat->Prop}(h:hE B wr f P)(F:∀w b,P w b->Q w b):hE B wr f Q:=by obtain⟨G,g,i,k,C,D,E⟩:=h;exact⟨G,g,i,F _ _ k,C,D,E⟩
theorem hE.next (h:hE B wr f P)(E:Fr T wr r)(J:∀k,T k->k<B∨f.ownBlock=some k)(K:∀k,av'.ownBlock=some k->f.ownBlock=some k∨wr.heap.size<=k):hE B r av' P:=by
 obtain⟨O,F,G,H,I,D,i⟩:=h;refine⟨O,F,G,H,λk C b=>?_,λg M=>?_,aJ i E.size⟩
 . refine (E.block k (dD b i) (λN=>?_)).trans (I k C b);rcases J k N with h|h
   . omega
   rcases D k h with h|h <;> omega
 rcases K g M with h|h
 . exact D g h
 exact ap (aJ i h)
structure EQ (L:List Ex) (q:ax) (d:Xv) (a:Xp) (w:Xw) (B:Nat):Prop where
 own:w.ownsRow B 144 2 d q.ns.length (gg q.ns q.ps)
 tr:TR w B L q.ex (.pointer a)
theorem EQ.kept (h:EQ L q d a w B)(b:∀k,B<=k->k<w.heap.size->r.heap[k]?=w.heap[k]?):EQ L q d a r B :=
 ⟨zi h.own (λk g i _=>b k g i),h.tr.kept b⟩
theorem EQ.down {b:Nat}(h:EQ L q d a w B)(g:b<=B):EQ L q d a w b:=⟨zR h.own g,h.tr.down g⟩
theorem EQ.more (h:EQ L q d a w B)(E:List Ex):EQ (L++E) q d a w B:=⟨h.own,h.tr.more E⟩
theorem Kz (h:hE B wr f (EQ L q d a)):EQ L q d a wr B:=by obtain⟨C,k,b,g,i,_,_⟩:=h;exact (g.kept i).down b
def fI (B:Nat)(wr:Xw)(f:Xv)(L:List Ex):List ax->List Value->Prop
 | [],c=>c=[]
 | q::g,c=>∃d a b,c=d::(xI q.a)::.pointer a::b/\hE B wr f (EQ L q d a)/\fI B wr f L g b
theorem fI.next (E:List Ex)(H:Fr T wr r)(F:∀k,T k->k<B∨f.ownBlock=some k)(G:∀k,av'.ownBlock=some k->f.ownBlock=some k∨wr.heap.size<=k) :
 ∀(b:List ax) (c:Xm),fI B wr f L b c->fI B r av' (L++E) b c:=by
 intro b;induction b with
 | nil=>intro c h;exact h
 | cons q b I => rintro c ⟨d,a,g,i,C,D⟩;exact⟨d,a,g,i,(C.next H F G).imp (λ_ _ h=>h.more E),I g D⟩
theorem fI.snoc (i:hE B wr f (EQ L q d a)):∀(b:List ax) (c:Xm),fI B wr f L b c->fI B wr f L (b++[q]) (c++[d,xI q.a,.pointer a]):=by
 intro b;induction b with
 | nil=>rintro c rfl;exact⟨d,a,[],rfl,i,rfl⟩
 | cons F b D => rintro c ⟨g,h,E,rfl,C,k⟩;exact⟨g,h,_,rfl,C,D E k⟩
structure EI (S:Xs) (j e B p:Nat) (w wr:Xw) (u v o x y:Xv) (A:Nat) (z:Xm) (s:St) (t:List ax) (l:Xv) (m:Nat) (c:Xm):Prop where
 af:Inv p s
 op:s.op=0
 pl:PL S wr j s
 aC:xH wr e #[u,v,o,x,y,l] 147
 bZ:wr.ownsRow B 156 7 o A z
 ql:∀k,o.ownBlock=some k->¬l.ownBlock=some k
 own:wr.ownsRow B 161 3 l m c
 ok:s.er=0->m=t.length/\fI B wr l s.L t c
 fr:Fr (·=j) w wr
theorem EI.goes (h:EI S j e B p w wr u v o x y A z s t l m c)(I:j<e)(D:e<B)(E:Inv p n)(J:n.op=0)(H:n.L=s.L)(G:n.er=0->s.er=0)(F:PL S r j n)(hF:Fr (·=j) wr r):EI S j e B p w r u v o x y A z n t l m c:=by refine⟨E,J,F,(hF.block e (ze h.aC) (by omega)).trans h.aC,zi h.bZ (λk C b _=>hF.block k b (by omega)),h.ql,zi h.own (λk C b _=>hF.block k b (by omega)),λi=>?_,h.fr.trans hF⟩;obtain⟨K,M⟩:=h.ok (G i);refine⟨K,?_⟩;have:=fI.next (av':=l) [] hF (λk g=>ao (by omega)) (λk g=>ao g) _ _ M;rw[H];simpa using this
theorem Km {C J:Xw}{I:Xv}{al pl:Nat}{ar:Xm}{X:Obj}
 (h:EI S j e B p w wr u v o x y A z s t l m c) (W:j<e) (a3:e<B) (ak:w.heap.size<=e) (Q:B<=wr.heap.size) (g:ai p s n) (a5:n.op=0)
 (F:Fr (·=j) wr C) (H:C.ownsRow wr.heap.size 144 2 d al ar) (Y:n.er=0->al=q.ns.length/\ar=gg q.ns q.ps/\pl=q.a/\TR C wr.heap.size n.L q.ex (.pointer a))
 (R:PL S J j n) (D:Fr (λk=>l.ownBlock=some k) (C.alloc X) J) (V:J.heap[e]?=some (.cells #[u,v,o,x,y,l] 147 (0,0)))
 (N:J.ownsRow B 161 3 I (m+1) (c++[d,xI pl,.pointer a])) (b:∀k,I.ownBlock=some k->l.ownBlock=some k∨(C.alloc X).heap.size<=k) :
 EI S j e B p w (J.setCell (xD e 5) I) u v o x y A z n (t++[q]) I (m+1) (c++[d,xI pl,.pointer a]):=by
 have G:∀k,l.ownBlock=some k->B<=k/\k<wr.heap.size:=λk hk=>h.own.lt k hk;have Z:∀k,o.ownBlock=some k->B<=k/\k<wr.heap.size:=λk hk=>h.bZ.lt k hk;have be:=F.size;have bk:=D.size;have bl:(C.alloc X).heap.size=C.heap.size+1:=by simp
 have M:Fr (λk=>k=j∨k=e∨l.ownBlock=some k) wr (J.setCell (xD e 5) I):=by have h1:Fr (λk=>k=j∨k=e∨l.ownBlock=some k) wr (C.alloc X):=(F.mono (λ_ _ h=>ao h)).alloc X;exact (h1.dr D (λ_ _ h=>ap (ap h))).setCell (ao (ap (ao rfl))) _
 obtain⟨E,a4⟩:=g.L;refine⟨g.af,a5,R.aU W _ _,zh _ _ _ _ V,?_,?_,zi N (λk h1 _ _=>zr (by omega) rfl),?_,?_⟩
 . exact zi h.bZ (λk h1 O h3=>M.block k O (λhk=>by
    rcases hk with hk|hk|hk
    . omega
    . omega
    exact h.ql k h3 hk))
 . intro k hk U;rcases b k U with h1|h1
   . exact h.ql k hk h1
   have:=(Z k hk).2;omega
 . intro he;obtain⟨a0,a2⟩:=h.ok (g.sM he);obtain⟨bp,bs,bt,bx⟩:=Y he;subst bp bs bt;refine⟨by simp[a0],?_⟩;have K:=fI.next (av':=I) E M (λk hk=>by
    rcases hk with hk|hk|hk
    . left;omega
    . left;omega
    . exact ap hk) (λk hk=>by
    rcases b k hk with h1|h1
    . exact ao h1
    right;omega) _ _ a2
   rw[<- a4] at K;refine fI.snoc ?_ _ _ K;refine⟨C,wr.heap.size,Q,⟨H,bx⟩,λk h1 O=>?_,λg hg=>?_,?_⟩
   . exact zr (by omega) ((D.block k (by omega) (λh=>by have:=(G k h).2;omega)).trans (Below.heap_alloc _ _ _ O))
   . rcases b g hg with h|h
     . left;exact (G g h).2
     right;omega
   simp[World.setCell];omega
 have h1:Fr (·=j) w (C.alloc X):=(h.fr.trans F).alloc X;exact (h1.dr D (λi bE a9=>by have:=(G i a9).1;omega)).aO ak _ _
end
end Go.Proofs.YtmfkofhgdjechaaGreatDoor
