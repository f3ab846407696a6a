/- Part 4. -/
import Derived.Test.YtcnelakggnfnhaaGreatDoorK02
set_option maxRecDepth 100000
set_option maxHeartbeats 8000000
namespace Go.Proofs.YtcnelakggnfnhaaGreatDoor
open Go.Proofs.Tryz
section
open Go.RowKit
variable {c:Xb} {l:Xu} {b:List Vr} {k n d f:Nat} {st:St}
theorem pg (g:st.er≠0)(e a:Nat):st.fail e a=st.bad:=by unfold St.fail St.bad;rw[ae g]
theorem pw (a:st.t.k=1)(h:k≠1):st.is k l=false:=kL (by omega)
theorem rQ (a:st.er≠0)(e:st.t.k=1):st.name=st.bad:=by unfold St.name;rw[ae (by omega),pg a]
theorem pi (a:st.er≠0)(e:st.t.k=1)(h:k≠1):st.ac k l=st.bad:=by unfold St.ac;rw[pw e h];exact pg a _ _
theorem rP (e:st.er≠0)(a:st.t.k=1):z9 st=st.bad:=by unfold z9;rw[pw a (by decide)];exact pi e a (by decide)
theorem Ja (a:st.er≠0)(n:Nat):st.bG n=st.bad∨st.bG n=st:=by
 unfold St.bG;split
 . exact ao (pg a _ _)
 exact ap rfl
theorem xX (g:st.er≠0)(i:st.t.k=1)(n:Nat):el st n=st.bad:=by
 unfold el;have e:st.bad.er≠0:=g;have a:st.bad.t.k=1:=rfl;rcases Ja g n with h|h
 . rw[h,rQ e a,pi (st:=st.bad.bad) e a (by decide),rP (st:=st.bad.bad.bad) e a];rfl
 rw[h,rQ g i,pi (st:=st.bad) e a (by decide),rP (st:=st.bad.bad) e a];rfl
theorem yi (e:st.er≠0)(j:st.t.k=1)(i o:Bool)(b:List Vr):(zx i o st b).1=st.bad:=by
 unfold zx;split
 . exact pg e _ _
 have g:st.bad.er≠0:=e;have a:st.bad.t.k=1:=rfl;have h:z9 (st.name.ac 4 [58])=st.bad:=by rw[rQ e j,pi (st:=st.bad) g a (by decide),rP (st:=st.bad.bad) g a];rfl
 simp only[h];rw[pw a (by decide)];rfl
theorem xz (n:Nat)(h:n=16):el st n=st.fail 2 st.t.a:=by unfold el St.bG;rw[ag h,St.sP _ (by decide),St.p9 _ (by decide) (by decide)];unfold z9;rw[St.mR _ (by decide)];exact St.p9 _ (by decide) (by decide)
theorem Hq (i:Bool)(g:bU st)(j:st.er=0->n=b.length/\b.length<=16):el st n=(zx i (!i) st b).1:=by
 by_cases e:st.er=0
 . obtain⟨m,o⟩:=j e;by_cases a:n=16
   . rw[xz n a];unfold zx;rw[ag (by omega)]
   unfold zx;rw[ae (by omega)];have h:((z9 (st.name.ac 4 [58])).is 5 cF&&!i&&!!i)=false:=(by cases i <;> simp);simp only[h];unfold el St.bG;rw[ae a];rfl
 rw[xX e (g.bad e),yi e (g.bad e)]
theorem HW (h:bU st)(m:st.er=0->n=b.length/\b.length<=16):ix (el st n)=(zx false false st b).1:=by
 by_cases e:st.er=0
 . obtain⟨g,o⟩:=m e;by_cases a:n=16
   . rw[xz n a];have g:ix (st.fail 2 st.t.a)=st.fail 2 st.t.a:=(by unfold ix;rw[St.mR _ (by decide)];rfl);rw[g];unfold zx;rw[ag (by omega)]
   unfold zx;rw[ae (by omega)];have j:el st n=z9 (st.name.ac 4 [58]):=(by unfold el St.bG;rw[ae a]);rw[j];unfold ix;cases i:(z9 (st.name.ac 4 [58])).is 5 cF with
   | true=>simp only[i,Bool.not_false,Bool.and_self,if_true]
   | false=>simp only[i,Bool.not_false,Bool.false_and];rfl
 rw[xX e (h.bad e),yi e (h.bad e)];unfold ix;rw[pw rfl (by decide)];rfl
def ba (v:Vr):Nat:=if v.tm=true then (if v.nt=true then 2 else 1) else 0
def jd (v:Vr):List Value:=[.string v.nm,xI v.a,xI (if v.bl=true then 1 else 0:Nat),xI (ba v:Nat),xI v.on,.string v.ck,xI v.ca]
def aag (l:List Vr):List Value:=l.flatMap jd
theorem ru (l:List Vr)(v:Vr):aag (l++[v])=aag l++jd v:=by simp[aag]
theorem lm (h:st.name.er=0):st.t.k=2:=by
 by_cases a:st.t.k=2
 . exact a
 exfalso;unfold St.name at h;rw[ae a] at h;exact St.cy _ (by decide) h
theorem eJ (h:(st.ac k l).er=0):st.er=0:=by
 unfold St.ac at h;split at h
 . rwa [St.ja] at h
 exact absurd h (St.cy _ (by decide))
theorem mq (h:(z9 st).er=0):st.er=0:=by
 unfold z9 at h;split at h
 . rwa [St.ja] at h
 exact eJ h
theorem mo (h:st.name.er=0):st.er=0:=by have:=lm h;unfold St.name at h;rw[ag this,St.ja] at h;exact h
theorem Ki (i:Bool)(r:st.er=0->n=b.length/\b.length<=16)(j:(st.bG n).t.k=2->c=(st.bG n).t.s/\d=(st.bG n).t.a)(g:f=if ((st.bG n).name.ac 4 [58]).is 5 cD=true then 1 else 0)
 (a:(zx i (!i) st b).1.er=0):st.er=0/\(zx i (!i) st b).2.length=n+1/\n+1<=16/\aag (zx i (!i) st b).2=aag b++[.string c,xI d,xI f,xI (0:Nat),xI (0:Nat),.string ⟨#[]⟩,xI (0:Nat)]:=by
 by_cases e:16<=b.length
 . unfold zx at a;rw[ag e] at a;exact absurd a (St.cy _ (by decide))
 have p:((z9 (st.name.ac 4 [58])).is 5 cF&&!i&&!!i)=false:=by cases i <;> simp
 have o:zx i (!i) st b=(z9 (st.name.ac 4 [58]),b++[⟨st.t.s,st.t.a,(st.name.ac 4 [58]).is 5 cD,i,!i,0,sE,0,false,false⟩]):=by unfold zx;rw[ae e];simp only[p];rfl
 rw[o] at a ⊢;have h:st.er=0:=mo (eJ (mq a));obtain⟨m,u⟩:=r h;have q:st.bG n=st:=by unfold St.bG;rw[ae (by omega)]
 rw[q] at j g;obtain⟨s,t⟩:=j (lm (eJ (mq a)));refine⟨h,by simp[m],by omega,?_⟩;simp only[ru];unfold jd ba;subst s t g;rfl
theorem Hf (A:st.er=0->n=b.length/\b.length<=16){C:Xb}{E D B:Nat}(r:(st.bG n).t.k=2->c=(st.bG n).t.s/\d=(st.bG n).t.a)(h:f=if ((st.bG n).name.ac 4 [58]).is 5 cD=true then 1 else 0)(g:pG (el st n) E D C B)
 (e:(zx false false st b).1.er=0):st.er=0/\(zx false false st b).2.length=n+1/\n+1<=16/\aag (zx false false st b).2=aag b++[.string c,xI d,xI f,xI E,xI D,.string C,xI B]:=by
 by_cases j:16<=b.length
 . unfold zx at e;rw[ag j] at e;exact absurd e (St.cy _ (by decide))
 cases q:(z9 (st.name.ac 4 [58])).is 5 cF with
 | false => have t:zx false false st b=(z9 (st.name.ac 4 [58]),b++[⟨st.t.s,st.t.a,(st.name.ac 4 [58]).is 5 cD,false,false,0,sE,0,false,false⟩]):=(by unfold zx;rw[ae j];simp only[q,Bool.false_and];rfl);rw[t] at e ⊢;have o:st.er=0:=mo (eJ (mq e));obtain⟨s,F⟩:=A o;have p:st.bG n=st:=(by unfold St.bG;rw[ae (by omega)]);have m:el st n=z9 (st.name.ac 4 [58]):=(by unfold el;rw[p]);rw[p] at r h;rw[m] at g;obtain⟨u,v⟩:=r (lm (eJ (mq e)));obtain⟨w,x,y,z⟩:=g.2 q;refine⟨o,by simp[s],by omega,?_⟩;simp only[ru];unfold jd ba;subst u v h w x y z;rfl
 | true =>
   have t:zx false false st b=((aS (z9 (st.name.ac 4 [58])).ad).name,b++[⟨st.t.s,st.t.a,(st.name.ac 4 [58]).is 5 cD,false,false,(z9 (st.name.ac 4 [58])).t.a,(aS (z9 (st.name.ac 4 [58])).ad).t.s,(aS (z9 (st.name.ac 4 [58])).ad).t.a,(z9 (st.name.ac 4 [58])).ad.is 5 aav,true⟩]):=(by unfold zx;rw[ae j];simp only[q,Bool.not_false,Bool.and_self,if_true]);rw[t] at e ⊢;have a:(aS (z9 (st.name.ac 4 [58])).ad).er=0:=mo e;have i:(z9 (st.name.ac 4 [58])).er=0:=by
    unfold aS at a;split at a
    . rw[St.ja,St.ja] at a;exact a
    rw[St.ja] at a;exact a
   have o:st.er=0:=mo (eJ (mq i));obtain⟨s,F⟩:=A o;have p:st.bG n=st:=(by unfold St.bG;rw[ae (by omega)]);have m:el st n=z9 (st.name.ac 4 [58]):=(by unfold el;rw[p]);rw[p] at r h;rw[m] at g;obtain⟨u,v⟩:=r (lm (eJ (mq i)));obtain⟨w,x,y⟩:=g.1 q;obtain⟨z,G⟩:=y (lm e);refine⟨o,by simp[s],by omega,?_⟩;simp only[ru];unfold jd ba;subst u v h w x z G;rfl
end
section
open Go.RowKit
structure VI (S:Xs) (pb nb B p:Nat) (w wr:Xw) (c0 c1 c3 c4 c5:Xv) (s:St) (ak:List Vr) (vs:Xv) (n:Nat) (xs:Xm):Prop where
 af:Inv p s
 pl:PL S wr pb s
 aC:xH wr nb #[c0,c1,vs,c3,c4,c5] 82
 own:wr.ownsRow B 95 7 vs n xs
 ok:s.er=0->n=ak.length/\ak.length<=16/\xs=aag ak
 fr:Fr (λk=>k=pb∨k=nb∨B<=k) w wr
theorem VI.dec {S:Xs}{j i B p:Nat}{w wr:Xw}{c d e f g:Xv}{s:St}{a:List Vr}{k:Xv}{n:Nat}{l:Xm}(h:VI S j i B p w wr c d e f g s a k n l):s.er=0->n=a.length/\a.length<=16:=λb=>⟨(h.ok b).1,(h.ok b).2.1⟩
theorem Hk (S:Xs)(c b B p:Nat)(w wr:Xw)(d f g j k:Xv)(s:St)(a:List Vr)(v:Xv)(n:Nat)(r:Xm)(I:n<=50)(o:c<b)(l:b<B)(F:B<=w.heap.size)(h:VI S c b B p w wr d f g j k s a v n r) :
 xK 138 #[xP c,xP b] wr λe x=>e=.returned (.tuple #[])/\∃q t,VI S c b B p w x d f g j k (MN s a).1 (MN s a).2 q (n+1) t:=by
 have J:=h.fr.size;refine (ID S c b B s wr d f g j k v n r h.af.bd I h.pl h.aC h.own o l (by omega)).mono ?_;rintro e x ⟨T,V,R,ty,Z,W,U,N,rfl,u,y,z,⟨A,C⟩,D,E,_⟩;have H:=mn (ak:=a) h.af;rw[HW h.af.bd h.dec] at u;refine⟨rfl,N,_,H.1.af,u,y,z,?_,?_⟩
 . intro G;have m:(zx false false s a).1.er=0:=eJ G;obtain⟨L,X,Y,M⟩:=Hf h.dec A C D.out m;obtain⟨P,Q,K⟩:=h.ok L;refine⟨?_,?_,?_⟩
   . show n+1=(zx false false s a).2.length;omega
   . show (zx false false s a).2.length<=16;omega
   show r++_=aag (zx false false s a).2;rw[M,K]
 exact h.fr.dr E (λi O hs=>by
  rcases hs with hs|hs|hs
  . exact ao hs
  . exact ap (ao hs)
  exact ap (ap (h.own.lt i hs).1))
end
section
open Go.RowKit
variable {v:Xm} {d:List Vr} {B n a p c:Nat} {S:Xs} {s:St} {j q r t u f:Xv} {w wr:Xw}
theorem HL:zH 175:=λ_ _=>by kernel_rfl
theorem Kr {C e:Xw}{A:Xv}{X:Obj}{y:Xb}{x z:Nat}(i:Bool)
 (h:VI S c a B p w wr j q r t u s d f n v) (m:c<a) (H:a<B) (_hBw:B<=w.heap.size) (l:aa (((s.bG n).t.k=2->y=(s.bG n).t.s/\x=(s.bG n).t.a)/\z=if ((s.bG n).name.ac 4 [58]).is 5 cD=true then 1 else 0))
 (g:Fr (·=c) wr C) (b:PL S e c (el s n)) (E:xH e a #[j,q,f,r,t,u] 82) (F:e.ownsRow B 95 7 A (n+1) (v++[.string y,xI x,xI z,xI 0,xI 0,.string ⟨#[]⟩,xI 0]))
 (G:Fr (λk=>f.ownBlock=some k) (C.alloc X) e):VI S c a B p w (e.setCell (xD a 2) A) j q r t u (zx i (!i) s d).1 (zx i (!i) s d).2 A (n+1) (v++[.string y,xI x,xI z,xI 0,xI 0,.string ⟨#[]⟩,xI 0]):=by
 rw[Hq i h.af.bd h.dec] at b;have J:=jX (i:=i) (o:=!i) (ak:=d) h.af;refine⟨J.1.af,b.aU m _ _,zh _ _ _ _ E,zi F (λk l _ _=>zr (by omega) rfl),?_,?_⟩
 . intro I;obtain⟨M,Q,R,N⟩:=Ki i h.dec l.out.1 l.out.2 I;obtain⟨O,P,L⟩:=h.ok M;exact⟨by omega,by omega,by rw[N,L];rfl⟩
 have D:Fr (λk=>k=c∨k=a∨B<=k) w (C.alloc X):=(h.fr.dr g (λ_ _ h=>ao h)).alloc X;exact (D.dr G (λk _ K=>ap (ap (h.own.lt k K).1))).setCell (ao (ap (ao rfl))) _
theorem xT {e:Xy}(h:w.ownsRow B e 7 f n v):∃x k,f=.slice x n k:=by
 rcases h.2 with ⟨i,m⟩|⟨g,b,l,i,_⟩
 . exact⟨none,0,by rw[i,m]⟩
 exact⟨_,b,i⟩
theorem VI.goes {e:Xw}{b:St}(h:VI S c a B p w wr j q r t u s d f n v)(y:c<a)(l:a<B)(m:Inv p b)(x:b.er=0->s.er=0)(o:PL S e c b)(hF:Fr (·=c) wr e):VI S c a B p w e j q r t u b d f n v :=
 ⟨m,o,(hF.block a (ze h.aC) (by omega)).trans h.aC,zi h.own (λk z i _=>hF.block k i (by omega)),λg=>h.ok (x g),h.fr.dr hF (λ_ _ h=>ao h)⟩
theorem xG (S:Xs)(c a B p m:Nat)(i:Bool)(w wr:Xw)(j q r t u:Xv)(U:St)(d:List Vr)(f:Xv)(n:Nat)(v:Xm)(c6:n<=m)(hm:m<=40)(c2:16<=m)(P:c<a)(L:a<B)(cb:B<=w.heap.size)(H:VI S c a B p w wr j q r t u U d f n v) :
 xK 136 #[xP c,xP a] wr λe w'=>∃(a2:Xv) (n':Nat) (a3:Xm),e=.returned (xI ((n':Int)-(n:Int)))/\n'<=m+1/\VI S c a B p w w' j q r t u (bW i U d).1 (bW i U d).2 a2 n' a3:=by
 obtain⟨x,cv,cn⟩:∃x cv,f=.slice x n cv:=by
  rcases H.own.2 with ⟨h1,h2⟩|⟨g,ca,cE,h1,_⟩
  . exact⟨none,0,by rw[h1,h2]⟩
  exact⟨_,ca,h1⟩
 have N:=H.aC;rw[cn] at N;obtain⟨q0,bt,q2,q3,q4,q5,qf,ds⟩:=zt N;have bA:=za H.af.bd;have cR:=H.pl.lt;clear N;go_enter func136,ntmps136;go_wp2_with fail;refine (zP S c U _ _ j7 _ bA.o H.pl).mono ?_;rintro e X ⟨rfl,V,G⟩;rw[fo H.pl.tx (by decide)] at V;have f1:=ai.ac H.af 4 [40];have b1:=H.goes P L f1.af (λC=>eJ C) V G;have M:bW i U d=((MG i 1300 (zx i (!i) (U.ac 4 [40]) d)).1.ac 4 [41],(MG i 1300 (zx i (!i) (U.ac 4 [40]) d)).2):=rfl;have a6:=za M;obtain⟨R,a9⟩:∃R,MG i 1300 (zx i (!i) (U.ac 4 [40]) d)=R:=⟨_,rfl⟩;rw[a9] at a6;have b3:aa (1201-(U.ac 4 [40]).t.a<1300):=by unfold aa;omega
 generalize U.ac 4 [40]=dl at *;obtain⟨i0,hi,cd,ce,cg⟩:=info_parts Tryz.tc;clear q0 bt q2 q3 q4 q5 qf f1 M;go_wp2_with fail;go_loopg [6] 1300 (λk di wx=>∃(b:Bool) (s:St) (vl:List Vr) (bv:Xv) (I:Nat) (bx:Xm),di=.bool b/\aa (VI S c a B p w wx j q r t u s vl bv I bx)/\I<=m+1/\aa (b=true->I<=m/\MG i k (zx i (!i) s vl)=R/\1201-s.t.a<k)/\aa (b=false->(s,vl)=R));case atStart=>exact⟨true,dl,d,f,n,v,rfl,b1,by omega,λ_=>⟨c6,a9,b3.o⟩,λH=>by cases H⟩
 case round =>
  obtain⟨b,s,vl,bv,I,bx,rfl,D,cl,b0,a0⟩:=hrel;have dc:=D.o.fr.size;have cz:=D.o.pl.lt;have a4:=za D.o.af.bd;cases b with
  | false => have cA:=za (a0.o rfl);obtain⟨x2,bg,T⟩:=xT D.o.own;have A:=D.o.aC;rw[T] at A;clear b0 a0 T;go_wp2_with (go_at_call 134;refine (zP S c s _ [41] pJ _ a4.o D.o.pl).mono ?_;rintro e w2 ⟨rfl,W,a5⟩;have bl:=(a5.block a (ze A) (by omega)).trans A;obtain⟨q0,bt,q2,q3,q4,q5,qf,bp⟩:=zt bl;clear bl);go_ret;have ch:=fo D.o.pl.tx (l:=[41]) (by decide);have W:=W;rw[ch] at W;rw[a6.o,<- cA.o];refine⟨bv,I,bx,?_,cl,D.o.goes P L (ai.ac D.o.af 4 [41]).af (λC=>eJ C) W a5⟩;first|rfl|(congr 2;go_num)
  | true =>
    obtain⟨ck,z,Z⟩:=b0.o rfl;obtain⟨x2,bg,T⟩:=xT D.o.own;have A:=D.o.aC;have F:=A;rw[T] at F;obtain⟨q0,bt,q2,q3,q4,q5,qf,bp⟩:=zt A;have bB:=za (λX (hh:X.heap[a]?=wr.heap[a]?) H=>xj S c s X a x2 I bg a4.o (by omega) (ze (hh.trans F)) (zt (hh.trans F)).2.2.1 H);have bL:=za z;have mx:I+1<=maxLen:=(by unfold maxLen;omega);have b4:(I+1)*72<=140737488355328:=(by omega);have b2:=za ck;clear b0 a0 z T F;go_upto_block 1 with fail;go_cut [] (λwy=>∃a2 a3,aa (VI S c a B p w wy j q r t u (zx i (!i) s vl).1 (zx i (!i) s vl).2 a2 (I+1) a3));case first =>
     go_wp2_with fail;go_region_law (first|(refine rl rfl 175 (.tmp 22) (.tmp 23) 176 71 rfl HL (xP c) (xP a) rfl rfl (bB.o _ rfl D.o.pl.drew) ?_;rintro e X ⟨ns,dk,ty,rfl,bE,V,ar⟩;refine⟨_,rfl,?_⟩;have G:Fr (·=c) wr X:=ar.cQ;have c9:=G.size;have bb:=(G.block a (ze A) (by omega)).trans A;obtain⟨f0,f1,f2,f3,f4,f5,ff,fz⟩:=zt bb;have E:=za (zi D.o.own (λk h1 h2 _=>G.block k h2 (by omega)));have co:B<=X.heap.size+1:=(by omega);clear ar)|(refine zJ _ rfl (.tmp 21) (.tmp 25) 79 rfl B 95 i0 _ 7 72 underlying79 hi cd ce cg rfl (by decide) bv I bx rfl (zD E.o _) (xD X.heap.size 0) 1 1 [.string ns,xI dk,xI ty,xI 0,xI 0,.string ⟨#[]⟩,xI 0] rfl rfl (zN (zc X _) rfl) sq mx b4 (by simpa using co) ?_;intro v' w9 K O bo;obtain⟨g9,ct,rfl,cK⟩:=zM K (by omega);have aV:=Fr.gi O;have bk:w9.heap[a]?=X.heap[a]?:=((aV.block a (by rw[au];omega) (λH=>by have:=(E.o.lt a H).1;omega)).trans (mm _ _ _ (by omega)));have be:=za (bk.trans bb);obtain⟨m0,m1,m2,m3,m4,m5,dp,dq⟩:=zt be.o;have bK:=za (PL.fr (V.alloc _) aV (λk cO=>by have:=(E.o.lt k cO).1;omega));clear O bo bk));all_goals go_wp2_with fail
     all_goals go_meet
     all_goals exact⟨_,_,Kr i D.o P L cb bE G bK.o be.o K aV⟩
    case rest =>
     obtain⟨bq,bs,h⟩:=hcut;have da:=h.o.fr.size;have Y:=za h.o.af.bd;generalize cB:zx i (!i) s vl=y at *;have J:=za (hY S c y.1 ⟨#[44]⟩ [44] pL wc Y.o h.o.pl);have aA:y.1.cP [44]=if y.1.is 4 [44]=true then y.1.ad else y.1:=(by unfold St.cP;rw[fm h.o.pl.tx (by decide)]);rw[fm h.o.pl.tx (by decide),aA] at J;clear q0 bt q2 q3 q4 q5 qf bp aA;obtain⟨g,rfl⟩:∃g,gk=g+1:=⟨gk-1,by have:=Z;omega⟩;have z:=bL.o;have Q:MG i (g+1) y=if y.1.er=0/\y.1.is 4 [44]=true then MG i g (zx i (!i) y.1.ad y.2) else y:=rfl;rw[Q] at z;cases hc:y.1.is 4 [44] with
     | true =>
       have C:y.1.er=0:=Y.o.er (by rw[Inv.bP hc];decide);rw[ag ⟨C,hc⟩] at z;rw[hc,ag rfl] at J;have e5:=ai.ad h.o.af;have cm:y.1.t.a+1<=y.1.ad.t.a:=(by have h1:=h.o.af.tok (by rw[Inv.bP hc];decide);have h2:=zV y.1.src y.1.t.t h.o.af.ok.tt;rw[St.dZ C];simp only;omega);have cs:aa (I+1<=m/\MG i g (zx i (!i) y.1.ad y.2)=R/\1201-y.1.ad.t.a<g):=(by have h1:s.t.a<=y.1.t.a:=(by have:=(jX (i:=i) (o:=!i) (ak:=vl) D.o.af).1.ta;rwa [cB] at this);have h2:=Z;have h3:=D.o.af.ok.bR;have h4:=e5.af.ok.bR;have h5:=(h.o.ok C);exact⟨by omega,z,by omega⟩);have bC:=za e5.af;clear z Q hc e5 cm;go_wp2_with (go_at_call 137;refine J.o.mono ?_;rintro e w3 ⟨rfl,a1,aL⟩);go_roundg g;case measure=>omega
       exact⟨true,y.1.ad,y.2,bq,I+1,bs,rfl,h.o.goes P L bC.o (λ_=>C) a1 aL,by have:=cs.o.1;omega,λ_=>cs.o,λH=>by cases H⟩
     | false =>
       rw[ae (by rw[hc];simp)] at z;have bY:=za z;rw[hc,ae (by simp)] at J;clear z Q hc;go_wp2_with (go_at_call 137;refine J.o.mono ?_;rintro e w3 ⟨rfl,a1,aL⟩);go_roundg g;case measure=>omega
       exact⟨false,y.1,y.2,bq,I+1,bs,rfl,h.o.goes P L h.o.af (λH=>H) a1 aL,by have:=b2.o;omega,(λH=>by cases H),λ_=>bY.o⟩
end
section
variable {c d:Fn} {p:Nat} {b:St}
structure ax where
 ns:List ByteArray
 ps:List Nat
 a:Nat
 ex:Nat
structure dI where
 st:St
 ns:List ByteArray
 ps:List Nat
def dI.more (x:dI):dI:=⟨x.st.ad.name,x.ns++[x.st.ad.t.s],x.ps++[x.st.ad.t.a]⟩
def cX:Nat->dI->dI
 | 0,x=>x
 | f+1,x=>if x.st.er=0/\x.st.is 4 [44]=true then cX f x.more else x
def iG (b:St):dI :=
 let a:=b.ad.name.ac 4 [44]
 let y:=cX 1300 ⟨a.name,[b.ad.t.s,a.t.s],[b.ad.t.a,a.t.a]⟩
 ⟨y.st.ac 4 [41],y.ns,y.ps⟩
def aZ (b:St):dI:=if b.is 4 [40]=true then iG b else ⟨b.name,[b.t.s],[b.t.a]⟩
def cx (c d:Fn)(a:Bool)(b:St):St×Nat:=if a=true then Fs c b.t b.name else d b
def zF (c d:Fn)(b:St)(a:List ax):St×List ax :=
 let l:=aZ b
 let e:=cx c d (b.is 4 [40]) (l.st.ac 4 [61])
 (e.1.ac 4 [59],a++[⟨l.ns,l.ps,l.st.t.a,e.2⟩])
theorem o9:∀(f p:Nat) (x:dI),Inv p x.st->ai p x.st (cX f x).st/\(cX f x).st.op=x.st.op/\(cX f x).st.L=x.st.L:=by
 intro f;induction f with
 | zero=>intro p x a;exact⟨ai.refl a,rfl,rfl⟩
 | succ f j =>
   intro p x a
   show ai p x.st (if _ then _ else x).st/\(if _ then _ else x).st.op=x.st.op/\(if _ then _ else x).st.L=x.st.L;by_cases i:x.st.er=0/\x.st.is 4 [44]=true
   . rw[ag i];have g:=ai.ad a;have h:=ai.name g.af;have e:=j p x.more h.af;exact⟨(g.trans h).trans e.1,e.2.1.trans ((St.dB _).trans (St.bQ _)),e.2.2.trans ((St.c8 _).trans (St.bu _))⟩
   rw[ae i];exact⟨ai.refl a,rfl,rfl⟩
theorem IR (j:Inv p b):ai p b (iG b).st/\(iG b).st.op=b.op/\(iG b).st.L=b.L:=by
 have e:=ai.ad j;have f:=ai.name e.af;have g:=ai.ac f.af 4 [44];have h:=ai.name g.af;have a:=o9 1300 p ⟨(b.ad.name.ac 4 [44]).name,[b.ad.t.s,(b.ad.name.ac 4 [44]).t.s],[b.ad.t.a,(b.ad.name.ac 4 [44]).t.a]⟩ h.af;have i:=ai.ac a.1.af 4 [41];refine⟨((((e.trans f).trans g).trans h).trans a.1).trans i,?_,?_⟩
 . unfold iG;simp only;rw[St.a8,a.2.1];simp only;rw[St.dB,St.a8,St.dB,St.bQ]
 unfold iG;simp only;rw[St.bi,a.2.2];simp only;rw[St.c8,St.bi,St.c8,St.bu]
theorem nN (a:Inv p b):ai p b (aZ b).st/\(aZ b).st.op=b.op/\(aZ b).st.L=b.L:=by
 unfold aZ;split
 . exact IR a
 exact⟨ai.name a,St.dB _,St.c8 _⟩
theorem pj (g:zv 17 c)(h:zv 18 d){many:Bool}(j:Inv p b)(n:b.op=0)(m:many=true->1<=b.t.a):ai p b (cx c d many b).1/\(cx c d many b).1.op=b.op:=by
 unfold cx;split
 . rename_i i
   have a:=ai.name j;by_cases k:b.name.er=0
   . have f:=xY g b.t a.af k (by rw[St.dB,n];omega) (aJ (m i) a.ta);exact⟨a.trans f.dj,f.op.trans (St.dB _)⟩
   have l:b.name.is 4 [40]=false:=(by have:=a.af.bad k;simp[St.is,this]);have e:Fs c b.t b.name=(b.name.fail 2 b.name.t.a,0):=(by unfold Fs;rw[ae (by rw[l];simp)]);rw[e];exact⟨a.trans (ai.fail a.af (by omega) (by omega) a.af.ok.bR),(St.jH _ _ _).trans (St.dB _)⟩
 have f:=h b p j (by omega);exact⟨f.dj,f.op⟩
theorem yr (a:Inv p b)(e:b.is 4 [40]=true):1<=(aZ b).st.t.a:=by
 have o:=a.gf (by omega) e;have r:=Inv.bP e;have m:aZ b=iG b:=by unfold aZ;rw[ag e]
 rw[m];have n:1<=b.ad.t.a:=by have:=a.tok (by omega);rw[St.dZ o];have q:=zV b.src b.t.t a.ok.tt;simp only;omega
 have k:=ai.ad a;have f:=ai.name k.af;have g:=ai.ac f.af 4 [44];have i:=ai.name g.af;have j:=o9 1300 p ⟨(b.ad.name.ac 4 [44]).name,[b.ad.t.s,(b.ad.name.ac 4 [44]).t.s],[b.ad.t.a,(b.ad.name.ac 4 [44]).t.a]⟩ i.af;have l:=ai.ac j.1.af 4 [41];have h:=((((f.trans g).trans i).trans j.1).trans l).ta;exact aJ n h
theorem gD (a:zv 17 c)(e:zv 18 d){eqs:List ax}(i:Inv p b)(j:b.op=0):ai p b (zF c d b eqs).1/\(zF c d b eqs).1.op=b.op:=by
 have f:=nN i;have g:=ai.ac f.1.af 4 [61];have k:((aZ b).st.ac 4 [61]).op=0:=by rw[St.a8,f.2.1,j]
 have h:=pj a e (many:=b.is 4 [40]) g.af k (λm=>aJ (yr i m) g.ta);have l:=ai.ac h.1.af 4 [59];refine⟨((f.1.trans g).trans h.1).trans l,?_⟩;unfold zF;simp only;rw[St.a8,h.2,k,j]
end
section
variable {f:Nat} {R:dI} {a:St}
def hq (a:St):dI:=⟨(a.ad.name.ac 4 [44]).name,[a.ad.t.s,(a.ad.name.ac 4 [44]).t.s],[a.ad.t.a,(a.ad.name.ac 4 [44]).t.a]⟩
structure K8 (a:St) (R:dI) (p:Nat):Prop where
 many:iG a=⟨R.st.ac 4 [41],R.ns,R.ps⟩
 x0:Inv p (hq a).st
 r:Inv p R.st
 rL:R.st.L=a.L
 tv:R.st.op=a.op
 ta:1<=R.st.t.a
theorem sa (b:f=1300)(h:cX f (hq a)=R):iG a=⟨R.st.ac 4 [41],R.ns,R.ps⟩:=by subst h;subst b;rfl
theorem ym {p:Nat}(c:Inv p a)(j:a.is 4 [40]=true)(i:f=1300)(h:cX f (hq a)=R):K8 a R p:=by
 have m:=c.gf (by omega) j;have n:=Inv.bP j;have l:1<=a.ad.t.a:=by have:=c.tok (by omega);rw[St.dZ m];have i:=zV a.src a.t.t c.ok.tt;simp only;omega
 have k:=ai.ad c;have e:=ai.name k.af;have g:=ai.ac e.af 4 [44];have d:=ai.name g.af;have b:=o9 f p (hq a) d.af;rw[h] at b;refine⟨sa i h,d.af,b.1.af,?_,?_,?_⟩
 . rw[b.2.2];unfold hq;simp only;rw[St.c8,St.bi,St.c8,St.bu]
 . rw[b.2.1];unfold hq;simp only;rw[St.dB,St.a8,St.dB,St.bQ]
 exact aJ l (((e.trans g).trans d).trans b.1).ta
theorem VR {r17 r18:Fn}{eqs:List ax}(b:a.is 4 [40]=true)(h:iG a=⟨R.st.ac 4 [41],R.ns,R.ps⟩) :
 zF r17 r18 a eqs=((Fs r17 ((R.st.ac 4 [41]).ac 4 [61]).t ((R.st.ac 4 [41]).ac 4 [61]).name).1.ac 4 [59],eqs++[⟨R.ns,R.ps,(R.st.ac 4 [41]).t.a,(Fs r17 ((R.st.ac 4 [41]).ac 4 [61]).t ((R.st.ac 4 [41]).ac 4 [61]).name).2⟩]):=by
 have c:aZ a=⟨R.st.ac 4 [41],R.ns,R.ps⟩:=by unfold aZ;rw[ag b,h]
 unfold zF cx;simp only[c];rw[ag b]
end
section
variable {d j:Fn} {ak:List Vr} {f p:Nat} {c:St}
structure Nd where
 nm:ByteArray
 a:Nat
 ak:List Vr
 az:List Ex
 eqs:List ax
def zW:List UInt8:=[110,111,100,101]
def ly:List UInt8:=[118,97,114]
def en:Nat->St×List Vr->St×List Vr
 | 0,x=>x
 | f+1,x=>if x.1.er=0/\x.1.t.k=2 then en f (MN x.1 x.2) else x
def gL (d j:Fn):Nat->St×List ax->St×List ax
 | 0,x=>x
 | f+1,x=>if x.1.er=0/\x.1.is 4 [125]=false then gL d j f (zF d j x.1 x.2) else x
def bD (f:Nat)(c:St)(ak:List Vr):St×List Vr:=if c.is 5 ly=true then en f (MN c.ad ak) else (c,ak)
def St.aw (c:St):St:={ c with L:=[] }
def aT (c:St):St×List Vr :=
 let x:=bW true (c.ac 5 zW).name []
 bW false (x.1.ac 4 [45,62]) x.2
def iJ (d j:Fn)(f:Nat)(c:St):St×List ax :=
 let x:=gL d j f (zF d j (c.ac 4 [123]) [])
 (x.1.ac 4 [125],x.2)
def b9 (d j:Fn)(f:Nat)(c:St)(a:List Nd):St×List Nd :=
 if 6<=a.length then (c.aw.fail 2 c.t.a,a)
 else
  let h:=aT c.aw
  let v:=bD f h.1 h.2
  let b:=iJ d j f v.1
  (b.1,a++[⟨(c.aw.ac 5 zW).t.s,(c.aw.ac 5 zW).t.a,v.2,b.1.L,b.2⟩])
def ik (d j:Fn)(g:Nat):Nat->St×List Nd->St×List Nd
 | 0,x=>x
 | f+1,x=>if x.1.er=0/\x.1.t.k≠0 then ik d j g f (b9 d j g x.1 x.2) else x
def mY (d j:Fn)(g:Nat)(s:Xb):St×List Nd :=
 ik d j g g (b9 d j g (⟨s,zZ s 0,0,0,0,[]⟩:St) [])
theorem ai.aw (h:Inv p c):Inv 0 c.aw:=by have a:=h.ok;refine⟨⟨a.src,a.tt,a.ta,a.tn,a.op,a.er,a.at',a.tk⟩,?_,h.N7,h.kq,h.bad,h.tok⟩;simp[St.aw]
theorem RC (a:Inv p c)(h:c.er=0)(g:c.name.er=0):c.t.a+1<=c.name.t.a:=by
 by_cases b:c.t.k=2
 . have e:c.name=c.ad:=by unfold St.name;rw[ag b]
   have:=a.tok (by omega);rw[e,St.dZ h];have i:=zV c.src c.t.t a.ok.tt;simp only;omega
 have e:c.name=c.fail 2 c.t.a:=by unfold St.name;rw[ae b]
 rw[e] at g;exact absurd g (St.cy c (by omega))
theorem ai.back {a b:St}(h:ai p a b)(g:b.er=0):a.er=0:=by
 by_cases e:a.er=0
 . exact e
 exact absurd g (h.er e)
theorem Ho {i o:Bool}(h:Inv p c)(q:c.er=0)(a:(zx i o c ak).1.er=0):c.t.a+1<=(zx i o c ak).1.t.a:=by
 unfold zx at a ⊢;split
 . rename_i l
   rw[ag l] at a;exact absurd a (St.cy c (by omega))
 rename_i l
 rw[ae l] at a;have r:=ai.name h;have e:=ai.ac r.af 4 [58];have g:=ai.type e.af;simp only at a ⊢;split
 . rename_i k
   rw[ag k] at a;have m:=ai.ad g.af;have n:=ai.hb m.af;have s:=ai.name n.af;have b:=(((e.trans g).trans m).trans n).trans s;exact aJ (RC h q (b.back a)) b.ta
 rename_i k
 rw[ae k] at a;have b:=e.trans g;exact aJ (RC h q (b.back a)) b.ta
theorem yB (b:Inv p c)(g:c.er=0)(h:(MN c ak).1.er=0):c.t.a+1<=(MN c ak).1.t.a:=by have e:=jX (i:=false) (o:=false) (ak:=ak) b;have a:=ai.ac e.1.af 4 [59];exact aJ (Ho b g (a.back h)) a.ta
theorem I7 (a:Inv p c)(l:c.er=0)(e:(aZ c).st.er=0):c.t.a+1<=(aZ c).st.t.a:=by
 unfold aZ at e ⊢;split
 . rename_i b
   rw[ag b] at e;have s:=Inv.bP b;have o:c.t.a+1<=c.ad.t.a:=(by have:=a.tok (by omega);rw[St.dZ l];have r:=zV c.src c.t.t a.ok.tt;simp only;omega);have m:=ai.ad a;have g:=ai.name m.af;have h:=ai.ac g.af 4 [44];have i:=ai.name h.af;have k:=o9 1300 p (hq c) i.af;have n:=ai.ac k.1.af 4 [41];have q:=(((g.trans h).trans i).trans k.1).trans n;exact aJ o q.ta
 rename_i b
 rw[ae b] at e;exact RC a l e
theorem xL (a:zv 17 d)(b:zv 18 j){eqs:List ax}(g:Inv p c)(o:c.op=0)(m:c.er=0)(q:(zF d j c eqs).1.er=0):c.t.a+1<=(zF d j c eqs).1.t.a:=by
 have h:=nN g;have e:=ai.ac h.1.af 4 [61];have r:((aZ c).st.ac 4 [61]).op=0:=by rw[St.a8,h.2.1,o]
 have i:=pj a b (many:=c.is 4 [40]) e.af r (λn=>aJ (yr g n) e.ta);have l:=ai.ac i.1.af 4 [59];have k:=(e.trans i.1).trans l;exact aJ (I7 g m (k.back q)) k.ta
theorem Hh:∀(f p:Nat) (x:St×List Vr),Inv p x.1->ai p x.1 (en f x).1/\(en f x).1.op=x.1.op/\(en f x).1.L=x.1.L:=by
 intro f;induction f with
 | zero=>intro p x b;exact⟨ai.refl b,rfl,rfl⟩
 | succ f h =>
   intro p x b
   show ai p x.1 (if _ then _ else x).1/\(if _ then _ else x).1.op=x.1.op/\(if _ then _ else x).1.L=x.1.L;by_cases g:x.1.er=0/\x.1.t.k=2
   . rw[ag g];have a:=mn (ak:=x.2) b;have e:=h p _ a.1.af;exact⟨a.1.trans e.1,e.2.1.trans a.2.1,e.2.2.trans a.2.2⟩
   rw[ae g];exact⟨ai.refl b,rfl,rfl⟩
theorem xw (e:zv 17 d)(g:zv 18 j):∀(f p:Nat) (x:St×List ax),Inv p x.1->x.1.op=0->ai p x.1 (gL d j f x).1/\(gL d j f x).1.op=0:=by
 intro f;induction f with
 | zero=>intro p x b a;exact⟨ai.refl b,a⟩
 | succ f l =>
   intro p x b a
   show ai p x.1 (if _ then _ else x).1/\(if _ then _ else x).1.op=0;by_cases k:x.1.er=0/\x.1.is 4 [125]=false
   . rw[ag k];have h:=gD e g (eqs:=x.2) b a;have i:=l p _ h.1.af (h.2.trans a);exact⟨h.1.trans i.1,i.2⟩
   rw[ae k];exact⟨ai.refl b,a⟩
theorem kM (g:Inv p c):ai p c (bD f c ak).1/\(bD f c ak).1.op=c.op/\(bD f c ak).1.L=c.L:=by
 unfold bD;split
 . have e:=ai.ad g;have a:=mn (ak:=ak) e.af;have b:=Hh f p _ a.1.af;exact⟨(e.trans a.1).trans b.1,b.2.1.trans (a.2.1.trans (St.bQ _)),b.2.2.trans (a.2.2.trans (St.bu _))⟩
 exact⟨ai.refl g,rfl,rfl⟩
theorem mz (k:Inv p c):ai p c (aT c).1/\(aT c).1.op=c.op/\(aT c).1.L=c.L:=by
 have e:=ai.ac k 5 zW;have g:=ai.name e.af;have a:=kH (i:=true) (ak:=[]) g.af;have h:=ai.ac a.1.af 4 [45,62];have b:=kH (i:=false) (ak:=(bW true (c.ac 5 zW).name []).2) h.af;refine⟨(((e.trans g).trans a.1).trans h).trans b.1,?_,?_⟩
 . show (bW false ((bW true (c.ac 5 zW).name []).1.ac 4 [45,62]) (bW true (c.ac 5 zW).name []).2).1.op=_;rw[b.2.1,St.a8,a.2.1,St.dB,St.a8]
 show (bW false ((bW true (c.ac 5 zW).name []).1.ac 4 [45,62]) (bW true (c.ac 5 zW).name []).2).1.L=_;rw[b.2.2,St.bi,a.2.2,St.c8,St.bi]
theorem I6 (a:zv 17 d)(b:zv 18 j)(l:Inv p c)(i:c.op=0):ai p c (iJ d j f c).1/\(iJ d j f c).1.op=0:=by
 have h:=ai.ac l 4 [123];have e:=gD a b (eqs:=[]) h.af (by rw[St.a8,i]);have g:=xw a b f p _ e.1.af (by rw[e.2,St.a8,i]);have k:=ai.ac g.1.af 4 [125];refine⟨((h.trans e.1).trans g.1).trans k,?_⟩
 show ((gL d j f (zF d j (c.ac 4 [123]) [])).1.ac 4 [125]).op=0;rw[St.a8,g.2]
theorem RW (i:zv 17 d)(k:zv 18 j){nodes:List Nd}(q:Inv p c)(r:c.op=0):Inv 0 (b9 d j f c nodes).1/\(b9 d j f c nodes).1.op=0/\c.t.a<=(b9 d j f c nodes).1.t.a/\(c.er≠0->(b9 d j f c nodes).1.er≠0):=by
 have n:=ai.aw q;have s:c.aw.t.a=c.t.a:=rfl;have g:c.aw.er=c.er:=rfl;have h:c.aw.op=0:=r;unfold b9;split
 . have b:=ai.fail n (e:=2) (a:=c.t.a) (by omega) (by omega) q.ok.bR;exact⟨b.af,by rw[St.jH];exact h,by have:=b.ta;simp only;omega,λe=>b.er (by rw[g];exact e)⟩
 have b:=mz n;have l:=kM (f:=f) (ak:=(aT c.aw).2) b.1.af;have o:=I6 i k (f:=f) l.1.af (by rw[l.2.1,b.2.1];exact h);have m:=(b.1.trans l.1).trans o.1;exact⟨m.af,o.2,by have:=m.ta;simp only;omega,λe=>m.er (by rw[g];exact e)⟩
end
section
structure pM (r17 r18:Fn) (f:Nat) (st:St) (x3 x5 x6:St×List Vr) (x8 R:St×List ax):Prop where
 h3:bW true (st.aw.ac 5 zW).name []=x3
 h5:bW false (x3.1.ac 4 [45,62]) x3.2=x5
 h6:bD f x5.1 x5.2=x6
 h8:zF r17 r18 (x6.1.ac 4 [123]) []=x8
 hR:gL r17 r18 f x8=R
structure sd (st:St) (x3 x5 x6:St×List Vr) (x8 R:St×List ax):Prop where
 i0:Inv 0 st.aw
 i1:Inv 0 (st.aw.ac 5 zW)
 i2:Inv 0 (st.aw.ac 5 zW).name
 i3:Inv 0 x3.1
 i4:Inv 0 (x3.1.ac 4 [45,62])
 i5:Inv 0 x5.1
 i6:Inv 0 x6.1
 i7:Inv 0 (x6.1.ac 4 [123])
 i8:Inv 0 x8.1
 iR:Inv 0 R.1
 o7:(x6.1.ac 4 [123]).op=0
 o8:x8.1.op=0
 l3:x3.1.L=(st.aw.ac 5 zW).name.L
 l5:x5.1.L=(x3.1.ac 4 [45,62]).L
 l6:x6.1.L=x5.1.L
theorem yk {g j:Fn}(a:zv 17 g)(b:zv 18 j){f p:Nat}{l:St}{o q r:St×List Vr}{m R:St×List ax}(z:Inv p l)(A:l.op=0)(h:pM g j f l o q r m R):sd l o q r m R:=by
 have t:=ai.aw z;have u:=(ai.ac t 5 zW).af;have v:=(ai.name u).af;have c:=kH (i:=true) (ak:=[]) v;rw[h.h3] at c;have w:=(ai.ac c.1.af 4 [45,62]).af;have d:=kH (i:=false) (ak:=o.2) w;rw[h.h5] at d;have e:=kM (f:=f) (ak:=q.2) d.1.af;rw[h.h6] at e;have x:=(ai.ac e.1.af 4 [123]).af;have n:(r.1.ac 4 [123]).op=0:=by rw[St.a8,e.2.1,d.2.1,St.a8,c.2.1,St.dB,St.a8];exact A
 have k:=gD a b (eqs:=[]) x n;rw[h.h8] at k;have y:m.1.op=0:=by rw[k.2,n]
 have s:=xw a b f 0 m k.1.af y;rw[h.hR] at s;exact⟨t,u,v,c.1.af,w,d.1.af,e.1.af,x,k.1.af,s.1.af,n,y,c.2.2,d.2.2,e.2.2⟩
end
end Go.Proofs.YtcnelakggnfnhaaGreatDoor
