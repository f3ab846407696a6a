/- Part 5 of the proof. -/
import Derived.Test.YtbicmofihhjgbaaGreatDoorK03
set_option maxRecDepth 100000
set_option maxHeartbeats 8000000
namespace Go.Proofs.YtbicmofihhjgbaaGreatDoor
open Go.Proofs.Tryz
open Go.RowKit
section
variable {c:Fn} {L:List Ex} {d p y:Nat} {f u:Xv} {w wr:Xw}
theorem Kp:zH 190:=λ_ _=>by kernel_rfl
theorem Tryz.AM:(prog.info? 182).map (λi=>(i.zero,i.size,i.bytes))=some (some (.pointer none),1,8):=by kernel_rfl
theorem pL:(⟨#[44]⟩:Xb).toList=[44]:=by decide +kernel
theorem ai.sM {a b:St}(h:ai p a b)(e:b.er=0):a.er=0:=h.dd e
def lJ (w wr:Xw)(f:Xv)(L:List Ex)(y:Nat)(u:Xv):Prop :=
 ∃(a:Xw) (b:Nat),w.heap.size<=b/\TR a b L y u/\(∀k,b<=k->k<a.heap.size->wr.heap[k]?=a.heap[k]?)/\(∀g,f.ownBlock=some g->g<b∨a.heap.size<=g)/\a.heap.size<=wr.heap.size
theorem lJ.now (h:lJ w wr f L y u):TR wr w.heap.size L y u:=by obtain⟨i,g,a,b,e,_,_⟩:=h;exact (b.kept e).down a
theorem lJ.next {l:Xw}{av':Xv}(h:lJ w wr f L y u)(E:List Ex){T:Xj}(j:Fr T wr l)(r:∀k,T k->k<w.heap.size∨f.ownBlock=some k)(s:∀k,av'.ownBlock=some k->f.ownBlock=some k∨wr.heap.size<=k):lJ w l av' (L++E) y u:=by
 obtain⟨x,m,n,o,q,i,b⟩:=h;refine⟨x,m,n,o.more E,λk e a=>?_,λg t=>?_,aJ b j.size⟩
 . refine (j.block k (dD a b) (λv=>?_)).trans (q k e a);rcases r k v with h|h
   . omega
   rcases i k h with h|h <;> omega
 rcases s g t with h|h
 . exact i g h
 exact ap (aJ b h)
structure nZ (S:Xs) (pb eb p d:Nat) (w wr:Xw) (v0 v1 v2 v3 v4:Xv) (s:St) (l:Xn) (vs:Xm) (f:Xv):Prop where
 af:Inv p s
 op:18<=s.op+d
 pl:PL S wr pb s
 aC:xH wr eb #[v0,v1,v2,v3,v4,f] 226
 own:wr.ownsRow w.heap.size 182 1 f vs.length vs
 len:vs.length=l.length
 tr:s.er=0->∀(i y:Nat) (u:Xv),l[i]?=some y->vs[i]?=some u->lJ w wr f s.L y u
 fr:Fr (λk=>k=pb∨k=eb) w wr
 bO:l.length<=s.t.a
theorem I9 {S:Xs}{o a:Nat}{j z:Xw}{N O P Q R:Xv}{s:St}{l:Xn}{F:Xm}{x:Xv}{G:Xp}{X:Obj}
 (b:nZ S o a p d w wr N O P Q R s l F f) (A:cU c s p) (Y:l.length+1<=s.t.a) (n3:o<a) (ar:a<w.heap.size) (q:Fr (·=o) wr j) (K:(c s).1.er=0->TR j wr.heap.size (c s).1.L (c s).2 (.pointer G))
 (J:PL S z o (c s).1) (e:Fr (λk=>f.ownBlock=some k) (j.alloc X) z) (C:z.heap[a]?=some (.cells #[N,O,P,Q,R,f] 226 (0,0))) (n:z.ownsRow w.heap.size 182 1 x (F.length+1) (F++[.pointer G]))
 (m:∀k,x.ownBlock=some k->f.ownBlock=some k∨(j.alloc X).heap.size<=k):nZ S o a p d w (z.setCell (xD a 5) x) N O P Q R (c s).1 (l++[(c s).2]) (F++[.pointer G]) x:=by
 have r:∀k,f.ownBlock=some k->w.heap.size<=k/\k<wr.heap.size:=λk v=>b.own.lt k v;have M:=b.fr.size;have ab:=q.size;have U:=b.pl.lt;have aA:(j.alloc X).heap.size=j.heap.size+1:=by simp
 have I:Fr (λk=>k=o∨k=a∨f.ownBlock=some k) wr (z.setCell (xD a 5) x):=by have B:Fr (λk=>k=o∨k=a∨f.ownBlock=some k) wr (j.alloc X):=(q.mono (λ_ _ h=>ao h)).alloc X;exact (B.dr e (λ_ _ h=>ap (ap h))).setCell (ao (ap (ao rfl))) _
 obtain⟨E,V⟩:=A.L;have Z:∀k,x.ownBlock=some k->w.heap.size<=k:=λk v=>(n.lt k v).1;refine⟨A.af,by rw[A.op];exact b.op,J.aU n3 _ _,zh _ _ _ _ C,?_,by simp[b.len],?_,?_,?_⟩
 . rw[aP];exact zi n (λk B _ _=>zr (by omega) rfl)
 . intro T i y u t D;rcases Nat.lt_or_ge i l.length with h|h
   . rw[e9 h] at t;rw[e9 (by rw[b.len];exact h)] at D;rw[V];refine (b.tr (A.dj.sM T) i y u t D).next E I (λk v=>?_) (λk v=>?_)
     . rcases v with h|h|h
       . left;omega
       . left;omega
       exact ap h
     rcases m k v with h|h
     . exact ao h
     right;omega
   have H:i=l.length:=(by have:=(aB.1 t).1;simp at this;omega);subst H;rw[e8 (an _)] at t;rw[<- b.len,e8 (an _)] at D;simp at t D;subst t D;refine⟨j,wr.heap.size,M,K T,λk B H=>?_,λg W=>?_,?_⟩
   . refine zr (by omega) ((e.block k (by omega) (λh=>by have:=(r k h).2;omega)).trans (Below.heap_alloc _ _ _ H))
   . rcases m g W with h|h
     . left;exact (r g h).2
     right;omega
   have:=e.size;simp[World.setCell];omega
 . have B:Fr (λk=>k=o∨k=a) w (j.alloc X):=(b.fr.dr q (λ_ _ h=>ao h)).alloc X;exact (B.dr e (λi t h=>by have:=(r i h).1;omega)).setCell (ao (ap rfl)) _
 have:=A.ta;simp;omega
theorem yv {a:Xp}:∀u∈[Value.pointer a],u.oneCell'=true:=by intro u b;simp at b;subst b;rfl
theorem I2 (ck:zX d 190 c)(ce:zv d c)(S:Xs)(x:Nat)(z:St)(p:Nat)(w:Xw)(bp be t:Nat)(v0 v1 v2 v3 v4:Xv)(ca:Inv p z)(cd:18<=z.op+d)(ct:1<=z.t.a)(hR:PL S w x z)(aL:bH w bp 172 (xP x))(a5:bH w be 182 (xP t))(a1:xH w t #[v0,v1,v2,v3,v4,.slice none 0 0] 226)(n0:¬bp=x)(n1:¬be=x)(n3:x<t)(n4:¬bp=t)(n5:¬be=t) :
 xK 206 #[xP bp,xP be] w λe w'=>e=.returned (.tuple #[])/\∃D f,PL S w' x ((cL c z).1.ac 4 [41])/\xH w' t #[v0,v1,v2,v3,v4,f] 226/\w'.ownsRow w.heap.size 182 1 f D.length D/\D.length=(cL c z).2.length /\
  aa (((cL c z).1.ac 4 [41]).er=0->∀(i y:Nat) (u:Xv),(cL c z).2[i]?=some y->D[i]?=some u->TR w' w.heap.size (cL c z).1.L y u)/\Fr (λk=>k=x∨k=t) w w':=by
 have n2:¬t=x:=by omega
 have a2:=ze a1;have cz:=hR.lt;have bb:nZ S x t p d w w v0 v1 v2 v3 v4 z [] [] (.slice none 0 0):=⟨ca,cd,hR,a1,World.ownsRow_nil _ _ _ _,rfl,λ_ i y u h _=>by simp at h,Fr.refl _ _,by simp⟩;have bB:aa (1201-z.t.a<1300):=by unfold aa;omega
 have A:cL c z=cY c 1300 ((c z).1,[]++[(c z).2]):=rfl;obtain⟨i0,hi,bL,bY,b0⟩:=info_parts Tryz.AM;obtain⟨R,K⟩:∃R,cL c z=R:=⟨_,rfl⟩;rw[K];rw[K] at A;have a3:=za A.symm;clear K A hR ca cd a1;go_enter func206,ntmps206;go_wp2_with fail;go_loopg [2] 1300 (λk m wr=>∃(b:Bool) (s:St) (l:Xn) (D:Xm) (f:Xv),m=.bool b/\aa (nZ S x t p d w wr v0 v1 v2 v3 v4 s l D f)/\aa (b=true->cY c k ((c s).1,l++[(c s).2])=R/\1201-s.t.a<k/\l.length+1<=s.t.a)/\aa (b=false->(s,l)=R));case atStart=>exact⟨true,z,[],[],_,rfl,bb,λ_=>⟨a3.o,bB.o,by simpa using ct⟩,λh=>by cases h⟩
 case round =>
  obtain⟨b,s,l,D,f,rfl,j,bt,ab⟩:=hrel;have hz:=j.o.fr.size;have cb:=j.o.pl.lt;have G:=j.o.fr.iX aL n0 n4;have F:=j.o.fr.iX a5 n1 n5;obtain⟨p0,cO,c0⟩:=zu G;obtain⟨e0,co,cs⟩:=zu F;cases b with
  | false => have ch:=ab.o rfl;have Q:=za j.o.af.bd;clear bt ab;go_wp2_with (go_at_call 150;refine (zP S x s _ [41] pJ _ Q.o j.o.pl).mono ?_;rintro e w2 ⟨rfl,bl,T⟩);go_end0;rw[<- ch];have hm:s.iv [41]=s.ac 4 [41]:=fo j.o.pl.tx (by decide);refine⟨rfl,D,f,hm▸bl,(T.block t (ze j.o.aC) n2).trans j.o.aC,zi j.o.own (λk B v _=>T.block k v (by omega)),j.o.len,?_,j.o.fr.dr T (λ_ _ h=>ao h)⟩;intro r i y u B v;exact (j.o.tr ((ai.ac j.o.af 4 [41]).dd r) i y u B v).now.fr T (λk B _ v=>by omega)
  | true =>
    obtain⟨n,W,bA⟩:=bt.o rfl;have bx:=ce s p j.o.af j.o.op;have bv:=za (λw1 h=>ck S x s p w1 j.o.af j.o.op h);obtain⟨E,c2⟩:=bx.L;have bq:=za n;have cA:D.length<=1200:=(by have:=j.o.bO;have:=j.o.af.ok.bR;have:=j.o.len;omega);have mx:D.length+1<=maxLen:=(by unfold maxLen;omega);have bE:(D.length+1)*8<=140737488355328:=(by omega);obtain⟨d0,d1,d2,d3,d4,cl,cn,dz⟩:=zt j.o.aC;clear bt ab n;go_upto_block 1 with fail;go_cut [] (λwx=>∃b2 av',aa (nZ S x t p d w wx v0 v1 v2 v3 v4 (c s).1 (l++[(c s).2]) b2 av'));case first =>
     go_wp2_with fail;go_region_law (first|(refine kD rfl 190 (.tmp 11) 172 rfl Kp (xP x) rfl (bv.o _ j.o.pl.drew) ?_;rintro e w1 ⟨cm,rfl,bk,bK,X⟩;refine⟨_,rfl,?_⟩;have q:Fr (·=x) wr w1:=X.cQ;have cB:=q.size;have H:=(q.block t (ze j.o.aC) n2).trans j.o.aC;obtain⟨f0,f1,f2,f3,f4,f5,ff,fz⟩:=zt H;obtain⟨c3,c4,c5⟩:=zu (F.fr q n1);obtain⟨k0,kf,kz⟩:=zu (G.fr q n0);have I:=za (zi j.o.own (λk B v _=>q.block k v (by omega)));have b1:w.heap.size<=w1.heap.size+1:=(by omega);clear X)|(refine zJ _ rfl (.tmp 10) (.tmp 13) 224 rfl w.heap.size 182 i0 _ 1 8 underlying224 hi bL bY b0 rfl (by decide) f D.length D rfl (zD I.o _) (xD w1.heap.size 0) 1 1 [.pointer cm] rfl rfl (zN (zc w1 _) rfl) yv mx bE (by simpa using b1) ?_;intro v' w9 J N aV;obtain⟨g9,b4,rfl,cv⟩:=zM J (by omega);have a4:∀k,f.ownBlock=some k->w.heap.size<=k:=λk P=>(I.o.lt k P).1;have Z:=Fr.gi N;have M:∀k,k<w.heap.size->w9.heap[k]?=w1.heap[k]?:=(λk P=>(Z.block k (by rw[au];omega) (λh=>by have:=a4 k h;omega)).trans (Below.heap_alloc _ _ _ (by omega)));obtain⟨m0,m1,m2,m3,m4,m5,c6,c9⟩:=zt ((M t a2).trans H);have a6:=za ((M t a2).trans H);obtain⟨o0,cK,oz⟩:=zu ((M be (ze a5)).trans (F.fr q n1));have b3:=za ((M bp (ze aL)).trans (G.fr q n0));have bo:aa (PL S w9 x (c s).1):=(bk.alloc _).fr Z (λk P=>by have:=a4 k P;omega);clear N M));all_goals go_wp2_with fail
     all_goals go_meet
     all_goals exact⟨_,_,I9 j.o bx bA n3 a2 q bK.out bo.o Z a6.o J aV⟩
    case rest =>
     obtain⟨a9,U,a⟩:=hcut;have cE:=a.o.fr.size;obtain⟨da,cR,c1⟩:=zu (a.o.fr.iX aL n0 n4);have Q:=za a.o.af.bd;have C:=za (hY S x (c s).1 ⟨#[44]⟩ [44] pL wc Q.o a.o.pl);rw[fm a.o.pl.tx (by decide)] at C;have Y:(c s).1.cP [44]=if (c s).1.is 4 [44]=true then (c s).1.ad else (c s).1:=(by unfold St.cP;rw[fm a.o.pl.tx (by decide)]);rw[Y] at C;clear p0 cO c0 e0 co cs d0 d1 d2 d3 d4 cn dz Y;obtain⟨g,rfl⟩:∃g,gk=g+1:=⟨gk-1,by have:=W;omega⟩;have n:=bq.o;have O:cY c (g+1) ((c s).1,l++[(c s).2])=if (c s).1.er=0/\(c s).1.is 4 [44]=true then cY c g ((c (c s).1.ad).1,(l++[(c s).2])++[(c (c s).1.ad).2]) else ((c s).1,l++[(c s).2]):=rfl;rw[O] at n;cases V:(c s).1.is 4 [44] with
     | true =>
       have r:(c s).1.er=0:=Q.o.er (by rw[Inv.bP V];decide);rw[ag ⟨r,V⟩] at n;have aA:=za n;rw[V,ag rfl] at C;have e5:=ai.gj a.o.af r (by rw[Inv.bP V];decide);have a0:=ai.ad a.o.af;have bC:(c s).1.t.a+1<=(c s).1.ad.t.a:=(by have B:=a.o.af.tok (by rw[Inv.bP V];decide);have v:=zV (c s).1.src (c s).1.t.t a.o.af.ok.tt;rw[St.dZ r];simp only;omega);have bs:(c s).1.ad.L=(c s).1.L:=St.bu _;have cg:aa (cY c g ((c (c s).1.ad).1,(l++[(c s).2])++[(c (c s).1.ad).2])=R/\1201-(c s).1.ad.t.a<g/\(l++[(c s).2]).length+1<=(c s).1.ad.t.a):=by
        refine⟨aA.o,?_,?_⟩
        . have B:=bx.ta;have v:=W;have h3:=j.o.af.ok.bR;have h4:=a0.af.ok.bR;omega
        have B:=a.o.bO;omega
       have bg:=za a0.af;clear n O V e5 a0;go_wp2_with (go_at_call 153;refine C.o.mono ?_;rintro e w3 ⟨rfl,ar,o⟩);go_roundg g;case measure=>omega
       refine⟨true,(c s).1.ad,l++[(c s).2],a9,U,rfl,⟨bg.o,by rw[St.bQ];exact a.o.op,ar,(o.block t (ze a.o.aC) n2).trans a.o.aC,zi a.o.own (λk B v _=>o.block k v (by omega)),a.o.len,?_,a.o.fr.dr o (λ_ _ h=>ao h),?_⟩,λ_=>cg.o,λh=>by cases h⟩
       . intro _ i y u B v;rw[bs];have:=(a.o.tr r i y u B v).next [] o (av':=U) (λk P=>by left;omega) (λk P=>ao P);rwa [List.append_nil] at this
       have B:=a.o.bO;have v:=bC;omega
     | false =>
       rw[ae (by rw[V];simp)] at n;have aA:=za n;rw[V,ae (by simp)] at C;clear n O V;go_wp2_with (go_at_call 153;refine C.o.mono ?_;rintro e w3 ⟨rfl,ar,o⟩);go_roundg g;case measure=>omega
       refine⟨false,(c s).1,l++[(c s).2],a9,U,rfl,⟨a.o.af,a.o.op,ar,(o.block t (ze a.o.aC) n2).trans a.o.aC,zi a.o.own (λk B v _=>o.block k v (by omega)),a.o.len,?_,a.o.fr.dr o (λ_ _ h=>ao h),a.o.bO⟩,(λh=>by cases h),λ_=>aA.o⟩;intro r i y u B v;have:=(a.o.tr r i y u B v).next [] o (av':=U) (λk P=>by left;omega) (λk P=>ao P);rwa [List.append_nil] at this
end
section
theorem JX:zH 206:=λ_ _=>by kernel_rfl
theorem Lg:aF fL.toList 0=4:=by decide +kernel
structure Lc (w w0:Xw) (pb:Nat) (s:Xb) (a:Nat):Prop where
 bp:bH w0 w.heap.size 172 (xP pb)
 eb:xH w0 (w.heap.size+1+1) #[xI 4,xI a,.string s,xI a,xI 0,.slice none 0 0] 226
 be:bH w0 (w.heap.size+1+1+1) 182 (xP (w.heap.size+1+1))
 fr:Fr (·=pb) w w0
 size:w0.heap.size=w.heap.size+1+1+1+1
def j6 (w:Xw)(b:Nat)(s:Xb)(a:Nat):World:=(((w.alloc (.cells #[xP b] 172)).alloc (.cells #[.string s,xI a] 117)).alloc (.cells #[xI 4,xI a,.string s,xI a,xI 0,.slice none 0 0] 226)).alloc (.cells #[xP (w.heap.size+1+1)] 182)
theorem Lb (w:Xw)(b:Nat)(s:Xb)(a:Nat):Lc w (j6 w b s a) b s a:=by
 unfold j6;refine⟨?_,?_,?_,((((Fr.refl _ w).alloc _).alloc _).alloc _).alloc _,by simp⟩
 . exact (Below.heap_alloc _ _ _ (by simp;omega)).trans ((Below.heap_alloc _ _ _ (by simp;omega)).trans ((Below.heap_alloc _ _ _ (by simp)).trans (zc w _)))
 . refine (Below.heap_alloc _ _ _ (by simp)).trans ?_;have:=zc ((w.alloc (.cells #[xP b] 172)).alloc (.cells #[.string s,xI a] 117)) (.cells #[xI 4,xI a,.string s,xI a,xI 0,.slice none 0 0] 226);simpa using this
 have:=zc (((w.alloc (.cells #[xP b] 172)).alloc (.cells #[.string s,xI a] 117)).alloc (.cells #[xI 4,xI a,.string s,xI a,xI 0,.slice none 0 0] 226)) (.cells #[xP (w.heap.size+1+1)] 182);unfold bH;simpa using this
theorem Ks {S:Xs}{w:Xw}{b:Nat}{c:St}(h:PL S w b c)(s:Xb)(a:Nat):PL S (j6 w b s a) b c:=(((h.alloc _).alloc _).alloc _).alloc _
theorem JU {d:Nat}{b:Fn}(bk:zX d 190 b)(Q:zv d b):ig (d+1) b:=by
 intro S j a p w t K bv bq M;have bo:=M.lt;have bp:∀(fn:Go.Fn) (first G:Xa) (w:Xw),(Instr.makeFunc fn first G).run prog w=.ok (.func fn first G) w:=λ_ _ _ _=>rfl;have c:=Lb w j t.s t.a;have f:=Ks M t.s t.a;have l:=za (fH S j a ⟨#[40]⟩ _ j7 (j6 w j t.s t.a) K.ok.tk f);rw[fm M.tx (by decide)] at l;have bl:8<w.heap.size:=dD (by decide) M.gl.size;have aA:xC (j6 w j t.s t.a) 8 0 (.iface 324 (.pointer (some (S 2)))):=f.gl.e6;obtain⟨a5,a6,a9⟩:=zu c.be;obtain⟨bb,be,bg⟩:=zu c.bp;cases I:a.is 4 [40] with
 | true =>
   have P:a.t.k=4:=Inv.bP I;have he:=K.bd.er (by omega);have L:=ai.enter K he (by omega:2<=a.t.k);have B:18<=a.enter.op+d:=(by rw[St.bN];omega);have r:1<=a.enter.t.a:=(by have:=L.ta;omega);obtain⟨a3,F,a4⟩:=xQ Q L.af B r;have a0:=za (λw1 b0 b1 b2 W=>I2 bk Q S j a.enter (p+1) w1 w.heap.size (w.heap.size+1+1+1) (w.heap.size+1+1) (xI 4) (xI t.a) (.string t.s) (xI t.a) (xI 0) L.af B r W b0 b1 b2 (by omega) (by omega) (by omega) (by omega) (by omega));have V:vs b t a=(((cL b a.enter).1.ac 4 [41]).aI.put ⟨fL,t.a,t.a,(cL b a.enter).2,t.s,0⟩):=(by unfold vs;rw[ag I]);rw[V];have a1:aa (a.op=16->((cL b a.enter).1.ac 4 [41]).aI=a.fail 3 a.t.a):=by
    intro q;have ar:=St.om q;have J:a.enter.er≠0:=(by rw[ar];exact St.cy _ (by decide));have aV:(b a.enter).1=a.enter:=(by rw[(Q a.enter (p+1) L.af B).er J]);have q2:(cL b a.enter).1=a.enter:=by
     show (cY b 1300 ((b a.enter).1,[(b a.enter).2])).1=a.enter
     show (if (b a.enter).1.er=0/\(b a.enter).1.is 4 [44]=true then _ else ((b a.enter).1,[(b a.enter).2])).1=a.enter;rw[ae (by rw[aV];exact λh=>J h.1)];exact aV
    have q3:(cL b a.enter).1.ac 4 [41]=a.enter:=(by rw[q2,ar];exact St.oo _ (by decide) (by decide));rw[q3,nE q]
   rw[I] at l;generalize cL b a.enter=A at *;go_enter func189,ntmps189;go_wp2_with fail;refine Eq.mpr (congrArg (λz=>xK 85 _ z _) (show _=j6 w j t.s t.a from rfl)) ?_;refine l.o.mono ?_;rintro e N ⟨rfl,rfl⟩;generalize j6 w j t.s t.a=w0 at *;go_wp2_with fail;refine (ml _ _ JX S j a p w0 K (by rw[P];decide) f (λe N=>e=.returned (.tuple #[])/\bH N (w.heap.size+1+1+1) 182 (xP (w.heap.size+1+1))/\ef S j w.heap.size w ((A.1.ac 4 [41]).aI.put ⟨fL,t.a,t.a,A.2,t.s,0⟩).1 ((A.1.ac 4 [41]).aI.put ⟨fL,t.a,t.a,A.2,t.s,0⟩).2 (.returned (xP (w.heap.size+1+1))) N) ?_ ?_).mono ?_
   . intro Z w2 T g;have s:=c;refine (a0.o w2 (s.bp.fr g (by omega)) (s.be.fr g (by omega)) ((g.block _ (ze s.eb) (by omega)).trans s.eb) T).mono ?_;rintro e w3 ⟨rfl,bt,ab,v,H,C,x,X,m⟩;refine⟨rfl,A.1.ac 4 [41],v,by rw[St.a8,F,St.bN];omega,by rw[St.a8,F,St.bN];omega,?_⟩;intro w4 f n;have R:Fr (·=j) w w4:=(Fr.k1 (s.fr.trans g) m (by omega)).trans n;have aL:w0.heap.size<=w2.heap.size:=g.size;have bs:=s.size;refine⟨rfl,bH.fr (Fr.iX m (s.be.fr g (by omega)) (by omega) (by omega)) n (by omega),_,rfl,f.put _,?_,R⟩;intro o;have U:(A.1.ac 4 [41]).aI.L=A.1.L:=St.bi _ _ _
     show TR w4 w.heap.size ((A.1.ac 4 [41]).aI.L++[⟨fL,t.a,t.a,A.2,t.s,0⟩]) (A.1.ac 4 [41]).aI.L.length _;rw[U];have D:=zR (zi C (λk h1 h2 _=>n.block k h2 (by omega))) (by omega:w.heap.size<=w2.heap.size);refine TR.mk A.1.L.length ⟨fL,t.a,t.a,A.2,t.s,0⟩ _ ab bt (by simp) (by omega) ?_ D x ?_
     . show _=some (Obj.cells #[xI (aF fL.toList 0:Nat),xI t.a,.string t.s,xI t.a,xI (df fL.toList 0:Nat),ab] 226 (0,0));rw[Lg,jY];exact (n.block _ (ze H) (by omega)).trans H
     intro i y u hi hu;exact (((X.out o i y u hi hu).fr n (λk h1 _ h2=>by omega)).down (by omega)).more _
   . intro q w3 v m;rw[a1.o q];exact⟨rfl,c.be.fr m (by omega),_,rfl,v.put _,λo=>absurd o (St.cy a (by decide)),c.fr.trans m⟩
   rintro e w4 ⟨rfl,Y,a2⟩;obtain⟨f0,ff,fz⟩:=zu Y;go_wp2_with fail;go_ret;exact a2
 | false => have V:vs b t a=(a.fail 2 a.t.a,0):=(by unfold vs;rw[ae (by rw[I];simp)]);rw[V];rw[I] at l;go_enter func189,ntmps189;go_wp2_with fail;refine Eq.mpr (congrArg (λz=>xK 85 _ z _) (show _=j6 w j t.s t.a from rfl)) ?_;refine l.o.mono ?_;rintro e N ⟨rfl,rfl⟩;generalize j6 w j t.s t.a=w0 at *;go_wp2_with (go_at_call 87;refine (li S j a 2 (by decide) _ f).mono ?_;rintro e w1 ⟨rfl,O,E⟩;obtain⟨f0,ff,fz⟩:=zu (c.be.fr E (by omega)));go_ret;exact⟨_,rfl,O,λo=>absurd o (St.cy a (by decide)),c.fr.trans E⟩
theorem PL.BM {S:Xs}{w:Xw}{d:Nat}{b:St}{e a:Nat}(h:PL S w d (b.fail e a))(f:b.er≠0)(i:b.t.k=1):PL S w d b:=by
 have g:b.fail e a={ b with t:=⟨1,b.t.a,b.t.t,⟨#[]⟩,0⟩ }:=by unfold St.fail;rw[ae f]
 rw[g] at h;refine⟨⟨λc=>by omega,λc=>by omega,λc=>by omega⟩,?_,h.gl,h.pb⟩;have:=h.heap;unfold lu at this ⊢;simp only[ck,cs,cn] at this ⊢;rw[i];exact this
theorem si (a:St)(b:Tx a.src a.t):dC a [1,2]=if a.is 5 [116,114,117,101]=true then some 1 else if a.is 5 [102,97,108,115,101]=true then some 2 else none:=by obtain⟨_,_,_,_,_,_,_,_,_,_,_,_,_,_,_,_,c,d⟩:=ku;simp only[dC,c,d];rw[MH b (by decide),MH b (by decide)]
theorem Le (n:Nat):aF fJ.toList n=0:=by
 have:fJ.toList=[110,117,109,98,101,114]:=by decide +kernel
 rw[this];rfl
theorem Ld (n:Nat):df fJ.toList n=n:=by
 have:fJ.toList=[110,117,109,98,101,114]:=by decide +kernel
 rw[this];rfl
theorem Lr:aF MV.toList 1=1:=by decide +kernel
theorem KD:aF MV.toList 0=2:=by decide +kernel
theorem Lo (n:Nat):df MV.toList n=0:=by
 have:MV.toList=[98,111,111,108]:=by decide +kernel
 rw[this];rfl
theorem yT:(⟨#[105,102]⟩:Xb).toList=[105,102]:=by decide +kernel
theorem yt:(⟨#[109,101,114,103,101]⟩:Xb).toList=[109,101,114,103,101]:=by decide +kernel
theorem r7 {t:Tk}:(((ck t:Nat):Int)==4)=(t.k==3):=by
 by_cases h:t.k=3
 . simp[ck,h]
 have:ck t≠4:=by unfold ck;(repeat' split) <;> first|decide|(exfalso;omega)
 have a:(t.k==3)=false:=by simp[h]
 rw[a];simp;omega
theorem Ik (M:Fn)(S:Xs)(c:Nat)(a:St)(p:Nat)(w:Xw)(n:Inv p a)(j:a.t.k=3)(o:M a=fK fJ a.t.n a)(h:PL S w c a) :
 xK 242 #[xP c] w (ef S c w.heap.size w (M a).1 (M a).2):=by
 rw[o];obtain⟨x,y,z,A,B,C,D⟩:=h.cells;have k:=r7 (t:=a.t);rw[show (a.t.k==3)=true by simp[j]] at k;have i:cn a.t=a.t.n:=by simp[cn,j]
 have l:=h.lt;have m:¬w.heap.size=c:=by omega
 have s:=H5;have q:=za n.bd;have r:=za (kI n.bd (by omega:a.t.k≠1));clear o;go_enter func242,ntmps242;go_wp2_with (go_at_call 208;refine (kC S c a 0 _ h).mono ?_;rintro e E ⟨rfl,rfl⟩);refine (jV S c a _ q.o.ok (by rw[j];decide) (h.alloc _)).mono ?_;rintro e F ⟨rfl,f,d⟩;rw[r.o] at f;have g:=(d.block w.heap.size (Nat.lt_of_lt_of_eq (cf _) (by simp)) m).trans (zc w _);obtain⟨d0,d1,d2,d3,d4,d5,u,v⟩:=zt g;simp only[Tk.dX];go_wp2_with fail;go_ret;refine⟨some (xD w.heap.size 0),rfl,(f.aU l _ _).put _,λ_=>TR.leaf (b:=w.heap.size) (ex:=⟨fJ,a.t.a,0,[],sE,a.t.n⟩) (an _) ?_ rfl,(((Fr.refl _ w).alloc _).trans d).aO (an _) _ _⟩
 show _=some (Obj.cells #[xI (aF fJ.toList a.t.n:Nat),xI a.t.a,.string ⟨#[]⟩,xI (0:Nat),xI (df fJ.toList a.t.n:Nat),.slice none 0 0] 226 (0,0));rw[Le,Ld,<- i];exact zh _ _ _ _ g
theorem xV (M:Fn)(n j:Nat)(S:Xs)(d:Nat)(a:St)(p:Nat)(w:Xw)(k:Inv p a)(r:a.t.k=5)(i:dC a [1,2]=some j)(l:aF MV.toList n=j)(s:M a=fK MV n a)(h:PL S w d a) :
 xK 242 #[xP d] w (ef S d w.heap.size w (M a).1 (M a).2):=by
 rw[s];obtain⟨A,B,C,D,E,F,G⟩:=h.cells;have m:=r7 (t:=a.t);rw[show (a.t.k==3)=false by simp[r]] at m;have x:=h.lt;have q:¬w.heap.size+1=d:=by omega
 have c:=za (kF S d a _ 2 [1,2] rfl (by decide) (w.alloc (.cells #[xI 1,xI 2] 223)) (iF _ _ _ _ rfl) (by decide) k.ok.tk (h.alloc _));rw[i] at c;simp only[fR] at c;have u:=za k.bd;have v:=za (kI k.bd (by omega:a.t.k≠1));clear k s i;go_enter func242,ntmps242;go_wp2_with (first|(go_at_call 226;refine c.o.mono ?_;rintro e y ⟨rfl,rfl⟩)|(go_at_call 208;refine (kC S d a j _ (h.alloc _)).mono ?_;rintro e y ⟨rfl,rfl⟩)|(go_at_call 186;refine (jV S d a _ u.o.ok (by rw[r];decide) ((h.alloc _).alloc _)).mono ?_;rintro e z ⟨rfl,g,f⟩;rw[v.o] at g));go_ret;have o:xH z (w.heap.size+1) #[xI j,xI a.t.a,.string ⟨#[]⟩,xI 0,xI 0,.slice none 0 0] 226:=by refine (f.block (w.heap.size+1) (by simp) q).trans ?_;have:=zc (w.alloc (.cells #[xI 1,xI 2] 223)) (.cells #[xI j,xI a.t.a,.string ⟨#[]⟩,xI 0,xI 0,.slice none 0 0] 226);simpa using this
 refine⟨some (xD (w.heap.size+1) 0),rfl,g.put _,λ_=>TR.leaf (b:=w.heap.size+1) (ex:=⟨MV,a.t.a,0,[],sE,n⟩) (by omega) ?_ rfl,((((Fr.refl _ w).alloc _).alloc _).trans f)⟩
 show _=some (Obj.cells #[xI (aF MV.toList n:Nat),xI a.t.a,.string ⟨#[]⟩,xI (0:Nat),xI (df MV.toList n:Nat),.slice none 0 0] 226 (0,0));rw[l,Lo];exact o
theorem jK {t:Tk}(a:t.k≠3):(((ck t:Nat):Int)==4)=false:=by rw[r7];simp[a]
theorem kL {a:St}{k:Nat}{l:Xu}(h:a.t.k≠k):a.is k l=false:=by
 unfold St.is;have:(a.t.k==k)=false:=by simp[h]
 rw[this];rfl
theorem rj (f:FuncId)(M:Fn)(m o v:Bool)(S:Xs)(d:Nat)(b:St)(p:Nat)(w:Xw)(n:Inv p b)(E:b.t.k≠3)(t:dC b [1,2]=none)(c:PL S w d b)(q:b.is 4 [40]=m)(r:b.is 5 [105,102]=o)(s:b.is 5 [109,101,114,103,101]=v)
 (D:(m=true/\f=244)∨(m=false/\o=true/\f=245)∨(m=false/\o=false/\v=true/\f=246))
 (h:∀l,PL S l d b->xK f #[xP d] l (ef S d l.heap.size l (M b).1 (M b).2)) :
 xK 242 #[xP d] w (ef S d w.heap.size w (M b).1 (M b).2):=by
 obtain⟨G,H,I,J,K,L,N⟩:=c.cells;have C:=jK E;have F:=c.lt;have g:=za (kF S d b _ 2 [1,2] rfl (by decide) (w.alloc (.cells #[xI 1,xI 2] 223)) (iF _ _ _ _ rfl) (by decide) n.ok.tk (c.alloc _));rw[t] at g;simp only[fR] at g;have i:=za (fH S d b ⟨#[40]⟩ _ j7 (w.alloc (.cells #[xI 1,xI 2] 223)) n.ok.tk (c.alloc _));have j:=za (fH S d b ⟨#[105,102]⟩ _ yT (w.alloc (.cells #[xI 1,xI 2] 223)) n.ok.tk (c.alloc _));have k:=za (fH S d b ⟨#[109,101,114,103,101]⟩ _ yt (w.alloc (.cells #[xI 1,xI 2] 223)) n.ok.tk (c.alloc _));rw[fm c.tx (by decide),q] at i;rw[MH c.tx (by decide),r] at j;rw[MH c.tx (by decide),s] at k;have x:=za (h (w.alloc (.cells #[xI 1,xI 2] 223)) (c.alloc _));generalize M b=R at *;rcases D with ⟨rfl,rfl⟩|⟨rfl,rfl,rfl⟩|⟨rfl,rfl,rfl,rfl⟩
 all_goals
  go_enter func242,ntmps242;go_wp2_with (first|(go_at_call 226;refine g.o.mono ?_;rintro e u ⟨rfl,rfl⟩)|(go_at_call 85;first|(with_reducible refine i.o.mono ?_;rintro e u ⟨rfl,rfl⟩)|(with_reducible refine j.o.mono ?_;rintro e u ⟨rfl,rfl⟩)|(with_reducible refine k.o.mono ?_;rintro e u ⟨rfl,rfl⟩)));refine x.o.mono ?_;rintro e l y;obtain⟨a,rfl,z,A,B⟩:=y.alloc (jg _ _);go_wp2_with fail;go_ret;exact⟨a,rfl,z,A,B⟩
theorem xe (S:Xs)(c:Nat)(a:St)(p:Nat)(w:Xw)(j:Inv p a)(v:a.t.k≠3)(r:dC a [1,2]=none)(b:PL S w c a)(m:a.is 4 [40]=false)(n:a.is 5 [105,102]=false)(o:a.is 5 [109,101,114,103,101]=false) :
 xK 242 #[xP c] w (ef S c w.heap.size w (a.fail 2 a.t.a) 0):=by
 obtain⟨y,z,A,B,C,D,E⟩:=b.cells;have t:=jK v;have x:=b.lt;have u:8<w.heap.size:=dD (by decide) b.gl.size;have s:xC w 8 0 (.iface 324 (.pointer (some (S 2)))):=b.gl.e6;have d:=za (kF S c a _ 2 [1,2] rfl (by decide) (w.alloc (.cells #[xI 1,xI 2] 223)) (iF _ _ _ _ rfl) (by decide) j.ok.tk (b.alloc _));rw[r] at d;simp only[fR] at d;have f:=za (fH S c a ⟨#[40]⟩ _ j7 (w.alloc (.cells #[xI 1,xI 2] 223)) j.ok.tk (b.alloc _));have g:=za (fH S c a ⟨#[105,102]⟩ _ yT (w.alloc (.cells #[xI 1,xI 2] 223)) j.ok.tk (b.alloc _));have h:=za (fH S c a ⟨#[109,101,114,103,101]⟩ _ yt (w.alloc (.cells #[xI 1,xI 2] 223)) j.ok.tk (b.alloc _));rw[fm b.tx (by decide),m] at f;rw[MH b.tx (by decide),n] at g;rw[MH b.tx (by decide),o] at h;go_enter func242,ntmps242;go_wp2_with (first|(go_at_call 208;refine (kC S c (a.fail 2 a.t.a) 0 _ i).mono ?_;rintro e k ⟨rfl,rfl⟩)|(go_at_call 226;refine d.o.mono ?_;rintro e k ⟨rfl,rfl⟩)|(go_at_call 85;first|(with_reducible refine f.o.mono ?_;rintro e k ⟨rfl,rfl⟩)|(with_reducible refine g.o.mono ?_;rintro e k ⟨rfl,rfl⟩)|(with_reducible refine h.o.mono ?_;rintro e k ⟨rfl,rfl⟩))|(go_at_call 87;refine (li S c a 2 (by decide) _ (b.alloc _)).mono ?_;rintro e F ⟨rfl,i,l⟩));go_ret;exact⟨_,rfl,i.alloc _,λq=>absurd q (St.cy a (by decide)),(((Fr.refl _ w).alloc _).trans l).alloc _⟩
theorem r1 {a:St}(d:Tx a.src a.t)(b:a.is 5 [116,114,117,101]=false)(c:a.is 5 [102,97,108,115,101]=false):dC a [1,2]=none:=by rw[si a d,b,c];rfl
theorem Hy {d:Nat}{f g:Fn}(C:zX d 190 f)(B:zv d f)(H:zX d 250 (bF g))(D:zv d g):pz (d+1) (aN f g):=by
 intro S k b p w j y A i;by_cases q:b.er=0
 . have J:∀M:Fn,(M b=aN f g b)->aN f g b=M b:=λ_ h=>h.symm;by_cases m:b.t.k=3
   . exact Ik (aN f g) S k b p w j m (by unfold aN;rw[ae (by simp[q]),ag m]) i
   have c:aN f g b=if b.is 4 [40]=true then iM f b else if b.is 5 [116,114,117,101]=true then fK MV 1 b else if b.is 5 [102,97,108,115,101]=true then fK MV 0 b else if b.is 5 [105,102]=true then fp f b else if b.is 5 [109,101,114,103,101]=true then fs g b else (b.fail 2 b.t.a,0):=(by unfold aN;rw[ae (by simp[q]),ae m,ae y]);cases o:b.is 4 [40] with
   | true => have I:b.t.k=4:=Inv.bP o;rw[ag o] at c;refine rj 244 (aN f g) _ _ _ S k b p w j m (r1 i.tx (kL (by omega)) (kL (by omega))) i o rfl rfl (ao ⟨rfl,rfl⟩) ?_;intro t l;rw[c];exact I1 C B S k b p t j (by omega) A l
   | false =>
     rw[o,ae (by simp)] at c;cases s:b.is 5 [116,114,117,101] with
     | true => rw[s,ag rfl] at c;exact xV (aN f g) 1 1 S k b p w j (Inv.bP s) (by rw[si b i.tx,s];rfl) Lr c i
     | false =>
       rw[s,ae (by simp)] at c;cases u:b.is 5 [102,97,108,115,101] with
       | true => rw[u,ag rfl] at c;exact xV (aN f g) 0 2 S k b p w j (Inv.bP u) (by rw[si b i.tx,s,u];rfl) KD c i
       | false =>
         rw[u,ae (by simp)] at c;have n:=r1 i.tx s u;cases r:b.is 5 [105,102] with
         | true => have z:b.t.k=5:=Inv.bP r;rw[r,ag rfl] at c;refine rj 245 (aN f g) _ _ _ S k b p w j m n i o r rfl (ap (ao ⟨rfl,rfl,rfl⟩)) ?_;intro t l;rw[c];exact H4 C B S k b p t j (by omega) A l
         | false =>
           rw[r,ae (by simp)] at c;cases v:b.is 5 [109,101,114,103,101] with
           | true => have z:b.t.k=5:=Inv.bP v;rw[v,ag rfl] at c;refine rj 246 (aN f g) _ _ _ S k b p w j m n i o r v (ap (ap ⟨rfl,rfl,rfl,rfl⟩)) ?_;intro t l;rw[c];exact I4 H D S k b p t j (by omega) A l
           | false => rw[v,ae (by simp)] at c;rw[c];exact xe S k b p w j m n i o r v
 have x:=j.bad q;have G:aN f g b=(b,0):=by unfold aN;rw[ag q]
 rw[G];refine (xe S k b p w j (by omega) (r1 i.tx (kL (by omega)) (kL (by omega))) i (kL (by omega)) (kL (by omega)) (kL (by omega))).mono ?_;rintro e t ⟨a,l,E,_,F⟩;exact⟨a,l,E.BM q x,λh=>absurd h q,F⟩
theorem JH:∀d,zX d 190 (fx d).ex/\zX d 238 (fx d).un/\pz d (fx d).at'/\ig d (if d=0 then (fx 0).ex else (fx (d-1)).ex):=by
 intro d;induction d with
 | zero =>
   have h:∀(f:FuncId) (M:Fn),zX 0 f M:=λf M S q b p w a n _=>by have:=a.N7;omega
   exact⟨h _ _,h _ _,λS q b p w a _ n _=>by have:=a.N7;omega,λS q b p w t a n _ _=>by have:=a.N7;omega⟩
 | succ d B => obtain⟨c,g,i⟩:=pm d;obtain⟨e,x,y,_⟩:=B;have l:=JU e c;have m:=Hy e c (Ju y) i;have j:=rT c i;have z:=Jx m l;have v:=rG j;have A:=HD z j;have k:=r4 g v;have o:=IH x g A;have F:=H6 o k;have u:=ib (lv:=3) k;have E:=J5 F u;have s:=ib (lv:=2) u;have H:=Jw E s;have b:=rS s;have D:=JC H b;have r:=ib (lv:=1) b;have C:=Iu D r;have G:=ib (lv:=0) r;exact⟨J3 e c C G,o,m,l⟩
end
section
variable {f:St}
def el (f:St)(n:Nat):St:=z9 ((f.bG n).name.ac 4 [58])
theorem xj (S:Xs)(a:Nat)(f:St)(w:Xw)(d:Nat)(x:Xp)(n c:Nat)(p:bU f)(s:n<=100)(h:d<w.heap.size)(r:xC w d 2 (.slice x n c))(q:PL S w a f) :
 xK 187 #[xP a,xP d] w λe j=>∃(g:Xb) (b i:Nat),e=.returned (.agg #[.string g,xI b,xI i,xI 0,xI 0,.string ⟨#[]⟩,xI 0])/\aa (((f.bG n).t.k=2->g=(f.bG n).t.s/\b=(f.bG n).t.a)/\i=if ((f.bG n).name.ac 4 [58]).is 5 cD=true then 1 else 0)/\PL S j a (el f n)/\Fr (·=a) w j:=by
 refine (HR S a f w d x n c p s h r q).mono ?_;rintro e t ⟨g,b,k,l,m,o⟩;exact⟨g,b,_,k,⟨l,rfl⟩,m,o⟩
theorem bU.type (h:bU f):bU (z9 f):=by
 unfold z9;split
 . exact h.ad
 exact h.ac _ _
theorem bU.hb (h:bU f):bU (aS f):=by
 unfold aS;split
 . exact h.ad
 exact h
theorem bU.bG (h:bU f)(n:Nat):bU (f.bG n):=by
 unfold St.bG;split
 . exact h.fail (by omega)
 exact h
theorem bU.Aq (h:bU f)(n:Nat):bU (el f n):=((h.bG n).name.ac _ _).type
def ix (s:St):St:=if s.is 5 cF=true then (aS s.ad).name else s
def pG (s:St)(d c:Nat)(b:Xb)(a:Nat):Prop :=
 (s.is 5 cF=true->d=(if s.ad.is 5 eL=true then 2 else 1)/\c=s.t.a/\((aS s.ad).t.k=2->b=(aS s.ad).t.s/\a=(aS s.ad).t.a))/\(s.is 5 cF=false->d=0/\c=0/\b=⟨#[]⟩/\a=0)
theorem Tryz.tc:(prog.info? 134).map (λi=>(i.zero,i.size,i.bytes))=some (some (.agg #[.string ⟨#[]⟩,xI 0,xI 0,xI 0,xI 0,.string ⟨#[]⟩,xI 0]),7,72):=by kernel_rfl
theorem sq {s t:Xb}{a b c d e:Int}:∀u∈[Value.string s,xI a,xI b,xI c,xI d,.string t,xI e],u.oneCell'=true:=by intro u g;simp at g;rcases g with rfl|rfl|rfl|rfl|rfl|rfl|rfl <;> rfl
def yq (S:Xs)(j d B:Nat)(f:St)(w:Xw)(q r s t u p:Xv)(n:Nat)(v:Xm)(e:Ending)(a:Xw):Prop :=
 ∃(g i:Xb) (c o m l h:Nat) (b:Xv),e=.returned (.tuple #[])/\PL S a j ((ix (el f n)).ac 4 [59])/\a.heap[d]?=some (.cells #[q,r,b,s,t,u] 121 (0,0)) /\
    a.ownsRow B 134 7 b (n+1) (v++[.string g,xI c,xI o,xI m,xI l,.string i,xI h])/\aa (((f.bG n).t.k=2->g=(f.bG n).t.s/\c=(f.bG n).t.a)/\o=if ((f.bG n).name.ac 4 [58]).is 5 cD=true then 1 else 0)/\aa (pG (el f n) m l i h) /\
    Fr (λk=>k=j∨k=d∨p.ownBlock=some k) w a/\aa (∀k,b.ownBlock=some k->p.ownBlock=some k∨w.heap.size<=k)
theorem ys {S:Xs}{c b B:Nat}{w a e:Xw}{s t u v x d g:Xv}{n:Nat}{z:Xm}{l o:Xb}{j r q p m:Nat}{X:Obj}
 (C:aa (((f.bG n).t.k=2->l=(f.bG n).t.s/\j=(f.bG n).t.a)/\r=if ((f.bG n).name.ac 4 [58]).is 5 cD=true then 1 else 0)) (D:pG (el f n) q p o m) (E:PL S e c ((ix (el f n)).ac 4 [59])) (i:c<b) (F:xH e b #[s,t,d,u,v,x] 121)
 (G:e.ownsRow B 134 7 g (n+1) (z++[.string l,xI j,xI r,xI q,xI p,.string o,xI m])) (H:∀k,g.ownBlock=some k->d.ownBlock=some k∨(a.alloc X).drew.heap.size<=k) (J:b<B) (_hBw:B<=w.heap.size) (y:Fr (·=c) w a) (I:Fr (λk=>d.ownBlock=some k) (a.alloc X) e) :
 yq S c b B f w s t u v x d n z (.returned (.tuple #[])) (e.setCell (xD b 2) g):=by
 have L:=y.size;refine⟨l,o,j,r,q,p,m,g,rfl,E.aU i _ _,zh _ _ _ _ F,zi G (λk h _ _=>zr (by omega) rfl),C,D,?_,?_⟩
 . have A:Fr (λk=>k=c∨k=b∨d.ownBlock=some k) w (a.alloc X):=(y.mono (λ_ _ h=>ao h)).alloc X;exact (A.dr I (λ_ _ h=>ap (ap h))).setCell (ao (ap (ao rfl))) _
 intro k K;rcases H k K with h|h
 . exact ao h
 right;have:(a.alloc X).drew.heap.size=a.heap.size+1:=by show (a.alloc X).heap.size=_;simp
 omega
theorem ID (S:Xs)(M t B:Nat)(f:St)(w:Xw)(c1 c2 c3 c4 c5 bq:Xv)(n:Nat)(xs:Xm)(hB:bU f)(dq:n<=50)(hR:PL S w M f)(H:xH w t #[c1,c2,bq,c3,c4,c5] 121)(J:w.ownsRow B 134 7 bq n xs)(ct:M<t)(T:t<B)(da:B<=w.heap.size) :
 xK 154 #[xP M,xP t] w (yq S M t B f w c1 c2 c3 c4 c5 bq n xs):=by
 obtain⟨x,cO,bk⟩:∃x cO,bq=.slice x n cO:=by
  rcases J.2 with ⟨h1,h2⟩|⟨g,cK,c9,h1,_⟩
  . exact⟨none,0,by rw[h1,h2]⟩
  exact⟨_,cK,h1⟩
 obtain⟨q0,cz,q2,q3,q4,q5,qf,c0⟩:=zt H;have dc:=hR.lt;have dp:=za hR;have dl:=za hB;rw[bk] at q2;have bs:=za (xj S M f w t x n cO hB (by omega) c0 q2 hR);have Y:=za J;have X:=za H;have A:=za (hB.Aq n);have c6:=za bk;obtain⟨m,a6⟩:∃m,el f n=m:=⟨_,rfl⟩;rw[a6] at bs A;have R:=za a6;obtain⟨i0,hi,ch,ck,cl⟩:=info_parts Tryz.tc;have mx:n+1<=maxLen:=by unfold maxLen;omega
 have ca:(n+1)*72<=140737488355328:=by omega
 clear hR hB J H a6 q0 cz q2 q3 q4 q5 qf bk;cases a4:m.is 5 cF with
 | false =>
   have ce:ix m=m:=(by unfold ix;rw[ae (by rw[a4];simp)]);have aA:=za ce;have bA:=za a4;clear a4 ce;go_enter func154,ntmps154;go_wp2_with fail;refine bs.o.mono ?_;rintro e a ⟨ns,bo,ty,rfl,aV,l,p⟩;have L:=p.size;have r:=l.lt;have I:=(p.block t c0 (by omega)).trans X.o;have a2:=za I;have ab:=za (fH S M m ⟨#[111,110]⟩ _ Zn (a.alloc (.cells #[.string ns,xI bo,xI ty,xI 0,xI 0,.string ⟨#[]⟩,xI 0] 134)) A.o.ok.tk (l.alloc _));rw[MH l.tx (by decide),bA.o] at ab;have ar:=za (zP S M m ⟨#[59]⟩ _ pH (a.alloc (.cells #[.string ns,xI bo,xI ty,xI 0,xI 0,.string ⟨#[]⟩,xI 0] 134)) A.o (l.alloc _));rw[fo l.tx (by decide)] at ar;have O:=za p;clear l p I;go_wp2_with (first|(go_at_call 85;refine ab.o.mono ?_;rintro e w' ⟨rfl,rfl⟩)|(go_at_call 150;refine ar.o.mono ?_;rintro e W ⟨rfl,F,j⟩;have cv:=j.size;have bb:=(j.block a.heap.size (by rw[au];omega) (by omega)).trans (zc a _);have a5:=(j.block t (by rw[au];omega) (by omega)).trans ((Below.heap_alloc _ _ _ (by omega)).trans a2.o);obtain⟨bE,bK,bL,bY,b0,b1,b2,b3,b4⟩:=eK bb;obtain⟨q0,cz,q2,q3,q4,q5,qf,bp⟩:=zt a5;have Q:=za a5;have a3:=za bb;have a0:=za F;have P:=za j;clear F j bb a5));have c:=za (zi Y.o (λk h1 h2 _=>(P.o.block k (by rw[au];omega) (by omega)).trans ((Below.heap_alloc _ _ _ (by omega)).trans (O.o.block k h2 (by omega)))));have cd:B<=W.heap.size:=(by rw[au] at cv;omega);clear ab ar bs bE bK bL bY b0 b1 b2 b3 b4;obtain⟨bE,bK,bL,bY,b0,b1,b2,b3,b4⟩:=eK a3.o
   go_region_law (
    refine zJ _ rfl (.tmp 19) (.tmp 21) 118 rfl B 134 i0 _ 7 72 underlying118 hi ch ck cl rfl (by decide) bq n xs rfl (zD (c.o) _) (xD W.heap.size 0) 1 1 [.string ns,xI bo,xI ty,xI 0,xI 0,.string ⟨#[]⟩,xI 0] rfl rfl (zN (zc W _) rfl) sq mx ca (by simp;omega) ?_;intro v' w9 d o s;obtain⟨g9,cb,rfl,cR⟩:=zM d (by omega);have q:=(Fr.gi o).cQ;have G:∀k,k<B->w9.heap[k]?=W.heap[k]?:=(λk cm=>(q.block k (by simp;omega) (λh=>by have:=(c.o.lt k h).1;omega)).trans (Below.heap_alloc _ _ _ (by omega)));have C:=za ((G t T).trans Q.o);obtain⟨q0,cz,q2,q3,q4,q5,qf,bp⟩:=zt C.o;have a1:=za (PL.fr (a0.o.alloc _) q (λk cm=>by have:=(c.o.lt k cm).1;omega));have aL:=za q;have y:=za d;have u:=za s;clear d o s q G)
   all_goals go_wp2_with fail
   all_goals go_end0
   all_goals exact ys aV (by rw[R.o];exact⟨λh=>(by rw[bA.o] at h;cases h),λ_=>⟨rfl,rfl,rfl,rfl⟩⟩) (by rw[R.o,aA.o];exact a1.o) ct C.o y.o u.o T (by omega) (O.o.trans ((Fr.refl _ a).alloc _ |>.trans P.o)) aL.o
 | true =>
   have ce:ix m=(aS m.ad).name:=(by unfold ix;rw[ag a4]);have aA:=za ce;have bA:=za a4;have co:m.t.k=5:=Inv.bP a4;have bx:=za (λa h=>KE S M m a A.o co h);have cA:=za A.o.ad.hb.name;clear a4 ce co;go_enter func154,ntmps154;go_wp2_with fail;refine bs.o.mono ?_;rintro e a ⟨ns,bo,ty,rfl,aV,l,p⟩;have L:=p.size;have r:=l.lt;have I:=(p.block t c0 (by omega)).trans X.o;have a2:=za I;have ab:=za (fH S M m ⟨#[111,110]⟩ _ Zn (a.alloc (.cells #[.string ns,xI bo,xI ty,xI 0,xI 0,.string ⟨#[]⟩,xI 0] 134)) A.o.ok.tk (l.alloc _));rw[MH l.tx (by decide),bA.o] at ab;have O:=za p;have cE:=za l;clear l p I;go_wp2_with (go_at_call 85;refine ab.o.mono ?_;rintro e w' ⟨rfl,rfl⟩);refine (bx.o _ (cE.o.alloc _)).mono ?_;rintro e w4 ⟨os,oa,rfl,cn,cg,D⟩;obtain⟨N,a9⟩:∃N:Nat,(if m.ad.is 5 eL=true then 2 else 1)=N:=⟨_,rfl⟩;have Z:(if m.ad.is 5 eL=true then (2:Int) else 1)=(N:Nat):=(by rw[<- a9];split <;> rfl);rw[Z];have di:=D.size;have be:=(D.block a.heap.size (by rw[au];omega) (by omega)).trans (zc a _);have cs:=(D.block t (by rw[au];omega) (by omega)).trans ((Below.heap_alloc _ _ _ (by omega)).trans a2.o);have cB:aa (pG m N m.t.a os oa):=⟨λ_=>⟨a9.symm,rfl,cn⟩,λh=>(by rw[bA.o] at h;cases h)⟩;obtain⟨bE,bK,bL,bY,b0,b1,b2,b3,b4⟩:=eK be;have bB:=za cs;have bC:=za be;have bv:=za cg;have bt:=za D;clear cg D be cs a9 Z cn;go_wp2_with fail;have U:=(((bv.o.aU (b:=a.heap.size) r 3 (xI N)).aU (b:=a.heap.size) r 4 (xI m.t.a)).aU (b:=a.heap.size) r 5 (.string os)).aU (b:=a.heap.size) r 6 (xI oa);have bg:=zh _ a.heap.size 6 (xI oa) (zh _ a.heap.size 5 (.string os) (zh _ a.heap.size 4 (xI m.t.a) (zh w4 a.heap.size 3 (xI N) bC.o)));have V:=zr (b:=a.heap.size) (i:=6) (v:=(xI oa)) (by omega:¬t=a.heap.size) (zr (b:=a.heap.size) (i:=5) (v:=.string os) (by omega:¬t=a.heap.size) (zr (b:=a.heap.size) (i:=4) (v:=(xI m.t.a)) (by omega:¬t=a.heap.size) (zr (b:=a.heap.size) (i:=3) (v:=(xI N)) (by omega:¬t=a.heap.size) bB.o)));have E:Fr (·=M) w ((((w4.setCell (xD a.heap.size 3) (xI N)).setCell (xD a.heap.size 4) (xI m.t.a)).setCell (xD a.heap.size 5) (.string os)).setCell (xD a.heap.size 6) (xI oa)):=(((((O.o.alloc _).trans bt.o).aO L _ _).aO L _ _).aO L _ _).aO L _ _;obtain⟨w5,bl⟩:∃w5,((((w4.setCell (xD a.heap.size 3) (xI N)).setCell (xD a.heap.size 4) (xI m.t.a)).setCell (xD a.heap.size 5) (.string os)).setCell (xD a.heap.size 6) (xI oa))=w5:=⟨_,rfl⟩;rw[bl] at U bg V E;have ar:=za (zP S M (aS m.ad).name ⟨#[59]⟩ _ pH w5 cA.o U);rw[fo U.tx (by decide)] at ar;refine Eq.mpr (congrArg (λz=>xK 150 _ z _) bl) ?_;refine ar.o.mono ?_;rintro e W ⟨rfl,F,j⟩;have cv:=j.size;have dk:=E.size;have K:xH w5 a.heap.size #[.string ns,xI bo,xI ty,xI N,xI m.t.a,.string os,xI oa] 134:=bg;have a3:=za ((j.block a.heap.size (ze K) (by omega)).trans K);have Q:=za ((j.block t (ze V) (by omega)).trans V);have a0:=za F;have P:=za (E.trans j);have c:=za (zi Y.o (λk h1 h2 _=>(E.trans j).block k h2 (by omega)));have cd:B<=W.heap.size:=(by omega);clear F j U bg V E bl K bE bK bL bY b0 b1 b2 b3 b4 bv bt bC bB;go_wp2_with fail;clear ab ar bs bx;obtain⟨bE,bK,bL,bY,b0,b1,b2,b3,b4⟩:=eK a3.o;obtain⟨q0,cz,q2,q3,q4,q5,qf,bp⟩:=zt Q.o
   go_region_law (
    refine zJ _ rfl (.tmp 19) (.tmp 21) 118 rfl B 134 i0 _ 7 72 underlying118 hi ch ck cl rfl (by decide) bq n xs rfl (zD (c.o) _) (xD W.heap.size 0) 1 1 [.string ns,xI bo,xI ty,xI N,xI m.t.a,.string os,xI oa] rfl rfl (zN (zc W _) rfl) sq mx ca (by simp;omega) ?_;intro v' w9 d o s;obtain⟨g9,cb,rfl,cR⟩:=zM d (by omega);have q:=(Fr.gi o).cQ;have G:∀k,k<B->w9.heap[k]?=W.heap[k]?:=(λk cm=>(q.block k (by simp;omega) (λh=>by have:=(c.o.lt k h).1;omega)).trans (Below.heap_alloc _ _ _ (by omega)));have C:=za ((G t T).trans Q.o);obtain⟨q0,cz,q2,q3,q4,q5,qf,bp⟩:=zt C.o;have a1:=za (PL.fr (a0.o.alloc _) q (λk cm=>by have:=(c.o.lt k cm).1;omega));have aL:=za q;have y:=za d;have u:=za s;clear d o s q G)
   all_goals go_wp2_with fail
   all_goals go_end0
   all_goals exact ys aV (by rw[R.o];exact cB.o) (by rw[R.o,aA.o];exact a1.o) ct C.o y.o u.o T (by omega) P.o aL.o
end
section
variable {c:Xb} {l:Xu} {b:List Vr} {k n d f:Nat} {st:St}
theorem pg (g:st.er≠0)(e a:Nat):st.fail e a=st.bad:=by unfold St.fail St.bad;rw[ae g]
theorem pw (a:st.t.k=1)(h:k≠1):st.is k l=false:=kL (by omega)
theorem rQ (a:st.er≠0)(e:st.t.k=1):st.name=st.bad:=by unfold St.name;rw[ae (by omega),pg a]
theorem pi (a:st.er≠0)(e:st.t.k=1)(h:k≠1):st.ac k l=st.bad:=by unfold St.ac;rw[pw e h];exact pg a _ _
theorem rP (e:st.er≠0)(a:st.t.k=1):z9 st=st.bad:=by unfold z9;rw[pw a (by decide)];exact pi e a (by decide)
theorem Ja (a:st.er≠0)(n:Nat):st.bG n=st.bad∨st.bG n=st:=by
 unfold St.bG;split
 . exact ao (pg a _ _)
 exact ap rfl
theorem xX (g:st.er≠0)(i:st.t.k=1)(n:Nat):el st n=st.bad:=by
 unfold el;have e:st.bad.er≠0:=g;have a:st.bad.t.k=1:=rfl;rcases Ja g n with h|h
 . rw[h,rQ e a,pi (st:=st.bad.bad) e a (by decide),rP (st:=st.bad.bad.bad) e a];rfl
 rw[h,rQ g i,pi (st:=st.bad) e a (by decide),rP (st:=st.bad.bad) e a];rfl
theorem yi (e:st.er≠0)(j:st.t.k=1)(i o:Bool)(b:List Vr):(zx i o st b).1=st.bad:=by
 unfold zx;split
 . exact pg e _ _
 have g:st.bad.er≠0:=e;have a:st.bad.t.k=1:=rfl;have h:z9 (st.name.ac 4 [58])=st.bad:=by rw[rQ e j,pi (st:=st.bad) g a (by decide),rP (st:=st.bad.bad) g a];rfl
 simp only[h];rw[pw a (by decide)];rfl
theorem xz (n:Nat)(h:n=16):el st n=st.fail 2 st.t.a:=by unfold el St.bG;rw[ag h,St.sP _ (by decide),St.p9 _ (by decide) (by decide)];unfold z9;rw[St.mR _ (by decide)];exact St.p9 _ (by decide) (by decide)
theorem Hq (i:Bool)(g:bU st)(j:st.er=0->n=b.length/\b.length<=16):el st n=(zx i (!i) st b).1:=by
 by_cases e:st.er=0
 . obtain⟨m,o⟩:=j e;by_cases a:n=16
   . rw[xz n a];unfold zx;rw[ag (by omega)]
   unfold zx;rw[ae (by omega)];have h:((z9 (st.name.ac 4 [58])).is 5 cF&&!i&&!!i)=false:=(by cases i <;> simp);simp only[h];unfold el St.bG;rw[ae a];rfl
 rw[xX e (g.bad e),yi e (g.bad e)]
theorem HW (h:bU st)(m:st.er=0->n=b.length/\b.length<=16):ix (el st n)=(zx false false st b).1:=by
 by_cases e:st.er=0
 . obtain⟨g,o⟩:=m e;by_cases a:n=16
   . rw[xz n a];have g:ix (st.fail 2 st.t.a)=st.fail 2 st.t.a:=(by unfold ix;rw[St.mR _ (by decide)];rfl);rw[g];unfold zx;rw[ag (by omega)]
   unfold zx;rw[ae (by omega)];have j:el st n=z9 (st.name.ac 4 [58]):=(by unfold el St.bG;rw[ae a]);rw[j];unfold ix;cases i:(z9 (st.name.ac 4 [58])).is 5 cF with
   | true=>simp only[i,Bool.not_false,Bool.and_self,if_true]
   | false=>simp only[i,Bool.not_false,Bool.false_and];rfl
 rw[xX e (h.bad e),yi e (h.bad e)];unfold ix;rw[pw rfl (by decide)];rfl
def ba (v:Vr):Nat:=if v.tm=true then (if v.nt=true then 2 else 1) else 0
def jd (v:Vr):List Value:=[.string v.nm,xI v.a,xI (if v.bl=true then 1 else 0:Nat),xI (ba v:Nat),xI v.on,.string v.ck,xI v.ca]
def eT (l:List Vr):List Value:=l.flatMap jd
theorem ru (l:List Vr)(v:Vr):eT (l++[v])=eT l++jd v:=by simp[eT]
theorem lm (h:st.name.er=0):st.t.k=2:=by
 by_cases a:st.t.k=2
 . exact a
 exfalso;unfold St.name at h;rw[ae a] at h;exact St.cy _ (by decide) h
theorem eJ (h:(st.ac k l).er=0):st.er=0:=by
 unfold St.ac at h;split at h
 . rwa [St.ja] at h
 exact absurd h (St.cy _ (by decide))
theorem mq (h:(z9 st).er=0):st.er=0:=by
 unfold z9 at h;split at h
 . rwa [St.ja] at h
 exact eJ h
theorem mo (h:st.name.er=0):st.er=0:=by have:=lm h;unfold St.name at h;rw[ag this,St.ja] at h;exact h
theorem Ki (i:Bool)(r:st.er=0->n=b.length/\b.length<=16)(j:(st.bG n).t.k=2->c=(st.bG n).t.s/\d=(st.bG n).t.a)(g:f=if ((st.bG n).name.ac 4 [58]).is 5 cD=true then 1 else 0)
 (a:(zx i (!i) st b).1.er=0):st.er=0/\(zx i (!i) st b).2.length=n+1/\n+1<=16/\eT (zx i (!i) st b).2=eT b++[.string c,xI d,xI f,xI (0:Nat),xI (0:Nat),.string ⟨#[]⟩,xI (0:Nat)]:=by
 by_cases e:16<=b.length
 . unfold zx at a;rw[ag e] at a;exact absurd a (St.cy _ (by decide))
 have p:((z9 (st.name.ac 4 [58])).is 5 cF&&!i&&!!i)=false:=by cases i <;> simp
 have o:zx i (!i) st b=(z9 (st.name.ac 4 [58]),b++[⟨st.t.s,st.t.a,(st.name.ac 4 [58]).is 5 cD,i,!i,0,sE,0,false,false⟩]):=by unfold zx;rw[ae e];simp only[p];rfl
 rw[o] at a ⊢;have h:st.er=0:=mo (eJ (mq a));obtain⟨m,u⟩:=r h;have q:st.bG n=st:=by unfold St.bG;rw[ae (by omega)]
 rw[q] at j g;obtain⟨s,t⟩:=j (lm (eJ (mq a)));refine⟨h,by simp[m],by omega,?_⟩;simp only[ru];unfold jd ba;subst s t g;rfl
theorem Hf (A:st.er=0->n=b.length/\b.length<=16){C:Xb}{E D B:Nat}(r:(st.bG n).t.k=2->c=(st.bG n).t.s/\d=(st.bG n).t.a)(h:f=if ((st.bG n).name.ac 4 [58]).is 5 cD=true then 1 else 0)(g:pG (el st n) E D C B)
 (e:(zx false false st b).1.er=0):st.er=0/\(zx false false st b).2.length=n+1/\n+1<=16/\eT (zx false false st b).2=eT b++[.string c,xI d,xI f,xI E,xI D,.string C,xI B]:=by
 by_cases j:16<=b.length
 . unfold zx at e;rw[ag j] at e;exact absurd e (St.cy _ (by decide))
 cases q:(z9 (st.name.ac 4 [58])).is 5 cF with
 | false => have t:zx false false st b=(z9 (st.name.ac 4 [58]),b++[⟨st.t.s,st.t.a,(st.name.ac 4 [58]).is 5 cD,false,false,0,sE,0,false,false⟩]):=(by unfold zx;rw[ae j];simp only[q,Bool.false_and];rfl);rw[t] at e ⊢;have o:st.er=0:=mo (eJ (mq e));obtain⟨s,F⟩:=A o;have p:st.bG n=st:=(by unfold St.bG;rw[ae (by omega)]);have m:el st n=z9 (st.name.ac 4 [58]):=(by unfold el;rw[p]);rw[p] at r h;rw[m] at g;obtain⟨u,v⟩:=r (lm (eJ (mq e)));obtain⟨w,x,y,z⟩:=g.2 q;refine⟨o,by simp[s],by omega,?_⟩;simp only[ru];unfold jd ba;subst u v h w x y z;rfl
 | true =>
   have t:zx false false st b=((aS (z9 (st.name.ac 4 [58])).ad).name,b++[⟨st.t.s,st.t.a,(st.name.ac 4 [58]).is 5 cD,false,false,(z9 (st.name.ac 4 [58])).t.a,(aS (z9 (st.name.ac 4 [58])).ad).t.s,(aS (z9 (st.name.ac 4 [58])).ad).t.a,(z9 (st.name.ac 4 [58])).ad.is 5 eL,true⟩]):=(by unfold zx;rw[ae j];simp only[q,Bool.not_false,Bool.and_self,if_true]);rw[t] at e ⊢;have a:(aS (z9 (st.name.ac 4 [58])).ad).er=0:=mo e;have i:(z9 (st.name.ac 4 [58])).er=0:=by
    unfold aS at a;split at a
    . rw[St.ja,St.ja] at a;exact a
    rw[St.ja] at a;exact a
   have o:st.er=0:=mo (eJ (mq i));obtain⟨s,F⟩:=A o;have p:st.bG n=st:=(by unfold St.bG;rw[ae (by omega)]);have m:el st n=z9 (st.name.ac 4 [58]):=(by unfold el;rw[p]);rw[p] at r h;rw[m] at g;obtain⟨u,v⟩:=r (lm (eJ (mq i)));obtain⟨w,x,y⟩:=g.1 q;obtain⟨z,G⟩:=y (lm e);refine⟨o,by simp[s],by omega,?_⟩;simp only[ru];unfold jd ba;subst u v h w x z G;rfl
end
section
structure VI (S:Xs) (pb nb B p:Nat) (w wr:Xw) (c0 c1 c3 c4 c5:Xv) (s:St) (ak:List Vr) (vs:Xv) (n:Nat) (xs:Xm):Prop where
 af:Inv p s
 pl:PL S wr pb s
 aC:xH wr nb #[c0,c1,vs,c3,c4,c5] 121
 own:wr.ownsRow B 134 7 vs n xs
 ok:s.er=0->n=ak.length/\ak.length<=16/\xs=eT ak
 fr:Fr (λk=>k=pb∨k=nb∨B<=k) w wr
theorem VI.dec {S:Xs}{j i B p:Nat}{w wr:Xw}{c d e f g:Xv}{s:St}{a:List Vr}{k:Xv}{n:Nat}{l:Xm}(h:VI S j i B p w wr c d e f g s a k n l):s.er=0->n=a.length/\a.length<=16:=λb=>⟨(h.ok b).1,(h.ok b).2.1⟩
theorem Hk (S:Xs)(c b B p:Nat)(w wr:Xw)(d f g j k:Xv)(s:St)(a:List Vr)(v:Xv)(n:Nat)(r:Xm)(I:n<=50)(o:c<b)(l:b<B)(F:B<=w.heap.size)(h:VI S c b B p w wr d f g j k s a v n r) :
 xK 154 #[xP c,xP b] wr λe x=>e=.returned (.tuple #[])/\∃q t,VI S c b B p w x d f g j k (MN s a).1 (MN s a).2 q (n+1) t:=by
 have J:=h.fr.size;refine (ID S c b B s wr d f g j k v n r h.af.bd I h.pl h.aC h.own o l (by omega)).mono ?_;rintro e x ⟨T,V,R,ty,Z,W,U,N,rfl,u,y,z,⟨A,C⟩,D,E,_⟩;have H:=mn (ak:=a) h.af;rw[HW h.af.bd h.dec] at u;refine⟨rfl,N,_,H.1.af,u,y,z,?_,?_⟩
 . intro G;have m:(zx false false s a).1.er=0:=eJ G;obtain⟨L,X,Y,M⟩:=Hf h.dec A C D.out m;obtain⟨P,Q,K⟩:=h.ok L;refine⟨?_,?_,?_⟩
   . show n+1=(zx false false s a).2.length;omega
   . show (zx false false s a).2.length<=16;omega
   show r++_=eT (zx false false s a).2;rw[M,K]
 exact h.fr.dr E (λi O hs=>by
  rcases hs with hs|hs|hs
  . exact ao hs
  . exact ap (ao hs)
  exact ap (ap (h.own.lt i hs).1))
end
section
variable {v:Xm} {d:List Vr} {B n a p c:Nat} {S:Xs} {s:St} {j q r t u f:Xv} {w wr:Xw}
theorem HL:zH 187:=λ_ _=>by kernel_rfl
theorem Kr {C e:Xw}{A:Xv}{X:Obj}{y:Xb}{x z:Nat}(i:Bool)
 (h:VI S c a B p w wr j q r t u s d f n v) (m:c<a) (H:a<B) (_hBw:B<=w.heap.size) (l:aa (((s.bG n).t.k=2->y=(s.bG n).t.s/\x=(s.bG n).t.a)/\z=if ((s.bG n).name.ac 4 [58]).is 5 cD=true then 1 else 0))
 (g:Fr (·=c) wr C) (b:PL S e c (el s n)) (E:xH e a #[j,q,f,r,t,u] 121) (F:e.ownsRow B 134 7 A (n+1) (v++[.string y,xI x,xI z,xI 0,xI 0,.string ⟨#[]⟩,xI 0]))
 (G:Fr (λk=>f.ownBlock=some k) (C.alloc X) e):VI S c a B p w (e.setCell (xD a 2) A) j q r t u (zx i (!i) s d).1 (zx i (!i) s d).2 A (n+1) (v++[.string y,xI x,xI z,xI 0,xI 0,.string ⟨#[]⟩,xI 0]):=by
 rw[Hq i h.af.bd h.dec] at b;have J:=jX (i:=i) (o:=!i) (ak:=d) h.af;refine⟨J.1.af,b.aU m _ _,zh _ _ _ _ E,zi F (λk l _ _=>zr (by omega) rfl),?_,?_⟩
 . intro I;obtain⟨M,Q,R,N⟩:=Ki i h.dec l.out.1 l.out.2 I;obtain⟨O,P,L⟩:=h.ok M;exact⟨by omega,by omega,by rw[N,L];rfl⟩
 have D:Fr (λk=>k=c∨k=a∨B<=k) w (C.alloc X):=(h.fr.dr g (λ_ _ h=>ao h)).alloc X;exact (D.dr G (λk _ K=>ap (ap (h.own.lt k K).1))).setCell (ao (ap (ao rfl))) _
theorem xT {e:Xy}(h:w.ownsRow B e 7 f n v):∃x k,f=.slice x n k:=by
 rcases h.2 with ⟨i,m⟩|⟨g,b,l,i,_⟩
 . exact⟨none,0,by rw[i,m]⟩
 exact⟨_,b,i⟩
theorem VI.goes {e:Xw}{b:St}(h:VI S c a B p w wr j q r t u s d f n v)(y:c<a)(l:a<B)(m:Inv p b)(x:b.er=0->s.er=0)(o:PL S e c b)(hF:Fr (·=c) wr e):VI S c a B p w e j q r t u b d f n v :=
 ⟨m,o,(hF.block a (ze h.aC) (by omega)).trans h.aC,zi h.own (λk z i _=>hF.block k i (by omega)),λg=>h.ok (x g),h.fr.dr hF (λ_ _ h=>ao h)⟩
theorem xG (S:Xs)(c a B p m:Nat)(i:Bool)(w wr:Xw)(j q r t u:Xv)(U:St)(d:List Vr)(f:Xv)(n:Nat)(v:Xm)(c2:n<=m)(hm:m<=40)(cR:16<=m)(P:c<a)(L:a<B)(ca:B<=w.heap.size)(H:VI S c a B p w wr j q r t u U d f n v) :
 xK 152 #[xP c,xP a] wr λe w'=>∃(a1:Xv) (n':Nat) (a2:Xm),e=.returned (xI ((n':Int)-(n:Int)))/\n'<=m+1/\VI S c a B p w w' j q r t u (bW i U d).1 (bW i U d).2 a1 n' a2:=by
 obtain⟨x,ct,cm⟩:∃x ct,f=.slice x n ct:=by
  rcases H.own.2 with ⟨h1,h2⟩|⟨g,b4,cB,h1,_⟩
  . exact⟨none,0,by rw[h1,h2]⟩
  exact⟨_,b4,h1⟩
 have N:=H.aC;rw[cm] at N;obtain⟨q0,bs,q2,q3,q4,q5,qf,dq⟩:=zt N;have bx:=za H.af.bd;have cO:=H.pl.lt;clear N;go_enter func152,ntmps152;go_wp2_with fail;refine (zP S c U _ _ j7 _ bx.o H.pl).mono ?_;rintro e X ⟨rfl,V,G⟩;rw[fo H.pl.tx (by decide)] at V;have f1:=ai.ac H.af 4 [40];have b0:=H.goes P L f1.af (λC=>eJ C) V G;have M:bW i U d=((MG i 1300 (zx i (!i) (U.ac 4 [40]) d)).1.ac 4 [41],(MG i 1300 (zx i (!i) (U.ac 4 [40]) d)).2):=rfl;have a5:=za M;obtain⟨R,a6⟩:∃R,MG i 1300 (zx i (!i) (U.ac 4 [40]) d)=R:=⟨_,rfl⟩;rw[a6] at a5;have b2:aa (1201-(U.ac 4 [40]).t.a<1300):=by unfold aa;omega
 generalize U.ac 4 [40]=dk at *;obtain⟨i0,hi,cb,cd,ce⟩:=info_parts Tryz.tc;clear q0 bs q2 q3 q4 q5 qf f1 M;go_wp2_with fail;go_loopg [6] 1300 (λk dc wx=>∃(b:Bool) (s:St) (vl:List Vr) (bt:Xv) (I:Nat) (bv:Xm),dc=.bool b/\aa (VI S c a B p w wx j q r t u s vl bt I bv)/\I<=m+1/\aa (b=true->I<=m/\MG i k (zx i (!i) s vl)=R/\1201-s.t.a<k)/\aa (b=false->(s,vl)=R));case atStart=>exact⟨true,dk,d,f,n,v,rfl,b0,by omega,λ_=>⟨c2,a6,b2.o⟩,λH=>by cases H⟩
 case round =>
  obtain⟨b,s,vl,bt,I,bv,rfl,D,ck,bY,aV⟩:=hrel;have da:=D.o.fr.size;have cv:=D.o.pl.lt;have a3:=za D.o.af.bd;cases b with
  | false => have cz:=za (aV.o rfl);obtain⟨x2,be,T⟩:=xT D.o.own;have A:=D.o.aC;rw[T] at A;clear bY aV T;go_wp2_with (go_at_call 150;refine (zP S c s _ [41] pJ _ a3.o D.o.pl).mono ?_;rintro e w2 ⟨rfl,W,a4⟩;have bk:=(a4.block a (ze A) (by omega)).trans A;obtain⟨q0,bs,q2,q3,q4,q5,qf,bo⟩:=zt bk;clear bk);go_ret;have cg:=fo D.o.pl.tx (l:=[41]) (by decide);have W:=W;rw[cg] at W;rw[a5.o,<- cz.o];refine⟨bt,I,bv,?_,ck,D.o.goes P L (ai.ac D.o.af 4 [41]).af (λC=>eJ C) W a4⟩;first|rfl|(congr 2;go_num)
  | true =>
    obtain⟨ch,z,Z⟩:=bY.o rfl;obtain⟨x2,be,T⟩:=xT D.o.own;have A:=D.o.aC;have F:=A;rw[T] at F;obtain⟨q0,bs,q2,q3,q4,q5,qf,bo⟩:=zt A;have bA:=za (λX (hh:X.heap[a]?=wr.heap[a]?) H=>xj S c s X a x2 I be a3.o (by omega) (ze (hh.trans F)) (zt (hh.trans F)).2.2.1 H);have bK:=za z;have mx:I+1<=maxLen:=(by unfold maxLen;omega);have b3:(I+1)*72<=140737488355328:=(by omega);have b1:=za ch;clear bY aV z T F;go_upto_block 1 with fail;go_cut [] (λwy=>∃a1 a2,aa (VI S c a B p w wy j q r t u (zx i (!i) s vl).1 (zx i (!i) s vl).2 a1 (I+1) a2));case first =>
     go_wp2_with fail;go_region_law (first|(refine rl rfl 187 (.tmp 22) (.tmp 23) 172 90 rfl HL (xP c) (xP a) rfl rfl (bA.o _ rfl D.o.pl.drew) ?_;rintro e X ⟨ns,di,ty,rfl,bC,V,ab⟩;refine⟨_,rfl,?_⟩;have G:Fr (·=c) wr X:=ab.cQ;have c6:=G.size;have a9:=(G.block a (ze A) (by omega)).trans A;obtain⟨f0,f1,f2,f3,f4,f5,ff,fz⟩:=zt a9;have E:=za (zi D.o.own (λk h1 h2 _=>G.block k h2 (by omega)));have cn:B<=X.heap.size+1:=(by omega);clear ab)|(refine zJ _ rfl (.tmp 21) (.tmp 25) 118 rfl B 134 i0 _ 7 72 underlying118 hi cb cd ce rfl (by decide) bt I bv rfl (zD E.o _) (xD X.heap.size 0) 1 1 [.string ns,xI di,xI ty,xI 0,xI 0,.string ⟨#[]⟩,xI 0] rfl rfl (zN (zc X _) rfl) sq mx b3 (by simpa using cn) ?_;intro v' w9 K O bl;obtain⟨g9,cs,rfl,cE⟩:=zM K (by omega);have aL:=Fr.gi O;have bg:w9.heap[a]?=X.heap[a]?:=((aL.block a (by rw[au];omega) (λH=>by have:=(E.o.lt a H).1;omega)).trans (Below.heap_alloc _ _ _ (by omega)));have bb:=za (bg.trans a9);obtain⟨m0,m1,m2,m3,m4,m5,dl,dp⟩:=zt bb.o;have bE:=za (PL.fr (V.alloc _) aL (λk cK=>by have:=(E.o.lt k cK).1;omega));clear O bl bg));all_goals go_wp2_with fail
     all_goals go_meet
     all_goals exact⟨_,_,Kr i D.o P L ca bC G bE.o bb.o K aL⟩
    case rest =>
     obtain⟨bp,bq,h⟩:=hcut;have c9:=h.o.fr.size;have Y:=za h.o.af.bd;generalize cA:zx i (!i) s vl=y at *;have J:=za (hY S c y.1 ⟨#[44]⟩ [44] pL wc Y.o h.o.pl);have ar:y.1.cP [44]=if y.1.is 4 [44]=true then y.1.ad else y.1:=(by unfold St.cP;rw[fm h.o.pl.tx (by decide)]);rw[fm h.o.pl.tx (by decide),ar] at J;clear q0 bs q2 q3 q4 q5 qf bo ar;obtain⟨g,rfl⟩:∃g,gk=g+1:=⟨gk-1,by have:=Z;omega⟩;have z:=bK.o;have Q:MG i (g+1) y=if y.1.er=0/\y.1.is 4 [44]=true then MG i g (zx i (!i) y.1.ad y.2) else y:=rfl;rw[Q] at z;cases hc:y.1.is 4 [44] with
     | true =>
       have C:y.1.er=0:=Y.o.er (by rw[Inv.bP hc];decide);rw[ag ⟨C,hc⟩] at z;rw[hc,ag rfl] at J;have e5:=ai.ad h.o.af;have cl:y.1.t.a+1<=y.1.ad.t.a:=(by have h1:=h.o.af.tok (by rw[Inv.bP hc];decide);have h2:=zV y.1.src y.1.t.t h.o.af.ok.tt;rw[St.dZ C];simp only;omega);have co:aa (I+1<=m/\MG i g (zx i (!i) y.1.ad y.2)=R/\1201-y.1.ad.t.a<g):=(by have h1:s.t.a<=y.1.t.a:=(by have:=(jX (i:=i) (o:=!i) (ak:=vl) D.o.af).1.ta;rwa [cA] at this);have h2:=Z;have h3:=D.o.af.ok.bR;have h4:=e5.af.ok.bR;have h5:=(h.o.ok C);exact⟨by omega,z,by omega⟩);have bB:=za e5.af;clear z Q hc e5 cl;go_wp2_with (go_at_call 153;refine J.o.mono ?_;rintro e w3 ⟨rfl,a0,aA⟩);go_roundg g;case measure=>omega
       exact⟨true,y.1.ad,y.2,bp,I+1,bq,rfl,h.o.goes P L bB.o (λ_=>C) a0 aA,by have:=co.o.1;omega,λ_=>co.o,λH=>by cases H⟩
     | false =>
       rw[ae (by rw[hc];simp)] at z;have bL:=za z;rw[hc,ae (by simp)] at J;clear z Q hc;go_wp2_with (go_at_call 153;refine J.o.mono ?_;rintro e w3 ⟨rfl,a0,aA⟩);go_roundg g;case measure=>omega
       exact⟨false,y.1,y.2,bp,I+1,bq,rfl,h.o.goes P L h.o.af (λH=>H) a0 aA,by have:=b1.o;omega,(λH=>by cases H),λ_=>bL.o⟩
end
end Go.Proofs.YtbicmofihhjgbaaGreatDoor
