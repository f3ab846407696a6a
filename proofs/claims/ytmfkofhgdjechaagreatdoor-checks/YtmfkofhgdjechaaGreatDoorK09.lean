/- Part 10 of the proof. -/
import Derived.Test.YtmfkofhgdjechaaGreatDoorK08
set_option maxRecDepth 100000
set_option maxHeartbeats 8000000
namespace Go.Proofs.YtmfkofhgdjechaaGreatDoor
open Go.Proofs.Tryz
open Go.RowKit
section
variable {c:Fn} {L:List Ex} {d p y:Nat} {f u:Xv} {w wr:Xw}
theorem Kp:zH 194:=λ_ _=>by kernel_rfl
theorem Tryz.AM:(prog.info? 159).map (λi=>(i.zero,i.size,i.bytes))=some (some (.pointer none),1,8):=by kernel_rfl
theorem pL:(⟨#[44]⟩:Xb).toList=[44]:=by decide +kernel
theorem ai.sM {a b:St}(h:ai p a b)(e:b.er=0):a.er=0:=h.dd e
def lJ (w wr:Xw)(f:Xv)(L:List Ex)(y:Nat)(u:Xv):Prop :=
 ∃(a:Xw) (b:Nat),w.heap.size<=b/\TR a b L y u/\(∀k,b<=k->k<a.heap.size->wr.heap[k]?=a.heap[k]?)/\(∀g,f.ownBlock=some g->g<b∨a.heap.size<=g)/\a.heap.size<=wr.heap.size
theorem lJ.now (h:lJ w wr f L y u):TR wr w.heap.size L y u:=by obtain⟨i,g,a,b,e,_,_⟩:=h;exact (b.kept e).down a
theorem lJ.next {l:Xw}{av':Xv}(h:lJ w wr f L y u)(E:List Ex){T:Xj}(j:Fr T wr l)(r:∀k,T k->k<w.heap.size∨f.ownBlock=some k)(s:∀k,av'.ownBlock=some k->f.ownBlock=some k∨wr.heap.size<=k):lJ w l av' (L++E) y u:=by
 obtain⟨x,m,n,o,q,i,b⟩:=h;refine⟨x,m,n,o.more E,λk e a=>?_,λg t=>?_,aJ b j.size⟩
 . refine (j.block k (dD a b) (λv=>?_)).trans (q k e a);rcases r k v with h|h
   . omega
   rcases i k h with h|h <;> omega
 rcases s g t with h|h
 . exact i g h
 exact ap (aJ b h)
structure nZ (S:Xs) (pb eb p d:Nat) (w wr:Xw) (v0 v1 v2 v3 v4:Xv) (s:St) (l:Xn) (vs:Xm) (f:Xv):Prop where
 af:Inv p s
 op:18<=s.op+d
 pl:PL S wr pb s
 aC:xH wr eb #[v0,v1,v2,v3,v4,f] 216
 own:wr.ownsRow w.heap.size 159 1 f vs.length vs
 len:vs.length=l.length
 tr:s.er=0->∀(i y:Nat) (u:Xv),l[i]?=some y->vs[i]?=some u->lJ w wr f s.L y u
 fr:Fr (λk=>k=pb∨k=eb) w wr
 bO:l.length<=s.t.a
theorem I9 {S:Xs}{o a:Nat}{j z:Xw}{N O P Q R:Xv}{s:St}{l:Xn}{F:Xm}{x:Xv}{G:Xp}{X:Obj}
 (b:nZ S o a p d w wr N O P Q R s l F f) (A:cU c s p) (Y:l.length+1<=s.t.a) (n3:o<a) (al:a<w.heap.size) (q:Fr (·=o) wr j) (K:(c s).1.er=0->TR j wr.heap.size (c s).1.L (c s).2 (.pointer G))
 (J:PL S z o (c s).1) (e:Fr (λk=>f.ownBlock=some k) (j.alloc X) z) (C:z.heap[a]?=some (.cells #[N,O,P,Q,R,f] 216 (0,0))) (n:z.ownsRow w.heap.size 159 1 x (F.length+1) (F++[.pointer G]))
 (m:∀k,x.ownBlock=some k->f.ownBlock=some k∨(j.alloc X).heap.size<=k):nZ S o a p d w (z.setCell (xD a 5) x) N O P Q R (c s).1 (l++[(c s).2]) (F++[.pointer G]) x:=by
 have r:∀k,f.ownBlock=some k->w.heap.size<=k/\k<wr.heap.size:=λk v=>b.own.lt k v;have M:=b.fr.size;have ak:=q.size;have U:=b.pl.lt;have ar:(j.alloc X).heap.size=j.heap.size+1:=by simp
 have I:Fr (λk=>k=o∨k=a∨f.ownBlock=some k) wr (z.setCell (xD a 5) x):=by have B:Fr (λk=>k=o∨k=a∨f.ownBlock=some k) wr (j.alloc X):=(q.mono (λ_ _ h=>ao h)).alloc X;exact (B.dr e (λ_ _ h=>ap (ap h))).setCell (ao (ap (ao rfl))) _
 obtain⟨E,V⟩:=A.L;have Z:∀k,x.ownBlock=some k->w.heap.size<=k:=λk v=>(n.lt k v).1;refine⟨A.af,by rw[A.op];exact b.op,J.aU n3 _ _,zh _ _ _ _ C,?_,by simp[b.len],?_,?_,?_⟩
 . rw[aP];exact zi n (λk B _ _=>zr (by omega) rfl)
 . intro T i y u t D;rcases Nat.lt_or_ge i l.length with h|h
   . rw[e9 h] at t;rw[e9 (by rw[b.len];exact h)] at D;rw[V];refine (b.tr (A.dj.sM T) i y u t D).next E I (λk v=>?_) (λk v=>?_)
     . rcases v with h|h|h
       . left;omega
       . left;omega
       exact ap h
     rcases m k v with h|h
     . exact ao h
     right;omega
   have H:i=l.length:=(by have:=(aB.1 t).1;simp at this;omega);subst H;rw[e8 (an _)] at t;rw[<- b.len,e8 (an _)] at D;simp at t D;subst t D;refine⟨j,wr.heap.size,M,K T,λk B H=>?_,λg W=>?_,?_⟩
   . refine zr (by omega) ((e.block k (by omega) (λh=>by have:=(r k h).2;omega)).trans (Below.heap_alloc _ _ _ H))
   . rcases m g W with h|h
     . left;exact (r g h).2
     right;omega
   have:=e.size;simp[World.setCell];omega
 . have B:Fr (λk=>k=o∨k=a) w (j.alloc X):=(b.fr.dr q (λ_ _ h=>ao h)).alloc X;exact (B.dr e (λi t h=>by have:=(r i h).1;omega)).setCell (ao (ap rfl)) _
 have:=A.ta;simp;omega
theorem yv {a:Xp}:∀u∈[Value.pointer a],u.oneCell'=true:=by intro u b;simp at b;subst b;rfl
theorem I2 (fv:zX d 194 c)(fd:zv d c)(S:Xs)(x:Nat)(z:St)(p:Nat)(w:Xw)(bt bs t:Nat)(v0 bx v2 v3 v4:Xv)(eq:Inv p z)(es:18<=z.op+d)(g0:1<=z.t.a)(hR:PL S w x z)(a0:bH w bt 136 (xP x))(bl:bH w bs 159 (xP t))(a4:xH w t #[v0,bx,v2,v3,v4,.slice none 0 0] 216)(bL:¬bt=x)(n1:¬bs=x)(n3:x<t)(ev:¬bt=t)(g8:¬bs=t) :
 xK 240 #[xP bt,xP bs] w λe w'=>e=.returned (.tuple #[])/\∃D f,PL S w' x ((cL c z).1.ac 4 [41])/\xH w' t #[v0,bx,v2,v3,v4,f] 216/\w'.ownsRow w.heap.size 159 1 f D.length D/\D.length=(cL c z).2.length /\
  aa (((cL c z).1.ac 4 [41]).er=0->∀(i y:Nat) (u:Xv),(cL c z).2[i]?=some y->D[i]?=some u->TR w' w.heap.size (cL c z).1.L y u)/\Fr (λk=>k=x∨k=t) w w':=by
 have n2:¬t=x:=by omega
 have a5:=ze a4;have g3:=hR.lt;have b0:nZ S x t p d w w v0 bx v2 v3 v4 z [] [] (.slice none 0 0):=⟨eq,es,hR,a4,World.ownsRow_nil _ _ _ _,rfl,λ_ i y u h _=>by simp at h,Fr.refl _ _,by simp⟩;have c0:aa (1201-z.t.a<1300):=by unfold aa;omega
 have A:cL c z=cY c 1300 ((c z).1,[]++[(c z).2]):=rfl;obtain⟨i0,g2,c4,c5,c9⟩:=info_parts Tryz.AM;obtain⟨R,K⟩:∃R,cL c z=R:=⟨_,rfl⟩;rw[K];rw[K] at A;have be:=za A.symm;clear K A hR eq es a4;go_enter func240,ntmps240;go_wp2_with fail;go_loopg [2] 1300 (λk m wr=>∃(b:Bool) (s:St) (l:Xn) (D:Xm) (f:Xv),m=.bool b/\aa (nZ S x t p d w wr v0 bx v2 v3 v4 s l D f)/\aa (b=true->cY c k ((c s).1,l++[(c s).2])=R/\1201-s.t.a<k/\l.length+1<=s.t.a)/\aa (b=false->(s,l)=R));case atStart=>exact⟨true,z,[],[],_,rfl,b0,λ_=>⟨be.o,c0.o,by simpa using g0⟩,λh=>by cases h⟩
 case round =>
  obtain⟨b,s,l,D,f,rfl,j,cm,ak⟩:=hrel;have h5:=j.o.fr.size;have er:=j.o.pl.lt;have G:=j.o.fr.iX a0 bL ev;have F:=j.o.fr.iX bl n1 g8;obtain⟨he,hg,hv⟩:=zu G;obtain⟨gl,gs,gt⟩:=zu F;cases b with
  | false => have fr:=ak.o rfl;have Q:=za j.o.af.bd;clear cm ak;go_wp2_with (go_at_call 134;refine (zP S x s _ [41] pJ _ Q.o j.o.pl).mono ?_;rintro e i4 ⟨rfl,b3,T⟩);go_end0;rw[<- fr];have hm:s.iv [41]=s.ac 4 [41]:=fo j.o.pl.tx (by decide);refine⟨rfl,D,f,hm▸b3,(T.block t (ze j.o.aC) n2).trans j.o.aC,zi j.o.own (λk B v _=>T.block k v (by omega)),j.o.len,?_,j.o.fr.dr T (λ_ _ h=>ao h)⟩;intro r i y u B v;exact (j.o.tr ((ai.ac j.o.af 4 [41]).dd r) i y u B v).now.fr T (λk B _ v=>by omega)
  | true =>
    obtain⟨n,W,cv⟩:=cm.o rfl;have cs:=fd s p j.o.af j.o.op;have cn:=za (λa9 h=>fv S x s p a9 j.o.af j.o.op h);obtain⟨E,hT⟩:=cs.L;have ca:=za n;have g4:D.length<=1200:=(by have:=j.o.bO;have:=j.o.af.ok.bR;have:=j.o.len;omega);have g7:D.length+1<=maxLen:=(by unfold maxLen;omega);have c2:(D.length+1)*8<=140737488355328:=(by omega);obtain⟨d0,d1,d2,d3,d4,fx,gc,ge⟩:=zt j.o.aC;clear cm ak n;go_upto_block 1 with fail;go_cut [] (λhQ=>∃ds av',aa (nZ S x t p d w hQ v0 bx v2 v3 v4 (c s).1 (l++[(c s).2]) ds av'));case first =>
     go_wp2_with fail;go_region_law (first|(refine kD rfl 194 (.tmp 11) 136 rfl Kp (xP x) rfl (cn.o _ j.o.pl.drew) ?_;rintro e a9 ⟨fV,rfl,b2,c3,X⟩;refine⟨_,rfl,?_⟩;have q:Fr (·=x) wr a9:=X.cQ;have g5:=q.size;have H:=(q.block t (ze j.o.aC) n2).trans j.o.aC;obtain⟨f0,f1,f2,f3,f4,f5,h0,h1⟩:=zt H;obtain⟨h6,h7,h8⟩:=zu (F.fr q n1);obtain⟨h9,io,ip⟩:=zu (G.fr q bL);have I:=za (zi j.o.own (λk B v _=>q.block k v (by omega)));have dn:w.heap.size<=a9.heap.size+1:=(by omega);clear X)|(refine zJ _ rfl (.tmp 10) (.tmp 13) 214 rfl w.heap.size 159 i0 _ 1 8 underlying214 g2 c4 c5 c9 rfl (by decide) f D.length D rfl (zD I.o _) (xD a9.heap.size 0) 1 1 [.pointer fV] rfl rfl (zN (zc a9 _) rfl) yv g7 c2 (by simpa using dn) ?_;intro v' ex J N a2;obtain⟨h2,em,rfl,g1⟩:=zM J (by omega);have bk:∀k,f.ownBlock=some k->w.heap.size<=k:=λk P=>(I.o.lt k P).1;have Z:=Fr.gi N;have M:∀k,k<w.heap.size->ex.heap[k]?=a9.heap[k]?:=(λk P=>(Z.block k (by rw[au];omega) (λh=>by have:=bk k h;omega)).trans (Below.heap_alloc _ _ _ (by omega)));obtain⟨m0,m1,m2,m3,m4,m5,it,iR⟩:=zt ((M t a5).trans H);have bp:=za ((M t a5).trans H);obtain⟨i1,g9,i2⟩:=zu ((M bs (ze bl)).trans (F.fr q n1));have eb:=za ((M bt (ze a0)).trans (G.fr q bL));have b4:aa (PL S ex x (c s).1):=(b2.alloc _).fr Z (λk P=>by have:=bk k P;omega);clear N M));all_goals go_wp2_with fail
     all_goals go_meet
     all_goals exact⟨_,_,I9 j.o cs cv n3 a5 q c3.out b4.o Z bp.o J a2⟩
    case rest =>
     obtain⟨bE,U,a⟩:=hcut;have g6:=a.o.fr.size;obtain⟨i3,hu,hw⟩:=zu (a.o.fr.iX a0 bL ev);have Q:=za a.o.af.bd;have C:=za (hY S x (c s).1 ⟨#[44]⟩ [44] pL wc Q.o a.o.pl);rw[fm a.o.pl.tx (by decide)] at C;have Y:(c s).1.cP [44]=if (c s).1.is 4 [44]=true then (c s).1.ad else (c s).1:=(by unfold St.cP;rw[fm a.o.pl.tx (by decide)]);rw[Y] at C;clear he hg hv gl gs gt d0 d1 d2 d3 d4 gc ge Y;obtain⟨g,rfl⟩:∃g,gk=g+1:=⟨gk-1,by have:=W;omega⟩;have n:=ca.o;have O:cY c (g+1) ((c s).1,l++[(c s).2])=if (c s).1.er=0/\(c s).1.is 4 [44]=true then cY c g ((c (c s).1.ad).1,(l++[(c s).2])++[(c (c s).1.ad).2]) else ((c s).1,l++[(c s).2]):=rfl;rw[O] at n;cases V:(c s).1.is 4 [44] with
     | true =>
       have r:(c s).1.er=0:=Q.o.er (by rw[Inv.bP V];decide);rw[ag ⟨r,V⟩] at n;have ar:=za n;rw[V,ag rfl] at C;have go:=ai.gj a.o.af r (by rw[Inv.bP V];decide);have a3:=ai.ad a.o.af;have c1:(c s).1.t.a+1<=(c s).1.ad.t.a:=(by have B:=a.o.af.tok (by rw[Inv.bP V];decide);have v:=zV (c s).1.src (c s).1.t.t a.o.af.ok.tt;rw[St.dZ r];simp only;omega);have ck:(c s).1.ad.L=(c s).1.L:=St.bu _;have fq:aa (cY c g ((c (c s).1.ad).1,(l++[(c s).2])++[(c (c s).1.ad).2])=R/\1201-(c s).1.ad.t.a<g/\(l++[(c s).2]).length+1<=(c s).1.ad.t.a):=by
        refine⟨ar.o,?_,?_⟩
        . have B:=cs.ta;have v:=W;have h3:=j.o.af.ok.bR;have h4:=a3.af.ok.bR;omega
        have B:=a.o.bO;omega
       have b1:=za a3.af;clear n O V go a3;go_wp2_with (go_at_call 137;refine C.o.mono ?_;rintro e hN ⟨rfl,al,o⟩);go_roundg g;case measure=>omega
       refine⟨true,(c s).1.ad,l++[(c s).2],bE,U,rfl,⟨b1.o,by rw[St.bQ];exact a.o.op,al,(o.block t (ze a.o.aC) n2).trans a.o.aC,zi a.o.own (λk B v _=>o.block k v (by omega)),a.o.len,?_,a.o.fr.dr o (λ_ _ h=>ao h),?_⟩,λ_=>fq.o,λh=>by cases h⟩
       . intro _ i y u B v;rw[ck];have:=(a.o.tr r i y u B v).next [] o (av':=U) (λk P=>by left;omega) (λk P=>ao P);rwa [List.append_nil] at this
       have B:=a.o.bO;have v:=c1;omega
     | false =>
       rw[ae (by rw[V];simp)] at n;have ar:=za n;rw[V,ae (by simp)] at C;clear n O V;go_wp2_with (go_at_call 137;refine C.o.mono ?_;rintro e hN ⟨rfl,al,o⟩);go_roundg g;case measure=>omega
       refine⟨false,(c s).1,l++[(c s).2],bE,U,rfl,⟨a.o.af,a.o.op,al,(o.block t (ze a.o.aC) n2).trans a.o.aC,zi a.o.own (λk B v _=>o.block k v (by omega)),a.o.len,?_,a.o.fr.dr o (λ_ _ h=>ao h),a.o.bO⟩,(λh=>by cases h),λ_=>ar.o⟩;intro r i y u B v;have:=(a.o.tr r i y u B v).next [] o (av':=U) (λk P=>by left;omega) (λk P=>ao P);rwa [List.append_nil] at this
end
section
theorem JX:zH 240:=λ_ _=>by kernel_rfl
theorem Lg:aF fL.toList 0=4:=by decide +kernel
structure Lc (w w0:Xw) (pb:Nat) (s:Xb) (a:Nat):Prop where
 bp:bH w0 w.heap.size 136 (xP pb)
 eb:xH w0 (w.heap.size+1+1) #[xI 4,xI a,.string s,xI a,xI 0,.slice none 0 0] 216
 be:bH w0 (w.heap.size+1+1+1) 159 (xP (w.heap.size+1+1))
 fr:Fr (·=pb) w w0
 size:w0.heap.size=w.heap.size+1+1+1+1
def j6 (w:Xw)(b:Nat)(s:Xb)(a:Nat):World:=(((w.alloc (.cells #[xP b] 136)).alloc (.cells #[.string s,xI a] 144)).alloc (.cells #[xI 4,xI a,.string s,xI a,xI 0,.slice none 0 0] 216)).alloc (.cells #[xP (w.heap.size+1+1)] 159)
theorem Lb (w:Xw)(b:Nat)(s:Xb)(a:Nat):Lc w (j6 w b s a) b s a:=by
 unfold j6;refine⟨?_,?_,?_,((((Fr.refl _ w).alloc _).alloc _).alloc _).alloc _,by simp⟩
 . exact (Below.heap_alloc _ _ _ (by simp;omega)).trans ((Below.heap_alloc _ _ _ (by simp;omega)).trans ((Below.heap_alloc _ _ _ (by simp)).trans (zc w _)))
 . refine (Below.heap_alloc _ _ _ (by simp)).trans ?_;have:=zc ((w.alloc (.cells #[xP b] 136)).alloc (.cells #[.string s,xI a] 144)) (.cells #[xI 4,xI a,.string s,xI a,xI 0,.slice none 0 0] 216);simpa using this
 have:=zc (((w.alloc (.cells #[xP b] 136)).alloc (.cells #[.string s,xI a] 144)).alloc (.cells #[xI 4,xI a,.string s,xI a,xI 0,.slice none 0 0] 216)) (.cells #[xP (w.heap.size+1+1)] 159);unfold bH;simpa using this
theorem Ks {S:Xs}{w:Xw}{b:Nat}{c:St}(h:PL S w b c)(s:Xb)(a:Nat):PL S (j6 w b s a) b c:=(((h.alloc _).alloc _).alloc _).alloc _
theorem JU {d:Nat}{b:Fn}(ck:zX d 194 b)(Q:zv d b):ig (d+1) b:=by
 intro S j a p w t K c5 c0 M;have cs:=M.lt;have cv:∀(fn:Go.Fn) (first G:Xa) (w:Xw),(Instr.makeFunc fn first G).run prog w=.ok (.func fn first G) w:=λ_ _ _ _=>rfl;have c:=Lb w j t.s t.a;have f:=Ks M t.s t.a;have l:=za (fH S j a ⟨#[40]⟩ _ j7 (j6 w j t.s t.a) K.ok.tk f);rw[fm M.tx (by decide)] at l;have cm:8<w.heap.size:=dD (by decide) M.gl.size;have a2:xC (j6 w j t.s t.a) 8 0 (.iface 399 (.pointer (some (S 2)))):=f.gl.e6;obtain⟨bs,bt,bx⟩:=zu c.be;obtain⟨bE,bL,b3⟩:=zu c.bp;cases I:a.is 4 [40] with
 | true =>
   have P:a.t.k=4:=Inv.bP I;have he:=K.bd.er (by omega);have L:=ai.enter K he (by omega:2<=a.t.k);have B:18<=a.enter.op+d:=(by rw[St.bN];omega);have r:1<=a.enter.t.a:=(by have:=L.ta;omega);obtain⟨bl,F,bp⟩:=xQ Q L.af B r;have a9:=za (λa5 b0 b1 b2 W=>I2 ck Q S j a.enter (p+1) a5 w.heap.size (w.heap.size+1+1+1) (w.heap.size+1+1) (xI 4) (xI t.a) (.string t.s) (xI t.a) (xI 0) L.af B r W b0 b1 b2 (by omega) (by omega) (by omega) (by omega) (by omega));have V:a1 b t a=(((cL b a.enter).1.ac 4 [41]).aI.put ⟨fL,t.a,t.a,(cL b a.enter).2,t.s,0⟩):=(by unfold a1;rw[ag I]);rw[V];have be:aa (a.op=16->((cL b a.enter).1.ac 4 [41]).aI=a.fail 3 a.t.a):=by
    intro q;have a0:=St.om q;have J:a.enter.er≠0:=(by rw[a0];exact St.cy _ (by decide));have a4:(b a.enter).1=a.enter:=(by rw[(Q a.enter (p+1) L.af B).er J]);have c2:(cL b a.enter).1=a.enter:=by
     show (cY b 1300 ((b a.enter).1,[(b a.enter).2])).1=a.enter
     show (if (b a.enter).1.er=0/\(b a.enter).1.is 4 [44]=true then _ else ((b a.enter).1,[(b a.enter).2])).1=a.enter;rw[ae (by rw[a4];exact λh=>J h.1)];exact a4
    have c3:(cL b a.enter).1.ac 4 [41]=a.enter:=(by rw[c2,a0];exact St.oo _ (by decide) (by decide));rw[c3,nE q]
   rw[I] at l;generalize cL b a.enter=A at *;go_enter func193,ntmps193;go_wp2_with fail;refine Eq.mpr (congrArg (λz=>xK 73 _ z _) (show _=j6 w j t.s t.a from rfl)) ?_;refine l.o.mono ?_;rintro e N ⟨rfl,rfl⟩;generalize j6 w j t.s t.a=w0 at *;go_wp2_with fail;refine (ml _ _ JX S j a p w0 K (by rw[P];decide) f (λe N=>e=.returned (.tuple #[])/\bH N (w.heap.size+1+1+1) 159 (xP (w.heap.size+1+1))/\ef S j w.heap.size w ((A.1.ac 4 [41]).aI.put ⟨fL,t.a,t.a,A.2,t.s,0⟩).1 ((A.1.ac 4 [41]).aI.put ⟨fL,t.a,t.a,A.2,t.s,0⟩).2 (.returned (xP (w.heap.size+1+1))) N) ?_ ?_).mono ?_
   . intro Z ak T g;have s:=c;refine (a9.o ak (s.bp.fr g (by omega)) (s.be.fr g (by omega)) ((g.block _ (ze s.eb) (by omega)).trans s.eb) T).mono ?_;rintro e c4 ⟨rfl,vs,ar,v,H,C,x,X,m⟩;refine⟨rfl,A.1.ac 4 [41],v,by rw[St.a8,F,St.bN];omega,by rw[St.a8,F,St.bN];omega,?_⟩;intro al f n;have R:Fr (·=j) w al:=(Fr.k1 (s.fr.trans g) m (by omega)).trans n;have a3:w0.heap.size<=ak.heap.size:=g.size;have c1:=s.size;refine⟨rfl,bH.fr (Fr.iX m (s.be.fr g (by omega)) (by omega) (by omega)) n (by omega),_,rfl,f.put _,?_,R⟩;intro o;have U:(A.1.ac 4 [41]).aI.L=A.1.L:=St.bi _ _ _
     show TR al w.heap.size ((A.1.ac 4 [41]).aI.L++[⟨fL,t.a,t.a,A.2,t.s,0⟩]) (A.1.ac 4 [41]).aI.L.length _;rw[U];have D:=zR (zi C (λk h1 h2 _=>n.block k h2 (by omega))) (by omega:w.heap.size<=ak.heap.size);refine TR.mk A.1.L.length ⟨fL,t.a,t.a,A.2,t.s,0⟩ _ ar vs (by simp) (by omega) ?_ D x ?_
     . show _=some (Obj.cells #[xI (aF fL.toList 0:Nat),xI t.a,.string t.s,xI t.a,xI (df fL.toList 0:Nat),ar] 216 (0,0));rw[Lg,jY];exact (n.block _ (ze H) (by omega)).trans H
     intro i y u cn hu;exact (((X.out o i y u cn hu).fr n (λk h1 _ h2=>by omega)).down (by omega)).more _
   . intro q c4 v m;rw[be.o q];exact⟨rfl,c.be.fr m (by omega),_,rfl,v.put _,λo=>absurd o (St.cy a (by decide)),c.fr.trans m⟩
   rintro e al ⟨rfl,Y,bk⟩;obtain⟨f0,b4,ca⟩:=zu Y;go_wp2_with fail;go_ret;exact bk
 | false => have V:a1 b t a=(a.fail 2 a.t.a,0):=(by unfold a1;rw[ae (by rw[I];simp)]);rw[V];rw[I] at l;go_enter func193,ntmps193;go_wp2_with fail;refine Eq.mpr (congrArg (λz=>xK 73 _ z _) (show _=j6 w j t.s t.a from rfl)) ?_;refine l.o.mono ?_;rintro e N ⟨rfl,rfl⟩;generalize j6 w j t.s t.a=w0 at *;go_wp2_with (go_at_call 75;refine (li S j a 2 (by decide) _ f).mono ?_;rintro e a5 ⟨rfl,O,E⟩;obtain⟨f0,b4,ca⟩:=zu (c.be.fr E (by omega)));go_ret;exact⟨_,rfl,O,λo=>absurd o (St.cy a (by decide)),c.fr.trans E⟩
theorem PL.BM {S:Xs}{w:Xw}{d:Nat}{b:St}{e a:Nat}(h:PL S w d (b.fail e a))(f:b.er≠0)(i:b.t.k=1):PL S w d b:=by
 have g:b.fail e a={ b with t:=⟨1,b.t.a,b.t.t,⟨#[]⟩,0⟩ }:=by unfold St.fail;rw[ae f]
 rw[g] at h;refine⟨⟨λc=>by omega,λc=>by omega,λc=>by omega⟩,?_,h.gl,h.pb⟩;have:=h.heap;unfold lu at this ⊢;simp only[ck,cs,cn] at this ⊢;rw[i];exact this
theorem si (a:St)(b:Tx a.src a.t):dC a [1,2]=if a.is 5 [116,114,117,101]=true then some 1 else if a.is 5 [102,97,108,115,101]=true then some 2 else none:=by obtain⟨_,_,_,_,_,_,_,_,_,_,_,_,_,_,_,_,c,d⟩:=ku;simp only[dC,c,d];rw[dw b (by decide),dw b (by decide)]
theorem Le (n:Nat):aF fJ.toList n=0:=by
 have:fJ.toList=[110,117,109,98,101,114]:=by decide +kernel
 rw[this];rfl
theorem Ld (n:Nat):df fJ.toList n=n:=by
 have:fJ.toList=[110,117,109,98,101,114]:=by decide +kernel
 rw[this];rfl
theorem Lr:aF dl.toList 1=1:=by decide +kernel
theorem KD:aF dl.toList 0=2:=by decide +kernel
theorem Lo (n:Nat):df dl.toList n=0:=by
 have:dl.toList=[98,111,111,108]:=by decide +kernel
 rw[this];rfl
theorem yT:(⟨#[105,102]⟩:Xb).toList=[105,102]:=by decide +kernel
theorem yt:(⟨#[109,101,114,103,101]⟩:Xb).toList=[109,101,114,103,101]:=by decide +kernel
theorem r7 {t:Tk}:(((ck t:Nat):Int)==4)=(t.k==3):=by
 by_cases h:t.k=3
 . simp[ck,h]
 have:ck t≠4:=by unfold ck;(repeat' split) <;> first|decide|(exfalso;omega)
 have a:(t.k==3)=false:=by simp[h]
 rw[a];simp;omega
theorem Ik (M:Fn)(S:Xs)(c:Nat)(a:St)(p:Nat)(w:Xw)(n:Inv p a)(j:a.t.k=3)(o:M a=fK fJ a.t.n a)(h:PL S w c a) :
 xK 317 #[xP c] w (ef S c w.heap.size w (M a).1 (M a).2):=by
 rw[o];obtain⟨x,y,z,A,B,C,D⟩:=h.cells;have k:=r7 (t:=a.t);rw[show (a.t.k==3)=true by simp[j]] at k;have i:cn a.t=a.t.n:=by simp[cn,j]
 have l:=h.lt;have m:¬w.heap.size=c:=by omega
 have s:=H5;have q:=za n.bd;have r:=za (kI n.bd (by omega:a.t.k≠1));clear o;go_enter func317,ntmps317;go_wp2_with (go_at_call 242;refine (kC S c a 0 _ h).mono ?_;rintro e E ⟨rfl,rfl⟩);refine (jV S c a _ q.o.ok (by rw[j];decide) (h.alloc _)).mono ?_;rintro e F ⟨rfl,f,d⟩;rw[r.o] at f;have g:=(d.block w.heap.size (Nat.lt_of_lt_of_eq (cf _) (by simp)) m).trans (zc w _);obtain⟨d0,d1,d2,d3,d4,d5,u,v⟩:=zt g;simp only[Tk.dX];go_wp2_with fail;go_ret;refine⟨some (xD w.heap.size 0),rfl,(f.aU l _ _).put _,λ_=>TR.leaf (b:=w.heap.size) (ex:=⟨fJ,a.t.a,0,[],sE,a.t.n⟩) (an _) ?_ rfl,(((Fr.refl _ w).alloc _).trans d).aO (an _) _ _⟩
 show _=some (Obj.cells #[xI (aF fJ.toList a.t.n:Nat),xI a.t.a,.string ⟨#[]⟩,xI (0:Nat),xI (df fJ.toList a.t.n:Nat),.slice none 0 0] 216 (0,0));rw[Le,Ld,<- i];exact zh _ _ _ _ g
theorem xV (M:Fn)(n j:Nat)(S:Xs)(d:Nat)(a:St)(p:Nat)(w:Xw)(k:Inv p a)(r:a.t.k=5)(i:dC a [1,2]=some j)(l:aF dl.toList n=j)(s:M a=fK dl n a)(h:PL S w d a) :
 xK 317 #[xP d] w (ef S d w.heap.size w (M a).1 (M a).2):=by
 rw[s];obtain⟨A,B,C,D,E,F,G⟩:=h.cells;have m:=r7 (t:=a.t);rw[show (a.t.k==3)=false by simp[r]] at m;have x:=h.lt;have q:¬w.heap.size+1=d:=by omega
 have c:=za (kF S d a _ 2 [1,2] rfl (by decide) (w.alloc (.cells #[xI 1,xI 2] 213)) (iF _ _ _ _ rfl) (by decide) k.ok.tk (h.alloc _));rw[i] at c;simp only[fR] at c;have u:=za k.bd;have v:=za (kI k.bd (by omega:a.t.k≠1));clear k s i;go_enter func317,ntmps317;go_wp2_with (first|(go_at_call 289;refine c.o.mono ?_;rintro e y ⟨rfl,rfl⟩)|(go_at_call 242;refine (kC S d a j _ (h.alloc _)).mono ?_;rintro e y ⟨rfl,rfl⟩)|(go_at_call 190;refine (jV S d a _ u.o.ok (by rw[r];decide) ((h.alloc _).alloc _)).mono ?_;rintro e z ⟨rfl,g,f⟩;rw[v.o] at g));go_ret;have o:xH z (w.heap.size+1) #[xI j,xI a.t.a,.string ⟨#[]⟩,xI 0,xI 0,.slice none 0 0] 216:=by refine (f.block (w.heap.size+1) (by simp) q).trans ?_;have:=zc (w.alloc (.cells #[xI 1,xI 2] 213)) (.cells #[xI j,xI a.t.a,.string ⟨#[]⟩,xI 0,xI 0,.slice none 0 0] 216);simpa using this
 refine⟨some (xD (w.heap.size+1) 0),rfl,g.put _,λ_=>TR.leaf (b:=w.heap.size+1) (ex:=⟨dl,a.t.a,0,[],sE,n⟩) (by omega) ?_ rfl,((((Fr.refl _ w).alloc _).alloc _).trans f)⟩
 show _=some (Obj.cells #[xI (aF dl.toList n:Nat),xI a.t.a,.string ⟨#[]⟩,xI (0:Nat),xI (df dl.toList n:Nat),.slice none 0 0] 216 (0,0));rw[l,Lo];exact o
theorem jK {t:Tk}(a:t.k≠3):(((ck t:Nat):Int)==4)=false:=by rw[r7];simp[a]
theorem kL {a:St}{k:Nat}{l:Xu}(h:a.t.k≠k):a.is k l=false:=by
 unfold St.is;have:(a.t.k==k)=false:=by simp[h]
 rw[this];rfl
theorem rj (f:FuncId)(M:Fn)(m o v:Bool)(S:Xs)(d:Nat)(b:St)(p:Nat)(w:Xw)(n:Inv p b)(E:b.t.k≠3)(t:dC b [1,2]=none)(c:PL S w d b)(q:b.is 4 [40]=m)(r:b.is 5 [105,102]=o)(s:b.is 5 [109,101,114,103,101]=v)
 (D:(m=true/\f=320)∨(m=false/\o=true/\f=321)∨(m=false/\o=false/\v=true/\f=322))
 (h:∀l,PL S l d b->xK f #[xP d] l (ef S d l.heap.size l (M b).1 (M b).2)) :
 xK 317 #[xP d] w (ef S d w.heap.size w (M b).1 (M b).2):=by
 obtain⟨G,H,I,J,K,L,N⟩:=c.cells;have C:=jK E;have F:=c.lt;have g:=za (kF S d b _ 2 [1,2] rfl (by decide) (w.alloc (.cells #[xI 1,xI 2] 213)) (iF _ _ _ _ rfl) (by decide) n.ok.tk (c.alloc _));rw[t] at g;simp only[fR] at g;have i:=za (fH S d b ⟨#[40]⟩ _ j7 (w.alloc (.cells #[xI 1,xI 2] 213)) n.ok.tk (c.alloc _));have j:=za (fH S d b ⟨#[105,102]⟩ _ yT (w.alloc (.cells #[xI 1,xI 2] 213)) n.ok.tk (c.alloc _));have k:=za (fH S d b ⟨#[109,101,114,103,101]⟩ _ yt (w.alloc (.cells #[xI 1,xI 2] 213)) n.ok.tk (c.alloc _));rw[fm c.tx (by decide),q] at i;rw[dw c.tx (by decide),r] at j;rw[dw c.tx (by decide),s] at k;have x:=za (h (w.alloc (.cells #[xI 1,xI 2] 213)) (c.alloc _));generalize M b=R at *;rcases D with ⟨rfl,rfl⟩|⟨rfl,rfl,rfl⟩|⟨rfl,rfl,rfl,rfl⟩
 all_goals
  go_enter func317,ntmps317;go_wp2_with (first|(go_at_call 289;refine g.o.mono ?_;rintro e u ⟨rfl,rfl⟩)|(go_at_call 73;first|(with_reducible refine i.o.mono ?_;rintro e u ⟨rfl,rfl⟩)|(with_reducible refine j.o.mono ?_;rintro e u ⟨rfl,rfl⟩)|(with_reducible refine k.o.mono ?_;rintro e u ⟨rfl,rfl⟩)));refine x.o.mono ?_;rintro e l y;obtain⟨a,rfl,z,A,B⟩:=y.alloc (jg _ _);go_wp2_with fail;go_ret;exact⟨a,rfl,z,A,B⟩
theorem xe (S:Xs)(c:Nat)(a:St)(p:Nat)(w:Xw)(j:Inv p a)(v:a.t.k≠3)(r:dC a [1,2]=none)(b:PL S w c a)(m:a.is 4 [40]=false)(n:a.is 5 [105,102]=false)(o:a.is 5 [109,101,114,103,101]=false) :
 xK 317 #[xP c] w (ef S c w.heap.size w (a.fail 2 a.t.a) 0):=by
 obtain⟨y,z,A,B,C,D,E⟩:=b.cells;have t:=jK v;have x:=b.lt;have u:8<w.heap.size:=dD (by decide) b.gl.size;have s:xC w 8 0 (.iface 399 (.pointer (some (S 2)))):=b.gl.e6;have d:=za (kF S c a _ 2 [1,2] rfl (by decide) (w.alloc (.cells #[xI 1,xI 2] 213)) (iF _ _ _ _ rfl) (by decide) j.ok.tk (b.alloc _));rw[r] at d;simp only[fR] at d;have f:=za (fH S c a ⟨#[40]⟩ _ j7 (w.alloc (.cells #[xI 1,xI 2] 213)) j.ok.tk (b.alloc _));have g:=za (fH S c a ⟨#[105,102]⟩ _ yT (w.alloc (.cells #[xI 1,xI 2] 213)) j.ok.tk (b.alloc _));have h:=za (fH S c a ⟨#[109,101,114,103,101]⟩ _ yt (w.alloc (.cells #[xI 1,xI 2] 213)) j.ok.tk (b.alloc _));rw[fm b.tx (by decide),m] at f;rw[dw b.tx (by decide),n] at g;rw[dw b.tx (by decide),o] at h;go_enter func317,ntmps317;go_wp2_with (first|(go_at_call 242;refine (kC S c (a.fail 2 a.t.a) 0 _ i).mono ?_;rintro e k ⟨rfl,rfl⟩)|(go_at_call 289;refine d.o.mono ?_;rintro e k ⟨rfl,rfl⟩)|(go_at_call 73;first|(with_reducible refine f.o.mono ?_;rintro e k ⟨rfl,rfl⟩)|(with_reducible refine g.o.mono ?_;rintro e k ⟨rfl,rfl⟩)|(with_reducible refine h.o.mono ?_;rintro e k ⟨rfl,rfl⟩))|(go_at_call 75;refine (li S c a 2 (by decide) _ (b.alloc _)).mono ?_;rintro e F ⟨rfl,i,l⟩));go_ret;exact⟨_,rfl,i.alloc _,λq=>absurd q (St.cy a (by decide)),(((Fr.refl _ w).alloc _).trans l).alloc _⟩
theorem r1 {a:St}(d:Tx a.src a.t)(b:a.is 5 [116,114,117,101]=false)(c:a.is 5 [102,97,108,115,101]=false):dC a [1,2]=none:=by rw[si a d,b,c];rfl
theorem Hy {d:Nat}{f g:Fn}(C:zX d 194 f)(B:zv d f)(H:zX d 326 (bF g))(D:zv d g):pz (d+1) (aN f g):=by
 intro S k b p w j y A i;by_cases q:b.er=0
 . have J:∀M:Fn,(M b=aN f g b)->aN f g b=M b:=λ_ h=>h.symm;by_cases m:b.t.k=3
   . exact Ik (aN f g) S k b p w j m (by unfold aN;rw[ae (by simp[q]),ag m]) i
   have c:aN f g b=if b.is 4 [40]=true then iM f b else if b.is 5 [116,114,117,101]=true then fK dl 1 b else if b.is 5 [102,97,108,115,101]=true then fK dl 0 b else if b.is 5 [105,102]=true then fp f b else if b.is 5 [109,101,114,103,101]=true then fs g b else (b.fail 2 b.t.a,0):=(by unfold aN;rw[ae (by simp[q]),ae m,ae y]);cases o:b.is 4 [40] with
   | true => have I:b.t.k=4:=Inv.bP o;rw[ag o] at c;refine rj 320 (aN f g) _ _ _ S k b p w j m (r1 i.tx (kL (by omega)) (kL (by omega))) i o rfl rfl (ao ⟨rfl,rfl⟩) ?_;intro t l;rw[c];exact I1 C B S k b p t j (by omega) A l
   | false =>
     rw[o,ae (by simp)] at c;cases s:b.is 5 [116,114,117,101] with
     | true => rw[s,ag rfl] at c;exact xV (aN f g) 1 1 S k b p w j (Inv.bP s) (by rw[si b i.tx,s];rfl) Lr c i
     | false =>
       rw[s,ae (by simp)] at c;cases u:b.is 5 [102,97,108,115,101] with
       | true => rw[u,ag rfl] at c;exact xV (aN f g) 0 2 S k b p w j (Inv.bP u) (by rw[si b i.tx,s,u];rfl) KD c i
       | false =>
         rw[u,ae (by simp)] at c;have n:=r1 i.tx s u;cases r:b.is 5 [105,102] with
         | true => have z:b.t.k=5:=Inv.bP r;rw[r,ag rfl] at c;refine rj 321 (aN f g) _ _ _ S k b p w j m n i o r rfl (ap (ao ⟨rfl,rfl,rfl⟩)) ?_;intro t l;rw[c];exact H4 C B S k b p t j (by omega) A l
         | false =>
           rw[r,ae (by simp)] at c;cases v:b.is 5 [109,101,114,103,101] with
           | true => have z:b.t.k=5:=Inv.bP v;rw[v,ag rfl] at c;refine rj 322 (aN f g) _ _ _ S k b p w j m n i o r v (ap (ap ⟨rfl,rfl,rfl,rfl⟩)) ?_;intro t l;rw[c];exact I4 H D S k b p t j (by omega) A l
           | false => rw[v,ae (by simp)] at c;rw[c];exact xe S k b p w j m n i o r v
 have x:=j.bad q;have G:aN f g b=(b,0):=by unfold aN;rw[ag q]
 rw[G];refine (xe S k b p w j (by omega) (r1 i.tx (kL (by omega)) (kL (by omega))) i (kL (by omega)) (kL (by omega)) (kL (by omega))).mono ?_;rintro e t ⟨a,l,E,_,F⟩;exact⟨a,l,E.BM q x,λh=>absurd h q,F⟩
theorem JH:∀d,zX d 194 (a6 d).ex/\zX d 308 (a6 d).un/\pz d (a6 d).at'/\ig d (if d=0 then (a6 0).ex else (a6 (d-1)).ex):=by
 intro d;induction d with
 | zero =>
   have h:∀(f:FuncId) (M:Fn),zX 0 f M:=λf M S q b p w a n _=>by have:=a.dq;omega
   exact⟨h _ _,h _ _,λS q b p w a _ n _=>by have:=a.dq;omega,λS q b p w t a n _ _=>by have:=a.dq;omega⟩
 | succ d B => obtain⟨c,g,i⟩:=pm d;obtain⟨e,x,y,_⟩:=B;have l:=JU e c;have m:=Hy e c (Ju y) i;have j:=rT c i;have z:=Jx m l;have v:=rG j;have A:=HD z j;have k:=r4 g v;have o:=IH x g A;have F:=H6 o k;have u:=ib (lv:=3) k;have E:=J5 F u;have s:=ib (lv:=2) u;have H:=Jw E s;have b:=rS s;have D:=JC H b;have r:=ib (lv:=1) b;have C:=Iu D r;have G:=ib (lv:=0) r;exact⟨J3 e c C G,o,m,l⟩
end
section
variable {f:St}
def el (f:St)(n:Nat):St:=z9 ((f.bG n).name.ac 4 [58])
theorem xj (S:Xs)(a:Nat)(f:St)(w:Xw)(d:Nat)(x:Xp)(n c:Nat)(p:bU f)(s:n<=100)(h:d<w.heap.size)(r:xC w d 2 (.slice x n c))(q:PL S w a f) :
 xK 191 #[xP a,xP d] w λe j=>∃(g:Xb) (b i:Nat),e=.returned (.agg #[.string g,xI b,xI i,xI 0,xI 0,.string ⟨#[]⟩,xI 0])/\aa (((f.bG n).t.k=2->g=(f.bG n).t.s/\b=(f.bG n).t.a)/\i=if ((f.bG n).name.ac 4 [58]).is 5 cD=true then 1 else 0)/\PL S j a (el f n)/\Fr (·=a) w j:=by
 refine (HR S a f w d x n c p s h r q).mono ?_;rintro e t ⟨g,b,k,l,m,o⟩;exact⟨g,b,_,k,⟨l,rfl⟩,m,o⟩
theorem bU.type (h:bU f):bU (z9 f):=by
 unfold z9;split
 . exact h.ad
 exact h.ac _ _
theorem bU.hb (h:bU f):bU (aS f):=by
 unfold aS;split
 . exact h.ad
 exact h
theorem bU.bG (h:bU f)(n:Nat):bU (f.bG n):=by
 unfold St.bG;split
 . exact h.fail (by omega)
 exact h
theorem bU.Aq (h:bU f)(n:Nat):bU (el f n):=((h.bG n).name.ac _ _).type
def ix (s:St):St:=if s.is 5 cF=true then (aS s.ad).name else s
def pG (s:St)(d c:Nat)(b:Xb)(a:Nat):Prop :=
 (s.is 5 cF=true->d=(if s.ad.is 5 eL=true then 2 else 1)/\c=s.t.a/\((aS s.ad).t.k=2->b=(aS s.ad).t.s/\a=(aS s.ad).t.a))/\(s.is 5 cF=false->d=0/\c=0/\b=⟨#[]⟩/\a=0)
theorem Tryz.tc:(prog.info? 156).map (λi=>(i.zero,i.size,i.bytes))=some (some (.agg #[.string ⟨#[]⟩,xI 0,xI 0,xI 0,xI 0,.string ⟨#[]⟩,xI 0]),7,72):=by kernel_rfl
theorem sq {s t:Xb}{a b c d e:Int}:∀u∈[Value.string s,xI a,xI b,xI c,xI d,.string t,xI e],u.oneCell'=true:=by intro u g;simp at g;rcases g with rfl|rfl|rfl|rfl|rfl|rfl|rfl <;> rfl
def yq (S:Xs)(j d B:Nat)(f:St)(w:Xw)(q r s t u p:Xv)(n:Nat)(v:Xm)(e:Ending)(a:Xw):Prop :=
 ∃(g i:Xb) (c o m l h:Nat) (b:Xv),e=.returned (.tuple #[])/\PL S a j ((ix (el f n)).ac 4 [59])/\a.heap[d]?=some (.cells #[q,r,b,s,t,u] 147 (0,0)) /\
    a.ownsRow B 156 7 b (n+1) (v++[.string g,xI c,xI o,xI m,xI l,.string i,xI h])/\aa (((f.bG n).t.k=2->g=(f.bG n).t.s/\c=(f.bG n).t.a)/\o=if ((f.bG n).name.ac 4 [58]).is 5 cD=true then 1 else 0)/\aa (pG (el f n) m l i h) /\
    Fr (λk=>k=j∨k=d∨p.ownBlock=some k) w a/\aa (∀k,b.ownBlock=some k->p.ownBlock=some k∨w.heap.size<=k)
theorem ys {S:Xs}{c b B:Nat}{w a e:Xw}{s t u v x d g:Xv}{n:Nat}{z:Xm}{l o:Xb}{j r q p m:Nat}{X:Obj}
 (C:aa (((f.bG n).t.k=2->l=(f.bG n).t.s/\j=(f.bG n).t.a)/\r=if ((f.bG n).name.ac 4 [58]).is 5 cD=true then 1 else 0)) (D:pG (el f n) q p o m) (E:PL S e c ((ix (el f n)).ac 4 [59])) (i:c<b) (F:xH e b #[s,t,d,u,v,x] 147)
 (G:e.ownsRow B 156 7 g (n+1) (z++[.string l,xI j,xI r,xI q,xI p,.string o,xI m])) (H:∀k,g.ownBlock=some k->d.ownBlock=some k∨(a.alloc X).drew.heap.size<=k) (J:b<B) (_hBw:B<=w.heap.size) (y:Fr (·=c) w a) (I:Fr (λk=>d.ownBlock=some k) (a.alloc X) e) :
 yq S c b B f w s t u v x d n z (.returned (.tuple #[])) (e.setCell (xD b 2) g):=by
 have L:=y.size;refine⟨l,o,j,r,q,p,m,g,rfl,E.aU i _ _,zh _ _ _ _ F,zi G (λk h _ _=>zr (by omega) rfl),C,D,?_,?_⟩
 . have A:Fr (λk=>k=c∨k=b∨d.ownBlock=some k) w (a.alloc X):=(y.mono (λ_ _ h=>ao h)).alloc X;exact (A.dr I (λ_ _ h=>ap (ap h))).setCell (ao (ap (ao rfl))) _
 intro k K;rcases H k K with h|h
 . exact ao h
 right;have:(a.alloc X).drew.heap.size=a.heap.size+1:=by show (a.alloc X).heap.size=_;simp
 omega
theorem ID (S:Xs)(M t B:Nat)(f:St)(w:Xw)(hm hu hv hw hN vs:Xv)(n:Nat)(xs:Xm)(g1:bU f)(ip:n<=50)(hR:PL S w M f)(H:xH w t #[hm,hu,vs,hv,hw,hN] 147)(J:w.ownsRow B 156 7 vs n xs)(fV:M<t)(T:t<B)(h5:B<=w.heap.size) :
 xK 138 #[xP M,xP t] w (yq S M t B f w hm hu hv hw hN vs n xs):=by
 obtain⟨x,g7,bL⟩:∃x g7,vs=.slice x n g7:=by
  rcases J.2 with ⟨h1,h2⟩|⟨g,g6,h3,h1,_⟩
  . exact⟨none,0,by rw[h1,h2]⟩
  exact⟨_,g6,h1⟩
 obtain⟨ge,gl,b1,go,gs,gt,g0,g9⟩:=zt H;have h6:=hR.lt;have io:=za hR;have h9:=za g1;rw[bL] at b1;have b4:=za (xj S M f w t x n g7 g1 (by omega) g9 b1 hR);have Y:=za J;have X:=za H;have A:=za (g1.Aq n);have h0:=za bL;obtain⟨m,bp⟩:∃m,el f n=m:=⟨_,rfl⟩;rw[bp] at b4 A;have R:=za bp;obtain⟨i0,hQ,ev,ex,fd⟩:=info_parts Tryz.tc;have hT:n+1<=maxLen:=by unfold maxLen;omega
 have eb:(n+1)*72<=140737488355328:=by omega
 clear hR g1 J H bp ge gl b1 go gs gt g0 bL;cases bk:m.is 5 cF with
 | false =>
   have er:ix m=m:=(by unfold ix;rw[ae (by rw[bk];simp)]);have a0:=za er;have cn:=za bk;clear bk er;go_enter func138,ntmps138;go_wp2_with fail;refine b4.o.mono ?_;rintro e a ⟨ns,na,b3,rfl,a3,l,p⟩;have L:=p.size;have r:=l.lt;have I:=(p.block t g9 (by omega)).trans X.o;have a9:=za I;have al:=za (fH S M m ⟨#[111,110]⟩ _ yS (a.alloc (.cells #[.string ns,xI na,xI b3,xI 0,xI 0,.string ⟨#[]⟩,xI 0] 156)) A.o.ok.tk (l.alloc _));rw[dw l.tx (by decide),cn.o] at al;have ar:=za (zP S M m ⟨#[59]⟩ _ pH (a.alloc (.cells #[.string ns,xI na,xI b3,xI 0,xI 0,.string ⟨#[]⟩,xI 0] 156)) A.o (l.alloc _));rw[fo l.tx (by decide)] at ar;have O:=za p;clear l p I;go_wp2_with (first|(go_at_call 73;refine al.o.mono ?_;rintro e w' ⟨rfl,rfl⟩)|(go_at_call 134;refine ar.o.mono ?_;rintro e W ⟨rfl,F,j⟩;have gc:=j.size;have bt:=(j.block a.heap.size (by rw[au];omega) (by omega)).trans (zc a _);have bl:=(j.block t (by rw[au];omega) (by omega)).trans ((Below.heap_alloc _ _ _ (by omega)).trans a9.o);obtain⟨c0,c1,c2,c3,c4,c5,c9,dn,ds⟩:=eK bt;obtain⟨ge,gl,b1,go,gs,gt,g0,b2⟩:=zt bl;have Q:=za bl;have be:=za bt;have a4:=za F;have P:=za j;clear F j bt bl));have c:=za (zi Y.o (λk h1 h2 _=>(P.o.block k (by rw[au];omega) (by omega)).trans ((Below.heap_alloc _ _ _ (by omega)).trans (O.o.block k h2 (by omega)))));have eq:B<=W.heap.size:=(by rw[au] at gc;omega);clear al ar b4 c0 c1 c2 c3 c4 c5 c9 dn ds;obtain⟨c0,c1,c2,c3,c4,c5,c9,dn,ds⟩:=eK be.o
   go_region_law (
    refine zJ _ rfl (.tmp 19) (.tmp 21) 141 rfl B 156 i0 _ 7 72 underlying141 hQ ev ex fd rfl (by decide) vs n xs rfl (zD (c.o) _) (xD W.heap.size 0) 1 1 [.string ns,xI na,xI b3,xI 0,xI 0,.string ⟨#[]⟩,xI 0] rfl rfl (zN (zc W _) rfl) sq hT eb (by simp;omega) ?_;intro v' hg d o s;obtain⟨h4,em,rfl,g8⟩:=zM d (by omega);have q:=(Fr.gi o).cQ;have G:∀k,k<B->hg.heap[k]?=W.heap[k]?:=(λk fq=>(q.block k (by simp;omega) (λh=>by have:=(c.o.lt k h).1;omega)).trans (Below.heap_alloc _ _ _ (by omega)));have C:=za ((G t T).trans Q.o);obtain⟨ge,gl,b1,go,gs,gt,g0,b2⟩:=zt C.o;have a5:=za (PL.fr (a4.o.alloc _) q (λk fq=>by have:=(c.o.lt k fq).1;omega));have a2:=za q;have y:=za d;have u:=za s;clear d o s q G)
   all_goals go_wp2_with fail
   all_goals go_end0
   all_goals exact ys a3 (by rw[R.o];exact⟨λh=>(by rw[cn.o] at h;cases h),λ_=>⟨rfl,rfl,rfl,rfl⟩⟩) (by rw[R.o,a0.o];exact a5.o) fV C.o y.o u.o T (by omega) (O.o.trans ((Fr.refl _ a).alloc _ |>.trans P.o)) a2.o
 | true =>
   have er:ix m=(aS m.ad).name:=(by unfold ix;rw[ag bk]);have a0:=za er;have cn:=za bk;have fv:m.t.k=5:=Inv.bP bk;have cm:=za (λa h=>KE S M m a A.o fv h);have g3:=za A.o.ad.hb.name;clear bk er fv;go_enter func138,ntmps138;go_wp2_with fail;refine b4.o.mono ?_;rintro e a ⟨ns,na,b3,rfl,a3,l,p⟩;have L:=p.size;have r:=l.lt;have I:=(p.block t g9 (by omega)).trans X.o;have a9:=za I;have al:=za (fH S M m ⟨#[111,110]⟩ _ yS (a.alloc (.cells #[.string ns,xI na,xI b3,xI 0,xI 0,.string ⟨#[]⟩,xI 0] 156)) A.o.ok.tk (l.alloc _));rw[dw l.tx (by decide),cn.o] at al;have O:=za p;have g5:=za l;clear l p I;go_wp2_with (go_at_call 73;refine al.o.mono ?_;rintro e w' ⟨rfl,rfl⟩);refine (cm.o _ (g5.o.alloc _)).mono ?_;rintro e he ⟨os,ak,rfl,fr,es,D⟩;obtain⟨N,bs⟩:∃N:Nat,(if m.ad.is 5 eL=true then 2 else 1)=N:=⟨_,rfl⟩;have Z:(if m.ad.is 5 eL=true then (2:Int) else 1)=(N:Nat):=(by rw[<- bs];split <;> rfl);rw[Z];have h7:=D.size;have bx:=(D.block a.heap.size (by rw[au];omega) (by omega)).trans (zc a _);have fx:=(D.block t (by rw[au];omega) (by omega)).trans ((Below.heap_alloc _ _ _ (by omega)).trans a9.o);have g4:aa (pG m N m.t.a os ak):=⟨λ_=>⟨bs.symm,rfl,fr⟩,λh=>(by rw[cn.o] at h;cases h)⟩;obtain⟨c0,c1,c2,c3,c4,c5,c9,dn,ds⟩:=eK bx;have cs:=za fx;have cv:=za bx;have ck:=za es;have ca:=za D;clear es D bx fx bs Z fr;go_wp2_with fail;have U:=(((ck.o.aU (b:=a.heap.size) r 3 (xI N)).aU (b:=a.heap.size) r 4 (xI m.t.a)).aU (b:=a.heap.size) r 5 (.string os)).aU (b:=a.heap.size) r 6 (xI ak);have bE:=zh _ a.heap.size 6 (xI ak) (zh _ a.heap.size 5 (.string os) (zh _ a.heap.size 4 (xI m.t.a) (zh he a.heap.size 3 (xI N) cv.o)));have V:=zr (b:=a.heap.size) (i:=6) (v:=(xI ak)) (by omega:¬t=a.heap.size) (zr (b:=a.heap.size) (i:=5) (v:=.string os) (by omega:¬t=a.heap.size) (zr (b:=a.heap.size) (i:=4) (v:=(xI m.t.a)) (by omega:¬t=a.heap.size) (zr (b:=a.heap.size) (i:=3) (v:=(xI N)) (by omega:¬t=a.heap.size) cs.o)));have E:Fr (·=M) w ((((he.setCell (xD a.heap.size 3) (xI N)).setCell (xD a.heap.size 4) (xI m.t.a)).setCell (xD a.heap.size 5) (.string os)).setCell (xD a.heap.size 6) (xI ak)):=(((((O.o.alloc _).trans ca.o).aO L _ _).aO L _ _).aO L _ _).aO L _ _;obtain⟨g2,b0⟩:∃g2,((((he.setCell (xD a.heap.size 3) (xI N)).setCell (xD a.heap.size 4) (xI m.t.a)).setCell (xD a.heap.size 5) (.string os)).setCell (xD a.heap.size 6) (xI ak))=g2:=⟨_,rfl⟩;rw[b0] at U bE V E;have ar:=za (zP S M (aS m.ad).name ⟨#[59]⟩ _ pH g2 g3.o U);rw[fo U.tx (by decide)] at ar;refine Eq.mpr (congrArg (λz=>xK 134 _ z _) b0) ?_;refine ar.o.mono ?_;rintro e W ⟨rfl,F,j⟩;have gc:=j.size;have h8:=E.size;have K:xH g2 a.heap.size #[.string ns,xI na,xI b3,xI N,xI m.t.a,.string os,xI ak] 156:=bE;have be:=za ((j.block a.heap.size (ze K) (by omega)).trans K);have Q:=za ((j.block t (ze V) (by omega)).trans V);have a4:=za F;have P:=za (E.trans j);have c:=za (zi Y.o (λk h1 h2 _=>(E.trans j).block k h2 (by omega)));have eq:B<=W.heap.size:=(by omega);clear F j U bE V E b0 K c0 c1 c2 c3 c4 c5 c9 dn ds ck ca cv cs;go_wp2_with fail;clear al ar b4 cm;obtain⟨c0,c1,c2,c3,c4,c5,c9,dn,ds⟩:=eK be.o;obtain⟨ge,gl,b1,go,gs,gt,g0,b2⟩:=zt Q.o
   go_region_law (
    refine zJ _ rfl (.tmp 19) (.tmp 21) 141 rfl B 156 i0 _ 7 72 underlying141 hQ ev ex fd rfl (by decide) vs n xs rfl (zD (c.o) _) (xD W.heap.size 0) 1 1 [.string ns,xI na,xI b3,xI N,xI m.t.a,.string os,xI ak] rfl rfl (zN (zc W _) rfl) sq hT eb (by simp;omega) ?_;intro v' hg d o s;obtain⟨h4,em,rfl,g8⟩:=zM d (by omega);have q:=(Fr.gi o).cQ;have G:∀k,k<B->hg.heap[k]?=W.heap[k]?:=(λk fq=>(q.block k (by simp;omega) (λh=>by have:=(c.o.lt k h).1;omega)).trans (Below.heap_alloc _ _ _ (by omega)));have C:=za ((G t T).trans Q.o);obtain⟨ge,gl,b1,go,gs,gt,g0,b2⟩:=zt C.o;have a5:=za (PL.fr (a4.o.alloc _) q (λk fq=>by have:=(c.o.lt k fq).1;omega));have a2:=za q;have y:=za d;have u:=za s;clear d o s q G)
   all_goals go_wp2_with fail
   all_goals go_end0
   all_goals exact ys a3 (by rw[R.o];exact g4.o) (by rw[R.o,a0.o];exact a5.o) fV C.o y.o u.o T (by omega) P.o a2.o
end
section
variable {c:Xb} {l:Xu} {b:List Vr} {k n d f:Nat} {st:St}
theorem pg (g:st.er≠0)(e a:Nat):st.fail e a=st.bad:=by unfold St.fail St.bad;rw[ae g]
theorem pw (a:st.t.k=1)(h:k≠1):st.is k l=false:=kL (by omega)
theorem rQ (a:st.er≠0)(e:st.t.k=1):st.name=st.bad:=by unfold St.name;rw[ae (by omega),pg a]
theorem pi (a:st.er≠0)(e:st.t.k=1)(h:k≠1):st.ac k l=st.bad:=by unfold St.ac;rw[pw e h];exact pg a _ _
theorem rP (e:st.er≠0)(a:st.t.k=1):z9 st=st.bad:=by unfold z9;rw[pw a (by decide)];exact pi e a (by decide)
theorem Ja (a:st.er≠0)(n:Nat):st.bG n=st.bad∨st.bG n=st:=by
 unfold St.bG;split
 . exact ao (pg a _ _)
 exact ap rfl
theorem xX (g:st.er≠0)(i:st.t.k=1)(n:Nat):el st n=st.bad:=by
 unfold el;have e:st.bad.er≠0:=g;have a:st.bad.t.k=1:=rfl;rcases Ja g n with h|h
 . rw[h,rQ e a,pi (st:=st.bad.bad) e a (by decide),rP (st:=st.bad.bad.bad) e a];rfl
 rw[h,rQ g i,pi (st:=st.bad) e a (by decide),rP (st:=st.bad.bad) e a];rfl
theorem yi (e:st.er≠0)(j:st.t.k=1)(i o:Bool)(b:List Vr):(zx i o st b).1=st.bad:=by
 unfold zx;split
 . exact pg e _ _
 have g:st.bad.er≠0:=e;have a:st.bad.t.k=1:=rfl;have h:z9 (st.name.ac 4 [58])=st.bad:=by rw[rQ e j,pi (st:=st.bad) g a (by decide),rP (st:=st.bad.bad) g a];rfl
 simp only[h];rw[pw a (by decide)];rfl
theorem xz (n:Nat)(h:n=16):el st n=st.fail 2 st.t.a:=by unfold el St.bG;rw[ag h,St.sP _ (by decide),St.p9 _ (by decide) (by decide)];unfold z9;rw[St.mR _ (by decide)];exact St.p9 _ (by decide) (by decide)
theorem Hq (i:Bool)(g:bU st)(j:st.er=0->n=b.length/\b.length<=16):el st n=(zx i (!i) st b).1:=by
 by_cases e:st.er=0
 . obtain⟨m,o⟩:=j e;by_cases a:n=16
   . rw[xz n a];unfold zx;rw[ag (by omega)]
   unfold zx;rw[ae (by omega)];have h:((z9 (st.name.ac 4 [58])).is 5 cF&&!i&&!!i)=false:=(by cases i <;> simp);simp only[h];unfold el St.bG;rw[ae a];rfl
 rw[xX e (g.bad e),yi e (g.bad e)]
theorem HW (h:bU st)(m:st.er=0->n=b.length/\b.length<=16):ix (el st n)=(zx false false st b).1:=by
 by_cases e:st.er=0
 . obtain⟨g,o⟩:=m e;by_cases a:n=16
   . rw[xz n a];have g:ix (st.fail 2 st.t.a)=st.fail 2 st.t.a:=(by unfold ix;rw[St.mR _ (by decide)];rfl);rw[g];unfold zx;rw[ag (by omega)]
   unfold zx;rw[ae (by omega)];have j:el st n=z9 (st.name.ac 4 [58]):=(by unfold el St.bG;rw[ae a]);rw[j];unfold ix;cases i:(z9 (st.name.ac 4 [58])).is 5 cF with
   | true=>simp only[i,Bool.not_false,Bool.and_self,if_true]
   | false=>simp only[i,Bool.not_false,Bool.false_and];rfl
 rw[xX e (h.bad e),yi e (h.bad e)];unfold ix;rw[pw rfl (by decide)];rfl
def ba (v:Vr):Nat:=if v.tm=true then (if v.nt=true then 2 else 1) else 0
def jd (v:Vr):List Value:=[.string v.nm,xI v.a,xI (if v.bl=true then 1 else 0:Nat),xI (ba v:Nat),xI v.on,.string v.ck,xI v.ca]
def eT (l:List Vr):List Value:=l.flatMap jd
theorem ru (l:List Vr)(v:Vr):eT (l++[v])=eT l++jd v:=by simp[eT]
theorem lm (h:st.name.er=0):st.t.k=2:=by
 by_cases a:st.t.k=2
 . exact a
 exfalso;unfold St.name at h;rw[ae a] at h;exact St.cy _ (by decide) h
theorem eJ (h:(st.ac k l).er=0):st.er=0:=by
 unfold St.ac at h;split at h
 . rwa [St.ja] at h
 exact absurd h (St.cy _ (by decide))
theorem mq (h:(z9 st).er=0):st.er=0:=by
 unfold z9 at h;split at h
 . rwa [St.ja] at h
 exact eJ h
theorem mo (h:st.name.er=0):st.er=0:=by have:=lm h;unfold St.name at h;rw[ag this,St.ja] at h;exact h
theorem Ki (i:Bool)(r:st.er=0->n=b.length/\b.length<=16)(j:(st.bG n).t.k=2->c=(st.bG n).t.s/\d=(st.bG n).t.a)(g:f=if ((st.bG n).name.ac 4 [58]).is 5 cD=true then 1 else 0)
 (a:(zx i (!i) st b).1.er=0):st.er=0/\(zx i (!i) st b).2.length=n+1/\n+1<=16/\eT (zx i (!i) st b).2=eT b++[.string c,xI d,xI f,xI (0:Nat),xI (0:Nat),.string ⟨#[]⟩,xI (0:Nat)]:=by
 by_cases e:16<=b.length
 . unfold zx at a;rw[ag e] at a;exact absurd a (St.cy _ (by decide))
 have p:((z9 (st.name.ac 4 [58])).is 5 cF&&!i&&!!i)=false:=by cases i <;> simp
 have o:zx i (!i) st b=(z9 (st.name.ac 4 [58]),b++[⟨st.t.s,st.t.a,(st.name.ac 4 [58]).is 5 cD,i,!i,0,sE,0,false,false⟩]):=by unfold zx;rw[ae e];simp only[p];rfl
 rw[o] at a ⊢;have h:st.er=0:=mo (eJ (mq a));obtain⟨m,u⟩:=r h;have q:st.bG n=st:=by unfold St.bG;rw[ae (by omega)]
 rw[q] at j g;obtain⟨s,t⟩:=j (lm (eJ (mq a)));refine⟨h,by simp[m],by omega,?_⟩;simp only[ru];unfold jd ba;subst s t g;rfl
theorem Hf (A:st.er=0->n=b.length/\b.length<=16){C:Xb}{E D B:Nat}(r:(st.bG n).t.k=2->c=(st.bG n).t.s/\d=(st.bG n).t.a)(h:f=if ((st.bG n).name.ac 4 [58]).is 5 cD=true then 1 else 0)(g:pG (el st n) E D C B)
 (e:(zx false false st b).1.er=0):st.er=0/\(zx false false st b).2.length=n+1/\n+1<=16/\eT (zx false false st b).2=eT b++[.string c,xI d,xI f,xI E,xI D,.string C,xI B]:=by
 by_cases j:16<=b.length
 . unfold zx at e;rw[ag j] at e;exact absurd e (St.cy _ (by decide))
 cases q:(z9 (st.name.ac 4 [58])).is 5 cF with
 | false => have t:zx false false st b=(z9 (st.name.ac 4 [58]),b++[⟨st.t.s,st.t.a,(st.name.ac 4 [58]).is 5 cD,false,false,0,sE,0,false,false⟩]):=(by unfold zx;rw[ae j];simp only[q,Bool.false_and];rfl);rw[t] at e ⊢;have o:st.er=0:=mo (eJ (mq e));obtain⟨s,F⟩:=A o;have p:st.bG n=st:=(by unfold St.bG;rw[ae (by omega)]);have m:el st n=z9 (st.name.ac 4 [58]):=(by unfold el;rw[p]);rw[p] at r h;rw[m] at g;obtain⟨u,v⟩:=r (lm (eJ (mq e)));obtain⟨w,x,y,z⟩:=g.2 q;refine⟨o,by simp[s],by omega,?_⟩;simp only[ru];unfold jd ba;subst u v h w x y z;rfl
 | true =>
   have t:zx false false st b=((aS (z9 (st.name.ac 4 [58])).ad).name,b++[⟨st.t.s,st.t.a,(st.name.ac 4 [58]).is 5 cD,false,false,(z9 (st.name.ac 4 [58])).t.a,(aS (z9 (st.name.ac 4 [58])).ad).t.s,(aS (z9 (st.name.ac 4 [58])).ad).t.a,(z9 (st.name.ac 4 [58])).ad.is 5 eL,true⟩]):=(by unfold zx;rw[ae j];simp only[q,Bool.not_false,Bool.and_self,if_true]);rw[t] at e ⊢;have a:(aS (z9 (st.name.ac 4 [58])).ad).er=0:=mo e;have i:(z9 (st.name.ac 4 [58])).er=0:=by
    unfold aS at a;split at a
    . rw[St.ja,St.ja] at a;exact a
    rw[St.ja] at a;exact a
   have o:st.er=0:=mo (eJ (mq i));obtain⟨s,F⟩:=A o;have p:st.bG n=st:=(by unfold St.bG;rw[ae (by omega)]);have m:el st n=z9 (st.name.ac 4 [58]):=(by unfold el;rw[p]);rw[p] at r h;rw[m] at g;obtain⟨u,v⟩:=r (lm (eJ (mq i)));obtain⟨w,x,y⟩:=g.1 q;obtain⟨z,G⟩:=y (lm e);refine⟨o,by simp[s],by omega,?_⟩;simp only[ru];unfold jd ba;subst u v h w x z G;rfl
end
section
structure VI (S:Xs) (pb nb B p:Nat) (w wr:Xw) (c0 c1 c3 c4 c5:Xv) (s:St) (ab:List Vr) (vs:Xv) (n:Nat) (xs:Xm):Prop where
 af:Inv p s
 pl:PL S wr pb s
 aC:xH wr nb #[c0,c1,vs,c3,c4,c5] 147
 own:wr.ownsRow B 156 7 vs n xs
 ok:s.er=0->n=ab.length/\ab.length<=16/\xs=eT ab
 fr:Fr (λk=>k=pb∨k=nb∨B<=k) w wr
theorem VI.dec {S:Xs}{j i B p:Nat}{w wr:Xw}{c d e f g:Xv}{s:St}{a:List Vr}{k:Xv}{n:Nat}{l:Xm}(h:VI S j i B p w wr c d e f g s a k n l):s.er=0->n=a.length/\a.length<=16:=λb=>⟨(h.ok b).1,(h.ok b).2.1⟩
theorem Hk (S:Xs)(c b B p:Nat)(w wr:Xw)(d f g j k:Xv)(s:St)(a:List Vr)(v:Xv)(n:Nat)(r:Xm)(I:n<=50)(o:c<b)(l:b<B)(F:B<=w.heap.size)(h:VI S c b B p w wr d f g j k s a v n r) :
 xK 138 #[xP c,xP b] wr λe x=>e=.returned (.tuple #[])/\∃q t,VI S c b B p w x d f g j k (cz s a).1 (cz s a).2 q (n+1) t:=by
 have J:=h.fr.size;refine (ID S c b B s wr d f g j k v n r h.af.bd I h.pl h.aC h.own o l (by omega)).mono ?_;rintro e x ⟨T,V,R,ak,Z,W,U,N,rfl,u,y,z,⟨A,C⟩,D,E,_⟩;have H:=mn (ab:=a) h.af;rw[HW h.af.bd h.dec] at u;refine⟨rfl,N,_,H.1.af,u,y,z,?_,?_⟩
 . intro G;have m:(zx false false s a).1.er=0:=eJ G;obtain⟨L,X,Y,M⟩:=Hf h.dec A C D.out m;obtain⟨P,Q,K⟩:=h.ok L;refine⟨?_,?_,?_⟩
   . show n+1=(zx false false s a).2.length;omega
   . show (zx false false s a).2.length<=16;omega
   show r++_=eT (zx false false s a).2;rw[M,K]
 exact h.fr.dr E (λi O hs=>by
  rcases hs with hs|hs|hs
  . exact ao hs
  . exact ap (ao hs)
  exact ap (ap (h.own.lt i hs).1))
end
section
variable {v:Xm} {d:List Vr} {B n a p c:Nat} {S:Xs} {s:St} {j q r t u f:Xv} {w wr:Xw}
theorem HL:zH 191:=λ_ _=>by kernel_rfl
theorem Kr {C e:Xw}{A:Xv}{X:Obj}{y:Xb}{x z:Nat}(i:Bool)
 (h:VI S c a B p w wr j q r t u s d f n v) (m:c<a) (H:a<B) (_hBw:B<=w.heap.size) (l:aa (((s.bG n).t.k=2->y=(s.bG n).t.s/\x=(s.bG n).t.a)/\z=if ((s.bG n).name.ac 4 [58]).is 5 cD=true then 1 else 0))
 (g:Fr (·=c) wr C) (b:PL S e c (el s n)) (E:xH e a #[j,q,f,r,t,u] 147) (F:e.ownsRow B 156 7 A (n+1) (v++[.string y,xI x,xI z,xI 0,xI 0,.string ⟨#[]⟩,xI 0]))
 (G:Fr (λk=>f.ownBlock=some k) (C.alloc X) e):VI S c a B p w (e.setCell (xD a 2) A) j q r t u (zx i (!i) s d).1 (zx i (!i) s d).2 A (n+1) (v++[.string y,xI x,xI z,xI 0,xI 0,.string ⟨#[]⟩,xI 0]):=by
 rw[Hq i h.af.bd h.dec] at b;have J:=jX (i:=i) (o:=!i) (ab:=d) h.af;refine⟨J.1.af,b.aU m _ _,zh _ _ _ _ E,zi F (λk l _ _=>zr (by omega) rfl),?_,?_⟩
 . intro I;obtain⟨M,Q,R,N⟩:=Ki i h.dec l.out.1 l.out.2 I;obtain⟨O,P,L⟩:=h.ok M;exact⟨by omega,by omega,by rw[N,L];rfl⟩
 have D:Fr (λk=>k=c∨k=a∨B<=k) w (C.alloc X):=(h.fr.dr g (λ_ _ h=>ao h)).alloc X;exact (D.dr G (λk _ K=>ap (ap (h.own.lt k K).1))).setCell (ao (ap (ao rfl))) _
theorem xT {e:Xy}(h:w.ownsRow B e 7 f n v):∃x k,f=.slice x n k:=by
 rcases h.2 with ⟨i,m⟩|⟨g,b,l,i,_⟩
 . exact⟨none,0,by rw[i,m]⟩
 exact⟨_,b,i⟩
theorem VI.goes {e:Xw}{b:St}(h:VI S c a B p w wr j q r t u s d f n v)(y:c<a)(l:a<B)(m:Inv p b)(x:b.er=0->s.er=0)(o:PL S e c b)(hF:Fr (·=c) wr e):VI S c a B p w e j q r t u b d f n v :=
 ⟨m,o,(hF.block a (ze h.aC) (by omega)).trans h.aC,zi h.own (λk z i _=>hF.block k i (by omega)),λg=>h.ok (x g),h.fr.dr hF (λ_ _ h=>ao h)⟩
theorem xG (S:Xs)(c a B p m:Nat)(i:Bool)(w wr:Xw)(j q r t u:Xv)(U:St)(d:List Vr)(f:Xv)(n:Nat)(v:Xm)(hN:n<=m)(i3:m<=40)(hw:16<=m)(P:c<a)(L:a<B)(fV:B<=w.heap.size)(H:VI S c a B p w wr j q r t u U d f n v) :
 xK 136 #[xP c,xP a] wr λe w'=>∃(a9:Xv) (n':Nat) (be:Xm),e=.returned (xI ((n':Int)-(n:Int)))/\n'<=m+1/\VI S c a B p w w' j q r t u (bW i U d).1 (bW i U d).2 a9 n' be:=by
 obtain⟨x,g5,g1⟩:∃x g5,f=.slice x n g5:=by
  rcases H.own.2 with ⟨h1,h2⟩|⟨g,fv,he,h1,_⟩
  . exact⟨none,0,by rw[h1,h2]⟩
  exact⟨_,fv,h1⟩
 have N:=H.aC;rw[g1] at N;obtain⟨ca,ck,cm,cn,cs,cv,c2,i6⟩:=zt N;have dn:=za H.af.bd;have hv:=H.pl.lt;clear N;go_enter func136,ntmps136;go_wp2_with fail;refine (zP S c U _ _ j7 _ dn.o H.pl).mono ?_;rintro e X ⟨rfl,V,G⟩;rw[fo H.pl.tx (by decide)] at V;have f1:=ai.ac H.af 4 [40];have ex:=H.goes P L f1.af (λC=>eJ C) V G;have M:bW i U d=((cK i 1300 (zx i (!i) (U.ac 4 [40]) d)).1.ac 4 [41],(cK i 1300 (zx i (!i) (U.ac 4 [40]) d)).2):=rfl;have bp:=za M;obtain⟨R,bs⟩:∃R,cK i 1300 (zx i (!i) (U.ac 4 [40]) d)=R:=⟨_,rfl⟩;rw[bs] at bp;have fq:aa (1201-(U.ac 4 [40]).t.a<1300):=by unfold aa;omega
 generalize U.ac 4 [40]=h4 at *;obtain⟨i0,hm,gc,ge,gl⟩:=info_parts Tryz.tc;clear ca ck cm cn cs cv c2 f1 M;go_wp2_with fail;go_loopg [6] 1300 (λk h0 h8=>∃(b:Bool) (s:St) (a0:List Vr) (vv:Xv) (I:Nat) (c9:Xm),h0=.bool b/\aa (VI S c a B p w h8 j q r t u s a0 vv I c9)/\I<=m+1/\aa (b=true->I<=m/\cK i k (zx i (!i) s a0)=R/\1201-s.t.a<k)/\aa (b=false->(s,a0)=R));case atStart=>exact⟨true,h4,d,f,n,v,rfl,ex,by omega,λ_=>⟨hN,bs,fq.o⟩,λH=>by cases H⟩
 case round =>
  obtain⟨b,s,a0,vv,I,c9,rfl,D,gt,ev,a4⟩:=hrel;have hT:=D.o.fr.size;have g7:=D.o.pl.lt;have bk:=za D.o.af.bd;cases b with
  | false => have g8:=za (a4.o rfl);obtain⟨x2,bE,T⟩:=xT D.o.own;have A:=D.o.aC;rw[T] at A;clear ev a4 T;go_wp2_with (go_at_call 134;refine (zP S c s _ [41] pJ _ bk.o D.o.pl).mono ?_;rintro e i7 ⟨rfl,W,bl⟩;have b0:=(bl.block a (ze A) (by omega)).trans A;obtain⟨ca,ck,cm,cn,cs,cv,c2,b2⟩:=zt b0;clear b0);go_ret;have go:=fo D.o.pl.tx (l:=[41]) (by decide);have W:=W;rw[go] at W;rw[bp.o,<- g8.o];refine⟨vv,I,c9,?_,gt,D.o.goes P L (ai.ac D.o.af 4 [41]).af (λC=>eJ C) W bl⟩;first|rfl|(congr 2;go_num)
  | true =>
    obtain⟨gs,z,Z⟩:=ev.o rfl;obtain⟨x2,bE,T⟩:=xT D.o.own;have A:=D.o.aC;have F:=A;rw[T] at F;obtain⟨ca,ck,cm,cn,cs,cv,c2,b2⟩:=zt A;have ds:=za (λX (g6:X.heap[a]?=wr.heap[a]?) H=>xj S c s X a x2 I bE bk.o (by omega) (ze (g6.trans F)) (zt (g6.trans F)).2.2.1 H);have er:=za z;have h3:I+1<=maxLen:=(by unfold maxLen;omega);have fr:(I+1)*72<=140737488355328:=(by omega);have fd:=za gs;clear ev a4 z T F;go_upto_block 1 with fail;go_cut [] (λh9=>∃a9 be,aa (VI S c a B p w h9 j q r t u (zx i (!i) s a0).1 (zx i (!i) s a0).2 a9 (I+1) be));case first =>
     go_wp2_with fail;go_region_law (first|(refine rl rfl 191 (.tmp 22) (.tmp 23) 136 78 rfl HL (xP c) (xP a) rfl rfl (ds.o _ rfl D.o.pl.drew) ?_;rintro e X ⟨ns,na,h5,rfl,em,V,ak⟩;refine⟨_,rfl,?_⟩;have G:Fr (·=c) wr X:=ak.cQ;have hQ:=G.size;have bt:=(G.block a (ze A) (by omega)).trans A;obtain⟨f0,f1,f2,f3,f4,f5,io,ip⟩:=zt bt;have E:=za (zi D.o.own (λk h1 h2 _=>G.block k h2 (by omega)));have g2:B<=X.heap.size+1:=(by omega);clear ak)|(refine zJ _ rfl (.tmp 21) (.tmp 25) 141 rfl B 156 i0 _ 7 72 underlying141 hm gc ge gl rfl (by decide) vv I c9 rfl (zD E.o _) (xD X.heap.size 0) 1 1 [.string ns,xI na,xI h5,xI 0,xI 0,.string ⟨#[]⟩,xI 0] rfl rfl (zN (zc X _) rfl) sq h3 fr (by simpa using g2) ?_;intro v' h7 K O b1;obtain⟨it,g4,rfl,hg⟩:=zM K (by omega);have a3:=Fr.gi O;have bL:h7.heap[a]?=X.heap[a]?:=((a3.block a (by rw[au];omega) (λH=>by have:=(E.o.lt a H).1;omega)).trans (Below.heap_alloc _ _ _ (by omega)));have bx:=za (bL.trans bt);obtain⟨m0,m1,m2,m3,m4,m5,i4,i5⟩:=zt bx.o;have eq:=za (PL.fr (V.alloc _) a3 (λk hu=>by have:=(E.o.lt k hu).1;omega));clear O b1 bL));all_goals go_wp2_with fail
     all_goals go_meet
     all_goals exact⟨_,_,Kr i D.o P L fV em G eq.o bx.o K a3⟩
    case rest =>
     obtain⟨b3,b4,h⟩:=hcut;have hR:=h.o.fr.size;have Y:=za h.o.af.bd;generalize g9:zx i (!i) s a0=y at *;have J:=za (hY S c y.1 ⟨#[44]⟩ [44] pL wc Y.o h.o.pl);have ar:y.1.cP [44]=if y.1.is 4 [44]=true then y.1.ad else y.1:=(by unfold St.cP;rw[fm h.o.pl.tx (by decide)]);rw[fm h.o.pl.tx (by decide),ar] at J;clear ca ck cm cn cs cv c2 b2 ar;obtain⟨g,rfl⟩:∃g,gk=g+1:=⟨gk-1,by have:=Z;omega⟩;have z:=er.o;have Q:cK i (g+1) y=if y.1.er=0/\y.1.is 4 [44]=true then cK i g (zx i (!i) y.1.ad y.2) else y:=rfl;rw[Q] at z;cases al:y.1.is 4 [44] with
     | true =>
       have C:y.1.er=0:=Y.o.er (by rw[Inv.bP al];decide);rw[ag ⟨C,al⟩] at z;rw[al,ag rfl] at J;have fx:=ai.ad h.o.af;have g0:y.1.t.a+1<=y.1.ad.t.a:=(by have h1:=h.o.af.tok (by rw[Inv.bP al];decide);have h2:=zV y.1.src y.1.t.t h.o.af.ok.tt;rw[St.dZ C];simp only;omega);have g3:aa (I+1<=m/\cK i g (zx i (!i) y.1.ad y.2)=R/\1201-y.1.ad.t.a<g):=(by have h1:s.t.a<=y.1.t.a:=(by have:=(jX (i:=i) (o:=!i) (ab:=a0) D.o.af).1.ta;rwa [g9] at this);have h2:=Z;have iR:=D.o.af.ok.bR;have i1:=fx.af.ok.bR;have i2:=(h.o.ok C);exact⟨by omega,z,by omega⟩);have eb:=za fx.af;clear z Q al fx g0;go_wp2_with (go_at_call 137;refine J.o.mono ?_;rintro e h6 ⟨rfl,a5,a2⟩);go_roundg g;case measure=>omega
       exact⟨true,y.1.ad,y.2,b3,I+1,b4,rfl,h.o.goes P L eb.o (λ_=>C) a5 a2,by have:=g3.o.1;omega,λ_=>g3.o,λH=>by cases H⟩
     | false =>
       rw[ae (by rw[al];simp)] at z;have es:=za z;rw[al,ae (by simp)] at J;clear z Q al;go_wp2_with (go_at_call 137;refine J.o.mono ?_;rintro e h6 ⟨rfl,a5,a2⟩);go_roundg g;case measure=>omega
       exact⟨false,y.1,y.2,b3,I+1,b4,rfl,h.o.goes P L h.o.af (λH=>H) a5 a2,by have:=fd.o;omega,(λH=>by cases H),λ_=>es.o⟩
end
end Go.Proofs.YtmfkofhgdjechaaGreatDoor
