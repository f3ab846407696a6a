/- Part 3 of the proof. -/
import Derived.Test.YtbicmofihhjgbaaGreatDoorK01
set_option maxRecDepth 100000
set_option maxHeartbeats 8000000
namespace Go.Proofs.YtbicmofihhjgbaaGreatDoor
open Go.Proofs.Tryz
open Go.RowKit
section
variable {l:Xu} {a b e k:Nat} {w:Xw}
theorem so:(⟨#[58]⟩:Xb).toList=[58]:=by decide +kernel
theorem pH:(⟨#[59]⟩:Xb).toList=[59]:=by decide +kernel
theorem r9:(⟨#[98,111,111,108]⟩:Xb).toList=cD:=by decide +kernel
theorem yJ:(⟨#[105,110,116]⟩:Xb).toList=jo:=by decide +kernel
theorem yL:(⟨#[110,111,116]⟩:Xb).toList=eL:=by decide +kernel
theorem Zn:(⟨#[111,110]⟩:Xb).toList=cF:=by decide +kernel
theorem ph (w:Xw):xK 156 #[xI 1] w λe c=>e=.returned (.string ⟨#[98,111,111,108]⟩)/\w=c:=by go_enter func156,ntmps156;go_wp2;go_ret;exact⟨rfl,rfl⟩
theorem rU (w:Xw):xK 156 #[xI 0] w λe c=>e=.returned (.string ⟨#[105,110,116]⟩)/\w=c:=by go_enter func156,ntmps156;go_wp2;go_ret;exact⟨rfl,rfl⟩
theorem jk (c:St):∃(f:Xb) (d:Nat),gr c=.agg #[.string f,xI d]/\(c.t.k=2->f=c.t.s/\d=c.t.a):=by
 by_cases h:c.t.k=2
 . exact⟨c.t.s,c.t.a,by unfold gr;rw[ag h],λ_=>⟨rfl,rfl⟩⟩
 exact⟨⟨#[]⟩,0,by unfold gr;rw[ae h];rfl,λg=>absurd g h⟩
theorem St.sO (s:St){d c:Nat}(f:e≠0):(s.fail e a).fail d c=s.fail e a:=by unfold St.fail;by_cases h:s.er=0 <;> simp[h,f]
theorem St.mR (s:St)(d:k≠1):(s.fail e a).is k l=false:=by
 unfold St.is;have:(s.fail e a).t.k=1:=by unfold St.fail;split <;> rfl
 rw[this];have c:((1:Nat)==k)=false:=by simp;omega
 rw[c];rfl
theorem St.p9 (s:St)(c:e≠0)(d:k≠1):(s.fail e a).ac k l=s.fail e a:=by unfold St.ac;rw[St.mR s d];exact St.sO s c
theorem St.sP (s:St)(c:e≠0):(s.fail e a).name=s.fail e a:=by
 unfold St.name;have:(s.fail e a).t.k=1:=by unfold St.fail;split <;> rfl
 rw[ae (by omega)];exact St.sO s c
def St.bG (c:St)(n:Nat):St:=if n=16 then c.fail 2 c.t.a else c
def pI (d:Xb)(c j i h:Nat)(g:Xb)(f:Nat):Value:=.agg #[.string d,xI c,xI j,xI i,xI h,.string g,xI f]
theorem rn {fn:Func}{p:Tmp}(h:fn.results=#[.cell p 134]){c:Xa}(y:c[p]?.getD undef=xP b){d f g i j m n:Xv}(x:xH w b #[d,f,g,i,j,m,n] 134):(results fn c).run prog w=.ok (.agg #[d,f,g,i,j,m,n]) w:=by obtain⟨o,q,r,s,t,u,v,_⟩:=eK x;simp[results,h,y,go_sem,o,q,r,s,t,u,v]
theorem rF {e:Xy}{B s r p o m j:Xv}(h:xH w b #[B,s,r,p,o,m,j] e)(c d f g i n q:Xv):(((((((w.setCell (xD b 0) c).setCell (xD b 1) d).setCell (xD b 2) f).setCell (xD b 3) g).setCell (xD b 4) i).setCell (xD b 5) n).setCell (xD b 6) q).heap[b]?=some (.cells #[c,d,f,g,i,n,q] e (0,0)):=by have t:xH (w.setCell (xD b 0) c) b #[c,s,r,p,o,m,j] e:=zh _ _ _ _ h;have u:((w.setCell (xD b 0) c).setCell (xD b 1) d).heap[b]?=some (.cells #[c,d,r,p,o,m,j] e (0,0)):=zh _ _ _ _ t;have v:(((w.setCell (xD b 0) c).setCell (xD b 1) d).setCell (xD b 2) f).heap[b]?=some (.cells #[c,d,f,p,o,m,j] e (0,0)):=zh _ _ _ _ u;have x:((((w.setCell (xD b 0) c).setCell (xD b 1) d).setCell (xD b 2) f).setCell (xD b 3) g).heap[b]?=some (.cells #[c,d,f,g,o,m,j] e (0,0)):=zh _ _ _ _ v;have y:(((((w.setCell (xD b 0) c).setCell (xD b 1) d).setCell (xD b 2) f).setCell (xD b 3) g).setCell (xD b 4) i).heap[b]?=some (.cells #[c,d,f,g,i,m,j] e (0,0)):=zh _ _ _ _ x;have z:((((((w.setCell (xD b 0) c).setCell (xD b 1) d).setCell (xD b 2) f).setCell (xD b 3) g).setCell (xD b 4) i).setCell (xD b 5) n).heap[b]?=some (.cells #[c,d,f,g,i,n,j] e (0,0)):=zh _ _ _ _ y;have A:(((((((w.setCell (xD b 0) c).setCell (xD b 1) d).setCell (xD b 2) f).setCell (xD b 3) g).setCell (xD b 4) i).setCell (xD b 5) n).setCell (xD b 6) q).heap[b]?=some (.cells #[c,d,f,g,i,n,q] e (0,0)):=zh _ _ _ _ z;exact A
theorem HR (S:Xs)(j:Nat)(g:St)(w:Xw)(nb:Nat)(x:Xp)(n c:Nat)(bq:bU g)(_hn:n<=100)(bY:nb<w.heap.size)(hc:xC w nb 2 (.slice x n c))(a1:PL S w j g) :
 xK 187 #[xP j,xP nb] w λe w'=>∃O N,e=.returned (pI O N (if ((g.bG n).name.ac 4 [58]).is 5 cD=true then 1 else 0) 0 0 ⟨#[]⟩ 0)/\((g.bG n).t.k=2->O=(g.bG n).t.s/\N=(g.bG n).t.a)/\PL S w' j (z9 ((g.bG n).name.ac 4 [58]))/\Fr (·=j) w w':=by
 have a0:=a1.lt;have bK:xC w 8 0 (.iface 324 (.pointer (some (S 2)))):=a1.gl.e6;have bL:8<w.heap.size:=dD (by decide) a1.gl.size;have aV:w.heap.size<(w.alloc (.cells #[.string ⟨#[]⟩,xI 0,xI 0,xI 0,xI 0,.string ⟨#[]⟩,xI 0] 134)).heap.size:=by simp
 have aL:=zc w (.cells #[.string ⟨#[]⟩,xI 0,xI 0,xI 0,xI 0,.string ⟨#[]⟩,xI 0] 134);by_cases Z:n=16
 . have bB:g.bG n=g.fail 2 g.t.a:=by unfold St.bG;rw[ag Z]
   rw[bB];have bA:((n:Int)==16)=true:=beq_iff_eq.2 (by omega);have bs:=za (bq.fail (e:=2) (by omega));obtain⟨m,y⟩:∃m,(g.fail 2 g.t.a).name.ac 4 [58]=m:=⟨_,rfl⟩;have bC:m=g.fail 2 g.t.a:=(by rw[<- y,St.sP _ (by decide)];exact St.p9 _ (by decide) (by decide));have M:m.is 5 cD=false:=(by rw[bC];exact St.mR _ (by decide));rw[y];have J:z9 m=m.ac 5 jo:=(by unfold z9;rw[ae (by rw[M];simp)]);rw[J,M];clear bC J bB Z;go_enter func187,ntmps187;go_wp2_with (go_at_call 87;refine (li S j g 2 (by decide) _ (a1.alloc _)).mono ?_;rintro e w9 ⟨rfl,bv,bt⟩;have bE:=bv.lt);have bx:=(bt.block w.heap.size aV (by omega)).trans aL;obtain⟨O,N,H,T⟩:=jk (g.fail 2 g.t.a);have R:=za (gG S j (g.fail 2 g.t.a) w9 bs.o bv);rw[H] at R;refine R.o.mono ?_;rintro e p ⟨rfl,r,t⟩;have o:¬w.heap.size=j:=(by omega);have E:=(t.block w.heap.size (ze bx) o).trans bx;have Y:=ze E;have P:aa (Fr (·=j) w p):=Fr.trans (((Fr.refl _ w).alloc _).trans bt) t;have V:=r.lt;have A:=za bs.o.name;have B:=za (zP S j (g.fail 2 g.t.a).name ⟨#[58]⟩ _ so (p.alloc (.cells #[.string O,xI N,xI 0,xI 0,xI 0,.string ⟨#[]⟩,xI 0] 134)) A.o (r.alloc _));rw[fo r.tx (by decide),y] at B;have K:aa (bU m):=(by unfold aa;rw[<- y];exact A.o.ac 4 [58]);clear t H R;go_wp2_with fail;refine B.o.mono ?_;rintro e w2 ⟨rfl,d,i⟩;have f:¬p.heap.size=j:=(by omega);have F:=(i.block w.heap.size (by simp;omega) o).trans ((Below.heap_alloc _ _ _ Y).trans E);have G:=(i.block p.heap.size (by simp) f).trans (zc p _);have Q:aa (Fr (·=j) w w2):=(P.o.alloc _).trans i;have ab:=d.lt;have s:=za (hY S j m ⟨#[98,111,111,108]⟩ _ r9 w2 K.o d);rw[MH d.tx (by decide),M] at s;have I:m.cP cD=m:=(by unfold St.cP;rw[MH d.tx (by decide),M];rfl);rw[I] at s;clear i I;have C:=za (λp h=>zP S j m ⟨#[105,110,116]⟩ _ yJ p K.o h);have W:=d.tx;rw[nI W (by decide)] at C;clear W;go_wp2_with (first|(go_at_call 156;first|(with_reducible refine (ph _).mono ?_;rintro e w' ⟨rfl,rfl⟩)|(with_reducible refine (rU _).mono ?_;rintro e w' ⟨rfl,rfl⟩))|(go_at_call 153;refine s.o.mono ?_;rintro e w3 ⟨rfl,D,q⟩;have u:=(q.block w.heap.size (ze F) o).trans F;have z:=(q.block p.heap.size (ze G) f).trans G;obtain⟨a2,a3,a4,a5,a6,a9,bb,be,bg⟩:=eK u;obtain⟨b0,b1,b2,b3,b4,bk,bl,bo,bp⟩:=eK z;have ar:=D.lt));refine (C.o _ D).mono ?_;rintro e w4 ⟨rfl,aA,L⟩;have U:=(L.block w.heap.size (ze u) o).trans u;have X:=(L.block p.heap.size (ze z) f).trans z;clear a2 a3 a4 a5 a6 a9 bb be bg b0 b1 b2 b3 b4 bk bl bo bp;obtain⟨a2,a3,a4,a5,a6,a9,bb,be,bg⟩:=eK U;obtain⟨b0,b1,b2,b3,b4,bk,bl,bo,bp⟩:=eK X;clear X;go_wp2_with fail;refine bodyPost_ret (v:=pI O N 0 0 0 ⟨#[]⟩ 0) (rn rfl rfl (rF U _ _ _ _ _ _ _)) rfl ⟨O,N,by first|rfl|(rw[M];rfl),T,?_,?_⟩
   . (repeat (with_reducible refine PL.aU ?_ a0 _ _));exact aA
   (repeat (with_reducible refine Fr.aO ?_ (an _) _ _));exact (Q.o.trans q).trans L
 have bB:g.bG n=g:=by unfold St.bG;rw[ae Z]
 rw[bB];have bA:((n:Int)==16)=false:=bf.2 (by omega);obtain⟨m,y⟩:∃m,g.name.ac 4 [58]=m:=⟨_,rfl⟩;rw[y];clear Z bB;cases M:m.is 5 cD with
 | true =>
   have J:z9 m=m.ad:=(by unfold z9;rw[ag M]);rw[J];clear J;go_enter func187,ntmps187;go_wp2_with fail;obtain⟨O,N,H,T⟩:=jk g;have R:=za (gG S j g (w.alloc (.cells #[.string ⟨#[]⟩,xI 0,xI 0,xI 0,xI 0,.string ⟨#[]⟩,xI 0] 134)) bq (a1.alloc _));rw[H] at R;refine R.o.mono ?_;rintro e p ⟨rfl,r,t⟩;have o:¬w.heap.size=j:=(by omega);have E:=(t.block w.heap.size aV o).trans aL;have Y:=ze E;have P:aa (Fr (·=j) w p):=Fr.trans ((Fr.refl _ w).alloc _) t;have V:=r.lt;have A:=za bq.name;have B:=za (zP S j g.name ⟨#[58]⟩ _ so (p.alloc (.cells #[.string O,xI N,xI 0,xI 0,xI 0,.string ⟨#[]⟩,xI 0] 134)) A.o (r.alloc _));rw[fo r.tx (by decide),y] at B;have K:aa (bU m):=(by unfold aa;rw[<- y];exact A.o.ac 4 [58]);clear t H R;go_wp2_with fail;refine B.o.mono ?_;rintro e w2 ⟨rfl,d,i⟩;have f:¬p.heap.size=j:=(by omega);have F:=(i.block w.heap.size (by simp;omega) o).trans ((Below.heap_alloc _ _ _ Y).trans E);have G:=(i.block p.heap.size (by simp) f).trans (zc p _);have Q:aa (Fr (·=j) w w2):=(P.o.alloc _).trans i;have ab:=d.lt;have s:=za (hY S j m ⟨#[98,111,111,108]⟩ _ r9 w2 K.o d);rw[MH d.tx (by decide),M] at s;have I:m.cP cD=m.ad:=(by unfold St.cP;rw[MH d.tx (by decide),M];rfl);rw[I] at s;clear i I;go_wp2_with (first|(go_at_call 156;refine (ph _).mono ?_;rintro e w' ⟨rfl,rfl⟩)|(go_at_call 153;refine s.o.mono ?_;rintro e w3 ⟨rfl,D,q⟩;have u:=(q.block w.heap.size (ze F) o).trans F;have z:=(q.block p.heap.size (ze G) f).trans G;obtain⟨a2,a3,a4,a5,a6,a9,bb,be,bg⟩:=eK u;obtain⟨b0,b1,b2,b3,b4,bk,bl,bo,bp⟩:=eK z;have ar:=D.lt));refine bodyPost_ret (v:=pI O N 1 0 0 ⟨#[]⟩ 0) (rn rfl rfl (rF (zr (by omega) u) _ _ _ _ _ _ _)) rfl ⟨O,N,by first|rfl|(rw[M];rfl),T,?_,?_⟩
   . (repeat (with_reducible refine PL.aU ?_ a0 _ _));exact D.aU V _ _
   (repeat (with_reducible refine Fr.aO ?_ (an _) _ _));exact (Q.o.trans q).aO (by omega) _ _
 | false =>
   have J:z9 m=m.ac 5 jo:=(by unfold z9;rw[ae (by rw[M];simp)]);rw[J];clear J;go_enter func187,ntmps187;go_wp2_with fail;obtain⟨O,N,H,T⟩:=jk g;have R:=za (gG S j g (w.alloc (.cells #[.string ⟨#[]⟩,xI 0,xI 0,xI 0,xI 0,.string ⟨#[]⟩,xI 0] 134)) bq (a1.alloc _));rw[H] at R;refine R.o.mono ?_;rintro e p ⟨rfl,r,t⟩;have o:¬w.heap.size=j:=(by omega);have E:=(t.block w.heap.size aV o).trans aL;have Y:=ze E;have P:aa (Fr (·=j) w p):=Fr.trans ((Fr.refl _ w).alloc _) t;have V:=r.lt;have A:=za bq.name;have B:=za (zP S j g.name ⟨#[58]⟩ _ so (p.alloc (.cells #[.string O,xI N,xI 0,xI 0,xI 0,.string ⟨#[]⟩,xI 0] 134)) A.o (r.alloc _));rw[fo r.tx (by decide),y] at B;have K:aa (bU m):=(by unfold aa;rw[<- y];exact A.o.ac 4 [58]);clear t H R;go_wp2_with fail;refine B.o.mono ?_;rintro e w2 ⟨rfl,d,i⟩;have f:¬p.heap.size=j:=(by omega);have F:=(i.block w.heap.size (by simp;omega) o).trans ((Below.heap_alloc _ _ _ Y).trans E);have G:=(i.block p.heap.size (by simp) f).trans (zc p _);have Q:aa (Fr (·=j) w w2):=(P.o.alloc _).trans i;have ab:=d.lt;have s:=za (hY S j m ⟨#[98,111,111,108]⟩ _ r9 w2 K.o d);rw[MH d.tx (by decide),M] at s;have I:m.cP cD=m:=(by unfold St.cP;rw[MH d.tx (by decide),M];rfl);rw[I] at s;clear i I;have C:=za (λp h=>zP S j m ⟨#[105,110,116]⟩ _ yJ p K.o h);have W:=d.tx;rw[nI W (by decide)] at C;clear W;go_wp2_with (first|(go_at_call 156;first|(with_reducible refine (ph _).mono ?_;rintro e w' ⟨rfl,rfl⟩)|(with_reducible refine (rU _).mono ?_;rintro e w' ⟨rfl,rfl⟩))|(go_at_call 153;refine s.o.mono ?_;rintro e w3 ⟨rfl,D,q⟩;have u:=(q.block w.heap.size (ze F) o).trans F;have z:=(q.block p.heap.size (ze G) f).trans G;obtain⟨a2,a3,a4,a5,a6,a9,bb,be,bg⟩:=eK u;obtain⟨b0,b1,b2,b3,b4,bk,bl,bo,bp⟩:=eK z;have ar:=D.lt));refine (C.o _ D).mono ?_;rintro e w4 ⟨rfl,aA,L⟩;have U:=(L.block w.heap.size (ze u) o).trans u;have X:=(L.block p.heap.size (ze z) f).trans z;clear a2 a3 a4 a5 a6 a9 bb be bg b0 b1 b2 b3 b4 bk bl bo bp;obtain⟨a2,a3,a4,a5,a6,a9,bb,be,bg⟩:=eK U;obtain⟨b0,b1,b2,b3,b4,bk,bl,bo,bp⟩:=eK X;clear X;go_wp2_with fail;refine bodyPost_ret (v:=pI O N 0 0 0 ⟨#[]⟩ 0) (rn rfl rfl (rF U _ _ _ _ _ _ _)) rfl ⟨O,N,by first|rfl|(rw[M];rfl),T,?_,?_⟩
   . (repeat (with_reducible refine PL.aU ?_ a0 _ _));exact aA
   (repeat (with_reducible refine Fr.aO ?_ (an _) _ _));exact (Q.o.trans q).trans L
end
section
theorem HS (k:Int)(s:Xb)(a n:Int)(w:Xw):(Instr.field 79 (.agg #[xI k,.string s,xI a,xI n]) 2).run prog w=.ok (xI a) w:=by kernel_rfl
theorem xt {fn:Func}{p:Tmp}(h:fn.results=#[.cell p 132]){a:Xa}{b:Nat}{w:Xw}(m:a[p]?.getD undef=xP b){c d e f:Xv}(l:xH w b #[c,d,e,f] 132):(results fn a).run prog w=.ok (.agg #[c,d,e,f]) w:=by obtain⟨g,i,j,k,_⟩:=zU l;simp[results,h,m,go_sem,g,i,j,k]
theorem KE (S:Xs)(d:Nat)(l:St)(w:Xw)(N:bU l)(Z:l.t.k=5)(O:PL S w d l) :
 xK 188 #[xP d] w λe w'=>∃(u:Xb) (t:Nat),e=.returned (.agg #[xI (if l.ad.is 5 eL=true then 2 else 1),xI l.t.a,.string u,xI t])/\((aS l.ad).t.k=2->u=(aS l.ad).t.s/\t=(aS l.ad).t.a)/\PL S w' d (aS l.ad).name/\Fr (·=d) w w':=by
 have L:=O.lt;have m:¬w.heap.size=d:=by omega
 have aA:=HS;have P:=za (kI N (by omega:l.t.k≠1));have n:=za N.ad;obtain⟨f,M⟩:∃f,l.ad=f:=⟨_,rfl⟩;rw[M] at P n;rw[M];cases H:f.is 5 eL with
 | true =>
   have X:aS f=f.ad:=(by unfold aS;rw[ag H]);rw[X];obtain⟨u,t,D,C⟩:=jk f.ad;have J:=za (λg h=>gG S d f.ad g n.o.ad h);rw[D] at J;go_enter func188,ntmps188;go_wp2_with fail;refine (jV S d l _ N.ok (by rw[Z];decide) (O.alloc _)).mono ?_;rintro e g ⟨rfl,a,s⟩;rw[P.o] at a;have p:=(s.block w.heap.size (by simp) m).trans (zc w _);have G:=ze p;have b:=a.lt;have c:¬g.heap.size=d:=(by omega);have x:aa (Fr (·=d) w g):=((Fr.refl _ w).alloc _).trans s;have o:=za (λI h=>hY S d f ⟨#[110,111,116]⟩ _ yL I n.o h);have F:f.cP eL=f.ad:=(by unfold St.cP;rw[MH a.tx (by decide),H];rfl);rw[MH a.tx (by decide),H,F] at o;simp only[Tk.dX];go_wp2_with (go_at_call 153;refine (o.o _ (a.alloc _)).mono ?_;rintro e I ⟨rfl,A,j⟩;have q:=(j.block w.heap.size (by rw[au];omega) m).trans ((Below.heap_alloc _ _ _ G).trans p);have i:=(j.block g.heap.size (by rw[au];omega) c).trans (zc g _);obtain⟨Q,R,T,U,V,W⟩:=zU i;have y:=za ((x.o.alloc _).trans j));have K:=zh I g.heap.size 0 (xI 2) i;refine (J.o _ (A.aU b _ _)).mono ?_;rintro e Y ⟨rfl,B,k⟩;have r:=(k.block w.heap.size (by simp[World.setCell];exact ze q) m).trans (zr (by omega) q);have E:=(k.block g.heap.size (by simp[World.setCell];exact ze i) c).trans K;have z:aa (Fr (·=d) w Y):=(y.o.aO (by omega) _ _).trans k;obtain⟨Q,R,T,U,V,W⟩:=zU E;obtain⟨a0,a1,a2,a3,ab,ar⟩:=zU r;go_wp2_with fail;refine bodyPost_ret (v:=.agg #[xI 2,xI l.t.a,.string u,xI t]) (xt rfl rfl (kB (zr (by omega) (zr (by omega) r)) _ _ _ _)) rfl ⟨u,t,rfl,C,?_,?_⟩
   . (repeat (with_reducible refine PL.aU ?_ L _ _));exact (B.aU b _ _).aU b _ _
   (repeat (with_reducible refine Fr.aO ?_ (an _) _ _));exact (z.o.aO (by omega) _ _).aO (by omega) _ _
 | false =>
   have X:aS f=f:=(by unfold aS;rw[ae (by rw[H];simp)]);rw[X];obtain⟨u,t,D,C⟩:=jk f;have J:=za (λg h=>gG S d f g n.o h);rw[D] at J;go_enter func188,ntmps188;go_wp2_with fail;refine (jV S d l _ N.ok (by rw[Z];decide) (O.alloc _)).mono ?_;rintro e g ⟨rfl,a,s⟩;rw[P.o] at a;have p:=(s.block w.heap.size (by simp) m).trans (zc w _);have G:=ze p;have b:=a.lt;have c:¬g.heap.size=d:=(by omega);have x:aa (Fr (·=d) w g):=((Fr.refl _ w).alloc _).trans s;have o:=za (λI h=>hY S d f ⟨#[110,111,116]⟩ _ yL I n.o h);have F:f.cP eL=f:=(by unfold St.cP;rw[MH a.tx (by decide),H];rfl);rw[MH a.tx (by decide),H,F] at o;simp only[Tk.dX];go_wp2_with (go_at_call 153;refine (o.o _ (a.alloc _)).mono ?_;rintro e I ⟨rfl,A,j⟩;have q:=(j.block w.heap.size (by rw[au];omega) m).trans ((Below.heap_alloc _ _ _ G).trans p);have i:=(j.block g.heap.size (by rw[au];omega) c).trans (zc g _);obtain⟨Q,R,T,U,V,W⟩:=zU i;have y:=za ((x.o.alloc _).trans j));refine (J.o _ A).mono ?_;rintro e Y ⟨rfl,B,k⟩;have r:=(k.block w.heap.size (ze q) m).trans q;have E:=(k.block g.heap.size (ze i) c).trans i;have z:aa (Fr (·=d) w Y):=y.o.trans k;obtain⟨Q,R,T,U,V,W⟩:=zU E;obtain⟨a0,a1,a2,a3,ab,ar⟩:=zU r;go_wp2_with fail;refine bodyPost_ret (v:=.agg #[xI 1,xI l.t.a,.string u,xI t]) (xt rfl rfl (kB (zr (by omega) (zr (by omega) r)) _ _ _ _)) rfl ⟨u,t,rfl,C,?_,?_⟩
   . (repeat (with_reducible refine PL.aU ?_ L _ _));exact (B.aU b _ _).aU b _ _
   (repeat (with_reducible refine Fr.aO ?_ (an _) _ _));exact (z.o.aO (by omega) _ _).aO (by omega) _ _
theorem xA {d:Nat}{f:FuncId}{part:Fn}(q:zH f)(O:zX d f part)(M:zv d part)(S:Xs)(c:Nat)(b:St)(p:Nat)(w:Xw)(a:Xp)(x k B:Nat)(t:Inv p b)(Q:18<=b.op+d)(R:4<=b.t.k)(ab:aF b.t.s.toList 0=k)(n:PL S w c b)(hB:B<=w.heap.size)(ar:c<B)(P:b.er=0->TR w B b.L x (.pointer a)) :
 xK 227 #[xP c,.pointer a,xI k,.func (.func f) #[xP c] #[]] w (ef S c B w ((part b.ad).1.put ⟨b.t.s,b.t.a,0,[x,(part b.ad).2],sE,0⟩).1 ((part b.ad).1.put ⟨b.t.s,b.t.a,0,[x,(part b.ad).2],sE,0⟩).2):=by
 have G:=t.bd.er (by omega);have C:=ai.gj t G (by omega);have Z:=M b.ad (p+1) C.af (by rw[St.bQ];exact Q);have T:=za t.bd;have V:=za (P G);have U:=za (λK D=>O S c b.ad (p+1) K C.af (by rw[St.bQ];exact Q) D);have X:=za (kI t.bd (by omega:b.t.k≠1));obtain⟨q0,aV,q2,q3,q4,q5,q6⟩:=n.cells;have I:=n.lt;have hf:=n.frozen;have W:aa (zH f):=q;unfold zH at q;clear O M P G C;go_enter func227,ntmps227;go_wp2_with (first|(go_at_call 208;refine (kC S c b k _ n).mono ?_;rintro e w' ⟨rfl,rfl⟩)|(go_at_call 186;refine (jV S c b _ T.o.ok (aJ (by decide) R) (n.alloc _)).mono ?_;rintro e K ⟨rfl,m,j⟩;rw[X.o] at m));have s:¬w.heap.size=c:=by omega
 have l:=(j.block w.heap.size (Nat.lt_of_lt_of_eq (cf _) (by simp)) s).trans (zc w _);have J:w.heap.size<K.heap.size:=ze l;refine (U.o _ m).mono ?_;rintro e i ⟨L,rfl,A,F,h⟩;have o:=(h.block w.heap.size J s).trans l;obtain⟨d0,d1,d2,d3,d4,d5,aL,Y⟩:=zt o;have aA:=h.size;clear l;go_wp2_with fail;go_ret;refine⟨some (xD w.heap.size 0),rfl,((A.aU I _ _).alloc _).put _,?_,((((((Fr.refl _ w).alloc _).trans j).trans h).aO (an _) _ _).alloc _)⟩;intro H;obtain⟨E,N⟩:=Z.L;have t2:=F.out H;rw[St.bu] at N;have r:(i.setCell (xD w.heap.size 5) (xS i.heap.size 2 2)).heap.size=i.heap.size:=by simp[World.setCell]
 refine TR.two (y:=x) (z:=(part b.ad).2) (g:=i.heap.size) (u:=.pointer a) (v:=.pointer L) hB (by omega) ?_ ?_ rfl ?_ ?_
 . show _=some (Obj.cells #[xI (aF b.t.s.toList 0:Nat),xI b.t.a,.string ⟨#[]⟩,xI (0:Nat),xI (df b.t.s.toList 0:Nat),xS i.heap.size 2 2] 226 (0,0));rw[ab,jY];exact (Below.heap_alloc _ _ _ (by rw[r];exact Y)).trans (zh _ _ _ _ o)
 . have:=zc (i.setCell (xD w.heap.size 5) (xS i.heap.size 2 2)) (.cells #[.pointer a,.pointer L] 182);rw[r] at this;exact this
 . rw[N];exact (V.o.fr ((((((Fr.refl (·=c) w).alloc _).trans j).trans h).aO (an _) _ _).alloc _) (λk D _ h2=>by omega)).more E
 exact (t2.fr (((Fr.refl (·=w.heap.size) i).aY _ _).alloc _) (λk D _ h2=>by omega)).down (by omega)
end
section
variable {l:Xu} {a:St}
def nU (c:Nat)(b:Xn):Prop:=∀a:St,a.t.k<=5->dC a b=if et a.t c=true then some (aF a.t.s.toList 0) else none
theorem K5 (b:a.t.k≠4)(c:a.t.k≠5):a.ej l=false:=by unfold St.ej;simp[b,c]
theorem nQ (h:a.t.k=4∨a.t.k=5):a.ej l=(a.t.s.toList==l):=by unfold St.ej;rcases h with h|h <;> simp[h]
theorem nM (c:a.t.k≠4)(d:a.t.k≠5):∀b,dC a b=none:=by
 intro b;induction b with
 | nil=>rfl
 | cons k b e=>show (if a.ej (wd k).toList=true then some k else dC a b)=none;rw[K5 c d,e];rfl
theorem ku:(wd 7).toList=[119,104,101,110]/\(wd 8).toList=[119,104,101,110,111,116]/\(wd 10).toList=[45]/\(wd 11).toList=[110,111,116]/\(wd 12).toList=[97,110,100]/\(wd 13).toList=[111,114]/\(wd 14).toList=[120,111,114]/\(wd 15).toList=[61]/\(wd 16).toList=[60,62]/\(wd 17).toList=[60]/\(wd 18).toList=[60,61]/\(wd 19).toList=[43]/\(wd 20).toList=[45]/\(wd 21).toList=[42]/\(wd 22).toList=[47]/\(wd 23).toList=[37]/\(wd 1).toList=[116,114,117,101]/\(wd 2).toList=[102,97,108,115,101]:=by decide +kernel
theorem J9:nU 0 [13,14]:=by
 intro a f;obtain⟨_,_,_,_,_,b,c,_⟩:=ku;by_cases h:a.t.k=4∨a.t.k=5
 . rw[nJ h];simp only[dC,nQ h,b,c];by_cases d:a.t.s.toList=[111,114]
   . rw[d];decide
   by_cases e:a.t.s.toList=[120,111,114]
   . rw[e];decide
   have:iH a.t.s.toList 0=false:=by unfold iH;rw[ae (by simp[d,e])];(repeat' split) <;> rfl
   rw[this];simp[d,e]
 rw[nM (by omega) (by omega),mi (by omega)];rfl
theorem Kw:nU 1 [12]:=by
 intro a d;obtain⟨_,_,_,_,b,_⟩:=ku;by_cases h:a.t.k=4∨a.t.k=5
 . rw[nJ h];simp only[dC,nQ h,b];by_cases c:a.t.s.toList=[97,110,100]
   . rw[c];decide
   have:iH a.t.s.toList 1=false:=by unfold iH;(repeat' split) <;> first|rfl|contradiction
   rw[this];simp[c]
 rw[nM (by omega) (by omega),mi (by omega)];rfl
theorem X2:nU 2 [19,20]:=by
 intro a f;obtain⟨_,_,_,_,_,_,_,_,_,_,_,b,c,_⟩:=ku;by_cases h:a.t.k=4∨a.t.k=5
 . rw[nJ h];simp only[dC,nQ h,b,c];by_cases d:a.t.s.toList=[43]
   . rw[d];decide
   by_cases e:a.t.s.toList=[45]
   . rw[e];decide
   have:iH a.t.s.toList 2=false:=by unfold iH;(repeat' split) <;> first|rfl|(exfalso;simp_all;done)
   rw[this];simp[d,e]
 rw[nM (by omega) (by omega),mi (by omega)];rfl
theorem Kv:nU 3 [21,22,23]:=by
 intro a i;obtain⟨_,_,_,_,_,_,_,_,_,_,_,_,_,b,c,d,_⟩:=ku;by_cases h:a.t.k=4∨a.t.k=5
 . rw[nJ h];simp only[dC,nQ h,b,c,d];by_cases e:a.t.s.toList=[42]
   . rw[e];decide
   by_cases f:a.t.s.toList=[47]
   . rw[f];decide
   by_cases g:a.t.s.toList=[37]
   . rw[g];decide
   have:iH a.t.s.toList 3=false:=by unfold iH;(repeat' split) <;> first|rfl|(exfalso;simp_all;done)
   rw[this];simp[e,f,g]
 rw[nM (by omega) (by omega),mi (by omega)];rfl
end
section
variable {b:Xn}
def nT (w:Xw)(a:Nat)(b:Xn):Prop:=∀(i k:Nat),b[i]?=some k->w.cell? (xD a i)=some (xI k)
theorem nT.fr {w e:Xw}{a d:Nat}(h:nT w a b)(f:Fr (·=d) w e)(c:¬a=d)(j:a<w.heap.size):nT e a b:=λi k g=>((sw f).1 a i j c).trans (h i k g)
theorem pn {d:Nat}{f:FuncId}{part:Fn}{o:Nat}(I:zH f)(a0:zX d f part)(aL:zv d part)(M:nU o b)(a3:b.length<=100)(aV:∀k∈b,k<24)
 (S:Xs) (s:Nat) (q:St) (p:Nat) (w:Xw) (P n:Nat) (bg:n=b.length) (bb:Inv p q) (a5:18<=q.op+d) (hR:PL S w s q) (hK:nT w P b) (bA:s<P) (L:P<w.heap.size) :
 xK 218 #[xP s,.func (.func f) #[xP s] #[],xS P n n] w (ef S s w.heap.size w (eo o part q).1 (eo o part q).2):=by
 have T:=aL q p bb a5;have bo:=za (a0 S s q p w bb a5 hR);have hM:eo o part q=dx o part 1300 (part q):=rfl;rw[hM];have a4:=hR.lt;have bp:=za hK;have bl:=za T.af;have bB:=za T.num;have bt:aa (18<=(part q).1.op+d):=by unfold aa;rw[T.op];exact a5
 have bs:=za bg;have bq:=za a0;have a9:=za aL;have ab:=za M;have aA:=za I;unfold zH at I;clear hR hM T hK bg a0 aL M;generalize part q=x0 at *;obtain⟨R,m⟩:∃R,dx o part 1300 x0=R:=⟨_,rfl⟩;rw[m];have A:=za m;clear m;go_enter func218,ntmps218;go_wp2_with fail;refine bo.o.mono ?_;rintro e w1 ⟨bv,rfl,F,a1,D⟩;have Y:=za F;have V:=za D;clear F D;go_wp2_with fail;go_loopg [7] 1300 (λk l wr=>∃(x:St×Nat) (a:Xp),l=.pointer a/\aa (dx o part k x=R)/\rem x.1<k/\aa (Inv p x.1)/\aa (18<=x.1.op+d)/\aa (PL S wr s x.1)/\aa (x.1.er=0->TR wr w.heap.size x.1.L x.2 (.pointer a))/\aa (Fr (·=s) w wr));case atStart => refine⟨x0,bv,rfl,A.o,?_,bl.o,bt.o,Y.o,a1.out,V.o⟩;unfold rem;split <;> omega
 case round =>
  obtain⟨x,a,rfl,Q,bk,c,v,u,B,t⟩:=hrel;have be:=u.o.lt;obtain⟨g,rfl⟩:∃g,gk=g+1:=⟨gk-1,by omega⟩;have i:=za (kF S s x.1 P n b bs.o a3 wr (bp.o.fr t.o (by omega) L) aV c.o.ok.tk u.o);have j:=ab.o x.1 c.o.ok.tk;have a6:=t.o.size;cases r:et x.1.t o with
  | false =>
    rw[r,ae (by simp)] at j;have H:R=x:=by
     rw[<- Q.o]
     show (if x.1.er=0/\et x.1.t o=true then _ else x)=x;rw[ae (by rw[r];simp)]
    have ar:=za H;rw[j] at i;simp only[fR] at i;clear r j H Q;go_wp2_with (go_at_call 226;refine i.o.mono ?_;rintro e w' ⟨rfl,rfl⟩);go_ret;rw[ar.o];exact⟨a,rfl,u.o,B.o,t.o⟩
  | true =>
    rw[r,ag rfl] at j;have K:4<=x.1.t.k:=by
     rcases Nat.lt_or_ge x.1.t.k 4 with h|h
     . rw[mi (by omega)] at r;cases r
     exact h
    have J:=c.o.bd.er (by omega);have e3:=ai.gj c.o J (nS r);have C:=a9.o x.1.ad (p+1) e3.af (by rw[St.bQ];exact v.o);have X:aa (dx o part g ((part x.1.ad).1.put ⟨x.1.t.s,x.1.t.a,0,[x.2,(part x.1.ad).2],sE,0⟩)=R):=by
     have h:=Q.o;unfold aa;rw[<- h]
     show _=(if x.1.er=0/\et x.1.t o=true then _ else x);rw[ag ⟨J,r⟩]
    have O:aa (Inv p ((part x.1.ad).1.put ⟨x.1.t.s,x.1.t.a,0,[x.2,(part x.1.ad).2],sE,0⟩).1):=(ai.put C.af _).af;have N:aa (18<=((part x.1.ad).1.put ⟨x.1.t.s,x.1.t.a,0,[x.2,(part x.1.ad).2],sE,0⟩).1.op+d):=(by unfold aa;show 18<=(part x.1.ad).1.op+d;rw[C.op,St.bQ];exact v.o);have z:aa (rem ((part x.1.ad).1.put ⟨x.1.t.s,x.1.t.a,0,[x.2,(part x.1.ad).2],sE,0⟩).1<g):=by
     unfold aa rem
     show (if (part x.1.ad).1.er=0 then 1201-(part x.1.ad).1.t.a else 0)<g;have h1:rem x.1=1201-x.1.t.a:=(by unfold rem;rw[ag J]);have h2:=C.ta;have h3:x.1.t.a+1<=x.1.ad.t.a:=(by have:=c.o.tok (nS r);rw[St.dZ J];have hf:=zV x.1.src x.1.t.t c.o.ok.tt;simp only;omega);have h4:=C.af.ok.bR;have h5:=c.o.ok.bR;split <;> omega
    have U:=za (xA aA.o bq.o a9.o S s x.1 p wr a x.2 _ w.heap.size c.o v.o K rfl u.o a6 a4 B.o);rw[j] at i;simp only[fR] at i;clear r j Q J e3 C K;generalize (part x.1.ad).1.put ⟨x.1.t.s,x.1.t.a,0,[x.2,(part x.1.ad).2],sE,0⟩=y at *;generalize aF x.1.t.s.toList 0=kk at *;go_wp2_with (first|(go_at_call 226;refine i.o.mono ?_;rintro e w' ⟨rfl,rfl⟩)|(go_at_call 227;refine U.o.mono ?_;rintro e w3 ⟨bx,rfl,G,a2,E⟩;have Z:=za G;have W:=za E;clear G E));go_roundg g;case measure=>omega
    exact⟨y,bx,rfl,X,z.out,O,N,Z.o,a2.out,t.o.trans W.o⟩
end
section
variable {part:Fn} {d:Nat}
theorem iF (w:Xw)(b:Xn)(a:Xa)(t:Xy)(h:a=(b.map λk:Nat=>(xI (k:Int))).toArray):nT (w.alloc (.cells a t)) w.heap.size b:=by intro i k c;subst h;have:=zc w (.cells (b.map λk:Nat=>(xI (k:Int))).toArray t);unfold World.cell?;rw[this];simp[c]
theorem ef.alloc {S:Xs}{c B:Nat}{w:Xw}{o:Obj}{b:St}{r:Nat}{e:Ending}{f:Xw}(h:ef S c B (w.alloc o) b r e f)(l:w.heap.size<=B):ef S c w.heap.size w b r e f:=by obtain⟨a,g,i,j,k⟩:=h;exact⟨a,g,i,λm=>(j.out m).down l,((Fr.refl _ w).alloc o).trans k⟩
theorem jg (w:Xw)(o:Obj):w.heap.size<=(w.alloc o).heap.size:=by simp
theorem KR:zH 219:=λ_ _=>by kernel_rfl
theorem Iu (n:zX d 219 part)(h:zv d part):zX d 207 (eo 0 part):=by intro S q f p w m o c;have b:=c.lt;have g:=za (pn KR n h J9 (by decide) (by decide) S q f p (w.alloc (.cells #[xI 13,xI 14] 223)) w.heap.size 2 rfl m o (c.alloc _) (iF w [13,14] _ _ rfl) b (by simp));generalize eo 0 part f=R at *;go_enter func207,ntmps207;go_wp2_with fail;refine g.o.mono ?_;rintro e r i;obtain⟨a,rfl,j,k,l⟩:=i.alloc (jg _ _);go_wp2_with fail;go_ret;exact⟨a,rfl,j,k,l⟩
theorem KY:zH 228:=λ_ _=>by kernel_rfl
theorem JC (n:zX d 228 part)(h:zv d part):zX d 219 (eo 1 part):=by intro S q f p w m o c;have b:=c.lt;have g:=za (pn KY n h Kw (by decide) (by decide) S q f p (w.alloc (.cells #[xI 12] 223)) w.heap.size 1 rfl m o (c.alloc _) (iF w [12] _ _ rfl) b (by simp));generalize eo 1 part f=R at *;go_enter func219,ntmps219;go_wp2_with fail;refine g.o.mono ?_;rintro e r i;obtain⟨a,rfl,j,k,l⟩:=i.alloc (jg _ _);go_wp2_with fail;go_ret;exact⟨a,rfl,j,k,l⟩
theorem HX:zH 237:=λ_ _=>by kernel_rfl
theorem J5 (n:zX d 237 part)(h:zv d part):zX d 234 (eo 2 part):=by intro S q f p w m o c;have b:=c.lt;have g:=za (pn HX n h X2 (by decide) (by decide) S q f p (w.alloc (.cells #[xI 19,xI 20] 223)) w.heap.size 2 rfl m o (c.alloc _) (iF w [19,20] _ _ rfl) b (by simp));generalize eo 2 part f=R at *;go_enter func234,ntmps234;go_wp2_with fail;refine g.o.mono ?_;rintro e r i;obtain⟨a,rfl,j,k,l⟩:=i.alloc (jg _ _);go_wp2_with fail;go_ret;exact⟨a,rfl,j,k,l⟩
theorem Jf:zH 238:=λ_ _=>by kernel_rfl
theorem H6 (n:zX d 238 part)(h:zv d part):zX d 237 (eo 3 part):=by intro S q f p w m o c;have b:=c.lt;have g:=za (pn Jf n h Kv (by decide) (by decide) S q f p (w.alloc (.cells #[xI 21,xI 22,xI 23] 223)) w.heap.size 3 rfl m o (c.alloc _) (iF w [21,22,23] _ _ rfl) b (by simp));generalize eo 3 part f=R at *;go_enter func237,ntmps237;go_wp2_with fail;refine g.o.mono ?_;rintro e r i;obtain⟨a,rfl,j,k,l⟩:=i.alloc (jg _ _);go_wp2_with fail;go_ret;exact⟨a,rfl,j,k,l⟩
theorem KC:zH 234:=λ_ _=>by kernel_rfl
theorem yx (a:St)(_hk:a.t.k<=5)(l:Tx a.src a.t):dC a [15,16,17,18]=if eh a.t=true then some (aF a.t.s.toList 0) else none:=by
 obtain⟨_,_,_,_,_,_,_,c,e,f,g,_⟩:=ku;by_cases h:a.t.k=4∨a.t.k=5
 . simp only[dC,nQ h,c,e,f,g];by_cases hq:a.t.s.toList=[61]∨a.t.s.toList=[60,62]∨a.t.s.toList=[60]∨a.t.s.toList=[60,61]
   . have b:a.t.k=4:=by
      rcases h with h|h
      . exact h
      have:=l.kw h;unfold ep at this;rcases hq with hq|hq|hq|hq <;> (rw[hq] at this;exact absurd this (by decide))
     unfold eh;rw[b];rcases hq with hq|hq|hq|hq <;> (rw[hq];decide)
   simp only[not_or] at hq;obtain⟨i,j,k,b⟩:=hq;unfold eh;simp[i,j,k,b]
 rw[nM (by omega) (by omega)];have b:(a.t.k==4)=false:=by simp;omega
 have:eh a.t=false:=by unfold eh;rw[b];rfl
 rw[this];rfl
theorem Jw (C:zX d 234 part)(A:zv d part):zX d 228 (ei part):=by
 intro S m c p w E z G;have v:=G.lt;have B:=za (C S m c p w E z G);have D:=A c p E z;have j:=za D.af;have H:aa (18<=(part c).1.op+d):=by unfold aa;rw[D.op];exact z
 have F:ei part c=if (part c).1.er=0/\eh (part c).1.t=true then (part (part c).1.ad).1.put ⟨(part c).1.t.s,(part c).1.t.a,0,[(part c).2,(part (part c).1.ad).2],sE,0⟩ else part c:=rfl;generalize part c=x at *;cases l:eh x.1.t with
 | false => have h:ei part c=x:=(by rw[F,ae (by rw[l];simp)]);rw[h];go_enter func228,ntmps228;go_wp2_with fail;refine B.o.mono ?_;rintro e f ⟨t,rfl,a,i,g⟩;have b:=za (kF S m x.1 f.heap.size 4 [15,16,17,18] rfl (by decide) (f.alloc (.cells #[xI 15,xI 16,xI 17,xI 18] 223)) (iF f _ _ _ rfl) (by decide) j.o.ok.tk (a.alloc _));rw[yx x.1 j.o.ok.tk a.tx,l,ae (by simp)] at b;simp only[fR] at b;go_wp2_with (go_at_call 226;refine b.o.mono ?_;rintro e J ⟨rfl,rfl⟩);go_ret;exact⟨t,rfl,a.alloc _,λn=>(i.out n).fr ((Fr.refl (·=m) f).alloc _) (λk _ _ _=>by omega),g.alloc _⟩
 | true => have s:4<=x.1.t.k:=(by unfold eh at l;simp at l;omega);have n:=j.o.bd.er (by omega);have h:ei part c=(part x.1.ad).1.put ⟨x.1.t.s,x.1.t.a,0,[x.2,(part x.1.ad).2],sE,0⟩:=(by rw[F,ag ⟨n,l⟩]);rw[h];go_enter func228,ntmps228;go_wp2_with fail;refine B.o.mono ?_;rintro e f ⟨t,rfl,a,i,g⟩;have b:=za (kF S m x.1 f.heap.size 4 [15,16,17,18] rfl (by decide) (f.alloc (.cells #[xI 15,xI 16,xI 17,xI 18] 223)) (iF f _ _ _ rfl) (by decide) j.o.ok.tk (a.alloc _));rw[yx x.1 j.o.ok.tk a.tx,l,ag rfl] at b;simp only[fR] at b;have K:=g.size;have o:=za (xA KC C A S m x.1 p (f.alloc (.cells #[xI 15,xI 16,xI 17,xI 18] 223)) t x.2 _ w.heap.size j.o H.o s rfl (a.alloc _) (by simp;omega) v (λn=>(i.out n).fr ((Fr.refl (·=m) f).alloc _) (λk _ _ _=>by omega)));generalize (part x.1.ad).1.put ⟨x.1.t.s,x.1.t.a,0,[x.2,(part x.1.ad).2],sE,0⟩=y at *;generalize aF x.1.t.s.toList 0=L at *;go_wp2_with (first|(go_at_call 226;refine b.o.mono ?_;rintro e J ⟨rfl,rfl⟩)|(go_at_call 227;refine o.o.mono ?_;rintro e M ⟨I,rfl,r,u,q⟩));go_ret;exact⟨I,rfl,r,u,(g.alloc _).trans q⟩
end
end Go.Proofs.YtbicmofihhjgbaaGreatDoor
