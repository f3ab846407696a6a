/- Part 15 of the proof. -/
import Derived.Test.YtmfkofhgdjechaaGreatDoorK13
set_option maxRecDepth 100000
set_option maxHeartbeats 8000000
namespace Go.Proofs.YtmfkofhgdjechaaGreatDoor
open Go.Proofs.Tryz
section
open Go.RowKit
variable {m:Xm} {N b l:Nat} {f:Xp} {d:Sc} {o:Xv} {W w j:Xw}
attribute [local go_sem ↓] Go.wp_at_zero Go.wp_at_succ
structure ki (w:Xw) (N:Nat) (d:Sc) (X l:Nat) (f:Xp) (b:Nat) (W:Xw):Prop where
 box:W.heap[X]?=some (.cells #[xE f d b,xP l] 202 (0,0))
 sc:br W N d (xE f d b) (xP l)
 aH:xB w W
theorem su (c:xB w W)(a:xB W j)(g:br j N d (xE f d b) (xP l))(i:N<=w.heap.size) :
 ki w N d j.heap.size l f b (j.alloc (.cells #[xE f d b,xP l] 202)):=by
 have e:=c.size;have h:=a.size;exact⟨zc _ _,g.am (mm (by omega) _),(c.trans (a.mono e)).alloc (by omega) _⟩
theorem ss {e g:Xv}(h:xB w W)(a:Below (W.alloc (.cells #[e,g] 202)).heap.size (W.alloc (.cells #[e,g] 202)) j)(p:br j N d (xE f d b) (xP l))(q:N<=w.heap.size) :
 ki w N d W.heap.size l f b ((j.setCell (xD W.heap.size 0) (xE f d b)).setCell (xD W.heap.size 1) (xP l)):=by
 have c:=h.size;have n:xH j W.heap.size #[e,g] 202:=(a.block _ (by rw[au];omega)).trans (zc W _);have i:=zh (j.setCell (xD W.heap.size 0) (xE f d b)) W.heap.size 1 (xP l) (zh j W.heap.size 0 (xE f d b) n);refine⟨i,p.am (λk r=>?_),zC (zC (h.trans ((zE a).mono c)) c _) c _⟩;exact (zr (by omega) rfl).trans (zr (by omega) rfl)
theorem me {c:Sc}{F:Xv}(s:Xb)(a:Int)(w:Xw)(n:br w N c o F)(K:N<=w.heap.size)(O:c.has s=true) :
 xK 109 #[.agg #[o,F],.agg #[.string s,xI a]] w (λe h=>e=.returned (xI (c.decl s:Nat))/\xB w h):=by
 obtain⟨A,p,t,rfl,rfl,Q⟩:=n.shape;obtain⟨S,vs,qv,m,J,r⟩:=n.nd;cases J;obtain⟨i,D⟩:∃i,c.nd.find s=some i:=Option.isSome_iff_exists.1 O;have P:=(kP D).2.1;obtain⟨v,E⟩:∃v,c.nd.ab[i]?=some v:=⟨_,av (by omega)⟩;have k:c.idx s=i:=by unfold Sc.idx;rw[D];rfl
 have G:aa (c.decl s=dt v):=by unfold aa Sc.decl;rw[k,E];rfl
 obtain⟨xv,x,rfl⟩:=zB r.bZ;obtain⟨g,rfl,T,U,H,V,X,Y,Z⟩:=hj r.bZ E;have C:=r.bO;have M:=r.jc g rfl;have i1:(i:Int)<(c.nd.ab.length:Int):=by omega
 have i0:(0:Int)<=(i:Int):=by omega
 go_enter func109,ntmps109;go_upto_region 1 with fail;refine zn (λW=>(W.heap[w.heap.size]?=some (.cells #[xE A c p,xP t] 205 (0,0))/\W.heap[w.heap.size+1]?=some (.cells #[.string s,xI a] 144 (0,0)))/\xB w W) ⟨⟨(Below.heap_alloc _ _ _ (by simp)).trans (zc w _),by have:=zc (w.alloc (.cells #[xE A c p,xP t] 205)) (.cells #[.string s,xI a] 144);rwa [au] at this⟩,cT w _ _⟩ ?_;rintro W ⟨⟨R,z⟩,u⟩;obtain⟨a4,s1,a5,a9⟩:=zp R;obtain⟨ar,a0,a2,a3⟩:=zp z;obtain⟨m0,m1,m2,m3,m4,m5,ak,al⟩:=zt ((u.block t (by omega)).trans r.aC);have I:=zd u H (by omega);have L:=zm u K;have B:=za (hW s a W.drew (n.am (w':=W.drew) L) (by show N<=W.heap.size;omega));rw[k] at B
 go_region_held3 (λh=>h.cell? (xD w.heap.size 0)=some (xE A c p)/\h.cell? (xD w.heap.size 1)=some (xP t)/\h.cell? (xD (w.heap.size+1) 0)=some (.string s)/\h.cell? (xD (w.heap.size+1) 1)=some (xI a)/\h.cell? (xD t 2)=some (xS g c.nd.ab.length x)/\h.cell? (xD g (i*7+2))=some (xI (dv v:Nat)))
  (first|(with_reducible (refine⟨?_,?_,?_,?_,?_,?_⟩ <;> repeat (first|assumption|refine zg ?_|refine zj _ ?_|refine zk (by omega) ?_|refine zd q.o ?_ (by first|omega|(rw[au];omega)))))|go_keep)
  (first
    | (go_at_call 103;refine B.o.mono ?_;rintro e j ⟨rfl,y⟩;have q:=za (zw y)))
 all_goals go_wp2_with fail
 all_goals go_ret
 all_goals exact⟨by rw[G.o];rfl,u.trans (q.o.mono (by omega))⟩
theorem yE {B g n a c:Nat}{e:Xy}(h:w.ownsRow B e c (xS g n a) n m):n<=a/\a<=9223372036854775807:=by
 rcases h.2 with ⟨p,_⟩|⟨t,i,k,s,x,y,q,r,u,v⟩
 . cases p
 cases s;unfold maxLen at r;exact⟨q,by omega⟩
theorem rk {n:ay}{c:Nat}{q:Xv}(w:Xw)(h:NT w N n c q o m)(r:n.ah+n.aG<=n.ab.length)(s:n.ah<n.ab.length) :
 xK 76 #[xP c] w (λe i=>∃g a,q=xS g n.ab.length a/\e=.returned (.slice (some (xD g (n.ah*7))) n.aG (a-n.ah))/\xB w i):=by
 obtain⟨g,a,rfl,_⟩:=zM h.bZ (by omega);obtain⟨t,u,v,x,y,z,A,B⟩:=zt h.aC;have k:=yE h.bZ;have p:=h.bO;have C:(0:Int)<=(n.ah:Int):=by omega
 have D:(n.ah:Int)<=(n.ah:Int)+(n.aG:Int):=by omega
 have E:(n.ah:Int)+(n.aG:Int)<=(a:Int):=by omega
 have F:¬(n.ah=a):=by omega
 have G:¬((n.ah:Int)=(a:Int)):=by omega
 have H:¬(a=n.ah):=by omega
 have I:((n.ah:Int)+(n.aG:Int)).toNat=n.ah+n.aG:=by omega
 have J:IntKind.i64.wrap ((n.ah:Int)+(n.aG:Int))=(n.ah:Int)+(n.aG:Int):=by rw[IntKind.wrap_i64];omega
 have K:(0:Int)<=(n.ah:Int)+(n.aG:Int):=by omega
 go_enter func76,ntmps76;go_upto_region 1 with fail
 go_region_held3 (λi=>i.cell? (xD c 2)=some (xS g n.ab.length a)/\i.cell? (xD c 3)=some (xI n.ah)/\i.cell? (xD c 4)=some (xI n.aG))
  (first|(with_reducible (refine⟨?_,?_,?_⟩ <;> repeat (first|assumption|refine zg ?_|refine zj _ ?_|refine zk (by omega) ?_)))|go_keep) (fail)
 all_goals go_wp2_with fail
 all_goals go_ret
 all_goals exact⟨_,_,rfl,rfl,zo (Below.refl _ _)⟩
end
section
open Go.RowKit
variable {N:Nat} {c:Sc} {t u:Tm}
attribute [local go_sem ↓] Go.wp_at_zero Go.wp_at_succ
structure gP (n:ay):Prop where
 ah:1<=n.ah
 aG:1<=n.aG
 io:n.ah+n.aG<=n.ab.length
 bO:n.ab.length<=16
 eqs:∀q∈n.eqs,q.ns.length=q.ps.length/\1<=q.ns.length/\Wf q.r/\(2<=q.ns.length->q.r.k=4)
structure eU (c:Sc):Prop where
 er:∀n∈c.er,gP n
 nd:gP c.nd
 bO:c.er.length<=6
theorem eU.called {d:Sc}(h:eU c){s:Xb}(a:c.called s=some d):eU d/\d.nd∈c.er:=by
 unfold Sc.called at a;split at a
 . cases a
 rename_i i g
 split at a
 . cases a
 rename_i n f
 cases a;have e:=aM f;exact⟨⟨λm b=>h.er m (List.mem_of_mem_take b),h.er n e,by have:=h.bO;simp;omega⟩,e⟩
def gN (c:Sc)(t:Tm):Prop:=∀u∈bh b8 t,(ch u.k=true->c.has u.s=true)/\(u.k=4->∃d,c.called u.s=some d/\d.nd.ah=u.ts.length)/\dJ u.k u.ts.length=true
theorem Jg {g:Tm->Bool}{a:List Tm}(ht:t∈a)(b:u∈bh g t):u∈cN g a:=by
 induction a with
 | nil=>simp at ht
 | cons x a d =>
   rw[cN];rcases cC.1 ht with rfl|ht
   . exact List.mem_append_left _ b
   exact List.mem_append_right _ (d ht)
theorem nL (g:Tm->Bool)(t:Tm):t∈bh g t:=by
 cases t with
 | mk k a s nm n b=>rw[bh];simp
theorem gN.sub (h:gN c t)(b:u∈t.ts):gN c u:=by
 intro x d;refine h x ?_;cases t with
 | mk k a s nm n e => rw[bh];refine cS _ ?_;rw[ag (show b8 _=true from rfl)];exact Jg b d
theorem xd:∀{a:List Tm} {i:Nat} {t:Tm},a[i]?=some t->dO c a i=bo c t:=by
 intro a;induction a with
 | nil=>intro i t h;simp at h
 | cons x a b =>
   intro i t h;cases i with
   | zero=>simp at h;subst h;rw[dO]
   | succ i=>rw[dO];exact b (by simpa using h)
theorem TT.arg {w:Xw}{m:Nat}{x:Xp}{n:Nat}{d:Xm}{i:Nat}(a:w.ownsRow 0 159 1 (.slice x m n) m d)(q:d.length=t.ts.length)(o:∀(i:Nat) (u:Tm) (x:Xv),t.ts[i]?=some u->d[i]?=some x->TT w N u x)(k:t.ts[i]?=some u):∃g b,x=some (xD g 0)/\xC w g i (xP b)/\TT w N u (xP b)/\b<N:=by have p:=(aB.1 k).1;have l:d[i]?=some d[i]:=av (by omega);obtain⟨g,rfl,j⟩:=nB a l;have f:=o i u _ k l;obtain⟨b,_,_,e,h,_⟩:=f.ptr;rw[e] at j f;exact⟨g,b,rfl,j,f,h⟩
theorem G7 {n:ay}(h:gP n):∃v,n.ab[n.ah]?=some v/\n.results[0]?=some v:=by have a:=h.io;have b:=h.aG;refine⟨n.ab[n.ah]'(by omega),av _,?_⟩;unfold ay.results;rw[List.getElem?_take,ag (by omega),List.getElem?_drop];simp
theorem nD {ev em:Xv}(cn:eU c):∀(t:Tm) (v:Xv) (w:Xw),TT w N t v->br w N c ev em->N<=w.heap.size->gN c t ->
 xK 175 #[.agg #[ev,em],v] w (λe l=>e=.returned (xI (bo c t:Nat))/\xB w l):=by
 intro t;induction t using Tm.ind with
 | h k a s nm n q eb =>
   intro v w hT h hN cm;obtain⟨b,c5,vs,rfl,g2,B,D,S,T,bp⟩:=hT.ptr;obtain⟨es,J,rfl⟩:=zB D;have b3:=za h;obtain⟨O,m,M,rfl,rfl,fV⟩:=h.shape;have p:vs.length=q.length:=S;have K:=ze B;obtain⟨eq,er,a2⟩:=cm _ (nL b8 _);have r:w.heap[b]?=some (.cells #[xI k,xI a,.string s,xI nm,xI n,.slice es q.length J] 216 (0,0)):=(by rw[<- p];exact B);have I:=za r;have E:w.ownsRow 0 159 1 (.slice es q.length J) q.length vs:=(by rw[<- p];exact D);have a4:=za E;have R:=za T;have c4:=za cm;have a9:=za eb;have a5:=za bp;simp only[Tm.k,Tm.s,Tm.ts] at eq er a2;obtain⟨h0,h1,h2,h3,h4,h5,fv,g3⟩:=zt r;have Q:=za p;clear hT D h S p B E T cm eb bp r h1 h4 fv;have L:k=3∨k=4∨k=7∨k=8∨k=6∨k=5∨k=9∨k=0∨k=10∨k=19∨k=20∨k=21∨k=22∨k=23∨k=1∨k=2∨k=11∨k=12∨k=13∨k=14∨k=15∨k=16∨k=17∨k=18:=by
    have:k<=23:=by
     rcases Nat.lt_or_ge 23 k with h|h
     . exfalso;unfold dJ at a2;simp only[show ¬k<=3 by omega,show ¬k=4 by omega,show ¬k=5 by omega,show ¬k=6 by omega,show ¬k<=8 by omega,show ¬k=9 by omega,show ¬k<=11 by omega,show ¬k<=23 by omega,if_false] at a2;cases a2
     exact h
    omega
   have z:∀W,xB w W->br W N c (xE O c m) (xP M):=λW f=>b3.o.am (zm f hN);rcases L with rfl|rfl|rfl|rfl|rfl|rfl|rfl|rfl|rfl|rfl|rfl|rfl|rfl|rfl|rfl|rfl|rfl|rfl|rfl|rfl|rfl|rfl|rfl|rfl
   . have fx:=eq rfl;go_enter func175,ntmps175;go_upto_region 3 with fail;refine zn (λW=>(xH W w.heap.size #[xE O c m,xP M] 205)/\xB w W) ⟨zc w _,zq w _⟩ ?_;rintro W ⟨F,f⟩;obtain⟨c2,s1,a0,c3⟩:=zp F;obtain⟨m0,m1,m2,m3,m4,m5,ar,c1⟩:=zt ((f.block b K).trans I.o);have P:=za f;have al:=f.size;have a3:=za (me s (nm:Int) W.drew (z W.drew (zo f)) (by show N<=W.heap.size;omega) fx);clear F f m0 m1 m4 m5 ar a0
     go_region_held3 (λl=>l.cell? (xD w.heap.size 0)=some (xE O c m)/\l.cell? (xD w.heap.size 1)=some (xP M)/\l.cell? (xD b 2)=some (.string s)/\l.cell? (xD b 3)=some (xI nm))
      (first|(with_reducible (refine⟨?_,?_,?_,?_⟩ <;> repeat (first|assumption|refine zg ?_|refine zj _ ?_|refine zk (by omega) ?_|refine zd i.o ?_ (by first|omega|(rw[au];omega)))))|go_keep)
      (first
        | (go_at_call 109;refine a3.o.mono ?_;rintro e bL ⟨rfl,j⟩;have i:=za (zw j);clear j))
     all_goals go_wp2_with fail
     all_goals go_ret
     all_goals exact⟨by rw[bo];rfl,P.o.trans (i.o.mono (by omega))⟩
   . obtain⟨d,bl,cs⟩:=er rfl;have x:=(cn.called bl).1.nd;go_enter func175,ntmps175;go_upto_region 5 with fail;refine zn (λW=>W.heap[w.heap.size]?=some (.cells #[xE O c m,xP M] 205 (0,0))/\xB w W) ⟨zc w _,zq w _⟩ ?_;rintro W ⟨F,f⟩;obtain⟨c2,s1,a0,c3⟩:=zp F;obtain⟨m0,m1,m2,m3,m4,m5,ar,c1⟩:=zt ((f.block b K).trans I.o);have P:=za f;have al:=f.size;have b1:=za (ji s (nm:Int) W.drew (z W.drew (zo f)) (by show N<=W.heap.size;omega) cn.bO bl);have b2:=za (λo=>ji s (nm:Int) (W.alloc o).drew (z _ (zo (f.alloc (by omega) o))) (by show N<=(W.alloc o).heap.size;simp;omega) cn.bO bl);clear F f m0 m1 m4 m5 ar a0
     go_region_held3 (λl=>l.cell? (xD w.heap.size 0)=some (xE O c m)/\l.cell? (xD w.heap.size 1)=some (xP M)/\l.cell? (xD b 2)=some (.string s)/\l.cell? (xD b 3)=some (xI nm))
      (first|(with_reducible (refine⟨?_,?_,?_,?_⟩ <;> repeat (first|assumption|refine zg ?_|refine zj _ ?_|refine zk (by omega) ?_|refine zd i.o ?_ (by first|omega|(rw[au];omega)))))|go_keep)
      (first
        | (go_at_call 100;refine b1.o.mono ?_;rintro e bL ⟨x2,V,n2,rfl,G,j⟩;have i:=za (zw j);have U:=za G;clear j G)
        | (go_at_call 100;refine (b2.o _).mono ?_;rintro e bL ⟨x2,V,n2,rfl,G,j⟩;have i:=za (zw j);have U:=za G;obtain⟨g7,g8,he,hg⟩:=zp ((i.o.block W.heap.size (by rw[au];omega)).trans (zc W _));clear j G))
     all_goals go_upto_region 6 with fail
     refine zn (ki w N d bL.heap.size n2 x2 V) (su P.o i.o U.o hN) ?_;rotate_left;refine zn (ki w N d W.heap.size n2 x2 V) (ss P.o i.o U.o hN) ?_
     all_goals
      rintro W2 be;obtain⟨t0,t1,g4,g5⟩:=zp be.box;obtain⟨go,gt,gs,g0,ca,C⟩:=be.sc.nd;cases ca;obtain⟨v0,bt,bx⟩:=G7 x;have ex:aa (bo c (.mk 4 a s nm n q)=dv v0):=by
       unfold aa;rw[bo]
       show c.mP s=_;unfold Sc.mP;rw[bl]
       show ((d.nd.results[0]?).map dt).getD 0=_;rw[bx];rfl
      have fd:=za (rk W2 C x.io (by have:=x.io;have:=x.aG;omega));obtain⟨xv,fr,rfl⟩:=zB C.bZ;obtain⟨dn,rfl,_,_,c9,_⟩:=hj C.bZ bt;have ge:=C.jc dn rfl;have ck:=za be.aH;have c0:=be.aH.size;have gc:(0:Int)<(d.nd.aG:Int):=(by have:=x.aG;omega);have ds:0<d.nd.aG:=x.aG;have b4:xC W2 dn (d.nd.ah*7+2) (xI (dv v0:Nat)):=c9;clear be C bt bx c9 bl cs x;go_wp2_with (go_at_call 76;refine fd.o.mono ?_;rintro e g6 ⟨g9,fq,ca,rfl,X⟩;cases ca;have g1:=zd X b4 (by omega);have b0:=za X;clear X);go_ret;exact⟨by rw[ex.o];rfl,ck.out.trans (b0.o.mono c0)⟩
   iterate 3
    . have y:0<q.length:=(by simp[dJ] at a2;omega);obtain⟨u,H⟩:∃u,q[0]?=some u:=⟨_,av y⟩;obtain⟨g,bE,rfl,Z,A,bs⟩:=TT.arg (t:=.mk _ a s nm n q) a4.o Q.o R.o H;have cv:=a5.o g rfl;have Y:=c4.o.sub (t:=.mk _ a s nm n q) (u:=u) (aM H);have ak:=xd (c:=c) H;go_enter func175,ntmps175;go_upto_region 10 with fail;refine zn (λW=>(xH W w.heap.size #[xE O c m,xP M] 205)/\xB w W) ⟨zc w _,zq w _⟩ ?_;rintro W ⟨F,f⟩;obtain⟨c2,s1,a0,c3⟩:=zp F;obtain⟨m0,m1,m2,m3,m4,m5,ar,c1⟩:=zt ((f.block b K).trans I.o);have P:=za f;have al:=f.size;have bk:=zd f Z (by omega);have a3:=za (a9.o u (aM H) (xP bE) W.drew (A.am (zm (zo f) hN)) (z W.drew (zo f)) (by show N<=W.heap.size;omega) Y);have gl:(0:Int)<(q.length:Int):=(by omega);clear F f m0 m1 m2 m3 m4 ar a0 A H
      go_region_held3 (λl=>l.cell? (xD w.heap.size 0)=some (xE O c m)/\l.cell? (xD w.heap.size 1)=some (xP M)/\l.cell? (xD b 5)=some (xS g q.length J)/\l.cell? (xD g 0)=some (xP bE))
       (first|(with_reducible (refine⟨?_,?_,?_,?_⟩ <;> repeat (first|assumption|refine zg ?_|refine zj _ ?_|refine zk (by omega) ?_|refine zd i.o ?_ (by first|omega|(rw[au];omega)))))|go_keep)
       (first
         | (go_at_call 175;refine a3.o.mono ?_;rintro e bL ⟨rfl,j⟩;have i:=za (zw j);clear j))
      all_goals go_wp2_with fail
      all_goals go_ret
      all_goals exact⟨by rw[bo];show Ending.returned (xI (bo c u:Nat))=Ending.returned (xI (dO c q 0:Nat));rw[ak],P.o.trans (i.o.mono (by omega))⟩
   iterate 2
    . have y:1<q.length:=(by simp[dJ] at a2;omega);obtain⟨u,H⟩:∃u,q[1]?=some u:=⟨_,av y⟩;obtain⟨g,bE,rfl,Z,A,bs⟩:=TT.arg (t:=.mk _ a s nm n q) a4.o Q.o R.o H;have cv:=a5.o g rfl;have Y:=c4.o.sub (t:=.mk _ a s nm n q) (u:=u) (aM H);have ak:=xd (c:=c) H;go_enter func175,ntmps175;go_upto_region 13 with fail;refine zn (λW=>(xH W w.heap.size #[xE O c m,xP M] 205)/\xB w W) ⟨zc w _,zq w _⟩ ?_;rintro W ⟨F,f⟩;obtain⟨c2,s1,a0,c3⟩:=zp F;obtain⟨m0,m1,m2,m3,m4,m5,ar,c1⟩:=zt ((f.block b K).trans I.o);have P:=za f;have al:=f.size;have bk:=zd f Z (by omega);have a3:=za (a9.o u (aM H) (xP bE) W.drew (A.am (zm (zo f) hN)) (z W.drew (zo f)) (by show N<=W.heap.size;omega) Y);have gl:(1:Int)<(q.length:Int):=(by omega);clear F f m0 m1 m2 m3 m4 ar a0 A H
      go_region_held3 (λl=>l.cell? (xD w.heap.size 0)=some (xE O c m)/\l.cell? (xD w.heap.size 1)=some (xP M)/\l.cell? (xD b 5)=some (xS g q.length J)/\l.cell? (xD g 1)=some (xP bE))
       (first|(with_reducible (refine⟨?_,?_,?_,?_⟩ <;> repeat (first|assumption|refine zg ?_|refine zj _ ?_|refine zk (by omega) ?_|refine zd i.o ?_ (by first|omega|(rw[au];omega)))))|go_keep)
       (first
         | (go_at_call 175;refine a3.o.mono ?_;rintro e bL ⟨rfl,j⟩;have i:=za (zw j);clear j))
      all_goals go_wp2_with fail
      all_goals go_ret
      all_goals exact⟨by rw[bo];show Ending.returned (xI (bo c u:Nat))=Ending.returned (xI (dO c q 1:Nat));rw[ak],P.o.trans (i.o.mono (by omega))⟩
   all_goals
    go_enter func175,ntmps175;go_wp2_with fail;go_ret;exact⟨by rw[bo];rfl,zq _ _⟩
end
section
variable {L:List Ex} {x:Nat} {t:Tm}
theorem DA (c:cp L)(h:bX L x t):Wf t:=by
 induction h with
 | mk x a m g d l k =>
   refine .mk _ _ _ _ _ _ ?_ (λt f=>?_)
   . have:=c a (aM g);unfold fO at this;rw[d];exact this
   obtain⟨i,b⟩:=List.getElem?_of_mem f;have e:=(aB.1 b).1;obtain⟨y,j⟩:∃y,a.ah[i]?=some y:=⟨_,av (by omega)⟩;exact k i y t j b
theorem B6 (h:bX L x t):∃a:Ex,L[x]?=some a/\t.k=aF a.op.toList a.n:=by
 cases h with
 | mk x a e b c d=>exact⟨a,b,rfl⟩
theorem vt (d:cp L):∀{l:List ax} {b:List Qn},fM L l b->(∀q∈l,jz L q)->∀q∈b,q.ns.length=q.ps.length/\1<=q.ns.length/\Wf q.r/\(2<=q.ns.length->q.r.k=4)
 | [],b,h,_,q,hq=>by cases h;cases hq
 | e::l,b,h,f,q,hq=>by
   obtain⟨s,r,rfl,a,k⟩:=h;rcases cC.1 hq with rfl|hq
   . obtain⟨n,o,p⟩:=f e (ce ..);rw[a.ns,a.ps];refine⟨n,o,DA d a.r,λm=>?_⟩;obtain⟨j,g,i⟩:=p m;obtain⟨c,f1,f2⟩:=B6 a.r;rw[f2];have:c=j:=Option.some.inj (f1.symm.trans g);rw[this];exact i
   exact vt d k (λq hq=>f q (cS _ hq)) q hq
theorem DV {d:Nd}{n:ay}(h:ht d n)(a:k9 d):gP n:=by
 obtain⟨c,e,f,g⟩:=a.ab;refine⟨?_,?_,?_,?_,λq b=>vt a.ar h.eqs a.eqs q b⟩
 . rw[h.ah];exact c
 . rw[h.aG];exact e
 . rw[h.ah,h.aG,h.ab];exact f
 rw[h.ab];exact g
theorem uL:∀{l:List Nd} {a:List ay},dS l a->(∀d∈l,k9 d)->∀n∈a,gP n
 | [],a,h,_,n,hn=>by cases h;cases hn
 | d::l,a,h,c,n,hn=>by
   obtain⟨i,g,rfl,e,f⟩:=h;rcases cC.1 hn with rfl|hn
   . exact DV e (c d (ce ..))
   exact uL f (λd b=>c d (cS _ b)) n hn
theorem Eh {a b:Fn}(c:bM a)(d:bM b)(h:gy a)(i:gy b)(e:zv 17 a)(f:zv 18 b){g:Nat}{src:Xb}(m:src.size<=1200)(k:(dm a b g src).1.er=0){j:List ay}(l:dS (dm a b g src).2 j):∀n∈j,gP n :=
 uL l (uU c d h i e f g src (sk m) k)
theorem vm {d:Nat}{r:Fn}(e:r=(a6 d).ex):bM r/\gy r:=by obtain⟨a,_⟩:=Mm d;obtain⟨b,_⟩:=vd d;rw[e];exact⟨a,b.ext⟩
end
section
variable {L g:List Ex} {f:Xn} {e:List Tm} {d x:Nat} {c:St} {t:Tm}
def vz (t:Tm):Nat:=(bh b8 t).length
def k8 (e:List Tm):Nat:=(cN b8 e).length
theorem qz (k a:Nat)(s:Xb)(nm n:Nat)(e:List Tm):vz (.mk k a s nm n e)=1+k8 e:=by unfold vz k8;rw[bh,ag (show b8 (.mk k a s nm n e)=true from rfl),bJ];omega
theorem zf (t:Tm)(e:List Tm):k8 (t::e)=vz t+k8 e:=by unfold vz k8;rw[cN,aP]
theorem mZ (m:L <+: g)(h:bX L x t):bX g x t:=by
 induction h with
 | mk x b e a l o n => obtain⟨E,rfl⟩:=m;exact .mk x b e (by rw[e9 (aB.1 a).1];exact a) l (λi y t j k=>n i y t j k)
def dW (L:List Ex)(f:Xn)(e:List Tm):Prop:=e.length=f.length/\∀(i y:Nat) (t:Tm),f[i]?=some y->e[i]?=some t->bX L y t
theorem dW.nil (L:List Ex):dW L [] []:=⟨rfl,λi y t h=>by simp at h⟩
theorem dW.more (j:L <+: g)(h:dW L f e):dW g f e:=⟨h.1,λi y t a b=>mZ j (h.2 i y t a b)⟩
theorem dW.snoc (h:dW L f e)(k:bX L x t):dW L (f++[x]) (e++[t]):=by
 refine⟨by rw[aP,aP,h.1];rfl,λi y u a b=>?_⟩;by_cases j:i<f.length
 . rw[e9 j] at a;rw[e9 (by rw[h.1];exact j)] at b;exact h.2 i y u a b
 rw[e8 (by omega)] at a;rw[e8 (by rw[h.1];omega),h.1] at b;have:i-f.length=0:=by have:=(aB.1 a).1;simp at this;exact this
 rw[this] at a b;simp at a b;subst a;subst b;exact k
theorem dW.one (h:bX L x t):dW L [x] [t]:=(dW.nil L).snoc h
def cj (d:Nat)(c:St):Prop:=c.er=0->18<=c.op+d/\c.op<=16
theorem cj.stay {a b:St}(h:cj d a)(k:aK a b)(j:b.op=a.op):cj d b:=λi=>by rw[j];exact h (k.back i)
theorem cj.ad (h:cj d c):cj d c.ad:=h.stay (aK.ad c) c.bQ
theorem cj.ac (h:cj d c)(k:Nat)(l:Xu):cj d (c.ac k l):=h.stay (aK.ac c k l) (c.a8 k l)
theorem cj.name (h:cj d c):cj d c.name:=h.stay (aK.name c) c.dB
theorem mH (h:c.enter.er=0):c.er=0/\c.op+1<=16:=by
 unfold St.enter at h;split at h
 . exact absurd h (St.cy _ (by decide))
 rw[St.ja] at h;exact⟨h,by omega⟩
theorem cj.enter (h:cj (d+1) c):cj d c.enter:=λb=>by obtain⟨a,i⟩:=mH b;rw[St.bN];have:=h a;omega
end
section
variable {M w part j:Fn} {L z:List Ex} {ts p A:List Tm} {a b c d B:Nat} {g:St} {t:Tm}
mutual
def b7:Tm->List Tm
 | .mk k a s nm n ts=>cH ts++[.mk k a s nm n ts]
def cH:List Tm->List Tm
 | []=>[]
 | t::l=>b7 t++cH l
end
theorem EZ (ts:List Tm)(t:Tm):cH (ts++[t])=cH ts++b7 t:=by
 induction ts with
 | nil=>rw[List.nil_append,cH,cH,cH,List.append_nil,List.nil_append]
 | cons u ts e=>rw[List.cons_append,cH,e,cH,bw]
def Po (L:List Ex)(a:Nat)(p:List Tm):Prop:=∀(i:Nat) (u:Tm),p[i]?=some u->bX (L.take (a+i+1)) (a+i) u
theorem Md (e:L <+: z)(m:Nat):L.take m <+: z.take m:=by obtain⟨E,rfl⟩:=e;rw[List.take_append];exact List.prefix_append _ _
theorem Po.nil (L:List Ex)(a:Nat):Po L a []:=λi u h=>by simp at h
theorem Po.more (e:L <+: z)(h:Po L a p):Po z a p:=λi u f=>mZ (Md e _) (h i u f)
theorem Po.kZ (h:Po L a p)(f:Po L (a+p.length) A):Po L a (p++A):=λi u e=>by
 by_cases k:i<p.length
 . rw[e9 k] at e;exact h i u e
 rw[e8 (by omega)] at e;have:=f _ u e;rw[show a+p.length+(i-p.length)=a+i by omega] at this;exact this
structure cB (L:List Ex) (a b:Nat) (p:List Tm):Prop where
 len:a+p.length=b
 po:Po L a p
theorem cB.tr (h:cB L a b p)(i:Nat)(u:Tm)(e:p[i]?=some u):bX L (a+i) u:=mZ (List.take_prefix _ _) (h.po i u e)
theorem cB.nil (L:List Ex)(a:Nat):cB L a a []:=⟨rfl,Po.nil L a⟩
theorem cB.more (e:L <+: z)(h:cB L a b p):cB z a b p:=⟨h.len,h.po.more e⟩
theorem cB.kZ (h:cB L a b p)(e:cB L b c A):cB L a c (p++A) :=
 ⟨by have:=h.len;have:=e.len;rw[aP];omega,h.po.kZ (by rw[h.len];exact e.po)⟩
theorem cB.one (h:cB L a b (b7 t)):cB L a b (cH [t]):=by rw[cH,cH,List.append_nil];exact h
theorem cB.snoc (h:cB L a b (cH ts))(e:cB L b c (b7 t)):cB L a c (cH (ts++[t])):=by rw[EZ];exact h.kZ e
structure jf (g:St) (r:St×Nat):Prop where
 dd:g.er=0
 op:r.1.op=g.op
 pre:g.L <+: r.1.L
 tr:∃t,bX r.1.L r.2 t/\cB r.1.L g.L.length r.1.L.length (b7 t)
 nx:r.2+1=r.1.L.length
def bI (d:Nat)(M:Fn):Prop:=∀g,cj d g->(M g).1.er=0->jf g (M g)
theorem je {f:St}{e:Ex}(q:g.er=0)(r:f.op=g.op)(s:g.L <+: f.L)(m:dW f.L e.ah ts)(v:cB f.L g.L.length f.L.length (cH ts)):jf g (f.put e):=by
 have h:(f.put e).1.L=f.L++[e]:=rfl;have l:bX (f.L++[e]) f.L.length (.mk (aF e.op.toList e.n) e.a e.s e.nm (df e.op.toList e.n) ts):=by refine .mk f.L.length e ts ?_ m.1 (λi y t n o=>mZ (List.prefix_append _ _) (m.2 i y t n o));rw[e8 (an _),Nat.sub_self];rfl
 refine⟨q,r,by rw[h];exact s.trans (List.prefix_append _ _),⟨.mk (aF e.op.toList e.n) e.a e.s e.nm (df e.op.toList e.n) ts,by rw[h];exact l,?_⟩,by rw[h,aP];rfl⟩;rw[h,b7,aP,List.length_singleton];refine (v.more (List.prefix_append _ _)).kZ ⟨rfl,λi u k=>?_⟩
 match i,k with
 | 0,k=>cases k;rw[de (by rw[aP];simp)];exact l
theorem cj.iY (e:bI d M)(h:cj d g):cj d (M g).1:=λf=>by have o:=e g h f;rw[o.op];exact h o.dd
theorem q1 (k:bI d part)(g:St):∀(f:Nat) (x:St×Nat),cj d x.1->(x.1.er=0->jf g x)->(dx B part f x).1.er=0->jf g (dx B part f x)
 | 0,_,_,h,e=>h e
 | f+1,x,n,h,e=>by
   unfold dx at e ⊢;split
   . rename_i i
     rw[ag i] at e;have o:=h i.1;refine q1 k g f _ ?_ (λr=>?_) e
     . exact cj.iY k n.ad
     have l:=k _ n.ad r;obtain⟨t1,s,v⟩:=o.tr;obtain⟨t2,u,q⟩:=l.tr;have m:x.1.L <+: (part x.1.ad).1.L:=(by have:=l.pre;rw[St.bu] at this;exact this);rw[St.bu] at q;refine je (ts:=[t1,t2]) o.dd (by rw[l.op,St.bQ,o.op]) (o.pre.trans m) (((dW.one s).more m).snoc u) ?_;exact ((cB.one v).more m).snoc q
   rename_i i
   rw[ae i] at e;exact h e
theorem oS (f:bI d part):bI d (eo B part):=λg h i=>q1 f g 1300 _ (cj.iY f h) (λe=>f g h e) i
theorem Fy {sum:Fn}(h:bI d sum):bI d (ei sum):=by
 intro g i e;unfold ei at e ⊢;simp only at e ⊢;split
 . rename_i f
   rw[ag f] at e;have o:=h g i f.1;have k:=h _ (cj.iY h i).ad e;obtain⟨t1,n,r⟩:=o.tr;obtain⟨t2,q,m⟩:=k.tr;have l:(sum g).1.L <+: (sum (sum g).1.ad).1.L:=(by have:=k.pre;rw[St.bu] at this;exact this);rw[St.bu] at m;refine je (ts:=[t1,t2]) o.dd (by rw[k.op,St.bQ,o.op]) (o.pre.trans l) (((dW.one n).more l).snoc q) ?_;exact ((cB.one r).more l).snoc m
 rename_i f
 rw[ae f] at e;exact h g i e
theorem jf.inner {r:St×Nat}(h:jf g.enter r):g.er=0/\r.1.aI.op=g.op/\g.L <+: r.1.aI.L/\r.2+1=r.1.aI.L.length/\∃t,bX r.1.aI.L r.2 t/\cB r.1.aI.L g.L.length r.1.aI.L.length (b7 t):=by have f:=(mH h.dd).1;have e:=h.pre;obtain⟨t,q,v⟩:=h.tr;rw[St.dA] at e v;exact⟨f,by rw[St.iw,h.op,St.bN];omega,by rw[St.dK];exact e,by rw[St.dK];exact h.nx,t,by rw[St.dK];exact q,by rw[St.dK];exact v⟩
theorem EL {i co:Fn}(n:bI d i)(o:bI (d+1) co):bI (d+1) (dG i co):=by
 intro g h e;unfold dG at e ⊢;split
 . rename_i f
   rw[ag f] at e;obtain⟨k,l,m,_,t,q,v⟩:=(n _ h.enter e).inner;exact je (ts:=[t]) k l m (dW.one q) v.one
 rename_i f
 rw[ae f] at e;exact o g h e
theorem qX (g:St):∀(f:Nat) (x:St×Nat),cj d x.1->(x.1.er=0->jf g x)->(dk f x).1.er=0->jf g (dk f x)
 | 0,_,_,h,e=>h e
 | f+1,x,l,h,e=>by
   unfold dk at e ⊢;split
   . rename_i i
     rw[ag i] at e;have o:=h i.1;refine qX g f _ (l.ad.name) (λ_=>?_) e;obtain⟨t1,m,n⟩:=o.tr;have k:x.1.ad.name.L=x.1.L:=(by rw[St.c8,St.bu]);refine je (ts:=[t1]) o.dd (by rw[St.dB,St.bQ,o.op]) (by rw[k];exact o.pre) (by rw[k];exact dW.one m) ?_;rw[k];exact n.one
   rename_i i
   rw[ae i] at e;exact h e
theorem EA (f:bI d w):bI d (gR w):=λg h i=>qX g 1300 _ (cj.iY f h) (λe=>f g h e) i
theorem kA (i:Xb)(n:Nat):bI d (fK i n):=by intro g k h;have f:g.er=0:=(aK.ad g).back h;have e:g.ad.L=g.L:=g.bu;exact je (ts:=[]) f g.bQ (by rw[e];exact List.prefix_refl _) (dW.nil _) (by rw[e];exact cB.nil _ _)
theorem wV:bI d kc:=by intro g i h;have f:g.er=0:=(aK.ad g).back h;have e:g.ad.L=g.L:=g.bu;exact je (ts:=[]) f g.bQ (by rw[e];exact List.prefix_refl _) (dW.nil _) (by rw[e];exact cB.nil _ _)
theorem Ft (i:bI d w):bI d (bF w):=by
 intro g h e;unfold bF at e ⊢;split
 . rename_i f
   rw[ag f] at e;exact i g h e
 rename_i f
 rw[ae f] at e;exact wV (d:=d) g h e
structure EW (g:St) (x:St×List Nat):Prop where
 dd:g.er=0
 op:x.1.op=g.op
 pre:g.L <+: x.1.L
 tr:∃ts,dW x.1.L x.2 ts/\cB x.1.L g.L.length x.1.L.length (cH ts)
theorem wo (k:bI d j)(g:St):∀(f:Nat) (x:St×List Nat),cj d x.1->(x.1.er=0->EW g x)->(cY j f x).1.er=0->EW g (cY j f x)
 | 0,_,_,h,e=>h e
 | f+1,x,n,h,e=>by
   unfold cY at e ⊢;split
   . rename_i i
     rw[ag i] at e;have o:=h i.1;refine wo k g f _ (cj.iY k n.ad) (λr=>?_) e;have l:=k _ n.ad r;obtain⟨ts,s,v⟩:=o.tr;obtain⟨t2,u,q⟩:=l.tr;have m:x.1.L <+: (j x.1.ad).1.L:=(by have:=l.pre;rw[St.bu] at this;exact this);rw[St.bu] at q;exact⟨o.dd,by show (j x.1.ad).1.op=_;rw[l.op,St.bQ,o.op],o.pre.trans m,ts++[t2],(s.more m).snoc u,(v.more m).snoc q⟩
   rename_i i
   rw[ae i] at e;exact h e
theorem Fs (f:bI d j)(h:cj d g)(i:(cL j g).1.er=0):EW g (cL j g):=by refine wo f g 1300 _ (cj.iY f h) (λe=>?_) i;have o:=f g h e;obtain⟨t,q,v⟩:=o.tr;exact⟨o.dd,o.op,o.pre,[t],dW.one q,v.one⟩
theorem wg (m:bI d j)(t:Tk):bI (d+1) (a1 j t):=by
 intro g l e;unfold a1 at e ⊢;split
 . rename_i h
   rw[ag h] at e;simp only at e ⊢;have k:(cL j g.enter).1.er=0:=(aK.ac _ 4 [41]).back e;have o:=Fs m l.enter k;obtain⟨ts,q,v⟩:=o.tr;have i:=o.pre;have f:(((cL j g.enter).1.ac 4 [41]).aI).L=(cL j g.enter).1.L:=(by rw[St.dK,St.bi]);rw[St.dA] at i v;exact je (ts:=ts) (mH o.dd).1 (by rw[St.iw,St.a8,o.op,St.bN];omega) (by rw[f];exact i) (by rw[f];exact q) (by rw[f];exact v)
 rename_i h
 rw[ae h] at e;exact absurd e (pT _ _)
theorem E4 (e:bI d j):bI (d+1) (fp j):=by
 intro g o y;have m:(j ((j ((j g.enter).1.ac 5 [116,104,101,110])).1.ac 5 [101,108,115,101])).1.er=0:=y;have v:=cj.iY e o.enter;have n:=v.ac 5 [116,104,101,110];have x:=(cj.iY e n).ac 5 [101,108,115,101];have i:=e _ x m;have h:=e _ n ((aK.ac _ 5 [101,108,115,101]).back i.dd);have f:=e _ o.enter ((aK.ac _ 5 [116,104,101,110]).back h.dd);obtain⟨t1,C,r⟩:=f.tr;obtain⟨t2,D,s⟩:=h.tr;obtain⟨t3,E,u⟩:=i.tr;have q:=f.pre;have k:=h.pre;have l:=i.pre;rw[St.dA] at q r;rw[St.bi] at k s l u;unfold fp;simp only;refine je (ts:=[t1,t2,t3]) (mH f.dd).1 ?_ ?_ ?_ ?_
 . rw[St.iw,i.op,St.a8,h.op,St.a8,f.op,St.bN];omega
 . rw[St.dK];exact (q.trans k).trans l
 . rw[St.dK];exact ((((dW.one C).more k).snoc D).more l).snoc E
 rw[St.dK];exact ((((cB.one r).more k).snoc s).more l).snoc u
theorem Fc (n:bI d w):bI (d+1) (fs w):=by
 intro g o q;have h:(bF w (bF w g.enter.name).1).1.er=0:=q;have i:=Ft n;have k:=o.enter.name;have e:=i _ (cj.iY i k) h;have f:=i _ k e.dd;obtain⟨t1,r,m⟩:=f.tr;obtain⟨t2,s,u⟩:=e.tr;have l:=f.pre;rw[St.c8,St.dA] at l m;unfold fs;simp only;refine je (ts:=[t1,t2]) (mH ((aK.name _).back f.dd)).1 ?_ ?_ ?_ ?_
 . rw[St.iw,e.op,f.op,St.dB,St.bN];omega
 . rw[St.dK];exact l.trans e.pre
 . rw[St.dK];exact ((dW.one r).more e.pre).snoc s
 rw[St.dK];exact ((cB.one m).more e.pre).snoc u
theorem wB (l:bI d j):bI (d+1) (iM j):=by
 intro g i k;have h:(j g.enter).1.er=0:=(aK.ac _ 4 [41]).back k;have o:=l _ i.enter h;obtain⟨t,q,v⟩:=o.tr;have f:=o.pre;have e:(((j g.enter).1.ac 4 [41]).aI).L=(j g.enter).1.L:=by rw[St.dK,St.bi]
 rw[St.dA] at f v;exact⟨(mH o.dd).1,by show (((j g.enter).1.ac 4 [41]).aI).op=_;rw[St.iw,St.a8,o.op,St.bN];omega,by show _ <+: (((j g.enter).1.ac 4 [41]).aI).L;rw[e];exact f,⟨t,by show bX (((j g.enter).1.ac 4 [41]).aI).L _ t;rw[e];exact q,by show cB (((j g.enter).1.ac 4 [41]).aI).L _ (((j g.enter).1.ac 4 [41]).aI).L.length _;rw[e];exact v⟩,by show _=(((j g.enter).1.ac 4 [41]).aI).L.length;rw[e];exact o.nx⟩
theorem Fb (h:bI d M)(f:cj d g)(i:(M g.ad).1.er=0):jf g (M g.ad):=by have o:=h _ f.ad i;have e:=o.pre;obtain⟨t,q,v⟩:=o.tr;rw[St.bu] at e v;exact⟨(aK.ad g).back o.dd,by rw[o.op,St.bQ],e,⟨t,q,v⟩,o.nx⟩
theorem F3 {u:Fn}(i:bI d j)(v:bI d u):bI (d+1) (aN j u):=by
 intro g f e;unfold aN at e ⊢;by_cases h:g.er≠0
 . rw[ag h] at e;exact absurd e h
 rw[ae h] at e ⊢;by_cases k:g.t.k=3
 . rw[ag k] at e ⊢;exact kA fJ _ g f e
 rw[ae k] at e ⊢;by_cases l:g.t.k=2
 . rw[ag l] at e ⊢;by_cases m:g.ad.is 4 [40]=true
   . rw[ag m] at e ⊢;exact Fb (wg i g.t) f e
   rw[ae m] at e ⊢;exact wV g f e
 rw[ae l] at e ⊢;by_cases n:g.is 4 [40]=true
 . rw[ag n] at e ⊢;exact wB i g f e
 rw[ae n] at e ⊢;by_cases o:g.is 5 [116,114,117,101]=true
 . rw[ag o] at e ⊢;exact kA dl 1 g f e
 rw[ae o] at e ⊢;by_cases q:g.is 5 [102,97,108,115,101]=true
 . rw[ag q] at e ⊢;exact kA dl 0 g f e
 rw[ae q] at e ⊢;by_cases r:g.is 5 [105,102]=true
 . rw[ag r] at e ⊢;exact E4 i g f e
 rw[ae r] at e ⊢;by_cases s:g.is 5 [109,101,114,103,101]=true
 . rw[ag s] at e ⊢;exact Fc v g f e
 rw[ae s] at e;exact absurd e (pT _ _)
theorem F8 {e:Fn}(n:bI d j)(k:bI (d+1) e):bI (d+1) (fe j e):=by
 intro g l f;unfold fe at f ⊢;simp only at f ⊢;split
 . rename_i h
   rw[ag h] at f;have o:=k g l h.1;obtain⟨t1,q,s⟩:=o.tr;obtain⟨_,m,i,_,t2,r,u⟩:=(n _ (cj.iY k l).enter f).inner;refine je (ts:=[t1,t2]) o.dd (by rw[m,o.op]) (o.pre.trans i) (((dW.one q).more i).snoc r) ?_;exact ((cB.one s).more i).snoc u
 rename_i h
 rw[ae h] at f;exact k g l f
theorem ma:∀d:Nat,bI d (a6 d).ex/\bI d (a6 d).un/\bI d (a6 d).at'
 | 0=>by
   have h:∀g:St,cj 0 g->g.er=0->jf g (g,0):=λg e f=>by have:=e f;omega
   exact⟨λg e f=>h g e f,λg e f=>h g e f,λg e f=>h g e f⟩
 | d+1=>by obtain⟨i,m,n⟩:=ma d;have k:bI (d+1) (aN (a6 d).ex (a6 d).at'):=F3 i n;have l:bI (d+1) (dG (a6 d).un (gR (aN (a6 d).ex (a6 d).at'))):=EL m (EA k);exact⟨F8 i (oS (oS (Fy (oS (oS l))))),l,k⟩
end
section
variable {i j:Fn} {L:List Ex}
def eH (L:List Ex):Nat->List ax->List Qn->Nat->Prop
 | a,[],e,b=>e=[]/\a=b
 | a,q::l,e,b=>∃d f c,e=d::f/\ft L q d/\cB L a c (b7 d.r)/\q.ex+1=c/\eH L c l f b
theorem eH.more {f:List Ex}(g:L <+: f):∀{l:List ax} {a b:Nat} {e:List Qn},eH L a l e b->eH f a l e b:=by
 intro l;induction l with
 | nil=>intro a b e h;exact h
 | cons q l o => rintro a b e ⟨r,p,c,rfl,d,k,m,n⟩;exact⟨r,p,c,rfl,⟨d.ns,d.ps,d.a,mZ g d.r⟩,k.more g,m,o n⟩
theorem eH.snoc {q:ax}{f:Qn}{b c:Nat}(p:ft L q f)(r:cB L b c (b7 f.r))(s:q.ex+1=c):∀{l:List ax} {a:Nat} {g:List Qn},eH L a l g b->eH L a (l++[q]) (g++[f]) c:=by
 intro l;induction l with
 | nil=>rintro a g ⟨rfl,rfl⟩;exact⟨f,[],c,rfl,p,r,s,rfl,rfl⟩
 | cons e l t => rintro a g ⟨h,u,d,rfl,k,m,n,o⟩;exact⟨h,u++[f],d,rfl,k,m,n,t o⟩
theorem eH.tq:∀{l:List ax} {a b:Nat} {c:List Qn},eH L a l c b->fM L l c:=by
 intro l;induction l with
 | nil=>rintro a b c ⟨rfl,_⟩;rfl
 | cons e l k => rintro a b c ⟨f,m,d,rfl,g,_,_,h⟩;exact⟨f,m,rfl,g,k h⟩
def lI (L:List Ex)(a:List ax):Prop:=∃b,eH L 0 a b L.length
theorem vF (u:bI 17 i)(v:bI 18 j){a:St}{c:List ax}{p:Nat}(A:Inv p a)(C:a.op=0)(h:lI a.L c)(B:(zF i j a c).1.er=0):lI (zF i j a c).1.L (zF i j a c).2:=by
 obtain⟨z,x,y⟩:=nN A;have n:=(ai.ac z.af 4 [61]).af;have s:((aZ a).st.ac 4 [61]).op=0:=by rw[St.a8,x,C]
 have l:((aZ a).st.ac 4 [61]).L=a.L:=by rw[St.bi,y]
 have e:(cx i j (a.is 4 [40]) ((aZ a).st.ac 4 [61])).1.er=0:=(aK.ac _ 4 [59]).back B;obtain⟨b,f⟩:∃b,(aZ a).st.ac 4 [61]=b:=⟨_,rfl⟩;rw[f] at n s l e;have w:zF i j a c=((cx i j (a.is 4 [40]) b).1.ac 4 [59],c++[⟨(aZ a).ns,(aZ a).ps,(aZ a).st.t.a,(cx i j (a.is 4 [40]) b).2⟩]):=by unfold zF;simp only;rw[f]
 have r:∃t,bX (cx i j (a.is 4 [40]) b).1.L (cx i j (a.is 4 [40]) b).2 t/\cB (cx i j (a.is 4 [40]) b).1.L a.L.length (cx i j (a.is 4 [40]) b).1.L.length (b7 t)/\a.L <+: (cx i j (a.is 4 [40]) b).1.L/\(cx i j (a.is 4 [40]) b).2+1=(cx i j (a.is 4 [40]) b).1.L.length:=by
  unfold cx at e ⊢;split
  . rename_i o
    rw[ag o] at e;have m:cj 18 b.name:=λ_=>by rw[St.dB,s];omega
    obtain⟨_,_,d,⟨t,g,k⟩,q⟩:=wg u b.t b.name m e;rw[St.c8,l] at d k;exact⟨t,g,k,d,q⟩
  rename_i o
  rw[ae o] at e;have m:cj 18 b:=λ_=>by rw[s];omega
  obtain⟨_,_,d,⟨t,g,k⟩,q⟩:=v b m e;rw[l] at d k;exact⟨t,g,k,d,q⟩
 obtain⟨t,D,E,d,g⟩:=r;obtain⟨G,F⟩:=h;rw[w];refine⟨G++[⟨(aZ a).ns,(aZ a).ps,(aZ a).st.t.a,t⟩],?_⟩
 show eH ((cx i j (a.is 4 [40]) b).1.ac 4 [59]).L 0 (c++[⟨(aZ a).ns,(aZ a).ps,(aZ a).st.t.a,(cx i j (a.is 4 [40]) b).2⟩]) _ ((cx i j (a.is 4 [40]) b).1.ac 4 [59]).L.length;rw[St.bi];exact (F.more d).snoc ⟨rfl,rfl,rfl,D⟩ E g
theorem wU (d:bI 17 i)(g:bI 18 j)(b:zv 17 i)(c:zv 18 j):∀(f p:Nat) (x:St×List ax),Inv p x.1->x.1.op=0->(x.1.er=0->lI x.1.L x.2)->(bS i j f x).1.er=0->lI (bS i j f x).1.L (bS i j f x).2
 | 0,_,_,_,_,h,a=>h a
 | f+1,p,x,m,k,h,a=>by
   by_cases n:x.1.t.k=2∨x.1.is 4 [40]=true
   . have e:bS i j (f+1) x=bS i j f (zF i j x.1 x.2):=(by rw[bS,ag n]);rw[e] at a ⊢;obtain⟨l,q⟩:=gD b c (eqs:=x.2) m k;exact wU d g b c f p _ l.af (by rw[q];exact k) (λo=>vF d g m k (h (l.back o)) o) a
   have e:bS i j (f+1) x=x:=(by rw[bS,ae n]);rw[e] at a ⊢;exact h a
def kY (d:Nd):Prop:=lI d.az d.eqs/\d.az.length<=1201
theorem wb (g:bI 17 i)(h:bI 18 j)(b:zv 17 i)(c:zv 18 j)(f p:Nat)(a:St)(z:Inv p a)(B:a.op=0)(t:(a7 i j f a).1.er=0):kY (a7 i j f a).2:=by
 have D:=ai.aw z;have l:=mz D;have m:=kM (f:=f) (ab:=(aT a.aw).2) l.1.af;have k:=ai.ac m.1.af 4 [123];have d:((bD f (aT a.aw).1 (aT a.aw).2).1.ac 4 [123]).op=0:=by rw[St.a8,m.2.1,l.2.1];exact B
 have n:((bD f (aT a.aw).1 (aT a.aw).2).1.ac 4 [123]).L=[]:=by rw[St.bi,m.2.2,l.2.2];rfl
 obtain⟨V,s⟩:∃V,bD f (aT a.aw).1 (aT a.aw).2=V:=⟨_,rfl⟩;rw[s] at k d n;have e:a7 i j f a=((dy i j f V.1).1,⟨(a.aw.ac 5 zW).t.s,(a.aw.ac 5 zW).t.a,V.2,(dy i j f V.1).1.L,(dy i j f V.1).2⟩):=by unfold a7;simp only;rw[s]
 rw[e] at t ⊢;obtain⟨o,r⟩:=gD b c (eqs:=[]) k.af d;have v:=nO b c f _ (zF i j (V.1.ac 4 [123]) []) o.af (by rw[r];exact d);have q:=ai.ac v.1.af 4 [125];have w:(bS i j f (zF i j (V.1.ac 4 [123]) [])).1.er=0:=(aK.ac _ 4 [125]).back t;have C:=wU g h b c f _ _ o.af (by rw[r];exact d) (λA=>vF g h k.af d ⟨[],by rw[n];exact⟨rfl,rfl⟩⟩ A) w;have u:(dy i j f V.1).1.L=(bS i j f (zF i j (V.1.ac 4 [123]) [])).1.L:=St.bi _ _ _;refine⟨?_,?_⟩
 . show lI (dy i j f V.1).1.L _;rw[u];exact C
 show (dy i j f V.1).1.L.length<=1201;have x:=q.af.jN;have E:=q.af.ok.bR;have y:(dy i j f V.1).1=(bS i j f (zF i j (V.1.ac 4 [123]) [])).1.ac 4 [125]:=rfl;rw[y];split at x <;> omega
theorem ws (k:bI 17 i)(l:bI 18 j)(a:zv 17 i)(b:zv 18 j)(g:Nat):∀(f p:Nat) (x:St×List Nd),Inv p x.1->x.1.op=0->(∀d∈x.2,kY d)->(ct i j g f x).1.er=0->(∀d∈(ct i j g f x).2,kY d)
 | 0,_,_,_,_,h,_=>h
 | f+1,p,x,o,r,h,m=>by
   by_cases q:x.1.is 5 zW=true/\x.2.length<6
   . have e:ct i j g (f+1) x=ct i j g f ((a7 i j g x.1).1,x.2++[(a7 i j g x.1).2]):=(by rw[ct,ag q]);rw[e] at m ⊢;obtain⟨s,u⟩:=pV a b g p x.1 o r;have t:(a7 i j g x.1).1.er=0:=by
      by_cases n:(a7 i j g x.1).1.er=0
      . exact n
      rw[mI s n] at m;exact absurd m n
     refine ws k l a b g f 0 _ s u (λd c=>?_) m;rcases mK c with c|rfl
     . exact h d c
     exact wb k l a b g p x.1 o r t
   have e:ct i j g (f+1) x=x:=(by rw[ct,ae q]);rw[e];exact h
theorem FR (c:bI 17 i)(d:bI 18 j)(a:zv 17 i)(b:zv 18 j)(g:Nat)(s:Xb)(k:Inv 0 (⟨s,zZ s 0,0,0,0,[]⟩:St))(o:(dm i j g s).1.er=0):∀m∈(dm i j g s).2,kY m:=by
 have e:(ct i j g g ((a7 i j g ⟨s,zZ s 0,0,0,0,[]⟩).1,[(a7 i j g ⟨s,zZ s 0,0,0,0,[]⟩).2])).1.er=0:=(pU _).back o;obtain⟨l,p⟩:=pV a b g 0 ⟨s,zZ s 0,0,0,0,[]⟩ k rfl;have n:(a7 i j g ⟨s,zZ s 0,0,0,0,[]⟩).1.er=0:=by
  by_cases f:(a7 i j g ⟨s,zZ s 0,0,0,0,[]⟩).1.er=0
  . exact f
  rw[mI l f] at e;exact absurd e f
 refine ws c d a b g g 0 _ l p (λm h=>?_) e;rw[cu.1 h];exact wb c d a b g 0 _ k rfl n
end
section
open Go.RowKit
variable {L:List Ex}
def j9 {α β:Type}(f:α->Option β):List α->Option (List β)
 | []=>some []
 | a::l=>match f a with
   | none=>none
   | some b=>match j9 f l with
     | none=>none
     | some m=>some (b::m)
theorem IZ {α β:Type}{f:α->Option β}:∀{l:List α} {m:List β},j9 f l=some m->m.length=l.length/\∀(i:Nat) (a:α) (b:β),l[i]?=some a->m[i]?=some b->f a=some b:=by
 intro l;induction l with
 | nil=>intro m h;cases h;exact⟨rfl,λi a b h=>by simp at h⟩
 | cons a l n =>
   intro m h;unfold j9 at h;split at h
   . cases h
   rename_i b j
   split at h
   . cases h
   rename_i o k
   cases h;obtain⟨e,g⟩:=n k;refine⟨by simp[e],λi x y c d=>?_⟩;cases i with
   | zero=>simp at c d;subst c d;exact j
   | succ i=>exact g i x y (by simpa using c) (by simpa using d)
def pC (L:List Ex):Nat->Nat->Option Tm
 | 0,_=>none
 | f+1,x=>match L[x]? with
   | none=>none
   | some a=>match j9 (pC L f) a.ah with
     | none=>none
     | some b=>some (.mk (aF a.op.toList a.n) a.a a.s a.nm (df a.op.toList a.n) b)
theorem Jq:∀{f x:Nat} {t:Tm},pC L f x=some t->bX L x t:=by
 intro f;induction f with
 | zero=>intro x t h;cases h
 | succ f k =>
   intro x t h;unfold pC at h;split at h
   . cases h
   rename_i b g
   split at h
   . cases h
   rename_i l a
   cases h;obtain⟨c,d⟩:=IZ a;exact bX.mk x b l g c (λi y t j e=>k (d i y t j e))
theorem bX.one {x:Nat}{t d:Tm}(h:bX L x t)(m:bX L x d):t=d:=by
 induction h generalizing d with
 | mk x k j p r s q =>
   cases m with
   | mk _ l b a o c =>
     rw[p] at a;cases a;have:j=b:=by
      apply List.ext_getElem?;intro i;by_cases n:i<j.length
      . have e:=av n;have f:=av (show i<b.length by omega);have g:=av (show i<k.ah.length by omega);rw[e,f,q i _ _ g e (c i _ _ g f)]
      rw[List.getElem?_eq_none (by omega),List.getElem?_eq_none (by omega)]
     rw[this]
def qg (L:List Ex)(q:ax):Option Qn:=match pC L 40 q.ex with
 | none=>none
 | some t=>some ⟨q.ns,q.ps,q.a,t⟩
def yU (d:Nd):Option ay:=match j9 (qg d.az) d.eqs with
 | none=>none
 | some l=>some ⟨d.nm,d.a,d.ab,d.ah,d.aG,l⟩
def pA (l:List Nd):Option (List ay):=j9 yU l
theorem Kh:∀{l:List ax} {c m:List Qn},fM L l c->j9 (qg L) l=some m->c=m:=by
 intro l;induction l with
 | nil=>rintro c m rfl h;cases h;rfl
 | cons q l o =>
   rintro c m ⟨p,w,rfl,k,i⟩ h;unfold j9 at h;split at h
   . cases h
   rename_i b a
   split at h
   . cases h
   rename_i x j
   cases h;rw[o i j];unfold qg at a;split at a
   . cases a
   rename_i t n
   cases a;obtain⟨d,e,f,g⟩:=k;obtain⟨r,s,u,v⟩:=p;simp only at d e f g;subst d e f;rw[g.one (Jq n)]
theorem yF:∀{l:List Nd} {c m:List ay},dS l c->pA l=some m->c=m:=by
 intro l;induction l with
 | nil=>rintro c m rfl h;cases h;rfl
 | cons d l s =>
   rintro c m ⟨n,z,rfl,q,o⟩ h;unfold pA j9 at h;split at h
   . cases h
   rename_i b a
   split at h
   . cases h
   rename_i A p
   cases h;rw[s o p];unfold yU at a;split at a
   . cases a
   rename_i B r
   cases a;obtain⟨e,f,g,i,j,k⟩:=q;obtain⟨t,u,v,w,x,y⟩:=n;simp only at e f g i j k;subst e f g i j;rw[Kh k r]
end
section
def lO:Option Nat->Nat->Prop
 | none,_=>False
 | some b,p=>b<=p
theorem qU (b p:Nat):aj (some b) p=if p<b then some p else some b:=rfl
theorem Gr (o:Xo)(p:Nat):lO (aj o p) p:=by
 cases o with
 | none=>exact an _
 | some b=>rw[qU];split;exact an _;show b<=p;omega
theorem F0 {o:Xo}{q:Nat}(p:Nat)(h:lO o q):lO (aj o p) q:=by
 cases o with
 | none=>exact h.elim
 | some b=>rw[qU];split;(have h:b<=q:=h;show p<=q;omega);exact h
theorem l9:∀(l:Xn) (o:Xo),(∀q,lO o q->lO (l.foldl aj o) q)/\∀p∈l,lO (l.foldl aj o) p
 | [],o=>⟨λ_ h=>h,λp h=>by cases h⟩
 | x::l,o=>by
   obtain⟨a,b⟩:=l9 l (aj o x);refine⟨λq c=>a q (F0 x c),λp hp=>?_⟩;rcases cC.1 hp with rfl|hp
   . exact a _ (Gr o p)
   exact b p hp
theorem lg:∀(l:Xn) (o:Xo),l.foldl aj o=o∨∃p∈l,l.foldl aj o=some p
 | [],_=>ao rfl
 | x::l,o=>by
   rcases lg l (aj o x) with h|⟨p,a,h⟩
   . rw[List.foldl_cons,h];cases o with
     | none=>exact ap ⟨x,ce ..,rfl⟩
     | some b =>
       rw[qU];split
       . exact ap ⟨x,ce ..,rfl⟩
       exact ao rfl
   exact ap ⟨p,cS _ a,h⟩
theorem E1 {l a:Xn}(h:∀x,x∈l↔x∈a):zO l=zO a:=by
 unfold zO;rcases lg l none with d|⟨p,i,d⟩
 . have g:l=[]:=by
    cases l with
    | nil=>rfl
    | cons x l=>have:=(l9 (x::l) none).2 x (ce ..);rw[d] at this;exact this.elim
   have f:a=[]:=by
    cases a with
    | nil=>rfl
    | cons x a=>have:=(h x).2 (ce ..);rw[g] at this;cases this
   rw[g,f]
 rcases lg a none with e|⟨q,j,e⟩
 . have:=(l9 a none).2 p ((h p).1 i);rw[e] at this;exact this.elim
 have b:=(l9 l none).2 q ((h q).2 j);have c:=(l9 a none).2 p ((h p).1 i);rw[d] at b;rw[e] at c;rw[d,e];have b:p<=q:=b;have c:q<=p:=c;rw[Nat.le_antisymm b c]
theorem nh:∀t:Tm,∀u,u∈b7 t↔u∈bh b8 t:=by
 intro t;induction t using Tm.ind with
 | h k a s nm n c f =>
   intro u;rw[b7,bh,ag (show b8 (.mk k a s nm n c)=true from rfl),bj,cu,cC];have d:∀l:List Tm,(∀t∈l,∀u,u∈b7 t↔u∈bh b8 t)->(u∈cH l↔u∈cN b8 l):=by
    intro l;induction l with
    | nil=>intro _;rw[cH,cN]
    | cons t l b => intro h;rw[cH,cN,bj,bj,h t (ce ..),b (λt e=>h t (cS _ e))]
   rw[d c f];exact Or.comm
end
section
variable {L:List Ex}
theorem oT {s:Xb}:∀{l:List Nd} {a:List ay} {i:Nat},dS l a->ea s l i=fX s a i:=by
 intro l;induction l with
 | nil=>rintro a i rfl;rfl
 | cons d l e => rintro a i ⟨n,f,rfl,c,b⟩;rw[ea,fX,e b,c.nm]
theorem oK:∀{l:List Nd} {a:List ay} (k:Nat),dS l a->dS (l.take k) (a.take k):=by
 intro l;induction l with
 | nil=>rintro a k rfl;cases k <;> rfl
 | cons d l f =>
   rintro a k ⟨n,b,rfl,e,c⟩;cases k with
   | zero=>rfl
   | succ k=>exact⟨n,b.take k,rfl,e,f k c⟩
theorem qN:∀a:List Vr,dP true a=(a.filter (·.bn)).length
 | []=>rfl
 | v::l=>by rw[dP,qN l,List.filter_cons];cases v.bn <;> simp <;> omega
theorem v1:∀a:List Vr,dP false a=(a.filter (·.out)).length
 | []=>rfl
 | v::l=>by rw[dP,v1 l,List.filter_cons];cases v.out <;> simp <;> omega
theorem wk {i:Nat}:∀{l:List ax},(∀q∈l,q.ex≠i)->fC i l=1
 | [],_=>rfl
 | q::l,h=>by rw[fC,ae (λe=>h q (ce ..) e.1),wk (λq a=>h q (cS _ a))]
theorem Fu (t:Tm):1<=(b7 t).length:=by
 cases t with
 | mk k a s nm n b=>rw[b7,aP];simp
theorem F7:∀{l:List ax} {a b:Nat} {d:List Qn},eH L a l d b->∀q∈l,a<=q.ex:=by
 intro l;induction l with
 | nil=>intro a b d _ q h;cases h
 | cons p l g =>
   rintro a b d ⟨i,m,c,rfl,j,e,k,f⟩ q hq;have:=Fu i.r;have:=e.len;rcases cC.1 hq with rfl|hq
   . omega
   have:=g f q hq;omega
def q5 (L:List Ex)(l:List ax)(q:ax)(a:Qn)(i:Nat)(u:Tm):Prop :=
 bX L i u/\u∈b7 a.r/\fC i l=(if q.ex=i/\1<q.ns.length then q.ns.length else 1)/\(q.ex=i->u=a.r)/\(q.ex≠i->cc u<cc a.r)
theorem FK:∀(t u:Tm),u∈b7 t->cc u<=cc t:=by
 intro t;induction t using Tm.ind with
 | h k a s nm n g f =>
   intro u h;rw[b7,bj,cu] at h;rcases h with h|rfl
   . have c:∀l:List Tm,(∀t∈l,∀u,u∈b7 t->cc u<=cc t)->u∈cH l->cc u<=gB l:=by
      intro l;induction l with
      | nil=>intro _ h;rw[cH] at h;cases h
      | cons t l b =>
        intro d h;rw[cH,bj] at h;rw[gB];rcases h with h|h
        . have:=d t (ce ..) u h;omega
        have:=b (λt e=>d t (cS _ e)) h;omega
     have:=c g f h;rw[cc];omega
   exact an _
theorem oN:∀(l:List Tm) (u:Tm),u∈cH l->cc u<=gB l
 | [],u,h=>by rw[cH] at h;cases h
 | t::l,u,h=>by
   rw[cH,bj] at h;rw[gB];rcases h with h|h
   . have:=FK t u h;omega
   have:=oN l u h;omega
theorem Fl (t:Tm)(i:Nat)(u:Tm)(h:(b7 t)[i]?=some u)(b:i+1<(b7 t).length):cc u<cc t:=by
 cases t with
 | mk k a s nm n c => rw[b7,aP,List.length_singleton] at b;rw[b7,e9 (by omega)] at h;have:=oN c u (aM h);rw[cc];omega
theorem E6 (t:Tm)(i:Nat)(u:Tm)(h:(b7 t)[i]?=some u)(b:i+1=(b7 t).length):u=t:=by
 cases t with
 | mk k a s nm n c => rw[b7,aP,List.length_singleton] at b;rw[b7,e8 (by omega),show i-(cH c).length=0 by omega] at h;exact (Option.some.inj h).symm
theorem vX:∀{l:List ax} {a b:Nat} {d:List Qn},eH L a l d b->a<=b:=by
 intro l;induction l with
 | nil=>rintro a b d ⟨_,rfl⟩;exact an _
 | cons q l g=>rintro a b d ⟨_,_,c,_,_,e,_,f⟩;have:=g f;have:=e.len;omega
theorem qR:∀{l:List ax} {a b:Nat} {o:List Qn},eH L a l o b ->
 (∀i,a<=i->i<b->∃(j:Nat) (q:ax) (d:Qn) (u:Tm),l[j]?=some q/\o[j]?=some d/\q5 L l q d i u) /\
 (∀(j:Nat) (q:ax) (d:Qn) (u:Tm),l[j]?=some q->o[j]?=some d->u∈b7 d.r->∃i,a<=i/\i<b/\q5 L l q d i u):=by
 intro l;induction l with
 | nil => rintro a b o ⟨rfl,rfl⟩;exact⟨λi D r=>by omega,λj q d u h=>by simp at h⟩
 | cons q l J =>
   rintro a b o ⟨d,N,c,rfl,D,r,K,s⟩;obtain⟨H,I⟩:=J s;have C:=r.len;have t:=F7 s;have E:=vX s;have k:∀i u,(b7 d.r)[i]?=some u->q5 L (q::l) q d (a+i) u:=λi u g=>by
    have x:=(aB.1 g).1;refine⟨r.tr i u g,aM g,?_,λe=>E6 _ i u g (by omega),λe=>Fl _ i u g (by omega)⟩;rw[fC];split
    . rfl
    exact wk (λp G=>by have:=t p G;omega)
   have f:∀{p:ax} {n:Qn} {i:Nat} {u:Tm},c<=i->q5 L l p n i u->q5 L (q::l) p n i u:=fun {p n i u} v h=>by refine⟨h.1,h.2.1,?_,h.2.2.2⟩;rw[fC,ae (λe=>by omega)];exact h.2.2.1
   refine⟨λi F w=>?_,λj p n u y m g=>?_⟩
   . by_cases M:i<c
     . have g:=av (show i-a<(b7 d.r).length by omega);have:=k _ _ g;rw[show a+(i-a)=i by omega] at this;exact⟨0,q,d,_,rfl,rfl,this⟩
     obtain⟨j,p,n,u,z,A,B⟩:=H i (by omega) w;exact⟨j+1,p,n,u,z,A,f (by omega) B⟩
   cases j with
   | zero => simp at y m;subst y m;obtain⟨i,v⟩:=List.mem_iff_getElem?.1 g;have x:=(aB.1 v).1;exact⟨a+i,by omega,by omega,k i u v⟩
   | succ j => obtain⟨i,z,A,B⟩:=I j p n u (by simpa using y) (by simpa using m) g;exact⟨i,by omega,A,f z B⟩
end
section
variable {r:List Nd} {g:List ay} {k:Nat} {d:Nd} {n:ay}
theorem E0 {s:Xb}:∀{l:List Vr} {i:Nat},bm s l i=none->∀v∈l,v.nm≠s:=by
 intro l;induction l with
 | nil=>intro i _ v h;cases h
 | cons x l b =>
   intro i h v hv;rw[bm] at h;split at h
   . cases h
   rename_i a
   rcases cC.1 hv with rfl|hv
   . exact a
   exact b h v hv
theorem F1 (o:Xo):decide (bC o<0)=!o.isSome:=by
 cases o with
 | none=>rfl
 | some n=>exact decide_eq_false (show ¬((n:Int)<0) by omega)
theorem w7 (v:Vr):(ba v != 0)=v.tm:=by unfold ba;cases v.tm <;> cases v.nt <;> rfl
theorem w3 (c:Sc):∀(l:List Vr) (i:Nat),(∀v∈l,v∈c.nd.ab)->e7 c.nd.ab i l=dQ c l i
 | [],_,_=>rfl
 | v::l,i,h=>by
   rw[e7,dQ,w3 c l (i+1) (λx o=>h x (cS _ o)),oz];have b:(bC (bm v.nm c.nd.ab 0)<(i:Int))↔((c.nd.find v.nm).getD 0<i):=by
    unfold ay.find;cases m:bm v.nm c.nd.ab 0 with
    | none=>exact absurd rfl (E0 m v (h v (ce ..)))
    | some j=>simp[bC]
   have f:(v.tm&&decide (bC (bm v.ck c.nd.ab 0)<0))=(ba v != 0&&!c.has v.ck):=(by rw[w7,F1];rfl);rw[f];by_cases a:bC (bm v.nm c.nd.ab 0)<(i:Int)
   . rw[ag a,ag (b.1 a)]
   rw[ae a,ae (λe=>a (b.2 e))]
theorem q2 {c:List Vr}(h:hS c)(i:Nat)(v:Vr)(a:c[i]?=some v):v.bn=decide (i<(c.filter (·.bn)).length):=by
 obtain⟨A,B,C,rfl,e,f,j⟩:=h.arr;have l:((A++B++C).filter (·.bn)).length=A.length:=by rw[List.filter_append,List.filter_append,n9 (λv a=>(e v a).1),jt (λv a=>(f v a).1),jt (λv a=>(j v a).1)];simp
 rw[l];by_cases b:i<A.length
 . rw[bw,e9 b] at a;rw[(e v (aM a)).1,decide_eq_true b]
 rw[decide_eq_false b];rw[bw,e8 (by omega)] at a;have:=aM a;rcases bj.1 this with h'|h'
 . exact (f v h').1
 exact (j v h').1
theorem w4 (c:Sc)(a:c.nd.ah=(c.nd.ab.filter (·.bn)).length)(h:hS c.nd.ab):∀(g:Xl) (b:Xn),fA c.nd.ab g b=z7 c g b
 | [],_=>by rw[fA,z7];all_goals simp
 | _::_,[]=>by rw[fA,z7];all_goals simp
 | s::g,p::b=>by
   rw[fA,z7,w4 c a h g b];have:kp c.nd.ab s=(!c.has s||decide (c.idx s<c.nd.ah)):=by
    unfold kp Sc.has Sc.idx ay.find;cases i:bm s c.nd.ab 0 with
    | none=>rfl
    | some f => obtain⟨_,_,v,e,_⟩:=kP i;rw[Nat.sub_zero] at e;simp only[e,Option.isSome_some,Bool.not_true,Bool.false_or,Option.getD_some];rw[q2 h f v e,a]
   rw[this]
def oc (k:Nat):Prop:=ch k=false/\(k==4)=false
theorem FH {p:Prop} [Decidable p] {a b:Nat}(c:oc a)(e:oc b):oc (if p then a else b):=by split <;> assumption
theorem qO (l:Xu)(n:Nat):ch (aF l n)=hJ l/\(aF l n==4)=(l==[99,97,108,108]):=by
 by_cases a:l=[118,97,114]
 . subst a;exact⟨rfl,rfl⟩
 by_cases b:l=[99,97,108,108]
 . subst b;exact⟨rfl,rfl⟩
 by_cases c:l=[109,101,114,103,101]
 . subst c;exact⟨rfl,rfl⟩
 by_cases e:l=[119,104,101,110]
 . subst e;exact⟨rfl,rfl⟩
 by_cases f:l=[119,104,101,110,111,116]
 . subst f;exact⟨rfl,rfl⟩
 have h:hJ l=false:=by unfold hJ;rw[bf.2 a,bf.2 e,bf.2 f,bf.2 c];rfl
 rw[h,bf.2 b];unfold aF;rw[ae a,ae b,ae c,ae e,ae f]
 show oc _
 repeat' (first|exact⟨rfl,rfl⟩|refine FH ?_ ?_)
theorem EP {x:Nat}:∀{l:List Ex} {j:Nat},x∈ek r k d j l↔∃i e,l[i]?=some e/\x∈jb r k d (j+i) e
 | [],j=>by simp[ek]
 | e::l,j=>by
   rw[ek,bj,EP (l:=l)];constructor
   . rintro (h|⟨i,c,a,b⟩)
     . exact⟨0,e,rfl,h⟩
     exact⟨i+1,c,a,by rw[show j+(i+1)=j+1+i by omega];exact b⟩
   rintro⟨i,c,a,b⟩;cases i with
   | zero=>simp at a;subst a;exact ao b
   | succ i=>exact ap ⟨i,c,by simpa using a,by rw[show j+1+i=j+(i+1) by omega];exact b⟩
theorem nr:∀{l:List Nd} {g:List ay},dS l g->∀(i:Nat) (d:Nd),l[i]?=some d->∃n,g[i]?=some n/\ht d n:=by
 intro l;induction l with
 | nil=>rintro g rfl i d h;simp at h
 | cons d0 l c =>
   rintro g ⟨n,e,rfl,b,a⟩ i d h;cases i with
   | zero=>simp at h;subst h;exact⟨n,rfl,b⟩
   | succ i=>exact c a i d (by simpa using h)
theorem FQ {i w:Nat}{e:Ex}{u:Tm}(a:dS r g)(t:u.s=e.s)(s:u.ts.length=e.ah.length)(x:fC i d.eqs=w):(⟨g.take k,n⟩:Sc).fits u w=jQ r k d i e:=by
 unfold Sc.fits jQ Sc.called;rw[t,s,oT (oK k a),x];cases q:fX e.s (g.take k) 0 with
 | none=>rfl
 | some f => obtain⟨_,o,v,j,_⟩:=iC q;rw[Nat.sub_zero] at j;have l:f<k:=(by rw[List.length_take] at o;omega);have h:g[f]?=some v:=(by rw[List.getElem?_take,ag l] at j;exact j);have c:f<r.length:=(by have:=(aB.1 h).1;have:=a.len;omega);obtain⟨m,p,b⟩:=nr a f _ (av c);rw[h] at p;cases p;simp only[j,av c];rw[b.ah,b.aG,qN,v1];rfl
theorem E3 (F:dS r g)(b:ht d n)(K:eH d.az 0 d.eqs n.eqs d.az.length)(a0:hS d.ab)(S:∀q∈n.eqs,1<=q.ns.length)(x:Nat):x∈l8 r k d↔x∈(⟨g.take k,n⟩:Sc).cG:=by
 obtain⟨c,y⟩:∃c:Sc,c=⟨g.take k,n⟩:=⟨_,rfl⟩;rw[<- y];have z:c.nd.ab=d.ab:=by rw[y];exact b.ab
 have Q:c.nd.ah=(c.nd.ab.filter (·.bn)).length:=by rw[z,y];exact b.ah
 unfold l8 Sc.cG;have Z:(ea d.nm (r.take k) 0).isSome=(c.called c.nd.nm).isSome:=by
  rw[oT (oK k F),y];unfold Sc.called;rw[<- b.nm];cases a2:fX n.nm (g.take k) 0 with
  | none=>rfl
  | some f => obtain⟨_,_,v,Y,_⟩:=iC a2;rw[Nat.sub_zero] at Y;simp only[Y];rfl
 have ak:e7 d.ab 0 d.ab=dQ c c.nd.ab 0:=by rw[<- z];exact w3 c c.nd.ab 0 (λv h=>h)
 have al:∀x,x∈gZ d.ab d.eqs↔x∈c.nd.eqs.flatMap λq=>z7 c q.ns q.ps:=λx=>by
  have D:∀{l:List ax} {A:List Qn},fM d.az l A->(l.flatMap λq=>fA d.ab q.ns q.ps)=A.flatMap λq=>z7 c q.ns q.ps:=by
   intro l;induction l with
   | nil=>rintro A rfl;rfl
   | cons q l W => rintro A ⟨m,l',rfl,C,O⟩;rw[List.flatMap_cons,List.flatMap_cons,W O,C.ns,C.ps,<- z,w4 c Q (z▸a0)]
  unfold gZ;rw[D b.eqs,y]
 have ar:x∈ek r k d 0 d.az↔x∈c.nd.eqs.flatMap λq=>(bh b8 q.r).flatMap (fF c q):=by
  obtain⟨g1,g2⟩:=qR K;have B:∀{j:Nat} {q:ax} {m:Qn} {i:Nat} {u:Tm} {e:Ex},d.eqs[j]?=some q->n.eqs[j]?=some m->q5 d.az d.eqs q m i u->d.az[i]?=some e->jb r k d i e=fF c m u:=by
   intro j q m i u e R a s G;obtain⟨a5,X,hw,T,U⟩:=s;have t:m.ns=q.ns:=by
    have D:∀{l:List ax} {A:List Qn} {j:Nat},fM d.az l A->l[j]?=some q->A[j]?=some m->m.ns=q.ns:=by
     intro l;induction l with
     | nil=>rintro A j rfl h;simp at h
     | cons p l W =>
       rintro A j ⟨p',l',rfl,C,O⟩ w E;cases j with
       | zero=>simp at w E;subst w E;exact C.ns
       | succ j=>exact W O (by simpa using w) (by simpa using E)
    exact D b.eqs R a
   have I:=S m (aM a);have V:fC i d.eqs=hp m u:=by
    rw[hw];unfold hp;by_cases o:q.ex=i
    . rw[T o,ag rfl,t];by_cases C:1<q.ns.length
      . rw[ag ⟨o,C⟩]
      rw[ae (λe=>C e.2)];rw[t] at I;omega
    rw[ae (λe=>o e.1),ae (by have:=U o;omega)]
   cases a5 with
   | mk _ ex ts o a4 a9 =>
     rw[o] at G;cases G;obtain⟨L,M⟩:=qO e.op.toList e.n;unfold jb fF;rw[<- V,y,FQ (u:=.mk (aF e.op.toList e.n) e.a e.s e.nm (df e.op.toList e.n) ts) (d:=d) (i:=i) (e:=e) F rfl a4 rfl]
     show _=(if (ch (aF e.op.toList e.n)&&!(⟨g.take k,n⟩:Sc).has e.s)=true then [e.nm] else [])++(if (aF e.op.toList e.n==4&&!jQ r k d i e)=true then [e.nm] else []);rw[L,M];have a3:(⟨g.take k,n⟩:Sc).has e.s=(bm e.s d.ab 0).isSome:=(by unfold Sc.has ay.find;rw[b.ab]);rw[a3];by_cases w:hJ e.op.toList=true
     . have E:(e.op.toList==[99,97,108,108])=false:=(by rw[<- M];rw[<- L] at w;unfold ch at w;simp at w ⊢;omega);rw[w,E];cases bm e.s d.ab 0 <;> simp
     have P:hJ e.op.toList=false:=(by simpa using w);rw[P];cases (e.op.toList==[99,97,108,108]) <;> cases jQ r k d i e <;> simp
  rw[EP,ed];constructor
  . rintro⟨i,e,G,o⟩;rw[Nat.zero_add] at o;have N:=(aB.1 G).1;obtain⟨j,q,m,u,R,a,s⟩:=g1 i (aE _) N;rw[B R a s G] at o;refine⟨m,by rw[y];exact aM a,ed.2 ⟨u,(nh _ u).1 s.2.1,o⟩⟩
  rintro⟨m,t,o⟩;obtain⟨u,X,o⟩:=ed.1 o;have J:m∈n.eqs:=by rw[y] at t;exact t
  obtain⟨j,a⟩:=List.mem_iff_getElem?.1 J;have H:j<d.eqs.length:=by have:=(aB.1 a).1;have:=b.eqs.len;omega
  obtain⟨i,_,N,s⟩:=g2 j _ m u (av H) a ((nh _ u).2 X);refine⟨i,_,av N,?_⟩;rw[Nat.zero_add,B (av H) a s (av N)];exact o
 rw[Z,ak,bj,bj,al,ar,y,b.a];simp only[bj]
end
end Go.Proofs.YtmfkofhgdjechaaGreatDoor
