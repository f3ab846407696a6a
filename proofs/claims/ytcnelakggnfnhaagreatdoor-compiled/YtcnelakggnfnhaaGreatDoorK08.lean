/- Part 9. -/
import Derived.Carry
import Derived.Deep.MidRow
import Derived.LaidEql
import Derived.RowKitTokens
import Derived.Stop.Asserts
import Derived.Test.YtcnelakggnfnhaaGreatDoorK07
set_option maxRecDepth 100000
set_option maxHeartbeats 8000000
namespace Go.Proofs.YtcnelakggnfnhaaGreatDoor
open Go.Proofs.Tryz
section
open Go.RowKit
variable {m:Xm} {N b l:Nat} {f:Xp} {d:Sc} {o:Xv} {W w j:Xw}
attribute [local go_sem ↓] Go.wp_at_zero Go.wp_at_succ
structure ki (w:Xw) (N:Nat) (d:Sc) (X l:Nat) (f:Xp) (b:Nat) (W:Xw):Prop where
 box:W.heap[X]?=some (.cells #[xE f d b,xP l] 73 (0,0))
 sc:br W N d (xE f d b) (xP l)
 aH:xB w W
theorem su (c:xB w W)(a:xB W j)(g:br j N d (xE f d b) (xP l))(i:N<=w.heap.size) :
 ki w N d j.heap.size l f b (j.alloc (.cells #[xE f d b,xP l] 73)):=by
 have e:=c.size;have h:=a.size;exact⟨zc _ _,g.am (OJ (by omega) _),(c.trans (a.mono e)).alloc (by omega) _⟩
theorem ss {e g:Xv}(h:xB w W)(a:Below (W.alloc (.cells #[e,g] 73)).heap.size (W.alloc (.cells #[e,g] 73)) j)(p:br j N d (xE f d b) (xP l))(q:N<=w.heap.size) :
 ki w N d W.heap.size l f b ((j.setCell (xD W.heap.size 0) (xE f d b)).setCell (xD W.heap.size 1) (xP l)):=by
 have c:=h.size;have n:xH j W.heap.size #[e,g] 73:=(a.block _ (by rw[au];omega)).trans (zc W _);have i:=zh (j.setCell (xD W.heap.size 0) (xE f d b)) W.heap.size 1 (xP l) (zh j W.heap.size 0 (xE f d b) n);refine⟨i,p.am (λk r=>?_),zC (zC (h.trans ((zE a).mono c)) c _) c _⟩;exact (zr (by omega) rfl).trans (zr (by omega) rfl)
theorem me {c:Sc}{F:Xv}(s:Xb)(a:Int)(w:Xw)(n:br w N c o F)(K:N<=w.heap.size)(O:c.has s=true) :
 xK 104 #[.agg #[o,F],.agg #[.string s,xI a]] w (λe h=>e=.returned (xI (c.decl s:Nat))/\xB w h):=by
 obtain⟨A,p,t,rfl,rfl,Q⟩:=n.shape;obtain⟨S,vs,aL,m,J,r⟩:=n.nd;cases J;obtain⟨i,D⟩:∃i,c.nd.find s=some i:=Option.isSome_iff_exists.1 O;have P:=(kP D).2.1;obtain⟨v,E⟩:∃v,c.nd.ak[i]?=some v:=⟨_,av (by omega)⟩;have k:c.idx s=i:=by unfold Sc.idx;rw[D];rfl
 have G:aa (c.decl s=dt v):=by unfold aa Sc.decl;rw[k,E];rfl
 obtain⟨a4,x,rfl⟩:=zB r.bZ;obtain⟨g,rfl,T,U,H,V,X,Y,Z⟩:=hj r.bZ E;have C:=r.bO;have M:=r.jc g rfl;have i1:(i:Int)<(c.nd.ak.length:Int):=by omega
 have i0:(0:Int)<=(i:Int):=by omega
 go_enter func104,ntmps104;go_upto_region 1 with fail;refine zn (λW=>(W.heap[w.heap.size]?=some (.cells #[xE A c p,xP t] 201 (0,0))/\W.heap[w.heap.size+1]?=some (.cells #[.string s,xI a] 78 (0,0)))/\xB w W) ⟨⟨(mm _ _ _ (by simp)).trans (zc w _),by have:=zc (w.alloc (.cells #[xE A c p,xP t] 201)) (.cells #[.string s,xI a] 78);rwa [au] at this⟩,cT w _ _⟩ ?_;rintro W ⟨⟨R,z⟩,u⟩;obtain⟨a2,s1,a3,sz⟩:=zp R;obtain⟨aV,a0,rf,a1⟩:=zp z;obtain⟨m0,m1,m2,m3,m4,m5,ar,aA⟩:=zt ((u.block t (by omega)).trans r.aC);have I:=zd u H (by omega);have L:=zm u K;have B:=za (hW s a W.drew (n.am (w':=W.drew) L) (by show N<=W.heap.size;omega));rw[k] at B
 go_region_held3 (λh=>h.cell? (xD w.heap.size 0)=some (xE A c p)/\h.cell? (xD w.heap.size 1)=some (xP t)/\h.cell? (xD (w.heap.size+1) 0)=some (.string s)/\h.cell? (xD (w.heap.size+1) 1)=some (xI a)/\h.cell? (xD t 2)=some (xS g c.nd.ak.length x)/\h.cell? (xD g (i*7+2))=some (xI (dv v:Nat)))
  (first|(with_reducible (refine⟨?_,?_,?_,?_,?_,?_⟩ <;> repeat (first|assumption|refine zg ?_|refine zj _ ?_|refine zk (by omega) ?_|refine zd q.o ?_ (by first|omega|(rw[au];omega)))))|go_keep)
  (first
    | (go_at_call 61;refine B.o.mono ?_;rintro e j ⟨rfl,y⟩;have q:=za (zw y)))
 all_goals go_wp2_with fail
 all_goals go_ret
 all_goals exact⟨by rw[G.o];rfl,u.trans (q.o.mono (by omega))⟩
theorem yE {B g n a c:Nat}{e:Xy}(h:w.ownsRow B e c (xS g n a) n m):n<=a/\a<=9223372036854775807:=by
 rcases h.2 with ⟨p,_⟩|⟨t,i,k,s,x,y,q,r,u,v⟩
 . cases p
 cases s;unfold maxLen at r;exact⟨q,by omega⟩
theorem rk {n:ay}{c:Nat}{q:Xv}(w:Xw)(h:NT w N n c q o m)(r:n.ah+n.aG<=n.ak.length)(s:n.ah<n.ak.length) :
 xK 75 #[xP c] w (λe i=>∃g a,q=xS g n.ak.length a/\e=.returned (.slice (some (xD g (n.ah*7))) n.aG (a-n.ah))/\xB w i):=by
 obtain⟨g,a,rfl,_⟩:=zM h.bZ (by omega);obtain⟨t,u,v,x,y,z,A,B⟩:=zt h.aC;have k:=yE h.bZ;have p:=h.bO;have C:(0:Int)<=(n.ah:Int):=by omega
 have D:(n.ah:Int)<=(n.ah:Int)+(n.aG:Int):=by omega
 have E:(n.ah:Int)+(n.aG:Int)<=(a:Int):=by omega
 have F:¬(n.ah=a):=by omega
 have G:¬((n.ah:Int)=(a:Int)):=by omega
 have H:¬(a=n.ah):=by omega
 have I:((n.ah:Int)+(n.aG:Int)).toNat=n.ah+n.aG:=by omega
 have J:IntKind.i64.wrap ((n.ah:Int)+(n.aG:Int))=(n.ah:Int)+(n.aG:Int):=by rw[IntKind.wrap_i64];omega
 have K:(0:Int)<=(n.ah:Int)+(n.aG:Int):=by omega
 go_enter func75,ntmps75;go_upto_region 1 with fail
 go_region_held3 (λi=>i.cell? (xD c 2)=some (xS g n.ak.length a)/\i.cell? (xD c 3)=some (xI n.ah)/\i.cell? (xD c 4)=some (xI n.aG))
  (first|(with_reducible (refine⟨?_,?_,?_⟩ <;> repeat (first|assumption|refine zg ?_|refine zj _ ?_|refine zk (by omega) ?_)))|go_keep) (fail)
 all_goals go_wp2_with fail
 all_goals go_ret
 all_goals exact⟨_,_,rfl,rfl,zo (yS _ _)⟩
end
section
open Go.RowKit
variable {N:Nat} {c:Sc} {t u:Tm}
attribute [local go_sem ↓] Go.wp_at_zero Go.wp_at_succ
structure gP (n:ay):Prop where
 ah:1<=n.ah
 aG:1<=n.aG
 io:n.ah+n.aG<=n.ak.length
 bO:n.ak.length<=16
 eqs:∀q∈n.eqs,q.ns.length=q.ps.length/\1<=q.ns.length/\Wf q.r/\(2<=q.ns.length->q.r.k=4)
structure eU (c:Sc):Prop where
 er:∀n∈c.er,gP n
 nd:gP c.nd
 bO:c.er.length<=6
theorem eU.called {d:Sc}(h:eU c){s:Xb}(a:c.called s=some d):eU d/\d.nd∈c.er:=by
 unfold Sc.called at a;split at a
 . cases a
 rename_i i g
 split at a
 . cases a
 rename_i n f
 cases a;have e:=aM f;exact⟨⟨λm b=>h.er m (List.mem_of_mem_take b),h.er n e,by have:=h.bO;simp;omega⟩,e⟩
def gN (c:Sc)(t:Tm):Prop:=∀u∈bh b8 t,(NA u.k=true->c.has u.s=true)/\(u.k=4->∃d,c.called u.s=some d/\d.nd.ah=u.ts.length)/\dJ u.k u.ts.length=true
theorem Jg {g:Tm->Bool}{a:List Tm}(ht:t∈a)(b:u∈bh g t):u∈cN g a:=by
 induction a with
 | nil=>simp at ht
 | cons x a d =>
   rw[cN];rcases cC.1 ht with rfl|ht
   . exact List.mem_append_left _ b
   exact List.mem_append_right _ (d ht)
theorem nL (g:Tm->Bool)(t:Tm):t∈bh g t:=by
 cases t with
 | mk k a s b n d=>rw[bh];simp
theorem gN.sub (h:gN c t)(b:u∈t.ts):gN c u:=by
 intro x d;refine h x ?_;cases t with
 | mk k a s e n f => rw[bh];refine cS _ ?_;rw[ag (show b8 _=true from rfl)];exact Jg b d
theorem xd:∀{a:List Tm} {i:Nat} {t:Tm},a[i]?=some t->dO c a i=MO c t:=by
 intro a;induction a with
 | nil=>intro i t h;simp at h
 | cons x a b =>
   intro i t h;cases i with
   | zero=>simp at h;subst h;rw[dO]
   | succ i=>rw[dO];exact b (by simpa using h)
theorem TT.arg {w:Xw}{m:Nat}{x:Xp}{n:Nat}{d:Xm}{i:Nat}(a:w.ownsRow 0 157 1 (.slice x m n) m d)(q:d.length=t.ts.length)(o:∀(i:Nat) (u:Tm) (x:Xv),t.ts[i]?=some u->d[i]?=some x->TT w N u x)(k:t.ts[i]?=some u):∃g b,x=some (xD g 0)/\xC w g i (xP b)/\TT w N u (xP b)/\b<N:=by have p:=(aB.1 k).1;have l:d[i]?=some d[i]:=av (by omega);obtain⟨g,rfl,j⟩:=nB a l;have f:=o i u _ k l;obtain⟨b,_,_,e,h,_⟩:=f.ptr;rw[e] at j f;exact⟨g,b,rfl,j,f,h⟩
theorem G7 {n:ay}(h:gP n):∃v,n.ak[n.ah]?=some v/\n.results[0]?=some v:=by have a:=h.io;have b:=h.aG;refine⟨n.ak[n.ah]'(by omega),av _,?_⟩;unfold ay.results;rw[List.getElem?_take,ag (by omega),List.getElem?_drop];simp
theorem nD {ev nv:Xv}(hc:eU c):∀(t:Tm) (v:Xv) (w:Xw),TT w N t v->br w N c ev nv->N<=w.heap.size->gN c t ->
 xK 156 #[.agg #[ev,nv],v] w (λe l=>e=.returned (xI (MO c t:Nat))/\xB w l):=by
 intro t;induction t using Tm.ind with
 | h k a s I n q b1 =>
   intro v w hT h hN hO;obtain⟨b,bL,vs,rfl,cn,B,D,T,U,bb⟩:=hT.ptr;obtain⟨xa,K,rfl⟩:=zB D;have bq:=za h;obtain⟨P,m,O,rfl,rfl,cb⟩:=h.shape;have p:vs.length=q.length:=T;have L:=ze B;obtain⟨o1,o2,o3⟩:=hO _ (nL b8 _);have r:w.heap[b]?=some (.cells #[xI k,xI a,.string s,xI I,xI n,.slice xa q.length K] 211 (0,0)):=(by rw[<- p];exact B);have J:=za r;have E:w.ownsRow 0 157 1 (.slice xa q.length K) q.length vs:=(by rw[<- p];exact D);have a2:=za E;have S:=za U;have bK:=za hO;have a4:=za b1;have a3:=za bb;simp only[Tm.k,Tm.s,Tm.ts] at o1 o2 o3;obtain⟨h0,h1,h2,h3,h4,h5,hf,hz⟩:=zt r;have R:=za p;clear hT D h T p B E U hO b1 bb r h1 h4 hf;have M:k=3∨k=4∨k=7∨k=8∨k=6∨k=5∨k=9∨k=0∨k=10∨k=19∨k=20∨k=21∨k=22∨k=23∨k=1∨k=2∨k=11∨k=12∨k=13∨k=14∨k=15∨k=16∨k=17∨k=18:=by
    have:k<=23:=by
     rcases Nat.lt_or_ge 23 k with h|h
     . exfalso;unfold dJ at o3;simp only[show ¬k<=3 by omega,show ¬k=4 by omega,show ¬k=5 by omega,show ¬k=6 by omega,show ¬k<=8 by omega,show ¬k=9 by omega,show ¬k<=11 by omega,show ¬k<=23 by omega,if_false] at o3;cases o3
     exact h
    omega
   have z:∀W,xB w W->br W N c (xE P c m) (xP O):=λW f=>bq.o.am (zm f hN);rcases M with rfl|rfl|rfl|rfl|rfl|rfl|rfl|rfl|rfl|rfl|rfl|rfl|rfl|rfl|rfl|rfl|rfl|rfl|rfl|rfl|rfl|rfl|rfl|rfl
   . have hh:=o1 rfl;go_enter func156,ntmps156;go_upto_region 3 with fail;refine zn (λW=>(xH W w.heap.size #[xE P c m,xP O] 201)/\xB w W) ⟨zc w _,zq w _⟩ ?_;rintro W ⟨F,f⟩;obtain⟨bE,s1,a0,sz⟩:=zp F;obtain⟨m0,m1,m2,m3,m4,m5,aV,bC⟩:=zt ((f.block b L).trans J.o);have Q:=za f;have aL:=f.size;have a1:=za (me s (I:Int) W.drew (z W.drew (zo f)) (by show N<=W.heap.size;omega) hh);clear F f m0 m1 m4 m5 aV a0
     go_region_held3 (λl=>l.cell? (xD w.heap.size 0)=some (xE P c m)/\l.cell? (xD w.heap.size 1)=some (xP O)/\l.cell? (xD b 2)=some (.string s)/\l.cell? (xD b 3)=some (xI I))
      (first|(with_reducible (refine⟨?_,?_,?_,?_⟩ <;> repeat (first|assumption|refine zg ?_|refine zj _ ?_|refine zk (by omega) ?_|refine zd i.o ?_ (by first|omega|(rw[au];omega)))))|go_keep)
      (first
        | (go_at_call 104;refine a1.o.mono ?_;rintro e w1 ⟨rfl,j⟩;have i:=za (zw j);clear j))
     all_goals go_wp2_with fail
     all_goals go_ret
     all_goals exact⟨by rw[MO];rfl,Q.o.trans (i.o.mono (by omega))⟩
   . obtain⟨d,a9,bx⟩:=o2 rfl;have x:=(hc.called a9).1.nd;go_enter func156,ntmps156;go_upto_region 5 with fail;refine zn (λW=>W.heap[w.heap.size]?=some (.cells #[xE P c m,xP O] 201 (0,0))/\xB w W) ⟨zc w _,zq w _⟩ ?_;rintro W ⟨F,f⟩;obtain⟨bE,s1,a0,sz⟩:=zp F;obtain⟨m0,m1,m2,m3,m4,m5,aV,bC⟩:=zt ((f.block b L).trans J.o);have Q:=za f;have aL:=f.size;have bo:=za (ji s (I:Int) W.drew (z W.drew (zo f)) (by show N<=W.heap.size;omega) hc.bO a9);have bp:=za (λo=>ji s (I:Int) (W.alloc o).drew (z _ (zo (f.alloc (by omega) o))) (by show N<=(W.alloc o).heap.size;simp;omega) hc.bO a9);clear F f m0 m1 m4 m5 aV a0
     go_region_held3 (λl=>l.cell? (xD w.heap.size 0)=some (xE P c m)/\l.cell? (xD w.heap.size 1)=some (xP O)/\l.cell? (xD b 2)=some (.string s)/\l.cell? (xD b 3)=some (xI I))
      (first|(with_reducible (refine⟨?_,?_,?_,?_⟩ <;> repeat (first|assumption|refine zg ?_|refine zj _ ?_|refine zk (by omega) ?_|refine zd i.o ?_ (by first|omega|(rw[au];omega)))))|go_keep)
      (first
        | (go_at_call 96;refine bo.o.mono ?_;rintro e w1 ⟨x2,X,n2,rfl,G,j⟩;have i:=za (zw j);have V:=za G;clear j G)
        | (go_at_call 96;refine (bp.o _).mono ?_;rintro e w1 ⟨x2,X,n2,rfl,G,j⟩;have i:=za (zw j);have V:=za G;obtain⟨ct,cv,cz,cA⟩:=zp ((i.o.block W.heap.size (by rw[au];omega)).trans (zc W _));clear j G))
     all_goals go_upto_region 6 with fail
     refine zn (ki w N d w1.heap.size n2 x2 X) (su Q.o i.o V.o hN) ?_;rotate_left;refine zn (ki w N d W.heap.size n2 x2 X) (ss Q.o i.o V.o hN) ?_
     all_goals
      rintro W2 a5;obtain⟨t0,t1,co,tz⟩:=zp a5.box;obtain⟨ch,cl,ck,cm,bt,C⟩:=a5.sc.nd;cases bt;obtain⟨v0,bg,bk⟩:=G7 x;have b2:aa (MO c (.mk 4 a s I n q)=dv v0):=by
       unfold aa;rw[MO]
       show c.mP s=_;unfold Sc.mP;rw[a9]
       show ((d.nd.results[0]?).map dt).getD 0=_;rw[bk];rfl
      have b3:=za (rk W2 C x.io (by have:=x.io;have:=x.aG;omega));obtain⟨cs,ca,rfl⟩:=zB C.bZ;obtain⟨bY,rfl,_,_,c2,_⟩:=hj C.bZ bg;have ce:=C.jc bY rfl;have bv:=za a5.aH;have bB:=a5.aH.size;have cd:(0:Int)<(d.nd.aG:Int):=(by have:=x.aG;omega);have b0:0<d.nd.aG:=x.aG;have bs:xC W2 bY (d.nd.ah*7+2) (xI (dv v0:Nat)):=c2;clear a5 C bg bk c2 a9 bx x;go_wp2_with (go_at_call 75;refine b3.o.mono ?_;rintro e w3 ⟨g9,b4,bt,rfl,Y⟩;cases bt;have c3:=zd Y bs (by omega);have bl:=za Y;clear Y);go_ret;exact⟨by rw[b2.o];rfl,bv.out.trans (bl.o.mono bB)⟩
   iterate 3
    . have y:0<q.length:=(by simp[dJ] at o3;omega);obtain⟨u,H⟩:∃u,q[0]?=some u:=⟨_,av y⟩;obtain⟨g,ub,rfl,ar,A,be⟩:=TT.arg (t:=.mk _ a s I n q) a2.o R.o S.o H;have bA:=a3.o g rfl;have Z:=bK.o.sub (t:=.mk _ a s I n q) (u:=u) (aM H);have aA:=xd (c:=c) H;go_enter func156,ntmps156;go_upto_region 10 with fail;refine zn (λW=>(xH W w.heap.size #[xE P c m,xP O] 201)/\xB w W) ⟨zc w _,zq w _⟩ ?_;rintro W ⟨F,f⟩;obtain⟨bE,s1,a0,sz⟩:=zp F;obtain⟨m0,m1,m2,m3,m4,m5,aV,bC⟩:=zt ((f.block b L).trans J.o);have Q:=za f;have aL:=f.size;have a6:=zd f ar (by omega);have a1:=za (a4.o u (aM H) (xP ub) W.drew (A.am (zm (zo f) hN)) (z W.drew (zo f)) (by show N<=W.heap.size;omega) Z);have cg:(0:Int)<(q.length:Int):=(by omega);clear F f m0 m1 m2 m3 m4 aV a0 A H
      go_region_held3 (λl=>l.cell? (xD w.heap.size 0)=some (xE P c m)/\l.cell? (xD w.heap.size 1)=some (xP O)/\l.cell? (xD b 5)=some (xS g q.length K)/\l.cell? (xD g 0)=some (xP ub))
       (first|(with_reducible (refine⟨?_,?_,?_,?_⟩ <;> repeat (first|assumption|refine zg ?_|refine zj _ ?_|refine zk (by omega) ?_|refine zd i.o ?_ (by first|omega|(rw[au];omega)))))|go_keep)
       (first
         | (go_at_call 156;refine a1.o.mono ?_;rintro e w1 ⟨rfl,j⟩;have i:=za (zw j);clear j))
      all_goals go_wp2_with fail
      all_goals go_ret
      all_goals exact⟨by rw[MO];show Ending.returned (xI (MO c u:Nat))=Ending.returned (xI (dO c q 0:Nat));rw[aA],Q.o.trans (i.o.mono (by omega))⟩
   iterate 2
    . have y:1<q.length:=(by simp[dJ] at o3;omega);obtain⟨u,H⟩:∃u,q[1]?=some u:=⟨_,av y⟩;obtain⟨g,ub,rfl,ar,A,be⟩:=TT.arg (t:=.mk _ a s I n q) a2.o R.o S.o H;have bA:=a3.o g rfl;have Z:=bK.o.sub (t:=.mk _ a s I n q) (u:=u) (aM H);have aA:=xd (c:=c) H;go_enter func156,ntmps156;go_upto_region 13 with fail;refine zn (λW=>(xH W w.heap.size #[xE P c m,xP O] 201)/\xB w W) ⟨zc w _,zq w _⟩ ?_;rintro W ⟨F,f⟩;obtain⟨bE,s1,a0,sz⟩:=zp F;obtain⟨m0,m1,m2,m3,m4,m5,aV,bC⟩:=zt ((f.block b L).trans J.o);have Q:=za f;have aL:=f.size;have a6:=zd f ar (by omega);have a1:=za (a4.o u (aM H) (xP ub) W.drew (A.am (zm (zo f) hN)) (z W.drew (zo f)) (by show N<=W.heap.size;omega) Z);have cg:(1:Int)<(q.length:Int):=(by omega);clear F f m0 m1 m2 m3 m4 aV a0 A H
      go_region_held3 (λl=>l.cell? (xD w.heap.size 0)=some (xE P c m)/\l.cell? (xD w.heap.size 1)=some (xP O)/\l.cell? (xD b 5)=some (xS g q.length K)/\l.cell? (xD g 1)=some (xP ub))
       (first|(with_reducible (refine⟨?_,?_,?_,?_⟩ <;> repeat (first|assumption|refine zg ?_|refine zj _ ?_|refine zk (by omega) ?_|refine zd i.o ?_ (by first|omega|(rw[au];omega)))))|go_keep)
       (first
         | (go_at_call 156;refine a1.o.mono ?_;rintro e w1 ⟨rfl,j⟩;have i:=za (zw j);clear j))
      all_goals go_wp2_with fail
      all_goals go_ret
      all_goals exact⟨by rw[MO];show Ending.returned (xI (MO c u:Nat))=Ending.returned (xI (dO c q 1:Nat));rw[aA],Q.o.trans (i.o.mono (by omega))⟩
   all_goals
    go_enter func156,ntmps156;go_wp2_with fail;go_ret;exact⟨by rw[MO];rfl,zq _ _⟩
end
section
variable {L:List Ex} {x:Nat} {t:Tm}
theorem DA (c:cp L)(h:bX L x t):Wf t:=by
 induction h with
 | mk x a m g d l k =>
   refine .mk _ _ _ _ _ _ ?_ (λt f=>?_)
   . have:=c a (aM g);unfold fO at this;rw[d];exact this
   obtain⟨i,b⟩:=List.getElem?_of_mem f;have e:=(aB.1 b).1;obtain⟨y,j⟩:∃y,a.ah[i]?=some y:=⟨_,av (by omega)⟩;exact k i y t j b
theorem B6 (h:bX L x t):∃a:Ex,L[x]?=some a/\t.k=aF a.op.toList a.n:=by
 cases h with
 | mk x a e b c d=>exact⟨a,b,rfl⟩
theorem vt (d:cp L):∀{l:List ax} {b:List Qn},fM L l b->(∀q∈l,jz L q)->∀q∈b,q.ns.length=q.ps.length/\1<=q.ns.length/\Wf q.r/\(2<=q.ns.length->q.r.k=4)
 | [],b,h,_,q,hq=>by cases h;cases hq
 | e::l,b,h,f,q,hq=>by
   obtain⟨s,r,rfl,a,k⟩:=h;rcases cC.1 hq with rfl|hq
   . obtain⟨n,o,p⟩:=f e (Mx ..);rw[a.ns,a.ps];refine⟨n,o,DA d a.r,λm=>?_⟩;obtain⟨j,g,i⟩:=p m;obtain⟨c,f1,f2⟩:=B6 a.r;rw[f2];have:c=j:=Option.some.inj (f1.symm.trans g);rw[this];exact i
   exact vt d k (λq hq=>f q (cS _ hq)) q hq
theorem DV {d:Nd}{n:ay}(h:ht d n)(a:k9 d):gP n:=by
 obtain⟨c,e,f,g⟩:=a.ak;refine⟨?_,?_,?_,?_,λq b=>vt a.ar h.eqs a.eqs q b⟩
 . rw[h.ah];exact c
 . rw[h.aG];exact e
 . rw[h.ah,h.aG,h.ak];exact f
 rw[h.ak];exact g
theorem uL:∀{l:List Nd} {a:List ay},dS l a->(∀d∈l,k9 d)->∀n∈a,gP n
 | [],a,h,_,n,hn=>by cases h;cases hn
 | d::l,a,h,c,n,hn=>by
   obtain⟨i,g,rfl,e,f⟩:=h;rcases cC.1 hn with rfl|hn
   . exact DV e (c d (Mx ..))
   exact uL f (λd b=>c d (cS _ b)) n hn
theorem Eh {a b:Fn}(c:bM a)(d:bM b)(h:gy a)(i:gy b)(e:zv 17 a)(f:zv 18 b){g:Nat}{src:Xb}(m:src.size<=1200)(k:(dm a b g src).1.er=0){j:List ay}(l:dS (dm a b g src).2 j):∀n∈j,gP n :=
 uL l (uU c d h i e f g src (sk m) k)
theorem vm {d:Nat}{r:Fn}(e:r=(fx d).ex):bM r/\gy r:=by obtain⟨a,_⟩:=Mm d;obtain⟨b,_⟩:=vd d;rw[e];exact⟨a,b.ext⟩
end
section
variable {L f:List Ex} {e:Xn} {c:List Tm} {d x:Nat} {st:St} {t:Tm}
def vz (t:Tm):Nat:=(bh b8 t).length
def k8 (c:List Tm):Nat:=(cN b8 c).length
theorem qz (k a:Nat)(s:Xb)(b n:Nat)(c:List Tm):vz (.mk k a s b n c)=1+k8 c:=by unfold vz k8;rw[bh,ag (show b8 (.mk k a s b n c)=true from rfl),bJ];omega
theorem zf (t:Tm)(c:List Tm):k8 (t::c)=vz t+k8 c:=by unfold vz k8;rw[cN,aP]
theorem Y9:k8 []=0:=rfl
theorem mZ (l:L <+: f)(h:bX L x t):bX f x t:=by
 induction h with
 | mk x b c a k n m => obtain⟨E,rfl⟩:=l;exact .mk x b c (by rw[e9 (aB.1 a).1];exact a) k (λi y t g j=>m i y t g j)
def dW (L:List Ex)(e:Xn)(c:List Tm):Prop:=c.length=e.length/\∀(i y:Nat) (t:Tm),e[i]?=some y->c[i]?=some t->bX L y t
theorem dW.nil (L:List Ex):dW L [] []:=⟨rfl,λi y t h=>by simp at h⟩
theorem dW.more (g:L <+: f)(h:dW L e c):dW f e c:=⟨h.1,λi y t a b=>mZ g (h.2 i y t a b)⟩
theorem dW.snoc (h:dW L e c)(j:bX L x t):dW L (e++[x]) (c++[t]):=by
 refine⟨by rw[aP,aP,h.1];rfl,λi y u a b=>?_⟩;by_cases g:i<e.length
 . rw[e9 g] at a;rw[e9 (by rw[h.1];exact g)] at b;exact h.2 i y u a b
 rw[e8 (by omega)] at a;rw[e8 (by rw[h.1];omega),h.1] at b;have:i-e.length=0:=by have:=(aB.1 a).1;simp at this;exact this
 rw[this] at a b;simp at a b;subst a;subst b;exact j
theorem dW.one (h:bX L x t):dW L [x] [t]:=(dW.nil L).snoc h
def cj (d:Nat)(st:St):Prop:=st.er=0->18<=st.op+d/\st.op<=16
theorem cj.stay {a b:St}(h:cj d a)(j:aK a b)(i:b.op=a.op):cj d b:=λg=>by rw[i];exact h (j.back g)
theorem cj.ad (h:cj d st):cj d st.ad:=h.stay (aK.ad st) st.bQ
theorem cj.ac (h:cj d st)(k:Nat)(l:Xu):cj d (st.ac k l):=h.stay (aK.ac st k l) (st.a8 k l)
theorem cj.name (h:cj d st):cj d st.name:=h.stay (aK.name st) st.dB
theorem mH (h:st.enter.er=0):st.er=0/\st.op+1<=16:=by
 unfold St.enter at h;split at h
 . exact absurd h (St.cy _ (by decide))
 rw[St.ja] at h;exact⟨h,by omega⟩
theorem cj.enter (h:cj (d+1) st):cj d st.enter:=λb=>by obtain⟨a,g⟩:=mH b;rw[St.bN];have:=h a;omega
end
section
variable {M w part j:Fn} {L z:List Ex} {ts p A:List Tm} {a b c d B:Nat} {g:St} {t:Tm}
mutual
def b7:Tm->List Tm
 | .mk k a s e n ts=>cH ts++[.mk k a s e n ts]
def cH:List Tm->List Tm
 | []=>[]
 | t::l=>b7 t++cH l
end
theorem EZ (ts:List Tm)(t:Tm):cH (ts++[t])=cH ts++b7 t:=by
 induction ts with
 | nil=>rw[List.nil_append,cH,cH,cH,List.append_nil,List.nil_append]
 | cons u ts e=>rw[List.cons_append,cH,e,cH,bw]
def Po (L:List Ex)(a:Nat)(p:List Tm):Prop:=∀(i:Nat) (u:Tm),p[i]?=some u->bX (L.take (a+i+1)) (a+i) u
theorem Md (e:L <+: z)(m:Nat):L.take m <+: z.take m:=by obtain⟨E,rfl⟩:=e;rw[List.take_append];exact List.prefix_append _ _
theorem Po.nil (L:List Ex)(a:Nat):Po L a []:=λi u h=>by simp at h
theorem Po.more (e:L <+: z)(h:Po L a p):Po z a p:=λi u f=>mZ (Md e _) (h i u f)
theorem Po.kZ (h:Po L a p)(f:Po L (a+p.length) A):Po L a (p++A):=λi u e=>by
 by_cases k:i<p.length
 . rw[e9 k] at e;exact h i u e
 rw[e8 (by omega)] at e;have:=f _ u e;rw[show a+p.length+(i-p.length)=a+i by omega] at this;exact this
structure Mw (L:List Ex) (a b:Nat) (p:List Tm):Prop where
 len:a+p.length=b
 po:Po L a p
theorem Mw.nil (L:List Ex)(a:Nat):Mw L a a []:=⟨rfl,Po.nil L a⟩
theorem Mw.more (e:L <+: z)(h:Mw L a b p):Mw z a b p:=⟨h.len,h.po.more e⟩
theorem Mw.kZ (h:Mw L a b p)(e:Mw L b c A):Mw L a c (p++A) :=
 ⟨by have:=h.len;have:=e.len;rw[aP];omega,h.po.kZ (by rw[h.len];exact e.po)⟩
theorem Mw.one (h:Mw L a b (b7 t)):Mw L a b (cH [t]):=by rw[cH,cH,List.append_nil];exact h
theorem Mw.snoc (h:Mw L a b (cH ts))(e:Mw L b c (b7 t)):Mw L a c (cH (ts++[t])):=by rw[EZ];exact h.kZ e
structure jf (g:St) (r:St×Nat):Prop where
 dd:g.er=0
 op:r.1.op=g.op
 pre:g.L <+: r.1.L
 tr:∃t,bX r.1.L r.2 t/\Mw r.1.L g.L.length r.1.L.length (b7 t)
 nx:r.2+1=r.1.L.length
def bI (d:Nat)(M:Fn):Prop:=∀g,cj d g->(M g).1.er=0->jf g (M g)
theorem je {f:St}{e:Ex}(q:g.er=0)(r:f.op=g.op)(s:g.L <+: f.L)(m:dW f.L e.ah ts)(v:Mw f.L g.L.length f.L.length (cH ts)):jf g (f.put e):=by
 have h:(f.put e).1.L=f.L++[e]:=rfl;have l:bX (f.L++[e]) f.L.length (.mk (aF e.op.toList e.n) e.a e.s e.nm (df e.op.toList e.n) ts):=by refine .mk f.L.length e ts ?_ m.1 (λi y t n o=>mZ (List.prefix_append _ _) (m.2 i y t n o));rw[e8 (an _),Nat.sub_self];rfl
 refine⟨q,r,by rw[h];exact s.trans (List.prefix_append _ _),⟨.mk (aF e.op.toList e.n) e.a e.s e.nm (df e.op.toList e.n) ts,by rw[h];exact l,?_⟩,by rw[h,aP];rfl⟩;rw[h,b7,aP,List.length_singleton];refine (v.more (List.prefix_append _ _)).kZ ⟨rfl,λi u k=>?_⟩
 match i,k with
 | 0,k=>cases k;rw[de (by rw[aP];simp)];exact l
theorem cj.iY (e:bI d M)(h:cj d g):cj d (M g).1:=λf=>by have o:=e g h f;rw[o.op];exact h o.dd
theorem q1 (k:bI d part)(g:St):∀(f:Nat) (x:St×Nat),cj d x.1->(x.1.er=0->jf g x)->(dx B part f x).1.er=0->jf g (dx B part f x)
 | 0,_,_,h,e=>h e
 | f+1,x,n,h,e=>by
   unfold dx at e ⊢;split
   . rename_i i
     rw[ag i] at e;have o:=h i.1;refine q1 k g f _ ?_ (λr=>?_) e
     . exact cj.iY k n.ad
     have l:=k _ n.ad r;obtain⟨t1,s,v⟩:=o.tr;obtain⟨t2,u,q⟩:=l.tr;have m:x.1.L <+: (part x.1.ad).1.L:=(by have:=l.pre;rw[St.bu] at this;exact this);rw[St.bu] at q;refine je (ts:=[t1,t2]) o.dd (by rw[l.op,St.bQ,o.op]) (o.pre.trans m) (((dW.one s).more m).snoc u) ?_;exact ((Mw.one v).more m).snoc q
   rename_i i
   rw[ae i] at e;exact h e
theorem oS (f:bI d part):bI d (eo B part):=λg h i=>q1 f g 1300 _ (cj.iY f h) (λe=>f g h e) i
theorem Fy {sum:Fn}(h:bI d sum):bI d (ei sum):=by
 intro g i e;unfold ei at e ⊢;simp only at e ⊢;split
 . rename_i f
   rw[ag f] at e;have o:=h g i f.1;have k:=h _ (cj.iY h i).ad e;obtain⟨t1,n,r⟩:=o.tr;obtain⟨t2,q,m⟩:=k.tr;have l:(sum g).1.L <+: (sum (sum g).1.ad).1.L:=(by have:=k.pre;rw[St.bu] at this;exact this);rw[St.bu] at m;refine je (ts:=[t1,t2]) o.dd (by rw[k.op,St.bQ,o.op]) (o.pre.trans l) (((dW.one n).more l).snoc q) ?_;exact ((Mw.one r).more l).snoc m
 rename_i f
 rw[ae f] at e;exact h g i e
theorem jf.inner {r:St×Nat}(h:jf g.enter r):g.er=0/\r.1.aI.op=g.op/\g.L <+: r.1.aI.L/\r.2+1=r.1.aI.L.length/\∃t,bX r.1.aI.L r.2 t/\Mw r.1.aI.L g.L.length r.1.aI.L.length (b7 t):=by have f:=(mH h.dd).1;have e:=h.pre;obtain⟨t,q,v⟩:=h.tr;rw[St.dA] at e v;exact⟨f,by rw[St.iw,h.op,St.bN];omega,by rw[St.dK];exact e,by rw[St.dK];exact h.nx,t,by rw[St.dK];exact q,by rw[St.dK];exact v⟩
theorem EL {k f:Fn}(o:bI d k)(r:bI (d+1) f):bI (d+1) (dG k f):=by
 intro g i e;unfold dG at e ⊢;split
 . rename_i h
   rw[ag h] at e;obtain⟨l,m,n,_,t,q,v⟩:=(o _ i.enter e).inner;exact je (ts:=[t]) l m n (dW.one q) v.one
 rename_i h
 rw[ae h] at e;exact r g i e
theorem qX (g:St):∀(f:Nat) (x:St×Nat),cj d x.1->(x.1.er=0->jf g x)->(M0 f x).1.er=0->jf g (M0 f x)
 | 0,_,_,h,e=>h e
 | f+1,x,k,h,e=>by
   unfold M0 at e ⊢;split
   . rename_i i
     rw[ag i] at e;have o:=h i.1;refine qX g f _ (k.ad.name) (λ_=>?_) e;obtain⟨t1,l,m⟩:=o.tr;have eL:x.1.ad.name.L=x.1.L:=(by rw[St.c8,St.bu]);refine je (ts:=[t1]) o.dd (by rw[St.dB,St.bQ,o.op]) (by rw[eL];exact o.pre) (by rw[eL];exact dW.one l) ?_;rw[eL];exact m.one
   rename_i i
   rw[ae i] at e;exact h e
theorem EA (f:bI d w):bI d (gR w):=λg h i=>qX g 1300 _ (cj.iY f h) (λe=>f g h e) i
theorem kA (h:Xb)(n:Nat):bI d (fK h n):=by intro g i f;have e:g.er=0:=(aK.ad g).back f;have eL:g.ad.L=g.L:=g.bu;exact je (ts:=[]) e g.bQ (by rw[eL];exact List.prefix_refl _) (dW.nil _) (by rw[eL];exact Mw.nil _ _)
theorem wV:bI d kc:=by intro g h f;have e:g.er=0:=(aK.ad g).back f;have eL:g.ad.L=g.L:=g.bu;exact je (ts:=[]) e g.bQ (by rw[eL];exact List.prefix_refl _) (dW.nil _) (by rw[eL];exact Mw.nil _ _)
theorem Ft (i:bI d w):bI d (bF w):=by
 intro g h e;unfold bF at e ⊢;split
 . rename_i f
   rw[ag f] at e;exact i g h e
 rename_i f
 rw[ae f] at e;exact wV (d:=d) g h e
structure EW (g:St) (x:St×List Nat):Prop where
 dd:g.er=0
 op:x.1.op=g.op
 pre:g.L <+: x.1.L
 tr:∃ts,dW x.1.L x.2 ts/\Mw x.1.L g.L.length x.1.L.length (cH ts)
theorem wo (k:bI d j)(g:St):∀(f:Nat) (x:St×List Nat),cj d x.1->(x.1.er=0->EW g x)->(cY j f x).1.er=0->EW g (cY j f x)
 | 0,_,_,h,e=>h e
 | f+1,x,n,h,e=>by
   unfold cY at e ⊢;split
   . rename_i i
     rw[ag i] at e;have o:=h i.1;refine wo k g f _ (cj.iY k n.ad) (λr=>?_) e;have l:=k _ n.ad r;obtain⟨ts,s,v⟩:=o.tr;obtain⟨t2,u,q⟩:=l.tr;have m:x.1.L <+: (j x.1.ad).1.L:=(by have:=l.pre;rw[St.bu] at this;exact this);rw[St.bu] at q;exact⟨o.dd,by show (j x.1.ad).1.op=_;rw[l.op,St.bQ,o.op],o.pre.trans m,ts++[t2],(s.more m).snoc u,(v.more m).snoc q⟩
   rename_i i
   rw[ae i] at e;exact h e
theorem UB (f:bI d j)(h:cj d g)(i:(cL j g).1.er=0):EW g (cL j g):=by refine wo f g 1300 _ (cj.iY f h) (λe=>?_) i;have o:=f g h e;obtain⟨t,q,v⟩:=o.tr;exact⟨o.dd,o.op,o.pre,[t],dW.one q,v.one⟩
theorem wg (l:bI d j)(t:Tk):bI (d+1) (Fs j t):=by
 intro g k e;unfold Fs at e ⊢;split
 . rename_i f
   rw[ag f] at e;simp only at e ⊢;have i:(cL j g.enter).1.er=0:=(aK.ac _ 4 [41]).back e;have o:=UB l k.enter i;obtain⟨ts,q,v⟩:=o.tr;have h:=o.pre;have eL:(((cL j g.enter).1.ac 4 [41]).aI).L=(cL j g.enter).1.L:=(by rw[St.dK,St.bi]);rw[St.dA] at h v;exact je (ts:=ts) (mH o.dd).1 (by rw[St.iw,St.a8,o.op,St.bN];omega) (by rw[eL];exact h) (by rw[eL];exact q) (by rw[eL];exact v)
 rename_i f
 rw[ae f] at e;exact absurd e (pT _ _)
theorem E4 (e:bI d j):bI (d+1) (fp j):=by
 intro g o y;have m:(j ((j ((j g.enter).1.ac 5 [116,104,101,110])).1.ac 5 [101,108,115,101])).1.er=0:=y;have v:=cj.iY e o.enter;have n:=v.ac 5 [116,104,101,110];have x:=(cj.iY e n).ac 5 [101,108,115,101];have i:=e _ x m;have h:=e _ n ((aK.ac _ 5 [101,108,115,101]).back i.dd);have f:=e _ o.enter ((aK.ac _ 5 [116,104,101,110]).back h.dd);obtain⟨t1,C,r⟩:=f.tr;obtain⟨t2,D,s⟩:=h.tr;obtain⟨t3,E,u⟩:=i.tr;have q:=f.pre;have k:=h.pre;have l:=i.pre;rw[St.dA] at q r;rw[St.bi] at k s l u;unfold fp;simp only;refine je (ts:=[t1,t2,t3]) (mH f.dd).1 ?_ ?_ ?_ ?_
 . rw[St.iw,i.op,St.a8,h.op,St.a8,f.op,St.bN];omega
 . rw[St.dK];exact (q.trans k).trans l
 . rw[St.dK];exact ((((dW.one C).more k).snoc D).more l).snoc E
 rw[St.dK];exact ((((Mw.one r).more k).snoc s).more l).snoc u
theorem Fc (n:bI d w):bI (d+1) (fs w):=by
 intro g o q;have h:(bF w (bF w g.enter.name).1).1.er=0:=q;have i:=Ft n;have k:=o.enter.name;have e:=i _ (cj.iY i k) h;have f:=i _ k e.dd;obtain⟨t1,r,m⟩:=f.tr;obtain⟨t2,s,u⟩:=e.tr;have l:=f.pre;rw[St.c8,St.dA] at l m;unfold fs;simp only;refine je (ts:=[t1,t2]) (mH ((aK.name _).back f.dd)).1 ?_ ?_ ?_ ?_
 . rw[St.iw,e.op,f.op,St.dB,St.bN];omega
 . rw[St.dK];exact l.trans e.pre
 . rw[St.dK];exact ((dW.one r).more e.pre).snoc s
 rw[St.dK];exact ((Mw.one m).more e.pre).snoc u
theorem wB (k:bI d j):bI (d+1) (iM j):=by
 intro g h i;have f:(j g.enter).1.er=0:=(aK.ac _ 4 [41]).back i;have o:=k _ h.enter f;obtain⟨t,q,v⟩:=o.tr;have e:=o.pre;have eL:(((j g.enter).1.ac 4 [41]).aI).L=(j g.enter).1.L:=by rw[St.dK,St.bi]
 rw[St.dA] at e v;exact⟨(mH o.dd).1,by show (((j g.enter).1.ac 4 [41]).aI).op=_;rw[St.iw,St.a8,o.op,St.bN];omega,by show _ <+: (((j g.enter).1.ac 4 [41]).aI).L;rw[eL];exact e,⟨t,by show bX (((j g.enter).1.ac 4 [41]).aI).L _ t;rw[eL];exact q,by show Mw (((j g.enter).1.ac 4 [41]).aI).L _ (((j g.enter).1.ac 4 [41]).aI).L.length _;rw[eL];exact v⟩,by show _=(((j g.enter).1.ac 4 [41]).aI).L.length;rw[eL];exact o.nx⟩
theorem Fb (h:bI d M)(f:cj d g)(i:(M g.ad).1.er=0):jf g (M g.ad):=by have o:=h _ f.ad i;have e:=o.pre;obtain⟨t,q,v⟩:=o.tr;rw[St.bu] at e v;exact⟨(aK.ad g).back o.dd,by rw[o.op,St.bQ],e,⟨t,q,v⟩,o.nx⟩
theorem F3 {u:Fn}(i:bI d j)(v:bI d u):bI (d+1) (aN j u):=by
 intro g f e;unfold aN at e ⊢;by_cases h:g.er≠0
 . rw[ag h] at e;exact absurd e h
 rw[ae h] at e ⊢;by_cases k:g.t.k=3
 . rw[ag k] at e ⊢;exact kA fJ _ g f e
 rw[ae k] at e ⊢;by_cases l:g.t.k=2
 . rw[ag l] at e ⊢;by_cases m:g.ad.is 4 [40]=true
   . rw[ag m] at e ⊢;exact Fb (wg i g.t) f e
   rw[ae m] at e ⊢;exact wV g f e
 rw[ae l] at e ⊢;by_cases n:g.is 4 [40]=true
 . rw[ag n] at e ⊢;exact wB i g f e
 rw[ae n] at e ⊢;by_cases o:g.is 5 [116,114,117,101]=true
 . rw[ag o] at e ⊢;exact kA MV 1 g f e
 rw[ae o] at e ⊢;by_cases q:g.is 5 [102,97,108,115,101]=true
 . rw[ag q] at e ⊢;exact kA MV 0 g f e
 rw[ae q] at e ⊢;by_cases r:g.is 5 [105,102]=true
 . rw[ag r] at e ⊢;exact E4 i g f e
 rw[ae r] at e ⊢;by_cases s:g.is 5 [109,101,114,103,101]=true
 . rw[ag s] at e ⊢;exact Fc v g f e
 rw[ae s] at e;exact absurd e (pT _ _)
theorem F8 {e:Fn}(n:bI d j)(k:bI (d+1) e):bI (d+1) (fe j e):=by
 intro g l f;unfold fe at f ⊢;simp only at f ⊢;split
 . rename_i h
   rw[ag h] at f;have o:=k g l h.1;obtain⟨t1,q,s⟩:=o.tr;obtain⟨_,m,i,_,t2,r,u⟩:=(n _ (cj.iY k l).enter f).inner;refine je (ts:=[t1,t2]) o.dd (by rw[m,o.op]) (o.pre.trans i) (((dW.one q).more i).snoc r) ?_;exact ((Mw.one s).more i).snoc u
 rename_i h
 rw[ae h] at f;exact k g l f
theorem ma:∀d:Nat,bI d (fx d).ex/\bI d (fx d).un/\bI d (fx d).at'
 | 0=>by
   have h:∀g:St,cj 0 g->g.er=0->jf g (g,0):=λg e f=>by have:=e f;omega
   exact⟨λg e f=>h g e f,λg e f=>h g e f,λg e f=>h g e f⟩
 | d+1=>by obtain⟨i,m,n⟩:=ma d;have k:bI (d+1) (aN (fx d).ex (fx d).at'):=F3 i n;have l:bI (d+1) (dG (fx d).un (gR (aN (fx d).ex (fx d).at'))):=EL m (EA k);exact⟨F8 i (oS (oS (Fy (oS (oS l))))),l,k⟩
end
section
variable {i:Bool} {s:Xb} {r part c j m:Fn} {ak:List Vr} {f g u:Nat} {st:St} {t:Tk}
def mE:List (List UInt8):=[[110,117,109,98,101,114],[98,111,111,108],[118,97,114],[99,97,108,108],[105,102],[109,101,114,103,101],[119,104,101,110],[119,104,101,110,111,116],[102,98,121],[110,101,103],[110,111,116],[97,110,100],[111,114],[120,111,114],[61],[60,62],[60],[60,61],[43],[45],[42],[47],[37]]
def tf (l:Xu):Bool:=l==[118,97,114]
def mQ (e:Ex):Prop:=e.n<=9223372036854775807/\e.s.size<=1200/\e.op.toList∈mE/\e.ah.length<=1400/\(tf e.op.toList=true->e.a=e.nm)
abbrev l0 (l:Xu):Prop:=l∈mE/\tf l=false
theorem DE {n:Nat}(h:et t n=true):l0 t.s.toList:=by
 unfold et at h;split at h
 . cases h
 split at h
 . rename_i h1;rcases h1 with h1|h1 <;> (rw[h1];decide)
 split at h
 . rename_i h1;rw[h1];decide
 split at h
 . rename_i h1;rcases h1 with h1|h1 <;> (rw[h1];decide)
 split at h
 . rename_i h1;rcases h1 with h1|h1|h1 <;> (rw[h1];decide)
 cases h
theorem Dn (h:eh t=true):l0 t.s.toList:=by unfold eh at h;simp only[Bool.and_eq_true,Bool.or_eq_true,beq_iff_eq] at h;rcases h.2 with ((h1|h1)|h1)|h1 <;> (rw[h1];decide)
theorem Ek (h:eu st=true):l0 st.t.s.toList:=by unfold eu St.is at h;simp only[Bool.or_eq_true,Bool.and_eq_true,beq_iff_eq] at h;rcases h with h1|h1 <;> (rw[h1.2];decide)
theorem D2:l0 kS.toList:=by decide +kernel
theorem D6:l0 kR.toList:=by decide +kernel
theorem Eo:l0 fL.toList:=by decide +kernel
theorem DU:l0 iz.toList:=by decide +kernel
theorem Dk:l0 iL.toList:=by decide +kernel
theorem D0:l0 iO.toList:=by decide +kernel
theorem D1:gQ.toList∈mE:=by decide +kernel
theorem vp:l0 MV.toList:=by decide +kernel
theorem D7:l0 fJ.toList:=by decide +kernel
structure Zs (st:St):Prop where
 src:st.src.size<=1200
 tt:st.t.t<=st.src.size
 tn:st.t.n<=9223372036854775807
 ts:st.t.s.size<=1200
 L:∀e∈st.L,mQ e
def ZK (M:Fn):Prop:=∀st,Zs st->Zs (M st).1
theorem uQ (s:Xb)(p:Nat)(k:s.size<=1200):(zZ s p).s.size<=1200:=by
 have h:∀a b:Nat,(s.extract a b).size<=1200:=by intro a b;rw[ByteArray.size_extract];omega
 have d:(⟨#[]⟩:Xb).size=0:=rfl;have e:(⟨#[48]⟩:Xb).size=1:=rfl;unfold zZ eM fc dT;simp only
 repeat' split
 all_goals first|exact h _ _|(rw[d];omega)|(rw[e];omega)
theorem Zs.ad (h:Zs st):Zs st.ad:=by
 unfold St.ad;split
 . have:=zV st.src st.t.t h.tt;exact⟨h.src,this.2.2.1,this.2.2.2.1,uQ _ _ h.src,h.L⟩
 exact h
theorem Zs.fail (h:Zs st)(e a:Nat):Zs (st.fail e a):=by unfold St.fail;split <;> exact⟨h.src,h.tt,aE _,aE _,h.L⟩
theorem Zs.ac (h:Zs st)(k:Nat)(l:Xu):Zs (st.ac k l):=by unfold St.ac;split;exact h.ad;exact h.fail _ _
theorem Zs.name (h:Zs st):Zs st.name:=by unfold St.name;split;exact h.ad;exact h.fail _ _
theorem Zs.enter (h:Zs st):Zs st.enter:=by have a:Zs ({ st with op:=st.op+1 }:St):=⟨h.src,h.tt,h.tn,h.ts,h.L⟩;unfold St.enter;split;exact a.fail _ _;exact a.ad
theorem Zs.aI (h:Zs st):Zs st.aI:=⟨h.src,h.tt,h.tn,h.ts,h.L⟩
theorem Zs.put (h:Zs st){e:Ex}(a:mQ e):Zs (st.put e).1:=by
 refine⟨h.src,h.tt,h.tn,h.ts,λx hx=>?_⟩;rcases bj.1 (show x∈st.L++[e] from hx) with hx|hx
 . exact h.L x hx
 rw[cu.1 hx];exact a
theorem kU {k:Xb}{a b:Nat}{l:Xn}(d:l0 k.toList)(h:s.size<=1200)(n:l.length<=1400:=by simp):mQ ⟨k,a,b,l,s,0⟩:=⟨aE _,h,d.1,n,λe=>by rw[d.2] at e;cases e⟩
theorem lD:sE.size<=1200:=aE _
theorem acV (a:ZK part):∀(f:Nat) (x:St×Nat),Zs x.1->Zs (dx u part f x).1
 | 0,_,h=>h
 | f+1,x,h=>by
   unfold dx;split
   . rename_i b
     exact acV a f _ ((a _ h.ad).put (kU (DE b.2) lD))
   exact h
theorem oI (a:ZK part):ZK (eo u part):=λst h=>acV a 1300 _ (a st h)
theorem Em {sum:Fn}(a:ZK sum):ZK (ei sum):=by
 intro st h;unfold ei;simp only;split
 . rename_i b
   exact (a _ (a st h).ad).put (kU (Dn b.2) lD)
 exact a st h
theorem CR {b a:Fn}(d:ZK b)(e:ZK a):ZK (dG b a):=by
 intro st h;unfold dG;split
 . refine (d _ h.enter).aI.put (kU ?_ lD);split
   . exact D2
   exact D6
 exact e st h
theorem tX:∀(f:Nat) (x:St×Nat),Zs x.1->Zs (M0 f x).1
 | 0,_,h=>h
 | f+1,x,h=>by
   unfold M0;split
   . rename_i a
     exact tX f _ (h.ad.name.put (kU (Ek a.2) h.ad.ts))
   exact h
theorem CF (a:ZK r):ZK (gR r):=λst h=>tX 1300 _ (a st h)
theorem uW (a:ZK m):∀(f:Nat) (x:St×List Nat),Zs x.1->Zs (cY m f x).1
 | 0,_,h=>h
 | f+1,x,h=>by
   unfold cY;split
   . exact uW a f _ (a _ h.ad)
   exact h
theorem ve {ry:Fn}:∀(f:Nat) (x:St×List Nat),(cY ry f x).2.length<=x.2.length+f
 | 0,_=>an _
 | f+1,x=>by
   unfold cY;split
   . have:=ve (ry:=ry) f ((ry x.1.ad).1,x.2++[(ry x.1.ad).2]);simp only[aP,List.length_singleton] at this;omega
   omega
theorem vj (a:ZK m)(t:Tk)(b:t.s.size<=1200):ZK (Fs m t):=by
 intro st h;unfold Fs;split
 . exact ((uW a 1300 _ (a _ h.enter)).ac _ _).aI.put (kU Eo b (aJ (ve 1300 _) (by simp)))
 exact h.fail _ _
theorem C6 (a:ZK m):ZK (fp m):=λ_ h =>
 (a _ ((a _ ((a _ h.enter).ac _ _)).ac _ _)).aI.put (kU DU lD)
theorem Mk:ZK kc:=λ_ h=>h.ad.put ⟨aE _,h.ts,D1,aE _,λ_=>rfl⟩
theorem Zk (a:ZK r):ZK (bF r):=by
 intro st h;unfold bF;split
 . exact a st h
 exact Mk st h
theorem Dr (a:ZK r):ZK (fs r):=λ_ h =>
 (Zk a _ (Zk a _ h.enter.name)).aI.put (kU Dk h.enter.ts)
theorem DM (a:ZK m):ZK (iM m):=λ_ h=>((a _ h.enter).ac _ _).aI
theorem qm (b:Xb)(n:Nat)(a:l0 b.toList)(d:n<=9223372036854775807):ZK (fK b n):=λ_ h=>h.ad.put ⟨d,lD,a.1,aE _,λe=>by rw[a.2] at e;cases e⟩
theorem Do {b:Fn}(a:ZK m)(d:ZK b):ZK (aN m b):=by
 intro st h;unfold aN;split
 . exact h
 split
 . exact qm _ _ D7 h.tn st h
 split
 . split
   . exact vj a _ h.ts _ h.ad
   exact Mk st h
 split
 . exact DM a st h
 split
 . exact qm _ _ vp (by omega) st h
 split
 . exact qm _ _ vp (by omega) st h
 split
 . exact C6 a st h
 split
 . exact Dr d st h
 exact h.fail _ _
theorem Dy {a:Fn}(d:ZK m)(b:ZK a):ZK (fe m a):=by
 intro st h;unfold fe;simp only;split
 . exact (d _ (b st h).enter).aI.put (kU D0 lD)
 exact b st h
theorem qD:∀d:Nat,ZK (fx d).ex/\ZK (fx d).un/\ZK (fx d).at'
 | 0=>⟨λ_ h=>h,λ_ h=>h,λ_ h=>h⟩
 | d+1=>by obtain⟨a,k,l⟩:=qD d;have b:ZK (aN (fx d).ex (fx d).at'):=Do a l;have e:ZK (dG (fx d).un (gR (aN (fx d).ex (fx d).at'))):=CR k (CF b);exact⟨Dy a (oI (oI (Em (oI (oI e))))),e,b⟩
def kl (v:Vr):Prop:=v.nm.size<=1200/\v.ck.size<=1200
structure lG (d:Nd):Prop where
 nm:d.nm.size<=1200
 ak:∀v∈d.ak,kl v
 az:∀e∈d.az,mQ e
 eqs:∀q∈d.eqs,∀s∈q.ns,s.size<=1200
 ns:∀q∈d.eqs,q.ns.length<=1400
theorem mK {α:Type}{l:List α}{a x:α}(h:x∈l++[a]):x∈l∨x=a:=by
 rcases bj.1 h with h|h
 . exact ao h
 exact ap (cu.1 h)
theorem Zs.type (h:Zs st):Zs (z9 st):=by unfold z9;split;exact h.ad;exact h.ac _ _
theorem Zs.hb (h:Zs st):Zs (aS st):=by unfold aS;split;exact h.ad;exact h
def ZV (x:St×List Vr):Prop:=Zs x.1/\∀v∈x.2,kl v
theorem pZ {o:Bool}(h:Zs st)(d:∀v∈ak,kl v):ZV (zx i o st ak):=by
 unfold zx;split
 . exact⟨h.fail _ _,d⟩
 have b:=(h.name.ac 4 [58]).type;simp only;split
 . refine⟨b.ad.hb.name,λv a=>?_⟩;rcases mK a with a|rfl
   . exact d v a
   exact⟨h.ts,b.ad.hb.ts⟩
 refine⟨b,λv a=>?_⟩;rcases mK a with a|rfl
 . exact d v a
 exact⟨h.ts,lD⟩
theorem uE:∀(f:Nat) (x:St×List Vr),ZV x->ZV (MG i f x)
 | 0,_,h=>h
 | f+1,x,h=>by
   unfold MG;split
   . exact uE f _ (pZ h.1.ad h.2)
   exact h
theorem uB (h:Zs st)(a:∀v∈ak,kl v):ZV (bW i st ak):=by have:=uE (i:=i) 1300 _ (pZ (i:=i) (o:=!i) (h.ac 4 [40]) a);exact⟨this.1.ac _ _,this.2⟩
theorem Mi (h:Zs st)(a:∀v∈ak,kl v):ZV (MN st ak) :=
 ⟨(pZ h a).1.ac _ _,(pZ h a).2⟩
theorem uG:∀(f:Nat) (x:St×List Vr),ZV x->ZV (en f x)
 | 0,_,h=>h
 | f+1,x,h=>by
   unfold en;split
   . exact uG f _ (Mi h.1 h.2)
   exact h
theorem Ee (h:Zs st)(a:∀v∈ak,kl v):ZV (bD f st ak):=by
 unfold bD;split
 . exact uG f _ (Mi h.ad a)
 exact⟨h,a⟩
theorem DC (h:Zs st):ZV (aT st):=by have a:=uB (i:=true) (ak:=[]) (h.ac 5 zW).name (λv b=>by cases b);exact uB (a.1.ac _ _) a.2
def ZN (x:dI):Prop:=Zs x.st/\∀s∈x.ns,s.size<=1200
theorem ut:∀(f:Nat) (x:dI),ZN x->ZN (cX f x)
 | 0,_,h=>h
 | f+1,x,h=>by
   unfold cX;split
   . refine ut f _ ⟨h.1.ad.name,λs a=>?_⟩;rcases mK a with a|rfl
     . exact h.2 s a
     exact h.1.ad.ts
   exact h
theorem Dj (h:Zs st):ZN (aZ st):=by
 unfold aZ;split
 . have b:=h.ad.name.ac 4 [44];have d:=ut 1300 ⟨(st.ad.name.ac 4 [44]).name,[st.ad.t.s,(st.ad.name.ac 4 [44]).t.s],[st.ad.t.a,(st.ad.name.ac 4 [44]).t.a]⟩ ⟨b.name,λs a=>by
    simp only[cC,List.not_mem_nil,or_false] at a;rcases a with rfl|rfl
    . exact h.ad.ts
    exact b.ts⟩
   exact⟨d.1.ac _ _,d.2⟩
 exact⟨h.name,λs a=>by rw[cu.1 a];exact h.ts⟩
theorem vh:∀(f:Nat) (x:dI),(cX f x).ns.length<=x.ns.length+f
 | 0,_=>an _
 | f+1,x=>by
   unfold cX;split
   . have:=vh f x.more;have h:x.more.ns.length=x.ns.length+1:=(by show (x.ns++[_]).length=_;simp);omega
   omega
theorem Dz (st:St):(aZ st).ns.length<=1400:=by
 unfold aZ;split
 . have:=vh 1300 ⟨(st.ad.name.ac 4 [44]).name,[st.ad.t.s,(st.ad.name.ac 4 [44]).t.s],[st.ad.t.a,(st.ad.name.ac 4 [44]).t.a]⟩;exact aJ this (by simp)
 simp
def sF (q:ax):Prop:=(∀s∈q.ns,s.size<=1200)/\q.ns.length<=1400
def ZQ (x:St×List ax):Prop:=Zs x.1/\∀q∈x.2,sF q
theorem tV (d:ZK c)(e:ZK j){eqs:List ax}(h:Zs st)(l:∀q∈eqs,sF q):ZQ (zF c j st eqs):=by
 have k:=Dj h;have a:=k.1.ac 4 [61];have n:Zs (cx c j (st.is 4 [40]) ((aZ st).st.ac 4 [61])).1:=by
  unfold cx;split
  . exact vj d _ a.ts _ a.name
  exact e _ a
 refine⟨n.ac _ _,λq b=>?_⟩;rcases mK b with b|rfl
 . exact l q b
 exact⟨k.2,Dz st⟩
theorem uN (a:ZK c)(b:ZK j):∀(f:Nat) (x:St×List ax),ZQ x->ZQ (bS c j f x)
 | 0,_,h=>h
 | f+1,x,h=>by
   unfold bS;split
   . exact uN a b f _ (tV a b h.1 h.2)
   exact h
theorem Mj (b:ZK c)(d:ZK j)(h:Zs st):Zs (a7 c j f st).1/\lG (a7 c j f st).2:=by
 have n:Zs st.aw:=⟨h.src,h.tt,h.tn,h.ts,λe v=>by cases v⟩;have p:=DC n;have l:=Ee (f:=f) p.1 p.2;obtain⟨V,o⟩:∃V,bD f (aT st.aw).1 (aT st.aw).2=V:=⟨_,rfl⟩;rw[o] at l;have k:=uN b d f _ (tV b d (eqs:=[]) (l.1.ac 4 [123]) (λq a=>by cases a));have e:a7 c j f st=((dy c j f V.1).1,⟨(st.aw.ac 5 zW).t.s,(st.aw.ac 5 zW).t.a,V.2,(dy c j f V.1).1.L,(dy c j f V.1).2⟩):=by unfold a7;simp only;rw[o]
 rw[e];exact⟨k.1.ac _ _,(n.ac 5 zW).ts,l.2,(k.1.ac 4 [125]).L,λq a=>(k.2 q a).1,λq a=>(k.2 q a).2⟩
theorem uk (a:ZK c)(b:ZK j):∀(f:Nat) (x:St×List Nd),Zs x.1->(∀d∈x.2,lG d)->∀d∈(Mq c j g f x).2,lG d
 | 0,_,_,h=>h
 | f+1,x,k,h=>by
   unfold Mq;split
   . have:=Mj a b (f:=g) k;refine uk a b f _ this.1 (λd e=>?_);rcases mK e with e|rfl
     . exact h d e
     exact this.2
   exact h
theorem CN (a:ZK c)(b:ZK j)(k:s.size<=1200):∀d∈(dm c j g s).2,lG d:=by have h:=zV s 0 (aE _);have l:Zs (⟨s,zZ s 0,0,0,0,[]⟩:St):=⟨k,h.2.2.1,h.2.2.2.1,uQ s 0 k,λe o=>by cases o⟩;have:=Mj a b (f:=g) l;exact uk a b g _ this.1 (λd n=>by rw[cu.1 n];exact this.2)
theorem uD:∀(f:Nat) (x:St×List Nd),x.2.length<=6->(Mq c j g f x).2.length<=6
 | 0,_,h=>h
 | f+1,x,h=>by
   unfold Mq;split
   . rename_i a
     exact uD f _ (by simp;omega)
   exact h
theorem CE (c j:Fn)(g:Nat)(s:Xb):(dm c j g s).2.length<=6:=uD g _ (by simp)
end
section
variable {i j:Fn} {L:List Ex}
def eH (L:List Ex):Nat->List ax->List Qn->Nat->Prop
 | a,[],e,b=>e=[]/\a=b
 | a,q::l,e,b=>∃d f c,e=d::f/\RZ L q d/\Mw L a c (b7 d.r)/\q.ex+1=c/\eH L c l f b
theorem eH.more {f:List Ex}(g:L <+: f):∀{l:List ax} {a b:Nat} {e:List Qn},eH L a l e b->eH f a l e b:=by
 intro l;induction l with
 | nil=>intro a b e h;exact h
 | cons q l o => rintro a b e ⟨r,p,c,rfl,d,k,m,n⟩;exact⟨r,p,c,rfl,⟨d.ns,d.ps,d.a,mZ g d.r⟩,k.more g,m,o n⟩
theorem eH.snoc {q:ax}{f:Qn}{b c:Nat}(p:RZ L q f)(r:Mw L b c (b7 f.r))(s:q.ex+1=c):∀{l:List ax} {a:Nat} {g:List Qn},eH L a l g b->eH L a (l++[q]) (g++[f]) c:=by
 intro l;induction l with
 | nil=>rintro a g ⟨rfl,rfl⟩;exact⟨f,[],c,rfl,p,r,s,rfl,rfl⟩
 | cons e l t => rintro a g ⟨h,u,d,rfl,k,m,n,o⟩;exact⟨h,u++[f],d,rfl,k,m,n,t o⟩
theorem eH.tq:∀{l:List ax} {a b:Nat} {c:List Qn},eH L a l c b->fM L l c:=by
 intro l;induction l with
 | nil=>rintro a b c ⟨rfl,_⟩;rfl
 | cons e l k => rintro a b c ⟨f,m,d,rfl,g,_,_,h⟩;exact⟨f,m,rfl,g,k h⟩
def lI (L:List Ex)(a:List ax):Prop:=∃b,eH L 0 a b L.length
theorem vF (u:bI 17 i)(v:bI 18 j){a:St}{c:List ax}{p:Nat}(A:Inv p a)(C:a.op=0)(h:lI a.L c)(B:(zF i j a c).1.er=0):lI (zF i j a c).1.L (zF i j a c).2:=by
 obtain⟨z,x,y⟩:=nN A;have n:=(ai.ac z.af 4 [61]).af;have s:((aZ a).st.ac 4 [61]).op=0:=by rw[St.a8,x,C]
 have l:((aZ a).st.ac 4 [61]).L=a.L:=by rw[St.bi,y]
 have e:(cx i j (a.is 4 [40]) ((aZ a).st.ac 4 [61])).1.er=0:=(aK.ac _ 4 [59]).back B;obtain⟨b,f⟩:∃b,(aZ a).st.ac 4 [61]=b:=⟨_,rfl⟩;rw[f] at n s l e;have w:zF i j a c=((cx i j (a.is 4 [40]) b).1.ac 4 [59],c++[⟨(aZ a).ns,(aZ a).ps,(aZ a).st.t.a,(cx i j (a.is 4 [40]) b).2⟩]):=by unfold zF;simp only;rw[f]
 have r:∃t,bX (cx i j (a.is 4 [40]) b).1.L (cx i j (a.is 4 [40]) b).2 t/\Mw (cx i j (a.is 4 [40]) b).1.L a.L.length (cx i j (a.is 4 [40]) b).1.L.length (b7 t)/\a.L <+: (cx i j (a.is 4 [40]) b).1.L/\(cx i j (a.is 4 [40]) b).2+1=(cx i j (a.is 4 [40]) b).1.L.length:=by
  unfold cx at e ⊢;split
  . rename_i o
    rw[ag o] at e;have m:cj 18 b.name:=λ_=>by rw[St.dB,s];omega
    obtain⟨_,_,d,⟨t,g,k⟩,q⟩:=wg u b.t b.name m e;rw[St.c8,l] at d k;exact⟨t,g,k,d,q⟩
  rename_i o
  rw[ae o] at e;have m:cj 18 b:=λ_=>by rw[s];omega
  obtain⟨_,_,d,⟨t,g,k⟩,q⟩:=v b m e;rw[l] at d k;exact⟨t,g,k,d,q⟩
 obtain⟨t,D,E,d,g⟩:=r;obtain⟨G,F⟩:=h;rw[w];refine⟨G++[⟨(aZ a).ns,(aZ a).ps,(aZ a).st.t.a,t⟩],?_⟩
 show eH ((cx i j (a.is 4 [40]) b).1.ac 4 [59]).L 0 (c++[⟨(aZ a).ns,(aZ a).ps,(aZ a).st.t.a,(cx i j (a.is 4 [40]) b).2⟩]) _ ((cx i j (a.is 4 [40]) b).1.ac 4 [59]).L.length;rw[St.bi];exact (F.more d).snoc ⟨rfl,rfl,rfl,D⟩ E g
theorem wU (d:bI 17 i)(g:bI 18 j)(b:zv 17 i)(c:zv 18 j):∀(f p:Nat) (x:St×List ax),Inv p x.1->x.1.op=0->(x.1.er=0->lI x.1.L x.2)->(bS i j f x).1.er=0->lI (bS i j f x).1.L (bS i j f x).2
 | 0,_,_,_,_,h,a=>h a
 | f+1,p,x,m,k,h,a=>by
   by_cases n:x.1.t.k=2∨x.1.is 4 [40]=true
   . have e:bS i j (f+1) x=bS i j f (zF i j x.1 x.2):=(by rw[bS,ag n]);rw[e] at a ⊢;obtain⟨l,q⟩:=gD b c (eqs:=x.2) m k;exact wU d g b c f p _ l.af (by rw[q];exact k) (λo=>vF d g m k (h (l.back o)) o) a
   have e:bS i j (f+1) x=x:=(by rw[bS,ae n]);rw[e] at a ⊢;exact h a
def kY (d:Nd):Prop:=lI d.az d.eqs/\d.az.length<=1201
theorem wb (g:bI 17 i)(h:bI 18 j)(b:zv 17 i)(c:zv 18 j)(f p:Nat)(a:St)(y:Inv p a)(A:a.op=0)(t:(a7 i j f a).1.er=0):kY (a7 i j f a).2:=by
 have C:=ai.aw y;have l:=mz C;have m:=kM (f:=f) (ak:=(aT a.aw).2) l.1.af;have k:=ai.ac m.1.af 4 [123];have d:((bD f (aT a.aw).1 (aT a.aw).2).1.ac 4 [123]).op=0:=by rw[St.a8,m.2.1,l.2.1];exact A
 have n:((bD f (aT a.aw).1 (aT a.aw).2).1.ac 4 [123]).L=[]:=by rw[St.bi,m.2.2,l.2.2];rfl
 obtain⟨V,s⟩:∃V,bD f (aT a.aw).1 (aT a.aw).2=V:=⟨_,rfl⟩;rw[s] at k d n;have e:a7 i j f a=((dy i j f V.1).1,⟨(a.aw.ac 5 zW).t.s,(a.aw.ac 5 zW).t.a,V.2,(dy i j f V.1).1.L,(dy i j f V.1).2⟩):=by unfold a7;simp only;rw[s]
 rw[e] at t ⊢;obtain⟨o,r⟩:=gD b c (eqs:=[]) k.af d;have u:=nO b c f _ (zF i j (V.1.ac 4 [123]) []) o.af (by rw[r];exact d);have q:=ai.ac u.1.af 4 [125];have v:(bS i j f (zF i j (V.1.ac 4 [123]) [])).1.er=0:=(aK.ac _ 4 [125]).back t;have B:=wU g h b c f _ _ o.af (by rw[r];exact d) (λz=>vF g h k.af d ⟨[],by rw[n];exact⟨rfl,rfl⟩⟩ z) v;have eL:(dy i j f V.1).1.L=(bS i j f (zF i j (V.1.ac 4 [123]) [])).1.L:=St.bi _ _ _;refine⟨?_,?_⟩
 . show lI (dy i j f V.1).1.L _;rw[eL];exact B
 show (dy i j f V.1).1.L.length<=1201;have w:=q.af.jN;have D:=q.af.ok.bR;have x:(dy i j f V.1).1=(bS i j f (zF i j (V.1.ac 4 [123]) [])).1.ac 4 [125]:=rfl;rw[x];split at w <;> omega
theorem ws (k:bI 17 i)(l:bI 18 j)(a:zv 17 i)(b:zv 18 j)(g:Nat):∀(f p:Nat) (x:St×List Nd),Inv p x.1->x.1.op=0->(∀d∈x.2,kY d)->(Mq i j g f x).1.er=0->(∀d∈(Mq i j g f x).2,kY d)
 | 0,_,_,_,_,h,_=>h
 | f+1,p,x,o,r,h,m=>by
   by_cases q:x.1.is 5 zW=true/\x.2.length<6
   . have e:Mq i j g (f+1) x=Mq i j g f ((a7 i j g x.1).1,x.2++[(a7 i j g x.1).2]):=(by rw[Mq,ag q]);rw[e] at m ⊢;obtain⟨s,u⟩:=pV a b g p x.1 o r;have t:(a7 i j g x.1).1.er=0:=by
      by_cases n:(a7 i j g x.1).1.er=0
      . exact n
      rw[mI s n] at m;exact absurd m n
     refine ws k l a b g f 0 _ s u (λd c=>?_) m;rcases mK c with c|rfl
     . exact h d c
     exact wb k l a b g p x.1 o r t
   have e:Mq i j g (f+1) x=x:=(by rw[Mq,ae q]);rw[e];exact h
theorem FR (c:bI 17 i)(d:bI 18 j)(a:zv 17 i)(b:zv 18 j)(g:Nat)(s:Xb)(k:Inv 0 (⟨s,zZ s 0,0,0,0,[]⟩:St))(o:(dm i j g s).1.er=0):∀m∈(dm i j g s).2,kY m:=by
 have e:(Mq i j g g ((a7 i j g ⟨s,zZ s 0,0,0,0,[]⟩).1,[(a7 i j g ⟨s,zZ s 0,0,0,0,[]⟩).2])).1.er=0:=(pU _).back o;obtain⟨l,p⟩:=pV a b g 0 ⟨s,zZ s 0,0,0,0,[]⟩ k rfl;have n:(a7 i j g ⟨s,zZ s 0,0,0,0,[]⟩).1.er=0:=by
  by_cases f:(a7 i j g ⟨s,zZ s 0,0,0,0,[]⟩).1.er=0
  . exact f
  rw[mI l f] at e;exact absurd e f
 refine ws c d a b g g 0 _ l p (λm h=>?_) e;rw[cu.1 h];exact wb c d a b g 0 _ k rfl n
end
section
def ay.Nh (n:ay):List Tm:=n.eqs.flatMap λq=>bh b8 q.r
def iA (a:List Qn):Nat:=(a.map λq=>vz q.r).sum
def p1 (d:Nd):Prop:=(∃a,fM d.az d.eqs a/\iA a<=d.az.length)/\d.az.length<=1201
theorem F2:∀t:Tm,(b7 t).length=vz t:=by
 intro t;induction t using Tm.ind with
 | h k a s g n f e =>
   have c:∀l:List Tm,(∀t∈l,(b7 t).length=vz t)->(cH l).length=k8 l:=by
    intro l;induction l with
    | nil=>intro _;rw[cH];rfl
    | cons t l b=>intro h;rw[cH,aP,zf,h t (Mx ..),b (λt d=>h t (cS _ d))]
   rw[b7,qz,aP,c f e];simp;omega
theorem ER {d:Nd}(h:kY d):p1 d:=by
 obtain⟨⟨e,i⟩,f⟩:=h;have g:∀{l:List ax} {a b:Nat} {e:List Qn},eH d.az a l e b->a+iA e=b:=by
  intro l;induction l with
  | nil=>rintro a b e ⟨rfl,rfl⟩;rfl
  | cons q l k => rintro a b e ⟨n,m,c,rfl,_,f,_,j⟩;have:=k j;have:=f.len;rw[F2] at this;unfold iA at *;rw[List.map_cons,List.sum_cons];omega
 exact⟨⟨e,i.tq,by have:=g i;omega⟩,f⟩
theorem Di:∀{l:List Nd},(∀d∈l,p1 d)->∃a,dS l a/\∀n∈a,n.Nh.length<=1201:=by
 intro l;induction l with
 | nil=>intro _;exact⟨[],rfl,λn h=>by cases h⟩
 | cons d l g =>
   intro h;obtain⟨a,c,e⟩:=g (λd f=>h d (cS _ f));obtain⟨⟨b,i,j⟩,k⟩:=h d (Mx ..);refine⟨⟨d.nm,d.a,d.ak,d.ah,d.aG,b⟩::a,⟨_,a,rfl,⟨rfl,rfl,rfl,rfl,rfl,i⟩,c⟩,λn hn=>?_⟩;rcases cC.1 hn with rfl|hn
   . have:(ay.Nh ⟨d.nm,d.a,d.ak,d.ah,d.aG,b⟩).length=iA b:=by unfold ay.Nh iA;rw[List.length_flatMap];rfl
     rw[this];omega
   exact e n hn
end
section
variable {L:List Ex}
theorem bX.k7 {x:Nat}{t d:Tm}(h:bX L x t)(m:bX L x d):t=d:=by
 induction h generalizing d with
 | mk x k j p r s q =>
   cases m with
   | mk _ l b a o c =>
     rw[p] at a;cases a;have:j=b:=by
      apply List.ext_getElem?;intro i;by_cases n:i<j.length
      . have e:=av n;have f:=av (show i<b.length by omega);have g:=av (show i<k.ah.length by omega);rw[e,f,q i _ _ g e (c i _ _ g f)]
      rw[List.getElem?_eq_none (by omega),List.getElem?_eq_none (by omega)]
     rw[this]
theorem qC:∀{l:List ax} {d c:List Qn},fM L l d->fM L l c->d=c:=by
 intro l;induction l with
 | nil=>rintro d c rfl rfl;rfl
 | cons q l s => rintro d c ⟨a,B,rfl,p,e⟩ ⟨b,lb,rfl,r,f⟩;rw[s e f];obtain⟨t,u,v,w⟩:=a;obtain⟨x,y,z,A⟩:=b;obtain⟨g,h,i,j⟩:=p;obtain⟨k,m,n,o⟩:=r;simp only at g h i j k m n o;subst g h i k m n;rw[j.k7 o]
theorem DY (t:Tm):1<=vz t:=by
 cases t with
 | mk k a s b n c=>rw[qz];omega
theorem qG:∀(a:List Qn),a.length<=iA a
 | []=>an 0
 | q::a=>by have b:=qG a;have c:=DY q.r;unfold iA at b ⊢;simp only[List.map_cons,List.sum_cons,bJ];omega
structure og (d:Nd):Prop where
 s:lG d
 o:k9 d
 z:p1 d
theorem zl {d:Nd}{n:ay}(a:ht d n)(h:og d):iA n.eqs<=1201:=by obtain⟨⟨f,b,c⟩,e⟩:=h.z;rw[qC a.eqs b];omega
theorem B5:∀{l:List Nd} {a:List ay},dS l a->∀(i:Nat) (d:Nd),l[i]?=some d->∃n,a[i]?=some n/\ht d n:=by
 intro l;induction l with
 | nil=>intro a _ i d h;simp at h
 | cons d0 l j =>
   rintro a ⟨n,m,rfl,g,f⟩ i d b;cases i with
   | zero=>simp at b;subst b;exact⟨n,rfl,g⟩
   | succ i => obtain⟨k,c,e⟩:=j f i d (by simpa using b);exact⟨k,by simpa using c,e⟩
theorem uR:∀{l:List Nd} {e c:List ay},dS l e->dS l c->e=c:=by
 intro l;induction l with
 | nil=>rintro e c rfl rfl;rfl
 | cons d l w => rintro e c ⟨a,J,rfl,u,f⟩ ⟨b,lb,rfl,v,g⟩;rw[w f g];obtain⟨x,y,z,A,B,C⟩:=a;obtain⟨D,E,F,G,H,I⟩:=b;obtain⟨h,i,j,k,m,n⟩:=u;obtain⟨o,p,q,r,s,t⟩:=v;simp only at h i j k m n o p q r s t;subst h i j k m o p q r s;rw[qC n t]
end
section
open Go.RowKit Go.Extern.Stop Go.Stop Go.Extern
theorem Tryz.AW (v:Xv)(w:Xw):(Extern.ReflectliteType.typeOf #[.iface 316 v]).run prog w=.ok (.iface 230 (.agg #[.pointer (some (xD 21 316))])) w:=by kernel_rfl
def zb:Array Value->Sem Value:=Extern.ReflectliteType.method λt=>do Extern.Rtype.noPackHeld "Comparable" t;pure (.bool (<- typeInfo t).comparable)
theorem Tryz.AQ (v:Xv)(w:Xw):(Go.method 457 230 v "Comparable").run prog w=.ok (265,v) w:=by kernel_rfl
theorem Tryz.td (v:Xv)(w:Xw):(Go.method 457 173 v "Unwrap").run prog w=.ok (262,v) w:=by kernel_rfl
theorem Tryz.AR (v:Xv)(w:Xw):(Go.method 457 53 v "Unwrap").run prog w=.ok (256,v) w:=by kernel_rfl
theorem Tryz.Am (a:Xa)(w:Xw):(callFunc 265 a).run prog w=((zb a).run prog w).andThen λv b=>.ok (.value v) b:=run_callFunc_extern func265 (by kernel_rfl) (by kernel_rfl) (by kernel_rfl) (by kernel_rfl) a w
theorem Tryz.sH (a:Xa)(w:Xw):(callFunc 118 a).run prog w=((Extern.ReflectliteType.typeOf a).run prog w).andThen λv b=>.ok (.value v) b:=run_callFunc_extern func118 (by kernel_rfl) (by kernel_rfl) (by kernel_rfl) (by kernel_rfl) a w
theorem Tryz.AP (w:Xw):(zb #[.agg #[.pointer (some (xD 21 316))]]).run prog w=.ok (.bool true) w:=by kernel_rfl
theorem Tryz.AO:(prog.info? 316).map (·.comparable)=some true:=by kernel_rfl
theorem Tryz.AV:(prog.info? 318).map (·.size)=some 1:=by kernel_rfl
theorem Tryz.Bm (v:Xv)(a:Xy)(w:Xw):(Instr.typeAssert (.iface 316 v) a 277 true).run prog w=.ok (.tuple #[.nilIface,.bool false]) w:=run_typeAssert_lacksB underlying277 (by kernel_rfl) (by kernel_rfl) v a w
theorem Tryz.Bq (v:Xv)(a:Xy)(w:Xw):(Instr.typeAssert (.iface 316 v) a 238 true).run prog w=.ok (.tuple #[.nilIface,.bool false]) w:=run_typeAssert_lacksB underlying238 (by kernel_rfl) (by kernel_rfl) v a w
theorem Tryz.Br (v:Xv)(a:Xy)(w:Xw):(Instr.typeAssert (.iface 316 v) a 240 true).run prog w=.ok (.tuple #[.nilIface,.bool false]) w:=run_typeAssert_lacksB underlying240 (by kernel_rfl) (by kernel_rfl) v a w
theorem Tryz.Bo (v:Xv)(a:Xy)(w:Xw):(Instr.typeAssert (.iface 173 v) a 277 true).run prog w=.ok (.tuple #[.nilIface,.bool false]) w:=run_typeAssert_lacksB underlying277 (by kernel_rfl) (by kernel_rfl) v a w
theorem Tryz.s4 (v:Xv)(a:Xy)(w:Xw):(Instr.typeAssert (.iface 173 v) a 238 true).run prog w=.ok (.tuple #[.iface 173 v,.bool true]) w:=run_typeAssert_hasB underlying238 (by kernel_rfl) v a w
theorem Tryz.Bn (v:Xv)(a:Xy)(w:Xw):(Instr.typeAssert (.iface 53 v) a 277 true).run prog w=.ok (.tuple #[.nilIface,.bool false]) w:=run_typeAssert_lacksB underlying277 (by kernel_rfl) (by kernel_rfl) v a w
theorem Tryz.AD (v:Xv)(a:Xy)(w:Xw):(Instr.typeAssert (.iface 53 v) a 238 true).run prog w=.ok (.tuple #[.iface 53 v,.bool true]) w:=run_typeAssert_hasB underlying238 (by kernel_rfl) v a w
theorem y4 (p:Xb)(e:Xv)(w:Xw):xK 262 #[.agg #[.string p,e]] w λr a=>r=.returned e/\xB w a:=by go_enter func262,ntmps262;go_wp2;go_ret;refine⟨rfl,?_⟩;first|exact yS _ _|exact zq w _
theorem Lu (k e:Xv)(w:Xw):xK 256 #[.agg #[k,e]] w λr a=>r=.returned k/\xB w a:=by go_enter func256,ntmps256;go_wp2;go_ret;refine⟨rfl,?_⟩;first|exact yS _ _|exact zq w _
theorem L0 (p:Xb)(a b:Addr)(g:Int)(r:Bool)(w:Xw)(HEq:∀W,xB w W->(binOp .eql 39 (.iface 316 (.pointer (some a))) (.iface 316 (.pointer (some b)))).run prog W=.ok (.bool r) W) :
 xK 53 #[ew p (.iface 53 (.agg #[.iface 316 (.pointer (some a)),xI g])),.iface 316 (.pointer (some b))] w λe j=>e=.returned (.bool r)/\xB w j:=by
 have n:=Tryz.sH;have i:=Tryz.Am;have t:=Tryz.AQ;have s:=Tryz.td;have q:=Tryz.AR;have z:=Tryz.AW;have l:=Tryz.AP;have y:=Tryz.Bo;have C:=Tryz.s4;have x:=Tryz.Bn;have B:=Tryz.AD;have u:=Tryz.Bm;have A:=Tryz.Bq;have D:=Tryz.Br;have eP:=λv h W=>run_eql_iface_types (P:=prog) 173 316 v h underlying39 (by decide) W;have m:=λv h W=>run_eql_iface_types (P:=prog) 53 316 v h underlying39 (by decide) W;unfold ew;go_enter func53,ntmps53;go_wp2;refine wp_loop_rounds 3 ?_;rw[rounds_succ];go_wp2_with (go_at_call 262;refine (y4 _ _ _).mono ?_;rintro e E ⟨rfl,d⟩);rw[rounds_succ];go_wp2_with (go_at_call 256;refine (Lu _ _ _).mono ?_;rintro e k ⟨rfl,f⟩);have c:=za (d.trans (f.mono d.size));have o:=HEq k c.o;rw[rounds_succ];cases r with
 | true => go_wp2;go_ret;exact⟨rfl,c.o⟩
 | false => go_wp2;go_ret;exact⟨rfl,c.o⟩
theorem Tryz.BO (t:Addr)(w:Xw):(ReflectliteValue.unpack (.iface 55 (.pointer (some t)))).run prog w
 = .ok (.agg #[.pointer (some (xD 21 55)),xP w.heap.size,.int .u64 150]) (w.alloc (.cells #[.pointer (some t)] 55)):=by kernel_rfl
theorem Tryz.BL (a:Addr)(w:Xw):(ReflectliteValue.methodAny (ReflectliteValue.valueError "reflectlite.Value.Type" 0) (λt _ _ _=>ReflectliteType.toType t) #[.agg #[.pointer (some (xD 21 55)),.pointer (some a),.int .u64 150]]).run prog w
 = .ok (.iface 230 (.agg #[.pointer (some (xD 21 55))])) w:=by kernel_rfl
theorem Tryz.Bi (h:Xv)(w:Xw):(Go.method 457 230 (.agg #[h]) "Kind").run prog w=.ok (251,h) w:=by kernel_rfl
theorem Tryz.Bg (h:Xv)(w:Xw):(Go.method 457 230 (.agg #[h]) "Elem").run prog w=.ok (266,.agg #[h]) w:=by kernel_rfl
theorem Tryz.Bh (h:Xv)(w:Xw):(Go.method 457 230 (.agg #[h]) "Implements").run prog w=.ok (267,.agg #[h]) w:=by kernel_rfl
theorem Tryz.Bf (h:Xv)(w:Xw):(Go.method 457 230 (.agg #[h]) "AssignableTo").run prog w=.ok (264,.agg #[h]) w:=by kernel_rfl
theorem Tryz.Ba (w:Xw):((ReflectliteType.abiMethod λt=>Functor.map (λa:Nat=>Value.int IntKind.u8 (a:Int)) (Rtype.kind t)) #[.pointer (some (xD 21 55))]).run prog w=.ok (.int .u8 22) w:=by kernel_rfl
theorem Tryz.A9 (w:Xw):((ReflectliteType.abiMethod λt=>Functor.map (λa:Nat=>Value.int IntKind.u8 (a:Int)) (Rtype.kind t)) #[.pointer (some (xD 21 53))]).run prog w=.ok (.int .u8 25) w:=by kernel_rfl
theorem Tryz.Au (w:Xw):(ReflectliteType.method ReflectliteType.elem #[.agg #[.pointer (some (xD 21 55))]]).run prog w=.ok (.iface 230 (.agg #[.pointer (some (xD 21 53))])) w:=by kernel_rfl
theorem Tryz.AE (w:Xw):(ReflectliteType.relation "Implements" ReflectliteType.implements_ #[.agg #[.pointer (some (xD 21 53))],.iface 230 (.agg #[.pointer (some (xD 21 39))])]).run prog w=.ok (.bool true) w:=by kernel_rfl
theorem Tryz.BJ (v:Xv)(w:Xw):(ReflectliteType.typeOf #[.iface 53 v]).run prog w=.ok (.iface 230 (.agg #[.pointer (some (xD 21 53))])) w:=by kernel_rfl
theorem Tryz.BK (v:Xv)(w:Xw):(ReflectliteType.typeOf #[.iface 173 v]).run prog w=.ok (.iface 230 (.agg #[.pointer (some (xD 21 173))])) w:=by kernel_rfl
theorem Tryz.Af (w:Xw):(ReflectliteType.relation "AssignableTo" ReflectliteType.assignableTo #[.agg #[.pointer (some (xD 21 53))],.iface 230 (.agg #[.pointer (some (xD 21 53))])]).run prog w=.ok (.bool true) w:=by kernel_rfl
theorem Tryz.Ag (w:Xw):(ReflectliteType.relation "AssignableTo" ReflectliteType.assignableTo #[.agg #[.pointer (some (xD 21 173))],.iface 230 (.agg #[.pointer (some (xD 21 53))])]).run prog w=.ok (.bool false) w:=by kernel_rfl
theorem Tryz.BN (k e:Xv)(w:Xw):(ReflectliteValue.unpack (.iface 53 (.agg #[k,e]))).run prog w
 = .ok (.agg #[.pointer (some (xD 21 53)),xP w.heap.size,.int .u64 153]) (w.alloc (.cells #[k,e] 53)):=by kernel_rfl
theorem Tryz.Bl (v:Xv)(a:Xy)(w:Xw):(Instr.typeAssert (.iface 173 v) a 235 true).run prog w=.ok (.tuple #[.nilIface,.bool false]) w:=run_typeAssert_lacksB underlying235 (by kernel_rfl) (by kernel_rfl) v a w
theorem tu (z:Sem Value)(f:TypeId->Addr->Nat->Nat->Sem Value)(v:Xv) :
 ReflectliteValue.method z f #[v]=(do match <- ReflectliteValue.parts v with|none=>z|some (t,a,fl)=>f t a fl (fl % 32)):=rfl
theorem Tryz.tl (a:Addr)(w:Xw):(ReflectliteValue.parts (.agg #[.pointer (some (xD 21 55)),.pointer (some a),.int .u64 150])).run prog w=.ok (some (55,a,150)) w:=by kernel_rfl
theorem Tryz.AU (a p:Addr)(W:Xw)(b:W.cell? a=some (.pointer (some p))) :
 (ReflectliteValue.method (ReflectliteValue.valueError "reflectlite.Value.IsNil" 0) ReflectliteValue.isNil #[.agg #[.pointer (some (xD 21 55)),.pointer (some a),.int .u64 150]]).run prog W=.ok (.bool false) W:=by
 rw[tu];simp only[Sem.run_bind,Tryz.tl,Result.andThen];simp[ReflectliteValue.isNil,loadVar,isAgg,underlying,underlying55,b,Result.andThen]
theorem Tryz.afc (w:Xw):(Rtype.elem? 55).run prog w=.ok (some 53) w:=by kernel_rfl
theorem Tryz.Bj (p:Addr)(w:Xw):(ReflectliteValue.mk 53 p ReflectliteValue.flagAddr).run prog w=.ok (.agg #[.pointer (some (xD 21 53)),.pointer (some p),.int .u64 409]) w:=by kernel_rfl
theorem Tryz.Av (a p:Addr)(W:Xw)(b:W.cell? a=some (.pointer (some p))) :
 (ReflectliteValue.method (ReflectliteValue.valueError "reflectlite.Value.Elem" 0) ReflectliteValue.elem #[.agg #[.pointer (some (xD 21 55)),.pointer (some a),.int .u64 150]]).run prog W
   = .ok (.agg #[.pointer (some (xD 21 53)),.pointer (some p),.int .u64 409]) W:=by
 rw[tu];simp only[Sem.run_bind,Tryz.tl,Result.andThen];simp[ReflectliteValue.elem,loadVar,isAgg,underlying,underlying55,b,Result.andThen,Tryz.afc,Tryz.Bj]
theorem Bv (v x:Xv):ReflectliteValue.set #[v,x]=(do
 let (some (dst,a,fl),some (src,b,_)):=(<- ReflectliteValue.parts v,<- ReflectliteValue.parts x)
  | unsupported (.noEntry "extern/(internal/reflectlite.Value).Set.zeroValue")
 if fl / ReflectliteValue.flagAddr % 2==0 then unsupported (.noEntry "extern/(internal/reflectlite.Value).Set.unaddressable")
 let c <- loadVar src b
 if <- Rtype.directlyAssignable dst src then storeVar dst a c
 else if <- Rtype.implements dst src then
  if (<- Rtype.kind src)==20 then
   match c with
   | .nilIface=>unsupported (.noEntry "extern/reflectlite: a nil value of one interface type handed on as a value of another")
   | _=>storeVar dst a c
  else storeVar dst a (.iface src c)
 else panicString ("reflectlite.Set: value of type "++(<- Rtype.spelt src)++ " is not assignable to type "++(<- Rtype.spelt dst))
 pure (.tuple #[])):=rfl
theorem Tryz.Bt (a:Addr)(w:Xw):(ReflectliteValue.parts (.agg #[.pointer (some (xD 21 53)),.pointer (some a),.int .u64 409])).run prog w=.ok (some (53,a,409)) w:=by kernel_rfl
theorem Tryz.Bs (a:Addr)(w:Xw):(ReflectliteValue.parts (.agg #[.pointer (some (xD 21 53)),.pointer (some a),.int .u64 153])).run prog w=.ok (some (53,a,153)) w:=by kernel_rfl
theorem Tryz.As (w:Xw):(Rtype.directlyAssignable 53 53).run prog w=.ok true w:=by kernel_rfl
theorem Tryz.Ae (w:Xw):(isAgg 53).run prog w=.ok true w:=by kernel_rfl
theorem Tryz.BE (w:Xw):(sizeOf 53).run prog w=.ok 2 w:=by kernel_rfl
theorem Tryz.BB (a b:Nat)(k e s t:Xv)(W:Xw)(o:k.oneCell'=true)(m:e.oneCell'=true)(l:xH W b #[k,e] 53)(r:xH W a #[s,t] 53) :
 (ReflectliteValue.set #[.agg #[.pointer (some (xD 21 53)),xP a,.int .u64 409],.agg #[.pointer (some (xD 21 53)),xP b,.int .u64 153]]).run prog W
   = .ok (.tuple #[]) ((W.setCell (xD a 0) k).setCell (xD a 1) e):=by
 have p:(loadVar 53 (xD b 0)).run prog W=.ok (.agg #[k,e]) W:=by
  have h:=run_loadCells_list (P:=prog) W (xD b 0) [k,e] (λj v c=>by
   obtain⟨d,f,_,_⟩:=zp l;rcases j with _|_|j
   . simp at c;subst c;exact d
   . simp at c;subst c;exact f
   simp at c)
  have i:(loadCells (xD b 0) 2).run prog W=.ok #[k,e] W:=h;unfold loadVar;simp only[Sem.run_bind,Tryz.Ae,Tryz.BE,Result.andThen,if_true,i];rfl
 have q:(storeVar 53 (xD a 0) (.agg #[k,e])).run prog W=.ok () ((W.setCell (xD a 0) k).setCell (xD a 1) e):=by
  refine run_storeVar_mid (P:=prog) W a 0 53 #[k,e] (λj c=>?_) (by kernel_rfl) (by simp[o,m]);obtain⟨d,f,g,_⟩:=zp r;have n:j<2:=c;rcases j with _|_|j
  . exact⟨by rw[Nat.zero_add,d];rfl,g _⟩
  . exact⟨by rw[Nat.zero_add,f];rfl,g _⟩
  omega
 rw[Bv];simp only[Sem.run_bind,Tryz.Bt,Tryz.Bs,Result.andThen];simp[ReflectliteValue.flagAddr,p,Tryz.As,q]
end
section
open Go.RowKit
attribute [local go_sem ↓] Go.wp_at_zero Go.wp_at_succ
def M7 (n:Nat):Array Value:=(zK (List.replicate n 0)).toArray
theorem Qj (n c:Nat)(h:n<=c)(k:c<=3145728)(w:Xw):(Instr.makeSlice 36 (xI (n:Int)) (xI (c:Int))).run prog w=.ok (xS w.heap.size n c) (w.alloc (.cells (M7 c) 2)):=by
 obtain⟨f,e,a,b,d⟩:=info_parts Tryz.Pz;have:=run_make (P:=prog) w 36 2 f _ underlying36 e a .i64 .i64 (n:Int) (c:Int) (by omega) (by omega) (by rw[d];omega) (by omega);refine this.trans ?_;clear this;rw[b];simp only[Int.toNat_natCast,Nat.mul_one];refine congrArg (λx=>Result.ok (xS w.heap.size n c) (w.alloc (.cells x 2))) ?_;unfold M7 madeCells;apply Array.ext
 . simp[zK]
 intro j g i;simp[zK,Value.cells,Nat.mod_one]
theorem TX (w:Xw)(a b c d:Obj):((((w.alloc a).alloc b).alloc c).alloc d).drew.heap[w.heap.size]?=some a/\((((w.alloc a).alloc b).alloc c).alloc d).drew.heap[w.heap.size+1]?=some b/\((((w.alloc a).alloc b).alloc c).alloc d).drew.heap[w.heap.size+1+1]?=some c/\((((w.alloc a).alloc b).alloc c).alloc d).drew.heap[w.heap.size+1+1+1]?=some d/\Below w.heap.size w ((((w.alloc a).alloc b).alloc c).alloc d).drew:=by
 have h (w:Xw) (o:Obj) (k:Nat):(w.alloc o).heap[k]?=if k=w.heap.size then some o else w.heap[k]?:=by show (w.heap.push o)[k]?=_;rw[Array.getElem?_push]
 have e (W:Xw) (k:Nat):W.drew.heap[k]?=W.heap[k]?:=rfl;refine⟨?_,?_,?_,?_,⟨rfl,rfl,rfl,by simp[World.drew];omega,λk f=>?_⟩⟩
 all_goals
  rw[e];simp only[h,au]
 . rw[ae (by omega),ae (by omega),ae (by omega),ag trivial]
 . rw[ae (by omega),ae (by omega),ag trivial]
 . rw[ae (by omega),ag trivial]
 . rw[ag trivial]
 rw[ae (by omega),ae (by omega),ae (by omega),ae (by omega)]
theorem X8 {w W:Xw}{N m d a b g j l f:Nat}{n o p:Xv}{c:Cd}(h:CB w N m n o p c)(i:N<=w.heap.size)(q:xB w W)(r:j=c.cells.length)(s:l=c.al)
 (y:xH W d #[xP m,xS a j j,xS b l l,xS g 0 f] 196)
 (t:xH W a (M7 j) 2) (u:xH W b (M7 l) 2) (v:xH W g (M7 f) 2) (jK:f<=3145728)
 (z:w.heap.size<=d) (A:w.heap.size<=a) (B:w.heap.size<=b) (C:w.heap.size<=g) (d1:d≠a) (d2:d≠b) (d3:a≠b) (d4:g≠d) (d5:g≠a) (d6:g≠b) :
 Mc W w.heap.size d m a b n o p (xS g 0 f) c (List.replicate j 0) (List.replicate l 0) []:=by
 subst r s;have x:CB W w.heap.size m n o p c:=by have:=h.am (zm q i);exact⟨this.aC,this.xv,this.hQ,this.zA,dD this.h0 i,λk e=>dD (this.h1 k e) i,λk e=>dD (this.h2 k e) i,λk e=>dD (this.h3 k e) i,this.NF,this.NW,this.Pu,this.Pw,this.PC⟩
 refine⟨x,⟨?_,?_,?_,?_,d1,d2,d3,?_,?_,?_,q.size⟩,z,A,B,by simp,by simp⟩
 . simpa using y
 . exact t
 . exact u
 . refine⟨rfl,ap ⟨g,f,M7 f,rfl,C,v,by simp,by unfold maxLen;omega,by simp[M7,zK],by simp[zK]⟩⟩
 . intro e;cases e;exact d4 rfl
 . intro e;cases e;exact d5 rfl
 intro e;cases e;exact d6 rfl
theorem Xr (N a:Nat)(l p m:Xv)(c:Cd)(w:Xw)(H:CB w N a l p m c)(u:N<=w.heap.size) :
 xK 39 #[xP a] w (λe b=>∃r n o A,e=.returned (xP r)/\Mc b w.heap.size r a n o l p m A c c.cells (List.replicate c.al 0) []/\xB w b):=by
 obtain⟨F,G,v,y,z,I,J,K⟩:=zt H.aC;obtain⟨x,t,rfl⟩:=zB H.hQ;have C:=H.NW;have D:=H.Pu;have s:=H.Pw;have n:(0:Int)<=(c.cells.length:Int):=by omega
 have o:(0:Int)<=(c.al:Int):=by omega
 have E:(0:Int)<=(c.depth:Int):=by omega
 have L:=Qj c.cells.length c.cells.length (by omega) (by omega);have M:=Qj c.al c.al (by omega) (by omega);have O:∀w,(Instr.makeSlice 36 (xI 0) (xI (c.depth:Int))).run prog w=_:=Qj 0 c.depth (by omega) (by omega);go_enter func39,ntmps39;go_upto_region 1 with fail;go_region_held3 (λb=>b.cell? (xD a 3)=some (.slice x c.cells.length t)/\b.cell? (xD a 2)=some (xI c.al)/\b.cell? (xD a 4)=some (xI c.depth)) (first|(refine⟨?_,?_,?_⟩ <;> repeat (first|with_reducible exact v|with_reducible exact y|with_reducible exact z|with_reducible refine zg ?_|with_reducible refine zj _ ?_))|go_keep) (fail)
 all_goals
  go_wp2_with (go_at_call 90;obtain⟨f,g,h,q,i⟩:=TX w _ _ _ _;refine (Td w.heap.size _ a _ _ l _ m _ c _ _ [] _ (X8 H u i rfl rfl q (by first|exact f|exact g|exact h) (by first|exact f|exact g|exact h) (by first|exact f|exact g|exact h) s (by omega) (by omega) (by omega) (by omega) (by omega) (by omega) (by omega) (by omega) (by omega) (by omega))).mono ?_;rintro e B ⟨rfl,k,d⟩;have j:aa (xB w B):=i.trans (d.below i.size (by omega));clear d f g h q i)
 all_goals go_ret
 all_goals exact⟨_,_,_,_,rfl,k,j.o⟩
end
section
open Go.RowKit
variable {a:Nat} {c:Sc} {w w':Xw}
attribute [local go_sem ↓] Go.wp_at_zero Go.wp_at_succ
theorem mh (w:Xw)(b d:Obj):((w.alloc b).alloc d).heap[w.heap.size]?=some b/\((w.alloc b).alloc d).heap[w.heap.size+1]?=some d:=by refine⟨(mm _ _ _ (by simp)).trans (zc w b),?_⟩;have:=zc (w.alloc b) d;rwa [au] at this
def eD (k:Nat×Nat):Int×Int:=((k.1:Int),(k.2:Int))
def eC (c:Sc):Nat->List ((Int×Int)×Value)
 | 0=>[]
 | i+1=>eC c i++[(((i:Int),1),pr (eD (c.of i))),(((i:Int),2),pr (eD (c.of i)))]
theorem Kq (c:Sc)(n:Nat):(eC c n).length=2*n:=by
 induction n with
 | zero=>rfl
 | succ n b=>rw[eC,aP,b];simp;omega
theorem KU (c:Sc)(n:Nat):∀p∈eC c n,∃j,j<n/\p.1.1=(j:Int):=by
 induction n with
 | zero=>intro p h;simp[eC] at h
 | succ n d =>
   intro p h;rw[eC,bj] at h;rcases h with h|h
   . obtain⟨j,e,b⟩:=d p h;exact⟨j,by omega,b⟩
   simp at h;rcases h with rfl|rfl
   . exact⟨n,by omega,rfl⟩
   exact⟨n,by omega,rfl⟩
theorem yb (c:Sc)(n:Nat)(s:Int):((n:Int),s) ∉ (eC c n).map (·.1):=by intro h;obtain⟨p,d,e⟩:=List.mem_map.1 h;obtain⟨j,f,b⟩:=KU c n p d;rw[e] at b;simp at b;omega
theorem JI {κ:Type} [DecidableEq κ] (k:κ)(m:List (κ×Value)):∀l:List (κ×Value),db k (l++m)=match db k l with|some v=>some v|none=>db k m:=by
 intro l;induction l with
 | nil=>rfl
 | cons p l b =>
   rw[List.cons_append];simp only[db];split
   . rfl
   exact b
theorem JV (c:Sc)(n j s:Nat):db ((j:Int),(s:Int)) (eC c n)=if j<n/\(s=1∨s=2) then some (pr (eD (c.of j))) else none:=by
 induction n with
 | zero=>simp[eC,db]
 | succ n i =>
   rw[eC,JI,i];by_cases d:j<n
   . by_cases b:s=1∨s=2
     . rw[ag ⟨d,b⟩,ag ⟨by omega,b⟩]
     rw[ae (λe=>b e.2),ae (λe=>b e.2)];simp only[db,Prod.mk.injEq];rw[ae (by omega),ae (by omega)]
   rw[ae (λe=>d e.1)];simp only[db,Prod.mk.injEq];by_cases f:j=n
   . subst f;by_cases g:s=1
     . subst g;simp
     by_cases h:s=2
     . subst h;simp
     rw[ae (by omega),ae (by omega),ae (by omega)]
   rw[ae (by omega),ae (by omega),ae (by omega)]
theorem Jy (c:Sc)(n:Nat)(v:Xv):hL ((n:Int),1) v (eC c n)=eC c n++[(((n:Int),1),v)]:=rR (yb c n 1)
theorem Je (c:Sc)(n:Nat)(u v:Xv):hL ((n:Int),2) v (eC c n++[(((n:Int),1),u)])=eC c n++[(((n:Int),1),u),(((n:Int),2),v)]:=by
 rw[rR]
 . simp
 rw[List.map_append,bj];rintro (h|h)
 . exact yb c n 2 h
 simp at h
def dF (w:Xw)(c:Sc)(a:Nat):Prop:=fb w a pr (eC c c.nd.ak.length)
theorem dF.gh (h:dF w c a)(b:w'.heap[a]?=w.heap[a]?):dF w' c a:=fb.of h b
theorem dF.lt (h:dF w c a):a<w.heap.size:=fb.lt h
theorem dF.aq (h:dF w c a)(b:xB w w'):dF w' c a:=h.gh (b.block _ h.lt)
theorem Tryz.GQ (w:Xw):(zeroValue 162).run prog w=.ok (pr (0,0)) w:=by unfold pr;kernel_rfl
theorem JQ (c:Sc)(i:Nat)(h:¬i<c.nd.ak.length):c.of i=(0,0):=by unfold Sc.of;rw[List.getElem?_eq_none (by omega)]
theorem yn (h:dF w c a)(k:Nat×Nat) :
 (Instr.lookup 84 (.map (some a)) (pr (eD k)) false).run prog w=.ok (pr (eD (c.up k))) w:=by
 rw[rN Tryz.qe underlying84 Tryz.GQ h (eD k) false];rw[show eD k=((k.1:Int),(k.2:Int)) from rfl,JV];refine congrArg (λv=>Result.ok v w) ?_
 show Option.getD _ _=_;unfold Sc.up;by_cases b:k.2=1∨k.2=2
 . rw[ag b];by_cases d:k.1<c.nd.ak.length
   . rw[ag ⟨d,b⟩];rfl
   rw[ae (λe=>d e.1),JQ c _ d];rfl
 rw[ae (λe=>b e.2),ae b];rfl
theorem Lp (h:dF w c a)(i:Nat) :
 (Instr.lookup 84 (.map (some a)) (.agg #[xI (i:Int),xI 1]) false).run prog w=.ok (.agg #[xI ((c.of i).1:Nat),xI ((c.of i).2:Nat)]) w:=by
 have:=yn h (i,1);rw[show c.up (i,1)=c.of i from ag (ao rfl)] at this;exact this
theorem K4 (h:dF w c a)(e:Xy):(Builtin.len_ #[84] e #[.map (some a)]).run prog w=.ok (xI ((2*c.nd.ak.length:Nat):Int)) w:=by
 obtain⟨d,b,f,g⟩:=h;have i:d.size=2*c.nd.ak.length:=by have:=congrArg List.length g;rw[List.length_map,List.length_map,Kq] at this;simpa using this
 rw[<- i];have j:prog.underlying 84=some (.map (prog.mapKeyOf 84) (prog.mapElemOf 84)):=by kernel_rfl
 exact run_len_map w 84 e a d b j f
theorem jW (i:Nat)(w:Xw)(h:dF w c a) :
 xK 60 #[.map (some a),xI (i:Int)] w (λe w'=>e=.returned (.agg #[xI ((c.of i).1:Nat),xI ((c.of i).2:Nat)])/\xB w w'):=by
 have b:=λo=>Lp (h.aq (zq w o)) i;go_enter func60,ntmps60;go_wp2_with fail;refine ab (v:=.agg #[xI ((c.of i).1:Nat),xI ((c.of i).2:Nat)]) (by simp[results,results60,go_sem]) rfl ⟨rfl,?_⟩;exact zq w _
theorem pa {b:Nat}{e:Xy}{g i:Xv}(h:xH w b #[g,i] e)(d f:Xv):((w.setCell (xD b 0) d).setCell (xD b 1) f).heap[b]?=some (.cells #[d,f] e (0,0)) :=
 zh _ _ _ _ (zh _ _ _ _ h)
theorem Js (c:Sc)(i:Nat)(m:Nat)(k:Nat×Nat):lx c i (m+1) k=if k=(0,0) then false else if k.1=i then true else lx c i m (c.up k):=rfl
theorem Ha (i:Nat)(w:Xw)(h:dF w c a)(O:c.nd.ak.length<=1000) :
 xK 109 #[.map (some a),xI (i:Int)] w (λe w'=>e=.returned (.bool (c.jF i))/\xB w w'):=by
 have L:=jW i w h;have B:=za h;have S:=h.lt;clear h;go_enter func109,ntmps109;go_upto_region 2 with (go_at_call 60;refine L.mono ?_;rintro e q ⟨rfl,H⟩);refine zn (λW=>dF W c a/\xB w W/\xH W q.heap.size #[xI ((c.of i).1:Nat),xI ((c.of i).2:Nat)] 162) ⟨(B.o.aq H).aq (zq q _),jh H (an _) _,zc q _⟩ ?_;rintro W ⟨p,u,v⟩;have A:w.heap.size<=q.heap.size:=H.size;have z:=K4 p;have s:=za p;have r:=za u;have t:=za v;clear p u v;go_wp2_with fail;go_loopg [11] (2*c.nd.ak.length+1) (λj x wr=>∃(k:Nat) (g:Nat×Nat),k+j=2*c.nd.ak.length+1/\k<=2*c.nd.ak.length/\x=xI k/\aa (dF wr c a)/\aa (xH wr q.heap.size #[xI (g.1:Nat),xI (g.2:Nat)] 162)/\aa (c.jF i=lx c i (j-1) g)/\aa (xB w wr));case atStart=>exact⟨0,c.of i,by omega,aE _,rfl,s.o,t.o,rfl,r.o⟩
 case round =>
  clear s t r z;obtain⟨k,g,P,R,rfl,B,D,C,b⟩:=hrel;obtain⟨J,K,T,U⟩:=zp D.o;by_cases Q:k<2*c.nd.ak.length
  . obtain⟨m,rfl⟩:∃m,gk=m+1+1:=⟨gk-1-1,by omega⟩;have d:=C.o;rw[show m+1+1-1=m+1 from rfl,Js] at d;have f:=yn B.o g;unfold pr eD at f;clear C;by_cases n:g=(0,0)
    . rw[ag n] at d;subst n;have l:=za d;clear d;go_wp2_with fail;go_ret;exact⟨by rw[l.o];rfl,b.o⟩
    rw[ae n] at d;by_cases E:g.1=i
    . rw[ag E] at d;have o:(g.1:Int)=(i:Int):=(by omega);have l:=za d;clear d E;obtain⟨F,G⟩:=g;simp only[Prod.mk.injEq] at n;simp only at o D l J K f;by_cases I:(F:Int)=0;have N:¬(G:Int)=0:=(by omega);simp only[I] at f;all_goals clear n
      . go_wp2_with fail;go_ret;exact⟨by rw[l.o];rfl,b.o⟩
      go_wp2_with fail;go_ret;exact⟨by rw[l.o];rfl,b.o⟩
    rw[ae E] at d;have o:¬(g.1:Int)=(i:Int):=(by omega);have l:=za d;clear d E;have y:¬a=q.heap.size:=(by omega);obtain⟨F,G⟩:=g;simp only[Prod.mk.injEq] at n;simp only at o D l J K f;by_cases I:(F:Int)=0;have N:¬(G:Int)=0:=(by omega);simp only[I] at f;all_goals clear n
    iterate 2
     . go_wp2_with fail;go_roundg (m+1);case measure=>omega
       exact⟨k+1,c.up (F,G),by omega,by omega,by go_num,B.o.gh ((Below.heap_setCell _ _ _ _ y).trans (Below.heap_setCell _ _ _ _ y)),pa D.o _ _,l.o,zC (zC b.o A _) A _⟩
  have M:k=2*c.nd.ak.length:=by omega
  subst M;have:gk=1:=by omega
  subst this;have l:aa (c.jF i=false):=C.o;clear C;go_wp2_with fail;go_ret;exact⟨by rw[l.o];rfl,b.o⟩
end
section
open Go.RowKit Go.Extern.Stop Go.Stop Go.Extern
def fw (w:Xw):Prop:=w.cell? (xD 7 0)=some (.iface 230 (.agg #[.pointer (some (xD 21 39))]))
theorem L1 (p:Xb)(k:Xv)(d:Int)(N:k.oneCell'=true)(b:Nat)(z A:Xv)(w:Xw)(x:fw w)(y:w.heap[b]?=some (.cells #[z,A] 53 (0,0))) :
 xK 19 #[ew p (.iface 53 (.agg #[k,xI d])),.iface 55 (xP b)] w λe l=>e=.returned (.bool true)/\l.heap[b]?=some (.cells #[k,xI d] 53 (0,0))/\Fr (λj=>j=b) w l:=by
 have r:=ze y;have B:∀a w,(callFunc 49 a).run prog w=(((λa=>ReflectliteValue.unpack (a.getD 0 (.tuple #[]))) a).run prog w).andThen λv l=>.ok (.value v) l:=run_callFunc_extern func49 (by kernel_rfl) (by kernel_rfl) (by kernel_rfl) (by kernel_rfl);have C:=@run_callFunc_extern prog 50 _ (ReflectliteValue.methodAny (ReflectliteValue.valueError "reflectlite.Value.Type" 0) (λt _ _ _=>ReflectliteType.toType t)) func50 (by kernel_rfl) (by kernel_rfl) (by kernel_rfl) (by kernel_rfl);have D:=@run_callFunc_extern prog 51 _ (ReflectliteValue.method (ReflectliteValue.valueError "reflectlite.Value.IsNil" 0) ReflectliteValue.isNil) func51 (by kernel_rfl) (by kernel_rfl) (by kernel_rfl) (by kernel_rfl);have I:=@run_callFunc_extern prog 251 _ (ReflectliteType.abiMethod λt=>do pure (.int .u8 (<- Rtype.kind t))) func251 (by kernel_rfl) (by kernel_rfl) (by kernel_rfl) (by kernel_rfl);have G:=@run_callFunc_extern prog 266 _ (ReflectliteType.method ReflectliteType.elem) func266 (by kernel_rfl) (by kernel_rfl) (by kernel_rfl) (by kernel_rfl);have H:=@run_callFunc_extern prog 267 _ (ReflectliteType.relation "Implements" ReflectliteType.implements_) func267 (by kernel_rfl) (by kernel_rfl) (by kernel_rfl) (by kernel_rfl);have L:=Tryz.sH;have E:=@run_callFunc_extern prog 264 _ (ReflectliteType.relation "AssignableTo" ReflectliteType.assignableTo) func264 (by kernel_rfl) (by kernel_rfl) (by kernel_rfl) (by kernel_rfl);have M:=@run_callFunc_extern prog 119 _ (ReflectliteValue.method (ReflectliteValue.valueError "reflectlite.Value.Elem" 0) ReflectliteValue.elem) func119 (by kernel_rfl) (by kernel_rfl) (by kernel_rfl) (by kernel_rfl);have K:=@run_callFunc_extern prog 120 _ ReflectliteValue.set func120 (by kernel_rfl) (by kernel_rfl) (by kernel_rfl) (by kernel_rfl);have a2:=Tryz.td;have a4:=Tryz.BJ;have a5:=Tryz.BK;have aL:=Tryz.Bf;have V:=Tryz.Af;have X:=Tryz.Ag;have a9:=Tryz.BN;have vP:=Tryz.BO;have bl:=Tryz.BL;have a1:=Tryz.Bi;have aV:=Tryz.Bg;have a0:=Tryz.Bh;have aA:=Tryz.Ba;have ar:=Tryz.A9;have eP:=Tryz.Au;have Z:=Tryz.AE;have a3:=Tryz.Bl;have a6:=Tryz.s4;have Y:7<w.heap.size:=World.block_lt_of_cell? w (xD 7 0) x;have o:=Tryz.AU (xD w.heap.size 0) (xD b 0) ((w.alloc (.cells #[xP b] 55)).alloc (.cells #[.pointer (some (xD 21 55)),xP w.heap.size,.int .u64 150] 136)) (by simp);have q:((w.alloc (.cells #[xP b] 55)).alloc (.cells #[.pointer (some (xD 21 55)),xP w.heap.size,.int .u64 150] 136)).cell? (xD 7 0)=some (.iface 230 (.agg #[.pointer (some (xD 21 39))])):=zj _ (zj _ x);unfold ew;go_enter func19,ntmps19;go_wp2;refine zn (λW=>(xB w W)/\w.heap.size+3<=W.heap.size/\W.heap[w.heap.size]?=some (.cells #[xP b] 55 (0,0))/\W.heap[w.heap.size+2]?=some (.cells #[.pointer (some (xD 21 55)),xP w.heap.size,.int .u64 150] 136 (0,0))) ⟨jh (jh (zq w _) (an _) _) (an _) _,by simp,?_,?_⟩ ?_
 . rw[mm _ _ _ (by simp;omega),mm _ _ _ (by simp)];exact zc w _
 . have u:=zc ((w.alloc (.cells #[xP b] 55)).alloc (.cells #[.pointer (some (xD 21 55)),xP w.heap.size,.int .u64 150] 136)) (.cells #[.pointer (some (xD 21 55)),xP w.heap.size,.int .u64 150] 136);rw[au,au] at u;exact u
 rintro U ⟨g,O,n,h⟩;clear o q;obtain⟨Q,R,T,bb,vz⟩:=zL h;refine wp_loop_rounds 2 ?_;rw[rounds_succ];go_wp2_with (go_at_call 262;refine (y4 _ _ _).mono ?_;rintro e m ⟨rfl,c⟩);have P:=c.size;have i:=(c.block w.heap.size (by omega)).trans n;obtain⟨be,bg,bk,bo,bp⟩:=zL ((c.block (w.heap.size+2) (by omega)).trans h);have f:=(c.block b (by have:=g.size;omega)).trans ((g.block b r).trans y);have F:=Tryz.Av (xD w.heap.size 0) (xD b 0) m (zu i).1;have J:=Tryz.BB b m.heap.size k (xI d) z A (m.alloc (.cells #[k,xI d] 53)) N rfl (zc m _) ((mm _ _ _ (ze f)).trans f);have s:=ze f;clear Q R T i;rw[rounds_succ];go_wp2;go_ret;refine⟨rfl,?_,?_⟩
 . exact (mm _ _ _ (by simpa [World.setCell] using s)).trans (pa f k (xI d))
 exact (((((Fr.Mo g).dr (Fr.Mo (S:=λj=>j=b) c) (λ_ _ e=>e)).setCell (ao rfl) k).setCell (ao rfl) _).alloc _)
end
end Go.Proofs.YtcnelakggnfnhaaGreatDoor
