/- Part 16 of the proof. -/
import Derived.Test.YtbicmofihhjgbaaGreatDoorK13
set_option maxRecDepth 100000
set_option maxHeartbeats 8000000
namespace Go.Proofs.YtbicmofihhjgbaaGreatDoor
open Go.Proofs.Tryz
open Go.RowKit
section
variable {m:Xm} {N b l:Nat} {f:Xp} {d:Sc} {o:Xv} {W w j:Xw}
attribute [local go_sem ↓] Go.wp_at_zero Go.wp_at_succ
structure ki (w:Xw) (N:Nat) (d:Sc) (X l:Nat) (f:Xp) (b:Nat) (W:Xw):Prop where
 box:W.heap[X]?=some (.cells #[xE f d b,xP l] 114 (0,0))
 sc:br W N d (xE f d b) (xP l)
 aH:xB w W
theorem su (c:xB w W)(a:xB W j)(g:br j N d (xE f d b) (xP l))(i:N<=w.heap.size) :
 ki w N d j.heap.size l f b (j.alloc (.cells #[xE f d b,xP l] 114)):=by
 have e:=c.size;have h:=a.size;exact⟨zc _ _,g.am (OJ (by omega) _),(c.trans (a.mono e)).alloc (by omega) _⟩
theorem ss {e g:Xv}(h:xB w W)(a:Below (W.alloc (.cells #[e,g] 114)).heap.size (W.alloc (.cells #[e,g] 114)) j)(p:br j N d (xE f d b) (xP l))(q:N<=w.heap.size) :
 ki w N d W.heap.size l f b ((j.setCell (xD W.heap.size 0) (xE f d b)).setCell (xD W.heap.size 1) (xP l)):=by
 have c:=h.size;have n:xH j W.heap.size #[e,g] 114:=(a.block _ (by rw[au];omega)).trans (zc W _);have i:=zh (j.setCell (xD W.heap.size 0) (xE f d b)) W.heap.size 1 (xP l) (zh j W.heap.size 0 (xE f d b) n);refine⟨i,p.am (λk r=>?_),zC (zC (h.trans ((zE a).mono c)) c _) c _⟩;exact (zr (by omega) rfl).trans (zr (by omega) rfl)
theorem me {c:Sc}{F:Xv}(s:Xb)(a:Int)(w:Xw)(n:br w N c o F)(K:N<=w.heap.size)(O:c.has s=true) :
 xK 127 #[.agg #[o,F],.agg #[.string s,xI a]] w (λe h=>e=.returned (xI (c.decl s:Nat))/\xB w h):=by
 obtain⟨A,p,t,rfl,rfl,Q⟩:=n.shape;obtain⟨S,a3,aA,m,J,r⟩:=n.nd;cases J;obtain⟨i,D⟩:∃i,c.nd.find s=some i:=Option.isSome_iff_exists.1 O;have P:=(kP D).2.1;obtain⟨v,E⟩:∃v,c.nd.ak[i]?=some v:=⟨_,av (by omega)⟩;have k:c.idx s=i:=by unfold Sc.idx;rw[D];rfl
 have G:aa (c.decl s=dt v):=by unfold aa Sc.decl;rw[k,E];rfl
 obtain⟨a4,x,rfl⟩:=zB r.bZ;obtain⟨g,rfl,T,U,H,V,X,Y,Z⟩:=hj r.bZ E;have C:=r.bO;have M:=r.jc g rfl;have i1:(i:Int)<(c.nd.ak.length:Int):=by omega
 have i0:(0:Int)<=(i:Int):=by omega
 go_enter func127,ntmps127;go_upto_region 1 with fail;refine zn (λW=>(W.heap[w.heap.size]?=some (.cells #[xE A c p,xP t] 216 (0,0))/\W.heap[w.heap.size+1]?=some (.cells #[.string s,xI a] 117 (0,0)))/\xB w W) ⟨⟨(Below.heap_alloc _ _ _ (by simp)).trans (zc w _),by have:=zc (w.alloc (.cells #[xE A c p,xP t] 216)) (.cells #[.string s,xI a] 117);rwa [au] at this⟩,cT w _ _⟩ ?_;rintro W ⟨⟨R,z⟩,u⟩;obtain⟨a1,s1,a2,sz⟩:=zp R;obtain⟨aL,aV,rf,a0⟩:=zp z;obtain⟨m0,m1,m2,m3,m4,m5,ab,ar⟩:=zt ((u.block t (by omega)).trans r.aC);have I:=zd u H (by omega);have L:=zm u K;have B:=za (hW s a W.drew (n.am (w':=W.drew) L) (by show N<=W.heap.size;omega));rw[k] at B
 go_region_held3 (λh=>h.cell? (xD w.heap.size 0)=some (xE A c p)/\h.cell? (xD w.heap.size 1)=some (xP t)/\h.cell? (xD (w.heap.size+1) 0)=some (.string s)/\h.cell? (xD (w.heap.size+1) 1)=some (xI a)/\h.cell? (xD t 2)=some (xS g c.nd.ak.length x)/\h.cell? (xD g (i*7+2))=some (xI (dv v:Nat)))
  (first|(with_reducible (refine⟨?_,?_,?_,?_,?_,?_⟩ <;> repeat (first|assumption|refine zg ?_|refine zj _ ?_|refine zk (by omega) ?_|refine zd q.o ?_ (by first|omega|(rw[au];omega)))))|go_keep)
  (first
    | (go_at_call 105;refine B.o.mono ?_;rintro e j ⟨rfl,y⟩;have q:=za (zw y)))
 all_goals go_wp2_with fail
 all_goals go_ret
 all_goals exact⟨by rw[G.o];rfl,u.trans (q.o.mono (by omega))⟩
theorem yE {B g n a c:Nat}{e:Xy}(h:w.ownsRow B e c (xS g n a) n m):n<=a/\a<=9223372036854775807:=by
 rcases h.2 with ⟨p,_⟩|⟨t,i,k,s,x,y,q,r,u,v⟩
 . cases p
 cases s;unfold maxLen at r;exact⟨q,by omega⟩
theorem rk {n:ay}{c:Nat}{q:Xv}(w:Xw)(h:NT w N n c q o m)(r:n.ah+n.aG<=n.ak.length)(s:n.ah<n.ak.length) :
 xK 88 #[xP c] w (λe i=>∃g a,q=xS g n.ak.length a/\e=.returned (.slice (some (xD g (n.ah*7))) n.aG (a-n.ah))/\xB w i):=by
 obtain⟨g,a,rfl,_⟩:=zM h.bZ (by omega);obtain⟨t,u,v,x,y,z,A,B⟩:=zt h.aC;have k:=yE h.bZ;have p:=h.bO;have C:(0:Int)<=(n.ah:Int):=by omega
 have D:(n.ah:Int)<=(n.ah:Int)+(n.aG:Int):=by omega
 have E:(n.ah:Int)+(n.aG:Int)<=(a:Int):=by omega
 have F:¬(n.ah=a):=by omega
 have G:¬((n.ah:Int)=(a:Int)):=by omega
 have H:¬(a=n.ah):=by omega
 have I:((n.ah:Int)+(n.aG:Int)).toNat=n.ah+n.aG:=by omega
 have J:IntKind.i64.wrap ((n.ah:Int)+(n.aG:Int))=(n.ah:Int)+(n.aG:Int):=by rw[IntKind.wrap_i64];omega
 have K:(0:Int)<=(n.ah:Int)+(n.aG:Int):=by omega
 go_enter func88,ntmps88;go_upto_region 1 with fail
 go_region_held3 (λi=>i.cell? (xD c 2)=some (xS g n.ak.length a)/\i.cell? (xD c 3)=some (xI n.ah)/\i.cell? (xD c 4)=some (xI n.aG))
  (first|(with_reducible (refine⟨?_,?_,?_⟩ <;> repeat (first|assumption|refine zg ?_|refine zj _ ?_|refine zk (by omega) ?_)))|go_keep) (fail)
 all_goals go_wp2_with fail
 all_goals go_ret
 all_goals exact⟨_,_,rfl,rfl,zo (Below.refl _ _)⟩
end
section
variable {N:Nat} {c:Sc} {t u:Tm}
attribute [local go_sem ↓] Go.wp_at_zero Go.wp_at_succ
structure gP (n:ay):Prop where
 ah:1<=n.ah
 aG:1<=n.aG
 io:n.ah+n.aG<=n.ak.length
 bO:n.ak.length<=16
 eqs:∀q∈n.eqs,q.ns.length=q.ps.length/\1<=q.ns.length/\Wf q.r/\(2<=q.ns.length->q.r.k=4)
structure eU (c:Sc):Prop where
 er:∀n∈c.er,gP n
 nd:gP c.nd
 bO:c.er.length<=6
theorem eU.called {d:Sc}(h:eU c){s:Xb}(a:c.called s=some d):eU d/\d.nd∈c.er:=by
 unfold Sc.called at a;split at a
 . cases a
 rename_i i g
 split at a
 . cases a
 rename_i n f
 cases a;have e:=aM f;exact⟨⟨λm b=>h.er m (List.mem_of_mem_take b),h.er n e,by have:=h.bO;simp;omega⟩,e⟩
def gN (c:Sc)(t:Tm):Prop:=∀u∈bh b8 t,(NA u.k=true->c.has u.s=true)/\(u.k=4->∃d,c.called u.s=some d/\d.nd.ah=u.ts.length)/\dJ u.k u.ts.length=true
theorem Jg {g:Tm->Bool}{a:List Tm}(ht:t∈a)(b:u∈bh g t):u∈cN g a:=by
 induction a with
 | nil=>simp at ht
 | cons x a d =>
   rw[cN];rcases cC.1 ht with rfl|ht
   . exact List.mem_append_left _ b
   exact List.mem_append_right _ (d ht)
theorem nL (g:Tm->Bool)(t:Tm):t∈bh g t:=by
 cases t with
 | mk k a s b n d=>rw[bh];simp
theorem gN.sub (h:gN c t)(b:u∈t.ts):gN c u:=by
 intro x d;refine h x ?_;cases t with
 | mk k a s e n f => rw[bh];refine cS _ ?_;rw[ag (show b8 _=true from rfl)];exact Jg b d
theorem xd:∀{a:List Tm} {i:Nat} {t:Tm},a[i]?=some t->dO c a i=MO c t:=by
 intro a;induction a with
 | nil=>intro i t h;simp at h
 | cons x a b =>
   intro i t h;cases i with
   | zero=>simp at h;subst h;rw[dO]
   | succ i=>rw[dO];exact b (by simpa using h)
theorem TT.arg {w:Xw}{m:Nat}{x:Xp}{n:Nat}{d:Xm}{i:Nat}(a:w.ownsRow 0 182 1 (.slice x m n) m d)(q:d.length=t.ts.length)(o:∀(i:Nat) (u:Tm) (x:Xv),t.ts[i]?=some u->d[i]?=some x->TT w N u x)(k:t.ts[i]?=some u):∃g b,x=some (xD g 0)/\xC w g i (xP b)/\TT w N u (xP b)/\b<N:=by have p:=(aB.1 k).1;have l:d[i]?=some d[i]:=av (by omega);obtain⟨g,rfl,j⟩:=nB a l;have f:=o i u _ k l;obtain⟨b,_,_,e,h,_⟩:=f.ptr;rw[e] at j f;exact⟨g,b,rfl,j,f,h⟩
theorem G7 {n:ay}(h:gP n):∃v,n.ak[n.ah]?=some v/\n.results[0]?=some v:=by have a:=h.io;have b:=h.aG;refine⟨n.ak[n.ah]'(by omega),av _,?_⟩;unfold ay.results;rw[List.getElem?_take,ag (by omega),List.getElem?_drop];simp
theorem nD {ev nv:Xv}(hc:eU c):∀(t:Tm) (v:Xv) (w:Xw),TT w N t v->br w N c ev nv->N<=w.heap.size->gN c t ->
 xK 171 #[.agg #[ev,nv],v] w (λe l=>e=.returned (xI (MO c t:Nat))/\xB w l):=by
 intro t;induction t using Tm.ind with
 | h k a s I n q b1 =>
   intro v w hT h hN hO;obtain⟨b,bL,b2,rfl,co,B,D,T,U,a9⟩:=hT.ptr;obtain⟨xa,K,rfl⟩:=zB D;have bp:=za h;obtain⟨P,m,O,rfl,rfl,cd⟩:=h.shape;have p:b2.length=q.length:=T;have L:=ze B;obtain⟨o1,o2,o3⟩:=hO _ (nL b8 _);have r:w.heap[b]?=some (.cells #[xI k,xI a,.string s,xI I,xI n,.slice xa q.length K] 226 (0,0)):=(by rw[<- p];exact B);have J:=za r;have E:w.ownsRow 0 182 1 (.slice xa q.length K) q.length b2:=(by rw[<- p];exact D);have a1:=za E;have S:=za U;have bE:=za hO;have a3:=za b1;have a2:=za a9;simp only[Tm.k,Tm.s,Tm.ts] at o1 o2 o3;obtain⟨h0,h1,h2,h3,h4,h5,hf,hz⟩:=zt r;have R:=za p;clear hT D h T p B E U hO b1 a9 r h1 h4 hf;have M:k=3∨k=4∨k=7∨k=8∨k=6∨k=5∨k=9∨k=0∨k=10∨k=19∨k=20∨k=21∨k=22∨k=23∨k=1∨k=2∨k=11∨k=12∨k=13∨k=14∨k=15∨k=16∨k=17∨k=18:=by
    have:k<=23:=by
     rcases Nat.lt_or_ge 23 k with h|h
     . exfalso;unfold dJ at o3;simp only[show ¬k<=3 by omega,show ¬k=4 by omega,show ¬k=5 by omega,show ¬k=6 by omega,show ¬k<=8 by omega,show ¬k=9 by omega,show ¬k<=11 by omega,show ¬k<=23 by omega,if_false] at o3;cases o3
     exact h
    omega
   have z:∀W,xB w W->br W N c (xE P c m) (xP O):=λW f=>bp.o.am (zm f hN);rcases M with rfl|rfl|rfl|rfl|rfl|rfl|rfl|rfl|rfl|rfl|rfl|rfl|rfl|rfl|rfl|rfl|rfl|rfl|rfl|rfl|rfl|rfl|rfl|rfl
   . have hh:=o1 rfl;go_enter func171,ntmps171;go_upto_region 3 with fail;refine zn (λW=>(xH W w.heap.size #[xE P c m,xP O] 216)/\xB w W) ⟨zc w _,zq w _⟩ ?_;rintro W ⟨F,f⟩;obtain⟨bC,s1,aV,sz⟩:=zp F;obtain⟨m0,m1,m2,m3,m4,m5,aL,bB⟩:=zt ((f.block b L).trans J.o);have Q:=za f;have aA:=f.size;have a0:=za (me s (I:Int) W.drew (z W.drew (zo f)) (by show N<=W.heap.size;omega) hh);clear F f m0 m1 m4 m5 aL aV
     go_region_held3 (λl=>l.cell? (xD w.heap.size 0)=some (xE P c m)/\l.cell? (xD w.heap.size 1)=some (xP O)/\l.cell? (xD b 2)=some (.string s)/\l.cell? (xD b 3)=some (xI I))
      (first|(with_reducible (refine⟨?_,?_,?_,?_⟩ <;> repeat (first|assumption|refine zg ?_|refine zj _ ?_|refine zk (by omega) ?_|refine zd i.o ?_ (by first|omega|(rw[au];omega)))))|go_keep)
      (first
        | (go_at_call 127;refine a0.o.mono ?_;rintro e w1 ⟨rfl,j⟩;have i:=za (zw j);clear j))
     all_goals go_wp2_with fail
     all_goals go_ret
     all_goals exact⟨by rw[MO];rfl,Q.o.trans (i.o.mono (by omega))⟩
   . obtain⟨d,a6,bv⟩:=o2 rfl;have x:=(hc.called a6).1.nd;go_enter func171,ntmps171;go_upto_region 5 with fail;refine zn (λW=>W.heap[w.heap.size]?=some (.cells #[xE P c m,xP O] 216 (0,0))/\xB w W) ⟨zc w _,zq w _⟩ ?_;rintro W ⟨F,f⟩;obtain⟨bC,s1,aV,sz⟩:=zp F;obtain⟨m0,m1,m2,m3,m4,m5,aL,bB⟩:=zt ((f.block b L).trans J.o);have Q:=za f;have aA:=f.size;have bl:=za (ji s (I:Int) W.drew (z W.drew (zo f)) (by show N<=W.heap.size;omega) hc.bO a6);have bo:=za (λo=>ji s (I:Int) (W.alloc o).drew (z _ (zo (f.alloc (by omega) o))) (by show N<=(W.alloc o).heap.size;simp;omega) hc.bO a6);clear F f m0 m1 m4 m5 aL aV
     go_region_held3 (λl=>l.cell? (xD w.heap.size 0)=some (xE P c m)/\l.cell? (xD w.heap.size 1)=some (xP O)/\l.cell? (xD b 2)=some (.string s)/\l.cell? (xD b 3)=some (xI I))
      (first|(with_reducible (refine⟨?_,?_,?_,?_⟩ <;> repeat (first|assumption|refine zg ?_|refine zj _ ?_|refine zk (by omega) ?_|refine zd i.o ?_ (by first|omega|(rw[au];omega)))))|go_keep)
      (first
        | (go_at_call 119;refine bl.o.mono ?_;rintro e w1 ⟨x2,X,n2,rfl,G,j⟩;have i:=za (zw j);have V:=za G;clear j G)
        | (go_at_call 119;refine (bo.o _).mono ?_;rintro e w1 ⟨x2,X,n2,rfl,G,j⟩;have i:=za (zw j);have V:=za G;obtain⟨cv,cz,cA,cB⟩:=zp ((i.o.block W.heap.size (by rw[au];omega)).trans (zc W _));clear j G))
     all_goals go_upto_region 6 with fail
     refine zn (ki w N d w1.heap.size n2 x2 X) (su Q.o i.o V.o hN) ?_;rotate_left;refine zn (ki w N d W.heap.size n2 x2 X) (ss Q.o i.o V.o hN) ?_
     all_goals
      rintro bK a4;obtain⟨t0,t1,cs,tz⟩:=zp a4.box;obtain⟨ck,cm,cl,cn,bs,C⟩:=a4.sc.nd;cases bs;obtain⟨v0,be,bg⟩:=G7 x;have b3:aa (MO c (.mk 4 a s I n q)=dv v0):=by
       unfold aa;rw[MO]
       show c.mP s=_;unfold Sc.mP;rw[a6]
       show ((d.nd.results[0]?).map dt).getD 0=_;rw[bg];rfl
      have b4:=za (rk bK C x.io (by have:=x.io;have:=x.aG;omega));obtain⟨ct,cb,rfl⟩:=zB C.bZ;obtain⟨bY,rfl,_,_,c2,_⟩:=hj C.bZ be;have cg:=C.jc bY rfl;have bt:=za a4.aH;have bA:=a4.aH.size;have ce:(0:Int)<(d.nd.aG:Int):=(by have:=x.aG;omega);have b0:0<d.nd.aG:=x.aG;have bq:xC bK bY (d.nd.ah*7+2) (xI (dv v0:Nat)):=c2;clear a4 C be bg c2 a6 bv x;go_wp2_with (go_at_call 88;refine b4.o.mono ?_;rintro e w3 ⟨g9,ca,bs,rfl,Y⟩;cases bs;have c3:=zd Y bq (by omega);have bk:=za Y;clear Y);go_ret;exact⟨by rw[b3.o];rfl,bt.out.trans (bk.o.mono bA)⟩
   iterate 3
    . have y:0<q.length:=(by simp[dJ] at o3;omega);obtain⟨u,H⟩:∃u,q[0]?=some u:=⟨_,av y⟩;obtain⟨g,ub,rfl,ab,A,bb⟩:=TT.arg (t:=.mk _ a s I n q) a1.o R.o S.o H;have bx:=a2.o g rfl;have Z:=bE.o.sub (t:=.mk _ a s I n q) (u:=u) (aM H);have ar:=xd (c:=c) H;go_enter func171,ntmps171;go_upto_region 10 with fail;refine zn (λW=>(xH W w.heap.size #[xE P c m,xP O] 216)/\xB w W) ⟨zc w _,zq w _⟩ ?_;rintro W ⟨F,f⟩;obtain⟨bC,s1,aV,sz⟩:=zp F;obtain⟨m0,m1,m2,m3,m4,m5,aL,bB⟩:=zt ((f.block b L).trans J.o);have Q:=za f;have aA:=f.size;have a5:=zd f ab (by omega);have a0:=za (a3.o u (aM H) (xP ub) W.drew (A.am (zm (zo f) hN)) (z W.drew (zo f)) (by show N<=W.heap.size;omega) Z);have ch:(0:Int)<(q.length:Int):=(by omega);clear F f m0 m1 m2 m3 m4 aL aV A H
      go_region_held3 (λl=>l.cell? (xD w.heap.size 0)=some (xE P c m)/\l.cell? (xD w.heap.size 1)=some (xP O)/\l.cell? (xD b 5)=some (xS g q.length K)/\l.cell? (xD g 0)=some (xP ub))
       (first|(with_reducible (refine⟨?_,?_,?_,?_⟩ <;> repeat (first|assumption|refine zg ?_|refine zj _ ?_|refine zk (by omega) ?_|refine zd i.o ?_ (by first|omega|(rw[au];omega)))))|go_keep)
       (first
         | (go_at_call 171;refine a0.o.mono ?_;rintro e w1 ⟨rfl,j⟩;have i:=za (zw j);clear j))
      all_goals go_wp2_with fail
      all_goals go_ret
      all_goals exact⟨by rw[MO];show Ending.returned (xI (MO c u:Nat))=Ending.returned (xI (dO c q 0:Nat));rw[ar],Q.o.trans (i.o.mono (by omega))⟩
   iterate 2
    . have y:1<q.length:=(by simp[dJ] at o3;omega);obtain⟨u,H⟩:∃u,q[1]?=some u:=⟨_,av y⟩;obtain⟨g,ub,rfl,ab,A,bb⟩:=TT.arg (t:=.mk _ a s I n q) a1.o R.o S.o H;have bx:=a2.o g rfl;have Z:=bE.o.sub (t:=.mk _ a s I n q) (u:=u) (aM H);have ar:=xd (c:=c) H;go_enter func171,ntmps171;go_upto_region 13 with fail;refine zn (λW=>(xH W w.heap.size #[xE P c m,xP O] 216)/\xB w W) ⟨zc w _,zq w _⟩ ?_;rintro W ⟨F,f⟩;obtain⟨bC,s1,aV,sz⟩:=zp F;obtain⟨m0,m1,m2,m3,m4,m5,aL,bB⟩:=zt ((f.block b L).trans J.o);have Q:=za f;have aA:=f.size;have a5:=zd f ab (by omega);have a0:=za (a3.o u (aM H) (xP ub) W.drew (A.am (zm (zo f) hN)) (z W.drew (zo f)) (by show N<=W.heap.size;omega) Z);have ch:(1:Int)<(q.length:Int):=(by omega);clear F f m0 m1 m2 m3 m4 aL aV A H
      go_region_held3 (λl=>l.cell? (xD w.heap.size 0)=some (xE P c m)/\l.cell? (xD w.heap.size 1)=some (xP O)/\l.cell? (xD b 5)=some (xS g q.length K)/\l.cell? (xD g 1)=some (xP ub))
       (first|(with_reducible (refine⟨?_,?_,?_,?_⟩ <;> repeat (first|assumption|refine zg ?_|refine zj _ ?_|refine zk (by omega) ?_|refine zd i.o ?_ (by first|omega|(rw[au];omega)))))|go_keep)
       (first
         | (go_at_call 171;refine a0.o.mono ?_;rintro e w1 ⟨rfl,j⟩;have i:=za (zw j);clear j))
      all_goals go_wp2_with fail
      all_goals go_ret
      all_goals exact⟨by rw[MO];show Ending.returned (xI (MO c u:Nat))=Ending.returned (xI (dO c q 1:Nat));rw[ar],Q.o.trans (i.o.mono (by omega))⟩
   all_goals
    go_enter func171,ntmps171;go_wp2_with fail;go_ret;exact⟨by rw[MO];rfl,zq _ _⟩
end
section
variable {N:Nat} {c:Sc} {d f:Xv} {w:Xw}
attribute [local go_sem ↓] Go.wp_at_zero Go.wp_at_succ
structure hn (w:Xw) (N:Nat) (ts:List Tm) (v:Xv):Prop where
 ex:∃a cp,v=.slice a ts.length cp/\ts.length<=cp/\cp<=9223372036854775807/\(ts≠[]->∃g o,a=some (xD g o)/\g<N/\∀i u,ts[i]?=some u->∃ub,w.cell? (xD g (o+i))=some (xP ub)/\TT w N u (xP ub))
theorem hn.am {w w':Xw}{k:List Tm}{v:Xv}(h:hn w N k v)(j:bV N w w'):hn w' N k v:=by obtain⟨a,l,m,n,p,q⟩:=h.ex;refine⟨a,l,m,n,p,λb=>?_⟩;obtain⟨g,o,r,e,s⟩:=q b;refine⟨g,o,r,e,λi u y=>?_⟩;obtain⟨z,t,x⟩:=s i u y;exact⟨z,(World.cell?_of_block (w:=w) (j g e)).trans t,x.am j⟩
theorem yp {t:Tm}{b:Xv}{j:Xm}(a:w.ownsRow 0 182 1 b j.length j)(r:j.length=t.ts.length)(C:∀(i:Nat) (u:Tm) (x:Xv),t.ts[i]?=some u->j[i]?=some x->TT w N u x)(B:∀g,b.ownBlock=some g->g<N):hn w N t.ts b:=by
 obtain⟨x,m,rfl⟩:=zB a;have n:j.length<=m/\m<=9223372036854775807:=by
  rcases a.2 with ⟨e,h⟩|⟨g,l,v,k,_,_,z,A,_⟩
  . simp only[Value.slice.injEq] at e;omega
  cases k;unfold maxLen at A;exact⟨z,by omega⟩
 refine⟨x,m,by rw[r],by omega,n.2,λo=>?_⟩;have y:0<j.length:=by rw[r];exact List.length_pos_iff.2 o
 obtain⟨g,l,k,_⟩:=zM a y;cases k;refine⟨g,0,rfl,B g rfl,λi u s=>?_⟩;have E:=(aB.1 s).1;have k:j[i]?=some j[i]:=av (by omega);have q:=r5 a k;have p:=C i u _ s k;obtain⟨D,_,_,e,_⟩:=p.ptr;rw[e] at q p;exact⟨D,by rw[Nat.zero_add];exact q,p⟩
theorem H3 (c:Sc)(a:Nat)(t:Tm)(l:List Tm):eV c a (t::l)=(MO c t==a&&eV c a l):=rfl
theorem rZ (M:eU c)(h:Nat)(a:List Tm)(v:Xv)(w:Xw)(E:hn w N a v)(p:br w N c d f)(I:N<=w.heap.size)(J:∀t∈a,gN c t) :
 xK 172 #[.agg #[d,f],xI h,v] w (λe Y=>e=.returned (.bool (eV c h a))/\xB w Y):=by
 obtain⟨x,ar,rfl,O,T,_⟩:=E.ex;obtain⟨ab,s,V,rfl,rfl,U⟩:=p.shape;go_enter func172,ntmps172;go_wp2_with fail;go_loopg [11] (a.length+1) (λj i wr=>∃k:Nat,k+j=a.length+1/\k<=a.length/\i=xI k/\aa (eV c h (a.drop k)=eV c h a)/\aa (xH wr w.heap.size #[xE ab c s,xP V] 216)/\aa (xB w wr));case atStart=>exact⟨0,by omega,aE _,rfl,rfl,zc w _,zq w _⟩
 case round =>
  obtain⟨k,S,aA,rfl,F,H,m⟩:=hrel;obtain⟨aL,s1,aV,W⟩:=zp H.o;by_cases n:k<a.length
  . obtain⟨t,D⟩:∃t,a[k]?=some t:=⟨_,av n⟩;obtain⟨x',K,u,_,_,A⟩:=(E.am (zm m.o I)).ex;cases u;obtain⟨g,o,rfl,R,z⟩:=A (by intro e;rw[e] at n;simp at n);obtain⟨X,P,y⟩:=z k t D;have G:=za (nD M t (xP X) wr y (p.am (zm m.o I)) (by have:=m.o.size;omega) (J t (aM D)));have Q:a.drop k=t::a.drop (k+1):=by obtain⟨u,L⟩:=aB.1 D;rw[dE u,L]
    have q:=F.o;rw[Q,H3] at q;have r:=m.o.size;by_cases B:MO c t=h
    . have C:((MO c t:Int) != (h:Int))=false:=(by simp[B]);have b:aa (eV c h (a.drop (k+1))=eV c h a):=(by unfold aa;rw[<- q];simp[B]);go_wp2_with (go_at_call 171;refine G.o.mono ?_;rintro e Z ⟨rfl,l⟩);go_roundg (gk-1);case measure=>omega
      exact⟨k+1,by omega,by omega,by go_num,b.o,(l.block _ W).trans H.o,m.o.trans (l.mono r)⟩
    have C:((MO c t:Int) != (h:Int))=true:=(by simp;omega);have b:aa (eV c h a=false):=(by unfold aa;rw[<- q];simp[B]);go_wp2_with (go_at_call 171;refine G.o.mono ?_;rintro e Z ⟨rfl,l⟩);go_ret;exact⟨by rw[b.o];rfl,m.o.trans (l.mono r)⟩
  have q:eV c h a=true:=by rw[<- F.o,List.drop_of_length_le (by omega)];rfl
  have b:=za q;go_wp2_with fail;go_ret;exact⟨by rw[b.o];rfl,m.o⟩
theorem yw (a b:Nat):Ending.returned (.bool ((a:Int)==(b:Int)))=Ending.returned (.bool (a==b)):=by
 have:((a:Int)==(b:Int))=(a==b):=by rw[Bool.eq_iff_iff];simp;omega
 rw[this]
theorem rE (E:eU c)(t1 t2:Tm)(b:List Tm)(v:Xv)(w:Xw)(S:hn w N (t1::t2::b) v)(i:br w N c d f)(r:N<=w.heap.size)(A:gN c t1)(B:gN c t2) :
 xK 173 #[.agg #[d,f],v] w (λe j=>e=.returned (.bool (gp c (t1::t2::b)))/\xB w j):=by
 obtain⟨x,ar,rfl,T,V,C⟩:=S.ex;obtain⟨g,o,rfl,U,n⟩:=C (by simp);obtain⟨H,D,M⟩:=n 0 t1 rfl;obtain⟨I,Q,O⟩:=n 1 t2 rfl;obtain⟨K,l,G,rfl,rfl,X⟩:=i.shape;have u:=za (λW (a:xB w W)=>nD E t1 (xP H) W (M.am (zm a r)) (i.am (zm a r)) (by have:=a.size;omega) A);have y:=za (λW (a:xB w W)=>nD E t2 (xP I) W (O.am (zm a r)) (i.am (zm a r)) (by have:=a.size;omega) B);have L:aa (gp c (t1::t2::b)=(MO c t1==MO c t2)):=by unfold aa gp;rw[dO,dO,dO]
 have p:g<w.heap.size:=by omega
 rw[Nat.add_zero] at D;generalize MO c t1=Z at *;generalize MO c t2=ab at *;have a0:((xD g o):Addr).add 0=⟨g,o,none⟩:=by simp[Addr.add]
 have a1:((xD g o):Addr).add 1=⟨g,o+1,none⟩:=by simp[Addr.add]
 have n0:0<(t1::t2::b).length:=by simp
 have n1:1<(t1::t2::b).length:=by simp
 have aA:(0:Int)<((t1::t2::b).length:Int):=by simp;omega
 have l1:(1:Int)<((t1::t2::b).length:Int):=by simp;omega
 generalize (t1::t2::b).length=nn at *;go_enter func173,ntmps173;go_upto_region 1 with fail;refine zn (λW=>(xH W w.heap.size #[xE K c l,xP G] 216)/\xB w W) ⟨zc w _,zq w _⟩ ?_;rintro W ⟨Y,a⟩;obtain⟨aL,s1,aV,sz⟩:=zp Y;have P:=zd a D p;have R:=zd a Q p;have q:=a.size;have s:=za (u.o W.drew (zo a))
 go_region_held3 (λj=>j.cell? (xD w.heap.size 0)=some (xE K c l)/\j.cell? (xD w.heap.size 1)=some (xP G)/\j.cell? (xD g o)=some (xP H)/\j.cell? (xD g (o+1))=some (xP I))
  (first|(with_reducible (refine⟨?_,?_,?_,?_⟩ <;> repeat (first|assumption|refine zg ?_|refine zj _ ?_|refine zk (by omega) ?_|refine zd k.o ?_ (by first|omega|(rw[au];omega))|refine zd h.o ?_ (by first|omega|(rw[au];omega)))))|go_keep)
  (first
    | (go_at_call 171;refine t.o.mono ?_;rintro e w2 ⟨rfl,z⟩;have k:=za z)
    | (go_at_call 171;refine s.o.mono ?_;rintro e J ⟨rfl,m⟩;have h:=za (zw m);(have F:W.heap.size<=J.heap.size:=m.size);have t:=za (y.o J (a.trans (h.o.mono q)))))
 all_goals go_wp2_with fail
 all_goals go_ret
 all_goals exact⟨by rw[L.o];exact yw Z ab,(a.trans (h.o.mono q)).trans (k.o.mono (by omega))⟩
end
section
variable {N k:Nat} {c:Sc} {t:Tm} {v:Xv}
attribute [local go_sem ↓] Go.wp_at_zero Go.wp_at_succ
theorem yI {n:Nat}(h:dJ k n=true):k<=23:=by
 rcases Nat.lt_or_ge 23 k with h'|h'
 . exfalso;unfold dJ at h;simp only[show ¬k<=3 by omega,show ¬k=4 by omega,show ¬k=5 by omega,show ¬k=6 by omega,show ¬k<=8 by omega,show ¬k=9 by omega,show ¬k<=11 by omega,show ¬k<=23 by omega,if_false] at h;cases h
 exact h'
theorem IK (w:Xw)(h:TT w N t v)(B:dJ t.k t.ts.length=true) :
 xK 174 #[v] w (λe K=>e=.returned (.bool (gq t))/\w=K):=by
 obtain⟨b,A,Z,rfl,U,m,d,f,o,_⟩:=h.ptr;obtain⟨P,Q,R,S,T,G,V,W⟩:=zt m;obtain⟨k,a,s,z,n,i⟩:=t;simp only[Tm.k,Tm.ts] at *;have F:=yI B;by_cases l:k=10
 . subst l;have C:0<i.length:=by simp[dJ] at B;omega
   obtain⟨u,r⟩:∃u,i[0]?=some u:=⟨_,av C⟩;obtain⟨xa,E,rfl⟩:=zB d;rw[f] at G d;obtain⟨g,Y,rfl,I,q,_⟩:=TT.arg (t:=.mk 10 a s z n i) d f o r;obtain⟨_,_,_,e,_,y,_⟩:=q.ptr;cases e;obtain⟨X,_⟩:=zt y;have J:gq (.mk 10 a s z n i)=(u.k==0):=by
    unfold gq;cases i with
    | nil=>simp at C
    | cons x i=>simp at r;subst r;simp[Tm.k,Tm.ts]
   have p:=za J;generalize u.k=D at *;by_cases j:D=0
   . subst j;go_enter func174,ntmps174;go_wp2_with fail;go_ret;exact⟨by rw[p.o];rfl,rfl⟩
   have d0:((D:Int)==0)=false:=(by simp;omega);go_enter func174,ntmps174;go_wp2_with fail;go_ret;exact⟨by rw[p.o];simp[j],rfl⟩
 have H:k=0∨k=1∨k=2∨(k≠0/\k≠1/\k≠2):=by omega
 rcases H with rfl|rfl|rfl|⟨L,M,O⟩
 . go_enter func174,ntmps174;go_wp2_with fail;go_ret;exact⟨rfl,rfl⟩
 . go_enter func174,ntmps174;go_wp2_with fail;go_ret;exact⟨rfl,rfl⟩
 . go_enter func174,ntmps174;go_wp2_with fail;go_ret;exact⟨rfl,rfl⟩
 have d1:((k:Int)==0)=false:=by simp;omega
 have d2:((k:Int)==1)=false:=by simp;omega
 have d3:((k:Int)==2)=false:=by simp;omega
 have d4:((k:Int)==10)=false:=by simp;omega
 have p:aa (gq (.mk k a s z n i)=false):=by unfold aa gq;exact (ae (show ¬(k=0∨k=1∨k=2) by omega)).trans (ae (show ¬k=10 from l))
 go_enter func174,ntmps174;go_wp2_with fail;go_ret;exact⟨by rw[p.o];rfl,rfl⟩
def j3 (k:Nat):Bool:=NA k&&k != 3
theorem Hs (w:Xw)(h:TT w N t v) :
 xK 130 #[v] w (λe m=>e=.returned (.bool (j3 t.k))/\w=m):=by
 have a:=za (rq w h);obtain⟨b,j,z,rfl,u,f,_⟩:=h.ptr;obtain⟨n,o,p,q,r,s,x,y⟩:=zt f;generalize t.k=k at *;cases g:NA k with
 | false => rw[g] at a;have i:aa (j3 k=false):=(by unfold aa j3;rw[g];rfl);go_enter func130,ntmps130;go_wp2_with (go_at_call 124;refine a.o.mono ?_;rintro e l ⟨rfl,rfl⟩);go_ret;exact⟨by rw[i.o];rfl,rfl⟩
 | true =>
   rw[g] at a;by_cases d:k=3
   . subst d;go_enter func130,ntmps130;go_wp2_with (go_at_call 124;refine a.o.mono ?_;rintro e l ⟨rfl,rfl⟩);go_ret;exact⟨rfl,rfl⟩
   have d1:((k:Int) != 3)=true:=(by simp;omega);have i:aa (j3 k=true):=(by unfold aa j3;rw[g];simp[d]);go_enter func130,ntmps130;go_wp2_with (go_at_call 124;refine a.o.mono ?_;rintro e l ⟨rfl,rfl⟩);go_ret;exact⟨by rw[i.o];rfl,rfl⟩
theorem GN {a:List Tm}{b:List Vr}{v:Vr}(h:a[k]?=some t)(i:b[k]?=some v):gF c (a.drop k) (b.drop k)=if (MO c t != dt v)=true then false else gF c (a.drop (k+1)) (b.drop (k+1)):=by obtain⟨d,e⟩:=aB.1 h;obtain⟨f,g⟩:=aB.1 i;rw[dE d,dE f,e,g];rfl
theorem Iq {d:Sc}{ev nv:Xv}(U:eU c)(t:Tm)(v:Xv)(w:Xw)(hT:TT w N t v)(D:br w N c ev nv)(Q:N<=w.heap.size)(bl:gN c t)(aV:c.called t.s=some d)(bv:d.nd.ah=t.ts.length) :
 xK 175 #[.agg #[ev,nv],v] w (λe h=>e=.returned (.bool (gF c t.ts d.nd.ak))/\xB w h):=by
 obtain⟨b,be,cK,rfl,cg,q,A,z,S,a0⟩:=hT.ptr;have F:=(U.called aV).1.nd;have X:=za (yp A z S a0);obtain⟨xa,bp,rfl⟩:=zB A;obtain⟨J,m,I,rfl,rfl,bL⟩:=D.shape;have R:=ze q;rw[z] at q X;have bC:=F.io;have b0:=F.aG;have bx:=F.bO;go_enter func175,ntmps175;go_upto_region 1 with fail;refine zn (λW=>W.heap[w.heap.size]?=some (.cells #[xE J c m,xP I] 216 (0,0))/\xB w W) ⟨zc w _,zq w _⟩ ?_;rintro W ⟨ar,s⟩;obtain⟨cA,s1,cB,sz⟩:=zp ar;obtain⟨m0,m1,m2,m3,m4,m5,co,cs⟩:=zt ((s.block b R).trans q);have b1:=s.size;have M:∀W,xB w W->br W N c (xE J c m) (xP I):=λW s=>D.am (zm s Q);have Y:=za (ji t.s (t.nm:Int) W.drew (M W.drew (zo s)) (by show N<=W.heap.size;omega) U.bO aV);have Z:=za (λo=>ji t.s (t.nm:Int) (W.alloc o).drew (M _ (zo (s.alloc (by omega) o))) (by show N<=(W.alloc o).heap.size;simp;omega) U.bO aV)
 go_region_held3 (λh=>h.cell? (xD w.heap.size 0)=some (xE J c m)/\h.cell? (xD w.heap.size 1)=some (xP I)/\h.cell? (xD b 2)=some (.string t.s)/\h.cell? (xD b 3)=some (xI t.nm))
  (first|(with_reducible (refine⟨?_,?_,?_,?_⟩ <;> repeat (first|assumption|refine zg ?_|refine zj _ ?_|refine zk (by omega) ?_|refine zd a.o ?_ (by first|omega|(rw[au];omega)))))|go_keep)
  (first
    | (go_at_call 119;refine Y.o.mono ?_;rintro e w1 ⟨x2,E,B,rfl,H,n⟩;have a:=za (zw n);have f:=za H)
    | (go_at_call 119;refine (Z.o _).mono ?_;rintro e w1 ⟨x2,E,B,rfl,H,n⟩;have a:=za (zw n);have f:=za H;obtain⟨cR,V,c0,c1⟩:=zp ((a.o.block W.heap.size (by rw[au];omega)).trans (zc W _))))
 all_goals go_upto_region 2 with fail
 refine zn (λx=>ki w N d w1.heap.size B x2 E x/\xH x w.heap.size #[xE J c m,xP I] 216) ⟨su s a.o f.o Q,(Below.heap_alloc _ _ _ (by have:=a.o.size;omega)).trans ((a.o.block _ sz).trans ar)⟩ ?_;generalize w1.heap.size=wz;rotate_left;refine zn (λx=>ki w N d W.heap.size B x2 E x/\xH x w.heap.size #[xE J c m,xP I] 216) ⟨ss s a.o f.o Q,(zr (by omega) rfl).trans ((zr (by omega) rfl).trans ((a.o.block _ (by rw[au];omega)).trans ((Below.heap_alloc _ _ _ sz).trans ar)))⟩ ?_;generalize W.heap.size=wz
 all_goals
  rintro x ⟨L,ab⟩;obtain⟨t0,t1,cE,tz⟩:=zp L.box;obtain⟨p0,b3,ct,bk⟩:=zp ab;obtain⟨k0,ck,cl,cm,k4,cn,kf,kz⟩:=zt ((L.aH.block b R).trans q);have a6:=L.aH.size;obtain⟨b2,ca,b4,cb,bq,C⟩:=L.sc.nd;cases bq;obtain⟨cO,O,rfl⟩:=zB C.bZ;have bK:=C.lo;obtain⟨_,_,P,_,bs,_⟩:=X.o.ex;simp only[Value.slice.injEq] at P;obtain⟨rfl,_,rfl⟩:=P;go_wp2_with fail;go_loopg [24] (t.ts.length+1) (λj i wr=>∃k:Nat,k+j=t.ts.length+1/\k<=t.ts.length/\i=xI k/\aa (gF c (t.ts.drop k) (d.nd.ak.drop k)=gF c t.ts d.nd.ak)/\aa (xB x wr));case atStart=>exact⟨0,by omega,aE _,rfl,rfl,Below.refl _ _⟩
  case round =>
   obtain⟨k,bE,ch,rfl,a9,l⟩:=hrel;have r:xB w wr:=L.aH.trans (l.o.mono a6);have a5:=l.o.size;by_cases G:k<t.ts.length
   . obtain⟨u,hu⟩:∃u,t.ts[k]?=some u:=⟨_,av G⟩;obtain⟨v,hv⟩:∃v,d.nd.ak[k]?=some v:=⟨_,av (by omega)⟩;obtain⟨x',bo,P,_,_,a1⟩:=(X.o.am (zm r Q)).ex;simp only[Value.slice.injEq] at P;obtain⟨rfl,_,rfl⟩:=P;obtain⟨g,o,rfl,bA,aL⟩:=a1 (by intro e;rw[e] at G;simp at G);obtain⟨ub,bt,aA⟩:=aL k u hu;have p:=C.am (zm l.o (by omega:N<=x.heap.size));obtain⟨K,rfl,_,_,c2,_⟩:=hj p.bZ hv;have bB:=p.jc K rfl;obtain⟨q0,cv,q2,q3,q4,q5,qf,cz⟩:=zt p.aC;have cd:=zd l.o p0 bk;have ce:=zd l.o b3 bk;have d1:=zd l.o t1 tz;have bb:=za (nD U u (xP ub) wr.drew (aA.am (λ_ _=>rfl)) (D.am (w':=wr.drew) (zm (zo r) Q)) (by show N<=wr.heap.size;omega) (bl.sub (aM hu)));have y:=GN (c:=c) hu hv;rw[a9.o] at y;have i0:(0:Int)<=(k:Int):=(by omega);have i1:(k:Int)<(d.nd.ak.length:Int):=(by omega);have a4:dt v=dv v:=rfl;rw[a4] at y;have bg:K<wr.heap.size:=(by omega);have bY:B<wr.heap.size:=(by omega);generalize MO c u=V at *;generalize dv v=T at *;by_cases a2:V=T
     . have a3:((V:Int) != (T:Int))=false:=(by simp[a2]);rw[ae (by simp[a2])] at y;have f:=za y;go_upto_region 5 with fail
       go_region_held3 (λh=>h.cell? (xD w.heap.size 0)=some (xE J c m)/\h.cell? (xD w.heap.size 1)=some (xP I)/\h.cell? (xD wz 1)=some (xP B)/\h.cell? (xD B 2)=some (xS K d.nd.ak.length O)/\h.cell? (xD K (k*7+2))=some (xI T))
        (first|(with_reducible (refine⟨?_,?_,?_,?_,?_⟩ <;> repeat (first|assumption|refine zg ?_|refine zj _ ?_|refine zk (by omega) ?_|refine zd a.o ?_ (by first|omega|(rw[au];omega)))))|go_keep)
        (first
          | (go_at_call 171;refine bb.o.mono ?_;rintro e w8 ⟨rfl,n⟩;have a:=za (zw n)))
       all_goals go_wp2_with fail
       all_goals
        go_roundg (gk-1);case measure=>omega
        exact⟨k+1,by omega,by omega,by go_num,f.o.symm,l.o.trans (a.o.mono a5)⟩
     have a3:((V:Int) != (T:Int))=true:=(by simp;omega);rw[ag (by simp[a2])] at y;have f:=za y;go_upto_region 5 with fail
     go_region_held3 (λh=>h.cell? (xD w.heap.size 0)=some (xE J c m)/\h.cell? (xD w.heap.size 1)=some (xP I)/\h.cell? (xD wz 1)=some (xP B)/\h.cell? (xD B 2)=some (xS K d.nd.ak.length O)/\h.cell? (xD K (k*7+2))=some (xI T))
      (first|(with_reducible (refine⟨?_,?_,?_,?_,?_⟩ <;> repeat (first|assumption|refine zg ?_|refine zj _ ?_|refine zk (by omega) ?_|refine zd a.o ?_ (by first|omega|(rw[au];omega)))))|go_keep)
      (first
        | (go_at_call 171;refine bb.o.mono ?_;rintro e w8 ⟨rfl,n⟩;have a:=za (zw n)))
     all_goals go_wp2_with fail
     all_goals go_ret
     all_goals exact⟨by rw[f.o];rfl,r.trans (a.o.mono (by omega))⟩
   have y:gF c t.ts d.nd.ak=true:=(by rw[<- a9.o,List.drop_of_length_le (by omega)];rfl);have f:=za y;go_wp2_with fail;go_ret;exact⟨by rw[f.o];rfl,r⟩
end
section
variable {j:List Tm} {N l n:Nat} {w:Xw}
attribute [local go_sem ↓] Go.wp_at_zero Go.wp_at_succ
theorem hn.cut {a:Xp}(h:hn w N j (.slice a n l)){k:Nat}(z:k<=j.length):hn w N (j.take k) (.slice a k l):=by
 obtain⟨x,f,m,y,p,q⟩:=h.ex;cases m;have v:(j.take k).length=k:=by simp;omega
 refine⟨a,l,by rw[v],by omega,p,λc=>?_⟩;have d:j≠[]:=by intro e;subst e;simp at c
 obtain⟨g,o,r,s,t⟩:=q d;refine⟨g,o,r,s,λi u b=>t i u ?_⟩;rw[List.getElem?_take] at b;split at b
 . exact b
 cases b
theorem nA {f:FuncId}{a:Xa}{v:Xv}(h:xK f a (w.drewN n) (λe b=>e=.returned v/\w.drewN n=b)):xK f a (w.drewN n) (λe b=>e=.returned v/\∃m,b=w.drewN m):=h.mono λ_ _ h=>⟨h.1,n,h.2.symm⟩
theorem hn.rest {t:Tm}{g o:Nat}(h:hn w N (t::j) (.slice (some (xD g o)) n l)):hn w N j (.slice (some (xD g (o+1))) j.length (l-1)):=by obtain⟨v,a,b,c,y,d⟩:=h.ex;cases b;simp only[bJ] at c;refine⟨_,l-1,rfl,by omega,by omega,λr=>?_⟩;obtain⟨x,z,e,f,k⟩:=d (by simp);cases e;refine⟨g,o+1,rfl,f,λi u q=>?_⟩;obtain⟨s,m,p⟩:=k (i+1) u (by simpa using q);exact⟨s,by rw[show o+1+i=o+(i+1) by omega];exact m,p⟩
theorem Hi {c:Sc}{ev nv:Xv}(hc:eU c)(t:Tm)(v:Xv)(w:Xw)(a9:TT w N t v)(x:br w N c ev nv)(Y:N<=w.heap.size)(bk:gN c t) :
 xK 131 #[.agg #[ev,nv],v] w (λe z=>e=.returned (.bool (c.operands t))/\xB w z):=by
 obtain⟨b,bB,b3,rfl,cd,ab,aA,ar,bg,bx⟩:=a9.ptr;have bp:=yp aA ar bg bx;obtain⟨xa,m,rfl⟩:=zB aA;obtain⟨J,y,I,rfl,rfl,b1⟩:=x.shape;have E:=ze ab;obtain⟨o1,o2,o3⟩:=bk _ (nL b8 _);obtain⟨k,a,s,nm,n,j⟩:=t;have R:b3.length=j.length:=ar;have Q:w.heap[b]?=some (.cells #[xI k,xI a,.string s,xI nm,xI n,.slice xa j.length m] 226 (0,0)):=by rw[<- R];exact ab
 have D:=za Q;have T:hn w N j (.slice xa j.length m):=by rw[<- R];exact bp
 have B:∀u∈j,gN c u:=λu hu=>bk.sub hu;simp only[Tm.k,Tm.s,Tm.ts] at o1 o2 o3;have bY:=yI o3;obtain⟨h0,h1,h2,h3,h4,h5,hf,hz⟩:=zt Q;have b0:j.length<=m/\m<=9223372036854775807:=by obtain⟨_,_,e,h2,h3,_⟩:=T.ex;cases e;exact⟨h2,h3⟩
 have G:∀W,xB w W->br W N c (xE J c y) (xP I):=λW h=>x.am (zm h Y);have Z:(k=10∨k=17∨k=18∨k=19∨k=20∨k=21∨k=22∨k=23)∨(k=11∨k=12∨k=13∨k=14)∨(k=15∨k=16∨k=6)∨k=5∨k=9∨k=4∨(k=0∨k=1∨k=2∨k=3∨k=7∨k=8):=by omega
 rcases Z with hk|hk|hk|rfl|rfl|rfl|hk
 . rcases hk with rfl|rfl|rfl|rfl|rfl|rfl|rfl|rfl
   all_goals
    go_enter func131,ntmps131;go_upto_region 10 with fail;refine zn (λW=>(xH W w.heap.size #[xE J c y,xP I] 216)/\xB w W) ⟨zc w _,zq w _⟩ ?_;rintro W ⟨H,h⟩;obtain⟨a5,s1,a6,sz⟩:=zp H;obtain⟨m0,m1,m2,m3,m4,m5,a3,a4⟩:=zt ((h.block b E).trans D.o);have C:=h.size;have aL:=za (rZ hc 0 j (.slice xa j.length m) W.drew (T.am (zm (zo h) Y)) (G W.drew (zo h)) (by show N<=W.heap.size;omega) B)
    go_region_held3 (λz=>z.cell? (xD w.heap.size 0)=some (xE J c y)/\z.cell? (xD w.heap.size 1)=some (xP I)/\z.cell? (xD b 5)=some (.slice xa j.length m))
     (first|(with_reducible (refine⟨?_,?_,?_⟩ <;> repeat (first|assumption|refine zg ?_|refine zj _ ?_|refine zk (by omega) ?_|refine zd p.o ?_ (by first|omega|(rw[au];omega)))))|go_keep)
     (first
       | (go_at_call 172;refine aL.o.mono ?_;rintro e w1 ⟨rfl,A⟩;have p:=za (zw A)))
    all_goals go_wp2_with fail
    all_goals go_ret
    all_goals exact⟨by rfl,h.trans (p.o.mono (by omega))⟩
 . rcases hk with rfl|rfl|rfl|rfl
   all_goals
    go_enter func131,ntmps131;go_upto_region 15 with fail;refine zn (λW=>(xH W w.heap.size #[xE J c y,xP I] 216)/\xB w W) ⟨zc w _,zq w _⟩ ?_;rintro W ⟨H,h⟩;obtain⟨a5,s1,a6,sz⟩:=zp H;obtain⟨m0,m1,m2,m3,m4,m5,a3,a4⟩:=zt ((h.block b E).trans D.o);have C:=h.size;have aL:=za (rZ hc 1 j (.slice xa j.length m) W.drew (T.am (zm (zo h) Y)) (G W.drew (zo h)) (by show N<=W.heap.size;omega) B)
    go_region_held3 (λz=>z.cell? (xD w.heap.size 0)=some (xE J c y)/\z.cell? (xD w.heap.size 1)=some (xP I)/\z.cell? (xD b 5)=some (.slice xa j.length m))
     (first|(with_reducible (refine⟨?_,?_,?_⟩ <;> repeat (first|assumption|refine zg ?_|refine zj _ ?_|refine zk (by omega) ?_|refine zd p.o ?_ (by first|omega|(rw[au];omega)))))|go_keep)
     (first
       | (go_at_call 172;refine aL.o.mono ?_;rintro e w1 ⟨rfl,A⟩;have p:=za (zw A)))
    all_goals go_wp2_with fail
    all_goals go_ret
    all_goals exact⟨by rfl,h.trans (p.o.mono (by omega))⟩
 . rcases hk with rfl|rfl|rfl
   all_goals
    obtain⟨t1,t2,f,rfl⟩:∃t1 t2 f,j=t1::t2::f:=by
     rcases j with _|⟨t1,_|⟨t2,f⟩⟩
     . simp[dJ] at o3
     . simp[dJ] at o3
     exact⟨t1,t2,f,rfl⟩
    go_enter func131,ntmps131;go_upto_region 19 with fail;refine zn (λW=>W.heap[w.heap.size]?=some (.cells #[xE J c y,xP I] 216 (0,0))/\xB w W) ⟨zc w _,zq w _⟩ ?_;rintro W ⟨H,h⟩;obtain⟨a5,s1,a6,sz⟩:=zp H;obtain⟨m0,m1,m2,m3,m4,m5,a3,a4⟩:=zt ((h.block b E).trans D.o);have C:=h.size;have aL:=za (rE hc t1 t2 f (.slice xa (t1::t2::f).length m) W.drew (T.am (zm (zo h) Y)) (G W.drew (zo h)) (by show N<=W.heap.size;omega) (B t1 (by simp)) (B t2 (by simp)));generalize be:(t1::t2::f).length=nn at *
    go_region_held3 (λz=>z.cell? (xD w.heap.size 0)=some (xE J c y)/\z.cell? (xD w.heap.size 1)=some (xP I)/\z.cell? (xD b 5)=some (.slice xa nn m))
     (first|(with_reducible (refine⟨?_,?_,?_⟩ <;> repeat (first|assumption|refine zg ?_|refine zj _ ?_|refine zk (by omega) ?_|refine zd p.o ?_ (by first|omega|(rw[au];omega)))))|go_keep)
     (first
       | (go_at_call 173;refine aL.o.mono ?_;rintro e w1 ⟨rfl,A⟩;have p:=za (zw A)))
    all_goals go_wp2_with fail
    all_goals go_ret
    all_goals exact⟨by rfl,h.trans (p.o.mono (by omega))⟩
 . obtain⟨t1,t2,t3,f,rfl⟩:∃t1 t2 t3 f,j=t1::t2::t3::f:=by
    rcases j with _|⟨t1,_|⟨t2,_|⟨t3,f⟩⟩⟩
    . simp[dJ] at o3
    . simp[dJ] at o3
    . simp[dJ] at o3
    exact⟨t1,t2,t3,f,rfl⟩
   obtain⟨b4,bl,bo,_,_,a2⟩:=T.ex;cases bo;obtain⟨g,o,rfl,bv,_⟩:=a2 (by simp);have M:aa (c.operands (.mk 5 a s nm n (t1::t2::t3::f))=(eV c 1 [t1]&&gp c (t2::t3::f))):=rfl;have bL:=za T.rest;have bK:=za (T.cut (k:=1) (by simp));have V:=za (λW (h:xB w W)=>rZ hc 1 [t1] (.slice (some (xD g o)) 1 m) W (bK.o.am (zm h Y)) (G W h) (by have:=h.size;omega) (λu hu=>B u (by simp at hu;simp[hu])));have U:=za (λW (h:xB w W)=>rE hc t2 t3 f (.slice (some (xD g (o+1))) (t2::t3::f).length (m-1)) W (bL.o.am (zm h Y)) (G W h) (by have:=h.size;omega) (B t2 (by simp)) (B t3 (by simp)));have bA:(t2::t3::f).length=(t1::t2::t3::f).length-1:=(by simp);rw[bA] at U;have n3:3<=(t1::t2::t3::f).length:=(by simp);generalize be:(t1::t2::t3::f).length=nn at *;have b2:(1:Int)<=(nn:Int):=(by omega);have ce:(1:Int)<=(m:Int):=(by omega);have cg:¬(m=1):=(by omega);have ch:¬((m:Int)=1):=(by omega);have cb:((xD g o):Addr).add 1=⟨g,o+1,none⟩:=(by simp[Addr.add]);cases P:eV c 1 [t1] with
   | true =>
     rw[P] at M V;go_enter func131,ntmps131;go_upto_region 21 with fail;refine zn (λW=>(xH W w.heap.size #[xE J c y,xP I] 216)/\xB w W) ⟨zc w _,zq w _⟩ ?_;rintro W ⟨H,h⟩;obtain⟨a5,s1,a6,sz⟩:=zp H;obtain⟨m0,m1,m2,m3,m4,m5,a3,a4⟩:=zt ((h.block b E).trans D.o);have C:=h.size;have F:=za (V.o W.drew (zo h))
     go_region_held3 (λz=>z.cell? (xD w.heap.size 0)=some (xE J c y)/\z.cell? (xD w.heap.size 1)=some (xP I)/\z.cell? (xD b 5)=some (.slice (some (xD g o)) nn m))
      (first|(with_reducible (refine⟨?_,?_,?_⟩ <;> repeat (first|assumption|refine zg ?_|refine zj _ ?_|refine zk (by omega) ?_|refine zd L.o ?_ (by first|omega|(rw[au];omega))|refine zd p.o ?_ (by first|omega|(rw[au];omega)))))|go_keep)
      (first
        | (go_at_call 173;refine aV.o.mono ?_;rintro e w2 ⟨rfl,a0⟩;have L:=za a0)
        | (go_at_call 172;refine F.o.mono ?_;rintro e w1 ⟨rfl,A⟩;have p:=za (zw A);(have bE:W.heap.size<=w1.heap.size:=A.size);have aV:=za (U.o w1 (h.trans (p.o.mono C)))))
     all_goals go_wp2_with fail
     all_goals go_ret
     all_goals exact⟨by rw[M.o];rfl,(h.trans (p.o.mono C)).trans (L.o.mono (by omega))⟩
   | false =>
     rw[P] at M V;go_enter func131,ntmps131;go_upto_region 21 with fail;refine zn (λW=>(xH W w.heap.size #[xE J c y,xP I] 216)/\xB w W) ⟨zc w _,zq w _⟩ ?_;rintro W ⟨H,h⟩;obtain⟨a5,s1,a6,sz⟩:=zp H;obtain⟨m0,m1,m2,m3,m4,m5,a3,a4⟩:=zt ((h.block b E).trans D.o);have C:=h.size;have F:=za (V.o W.drew (zo h));refine wp_region_noPanic ?_;refine wp_region_held_drew (S:=(λz=>z.cell? (xD w.heap.size 0)=some (xE J c y)/\z.cell? (xD w.heap.size 1)=some (xP I)/\z.cell? (xD b 5)=some (.slice (some (xD g o)) nn m))) (by kernel_rfl) ?_ (λO=>?_)
     . (try dsimp only);(first|(with_reducible (refine⟨?_,?_,?_⟩ <;> repeat (first|assumption|refine zg ?_|refine zj _ ?_|refine zk (by omega) ?_|refine zd p.o ?_ (by first|omega|(rw[au];omega)))))|go_keep)
     refine aR 0 rfl (v:=?v1) (ao ⟨by rfl,?h1⟩) ?_;case h1=>(intro w r;(try dsimp only at r);go_simp;try with_reducible rfl)
     try simp only[Act.put,aD]
     refine aR 1 rfl (v:=?v2) (ao ⟨by rfl,?h2⟩) ?_;case h2=>(intro w r;(try dsimp only at r);go_simp;try with_reducible rfl)
     try simp only[Act.put,aD]
     refine aR 2 rfl (v:=?v3) (ao ⟨by rfl,?h3⟩) ?_;case h3=>(intro w r;(try dsimp only at r);go_simp;try with_reducible rfl)
     try simp only[Act.put,aD]
     refine aR 3 rfl (v:=?v4) (ao ⟨by rfl,?h4⟩) ?_;case h4=>(intro w r;(try dsimp only at r);go_simp;try with_reducible rfl)
     try simp only[Act.put,aD]
     refine aR 4 rfl (v:=?v5) (ao ⟨by rfl,?h5⟩) ?_;case h5=>(intro w r;(try dsimp only at r);go_simp;try with_reducible rfl)
     try simp only[Act.put,aD]
     refine aR 5 rfl (v:=?v6) (ao ⟨by rfl,?h6⟩) ?_;case h6=>(intro w r;(try dsimp only at r);go_simp;try with_reducible rfl)
     try simp only[Act.put,aD]
     refine wpAnyH_ready (rs:=[6]) (by kernel_rfl) (by simp) ?_;refine AllReadyH.cons rfl (λK hK=>?_) ?_;go_simp;first|go_at_K|(((go_at_call 172;refine F.o.mono ?_;rintro e w1 ⟨rfl,A⟩;have p:=za (zw A)));first|go_at_K|go_wp2_with fail)
     refine hK.out _ _ ?_ (λh9=>?_)
     . (try dsimp only);(first|(with_reducible (refine⟨?_,?_,?_⟩ <;> repeat (first|assumption|refine zg ?_|refine zj _ ?_|refine zk (by omega) ?_|refine zd p.o ?_ (by first|omega|(rw[au];omega)))))|go_keep)
     clear hK K O;have O:=h9;try simp only[Act.put,aD]
     refine aR 7 rfl (v:=?v7) (ao ⟨by rfl,?h7⟩) ?_;case h7=>(intro w r;(try dsimp only at r);go_simp;try with_reducible rfl)
     try simp only[Act.put,aD]
     refine O1 (i:=8) (v:=undef) rfl (by kernel_rfl) (λ_ _ _ x=>x) (ap ⟨by rfl,rfl⟩) (by assumption) ?_;try simp only[Act.put,aD]
     refine O1 (i:=9) (v:=undef) rfl (by kernel_rfl) (λ_ _ _ x=>x) (ap ⟨by rfl,rfl⟩) (by assumption) ?_;try simp only[Act.put,aD]
     refine O1 (i:=10) (v:=undef) rfl (by kernel_rfl) (λ_ _ _ x=>x) (ap ⟨by rfl,rfl⟩) (by assumption) ?_;try simp only[Act.put,aD]
     refine O1 (i:=11) (v:=undef) rfl (by kernel_rfl) (λ_ _ _ x=>x) (ap ⟨by rfl,rfl⟩) (by assumption) ?_;try simp only[Act.put,aD]
     refine O1 (i:=12) (v:=undef) rfl (by kernel_rfl) (λ_ _ _ x=>x) (ap ⟨by rfl,rfl⟩) (by assumption) ?_;try simp only[Act.put,aD]
     refine O1 (i:=13) (v:=undef) rfl (by kernel_rfl) (λ_ _ _ x=>x) (ap ⟨by rfl,rfl⟩) (by assumption) ?_;try simp only[Act.put,aD]
     refine O1 (i:=14) (v:=undef) rfl (by kernel_rfl) (λ_ _ _ x=>x) (ap ⟨by rfl,rfl⟩) (by assumption) ?_;try simp only[Act.put,aD]
     refine aR 15 rfl (v:=?v8) (ao ⟨by rfl,?h8⟩) ?_;case h8=>(intro w r;(try dsimp only at r);go_simp;try with_reducible rfl)
     try simp only[Act.put,aD]
     refine aR 16 rfl (v:=?v9) (ao ⟨by rfl,?h9⟩) ?_;case h9=>(intro w r;(try dsimp only at r);go_simp;try with_reducible rfl)
     try simp only[Act.put,aD]
     refine wpAnyH_done (by kernel_rfl) ?_ _;rotate_left;exact AllReadyH.nil;all_goals refine NoPanic.normal ?_
     all_goals go_wp2_with fail
     all_goals go_ret
     all_goals exact⟨by rw[M.o];rfl,h.trans (p.o.mono C)⟩
 . obtain⟨t1,t2,f,rfl⟩:∃t1 t2 f,j=t1::t2::f:=by
    rcases j with _|⟨t1,_|⟨t2,f⟩⟩
    . simp[dJ] at o3
    . simp[dJ] at o3
    exact⟨t1,t2,f,rfl⟩
   obtain⟨b4,bl,bo,_,_,a2⟩:=T.ex;cases bo;obtain⟨g,o,rfl,bv,bs⟩:=a2 (by simp);obtain⟨ub,a1,bq⟩:=bs 0 t1 rfl;rw[Nat.add_zero] at a1;have M:aa (c.operands (.mk 9 a s nm n (t1::t2::f))=(gq t1&&gp c (t1::t2::f))):=rfl;have X:=za (λW (h:xB w W)=>IK W (bq.am (zm h Y)) ((B t1 (by simp)) t1 (nL b8 _)).2.2);have U:=za (λW (h:xB w W)=>rE hc t1 t2 f (.slice (some (xD g o)) (t1::t2::f).length m) W (T.am (zm h Y)) (G W h) (by have:=h.size;omega) (B t1 (by simp)) (B t2 (by simp)));have n3:0<(t1::t2::f).length:=(by simp);generalize be:(t1::t2::f).length=nn at *;have b2:(0:Int)<(nn:Int):=(by omega);have ca:((xD g o):Addr).add 0=⟨g,o,none⟩:=(by simp[Addr.add]);cases P:gq t1 with
   | true =>
     rw[P] at M X;go_enter func131,ntmps131;go_upto_region 23 with fail;refine zn (λW=>(xH W w.heap.size #[xE J c y,xP I] 216)/\xB w W) ⟨zc w _,zq w _⟩ ?_;rintro W ⟨H,h⟩;obtain⟨a5,s1,a6,sz⟩:=zp H;obtain⟨m0,m1,m2,m3,m4,m5,a3,a4⟩:=zt ((h.block b E).trans D.o);have C:=h.size;have bb:=zd h a1 (by omega);have F:=za (X.o W.drew (zo h));have aV:=za (U.o W.drew (zo h))
     go_region_held3 (λz=>z.cell? (xD w.heap.size 0)=some (xE J c y)/\z.cell? (xD w.heap.size 1)=some (xP I)/\z.cell? (xD b 5)=some (.slice (some (xD g o)) nn m)/\z.cell? (xD g o)=some (xP ub))
      (first|(with_reducible (refine⟨?_,?_,?_,?_⟩ <;> repeat (first|assumption|refine zg ?_|refine zj _ ?_|refine zk (by omega) ?_|refine zd L.o ?_ (by first|omega|(rw[au];omega)))))|go_keep)
      (first
        | (go_at_call 173;refine aV.o.mono ?_;rintro e w2 ⟨rfl,a0⟩;have L:=za (zw a0))
        | (go_at_call 174;refine F.o.mono ?_;rintro e w1 ⟨rfl,rfl⟩))
     all_goals go_wp2_with fail
     all_goals go_ret
     all_goals exact⟨by rw[M.o];rfl,h.trans (L.o.mono (by omega))⟩
   | false =>
     rw[P] at M X;go_enter func131,ntmps131;go_upto_region 23 with fail;refine zn (λW=>(xH W w.heap.size #[xE J c y,xP I] 216)/\xB w W) ⟨zc w _,zq w _⟩ ?_;rintro W ⟨H,h⟩;obtain⟨a5,s1,a6,sz⟩:=zp H;obtain⟨m0,m1,m2,m3,m4,m5,a3,a4⟩:=zt ((h.block b E).trans D.o);have C:=h.size;have bb:=zd h a1 (by omega);have F:=za (λq=>nA (X.o (W.drewN q) (zI h q)));go_quiet ((go_at_call 174;exact F.o _));all_goals go_wp2_with fail
     all_goals go_ret
     all_goals exact⟨by rw[M.o];rfl,zI h _⟩
 . obtain⟨d,bC,bt⟩:=o2 rfl;have M:aa (c.operands (.mk 4 a s nm n j)=gF c j d.nd.ak):=by
    unfold aa Sc.operands
    show (match c.called s with|none=>true|some d=>gF c j d.nd.ak)=_;rw[bC]
   go_enter func131,ntmps131;go_upto_region 25 with fail;refine zn (λW=>(xH W w.heap.size #[xE J c y,xP I] 216)/\xB w W) ⟨zc w _,zq w _⟩ ?_;rintro W ⟨H,h⟩;obtain⟨a5,s1,a6,sz⟩:=zp H;obtain⟨m0,m1,m2,m3,m4,m5,a3,a4⟩:=zt ((h.block b E).trans D.o);have C:=h.size;have aL:=za (Iq hc (.mk 4 a s nm n j) (xP b) W (a9.am (zm h Y)) (G W h) (by omega) bk bC bt);go_wp2_with (go_at_call 175;refine aL.o.mono ?_;rintro e w1 ⟨rfl,A⟩;have p:=za A);go_ret;exact⟨by rw[M.o];rfl,h.trans (p.o.mono (by omega))⟩
 rcases hk with rfl|rfl|rfl|rfl|rfl|rfl
 all_goals
  go_enter func131,ntmps131;go_wp2_with fail;go_ret;exact⟨rfl,zq _ _⟩
end
end Go.Proofs.YtbicmofihhjgbaaGreatDoor
