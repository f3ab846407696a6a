/- Part 17 of the proof. -/
import Derived.Test.YtbicmofihhjgbaaGreatDoorK15
set_option maxRecDepth 100000
set_option maxHeartbeats 8000000
namespace Go.Proofs.YtbicmofihhjgbaaGreatDoor
open Go.Proofs.Tryz
open Go.RowKit
section
variable {s:Xb} {f:Xl} {N k:Nat} {c:Sc} {m r:Xv}
attribute [local go_sem ↓] Go.wp_at_zero Go.wp_at_succ
theorem K3:∀(f:Xl) (d:Xn) (k:Nat) (s:Xb) (p:Nat),f[k]?=some s->d[k]?=some p->(gg f d)[k*2]?=some (.string s)/\(gg f d)[k*2+1]?=some (xI p):=by
 intro f;induction f with
 | nil=>intro d k s p h;simp at h
 | cons a f l =>
   intro d k s p g e;cases d with
   | nil=>simp at e
   | cons b d =>
     cases k with
     | zero=>simp at g e;subst g e;exact⟨rfl,rfl⟩
     | succ k => obtain⟨i,j⟩:=l d k s p (by simpa using g) (by simpa using e);rw[show (k+1)*2=k*2+1+1 by omega];exact⟨by simpa [gg] using i,by simpa [gg] using j⟩
theorem kG {w:Xw}{n o:Nat}{a:Xp}{b:Xn}(h:w.ownsRow 0 117 2 (.slice a n o) n (gg f b)){p:Nat}(i:f[k]?=some s)(v:b[k]?=some p)(y:n=f.length) :
 ∃g,a=some (xD g 0)/\w.cell? (xD g (k*2))=some (.string s)/\w.cell? (xD g (k*2+1))=some (xI p):=by
 have u:=(aB.1 i).1;obtain⟨g,l,x,_⟩:=zM h (by omega);cases x;obtain⟨q,t⟩:=K3 f b k s p i v;have e:=h.cells (g:=g) rfl;have d:∀j,((xD g 0):Addr).add j=⟨g,j,none⟩:=λj=>by cases j <;> simp[Addr.add]
 refine⟨g,rfl,?_,?_⟩
 . have:=e _ _ q;rwa [d] at this
 have:=e _ _ t;rwa [d] at this
theorem GO {a:List Vr}{v:Vr}(h:f[k]?=some s)(i:a[k]?=some v):gE c (f.drop k) (a.drop k)=if (c.decl s != dt v)=true then false else gE c (f.drop (k+1)) (a.drop (k+1)):=by obtain⟨b,d⟩:=aB.1 h;obtain⟨e,g⟩:=aB.1 i;rw[dE b,dE e,d,g];rfl
theorem mO (w:Xw)(a b:Obj):((w.alloc a).alloc b).heap[w.heap.size]?=some a/\((w.alloc a).alloc b).heap[w.heap.size+1]?=some b:=by refine⟨(Below.heap_alloc _ _ _ (by simp)).trans (zc w a),?_⟩;have:=zc (w.alloc a) b;rwa [au] at this
theorem Im (hc:eU c)(q:Qn)(S T:Xv)(w:Xw)(HEq:Nz w N q S T)(o:br w N c m r)(M:N<=w.heap.size)(O:gN c q.r)(P:∀s∈q.ns,c.has s=true)(F:q.ns.length=q.ps.length)(B:q.ns.length=1) :
 xK 128 #[.agg #[m,r],.agg #[S,xI q.a,T]] w (λe d=>e=.returned (.bool (c.holds q))/\xB w d):=by
 obtain⟨s,b⟩:∃s,q.ns[0]?=some s:=⟨_,av (by omega)⟩;obtain⟨p,Q⟩:∃p,q.ps[0]?=some p:=⟨_,av (by omega)⟩;obtain⟨be,L,rfl⟩:=zB HEq.own;obtain⟨g,rfl,J,K⟩:=kG HEq.own b Q rfl;have ar:=HEq.lo g rfl;obtain⟨H,_,_,rfl,aL,_⟩:=HEq.tt.ptr;obtain⟨I,i,G,rfl,rfl,aA⟩:=o.shape;have v:=P s (aM b);have X:aa (c.holds q=(c.decl s==MO c q.r)):=by
  unfold aa Sc.holds;cases E:q.ns with
  | nil=>rw[E] at b;simp at b
  | cons x l =>
    cases l with
    | nil=>rw[E] at b;simp at b;subst b;rfl
    | cons y l=>rw[E] at B;simp at B
 have t:∀W,xB w W->br W N c (xE I c i) (xP G):=λW a=>o.am (zm a M);have V:=za (λW (a:xB w W)=>me s (p:Int) W (t W a) (by have:=a.size;omega) v);have Y:=za (λW (a:xB w W)=>nD hc q.r (xP H) W (HEq.tt.am (zm a M)) (t W a) (by have:=a.size;omega) O);rw[Nat.zero_mul,Nat.zero_add] at K;rw[Nat.zero_mul] at J;have l1:((q.ns.length:Int)==1)=true:=by simp[B]
 have a3:(0:Int)<(q.ns.length:Int):=by omega
 have aV:0<q.ns.length:=by omega
 clear O P F b Q v B;generalize c.decl s=a1 at *;generalize MO c q.r=a2 at *;go_enter func128,ntmps128;go_upto_region 2 with fail;refine zn (λW=>(xH W w.heap.size #[xE I c i,xP G] 216/\xH W (w.heap.size+1) #[xS g q.ns.length L,xI q.a,xP H] 184)/\xB w W) ⟨mO w _ _,cT w _ _⟩ ?_;rintro W ⟨⟨b,z⟩,a⟩;obtain⟨bb,s1,a0,sz⟩:=zp b;obtain⟨a4,a5,a6,rf,a9⟩:=zL z;have A:=a.size;have Z:=zd a J (by omega);have ab:=zd a K (by omega);have C:=za (V.o W.drew (zo a));clear b z a0 rf
 go_region_held3 (λd=>d.cell? (xD w.heap.size 0)=some (xE I c i)/\d.cell? (xD w.heap.size 1)=some (xP G)/\d.cell? (xD (w.heap.size+1) 0)=some (xS g q.ns.length L)/\d.cell? (xD (w.heap.size+1) 2)=some (xP H)/\d.cell? (xD g 0)=some (.string s)/\d.cell? (xD g 1)=some (xI p))
  (first|(with_reducible (refine⟨?_,?_,?_,?_,?_,?_⟩ <;> repeat (first|assumption|refine zg ?_|refine zj _ ?_|refine zk (by omega) ?_|refine zd n.o ?_ (by first|omega|(rw[au];omega))|refine zd h.o ?_ (by first|omega|(rw[au];omega)))))|go_keep)
  (first
    | (go_at_call 171;refine D.o.mono ?_;rintro e w2 ⟨rfl,u⟩;have n:=za u;clear u)
    | (go_at_call 127;refine C.o.mono ?_;rintro e U ⟨rfl,j⟩;have h:=za (zw j);(have R:W.heap.size<=U.heap.size:=j.size);have D:=za (Y.o U (a.trans (h.o.mono A)));clear j))
 all_goals go_wp2_with fail
 all_goals go_ret
 all_goals exact⟨by rw[X.o];exact yw a1 a2,(a.trans (h.o.mono A)).trans (n.o.mono (by omega))⟩
theorem HV {d:Sc}(hc:eU c)(q:Qn)(lv rv:Xv)(w:Xw)(bk:Nz w N q lv rv)(h:br w N c m r)(hN:N<=w.heap.size)(hh:∀s∈q.ns,c.has s=true)(a4:q.ns.length=q.ps.length)(h2:2<=q.ns.length)(bl:c.called q.r.s=some d)(bB:d.nd.aG=q.ns.length) :
 xK 128 #[.agg #[m,r],.agg #[lv,xI q.a,rv]] w (λe t=>e=.returned (.bool (c.holds q))/\xB w t):=by
 have HEq:=za bk;obtain⟨ch,S,rfl⟩:=zB bk.own;obtain⟨Z,_,_,rfl,da,B,_⟩:=bk.tt.ptr;have bY:=ze B;have bv:=za B;have X:=(hc.called bl).1.nd;have bC:=X.io;have cs:=X.ah;have cR:=X.bO;have bx:=za h;obtain⟨K,u,J,rfl,rfl,c9⟩:=h.shape;have cn:aa (c.holds q=gE c q.ns d.nd.results):=by
  unfold aa Sc.holds;cases ct:q.ns with
  | nil=>rw[ct] at h2;simp at h2
  | cons x l =>
    cases l with
    | nil=>rw[ct] at h2;simp at h2
    | cons y l=>simp only[bl]
 have R:∀W,xB w W->br W N c (xE K c u) (xP J):=λW L=>bx.o.am (zm L hN);have cB:=za hh;have bt:=za a4;have l1:((q.ns.length:Int)==1)=false:=by simp;omega
 have dp:d.nd.aG<=q.ns.length:=by omega
 have dq:q.ns.length<=d.nd.aG:=by omega
 clear bk h hh B a4 bB;go_enter func128,ntmps128;go_upto_region 3 with fail;refine zn (λW=>(xH W w.heap.size #[xE K c u,xP J] 216/\xH W (w.heap.size+1) #[.slice ch q.ns.length S,xI q.a,xP Z] 184)/\xB w W) ⟨mO w _ _,cT w _ _⟩ ?_;rintro W ⟨⟨b2,Y⟩,L⟩;obtain⟨dL,s1,dM,sz⟩:=zp b2;obtain⟨dw,dz,dH,rf,cz⟩:=zL Y;have cm:=za L;have di:=L.size;obtain⟨m0,m1,m2,m3,m4,m5,dk,eq⟩:=zt ((L.block Z bY).trans bv.o);have aA:=za (ji q.r.s (q.r.nm:Int) W.drew (R W.drew (zo L)) (by show N<=W.heap.size;omega) hc.bO bl);have aL:=za (λo=>ji q.r.s (q.r.nm:Int) (W.alloc o).drew (R _ (zo (L.alloc (by omega) o))) (by show N<=(W.alloc o).heap.size;simp;omega) hc.bO bl);have co:=za b2;have aV:=za Y;clear b2 Y L dM rf m0 m1 m4 m5 dk
 go_region_held3 (λt=>t.cell? (xD w.heap.size 0)=some (xE K c u)/\t.cell? (xD w.heap.size 1)=some (xP J)/\t.cell? (xD (w.heap.size+1) 2)=some (xP Z)/\t.cell? (xD Z 2)=some (.string q.r.s)/\t.cell? (xD Z 3)=some (xI q.r.nm))
  (first|(with_reducible (refine⟨?_,?_,?_,?_,?_⟩ <;> repeat (first|assumption|refine zg ?_|refine zj _ ?_|refine zk (by omega) ?_|refine zd a.o ?_ (by first|omega|(rw[au];omega)))))|go_keep)
  (first
    | (go_at_call 119;refine aA.o.mono ?_;rintro e w1 ⟨x2,T,n2,rfl,F,b⟩;have a:=za (zw b);have n:=za F;clear b F)
    | (go_at_call 119;refine (aL.o _).mono ?_;rintro e w1 ⟨x2,T,n2,rfl,F,b⟩;have a:=za (zw b);have n:=za F;obtain⟨ex,bo,eE,eF⟩:=zp ((a.o.block W.heap.size (by rw[au];omega)).trans (zc W _));clear b F))
 all_goals go_upto_region 4 with fail
 refine zn (λC=>ki w N d w1.heap.size n2 x2 T C/\(xH C w.heap.size #[xE K c u,xP J] 216/\xH C (w.heap.size+1) #[.slice ch q.ns.length S,xI q.a,xP Z] 184)) ⟨su cm.o a.o n.o hN,(Below.heap_alloc _ _ _ (by have:=a.o.size;omega)).trans ((a.o.block _ sz).trans co.o),(Below.heap_alloc _ _ _ (by have:=a.o.size;omega)).trans ((a.o.block _ cz).trans aV.o)⟩ ?_;rotate_left;refine zn (λC=>ki w N d W.heap.size n2 x2 T C/\(xH C w.heap.size #[xE K c u,xP J] 216/\xH C (w.heap.size+1) #[.slice ch q.ns.length S,xI q.a,xP Z] 184)) ⟨ss cm.o a.o n.o hN,(zr (by omega) rfl).trans ((zr (by omega) rfl).trans ((a.o.block _ (by rw[au];omega)).trans ((Below.heap_alloc _ _ _ sz).trans co.o))),(zr (by omega) rfl).trans ((zr (by omega) rfl).trans ((a.o.block _ (by rw[au];omega)).trans ((Below.heap_alloc _ _ _ cz).trans aV.o)))⟩ ?_
 all_goals
  rintro C ⟨a0,a5,P⟩;obtain⟨t0,t1,es,tz⟩:=zp a0.box;have cA:=za a0;obtain⟨p0,ds,er,cv⟩:=zp a5;obtain⟨e0,e1,dY,ea,cO⟩:=zL P;have b4:=a0.aH.size;obtain⟨dl,dP,du,dV,ab,H⟩:=a0.sc.nd;cases ab;have c6:=H.lo;have bs:=za H;have cE:=za (rk C H bC (by omega));clear a0 a5 P H dL s1 dw dz dH m2 m3 a n aA aL;go_wp2_with (go_at_call 88;refine cE.o.mono ?_;rintro e w3 ⟨g9,cK,ab,rfl,U⟩;subst ab;have ar:=za U;have dc:=U.size;clear U);have a9:d.nd.results.length=d.nd.aG:=by unfold ay.results;simp;omega
  have bA:=za a9;have a1:gE c (q.ns.drop 0) (d.nd.results.drop 0)=gE c q.ns d.nd.results:=rfl;have bq:=za a1;clear a9 a1;go_loopg [39] (d.nd.aG+1) (λj i wr=>∃k:Nat,k+j=d.nd.aG+1/\k<=d.nd.aG/\i=xI k/\aa (gE c (q.ns.drop k) (d.nd.results.drop k)=gE c q.ns d.nd.results)/\aa (xB C wr));case atStart=>exact⟨0,by omega,aE _,rfl,bq.o,ar.o⟩
  case round =>
   obtain⟨k,c5,ek,rfl,be,A⟩:=hrel;have D:xB w wr:=cA.o.aH.trans (A.o.mono b4);have bp:=za D;have b3:=A.o.size;by_cases bE:k<d.nd.aG
   . obtain⟨s,I⟩:∃s,q.ns[k]?=some s:=⟨_,av (by omega)⟩;obtain⟨p,a3⟩:∃p,q.ps[k]?=some p:=⟨_,av (by have:=bt.o;omega)⟩;obtain⟨v,G⟩:∃v,d.nd.results[k]?=some v:=⟨_,av (by have:=bA.o;omega)⟩;have bb:d.nd.ak[d.nd.ah+k]?=some v:=(by unfold ay.results at G;rw[List.getElem?_take_of_lt bE,List.getElem?_drop] at G;exact G);have O:=bs.o.am (zm A.o (by omega:N<=C.heap.size));obtain⟨eb,ab,z0,ck,c2,z3,z4,z5,cl⟩:=hj O.bZ bb;simp only[Option.some.injEq,Addr.mk.injEq,and_true] at ab;subst ab;have M:(d.nd.ah+k)*7=d.nd.ah*7+k*7:=(by omega);rw[M] at z0 ck c2 z3 z4 z5 cl;have V:=HEq.o.am (zm D hN);obtain⟨g,rfl,c0,c1⟩:=kG V.own I a3 rfl;have c3:=V.lo g rfl;have b0:=zd A.o p0 cv;have b1:=zd A.o ds cv;have f0:=zd A.o e0 cO;have a2:=cB.o s (aM I);have bg:=za (λo=>me s (p:Int) (wr.alloc o).drew (R _ (zo (D.alloc (by omega) o))) (by show N<=(wr.alloc o).heap.size;simp;omega) a2);have E:=GO (c:=c) I G;rw[be.o] at E;have a6:dt v=dv v:=rfl;rw[a6] at E;have c4:g<wr.heap.size:=(by omega);have k0:(0:Int)<=(k:Int):=(by omega);have em:(k:Int)<(q.ns.length:Int):=(by omega);clear be I a3 G bb O V a6 M a2 D ar;generalize c.decl s=bo at *;by_cases bK:bo=dv v
     . have bL:((bo:Int) != (dv v:Int))=false:=(by simp[bK]);rw[ae (by simp[bK])] at E;have n:=za E;clear E;go_upto_region 7 with fail;refine zn (λz=>(z.cell? (xD w.heap.size 0)=some (xE K c u)/\z.cell? (xD w.heap.size 1)=some (xP J)/\z.cell? (xD (w.heap.size+1) 0)=some (xS g q.ns.length S)/\z.cell? (xD g (k*2))=some (.string s)/\z.cell? (xD g (k*2+1))=some (xI p)/\z.cell? (xD wr.heap.size 2)=some (xI (dv v:Nat)))/\∃o,z=wr.alloc o) ⟨⟨zj _ b0,zj _ b1,zj _ f0,zj _ c0,zj _ c1,by simp⟩,_,rfl⟩ ?_;rintro z ⟨⟨w0,ca,cb,cd,ce,cg⟩,o,rfl⟩;have Q:=za (bg.o o);clear bg z0 ck z3 z4 z5 cl b0 b1 f0 c0 c1 c2
       go_region_held3 (λt=>t.cell? (xD w.heap.size 0)=some (xE K c u)/\t.cell? (xD w.heap.size 1)=some (xP J)/\t.cell? (xD (w.heap.size+1) 0)=some (xS g q.ns.length S)/\t.cell? (xD g (k*2))=some (.string s)/\t.cell? (xD g (k*2+1))=some (xI p)/\t.cell? (xD wr.heap.size 2)=some (xI (dv v:Nat)))
        (first|(with_reducible (refine⟨?_,?_,?_,?_,?_,?_⟩ <;> repeat (first|assumption|refine zg ?_|refine zd a.o ?_ (by rw[au];omega))))|go_keep)
        (first
          | (go_at_call 127;refine Q.o.mono ?_;rintro e w8 ⟨rfl,b⟩;have a:=za (zw b);clear b))
       all_goals go_wp2_with fail
       all_goals
        go_roundg (gk-1);case measure=>omega
        exact⟨k+1,by omega,by omega,by go_num,n.o.symm,A.o.trans ((zE a.o).mono b3)⟩
     have bL:((bo:Int) != (dv v:Int))=true:=(by simp;omega);rw[ag (by simp[bK])] at E;have n:=za E;clear E;go_upto_region 7 with fail;refine zn (λz=>(z.cell? (xD w.heap.size 0)=some (xE K c u)/\z.cell? (xD w.heap.size 1)=some (xP J)/\z.cell? (xD (w.heap.size+1) 0)=some (xS g q.ns.length S)/\z.cell? (xD g (k*2))=some (.string s)/\z.cell? (xD g (k*2+1))=some (xI p)/\z.cell? (xD wr.heap.size 2)=some (xI (dv v:Nat)))/\∃o,z=wr.alloc o) ⟨⟨zj _ b0,zj _ b1,zj _ f0,zj _ c0,zj _ c1,by simp⟩,_,rfl⟩ ?_;rintro z ⟨⟨w0,ca,cb,cd,ce,cg⟩,o,rfl⟩;have Q:=za (bg.o o);clear bg z0 ck z3 z4 z5 cl b0 b1 f0 c0 c1 c2
     go_region_held3 (λt=>t.cell? (xD w.heap.size 0)=some (xE K c u)/\t.cell? (xD w.heap.size 1)=some (xP J)/\t.cell? (xD (w.heap.size+1) 0)=some (xS g q.ns.length S)/\t.cell? (xD g (k*2))=some (.string s)/\t.cell? (xD g (k*2+1))=some (xI p)/\t.cell? (xD wr.heap.size 2)=some (xI (dv v:Nat)))
      (first|(with_reducible (refine⟨?_,?_,?_,?_,?_,?_⟩ <;> repeat (first|assumption|refine zg ?_|refine zd a.o ?_ (by rw[au];omega))))|go_keep)
      (first
        | (go_at_call 127;refine Q.o.mono ?_;rintro e w8 ⟨rfl,b⟩;have a:=za (zw b);clear b))
     all_goals go_wp2_with fail
     all_goals go_ret
     all_goals exact⟨by rw[cn.o,n.o];rfl,bp.o.trans ((zE a.o).mono (by omega))⟩
   have E:gE c q.ns d.nd.results=true:=(by rw[<- be.o,List.drop_of_length_le (by omega)];cases d.nd.results.drop k <;> rfl);have n:=za E;clear be E;go_wp2_with fail;go_ret;exact⟨by rw[cn.o,n.o];rfl,D⟩
end
end Go.Proofs.YtbicmofihhjgbaaGreatDoor
