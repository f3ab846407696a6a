/- Part 21 of the proof. -/
import Derived.Test.YtbicmofihhjgbaaGreatDoorK19
set_option maxRecDepth 100000
set_option maxHeartbeats 8000000
namespace Go.Proofs.YtbicmofihhjgbaaGreatDoor
open Go.Proofs.Tryz
open Go.RowKit
section
variable {L:List (Nat×Nat)} {N f m a t:Nat} {c:Sc} {n r:Xv} {w u:Xw}
attribute [local go_sem ↓] Go.wp_at_zero Go.wp_at_succ
structure hC (N:Nat) (c:Sc) (n r:Xv) (a m t f:Nat) (L:List (Nat×Nat)) (w:Xw):Prop where
 lk:dN w a L
 sc:br w N c n r
 ck:dF w c f
 x1:w.heap[m]?=some (.cells #[.map (some a)] 239 (0,0))
 x3:w.heap[t]?=some (.cells #[n,r] 114 (0,0))
 d1:¬m=a
 d2:¬f=a
 d3:¬t=a
 l:N<=a
 hN:N<=w.heap.size
theorem hC.aq (h:hC N c n r a m t f L w)(b:xB w u):hC N c n r a m t f L u :=
 ⟨h.lk.aq b,h.sc.am (zm b h.hN),h.ck.aq b,(b.block _ (ze h.x1)).trans h.x1,(b.block _ (ze h.x3)).trans h.x3,h.d1,h.d2,h.d3,h.l,aJ h.hN b.size⟩
theorem hC.put {d:List (Nat×Nat)}(h:hC N c n r a m t f L w)(g:dN u a d)(b:Fr (·=a) w u):hC N c n r a m t f d u :=
 ⟨g,h.sc.am (b.am h.hN (λ_ e=>e▸h.l)),h.ck.gh (b.block _ h.ck.lt h.d2),(b.block _ (ze h.x1) h.d1).trans h.x1,(b.block _ (ze h.x3) h.d3).trans h.x3,h.d1,h.d2,h.d3,h.l,aJ h.hN b.size⟩
theorem hC.on (h:hC N c n r a m t f L w){i b:Nat}(e:xH w b #[xI (i:Int)] 3)(d:¬b=a):jC N c n r i a m b t L w :=
 ⟨h.lk,h.sc,h.x1,e,h.x3,h.d1,d,h.d3,h.l,h.hN⟩
theorem G0 (hc:eU c)(w:Xw)(l:br w N c n r)(hN:N<=w.heap.size) :
 xK 136 #[.agg #[n,r]] w (λe u=>∃a,e=.returned (.map (some a))/\w.heap.size<=a/\dN u a c.hI/\xB w u):=by
 obtain⟨ar,C,nb,rfl,rfl,di⟩:=l.shape;obtain⟨du,em,eb,xs,cO,B⟩:=l.nd;cases cO;obtain⟨er,cK,rfl⟩:=zB B.bZ;obtain⟨eq,cE,rfl⟩:=zB B.own;have cR:c.nd.eqs.length<=9223372036854775807:=by
  rcases B.own.2 with ⟨_,l⟩|⟨g,K,bY,hv,_,_,h3,h4,_⟩
  . omega
  unfold maxLen at h4;omega
 have da:=@run_makeMap prog;have c9:∀(fn:Go.Fn) (first K:Xa) (w:Xw),(Instr.makeFunc fn first K).run prog w=.ok (.func fn first K) w:=λ_ _ _ _=>rfl;have aA:=za (λo1 o2 o3=>xf (((w.alloc o1).alloc o2).alloc o3) (l.am (yR hN o1 o2 o3)) (by rw[au,au,au];omega));have HEq:=za hc.nd.eqs;go_enter func136,ntmps136;go_upto_region 3 with (go_at_call 99;refine (aA.o _ _ _).mono ?_;rintro e O ⟨f,rfl,bb,b3,b1⟩;have bq:=za b3;have A:=za b1);rw[au,au,au] at bb;refine zn (λW=>hC N c (xE ar c C) (xP nb) (w.heap.size+1) (w.heap.size+1+1) w.heap.size f [] W/\xB w W) ⟨⟨⟨[],⟨#[],0,(A.o.block _ (by simp)).trans (iu w _ _ _).2.1,rfl⟩,λp=>by simp[db],λk v l=>by simp[db] at l⟩,l.am (zm (QQ A.o) hN),bq.o,(A.o.block _ (by simp)).trans (iu w _ _ _).2.2,(A.o.block _ (by simp;omega)).trans (iu w _ _ _).1,by omega,by omega,by omega,by omega,by have:=(QQ A.o).size;omega⟩,QQ A.o⟩ ?_;rintro W ⟨H,D⟩;obtain⟨m0,m1,m2,m3,m4,m5,dV,dY⟩:=zt ((D.block nb (by omega)).trans B.aC);obtain⟨dz,s1,dH,sz⟩:=zp H.x3;have h:=za H;have d:=za D;go_wp2_with fail;go_loopg [20] (c.nd.eqs.length+1) (λj i wr=>∃(k:Nat) (V:List (Nat×Nat)),k+j=c.nd.eqs.length+1/\k<=c.nd.eqs.length/\i=xI k/\aa (hC N c (xE ar c C) (xP nb) (w.heap.size+1) (w.heap.size+1+1) w.heap.size f V wr)/\aa (c.hI=V++(c.nd.eqs.drop k).flatMap (λq=>q.ns.flatMap (fG c q)))/\aa (xB w wr));case atStart=>exact⟨0,[],by omega,aE _,rfl,h.o,rfl,d.o⟩
 case round =>
  obtain⟨k,V,c6,dM,rfl,aV,bs,bo⟩:=hrel;have hO:=zm bo.o hN;by_cases cg:k<c.nd.eqs.length
  . obtain⟨ab,rfl⟩:∃ab,ab=wr:=⟨_,rfl⟩;obtain⟨b0,rfl⟩:∃g,g=gk:=⟨_,rfl⟩;obtain⟨q,ch⟩:∃q,c.nd.eqs[k]?=some q:=⟨_,av cg⟩;have a6:=B.am hO;obtain⟨g,lv,rv,rfl,c0,c1,dL,aL⟩:=lj a6.own a6.eqs ch rfl;obtain⟨rb,_,_,rfl,_⟩:=aL.tt.ptr;obtain⟨bp,cl,rfl⟩:=zB aL.own;have c4:=B.ko g rfl;have bE:=za (HEq.o q (aM ch)).1;have c3:=aV.o.hN;have c2:q.ns.length<=9223372036854775807:=by
     rcases aL.own.2 with ⟨_,l⟩|⟨g,K,bY,hv,_,_,h3,h4,_⟩
     . omega
     unfold maxLen at h4;omega
    have cv:aa (c.hI=(V++q.ns.flatMap (fG c q))++(c.nd.eqs.drop (k+1)).flatMap (λq=>q.ns.flatMap (fG c q))):=(by obtain⟨h1,h2⟩:=aB.1 ch;unfold aa;rw[bs.o,dE h1,List.flatMap_cons,h2,bw]);have bB:=za (aV.o.aq (zq ab (.cells #[.slice bp q.ns.length cl,xI q.a,xP rb] 184)));have bK:=za (jh bo.o (an _) (.cells #[.slice bp q.ns.length cl,xI q.a,xP rb] 184));have bC:=za (zc ab (.cells #[.slice bp q.ns.length cl,xI q.a,xP rb] 184));go_wp2_with fail;go_loopg [27] (q.ns.length+1) (λj i wr=>∃(E:Nat) (J:List (Nat×Nat)),E+j=q.ns.length+1/\E<=q.ns.length/\i=xI E/\aa (hC N c (xE ar c C) (xP nb) (w.heap.size+1) (w.heap.size+1+1) w.heap.size f J wr)/\aa (V++q.ns.flatMap (fG c q)=J++(q.ns.drop E).flatMap (fG c q))/\aa (xB w wr)/\aa (xH wr ab.heap.size #[.slice bp q.ns.length cl,xI q.a,xP rb] 184));case atStart=>exact⟨0,V,by omega,aE _,rfl,bB.o,rfl,bK.o,bC.o⟩
    case round =>
     obtain⟨E,J,cn,c5,rfl,z,R,F,I⟩:=hrel;by_cases be:E<q.ns.length
     . obtain⟨s,co⟩:∃s,q.ns[E]?=some s:=⟨_,av be⟩;obtain⟨p,dk⟩:∃p,q.ps[E]?=some p:=⟨_,av (by have:=bE.o;omega)⟩;have ca:bV N ab wr:=λb m=>(zm F.o hN b m).trans (zm bo.o hN b m).symm;have S:=aL.am ca;obtain⟨gl,rfl,c0,c1⟩:=kG S.own co dk rfl;have cm:=aL.lo gl rfl;have a9:=z.o.hN;have a2:aa (V++q.ns.flatMap (fG c q)=(J++fG c q s)++(q.ns.drop (E+1)).flatMap (fG c q)):=(by obtain⟨h1,h2⟩:=aB.1 co;unfold aa;rw[R.o,dE h1,List.flatMap_cons,h2,bw]);obtain⟨dz,s1,dH,sz⟩:=zp z.o.x3;have dc:=z.o.lk.lt;have Z:=ze I.o;have bt:=za (hW s (p:Int) (wr.alloc (.cells #[.string s,xI p] 117)) (z.o.aq (zq wr _)).sc (z.o.aq (zq wr _)).hN)
       go_upto_region 11 with (first
        | (go_at_call 104;refine (bx.o _).mono ?_;rintro e w2 ⟨rfl,a5⟩;have Q:=za (zE a5);have a4:=za ((a5.block _ (by simp)).trans (zc O _)))
        | (go_at_call 105;refine bt.o.mono ?_;rintro e O ⟨rfl,b2⟩;have P:=za (zE b2);have ck:=P.o.size;have a0:=za (z.o.aq P.o);have bx:=za (λo=>jW (c.idx s) (O.alloc o) (a0.o.aq (zq O o)).ck)))
       have dl:=Q.o.size;have bg:=F.o.size;refine zn (λW=>hC N c (xE ar c C) (xP nb) (w.heap.size+1) (w.heap.size+1+1) w.heap.size f J W/\xB wr W/\xH W O.heap.size #[xI (c.idx s:Nat)] 3/\xH W w2.heap.size #[xI ((c.of (c.idx s)).1:Nat),xI ((c.of (c.idx s)).2:Nat)] 198) ⟨(a0.o.aq Q.o).aq (zq w2 _),jh (P.o.trans (Q.o.mono ck)) (an _) _,(Below.heap_alloc _ _ _ (by have:=ze a4.o;omega)).trans a4.o,zc w2 _⟩ ?_;rintro W ⟨H,D,U,ce⟩;obtain⟨k0,dP,kf,kz⟩:=zp ce;obtain⟨i0,dq,ds⟩:=zu U;obtain⟨cz,cA,cB⟩:=zu H.x1;obtain⟨q0,ea,q2,qf,cs⟩:=zL ((D.block _ Z).trans I.o);have dp:=D.size;have Y:¬O.heap.size=w.heap.size+1:=(by omega);have M:¬ab.heap.size=w.heap.size+1:=(by have:=aV.o.lk.lt;omega);have jK:¬w.heap.size+1+1=w.heap.size+1:=(by omega);have h:=za H;have d:=za D;have a3:=za (λ(L3:List (Nat×Nat)) (bL:Xw) (X:jC N c (xE ar c C) (xP nb) (c.idx s) (w.heap.size+1) (w.heap.size+1+1) O.heap.size w.heap.size L3 bL) (cd:TT bL N q.r (xP rb))=>xN (Jd N c (xE ar c C) (xP nb) (c.idx s) (w.heap.size+1) (w.heap.size+1+1) O.heap.size w.heap.size X.l) q.r (xP rb) L3 bL cd X.hN X trivial);by_cases bk:(c.of (c.idx s)).2=0
       . have bl:((c.of (c.idx s)).2:Int)=0:=(by omega);have bv:aa (fG c q s=(bh gH q.r).flatMap (j0 c (c.idx s))):=(by unfold aa fG;simp only[bk,ag,List.nil_append]);have bA:=za (a3.o J W (h.o.on U Y) (S.tt.am (zm d.o a9)));go_wp2_with (go_at_call 169;refine bA.o.mono ?_;rintro e w5 ⟨rfl,T,y⟩);go_roundg (gk-1);case measure=>omega
         have G:=T.lk;rw[xO,<- bv.o] at G;exact⟨E+1,J++fG c q s,by omega,by omega,by go_num,h.o.put G y,a2.o,jj (F.o.trans (d.o.mono bg)) y (by omega),(y.block _ cs M).trans ((d.o.block _ Z).trans I.o)⟩
       have bl:¬((c.of (c.idx s)).2:Int)=0:=(by omega);have bv:aa (fG c q s=[(c.idx s,(c.of (c.idx s)).1)]++(bh gH q.r).flatMap (j0 c (c.idx s))):=(by unfold aa fG;simp only[bk,ae,not_false_eq_true]);have ct:=za (rX (c.idx s) (c.of (c.idx s)).1 W h.o.lk)
       go_wp2_with (first
        | (go_at_call 169;refine (a3.o _ w4 (a1.o.on ((x.block _ ds Y).trans U) Y) (S.tt.am ((zm d.o a9).trans (x.am h.o.hN (λ_ e=>e▸h.o.l))))).mono ?_;rintro e w5 ⟨rfl,T,y⟩)
        | (go_at_call 179;refine ct.o.mono ?_;rintro e w4 ⟨rfl,b4,x⟩;have a1:=za (h.o.put b4 x);have dw:=rM x q2 M))
       go_roundg (gk-1);case measure=>omega
       have G:=T.lk;rw[xO,bw,<- bv.o] at G;exact⟨E+1,J++fG c q s,by omega,by omega,by go_num,a1.o.put G y,a2.o,jj (jj (F.o.trans (d.o.mono bg)) x (by omega)) y (by omega),(y.block _ (by have:=x.size;omega) M).trans ((x.block _ cs M).trans ((d.o.block _ Z).trans I.o))⟩
     have ek:E=q.ns.length:=(by omega);subst ek;rw[List.drop_length,List.flatMap_nil,List.append_nil] at R;go_wp2_with fail;go_roundg (b0-1);case measure=>omega
     refine⟨k+1,J,by omega,by omega,by go_num,z.o,?_,F.o⟩;rw[<- R.o];exact cv.o
  have ek:k=c.nd.eqs.length:=by omega
  subst ek;rw[List.drop_length,List.flatMap_nil,List.append_nil] at bs;obtain⟨cz,cA,cB⟩:=zu aV.o.x1;go_wp2_with fail;go_ret;refine⟨_,rfl,by omega,?_,bo.o⟩;rw[bs.o];exact aV.o.lk
end
end Go.Proofs.YtbicmofihhjgbaaGreatDoor
