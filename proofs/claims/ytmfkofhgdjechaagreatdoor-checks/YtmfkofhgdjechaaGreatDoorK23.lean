/- Part 24 of the proof. -/
import Derived.Test.YtmfkofhgdjechaaGreatDoorK20
import Derived.Test.YtmfkofhgdjechaaGreatDoorK22
set_option maxRecDepth 100000
set_option maxHeartbeats 8000000
namespace Go.Proofs.YtmfkofhgdjechaaGreatDoor
open Go.Proofs.Tryz
open Go.RowKit
section
variable {L:List (Nat×Nat)} {N f m a t:Nat} {c:Sc} {n r:Xv} {w u:Xw}
attribute [local go_sem ↓] Go.wp_at_zero Go.wp_at_succ
structure hC (N:Nat) (c:Sc) (n r:Xv) (a m t f:Nat) (L:List (Nat×Nat)) (w:Xw):Prop where
 lk:dN w a L
 sc:br w N c n r
 ck:dF w c f
 x1:w.heap[m]?=some (.cells #[.map (some a)] 235 (0,0))
 x3:w.heap[t]?=some (.cells #[n,r] 202 (0,0))
 d1:¬m=a
 d2:¬f=a
 d3:¬t=a
 l:N<=a
 hN:N<=w.heap.size
theorem hC.aq (h:hC N c n r a m t f L w)(b:xB w u):hC N c n r a m t f L u :=
 ⟨h.lk.aq b,h.sc.am (zm b h.hN),h.ck.aq b,(b.block _ (ze h.x1)).trans h.x1,(b.block _ (ze h.x3)).trans h.x3,h.d1,h.d2,h.d3,h.l,aJ h.hN b.size⟩
theorem hC.put {d:List (Nat×Nat)}(h:hC N c n r a m t f L w)(g:dN u a d)(b:Fr (·=a) w u):hC N c n r a m t f d u :=
 ⟨g,h.sc.am (b.am h.hN (λ_ e=>e▸h.l)),h.ck.gh (b.block _ h.ck.lt h.d2),(b.block _ (ze h.x1) h.d1).trans h.x1,(b.block _ (ze h.x3) h.d3).trans h.x3,h.d1,h.d2,h.d3,h.l,aJ h.hN b.size⟩
theorem hC.on (h:hC N c n r a m t f L w){i b:Nat}(e:xH w b #[xI (i:Int)] 3)(d:¬b=a):jC N c n r i a m b t L w :=
 ⟨h.lk,h.sc,h.x1,e,h.x3,h.d1,d,h.d3,h.l,h.hN⟩
theorem G0 (hm:eU c)(w:Xw)(l:br w N c n r)(hN:N<=w.heap.size) :
 xK 120 #[.agg #[n,r]] w (λe u=>∃a,e=.returned (.map (some a))/\w.heap.size<=a/\dN u a c.hI/\xB w u):=by
 obtain⟨al,C,nb,rfl,rfl,h0⟩:=l.shape;obtain⟨ip,vs,qv,xs,g6,B⟩:=l.nd;cases g6;obtain⟨xv,g5,rfl⟩:=zB B.bZ;obtain⟨lt,g4,rfl⟩:=zB B.own;have g8:c.nd.eqs.length<=9223372036854775807:=by
  rcases B.own.2 with ⟨_,l⟩|⟨g,K,c2,h6,_,_,h3,h4,_⟩
  . omega
  unfold maxLen at h4;omega
 have hR:=@run_makeMap prog;have hQ:∀(fn:Go.Fn) (first K:Xa) (w:Xw),(Instr.makeFunc fn first K).run prog w=.ok (.func fn first K) w:=λ_ _ _ _=>rfl;have ar:=za (λfV gc ge=>xf (((w.alloc fV).alloc gc).alloc ge) (l.am (yR hN fV gc ge)) (by rw[au,au,au];omega));have HEq:=za hm.nd.eqs;go_enter func120,ntmps120;go_upto_region 3 with (go_at_call 114;refine (ar.o _ _ _).mono ?_;rintro e O ⟨f,rfl,bs,dn,c5⟩;have b3:=za dn;have A:=za c5);rw[au,au,au] at bs;refine zn (λW=>hC N c (xE al c C) (xP nb) (w.heap.size+1) (w.heap.size+1+1) w.heap.size f [] W/\xB w W) ⟨⟨⟨[],⟨#[],0,(A.o.block _ (by simp)).trans (iu w _ _ _).2.1,rfl⟩,λp=>by simp[db],λk v l=>by simp[db] at l⟩,l.am (zm (pk A.o) hN),b3.o,(A.o.block _ (by simp)).trans (iu w _ _ _).2.2,(A.o.block _ (by simp;omega)).trans (iu w _ _ _).1,by omega,by omega,by omega,by omega,by have:=(pk A.o).size;omega⟩,pk A.o⟩ ?_;rintro W ⟨H,D⟩;obtain⟨m0,m1,m2,m3,m4,m5,lb,le⟩:=zt ((D.block nb (by omega)).trans B.aC);obtain⟨i0,s1,i1,i2⟩:=zp H.x3;have h:=za H;have d:=za D;go_wp2_with fail;go_loopg [20] (c.nd.eqs.length+1) (λj i wr=>∃(k:Nat) (V:List (Nat×Nat)),k+j=c.nd.eqs.length+1/\k<=c.nd.eqs.length/\i=xI k/\aa (hC N c (xE al c C) (xP nb) (w.heap.size+1) (w.heap.size+1+1) w.heap.size f V wr)/\aa (c.hI=V++(c.nd.eqs.drop k).flatMap (λq=>q.ns.flatMap (fG c q)))/\aa (xB w wr));case atStart=>exact⟨0,[],by omega,aE _,rfl,h.o,rfl,d.o⟩
 case round =>
  obtain⟨k,V,hw,i6,rfl,a2,b4,b0⟩:=hrel;have hg:=zm b0.o hN;by_cases er:k<c.nd.eqs.length
  . obtain⟨ak,rfl⟩:∃ak,ak=wr:=⟨_,rfl⟩;obtain⟨c4,rfl⟩:∃g,g=gk:=⟨_,rfl⟩;obtain⟨q,es⟩:∃q,c.nd.eqs[k]?=some q:=⟨_,av er⟩;have bl:=B.am hg;obtain⟨g,lv,ls,rfl,g2,g3,i5,a0⟩:=lj bl.own bl.eqs es rfl;obtain⟨rb,_,_,rfl,_⟩:=a0.tt.ptr;obtain⟨b2,b1,rfl⟩:=zB a0.own;have hu:=B.ko g rfl;have c0:=za (HEq.o q (aM es)).1;have he:=a2.o.hN;have g9:q.ns.length<=9223372036854775807:=by
     rcases a0.own.2 with ⟨_,l⟩|⟨g,K,c2,h6,_,_,h3,h4,_⟩
     . omega
     unfold maxLen at h4;omega
    have gs:aa (c.hI=(V++q.ns.flatMap (fG c q))++(c.nd.eqs.drop (k+1)).flatMap (λq=>q.ns.flatMap (fG c q))):=(by obtain⟨h1,h2⟩:=aB.1 es;unfold aa;rw[b4.o,dE h1,List.flatMap_cons,h2,bw]);have cs:=za (a2.o.aq (zq ak (.cells #[.slice b2 q.ns.length b1,xI q.a,xP rb] 161)));have c1:=za (jh b0.o (an _) (.cells #[.slice b2 q.ns.length b1,xI q.a,xP rb] 161));have cv:=za (zc ak (.cells #[.slice b2 q.ns.length b1,xI q.a,xP rb] 161));go_wp2_with fail;go_loopg [27] (q.ns.length+1) (λj i wr=>∃(E:Nat) (J:List (Nat×Nat)),E+j=q.ns.length+1/\E<=q.ns.length/\i=xI E/\aa (hC N c (xE al c C) (xP nb) (w.heap.size+1) (w.heap.size+1+1) w.heap.size f J wr)/\aa (V++q.ns.flatMap (fG c q)=J++(q.ns.drop E).flatMap (fG c q))/\aa (xB w wr)/\aa (xH wr ak.heap.size #[.slice b2 q.ns.length b1,xI q.a,xP rb] 161));case atStart=>exact⟨0,V,by omega,aE _,rfl,cs.o,rfl,c1.o,cv.o⟩
    case round =>
     obtain⟨E,J,fv,hv,rfl,z,R,F,I⟩:=hrel;by_cases bt:E<q.ns.length
     . obtain⟨s,fx⟩:∃s,q.ns[E]?=some s:=⟨_,av bt⟩;obtain⟨p,h5⟩:∃p,q.ps[E]?=some p:=⟨_,av (by have:=c0.o;omega)⟩;have eb:bV N ak wr:=λb m=>(zm F.o hN b m).trans (zm b0.o hN b m).symm;have S:=a0.am eb;obtain⟨g7,rfl,g2,g3⟩:=kG S.own fx h5 rfl;have fr:=a0.lo g7 rfl;have bp:=z.o.hN;have a5:aa (V++q.ns.flatMap (fG c q)=(J++fG c q s)++(q.ns.drop (E+1)).flatMap (fG c q)):=(by obtain⟨h1,h2⟩:=aB.1 fx;unfold aa;rw[R.o,dE h1,List.flatMap_cons,h2,bw]);obtain⟨i0,s1,i1,i2⟩:=zp z.o.x3;have hT:=z.o.lk.lt;have Z:=ze I.o;have ca:=za (hW s (p:Int) (wr.alloc (.cells #[.string s,xI p] 144)) (z.o.aq (zq wr _)).sc (z.o.aq (zq wr _)).hN)
       go_upto_region 11 with (first
        | (go_at_call 116;refine (cm.o _).mono ?_;rintro e fd ⟨rfl,bk⟩;have Q:=za (zE bk);have be:=za ((bk.block _ (by simp)).trans (zc O _)))
        | (go_at_call 103;refine ca.o.mono ?_;rintro e O ⟨rfl,c9⟩;have P:=za (zE c9);have ex:=P.o.size;have a3:=za (z.o.aq P.o);have cm:=za (λo=>jW (c.idx s) (O.alloc o) (a3.o.aq (zq O o)).ck)))
       have h7:=Q.o.size;have bx:=F.o.size;refine zn (λW=>hC N c (xE al c C) (xP nb) (w.heap.size+1) (w.heap.size+1+1) w.heap.size f J W/\xB wr W/\xH W O.heap.size #[xI (c.idx s:Nat)] 3/\xH W fd.heap.size #[xI ((c.of (c.idx s)).1:Nat),xI ((c.of (c.idx s)).2:Nat)] 228) ⟨(a3.o.aq Q.o).aq (zq fd _),jh (P.o.trans (Q.o.mono ex)) (an _) _,(Below.heap_alloc _ _ _ (by have:=ze be.o;omega)).trans be.o,zc fd _⟩ ?_;rintro W ⟨H,D,U,eq⟩;obtain⟨i8,i9,kd,kw⟩:=zp eq;obtain⟨i7,h9,io⟩:=zu U;obtain⟨gt,g0,g1⟩:=zu H.x1;obtain⟨lk,ln,it,lo,gl⟩:=zL ((D.block _ Z).trans I.o);have h8:=D.size;have Y:¬O.heap.size=w.heap.size+1:=(by omega);have M:¬ak.heap.size=w.heap.size+1:=(by have:=a2.o.lk.lt;omega);have jK:¬w.heap.size+1+1=w.heap.size+1:=(by omega);have h:=za H;have d:=za D;have a9:=za (λ(fq:List (Nat×Nat)) (W3:Xw) (X:jC N c (xE al c C) (xP nb) (c.idx s) (w.heap.size+1) (w.heap.size+1+1) O.heap.size w.heap.size fq W3) (em:TT W3 N q.r (xP rb))=>xN (Jd N c (xE al c C) (xP nb) (c.idx s) (w.heap.size+1) (w.heap.size+1+1) O.heap.size w.heap.size X.l) q.r (xP rb) fq W3 em X.hN X trivial);by_cases bE:(c.of (c.idx s)).2=0
       . have bL:((c.of (c.idx s)).2:Int)=0:=(by omega);have ck:aa (fG c q s=(bh gH q.r).flatMap (j0 c (c.idx s))):=(by unfold aa fG;simp only[bE,ag,List.nil_append]);have cn:=za (a9.o J W (h.o.on U Y) (S.tt.am (zm d.o bp)));go_wp2_with (go_at_call 173;refine cn.o.mono ?_;rintro e i4 ⟨rfl,T,y⟩);go_roundg (gk-1);case measure=>omega
         have G:=T.lk;rw[xO,<- ck.o] at G;exact⟨E+1,J++fG c q s,by omega,by omega,by go_num,h.o.put G y,a5.o,jj (F.o.trans (d.o.mono bx)) y (by omega),(y.block _ gl M).trans ((d.o.block _ Z).trans I.o)⟩
       have bL:¬((c.of (c.idx s)).2:Int)=0:=(by omega);have ck:aa (fG c q s=[(c.idx s,(c.of (c.idx s)).1)]++(bh gH q.r).flatMap (j0 c (c.idx s))):=(by unfold aa fG;simp only[bE,ae,not_false_eq_true]);have go:=za (rX (c.idx s) (c.of (c.idx s)).1 W h.o.lk)
       go_wp2_with (first
        | (go_at_call 173;refine (a9.o _ i3 (a4.o.on ((x.block _ io Y).trans U) Y) (S.tt.am ((zm d.o bp).trans (x.am h.o.hN (λ_ e=>e▸h.o.l))))).mono ?_;rintro e i4 ⟨rfl,T,y⟩)
        | (go_at_call 183;refine go.o.mono ?_;rintro e i3 ⟨rfl,ds,x⟩;have a4:=za (h.o.put ds x);have iR:=rM x it M))
       go_roundg (gk-1);case measure=>omega
       have G:=T.lk;rw[xO,bw,<- ck.o] at G;exact⟨E+1,J++fG c q s,by omega,by omega,by go_num,a4.o.put G y,a5.o,jj (jj (F.o.trans (d.o.mono bx)) x (by omega)) y (by omega),(y.block _ (by have:=x.size;omega) M).trans ((x.block _ gl M).trans ((d.o.block _ Z).trans I.o))⟩
     have c3:E=q.ns.length:=(by omega);subst c3;rw[List.drop_length,List.flatMap_nil,List.append_nil] at R;go_wp2_with fail;go_roundg (c4-1);case measure=>omega
     refine⟨k+1,J,by omega,by omega,by go_num,z.o,?_,F.o⟩;rw[<- R.o];exact gs.o
  have c3:k=c.nd.eqs.length:=by omega
  subst c3;rw[List.drop_length,List.flatMap_nil,List.append_nil] at b4;obtain⟨gt,g0,g1⟩:=zu a2.o.x1;go_wp2_with fail;go_ret;refine⟨_,rfl,by omega,?_,b0.o⟩;rw[b4.o];exact a2.o.lk
end
section
variable {L:List (Nat×Nat)} {N x f p g t l:Nat} {S:Xs} {s:Xo} {c:Sc} {q u r v:Xv} {w y:Xw}
attribute [local go_sem ↓] Go.wp_at_zero Go.wp_at_succ
structure kO (S:Xs) (p g f l:Nat) (r q:Xv) (N:Nat) (c:Sc) (u v:Xv) (x t:Nat) (L:List (Nat×Nat)) (s:Xo) (w:Xw):Prop where
 rp:cl S p g f l r q s w
 sc:br w N c u v
 lk:dN w t L
 x1:w.heap[x]?=some (.cells #[u,v] 205 (0,0))
 d:∀b,b=x∨b=t->¬b=g/\¬b=f
 l1:N<=g
 l2:N<=f
 hN:N<=w.heap.size
theorem kO.aq (h:kO S p g f l r q N c u v x t L s w)(a:xB w y):kO S p g f l r q N c u v x t L s y :=
 ⟨h.rp.aq a,h.sc.am (zm a h.hN),h.lk.aq a,(a.block _ (ze h.x1)).trans h.x1,h.d,h.l1,h.l2,aJ h.hN a.size⟩
theorem kO.aX {a:Xo}(h:kO S p g f l r q N c u v x t L s w)(m:cl S p g f l r q a y)(d:Fr (RT g f) w y):kO S p g f l r q N c u v x t L a y:=by
 have j:∀{b},(b=x∨b=t)->¬RT g f b:=λi e=>by rcases e with e|e;exact (h.d _ i).1 e;exact (h.d _ i).2 e
 exact⟨m,h.sc.am (d.am h.hN (λk e=>by rcases e with e|e;exact e▸h.l1;exact e▸h.l2)),h.lk.gh (d.block _ h.lk.lt (j (by simp))),(d.block _ (ze h.x1) (j (by simp))).trans h.x1,h.d,h.l1,h.l2,aJ h.hN d.size⟩
theorem JM (a:Nat)(L:List (Nat×Nat))(n m:Nat):kQ a L n (m+1)=(if (n-(m+1),n-(m+1))∈L then [a] else [])++kQ a L n m:=rfl
theorem Hb (S:Xs)(p g f l:Nat)(r q:Xv)(N:Nat)(c:Sc)(b2:eU c)(u v:Xv)(s:Xo)(w:Xw)(hR:cl S p g f l r q s w)(z:br w N c u v)(hN:N<=w.heap.size)(l1:N<=g)(l2:N<=f) :
 xK 58 #[.agg #[u,v],bT g f l] w (λe y=>e=.returned (.tuple #[])/\cl S p g f l r q (c.gb.foldl aj s) y/\Fr (RT g f) w y):=by
 obtain⟨bs,F,M,rfl,rfl,ca⟩:=z.shape;have cm:=ze hR.l;have ck:=ze hR.b;have bt:=za hR;obtain⟨cn,vs,qv,xs,bL,h⟩:=z.nd;cases bL;obtain⟨xv,bE,rfl⟩:=zB h.bZ;obtain⟨c1,bx,rfl⟩:=zB h.own;have a5:=h.bO;have Z:=za (λo=>G0 b2 (w.alloc o) (z.am (mm hN o)) (by rw[au];omega));unfold bT;go_enter func58,ntmps58;go_upto_region 2 with (go_at_call 120;refine (Z.o _).mono ?_;rintro e cs ⟨t,rfl,a0,ar,G⟩;have Y:=za ar;have K:=za ((G.block _ (by simp)).trans (zc w _));have D:=za (zE G));rw[au] at a0;obtain⟨m0,m1,m2,m3,m4,m5,a9,be⟩:=zt ((D.o.block M (by omega)).trans h.aC);obtain⟨bk,s1,bl,a2⟩:=zp K.out;have U:=za (HY c.nd.ab.length (by omega) cs Y.o);go_upto_region 3 with (go_at_call 121;refine U.o.mono ?_;rintro e bp ⟨rfl,al,H⟩;have X:=za al;have n:=za H;have a:=za (jj D.o H (by omega)));refine zn (λW=>kO S p g f l r q N c (xE bs c F) (xP M) w.heap.size t (jm c.nd.ab.length c.hI) s W/\Fr (RT g f) w W) ⟨⟨bt.o.aq a.o,z.am (zm a.o hN),X.o,(n.o.block _ a2 (by omega)).trans K.out,λb e=>by rcases e with e|e <;> exact⟨by omega,by omega⟩,l1,l2,by have:=a.o.size;omega⟩,zy a.o⟩ ?_;rintro W ⟨J,I⟩;obtain⟨m0,m1,m2,m3,m4,m5,a9,be⟩:=zt ((I.block M (by omega) (λe=>by rcases e with e|e <;> omega)).trans h.aC);obtain⟨bk,s1,bl,a2⟩:=zp J.x1;have V:=za J;have T:=za I;go_wp2_with fail;go_loopg [25] (c.nd.ab.length+1) (λj i wr=>∃(k:Nat) (d:Xo),k+j=c.nd.ab.length+1/\k<=c.nd.ab.length/\i=xI k/\aa (kO S p g f l r q N c (xE bs c F) (xP M) w.heap.size t (jm c.nd.ab.length c.hI) d wr)/\aa (c.gb.foldl aj s=(kQ c.nd.a (jm c.nd.ab.length c.hI) c.nd.ab.length (j-1)).foldl aj d)/\aa (Fr (RT g f) w wr));case atStart=>exact⟨0,s,by omega,aE _,rfl,V.o,rfl,T.o⟩
 case round =>
  obtain⟨k,d,b3,cv,rfl,P,a3,R⟩:=hrel;by_cases b4:k<c.nd.ab.length
  . obtain⟨m,rfl⟩:∃m,gk=m+1+1:=⟨gk-1-1,by omega⟩;have a4:=a3.o;rw[show m+1+1-1=m+1 from rfl,JM,show c.nd.ab.length-(m+1)=k by omega,bc] at a4;have C:=za a4;have O:=za (pc k k wr P.o.lk);by_cases Q:(k,k)∈jm c.nd.ab.length c.hI
    . rw[ag Q] at C;rw[decide_eq_true Q] at O
      go_wp2_with (first
       | (go_at_call 124;refine (eg S p g f l r q d c.nd.a _ B.o.rp).mono ?_;rintro e c0 ⟨rfl,ak,E⟩)
       | (go_at_call 122;refine O.o.mono ?_;rintro e bp ⟨rfl,A⟩;have B:=za (P.o.aq A);have n:=za (R.o.trans (zy A));obtain⟨bk,s1,bl,a2⟩:=zp B.o.x1;obtain⟨m0,m1,m2,m3,m4,m5,a9,be⟩:=zt ((n.o.block M (by omega) (λe=>by rcases e with e|e <;> omega)).trans h.aC)))
      go_roundg (m+1);case measure=>omega
      exact⟨k+1,aj d c.nd.a,by omega,by omega,by go_num,B.o.aX ak E,C.o,n.o.trans E⟩
    rw[ae Q] at C;rw[decide_eq_false Q] at O;go_wp2_with (go_at_call 122;refine O.o.mono ?_;rintro e bp ⟨rfl,A⟩;have a:=za A);go_roundg (m+1);case measure=>omega
    exact⟨k+1,d,by omega,by omega,by go_num,P.o.aq a.o,C.o,R.o.trans (zy a.o)⟩
  have b0:k=c.nd.ab.length:=by omega
  subst b0;have:gk=1:=by omega
  subst this;have C:aa (c.gb.foldl aj s=d):=a3.o;go_wp2_with fail;first|go_end0|refine bodyPost_ret (results_none rfl _ _ _) rfl ?_
  refine⟨rfl,?_,R.o⟩;rw[C.o];exact P.o.rp
end
section
variable {s:Int} {m:List (ByteArray×Nat)} {b a c:Nat} {w w':Xw}
attribute [local go_sem ↓] Go.wp_at_zero Go.wp_at_succ
def gM (w:Xw)(b:Nat)(m:List (ByteArray×Nat)):Prop :=
 ∃l:List (ByteArray×Value),fb w b Value.string l/\∀s,(db s l).getD (xI 0)=xI (fa s m:Nat)
theorem gM.gh (h:gM w b m)(f:w'.heap[b]?=w.heap[b]?):gM w' b m:=by obtain⟨l,d,e⟩:=h;exact⟨l,d.of f,e⟩
theorem gM.lt (h:gM w b m):b<w.heap.size:=by obtain⟨l,d,_⟩:=h;exact d.lt
theorem gM.aq (h:gM w b m)(d:xB w w'):gM w' b m:=h.gh (d.block _ h.lt)
theorem Tryz.GR (w:Xw):(zeroValue 3).run prog w=.ok (xI 0) w:=by kernel_rfl
theorem yf (h:gM w b m)(s:Xb) :
 (Instr.lookup 238 (.map (some b)) (.string s) false).run prog w=.ok (xI (fa s m:Nat)) w:=by
 obtain⟨l,d,e⟩:=h;refine (rN Tryz.th underlying238 Tryz.GR d s false).trans ?_;rw[<- e s];rfl
theorem KK (h:gM w b m)(s:Xb)(n:Nat) :
 ∃w',(Instr.mapUpdate 238 (.map (some b)) (.string s) (xI (n:Int))).run prog w=.ok () w'/\gM w' b ((s,n)::m)/\Fr (·=b) w w':=by
 obtain⟨l,g,i⟩:=h;obtain⟨w',r,j,f⟩:=pq Tryz.th underlying238 g s (xI (n:Int));refine⟨w',r,⟨_,j,λd=>?_⟩,f⟩;rw[rJ,fa];by_cases e:s=d
 . rw[ag e,ag e];rfl
 rw[ae e,ae e];exact i d
def hX (m:List (ByteArray×Nat))(s:Int)(t:Tm):Int:=if t.k=9∨t.k=4 then wrap64 (s+(fE m t:Nat)) else s
structure kh (a c b:Nat) (m:List (ByteArray×Nat)) (s:Int) (w:Xw):Prop where
 x1:w.heap[a]?=some (.cells #[xI s] 3 (0,0))
 x2:w.heap[c]?=some (.cells #[.map (some b)] 238 (0,0))
 cm:gM w b m
 d1:¬c=a
 d2:¬b=a
theorem kh.aq (h:kh a c b m s w)(d:xB w w'):kh a c b m s w' :=
 ⟨(d.block _ (ze h.x1)).trans h.x1,(d.block _ (ze h.x2)).trans h.x2,h.cm.aq d,h.d1,h.d2⟩
theorem kh.put (h:kh a c b m s w)(d:Int):kh a c b m d (w.setCell (xD a 0) (xI d)) :=
 ⟨r2 h.x1 _,zr h.d1 h.x2,h.cm.gh (zr h.d2 rfl),h.d1,h.d2⟩
theorem K1:zH 185:=λ_ _=>by kernel_rfl
theorem IG (N:Nat)(n:ay)(a c b:Nat)(m:List (ByteArray×Nat))(E:∀s,fa s m<=61)(y:N<=a) :
 nX N (·=a) 185 #[xP a,xP c] (λ_=>True) n (λs _ t=>hX m s t) (kh a c b m) where
 enters:=K1
 hT:=λ_ e=>e▸y
 aq:=λs w w' h O=>h.aq O
 sub:=λ_ _ _ _=>trivial
 root:=λ_ _=>trivial
 call:=by
  intro q lv a0 t v s w _ x hT _ hN d _;obtain⟨bt,C,vs,rfl,P,g,_⟩:=hT.ptr;obtain⟨ak,J,rfl⟩:=zB x.own;obtain⟨Z,_,_,rfl,_⟩:=x.tt.ptr;have z:=za (λo=>d.aq (zq w o));obtain⟨u,S,F,T,U,V,X,Y⟩:=zt g;obtain⟨A,B,D⟩:=zu d.x1;obtain⟨G,H,I⟩:=zu d.x2;have al:=d.d1;have Q:¬bt=a:=by omega
  have p:=λo=>yf (d.aq (zq w o)).cm t.s;have L:=E t.s;clear hT g x E
  show Calls prog _ #[.agg #[.slice ak q.ns.length J,xI q.a,xP Z],xP bt,xP a,xP c] w _;by_cases i:t.k=9
  . have k:aa (hX m s t=wrap64 (s+1)):=by unfold aa hX fE;rw[ag (ao i),ag i];rfl
    have r:w.cell? (xD bt 0)=some (xI 9):=(by rw[u,i];rfl);clear i u;go_enter func185,ntmps185;go_wp2_with fail;go_ret;rw[k.o];exact⟨rfl,(d.put _).aq (zq _ _),(Fr.aY (Fr.refl _ w) _ _).alloc _⟩
  by_cases l:t.k=4
  . have k:aa (hX m s t=wrap64 (s+(1+(fa t.s m:Nat)))):=by unfold aa hX fE;rw[ag (ap l),ae i,ag l];rfl
    have r:w.cell? (xD bt 0)=some (xI 4):=(by rw[u,l];rfl);have R:wrap64 (1+(fa t.s m:Int))=1+(fa t.s m:Int):=(by unfold wrap64;omega);clear i l u;go_enter func185,ntmps185;go_upto_region 5 with fail;refine zn (λW=>kh a c b m s W/\xB w W) ⟨z.o _,zq w _⟩ ?_;rintro W ⟨f,j⟩;clear A B D G H I p;obtain⟨A,B,D⟩:=zu f.x1;obtain⟨G,H,I⟩:=zu f.x2;have ar:=zd j F Y;have p:(Instr.lookup 238 (.map (some b)) (.string t.s) false).run prog W.drew=.ok (xI (fa t.s m:Nat)) W.drew:=yf (w:=W.drew) (f.cm.gh (w':=W.drew) rfl) t.s;clear r S F T U V X;go_region;go_wp2_with fail;go_ret;rw[k.o];exact⟨rfl,(f.put _).aq (zo (Below.refl _ _)),(Fr.aY (zy j) _ _).trans (zy (zo (Below.refl _ _)))⟩
  have k:aa (hX m s t=s):=by unfold aa hX;rw[ae (by omega)]
  have M:¬(t.k:Int)=9:=by omega
  have K:¬(t.k:Int)=4:=by omega
  clear i l;go_enter func185,ntmps185;go_wp2_with fail;go_ret;rw[k.o];exact⟨rfl,z.o _,zy (zq w _)⟩
end
end Go.Proofs.YtmfkofhgdjechaaGreatDoor
