/- Part 27 of the proof. -/
import Derived.Test.YtmfkofhgdjechaaGreatDoorK25
set_option maxRecDepth 100000
set_option maxHeartbeats 8000000
namespace Go.Proofs.YtmfkofhgdjechaaGreatDoor
open Go.Proofs.Tryz
open Go.RowKit
section
attribute [local go_sem ↓] Go.wp_at_zero Go.wp_at_succ
theorem E9 {N R:Nat}{eq:Xv}{b:List Nd}{o:Xo}(M:Nat->Nat)(ar:aa (E2 b M)):∀(k:Nat) (d:Nd),b[k]?=some d->∀(w:Xw),Ak w N R eq b o ->
 xK 146 #[xP R,xI k] w (λe w'=>e=.returned (xI (M k:Nat))/\xB w w'):=by
 intro k;induction k using Nat.strongRecOn with
 | ind k ca =>
   intro d O w h;have H:=za ca;have ak:=za (ar.o.eq k d O);have Z:=za (ar.o.call k d O);obtain⟨na,ck,rfl,h6,h3⟩:=h.ns;obtain⟨g,bx,bL,bE,b0,z,b1,bp,bt,bs,rfl,hg,eb,n1,n2,n3,em,P⟩:=h3 k d O;have Y:=za h;obtain⟨c0,c1,E,c5⟩:=zp h.aC;have a9:=(aB.1 O).1;have b2:=h.lt;obtain⟨L,a2⟩:∃L,b.length=L:=⟨_,rfl⟩;have al:=za a2;rw[a2] at h6 a9 c0 Y H;have a5:g<w.heap.size:=(by omega);have u:=za P;clear h h3 a2 P ca;go_enter func146,ntmps146;go_wp2_with fail;obtain⟨U,y⟩:∃U,w.alloc (.cells #[.string d.nm,xI d.a,.slice bx bL bE,.slice b0 z b1,.slice bp bt bs] 103)=U:=⟨_,rfl⟩;have s:aa (xB w U):=y▸(Below.refl _ w).alloc (an _) _
   have I:aa (bq w U N R w.heap.size (xS g L ck) b o (.slice bx bL bE) (.slice b0 z b1) (.slice bp bt bs) d) :=
    ⟨Y.o.on s.o,Fr.dp s.o,y▸zc w _,u.o.aH (s.o.mono (by omega)),an _,c5⟩
   rw[y];obtain⟨X,b3⟩:∃X,d.az.length=X:=⟨_,rfl⟩;have a0:=za b3;have cv:X<=100000:=(by obtain⟨_,_,_,h,_⟩:=u.o.xs;omega);have bl:z=X:=(by obtain⟨_,_,h,_,_⟩:=u.o.xs;injection h with _ h _;omega);subst bl;clear y u Y c0 c1 E eb n1 n2 n3 em a5 b3 O;go_loopg [5,7] (z+1) (λj c i wr=>∃m C:Nat,m+j=z+1/\m<=z/\C<=60/\c=xI C/\i=xI m/\aa (C=gC b k M (d.az.take m))/\aa (bq w wr N R w.heap.size (xS g L ck) b o (.slice bx bL bE) (.slice b0 z b1) (.slice bp bt bs) d)/\aa (xB w wr));case atStart=>exact⟨0,0,by omega,aE _,aE _,rfl,rfl,rfl,I,s⟩
   case round =>
    obtain⟨m,C,c4,T,cs,rfl,rfl,K,p,q⟩:=hrel;clear I s;obtain⟨ge,s1,s2,gl,go,gs,gt⟩:=bz p.o.bx;by_cases c3:m<z
    . obtain⟨e,S⟩:∃e,d.az[m]?=some e:=⟨_,av (by have:=a0.o;omega)⟩;obtain⟨ev,ex,bk,_,Q⟩:=p.o.nd.xs;injection bk with c9 dn ds
      subst c9 ds;obtain⟨cn,gc,rfl,c2,⟨fd,fq,fr,fv,fx,fV⟩,_⟩:=Q m e S;have b4:cn<wr.heap.size:=(by have:=p.o.size;omega);have a:=EK (nds:=b) (k:=k) (M:=M) S;rw[<- K.o] at a;have n:=FJ (nds:=b) (k:=k) (M:=M) (l:=d.az) (m+1);rw[a,q4] at n;rw[q4] at a;have G:=za (Z.o e (aM S));clear Q S dn K;cases V:(e.op.toList==[102,98,121]) with
      | true =>
        have W:(e.op.toList==[99,97,108,108])=false:=(by rw[beq_iff_eq] at V;rw[V];rfl);rw[ag V] at a n;have t:=za a.symm;have B:=za n;clear a n;by_cases T:C+1<=60
        . have x:¬((60:Int)<(C:Int)+1):=(by omega);go_wp2_with fail;go_roundg (gk-1);(try (case measure=>omega))
          exact⟨m+1,C+1,by omega,by omega,T,by go_num,by go_num,t,p,q⟩
        have x:(60:Int)<(C:Int)+1:=(by omega);go_wp2_with fail;go_ret;exact⟨by rw[ak.o,show min (gC b k M d.az) 61=61 by have:=B.o;omega];rfl,q.o⟩
      | false =>
        rw[ae (by rw[V];simp)] at a n;cases W:(e.op.toList==[99,97,108,108]) with
        | false =>
          rw[ae (by rw[W];simp)] at a;have t:=za a.symm;have x:¬((60:Int)<(C:Int)):=(by omega);clear a n;go_wp2_with fail;go_roundg (gk-1);(try (case measure=>omega))
          exact⟨m+1,C,by omega,by omega,cs,rfl,by go_num,t,p,q⟩
        | true =>
          obtain⟨f,E⟩:=G.o W;rw[ag W,E] at a n;simp only at a n;have a4:f<k:=(by obtain⟨_,h,_⟩:=q7 E;rw[List.length_take] at h;omega);have a3:M f<=61:=(by rw[ar.o.eq f _ (av (show f<b.length by have:=al.o;omega))];omega);have v:=za (lX e.s k (by have:=al.o;omega) wr p.o.ak);rw[E] at v;unfold bC at v;have D:=za (H.o f a4 _ (av (show f<b.length by have:=al.o;omega)) wr p.o.ak);obtain⟨F,hF⟩:∃F,M f=F:=⟨_,rfl⟩;rw[hF] at D a n a3;have t:=za a.symm;have B:=za n;clear a n hF E G;by_cases T:C+1+F<=60
          . have x:¬((60:Int)<(C:Int)+1+(F:Int)):=(by omega)
            go_wp2_with (first
             | (go_at_call 146;refine D.o.mono ?_;rintro e' es ⟨rfl,r⟩;have J:=za (p.o.on r);have A:=za (q.o.trans (r.mono q.o.size));clear r)
             | (go_at_call 95;refine v.o.mono ?_;rintro e' er ⟨rfl,rfl⟩))
            go_roundg (gk-1);(try (case measure=>omega))
            exact⟨m+1,C+1+F,by omega,by omega,T,by go_num,by go_num,by unfold aa;rw[<- t.o];omega,J,A⟩
          have x:(60:Int)<(C:Int)+1+(F:Int):=(by omega)
          go_wp2_with (first
           | (go_at_call 146;refine D.o.mono ?_;rintro e' es ⟨rfl,r⟩;have J:=za (p.o.on r);have A:=za (q.o.trans (r.mono q.o.size));clear r)
           | (go_at_call 95;refine v.o.mono ?_;rintro e' er ⟨rfl,rfl⟩))
          go_ret;exact⟨by rw[ak.o,show min (gC b k M d.az) 61=61 by have:=B.o;omega];rfl,A.o⟩
    have be:m=z:=(by omega);subst be;have cm:M k=C:=(by rw[ak.o,K.o,de (by have:=a0.o;omega)];have:=K.o;rw[de (by have:=a0.o;omega)] at this;omega);clear K;go_wp2_with fail;go_ret;exact⟨by rw[cm];rfl,q.o⟩
end
section
variable {b:List Nd} {r:Nat} {M:Nat->Nat} {T:Nat->Nat->List Nat} {w:Xw}
attribute [local go_sem ↓] Go.wp_at_zero Go.wp_at_succ
theorem Fo {q:Qw}{l:List ax}(h:eX w r q l)(N:l.length<=100000)(L:∀x∈l,x.ns.length<=100000/\(∀s∈x.ns,s.size<=1200)/\x.ps.length<=100000):lH w w.heap.size q.v l:=by
 obtain⟨A,B,J⟩:=h;rw[tU l q.fk A] at B;obtain⟨a,j,e,K⟩:=ga B;refine⟨a,j,e,N,λx f n=>?_⟩;obtain⟨u,R,S⟩:=qy A n;obtain⟨C,D⟩:=J x f u n R;obtain⟨O,Q,P⟩:=L f (aM n);have E:=CC C O Q;have F:=vq D P;obtain⟨W,X,z,_⟩:=ga C;obtain⟨U,V,y,_⟩:=ga D;rw[z] at E;rw[y] at F;have c:∀i v,i<4->(ii f u)[i]?=some v->∃g,a=some (xD g 0)/\g<w.heap.size/\xC w g (x*4+i) v:=λi v k m=>K _ _ ((n7 (by decide) (λp:ax×(Value×Value)=>ii p.1 p.2) (λ_=>rfl) _ x i (f,u) S k).trans m);obtain⟨g,t,I,H⟩:=c 0 _ (by decide) rfl;have d:∀i v,i<4->(ii f u)[i]?=some v->xC w g (x*4+i) v:=λi v k m=>by obtain⟨Y,o,_,G⟩:=c i v k m;rw[t] at o;cases o;exact G
 exact⟨g,W,X,U,V,t,I,z▸H,y▸d 1 _ (by decide) rfl,d 2 _ (by decide) rfl,d 3 _ (by decide) rfl,E,F⟩
theorem Gk {n:Nw}(h:fu w r n b)(S:b.length<=6)(U:∀d∈b,qI d/\∀q∈d.eqs,q.ps.length<=100000):mL w w.heap.size n.v b:=by
 obtain⟨E,F,Q⟩:=h;rw[ui b n.fk E] at F;obtain⟨a,m,e,R⟩:=ga F;refine⟨a,m,e,S,λk d o=>?_⟩;obtain⟨l,x,V⟩:=qy E o;obtain⟨f,t⟩:=U d (aM o);obtain⟨G,H,I⟩:=Q k d l o x;have J:=DZ G f.ab f.small.ab;have K:=Ep H f.az f.ah;have L:=Fo I (by have:=f.eqs;omega) (λq u=>⟨f.ns q u,f.small.eqs q u,t q u⟩);obtain⟨Y,Z,C,_⟩:=ga G;obtain⟨ak,al,D,_⟩:=ga H.2.1;obtain⟨W,X,B,_⟩:=ga I.2.1;rw[C] at J;rw[D] at K;rw[B] at L;have c:∀i v,i<5->(iU d l)[i]?=some v->∃g,a=some (xD g 0)/\g<w.heap.size/\xC w g (k*5+i) v:=λi v s y=>R _ _ ((n7 (by decide) (λp:Nd×Sub=>iU p.1 p.2) (λ_=>rfl) _ k i (d,l) V s).trans y);obtain⟨g,A,P,O⟩:=c 0 _ (by decide) rfl;have j:∀i v,i<5->(iU d l)[i]?=some v->xC w g (k*5+i) v:=λi v s y=>by obtain⟨g',z,_,N⟩:=c i v s y;rw[A] at z;cases z;exact N
 exact⟨g,Y,_,Z,ak,_,al,W,_,X,A,P,O,j 1 _ (by decide) rfl,C▸j 2 _ (by decide) rfl,D▸j 3 _ (by decide) rfl,B▸j 4 _ (by decide) rfl,J,K,L⟩
def iB (b:List Nd)(T:Nat->Nat->List Nat)(M:Nat->Nat):Nat->Nat->Nat×Nat
 | 0,_=>if 60<M (b.length-1) then (9,0) else (0,0)
 | f+1,q=>match zO (hh b (T q)) with
   | some p=>(4+q,p)
   | none=>iB b T M f (q+1)
structure EM (b:List Nd) (T:Nat->Nat->List Nat) (M:Nat->Nat):Prop where
 q:∀q,q<5->(∀p,p<q->zO (hh b (T p))=none)->∀N ab nv,Gp N ab nv b q (T q)
 m:(∀p,p<5->zO (hh b (T p))=none)->E2 b M
def ov (b:List Nd)(T:Nat->Nat->List Nat)(q:Nat):Prop:=∀p,p<q->zO (hh b (T p))=none
theorem v8:∀(q f:Nat),ov b T q->iB b T M (q+f) 0=iB b T M f q
 | 0,f,_=>by rw[Nat.zero_add]
 | q+1,f,h=>by rw[show q+1+f=q+(f+1) by omega,v8 q (f+1) (λp a=>h p (by omega)),iB,h q (cf q)]
theorem FW {q p:Nat}(c:q<5)(h:ov b T q)(a:zO (hh b (T q))=some p):iB b T M 5 0=(4+q,p):=by have e:=v8 (M:=M) q (5-q) h;rw[show q+(5-q)=5 by omega] at e;rw[e,show 5-q=(5-q-1)+1 by omega,iB,a]
theorem v7 (s:Xb)(b:List Nd)(T:Nat->Nat->List Nat)(M:Nat->Nat)(ak:aa (EM b T M))(h0:1<=b.length)(h6:b.length<=6)(bt:∀d∈b,qI d/\∀q∈d.eqs,q.ps.length<=100000)(w:Xw)
 (hR:xK 87 #[.string s] w (λe w'=>∃(r:Nat) (n:Nw),w.heap.size<=r/\e=.returned (.tuple #[n.v,xI 0,xI 0])/\fu w' r n b/\xB w w')) :
 xK 86 #[.string s] w (λe w'=>∃v,e=.returned (.tuple #[v,.int .i64 (iB b T M 5 0).1,.int .i64 (iB b T M 5 0).2])/\xB w w'):=by
 have bp:=za hR;have bl:=za bt;clear hR bt;go_enter func86,ntmps86;go_upto_region 4 with (go_at_call 87;refine bp.o.mono ?_;rintro e H ⟨r,n,be,rfl,t,y⟩;have a2:=Gk t h6 bl.o;obtain⟨F,G,X,_⟩:=ga t.2.1;rw[X] at a2 ⊢;have Z:=za a2;have Y:=za y;clear t y a2 X be);go_wp2_with fail;obtain⟨L,a3⟩:∃L,b.length=L:=⟨_,rfl⟩;have bk:=za a3;rw[a3] at h0 h6 Z ⊢;obtain⟨N,t⟩:∃N,H.heap.size=N:=⟨_,rfl⟩;rw[t] at Z;obtain⟨J,m⟩:∃J,(H.alloc (.cells #[.slice F L G,xI 0] 193)).alloc (.cells #[xI 4,xI 5,xI 6,xI 7,xI 8] 266)=J:=⟨_,rfl⟩;have A:aa (Below N H J):=m▸t▸cT H _ _;have O:aa (Ak J N N (.slice F L G) b (some 0)):=⟨by rw[<- m,<- t];exact (Below.heap_alloc _ _ _ (by simp)).trans (zc H _),Z.o.aH A.o,an _⟩;have U:J.heap[N+1]?=some (.cells #[xI 4,xI 5,xI 6,xI 7,xI 8] 266 (0,0)):=by rw[<- m,<- t];have:=zc (H.alloc (.cells #[.slice F L G,xI 0] 193)) (.cells #[xI 4,xI 5,xI 6,xI 7,xI 8] 266);rwa [au] at this
 rw[m,t];have Q:aa (xB w J):=Y.o.trans (A.o.mono (by have:=Y.o.size;omega));have bx:w.heap.size<=N:=by have:=Y.o.size;omega
 clear m Y A Z a3 bp bl t;go_loopg [7,10] 5 (λj a0 i wr=>∃(q:Nat) (z:Int) (o:Xo),q+j=5/\a0=xI z/\i=xI q/\aa (ov b T q)/\aa (Ak wr N N (.slice F L G) b o)/\xH wr (N+1) #[xI 4,xI 5,xI 6,xI 7,xI 8] 266/\aa (xB w wr));case atStart=>exact⟨0,0,some 0,rfl,rfl,rfl,λp bE=>by omega,O,U,Q⟩
 case round =>
  obtain⟨q,z,o,b0,rfl,rfl,u,P,V,g⟩:=hrel;clear O U Q;obtain⟨x0,x1,x2,x3,b2,b3,b1⟩:=bz V;by_cases a5:q<5
  . have f:=za (Fv q a5 (T q) (ak.o.q q a5 u.o N N (.slice F L G)) wr P.o);have R:∀W:Xw,Fr (λk=>k=N) wr W->xB w W/\xH W (N+1) #[xI 4,xI 5,xI 6,xI 7,xI 8] 266:=λW hF=>⟨g.o.trans (hF.below g.o.size (λk e=>by omega)),(hF.block _ b1 (by omega)).trans V⟩;have x:=za R;clear R;cases E:zO (hh b (T q)) with
    | some p =>
      rw[E] at f;have a:=za (FW (M:=M) a5 u.o E);unfold bC at f;have bL:(0:Int)<=(p:Int):=(by omega);clear E ak u;rcases (by omega:q=0∨q=1∨q=2∨q=3∨q=4) with rfl|rfl|rfl|rfl|rfl
      all_goals
       go_upto_region 11 with (go_at_call 145;refine f.o.mono ?_;rintro e I ⟨rfl,_,hF⟩;obtain⟨l,D⟩:=x.o I hF;have c:=za l;clear l hF;obtain⟨b4,ca,ck,cm,cn,cs,cv⟩:=bz D);go_region;go_wp2_with fail;have h:xB w I.drew:=⟨c.o.os,c.o.tape,c.o.output,c.o.size,c.o.block⟩
       first
        | exact bodyPost_ret (v:=.tuple #[.slice none 0 0,xI 4,xI p]) (by simp[results,results86,go_sem]) rfl ⟨_,by rw[a.o];rfl,h⟩
        | exact bodyPost_ret (v:=.tuple #[.slice none 0 0,xI 5,xI p]) (by simp[results,results86,go_sem]) rfl ⟨_,by rw[a.o];rfl,h⟩
        | exact bodyPost_ret (v:=.tuple #[.slice none 0 0,xI 6,xI p]) (by simp[results,results86,go_sem]) rfl ⟨_,by rw[a.o];rfl,h⟩
        | exact bodyPost_ret (v:=.tuple #[.slice none 0 0,xI 7,xI p]) (by simp[results,results86,go_sem]) rfl ⟨_,by rw[a.o];rfl,h⟩
        | exact bodyPost_ret (v:=.tuple #[.slice none 0 0,xI 8,xI p]) (by simp[results,results86,go_sem]) rfl ⟨_,by rw[a.o];rfl,h⟩
    | none =>
      rw[E] at f;unfold bC at f;have ar:aa (ov b T (q+1)):=λp bE=>by
       by_cases e:p=q
       . rw[e];exact E
       exact u.o p (by omega)
      clear E u;go_wp2_with (go_at_call 145;refine f.o.mono ?_;rintro e I ⟨rfl,S,hF⟩;obtain⟨l,D⟩:=x.o I hF;have c:=za l;have al:=za S;clear l hF S);go_roundg (gk-1);(try (case measure=>omega))
      exact⟨q+1,-1,none,by omega,rfl,by go_num,ar,al,D,c⟩
  have a9:q=5:=by omega
  subst a9;have B:=za (E9 M (ak.o.m u.o) (L-1) _ (av (show L-1<b.length by have:=bk.o;omega)) wr P.o);have C:iB b T M 5 0=if 60<M (b.length-1) then (9,0) else (0,0):=v8 (M:=M) 5 0 u.o;rw[bk.o] at C;have a:=za C;clear C;obtain⟨K,bs⟩:∃K,M (L-1)=K:=⟨_,rfl⟩;rw[bs] at B a;have hw:IntKind.i64.wrap ((L:Int)-1)=((L-1:Nat):Int):=by rw[IntKind.wrap_i64] <;> omega
  clear ak u bs;by_cases hm:60<K
  . have a4:(60:Int)<(K:Int):=by omega
    rw[ag hm] at a;go_wp2_with (go_at_call 146;refine B.o.mono ?_;rintro e I ⟨rfl,y⟩;have c:=za (g.o.trans (y.mono g.o.size));clear y);refine bodyPost_ret (v:=.tuple #[.slice none 0 0,xI 9,xI 0]) (by simp[results,results86,go_sem]) rfl ⟨_,by rw[a.o];rfl,c.o⟩
  have a4:¬(60:Int)<(K:Int):=by omega
  rw[ae hm] at a;go_wp2_with (go_at_call 146;refine B.o.mono ?_;rintro e I ⟨rfl,y⟩;have c:=za (g.o.trans (y.mono g.o.size));clear y);refine bodyPost_ret (v:=.tuple #[.slice F L G,xI 0,xI 0]) (by simp[results,results86,go_sem]) rfl ⟨_,by rw[a.o];rfl,c.o⟩
theorem vL (s:Xb)(c a:Nat)(i:1<=c)(w:Xw)(f:xK 87 #[.string s] w (λe d=>e=.returned (.tuple #[.slice none 0 0,xI c,xI a])/\xB w d)) :
 xK 86 #[.string s] w (λe d=>∃v,e=.returned (.tuple #[v,xI c,xI a])/\xB w d):=by
 have g:=za f;have j:((c:Int) != 0)=true:=by rw[bne_iff_ne];omega
 clear f;go_enter func86,ntmps86;go_wp2_with (go_at_call 87;refine g.o.mono ?_;rintro e k ⟨rfl,h⟩);exact bodyPost_ret (v:=.tuple #[.slice none 0 0,xI c,xI a]) (by simp[results,results86,go_sem]) rfl ⟨_,rfl,h⟩
theorem vM (s:Xb)(c a:Nat)(w:Xw)(f:xK 86 #[.string s] w (λe d=>∃v,e=.returned (.tuple #[v,xI c,xI a])/\xB w d)) :
 xK 39 #[.string s] w (λe d=>e=.returned (.tuple #[xI c,xI a])/\xB w d):=by
 have g:=za f;clear f;go_enter func39,ntmps39;go_wp2_with (go_at_call 86;refine g.o.mono ?_;rintro e i ⟨v,rfl,h⟩);exact bodyPost_ret (v:=.tuple #[xI c,xI a]) (by simp[results,results39,go_sem]) rfl ⟨rfl,h⟩
end
section
variable {l:Xk} {A:List Nd} {N z r t n:Nat} {T:Xj} {o:Xo} {C v:Xv} {W w:Xw}
attribute [local go_sem ↓] Go.wp_at_zero Go.wp_at_succ
theorem ww {f:Array Oper}{b:List Oper}{o:Oper}{a:Act}{Q:Exit->Act->World->Prop}(W:Xw)(i:o.guard=none)(s x:Operand)(I:o.op=.call { callee:=.builtin .append,args:=#[s,x],argTypes:=#[174,174] })
 (B:Nat) (v:Xv) (k:Nat) (E:Xm) (y:Bool) (J:a.eval s=v) (e:W.ownsRow B 4 1 v k E) (L:a.eval x=xS W.heap.size 1 1) (R:k+1<=100001) (P:B<=W.heap.size)
 (h:∀g c D,D.ownsRow B 4 1 (xS g (k+1) c) (k+1) (E++[.bool y])->Fr (λj=>v.ownBlock=some j) (W.alloc (.cells #[.bool y] 4)) D->wpList prog f Q b (a.put o.dst (xS g (k+1) c)) D) :
 wpList prog f Q (o::b) a (W.alloc (.cells #[.bool y] 4)):=by
 obtain⟨M,r,m,p,q⟩:=info_parts Tryz.s5;refine o4 _ i s x 174 I B 4 M _ 1 1 underlying174 r m p q rfl (by decide) v k E J (zD e _) (xD W.heap.size 0) 1 1 [.bool y] L rfl (zN (zc W _) rfl) (λu K=>by rw[cu.1 K];rfl) (by unfold maxLen;omega) (by omega) (by simp;omega) ?_;intro S O F H _;obtain⟨G,d,rfl,_⟩:=zM F (by omega);exact h G d O F (Fr.gi H)
def cE (w:Xw)(t r:Nat)(v:Xv)(n:Nat)(l:Xk):Prop:=r<=w.heap.size/\∃a c,v=.slice a n c/\∀i b,l[i]?=some b->∃g,a=some (xD g 0)/\t<=g/\g<r/\w.cell? (xD g i)=some (.bool b)
def eG (a:Xh)(n:Nat):List Bool:=(List.range n).map a
theorem FO (a:Xh)(n:Nat):eG a (n+1)=eG a n++[a n]:=by unfold eG;rw[List.range_succ,List.map_append];rfl
theorem oQ {a:Xh}{i:Nat}(h:i<n):(eG a n)[i]?=some (a i):=by unfold eG;rw[List.getElem?_map,List.getElem?_range h];rfl
theorem oU {B:Nat}(h:w.ownsRow B 4 1 v n (cZ l)):cE w B w.heap.size v n l:=by obtain⟨a,c,e,k⟩:=ga h;refine⟨an _,a,c,e,λi b r=>?_⟩;obtain⟨g,d,f,j⟩:=k i _ (by unfold cZ;rw[List.getElem?_map,r];rfl);subst d e;exact⟨g,rfl,(h.lt g rfl).1,f,j⟩
theorem cE.low {c:Nat}(h:cE w t r v n l)(q:c<=t):cE w c r v n l:=by obtain⟨m,a,d,e,p⟩:=h;refine⟨m,a,d,e,λi b r=>?_⟩;obtain⟨g,f,j,k⟩:=p i b r;exact⟨g,f,aJ q j,k⟩
theorem cE.fr (h:cE w t r v n l)(hF:Fr T w W)(s:∀k,T k->k<t∨r<=k):cE W t r v n l:=by obtain⟨p,a,c,e,q⟩:=h;refine⟨aJ p hF.size,a,c,e,λi b r=>?_⟩;obtain⟨g,d,f,j,m⟩:=q i b r;exact⟨g,d,f,j,(World.cell?_of_block (w:=w) (a:=(xD g i)) (hF.block g (by omega) (λe=>by have:=s g e;omega))).trans m⟩
theorem cE.on (h:cE w t r v n l)(a:xB w W):cE W t r v n l:=h.fr (T:=λ_=>False) (Fr.dp a) (λ_ e=>e.elim)
theorem cE.aX (h:cE w t r v n l)(a:z<t)(hF:Fr (λk=>k=z) w W):cE W t r v n l:=h.fr hF (λk e=>by omega)
theorem bq.row {wr:Xw}{b:Nat}{s u q:Xv}{d:Nd}(h:bq w wr N z b C A o s u q d)(hF:Fr T wr W)(c:∀k,T k->b<k):bq w W N z b C A o s u q d:=by have i:=h.lo;have f:=h.al;have j:=h.ak.lt;have m:=hF.below (B:=N) h.size (λk e=>by have:=c k e;omega);have g:=ze h.bx;refine⟨⟨(hF.block z (ze h.ak.aC) (λe=>by have:=c z e;omega)).trans h.ak.aC,h.ak.ns.aH m,j⟩,?_,(hF.block b g (λe=>by have:=c b e;omega)).trans h.bx,h.nd.aH m,i,f⟩;have a:=hF.below (B:=w.heap.size) (by omega) (λk e=>by have:=c k e;omega);exact⟨a.os.trans h.fr.os,a.tape.trans h.fr.tape,a.output.trans h.fr.output,by have:=a.size;have:=hF.size;have:=h.fr.size;omega,λk p x=>(a.block k p).trans (h.fr.block k p x)⟩
theorem re (k:Nat)(d:Nd)(l3:A[k]?=some d)(bp:Xh)(m3:aa (∀i e,d.az[i]?=some e->p3 A k d bp i e))(w:Xw)(h:Ak w N z C A o) :
 xK 248 #[xP z,xI k] w (λe J=>∃er,e=.returned er/\cE J w.heap.size J.heap.size er d.az.length (eG bp d.az.length)/\xB w J):=by
 obtain⟨tn,h0,rfl,n1,h3⟩:=h.ns;obtain⟨g,h8,io,h9,iR,V,i0,h1,h4,h2,rfl,ta,rp,rs,rt,rx,ry,c0⟩:=h3 k d l3;have fv:=za h;obtain⟨ln,m9,a3,ps⟩:=zp h.aC;have hu:=(aB.1 l3).1;have l2:=h.lt;obtain⟨L,g2⟩:∃L,A.length=L:=⟨_,rfl⟩;have i6:=za g2;rw[g2] at n1 hu ln fv;have hg:g<w.heap.size:=by omega
 have M:=za c0;have m2:=za h3;obtain⟨X,g3⟩:∃X,d.az.length=X:=⟨_,rfl⟩;have m4:=za g3;have of:X<=100000:=by obtain⟨_,_,_,h,_⟩:=M.o.xs;omega
 have hT:V=X:=by obtain⟨_,_,h,_,_⟩:=M.o.xs;injection h with _ h _;omega
 rw[g3];subst hT;clear h h3 g2 c0 g3;go_enter func248,ntmps248;go_wp2_with fail;obtain⟨fr,R⟩:∃fr,w.alloc (.cells #[.string d.nm,xI d.a,.slice h8 io h9,.slice iR V i0,.slice h1 h4 h2] 103)=fr:=⟨_,rfl⟩;have F:aa (xB w fr):=R▸(Below.refl _ w).alloc (an _) _
 have b2:aa (bq w fr N z w.heap.size (xS g L h0) A o (.slice h8 io h9) (.slice iR V i0) (.slice h1 h4 h2) d) :=
  ⟨fv.o.on F.o,Fr.dp F.o,R▸zc w _,M.o.aH (F.o.mono (by omega)),an _,ps⟩
 rw[R];clear R M fv ln m9 a3 rp rs rt rx ry hg;go_loopg [6,7] (V+1) (λj er i wr=>∃(m:Nat) (bx:Xp) (bE:Nat),m+j=V+1/\m<=V/\er=.slice bx m bE/\i=xI m/\aa (bq w wr N z w.heap.size (xS g L h0) A o (.slice h8 io h9) (.slice iR V i0) (.slice h1 h4 h2) d)/\aa (xB w wr)/\aa (wr.ownsRow (w.heap.size+1) 4 1 (.slice bx m bE) m (cZ (eG bp m))));case atStart=>exact⟨0,none,0,by omega,aE _,rfl,rfl,b2,F,World.ownsRow_nil _ _ _ _⟩
 case round =>
  obtain⟨m,bx,bE,pl,te,rfl,rfl,D,fx,eq⟩:=hrel;clear b2 F;obtain⟨ev,s1,s2,ex,fd,fq,ds⟩:=bz D.o.bx;by_cases pe:m<V
  . obtain⟨e,he⟩:∃e,d.az[m]?=some e:=⟨_,av (by have:=m4.o;omega)⟩;have x:=za (m3.o m e he);obtain⟨st,sE,hR,_,dn⟩:=D.o.nd.xs;injection hR with pt qr qs
    subst pt qs;clear qr;obtain⟨nx,tm,rfl,os,⟨na,nb,nd,lt,ne,nm⟩,mp,m0,rfl,o8,cv⟩:=dn m e he;have l6:nx<wr.heap.size:=(by have:=D.o.size;omega);have al:=za cv;obtain⟨bL,I⟩:∃bL,e.ah.length=bL:=⟨_,rfl⟩;have ak:=za I;rw[I] at lt;clear dn he cv I;go_upto_block 2 with fail;obtain⟨E,Q⟩:∃E,wr.alloc (.cells #[.string e.op,xI e.a,xI e.nm,.slice mp bL m0,.string e.s,xI e.n] 190)=E:=⟨_,rfl⟩;have a:aa (xB wr E):=Q▸(Below.refl _ wr).alloc (an _) _;have u:=za (D.o.on a.o);have ar:aa (xH E wr.heap.size #[.string e.op,xI e.a,xI e.nm,.slice mp bL m0,.string e.s,xI e.n] 190):=Q▸zc wr _;rw[Q];obtain⟨es,g6⟩:∃es,wr.heap.size=es:=⟨_,rfl⟩;have md:w.heap.size<es:=(by omega);rw[g6] at ar ⊢;clear Q ev s1 s2 ex fd fq ds na nb nd lt ne nm;obtain⟨ev,s1,s2,ex,fd,fq,ds⟩:=bz u.o.bx;obtain⟨i7,i8,i9,kd,kw,lb,le,lk⟩:=zt ar.o;go_cut [9,10,11,12] from 20 to 113 (λb _ _ _ it=>b=.bool (bp m)/\aa (xB wr it))
    case first =>
     rcases x.o with ⟨s,B⟩|⟨s,B⟩|⟨s,f,v,a3,hv,B⟩|⟨s,y,a9,be,B⟩|⟨s,y,a9,be,B⟩|⟨s,f,c,a3,g4,B⟩
     . skip;have G:=za B;clear B x;simp only[cC,List.not_mem_nil,or_false] at s;rcases s with h|h|h|h|h|h|h|h|h;all_goals go_wp2_with fail
       all_goals go_meet
       all_goals exact⟨by rw[G.o],a⟩
     . skip;have G:=za B;clear B x;simp only[cC,List.not_mem_nil,or_false] at s;rcases s with h|h|h|h|h|h|h;all_goals go_wp2_with fail
       all_goals go_meet
       all_goals exact⟨by rw[G.o],a⟩
     . skip;have G:=za B;obtain⟨rL,sc,hN,mk,c4⟩:=u.o.nd.vs;cases hN;obtain⟨_,lv,rfl,g9,v0,h7,v2,_⟩:=c4 f v hv;have op:=(aB.1 hv).1;have cs:lv<E.heap.size:=(by have:=u.o.size;omega);have Z:=za (u.o.find e.s);rw[a3] at Z;unfold bC at Z;clear B x c4 hv a3 v0 h7;go_wp2_with (go_at_call 169;refine Z.o.mono ?_;rintro e' sg ⟨rfl,O⟩;have fV:=za O;have x2:=zd O v2 cs;have vG:=zd O s2 ds;clear O);go_meet;exact⟨by rw[G.o],a.o.trans (fV.o.mono a.o.size)⟩
     . skip;have G:=za B;obtain⟨nt,rfl,g8,z0⟩:=al.o 0 y a9;obtain⟨_,g0,g1,a2,H⟩:=oU eq.o;injection a2 with bk U bl
       subst bk bl;obtain⟨ns,rfl,_,a4,eb⟩:=H y _ (oQ be);have i4:=zd a.o z0 (by have:=D.o.size;omega);have i5:=zd a.o eb a4;have P:0<bL:=(by have:=(aB.1 a9).1;have:=ak.o;omega);clear B x a9 H z0 eb U;simp only[cC,List.not_mem_nil,or_false] at s;rcases s with h|h|h;all_goals go_wp2_with fail
       all_goals go_meet
       all_goals exact⟨by rw[G.o],a⟩
     . skip;have G:=za B;obtain⟨nt,rfl,g8,z0⟩:=al.o 1 y a9;obtain⟨_,g0,g1,a2,H⟩:=oU eq.o;injection a2 with bk U bl
       subst bk bl;obtain⟨ns,rfl,_,a4,eb⟩:=H y _ (oQ be);have i4:=zd a.o z0 (by have:=D.o.size;omega);have i5:=zd a.o eb a4;have P:1<bL:=(by have:=(aB.1 a9).1;have:=ak.o;omega);clear B x a9 H z0 eb U;simp only[cC,List.not_mem_nil,or_false] at s;rcases s with h|h;all_goals go_wp2_with fail
       all_goals go_meet
       all_goals exact⟨by rw[G.o],a⟩
     skip;have G:=za B;have em:=za (λW (n2:xB E W)=>lX e.s k (by have:=i6.o;omega) W (u.o.ak.on n2));rw[a3] at em;unfold bC at em;obtain⟨_,_,_,_,c2⟩:=u.o.ak.ns;obtain⟨g',bs,wn,bt,i1,i3,i2,h5,un,h6,g7,or,qv,rb,rd,rg,ro,cn⟩:=c2 f c g4
     rename_i a5 _
     injection a5 with bk U bl
     subst bk bl;cases g7;clear U;have ok:f<L:=(by have:=(aB.1 g4).1;have:=i6.o;omega);obtain⟨m5,m6,m7,m8⟩:=zp u.o.ak.aC;clear B x c2 g4 a3;have l5:g<E.heap.size:=(by omega);go_upto_region 30 with fail
     go_region_held3 (λJ=>J.cell? (xD z 0)=some (xS g L h0)/\J.cell? (xD es 4)=some (.string e.s)/\J.cell? (xD g (f*5))=some (.string c.nm)/\J.cell? (xD g (f*5+1))=some (xI c.a)/\J.cell? (xD g (f*5+2))=some (.slice bs wn bt)/\J.cell? (xD g (f*5+3))=some (.slice i1 i3 i2)/\J.cell? (xD g (f*5+4))=some (.slice h5 un h6))
      (first|(with_reducible (refine⟨?_,?_,?_,?_,?_,?_,?_⟩ <;> repeat (first|assumption|refine zg ?_|refine zj _ ?_|refine zk (by omega) ?_)))|go_keep)
      (first
        | (go_at_call 95;refine (em.o _ (by first|exact zo (Below.refl _ _)|exact zo ((Below.refl _ _).alloc (an _) _)|exact (zo (Below.refl _ _)).alloc (an _) _)).mono ?_;rintro e' sg ⟨rfl,rfl⟩))
     all_goals
      rename_i a0
      clear a0;obtain⟨wd,S⟩:∃wd,(E.alloc (.cells #[.string c.nm,xI c.a,.slice bs wn bt,.slice i1 i3 i2,.slice h5 un h6] 103)).drew=wd:=⟨_,rfl⟩;have Y:aa (xB E wd):=S▸zo ((Below.refl _ _).alloc (an _) _);have ca:aa (wd.heap[E.heap.size]?=some (nf c (.slice bs wn bt) (.slice i1 i3 i2) (.slice h5 un h6))):=S▸zc E _;have ge:=za (cn.aH (Y.o.mono u.o.size));rw[S];obtain⟨ls,g5⟩:∃ls,E.heap.size=ls:=⟨_,rfl⟩;rw[g5] at ca ⊢;have gc:=za (a.o.trans (Y.o.mono a.o.size));clear S cn qv rb rd rg ro m5 m6 m7 m8 ev s1 s2 ex fd fq ds i7 i8 i9 kd kw lb le lk em;obtain⟨tr,ts,tt,tx,up,vs,vv⟩:=bz ca.o;obtain⟨sh,sn,hQ,c5,c9⟩:=ge.o.vs;injection hQ with bk U bl
      subst bk bl;have gt:=za c9;have b4:=za U;rw[<- U] at c5;clear c9 U;have n3:N<=wd.heap.size:=(by have:=Y.o.size;have:=u.o.size;omega);go_wp2_with fail;obtain⟨m1,rfl⟩:∃m1,m1=wr:=⟨_,rfl⟩;go_loopg [9,12] (wn+1) (λj b i it=>∃(p:Nat) (b0:Int),p+1=j/\p<=wn/\i=xI b0/\b0=(p:Int)-1/\b=.bool (hV (c.ab.drop p))/\it=wd);case atStart=>exact⟨wn,_,rfl,an _,rfl,rfl,by rw[List.drop_of_length_le (by have:=b4.o;omega)];rfl,rfl⟩
      case round =>
       obtain⟨p,b0,po,tk,rfl,hm,rfl,rfl⟩:=hrel;cases p with
       | zero => have P:¬((0:Int)<=b0):=(by omega);have o7:¬(b0 ≥ 0):=(by omega);rw[List.drop_zero];go_wp2_with fail;go_meet;exact⟨by rw[G.o],gc⟩
       | succ q =>
         have P:b0=(q:Int):=(by omega);subst P;obtain⟨v,hv⟩:∃v,c.ab[q]?=some v:=⟨_,av (by have:=b4.o;omega)⟩;have gl:=za (FL hv);obtain⟨_,lv,rfl,g9,v0,h7,v2,v3,v4,_⟩:=gt.o q v hv;obtain⟨ip,c3⟩:∃ip,v.out=ip:=⟨_,rfl⟩;rw[c3] at v4 gl;have pp:(0:Int)<=(q:Int):=(by omega);clear hv c3 v0 h7 v3 hm;cases ip with
         | true =>
           go_wp2_with fail;go_roundg (gk-1);case measure=>omega
           exact⟨q,_,by omega,by omega,rfl,rfl,by rw[gl.o];rfl,rfl⟩
         | false =>
           go_wp2_with fail;go_roundg (gk-1);case measure=>omega
           exact⟨q,_,by omega,by omega,rfl,rfl,by rw[gl.o];rfl,rfl⟩
    case rest =>
     obtain⟨rfl,K⟩:=hcut;have go:=za (D.o.on K.o);have b3:aa (wc.ownsRow (w.heap.size+1) 4 1 (.slice bx m bE) m (cZ (eG bp m))):=zi eq.o (λj _ pb _=>K.o.block j pb);have pr:=K.o.size;clear ar u a ev s1 s2 ex fd fq ds i7 i8 i9 kd kw lb le lk x al ak;go_wp2_with (at_builtin;refine ww _ rfl (.tmp 110) (.tmp 112) rfl (w.heap.size+1) (.slice bx m bE) m _ (bp m) rfl b3.o rfl (by omega) (by omega) ?_;intro no ck vz l1 f9;have b1:=za f9;have gs:=za l1;clear l1 f9);go_roundg (gk-1);case measure=>omega
     have c1:∀j,(Value.slice bx m bE).ownBlock=some j->w.heap.size<j:=λj e=>by have:=(b3.o.lt j e).1;omega
     have cm:xB wc (wc.alloc (.cells #[.bool (bp m)] 4)):=(Below.refl _ _).alloc (an _) _;refine⟨m+1,some (xD no 0),ck,by omega,by omega,rfl,by go_num,(go.o.on cm).row b1.o c1,?_,?_⟩
     . exact ((fx.o.trans (K.o.mono fx.o.size)).trans (cm.mono (by omega))).trans (b1.o.below (by rw[au];omega) (λj e=>by have:=c1 j e;omega))
     unfold aa;rw[FO,cZ,List.map_append];exact gs.o
  have hw:m=V:=by omega
  subst hw;go_wp2_with fail;go_ret;exact⟨_,rfl,(oU eq.o).low (by omega),fx.o⟩
end
end Go.Proofs.YtmfkofhgdjechaaGreatDoor
