/- Part 37 of the proof. -/
import Derived.Deep.MidRow
import Derived.LaidEql
import Derived.RowKitTokens
import Derived.Stop.Asserts
import Derived.Test.YtbicmofihhjgbaaGreatDoorK35
set_option maxRecDepth 100000
set_option maxHeartbeats 8000000
namespace Go.Proofs.YtbicmofihhjgbaaGreatDoor
open Go.Proofs.Tryz
section
section
variable (g:Qn->Nat)
def OC:List Bool->List Qn->Nat
 | b::a,q::c=>(if b=true then 0 else g q)+OC a c
 | _,_=>0
theorem Sb:∀{bs:Xk} {qs:List Qn} {i:Nat} {q:Qn},bs[i]?=some false->qs[i]?=some q->OC g (bs.set i true) qs+g q=OC g bs qs
 | b::bs,x::qs,0,q,a,c=>by simp at a c;subst a c;rw[Mb,OC,OC,ag rfl,ae (by decide)];omega
 | b::bs,x::qs,i+1,q,a,c=>by have:=Sb (bs:=bs) (qs:=qs) (i:=i) (q:=q) (by simpa using a) (by simpa using c);rw[Q5,OC,OC];omega
 | [],_,_,_,a,_=>by simp at a
 | _::_,[],_,_,_,c=>by simp at c
def O3 (s:Os)(a:List Qn):Nat:=(s.2.map g).sum+OC g s.1 a
theorem Sp (c:Sc)(L:List (Nat×Nat))(a:List Qn):∀(f i:Nat) (s:Os),s.1.length=a.length->O3 g (Mv c L a f i s) a<=O3 g s a
 | 0,i,s,_=>an _
 | f+1,i,s,b=>by
   have p:∀(q:Qn) (l:List Qn) (j:Nat) (s:Os),s.1.length=a.length->O3 g (Nc (Mv c L a f) c L q l j s) a<=O3 g s a:=by
    intro q l;induction l with
    | nil=>intro j s _;exact an _
    | cons o l m =>
      intro j s b;rw[Nc];split
      . exact aJ (m (j+1) _ (by rw[(QW c L a f j s).1];exact b)) (Sp c L a f j s b)
      exact m (j+1) s b
   rw[Mv];cases k:a[i]? with
   | none=>exact an _
   | some q =>
     simp only;split
     . exact an _
     rename_i d
     have u:=(aB.1 k).1;have n:s.1[i]?=some false:=by
      have e:=av (show i<s.1.length by omega);rw[List.getD_eq_getElem?_getD,e] at d;rw[e];cases r:s.1[i] with
      | false=>rfl
      | true=>rw[r] at d;exact absurd rfl d
     have t:=Sb g n k;have h:=p q a 0 (s.1.set i true,s.2) (by simpa using b);generalize Nc (Mv c L a f) c L q a 0 (s.1.set i true,s.2)=P at *;unfold O3 at h ⊢;simp only[List.map_append,List.map_cons,List.map_nil,List.sum_append,List.sum_cons,List.sum_nil] at h ⊢;omega
theorem Rt (c:Sc):((Mr c).map g).sum<=(c.nd.eqs.map g).sum:=by
 have e:∀(n m:Nat) (s:Os),s.1.length=c.nd.eqs.length->O3 g (OV (Mv c c.hI c.nd.eqs c.nd.eqs.length) n m s) c.nd.eqs<=O3 g s c.nd.eqs:=by
  intro n m;induction m with
  | zero=>intro s _;exact an _
  | succ m b => intro s d;rw[OV];exact aJ (b _ (by rw[(QW c c.hI c.nd.eqs c.nd.eqs.length _ s).1];exact d)) (Sp g c _ _ _ _ s d)
 have f:∀a:List Qn,OC g (List.replicate a.length false) a=(a.map g).sum:=by
  intro a;induction a with
  | nil=>rfl
  | cons q a b=>rw[bJ,List.replicate_succ,OC,b,ae (by decide),List.map_cons,List.sum_cons]
 have:=e c.nd.eqs.length c.nd.eqs.length (List.replicate c.nd.eqs.length false,[]) (by simp);unfold O3 at this;unfold Mr;rw[f] at this;simp only[List.map_nil,List.sum_nil] at this;omega
end
section
variable {u:Sc->Nat->Cd->Cd} {c:Sc} {b p f:Nat} {m:List (ByteArray×Nat)} {v:Sc->Nat->Prop}
theorem Vy {t:Tm}{o:Nat}(h:Gt c m v t o)(r:2<=o):1<=cz m t:=by
 cases h with
 | mk k a s d n g o l x q j w =>
   have i:k=4:=Classical.byContradiction λe=>by have:=j e;omega
   rw[Sx];unfold fE;rw[ae (show ¬(Tm.mk k a s d n g).k=9 by show ¬k=9;omega),ag (show (Tm.mk k a s d n g).k=4 from i)];omega
def PY (m:List (ByteArray×Nat))(q:Qn):Nat:=9*vz q.r+13600*cz m q.r+2
theorem SI (r:p<=18)(o:∀d F,v d F->O2 u (b+c.nd.ak.length+1) f d F):∀(l:List Qn),(∀q∈l,Gt c m v q.r q.ns.length/\1<=q.ns.length/\q.ns.length<=16)->∀s:Cd×List Lt,
 Pt c m v (b+c.nd.ak.length+1) f 0 (l.map (PY m)).sum (l.map λq=>cz m q.r).sum s (ME u c b p l s)
 | [],_,s=>⟨[],0,0,by simp[ME],by rw[ME];exact Ly.refl,an _,an _,λz hz=>by cases hz⟩
 | q::l,D,s=>by
   obtain⟨G,q2,q3⟩:=D q (Mx ..);rw[ME];obtain⟨R,U,K,x,y,W,X,A⟩:=(Sw (hi:=f) r o q.r q.ns.length G (c.of (c.idx (q.ns.headD ⟨#[]⟩))) (QE c _) s).ex;obtain⟨a,w⟩:∃a,My u c b p s q.r (c.of (c.idx (q.ns.headD ⟨#[]⟩)))=a:=⟨_,rfl⟩;rw[w] at x y A ⊢;obtain⟨g,k⟩:∃g,Ny c b (MS (NJ q.ns q.ps) q.ns.length q.ns.length)=g:=⟨_,rfl⟩;rw[k];have Q:g.length=q.ns.length:=(by rw[<- k];unfold Ny;rw[List.length_map,QO]);have E:∀i∈g,∃n:Nat,i=(2,(n:Int))/\n<b+c.nd.ak.length+1:=λi f=>by rw[<- k] at f;unfold Ny at f;obtain⟨j,_,rfl⟩:=List.mem_map.1 f;exact⟨b+c.idx j.2.1,rfl,by have:=O8 c j.2.1;omega⟩
   have ar:=QJ g (λi f=>by obtain⟨n,rfl,_⟩:=E i f;exact (by decide:(2:Nat)≠0));have P:Ly a.1 (a.1.fv g) (b+c.nd.ak.length+1) f q.ns.length 0 (2*q.ns.length) 0:=Ly.fv (by omega) (λS N h Z _=>by
    have:=Rn (S:=S) (N:=N) g h (λi f=>by obtain⟨n,e,ab⟩:=E i f;exact⟨n,e,by omega⟩);rw[Q] at this;exact this)
   obtain⟨T,V,L,H,B,I,Y,J⟩:=(SI r o l (λq O=>D q (cS _ O)) (a.1.fv g,a.2)).ex;have t:=B.cl;have C:a.1.cells.length<=(ME u c b p l (a.1.fv g,a.2)).1.cells.length:=t;refine⟨R++T,U+2*q.ns.length+V,K+0+L,by rw[H,x,bw],(y.trans P).trans B,?_,?_,λz hz=>?_⟩
   . rw[P3,List.map_cons,List.sum_cons];unfold PY at I ⊢;by_cases M:2<=q.ns.length
     . have:=Vy G M;omega
     omega
   . rw[P4,List.map_cons,List.sum_cons];omega
   rcases bj.1 hz with hz|hz
   . have:=A z hz;exact⟨this.1,by omega⟩
   exact J z hz
theorem So (i:p<=18)(e:∀d w,v d w->O2 u (b+c.nd.ak.length+1) f d w):∀(g:Nat) (s:Cd×List Lt),(∀x∈s.2,SA c m v x/\x.cell<s.1.cells.length) ->
 Ly s.1 (NI u c b p g s) (b+c.nd.ak.length+1) f 0 0 (Nv m s.2) (Nu m s.2)
 | 0,s,_=>Ly.refl.mono (an _) (an _) (aE _) (aE _)
 | g+1,s,t=>by
   obtain⟨K,G⟩:=s;cases G with
   | nil=>exact Ly.refl.mono (an _) (an _) (aE _) (aE _)
   | cons x r =>
     obtain⟨o,J⟩:=t x (Mx ..);obtain⟨U,H⟩:=Rs c b p x.clock o.ck;have C:Ly K (K.fv (z8 c b p x.clock)) (b+c.nd.ak.length+1) f 0 1 74 0:=Ly.fv (by omega) (λS N h A _=>H S N h A);obtain⟨j,I,y,k,l,M,O,q⟩:=(Sw (hi:=f) i e x.next 1 o.gt x.clock o.ck (K.fv (z8 c b p x.clock),r)).ex
     show Ly K (NI u c b p g ((My u c b p (K.fv (z8 c b p x.clock),r) x.next x.clock).1.add 4 x.cell,(My u c b p (K.fv (z8 c b p x.clock),r) x.next x.clock).2)) _ _ 0 0 (Nv m (x::r)) (Nu m (x::r));obtain⟨a,n⟩:∃a,My u c b p (K.fv (z8 c b p x.clock),r) x.next x.clock=a:=⟨_,rfl⟩;rw[n] at k l q ⊢;have B:K.cells.length<=a.1.cells.length:=l.cl;have L:x.cell<K.cells.length:=J;have D:=l.up 1;have E:Ly a.1 (a.1.add 4 x.cell) (b+c.nd.ak.length+1) f 2 0 2 0:=Ly.fv (OR 4 _ (by decide)) (λS N h _ T=>Pc.aq (by omega));have F:=So i e g (a.1.add 4 x.cell,a.2) (λz hz=>by
      show _/\z.cell<a.1.cells.length;rw[show a.2=r++j from k] at hz;rcases bj.1 hz with hz|hz
      . have:=t z (cS _ hz);exact⟨this.1,by have R:z.cell<K.cells.length:=this.2;omega⟩
      exact q z hz)
     have P:Nv m a.2=Nv m r+Nv m j:=(by rw[show a.2=r++j from k,P3]);have Q:Nu m a.2=Nu m r+Nu m j:=(by rw[show a.2=r++j from k,P4]);have:=((C.trans D).trans E).trans F;refine this.mono (an _) (an _) ?_ ?_
     . show 74+I+2+Nv m a.2<=9*vz x.next+13600*cz m x.next+90+Nv m r;omega
     show 0+y+0+Nu m a.2<=cz m x.next+Nu m r;omega
end
theorem UY {i b f:Nat}{c:Sc}{a s j:Nat}{m:List (ByteArray×Nat)}{BD:Sc->Nat->Prop}(r:i<=18)(p:∀d j,BD d j->O2 (MQ i b f) (a+c.nd.ak.length+1) s d j)(T:a+c.nd.ak.length+1<=s)(V:∀q∈c.nd.eqs,Gt c m BD q.r q.ns.length/\1<=q.ns.length/\q.ns.length<=16)(hv:(c.nd.eqs.map λq=>vz q.r).sum<=1201)(hm:(c.nd.eqs.map λq=>cz m q.r).sum=j):O2 (MQ i b (f+1)) a s c j:=by
 intro K;rw[MQ];obtain⟨g,e⟩:∃g,(K.NR (a+c.nd.ak.length+1)).add 2 ((a+c.nd.ak.length:Nat):Int)=g:=⟨_,rfl⟩;rw[e];have ab:g.al=max K.al (a+c.nd.ak.length+1):=by rw[<- e];rfl
 have W:Ly K g (a+c.nd.ak.length+1) s 1 0 2 0:=by refine⟨⟨[(2,((a+c.nd.ak.length:Nat):Int))],[],by rw[<- e];rfl,by rw[<- e];show K.cells=_;simp,(λx t=>by cases t),an _,OR 2 _ (by decide),λS N h v _ _=>Pc.store (by omega)⟩,by rw[<- e];rfl,by rw[<- e];rfl,by omega,by omega⟩
 obtain⟨A,w1,c1,B,u,Y,Z,D⟩:=(SI r p (Mr c) (λq w=>V q (RN c q w)) (g,[])).ex;obtain⟨k,y⟩:∃k,ME (MQ i b f) c a i (Mr c) (g,[])=k:=⟨_,rfl⟩;rw[y] at B u D ⊢;have o:k.2=A:=B;have z:=So (m:=m) r p b k (λx t=>D x (by rw[o] at t;exact t));rw[o] at z;have X:=Rt (PY m) c;have o2:=Rt (λq=>cz m q.r) c;have P:∀l:List Qn,(l.map (PY m)).sum=9*(l.map λq=>vz q.r).sum+13600*(l.map λq=>cz m q.r).sum+2*l.length:=by
  intro l;induction l with
  | nil=>rfl
  | cons q l F=>simp only[List.map_cons,List.sum_cons,bJ,F];unfold PY;omega
 have U:c.nd.eqs.length<=(c.nd.eqs.map λq=>vz q.r).sum:=by
  have:∀l:List Qn,l.length<=(l.map λq=>vz q.r).sum:=by
   intro l;induction l with
   | nil=>exact an _
   | cons q l F =>
     have:1<=vz q.r:=by cases q.r;rw[qz];omega
     simp only[List.map_cons,List.sum_cons,bJ];omega
  exact this _
 rw[P c.nd.eqs] at X;have L:=(W.trans u).trans z;have E:a+c.nd.ak.length+1<=(NI (MQ i b f) c a i b k).al:=by have h1:g.al<=k.1.al:=u.s1;have h2:=z.s1;omega
 refine⟨?_,E⟩;have n:=L.mono (lo':=a+c.nd.ak.length+1) (hi':=s) (w':=13300+13600*j) (n':=j) (an _) (an _) (by omega) (by omega);obtain⟨R,C,G,H,I,J,M,O⟩:=n.ex;exact⟨⟨R,C,G,H,I,J,M,λS N h _ v Q=>O S N h (aJ E v) v Q⟩,n.dn,n.aG,n.s1,n.s2⟩
end
section
variable {ns:List ay}
theorem Fe (l:Xn):iK l=l.sum:=by
 have:∀(l:Xn) (a:Nat),l.foldl (·+·) a=a+l.sum:=by
  intro l;induction l with
  | nil=>intro a;simp
  | cons x l b=>intro a;rw[List.foldl_cons,b,List.sum_cons];omega
 unfold iK;rw[this];omega
def ha (ns:List ay):Nat->List (ByteArray×Nat)
 | 0=>[]
 | k+1=>match ns[k]? with
   | none=>ha ns k
   | some n=>(n.nm,hl n (ha ns k))::ha ns k
def MK (ns:List ay)(k:Nat):Nat:=match ns[k]? with
 | none=>0
 | some n=>hl n (ha ns k)
def q9 (ns:List ay):Prop:=∀(i j:Nat) (n m:ay),ns[i]?=some n->ns[j]?=some m->n.nm=m.nm->i=j
theorem wE (g:q9 ns):∀(k:Nat),k<=ns.length->∀(f:Nat) (n:ay),f<k->ns[f]?=some n->fa n.nm (ha ns k)=MK ns f
 | 0,_,f,n,h,_=>by omega
 | k+1,i,f,n,h,c=>by
   obtain⟨m,b⟩:∃m,ns[k]?=some m:=⟨_,av (by omega)⟩;rw[ha,b];simp only;rw[fa];by_cases a:f=k
   . subst a;rw[b] at c;cases c;rw[ag rfl,MK,b]
   have d:¬m.nm=n.nm:=λe=>a (g f k n m c b e.symm);rw[ae d];exact wE g k (by omega) f n (by omega) c
theorem E7 {ns:List ay}:∀(j k x:Nat),k+j+1=ns.length->hr (ns.drop k) (ha ns k) x=MK ns (ns.length-1)
 | 0,k,x,h=>by obtain⟨n,a⟩:∃n,ns[k]?=some n:=⟨_,av (by omega)⟩;rw[dE (show k<ns.length by omega),(aB.1 a).2,hr,List.drop_of_length_le (by omega),hr,show ns.length-1=k by omega,MK,a]
 | j+1,k,x,h=>by obtain⟨n,a⟩:∃n,ns[k]?=some n:=⟨_,av (show k<ns.length by omega)⟩;have:=E7 (ns:=ns) j (k+1) (hl n (ha ns k)) (by omega);rw[ha,a] at this;rw[dE (show k<ns.length by omega),(aB.1 a).2,hr];exact this
end
section
theorem wu:∀(n:Nat) (l:Xn),(∀x∈l,x<n)->l.Nodup->l.length<=n
 | 0,l,h,_=>by
   cases l with
   | nil=>exact an _
   | cons x l=>exact absurd (h x (Mx ..)) (Nat.not_lt_zero _)
 | n+1,l,h,b=>by
   have a:=wu n (l.erase n) (λx c=>by
    have:=h x (List.mem_of_mem_erase c);have:=(b.mem_erase_iff.1 c).1;omega) (b.erase n)
   rw[List.length_erase] at a;split at a <;> omega
end
section
variable {n:Nat} {g:Nat->Option Nat}
def c7 (g:Nat->Option Nat):Nat->Nat->Option Nat
 | 0,p=>some p
 | m+1,p=>(g p).bind (c7 g m)
theorem oM (b:Nat):∀(a p:Nat),c7 g (a+b) p=(c7 g a p).bind (c7 g b)
 | 0,p=>by rw[Nat.zero_add];rfl
 | a+1,p=>by rw[show a+1+b=(a+b)+1 by omega,c7,c7,Option.bind_assoc];congr 1;funext q;exact oM b a q
theorem FI {m p x:Nat}(c:∀i j,g i=some j->j<n)(d:p<n)(h:c7 g m p=some x):x<n:=by
 induction m generalizing p with
 | zero=>cases h;exact d
 | succ m e => rw[c7] at h;obtain⟨j,a,b⟩:=Option.bind_eq_some_iff.1 h;exact e (c _ _ a) b
theorem FF {f:Nat->Nat}(k:∀x,x<=n->f x<n):∃a b,a<b/\b<=n/\f a=f b:=by
 refine Classical.byContradiction λh=>?_;have d:((List.range (n+1)).map f).Nodup:=by rw[List.Nodup,List.pairwise_map];refine List.Pairwise.imp_of_mem ?_ List.pairwise_lt_range;intro a b _ j c e;exact h ⟨a,b,c,by have:=List.mem_range.1 j;omega,e⟩
 have:=wu n _ (λx l=>by obtain⟨a,i,rfl⟩:=List.mem_map.1 l;exact k a (by have:=List.mem_range.1 i;omega)) d;simp at this;omega
end
section
variable {s:Xb} {m:List (ByteArray×Nat)} {gas k:Nat} {n:ay} {q:Qn} {w:Sc->Nat->Prop} {t u:Tm} {g:Tm->Bool}
structure P0 (ns:List ay):Prop where
 wf:∀n∈ns,gP n
 mW:ns.length<=6
 sz:∀n∈ns,(n.eqs.map λq=>vz q.r).sum<=1201
 nm:∀n∈ns,∀q∈n.eqs,Bk q.r=true
 names:∀k n,ns[k]?=some n->(Sc.mk (ns.take k) n).cG=[]
 R8:∀k n,ns[k]?=some n->(Sc.mk (ns.take k) n).e4=[]
section
variable {b:List ay}
theorem Sm {d:Sc}(h:(Sc.mk (b.take k) n).called s=some d):∃i f,i<k/\b[i]?=some f/\d=⟨b.take i,f⟩/\f.nm=s:=by
 unfold Sc.called at h;simp only at h;cases e:fX s (b.take k) 0 with
 | none=>rw[e] at h;cases h
 | some i => rw[e] at h;simp only at h;obtain⟨_,j,v,c,l⟩:=iC e;rw[Nat.sub_zero] at c;rw[c] at h;simp only at h;have a:i<k:=(by rw[Nat.zero_add,List.length_take] at j;omega);rw[List.getElem?_take,ag a] at c;refine⟨i,v,a,c,?_,l⟩;cases h;rw[List.take_take,Nat.min_eq_left (by omega)]
theorem Se:∀{l:List ay} {i:Nat} {n:ay},n∈l->n.nm=s->(fX s l i).isSome=true
 | m::l,i,n,h,a=>by
   unfold fX;split
   . rfl
   rename_i c
   rcases cC.1 h with rfl|h
   . exact absurd a c
   exact Se h a
theorem UK (h:P0 b):q9 b:=by
 have a:∀(i j:Nat) (n m:ay),i<j->b[i]?=some n->b[j]?=some m->n.nm=m.nm->False:=by
  intro i j n m f d c e;have h1:=h.names j m c;unfold Sc.cG at h1;rw[ec,ec,ec] at h1;have o:=h1.1.1.1;have y:=Se (s:=m.nm) (l:=b.take j) (i:=0) (n:=n) (aM (i:=i) (by rw[List.getElem?_take,ag f];exact d)) e;obtain⟨x,r⟩:=Option.isSome_iff_exists.1 y;obtain⟨_,A,v,p,_⟩:=iC r;rw[Nat.sub_zero] at p;have z:((Sc.mk (b.take j) m).called m.nm).isSome=true:=by unfold Sc.called;simp only;rw[r];simp only;rw[p];rfl
  rw[ag z] at o;cases o
 intro i j n m d c e;rcases Nat.lt_trichotomy i j with h1|h1|h1
 . exact (a i j n m h1 d c e).elim
 . exact h1
 exact (a j i m n h1 c d e.symm).elim
theorem Ss {c:Sc}(h:c.cG=[])(l:q∈c.nd.eqs)(o:u∈bh b8 q.r)(j:u.k=4):∃d,c.called u.s=some d/\d.nd.ah=u.ts.length/\d.nd.aG=hp q u:=by
 unfold Sc.cG at h;rw[ec] at h;have e:=mw (mw h.2 q l) u o;unfold fF at e;rw[ec] at e;have f:=e.2;cases a:c.fits u (hp q u) with
 | false=>rw[a,j] at f;simp at f
 | true =>
   unfold Sc.fits at a;split at a
   . cases a
   rename_i d i
   simp only[Bool.and_eq_true,beq_iff_eq] at a;exact⟨d,i,a.1,a.2⟩
theorem vS:∀{l:List Tm},u∈cN g l->∃t∈l,u∈bh g t
 | [],h=>by rw[cN] at h;cases h
 | t::l,h=>by
   rw[cN] at h;rcases bj.1 h with h|h
   . exact⟨t,Mx ..,h⟩
   obtain⟨d,a,c⟩:=vS h;exact⟨d,cS _ a,c⟩
theorem Rq:∀{l:List Tm},t∈l->u∈bh g t->u∈cN g l
 | x::l,h,a=>by
   rw[cN];rcases cC.1 h with rfl|h
   . exact List.mem_append_left _ a
   exact List.mem_append_right _ (Rq h a)
theorem P1 (t:Tm):t∈bh b8 t:=by cases t;rw[bh];exact Mx ..
theorem QD (h:u∈t.ts):u∈bh b8 t:=by
 cases t with
 | mk k a s c n d => rw[bh,ag (show b8 (.mk k a s c n d)=true from rfl)];exact cS _ (Rq h (P1 u))
theorem QG:∀(r:Tm) {t u:Tm},t∈bh b8 r->u∈bh b8 t->u∈bh b8 r:=by
 intro r;induction r using Tm.ind with
 | h k a s e n f j =>
   intro t u ht d;rw[bh,ag (show b8 (.mk k a s e n f)=true from rfl)] at ht;rcases cC.1 ht with rfl|ht
   . exact d
   obtain⟨l,c,i⟩:=vS ht;rw[bh,ag (show b8 (.mk k a s e n f)=true from rfl)];exact cS _ (Rq c (j l c i d))
theorem Vs:∀(r:Tm) {t:Tm},t∈bh b8 r->cc t<=cc r:=by
 intro r;induction r using Tm.ind with
 | h k a s f n j e =>
   intro t ht;rw[bh,ag (show b8 (.mk k a s f n j)=true from rfl)] at ht;rcases cC.1 ht with rfl|ht
   . exact an _
   obtain⟨i,c,d⟩:=vS ht;have:=e i c d;have:=mA c;rw[cc];omega
theorem SH {l:Xn}{x:Nat}(h:x∈l):x<=l.sum:=by
 induction l with
 | nil=>cases h
 | cons y l a =>
   rw[List.sum_cons];rcases cC.1 h with rfl|h
   . omega
   have:=a h;omega
theorem U4 (h:u∈bh b8 t):fE m u<=cz m t:=SH (List.mem_map.2 ⟨u,h,rfl⟩)
def Rv (c:Sc)(m:List (ByteArray×Nat))(w:Sc->Nat->Prop)(u:Tm)(o:Nat):Prop:=∃d,c.called u.s=some d/\d.nd.ah=u.ts.length/\d.nd.aG=o/\d.nd.ah+d.nd.aG<=d.nd.ak.length/\d.nd.ak.length<=16/\w d (fa u.s m)
theorem UM {c:Sc}:∀t:Tm,Wf t->Bk t=true->(∀u∈bh b8 t,u.k=4->Rv c m w u 1)->Gt c m w t 1:=by
 intro t;induction t using Tm.ind with
 | h k a s o n p v => intro l j i;have d:=j;rw[Bk,Bool.and_eq_true] at d;exact .mk k a s o n p 1 l.ar j (λf=>i _ (P1 _) f) (λ_=>rfl) (λu e=>v u e (l.sub e) (TU d.2 e) (λx r f=>i x (QG _ (QD (show u∈(Tm.mk k a s o n p).ts from e)) r) f))
theorem Vv {c:Sc}(r:Wf q.r)(p:Bk q.r=true)(C:1<=q.ns.length)(v:2<=q.ns.length->q.r.k=4)(o:∀u∈bh b8 q.r,u.k=4->Rv c m w u (hp q u)):Gt c m w q.r q.ns.length:=by
 have d:hp q q.r=q.ns.length:=by unfold hp;rw[ag rfl]
 have e:∀u∈bh b8 q.r,cc u<cc q.r->hp q u=1:=λu _ h=>by unfold hp;rw[ae (by omega)]
 cases B:q.r with
 | mk k a s z n A =>
   rw[B] at r p o d e v;have i:=p;rw[Bk,Bool.and_eq_true] at i;refine .mk k a s z n A _ r.ar p (λf=>?_) (λf=>?_) (λu l=>UM u (r.sub l) (TU i.2 l) (λx y f=>?_))
   . have:=o _ (P1 _) f;rw[d] at this;exact this
   . have:¬2<=q.ns.length:=λh=>f (v h);omega
   have j:=QG _ (QD (show u∈(Tm.mk k a s z n A).ts from l)) y;have:=o x j f;rw[e x j (by have:=Vs u y;have:=mA l;rw[cc];omega)] at this;exact this
theorem Vp (a:b[k]?=some n)(h:MK b k<=60):(n.eqs.map λq=>cz (ha b k) q.r).sum=MK b k:=by
 have e:∀l:List Qn,((l.flatMap λq=>bh b8 q.r).map (fE (ha b k))).sum=(l.map λq=>cz (ha b k) q.r).sum:=by
  intro l;induction l with
  | nil=>rfl
  | cons q l c=>rw[List.flatMap_cons,List.map_append,List.sum_append,c,List.map_cons,List.sum_cons];rfl
 unfold MK at h ⊢;rw[a] at h ⊢;simp only at h ⊢;unfold hl at h ⊢;rw[Fe,e] at h ⊢;omega
theorem Sl (h:P0 b){fu:Nat}(r:fu<=18):∀(f k:Nat) (n:ay),b[k]?=some n->k<f->MK b k<=60->∀a,O2 (MQ fu gas f) a (a+17*(k+1)) ⟨b.take k,n⟩ (MK b k)
 | 0,k,n,_,O,_,_=>by omega
 | f+1,k,n,z,O,B,a=>by
   have o:=aM z;have H:=h.wf n o;have x:=Vp z B;have N:=H.bO;refine UY (m:=ha b k) (BD:=λd p=>∃i j,i<k/\b[i]?=some j/\d=⟨b.take i,j⟩/\p=MK b i/\p<=60) r ?_ (by show a+n.ak.length+1<=_;omega) (λq A=>?_) (h.sz n o) x
   . rintro d p ⟨i,j,C,e,rfl,rfl,D⟩ K;obtain⟨L,M⟩:=Sl h r f i j e (by omega) D (a+n.ak.length+1) K;exact⟨L.mono (an _) (by omega) (an _) (an _),M⟩
   obtain⟨S,I,P,J⟩:=H.eqs q A;have l:∀u∈bh b8 q.r,u.k=4->Rv ⟨b.take k,n⟩ (ha b k) (λd p=>∃i j,i<k/\b[i]?=some j/\d=⟨b.take i,j⟩/\p=MK b i/\p<=60) u (hp q u):=(by intro u G F;obtain⟨d,d1,d2,d3⟩:=Ss (h.names k n z) A G F;obtain⟨i,j,C,e,rfl,v⟩:=Sm d1;have y:=h.wf j (aM e);have c:fa u.s (ha b k)=MK b i:=(by rw[<- v];exact wE (UK h) k (by have:=(aB.1 z).1;omega) i j C e);have Q:fE (ha b k) u=1+MK b i:=(by unfold fE;rw[ae (by omega),ag F,c]);have E:=U4 (m:=ha b k) G;have R:cz (ha b k) q.r<=(n.eqs.map λq=>cz (ha b k) q.r).sum:=SH (List.mem_map.2 ⟨q,A,rfl⟩);exact⟨_,d1,d2,d3,y.io,y.bO,i,j,C,e,rfl,c,by omega⟩);refine⟨Vv P (h.nm n o q A) I J l,I,?_⟩;by_cases E:2<=q.ns.length
   . obtain⟨d,_,_,d3,d4,d5,_⟩:=l q.r (P1 _) (J E);have:hp q q.r=q.ns.length:=by unfold hp;rw[ag rfl]
     omega
   omega
end
section
variable {c:Sc}
def gC (c:Sc)(i:Nat):Option Nat:=if (c.of i).2=0 then none else some (c.of i).1
theorem Si:∀{l:List Vr} {i:Nat},hZ c l i=[]->∀j,j<l.length->c.jF (i+j)=false
 | v::l,i,h,j,a=>by
   rw[hZ,ec] at h;cases j with
   | zero =>
     cases e:c.jF i with
     | false=>rfl
     | true=>rw[ag e] at h;cases h.1
   | succ j => have:=Si h.2 j (by simpa using a);rwa [show i+1+j=i+(j+1) by omega] at this
theorem U1 (c:Sc)(i:Nat):((c.of i).2=0/\c.of i=(0,0))∨((c.of i).2=1∨(c.of i).2=2):=by
 unfold Sc.of;cases c.nd.ak[i]? with
 | none=>exact .inl ⟨rfl,rfl⟩
 | some v =>
   show ((c.own v).2=0/\c.own v=(0,0))∨((c.own v).2=1∨(c.own v).2=2);have a:ba v=0∨ba v=1∨ba v=2:=by
    unfold ba;split
    . split
      . exact .inr (.inr rfl)
      exact .inr (.inl rfl)
    exact .inl rfl
   unfold Sc.own;split
   . exact .inl ⟨rfl,rfl⟩
   rename_i h;exact .inr (a.resolve_left h)
theorem Sy (c:Sc){i:Nat}(h:(c.of i).2≠0):c.up (c.of i)=c.of (c.of i).1:=by unfold Sc.up;rw[ag ((U1 c i).resolve_left (λe=>h e.1))]
theorem SF (c:Sc)(v:Nat):∀(m f p:Nat),c7 (gC c) (m+1) p=some v->m<f->lx c v f (c.of p)=true
 | m,0,p,_,i=>by omega
 | 0,f+1,p,h,_=>by
   rw[c7] at h;obtain⟨j,a,d⟩:=Option.bind_eq_some_iff.1 h;cases d;unfold gC at a;split at a
   . cases a
   rename_i b
   cases a;rw[lx,ae (λe=>b (by rw[e])),ag rfl]
 | m+1,f+1,p,h,i=>by
   rw[c7] at h;obtain⟨j,a,d⟩:=Option.bind_eq_some_iff.1 h;unfold gC at a;split at a
   . cases a
   rename_i b
   cases a;rw[lx,ae (λe=>b (by rw[e]))];split
   . rfl
   rw[Sy c b];exact SF c v m f _ d (by omega)
theorem U6 (h:c.e4=[])(H:c.nd.ak.length<=16)(i:Nat):c7 (gC c) 17 i=none:=by
 unfold Sc.e4 at h;rw[ec] at h;have p:=Si h.1;have l:∀a b,gC c a=some b->b<c.nd.ak.length:=λa b d=>by
  unfold gC Sc.of at d;cases A:c.nd.ak[a]? with
  | none=>rw[A] at d;rw[ag rfl] at d;cases d
  | some v =>
    have M:=(aB.1 A).1;rw[A] at d;unfold Sc.own at d;simp only at d;split at d
    . cases d
    cases d
    show c.idx v.ck < _;unfold Sc.idx;cases K:c.nd.find v.ck with
    | none=>show 0 < _;omega
    | some x=>have:=kP K;show x < _;omega
 by_cases E:i<c.nd.ak.length
 . cases L:c7 (gC c) 17 i with
   | none=>rfl
   | some x =>
     exfalso;have r:∀a,a<=17->∃x,c7 (gC c) a i=some x:=λa I=>by have e:c7 (gC c) 17 i=(c7 (gC c) a i).bind (c7 (gC c) (17-a)):=(by rw[<- oM,show a+(17-a)=17 by omega]);rw[L] at e;obtain⟨y,j,_⟩:=Option.bind_eq_some_iff.1 e.symm;exact⟨y,j⟩
     obtain⟨a,b,d,N,J⟩:=FF (n:=c.nd.ak.length) (f:=λa=>(c7 (gC c) a i).getD 0) (λa I=>by
      obtain⟨y,j⟩:=r a (by omega)
      show (c7 (gC c) a i).getD 0 < _;rw[j];exact FI l E j)
     obtain⟨y,j⟩:=r a (by omega);obtain⟨z,F⟩:=r b (by omega);have C:y=z:=(by have:(c7 (gC c) a i).getD 0=(c7 (gC c) b i).getD 0:=J;rw[j,F] at this;exact this);subst C;have e:c7 (gC c) ((b-a-1)+1) y=some y:=(by have D:c7 (gC c) b i=(c7 (gC c) a i).bind (c7 (gC c) (b-a)):=(by rw[<- oM,show a+(b-a)=b by omega]);rw[F,j] at D;rw[show b-a-1+1=b-a by omega];exact D.symm);have B:=FI l E j;have G:=SF c y (b-a-1) (2*c.nd.ak.length) y e (by omega);have o:=p y B;rw[Nat.zero_add] at o;unfold Sc.jF at o;rw[G] at o;cases o
 have:gC c i=none:=by unfold gC Sc.of;rw[List.getElem?_eq_none (by omega)];rfl
 rw[c7,this];rfl
theorem Sz:∀(f i:Nat),c7 (gC c) (f+1) i=none->c.nd.ak.length<=16->Oe c f (c.of i)
 | 0,i,h,_=>by
   rw[c7] at h;unfold gC at h
   show (c.of i).2=0;split at h
   . assumption
   simp[c7] at h
 | f+1,i,h,a=>by
   rw[c7] at h;unfold gC at h
   show (c.of i).2=0∨_;split at h
   . left;assumption
   rename_i b
   right;refine⟨?_,?_⟩
   . have:=(QE c i).resolve_left b;omega
   rw[Sy c b];exact Sz f _ h a
theorem Rr (h:c.e4=[])(a:c.nd.ak.length<=16)(f i:Nat)(b:16<=f):Oe c f (c.of i):=by refine Sz f i ?_ a;rw[show f+1=17+(f-16) by omega,oM,U6 h a i];rfl
def R7 (c:Sc)(t:Tm)(k:Nat×Nat):Prop:=(∃q∈c.nd.eqs,t∈bh b8 q.r)/\(k.2=0∨(k.1<=1000000/\Oe c 17 (c.up k)))
theorem VA (v:gP c.nd)(z:c.cG=[])(r:c.e4=[]):Ps c 18 (R7 c):=by
 have e:=v.bO;have o:∀j,(c.of j).2=0∨((c.of j).1<=1000000/\Oe c 17 (c.up (c.of j))):=λj=>Rr r e 18 j (by omega);refine⟨λt k h=>?_,λt k h=>h.2,λt k h y=>?_,λt k i u h _ A=>?_,λt k x u l h B p=>?_⟩
 . obtain⟨⟨q,a,b⟩,_⟩:=h;exact (v.eqs q a).2.2.1.BP b
 . obtain⟨⟨q,a,b⟩,_⟩:=h;obtain⟨d,d1,_⟩:=Ss z a b y;exact⟨d,d1⟩
 . obtain⟨⟨q,a,b⟩,f⟩:=h;refine⟨⟨q,a,QG _ b (QD (aM A))⟩,?_⟩;unfold Sc.operand;split
   . exact o _
   split
   . right;refine⟨by have:=O8 c t.s;show c.idx t.s<=_;omega,?_⟩;unfold Sc.up;rw[ag (by show (if 0<i then 2 else 1)=1∨(if 0<i then 2 else 1)=2;split <;> simp)];exact Rr r e 17 _ (by omega)
   exact f
 obtain⟨⟨q,a,b⟩,f⟩:=h;exact⟨⟨q,a,QG _ b (QD (by rw[p];simp))⟩,f⟩
theorem Vw:∀t:Tm,N5 t<=vz t:=by
 intro t;induction t using Tm.ind with
 | h k a s p n i f =>
   have d:∀l:List Tm,(∀u∈l,N5 u<=vz u)->OY l<=k8 l:=by
    intro l;induction l with
    | nil=>intro _;rw[OY];exact aE _
    | cons u l b => intro h;have j:=h u (Mx ..);have o:=b (λx e=>h x (cS _ e));rw[OY,zf];omega
   have:=d i f;rw[N5,qz];split <;> omega
end
theorem SD:∀l:List Qn,OZ l=(l.map λq=>N5 q.r).sum
 | []=>rfl
 | q::l=>by rw[OZ,SD l,List.map_cons,List.sum_cons]
theorem Sv {e:List ay}(h:P0 e)(r:1201<=gas):∀(f k:Nat) (n:ay),e[k]?=some n->k<f->Pr 18 gas f ⟨e.take k,n⟩
 | 0,k,n,_,x=>by omega
 | f+1,k,n,a,x=>by
   have b:=aM a;have p:=h.wf n b;have y:=(aB.1 a).1;have D:=h.mW;have o:=h.sz n b;refine⟨⟨R7 _,⟨⟨λm z=>h.wf m (List.mem_of_mem_take z),p,by show (e.take k).length<=6;rw[List.length_take];omega⟩,?_,VA p (h.names k n a) (h.R8 k n a),λq A=>⟨⟨q,A,P1 _⟩,Rr (c:=⟨e.take k,n⟩) (h.R8 k n a) p.bO 18 _ (by omega)⟩,?_⟩⟩,λs d v=>?_⟩
   . show n.eqs.length<=1000000;have:∀l:List Qn,l.length<=(l.map λq=>vz q.r).sum:=by
      intro l;induction l with
      | nil=>exact an _
      | cons q l B =>
        have:1<=vz q.r:=by cases q.r;rw[qz];omega
        simp only[List.map_cons,List.sum_cons,bJ];omega
     have:=this n.eqs;omega
   . rw[SD];refine aJ (Rt (λq=>N5 q.r) _) (aJ ?_ (aJ o r));have:∀l:List Qn,(l.map λq=>N5 q.r).sum<=(l.map λq=>vz q.r).sum:=by
      intro l;induction l with
      | nil=>exact an _
      | cons q l B=>have:=Vw q.r;simp only[List.map_cons,List.sum_cons];omega
     exact this n.eqs
   obtain⟨i,C,E,j,rfl,_⟩:=Sm v;exact Sv h r f i C j (by omega)
end
section
variable {a:List ay}
theorem SG:∀l:List (Nat×Int),l.length<=ML l
 | []=>an 0
 | i::l=>by have h:=SG l;have:ML (i::l)=ML [i]+ML l:=OB [i] l;have b:1<=ML [i]:=(by unfold ML Ak;simp);rw[this,bJ];omega
def OE (c:Nat)(b:List ay)(n:ay):Cd:=MQ 18 c 6 ⟨b,n⟩ 0 ((Pb ⟨b,n⟩).add 0 1)
theorem U5 {b:List ay}{n:ay}(h:P0 a)(d:a=b++[n])(c:Nat)(g:MK a b.length<=60):PZ (OE c b n)/\qv (OE c b n)/\(OE c b n).dn.length=n.ah:=by
 have s:a[b.length]?=some n:=by rw[d];simp
 have p:a.take b.length=b:=by rw[d];simp
 have A:b.length<6:=by have:=h.mW;rw[d] at this;simp at this;omega
 have q:=h.wf n (aM s);have j:=Sl h (gas:=c) (fu:=18) (an _) 6 b.length n s A g 0 ((Pb ⟨b,n⟩).add 0 1);rw[p] at j;obtain⟨K,i⟩:∃K,OE c b n=K:=⟨_,rfl⟩;unfold OE at i;rw[i] at j;unfold OE;rw[i];obtain⟨L,D⟩:=j;obtain⟨R,C,t,u,v,I,J,w⟩:=L.ex;have e:K.row=[(0,1)]++R:=t;have f:K.cells=C:=by rw[u];show []++C=C;simp
 have k:K.dn.length=n.ah:=by
  rw[L.dn]
  show ((n.ak.take n.ah).map (·.bl)).length=_;rw[List.length_map,List.length_take];have:=q.io;omega
 have B:K.aG=n.aG:=L.aG;have E:n.ak.length+1<=K.al:=by have:0+n.ak.length+1<=K.al:=D;omega
 have F:K.al<=102:=by have:K.al<=max 0 (0+17*(b.length+1)):=L.s2;omega
 have o:K.cells.length<=60:=by rw[f];omega
 have r:Pc K.al K.cells.length 0 0 K.row:=by rw[e];exact (Pc.push (h:=0) (by omega)).kZ (w K.al K.cells.length 0 (aE _) (an _) (an _))
 have m:ML K.row<=9+(13300+13600*MK a b.length):=by rw[e,OB];have:=Ro 0 1;omega
 have M:=q.io;have y:=q.bO;refine⟨⟨by omega,by omega,o,λx G=>v x (by rw[<- f];exact G),r.ok,r.fit,?_⟩,⟨?_,by omega⟩,k⟩
 . unfold MW Nf Ov OL;have z:(K.cells.flatMap na).length=8*K.cells.length:=by
    have:∀l:List Int,(l.flatMap na).length=8*l.length:=by
     intro l;induction l with
     | nil=>rfl
     | cons x l H=>rw[List.flatMap_cons,aP,H,PO,bJ];omega
    exact this _
   simp only[aP,bJ,cw,List.length_map,z];have:(K.row.flatMap Ak).length<=9+(13300+13600*MK a b.length):=m;omega
 have:=SG K.row;omega
theorem U3 (h:dh a=none):(∀c∈kd a,c.cG=[]/\c.e4=[])/\hr a [] 0<=60:=by
 unfold dh at h;split at h
 . cases h
 rename_i d
 split at h
 . cases h
 split at h
 . cases h
 rename_i e
 split at h
 . cases h
 split at h
 . cases h
 split at h
 . cases h
 rename_i f
 refine⟨λc b=>⟨mw (yz d) c b,mw (yz e) c b⟩,?_⟩;have:=yz f;unfold ih at this;split at this
 . cases this
 omega
theorem Vx (h:dh a=none)(g:∀n∈a,gP n)(l:a.length<=6)(f:∀n∈a,n.Nh.length<=1201)(d:∀n∈a,∀q∈n.eqs,Bk q.r=true):P0 a/\(∀b n,a=b++[n]->MK a b.length<=60):=by
 obtain⟨i,j⟩:=U3 h;refine⟨⟨g,l,λn m=>?_,d,λk n c=>(i _ (J8 c)).1,λk n c=>(i _ (J8 c)).2⟩,λb n e=>?_⟩
 . have:=f n m;unfold ay.Nh at this;rw[List.length_flatMap] at this;exact this
 have o:a.length=b.length+1:=by rw[e];simp
 have:=E7 (ns:=a) b.length 0 0 (by omega);rw[List.drop_zero] at this;rw[show ha a 0=[] from rfl] at this;rw[show b.length=a.length-1 by omega,<- this];exact j
end
section
open Go.RowKit Go.Extern.Stop Go.Stop Go.Extern
theorem Tryz.AW (v:Xv)(w:Xw):(Extern.ReflectliteType.typeOf #[.iface 324 v]).run prog w=.ok (.iface 245 (.agg #[.pointer (some (xD 21 324))])) w:=by kernel_rfl
def zb:Array Value->Sem Value:=Extern.ReflectliteType.method λt=>do Extern.Rtype.noPackHeld "Comparable" t;pure (.bool (<- typeInfo t).comparable)
theorem Tryz.AQ (v:Xv)(w:Xw):(Go.method 465 245 v "Comparable").run prog w=.ok (278,v) w:=by kernel_rfl
theorem Tryz.td (v:Xv)(w:Xw):(Go.method 465 169 v "Unwrap").run prog w=.ok (275,v) w:=by kernel_rfl
theorem Tryz.AR (v:Xv)(w:Xw):(Go.method 465 71 v "Unwrap").run prog w=.ok (269,v) w:=by kernel_rfl
theorem Tryz.Am (a:Xa)(w:Xw):(callFunc 278 a).run prog w=((zb a).run prog w).andThen λv b=>.ok (.value v) b:=run_callFunc_extern func278 (by kernel_rfl) (by kernel_rfl) (by kernel_rfl) (by kernel_rfl) a w
theorem Tryz.sH (a:Xa)(w:Xw):(callFunc 141 a).run prog w=((Extern.ReflectliteType.typeOf a).run prog w).andThen λv b=>.ok (.value v) b:=run_callFunc_extern func141 (by kernel_rfl) (by kernel_rfl) (by kernel_rfl) (by kernel_rfl) a w
theorem Tryz.AP (w:Xw):(zb #[.agg #[.pointer (some (xD 21 324))]]).run prog w=.ok (.bool true) w:=by kernel_rfl
theorem Tryz.AO:(prog.info? 324).map (·.comparable)=some true:=by kernel_rfl
theorem Tryz.AV:(prog.info? 326).map (·.size)=some 1:=by kernel_rfl
theorem Tryz.Bm (v:Xv)(a:Xy)(w:Xw):(Instr.typeAssert (.iface 324 v) a 285 true).run prog w=.ok (.tuple #[.nilIface,.bool false]) w:=run_typeAssert_lacksB underlying285 (by kernel_rfl) (by kernel_rfl) v a w
theorem Tryz.Bq (v:Xv)(a:Xy)(w:Xw):(Instr.typeAssert (.iface 324 v) a 253 true).run prog w=.ok (.tuple #[.nilIface,.bool false]) w:=run_typeAssert_lacksB underlying253 (by kernel_rfl) (by kernel_rfl) v a w
theorem Tryz.Br (v:Xv)(a:Xy)(w:Xw):(Instr.typeAssert (.iface 324 v) a 255 true).run prog w=.ok (.tuple #[.nilIface,.bool false]) w:=run_typeAssert_lacksB underlying255 (by kernel_rfl) (by kernel_rfl) v a w
theorem Tryz.Bo (v:Xv)(a:Xy)(w:Xw):(Instr.typeAssert (.iface 169 v) a 285 true).run prog w=.ok (.tuple #[.nilIface,.bool false]) w:=run_typeAssert_lacksB underlying285 (by kernel_rfl) (by kernel_rfl) v a w
theorem Tryz.s4 (v:Xv)(a:Xy)(w:Xw):(Instr.typeAssert (.iface 169 v) a 253 true).run prog w=.ok (.tuple #[.iface 169 v,.bool true]) w:=run_typeAssert_hasB underlying253 (by kernel_rfl) v a w
theorem Tryz.Bn (v:Xv)(a:Xy)(w:Xw):(Instr.typeAssert (.iface 71 v) a 285 true).run prog w=.ok (.tuple #[.nilIface,.bool false]) w:=run_typeAssert_lacksB underlying285 (by kernel_rfl) (by kernel_rfl) v a w
theorem Tryz.AD (v:Xv)(a:Xy)(w:Xw):(Instr.typeAssert (.iface 71 v) a 253 true).run prog w=.ok (.tuple #[.iface 71 v,.bool true]) w:=run_typeAssert_hasB underlying253 (by kernel_rfl) v a w
theorem y4 (p:Xb)(e:Xv)(w:Xw):xK 275 #[.agg #[.string p,e]] w λr a=>r=.returned e/\xB w a:=by go_enter func275,ntmps275;go_wp2;go_ret;refine⟨rfl,?_⟩;first|exact Below.refl _ _|exact zq w _
theorem Lu (k e:Xv)(w:Xw):xK 269 #[.agg #[k,e]] w λr a=>r=.returned k/\xB w a:=by go_enter func269,ntmps269;go_wp2;go_ret;refine⟨rfl,?_⟩;first|exact Below.refl _ _|exact zq w _
theorem L0 (p:Xb)(a b:Addr)(g:Int)(r:Bool)(w:Xw)(HEq:∀W,xB w W->(binOp .eql 53 (.iface 324 (.pointer (some a))) (.iface 324 (.pointer (some b)))).run prog W=.ok (.bool r) W) :
 xK 77 #[ew p (.iface 71 (.agg #[.iface 324 (.pointer (some a)),xI g])),.iface 324 (.pointer (some b))] w λe j=>e=.returned (.bool r)/\xB w j:=by
 have o:=Tryz.sH;have i:=Tryz.Am;have u:=Tryz.AQ;have t:=Tryz.td;have s:=Tryz.AR;have A:=Tryz.AW;have l:=Tryz.AP;have z:=Tryz.Bo;have D:=Tryz.s4;have y:=Tryz.Bn;have C:=Tryz.AD;have x:=Tryz.Bm;have B:=Tryz.Bq;have E:=Tryz.Br;have n:=λv h W=>run_eql_iface_types (P:=prog) 169 324 v h underlying53 (by decide) W;have m:=λv h W=>run_eql_iface_types (P:=prog) 71 324 v h underlying53 (by decide) W;unfold ew;go_enter func77,ntmps77;go_wp2;refine wp_loop_rounds 3 ?_;rw[rounds_succ];go_wp2_with (go_at_call 275;refine (y4 _ _ _).mono ?_;rintro e F ⟨rfl,d⟩);rw[rounds_succ];go_wp2_with (go_at_call 269;refine (Lu _ _ _).mono ?_;rintro e k ⟨rfl,f⟩);have c:=za (d.trans (f.mono d.size));have q:=HEq k c.o;rw[rounds_succ];cases r with
 | true => go_wp2;go_ret;exact⟨rfl,c.o⟩
 | false => go_wp2;go_ret;exact⟨rfl,c.o⟩
theorem Tryz.BO (t:Addr)(w:Xw):(ReflectliteValue.unpack (.iface 73 (.pointer (some t)))).run prog w
 = .ok (.agg #[.pointer (some (xD 21 73)),xP w.heap.size,.int .u64 150]) (w.alloc (.cells #[.pointer (some t)] 73)):=by kernel_rfl
theorem Tryz.BL (a:Addr)(w:Xw):(ReflectliteValue.methodAny (ReflectliteValue.valueError "reflectlite.Value.Type" 0) (λt _ _ _=>ReflectliteType.toType t) #[.agg #[.pointer (some (xD 21 73)),.pointer (some a),.int .u64 150]]).run prog w
 = .ok (.iface 245 (.agg #[.pointer (some (xD 21 73))])) w:=by kernel_rfl
theorem Tryz.Bi (h:Xv)(w:Xw):(Go.method 465 245 (.agg #[h]) "Kind").run prog w=.ok (265,h) w:=by kernel_rfl
theorem Tryz.Bg (h:Xv)(w:Xw):(Go.method 465 245 (.agg #[h]) "Elem").run prog w=.ok (279,.agg #[h]) w:=by kernel_rfl
theorem Tryz.Bh (h:Xv)(w:Xw):(Go.method 465 245 (.agg #[h]) "Implements").run prog w=.ok (280,.agg #[h]) w:=by kernel_rfl
theorem Tryz.Bf (h:Xv)(w:Xw):(Go.method 465 245 (.agg #[h]) "AssignableTo").run prog w=.ok (277,.agg #[h]) w:=by kernel_rfl
theorem Tryz.Ba (w:Xw):((ReflectliteType.abiMethod λt=>Functor.map (λa:Nat=>Value.int IntKind.u8 (a:Int)) (Rtype.kind t)) #[.pointer (some (xD 21 73))]).run prog w=.ok (.int .u8 22) w:=by kernel_rfl
theorem Tryz.A9 (w:Xw):((ReflectliteType.abiMethod λt=>Functor.map (λa:Nat=>Value.int IntKind.u8 (a:Int)) (Rtype.kind t)) #[.pointer (some (xD 21 71))]).run prog w=.ok (.int .u8 25) w:=by kernel_rfl
theorem Tryz.Au (w:Xw):(ReflectliteType.method ReflectliteType.elem #[.agg #[.pointer (some (xD 21 73))]]).run prog w=.ok (.iface 245 (.agg #[.pointer (some (xD 21 71))])) w:=by kernel_rfl
theorem Tryz.AE (w:Xw):(ReflectliteType.relation "Implements" ReflectliteType.implements_ #[.agg #[.pointer (some (xD 21 71))],.iface 245 (.agg #[.pointer (some (xD 21 53))])]).run prog w=.ok (.bool true) w:=by kernel_rfl
theorem Tryz.BJ (v:Xv)(w:Xw):(ReflectliteType.typeOf #[.iface 71 v]).run prog w=.ok (.iface 245 (.agg #[.pointer (some (xD 21 71))])) w:=by kernel_rfl
theorem Tryz.BK (v:Xv)(w:Xw):(ReflectliteType.typeOf #[.iface 169 v]).run prog w=.ok (.iface 245 (.agg #[.pointer (some (xD 21 169))])) w:=by kernel_rfl
theorem Tryz.Af (w:Xw):(ReflectliteType.relation "AssignableTo" ReflectliteType.assignableTo #[.agg #[.pointer (some (xD 21 71))],.iface 245 (.agg #[.pointer (some (xD 21 71))])]).run prog w=.ok (.bool true) w:=by kernel_rfl
theorem Tryz.Ag (w:Xw):(ReflectliteType.relation "AssignableTo" ReflectliteType.assignableTo #[.agg #[.pointer (some (xD 21 169))],.iface 245 (.agg #[.pointer (some (xD 21 71))])]).run prog w=.ok (.bool false) w:=by kernel_rfl
theorem Tryz.BN (k e:Xv)(w:Xw):(ReflectliteValue.unpack (.iface 71 (.agg #[k,e]))).run prog w
 = .ok (.agg #[.pointer (some (xD 21 71)),xP w.heap.size,.int .u64 153]) (w.alloc (.cells #[k,e] 71)):=by kernel_rfl
theorem Tryz.Bl (v:Xv)(a:Xy)(w:Xw):(Instr.typeAssert (.iface 169 v) a 250 true).run prog w=.ok (.tuple #[.nilIface,.bool false]) w:=run_typeAssert_lacksB underlying250 (by kernel_rfl) (by kernel_rfl) v a w
theorem tu (z:Sem Value)(f:TypeId->Addr->Nat->Nat->Sem Value)(v:Xv) :
 ReflectliteValue.method z f #[v]=(do match <- ReflectliteValue.parts v with|none=>z|some (t,a,fl)=>f t a fl (fl % 32)):=rfl
theorem Tryz.tl (a:Addr)(w:Xw):(ReflectliteValue.parts (.agg #[.pointer (some (xD 21 73)),.pointer (some a),.int .u64 150])).run prog w=.ok (some (73,a,150)) w:=by kernel_rfl
theorem Tryz.AU (a p:Addr)(W:Xw)(b:W.cell? a=some (.pointer (some p))) :
 (ReflectliteValue.method (ReflectliteValue.valueError "reflectlite.Value.IsNil" 0) ReflectliteValue.isNil #[.agg #[.pointer (some (xD 21 73)),.pointer (some a),.int .u64 150]]).run prog W=.ok (.bool false) W:=by
 rw[tu];simp only[Sem.run_bind,Tryz.tl,Result.andThen];simp[ReflectliteValue.isNil,loadVar,isAgg,underlying,underlying73,b,Result.andThen]
theorem Tryz.At (w:Xw):(Rtype.elem? 73).run prog w=.ok (some 71) w:=by kernel_rfl
theorem Tryz.Bj (p:Addr)(w:Xw):(ReflectliteValue.mk 71 p ReflectliteValue.flagAddr).run prog w=.ok (.agg #[.pointer (some (xD 21 71)),.pointer (some p),.int .u64 409]) w:=by kernel_rfl
theorem Tryz.Av (a p:Addr)(W:Xw)(b:W.cell? a=some (.pointer (some p))) :
 (ReflectliteValue.method (ReflectliteValue.valueError "reflectlite.Value.Elem" 0) ReflectliteValue.elem #[.agg #[.pointer (some (xD 21 73)),.pointer (some a),.int .u64 150]]).run prog W
   = .ok (.agg #[.pointer (some (xD 21 71)),.pointer (some p),.int .u64 409]) W:=by
 rw[tu];simp only[Sem.run_bind,Tryz.tl,Result.andThen];simp[ReflectliteValue.elem,loadVar,isAgg,underlying,underlying73,b,Result.andThen,Tryz.At,Tryz.Bj]
theorem Bv (v x:Xv):ReflectliteValue.set #[v,x]=(do
 let (some (dst,a,fl),some (src,b,_)):=(<- ReflectliteValue.parts v,<- ReflectliteValue.parts x)
  | unsupported (.noEntry "extern/(internal/reflectlite.Value).Set.zeroValue")
 if fl / ReflectliteValue.flagAddr % 2==0 then unsupported (.noEntry "extern/(internal/reflectlite.Value).Set.unaddressable")
 let c <- loadVar src b
 if <- Rtype.directlyAssignable dst src then storeVar dst a c
 else if <- Rtype.implements dst src then
  if (<- Rtype.kind src)==20 then
   match c with
   | .nilIface=>unsupported (.noEntry "extern/reflectlite: a nil value of one interface type handed on as a value of another")
   | _=>storeVar dst a c
  else storeVar dst a (.iface src c)
 else panicString ("reflectlite.Set: value of type "++(<- Rtype.spelt src)++ " is not assignable to type "++(<- Rtype.spelt dst))
 pure (.tuple #[])):=rfl
theorem Tryz.Bt (a:Addr)(w:Xw):(ReflectliteValue.parts (.agg #[.pointer (some (xD 21 71)),.pointer (some a),.int .u64 409])).run prog w=.ok (some (71,a,409)) w:=by kernel_rfl
theorem Tryz.Bs (a:Addr)(w:Xw):(ReflectliteValue.parts (.agg #[.pointer (some (xD 21 71)),.pointer (some a),.int .u64 153])).run prog w=.ok (some (71,a,153)) w:=by kernel_rfl
theorem Tryz.As (w:Xw):(Rtype.directlyAssignable 71 71).run prog w=.ok true w:=by kernel_rfl
theorem Tryz.Ae (w:Xw):(isAgg 71).run prog w=.ok true w:=by kernel_rfl
theorem Tryz.BE (w:Xw):(sizeOf 71).run prog w=.ok 2 w:=by kernel_rfl
theorem Tryz.BB (a b:Nat)(k e s t:Xv)(W:Xw)(o:k.oneCell'=true)(m:e.oneCell'=true)(l:xH W b #[k,e] 71)(r:xH W a #[s,t] 71) :
 (ReflectliteValue.set #[.agg #[.pointer (some (xD 21 71)),xP a,.int .u64 409],.agg #[.pointer (some (xD 21 71)),xP b,.int .u64 153]]).run prog W
   = .ok (.tuple #[]) ((W.setCell (xD a 0) k).setCell (xD a 1) e):=by
 have p:(loadVar 71 (xD b 0)).run prog W=.ok (.agg #[k,e]) W:=by
  have h:=run_loadCells_list (P:=prog) W (xD b 0) [k,e] (λj v c=>by
   obtain⟨d,f,_,_⟩:=zp l;rcases j with _|_|j
   . simp at c;subst c;exact d
   . simp at c;subst c;exact f
   simp at c)
  have i:(loadCells (xD b 0) 2).run prog W=.ok #[k,e] W:=h;unfold loadVar;simp only[Sem.run_bind,Tryz.Ae,Tryz.BE,Result.andThen,if_true,i];rfl
 have q:(storeVar 71 (xD a 0) (.agg #[k,e])).run prog W=.ok () ((W.setCell (xD a 0) k).setCell (xD a 1) e):=by
  refine run_storeVar_mid (P:=prog) W a 0 71 #[k,e] (λj c=>?_) (by kernel_rfl) (by simp[o,m]);obtain⟨d,f,g,_⟩:=zp r;have n:j<2:=c;rcases j with _|_|j
  . exact⟨by rw[Nat.zero_add,d];rfl,g _⟩
  . exact⟨by rw[Nat.zero_add,f];rfl,g _⟩
  omega
 rw[Bv];simp only[Sem.run_bind,Tryz.Bt,Tryz.Bs,Result.andThen];simp[ReflectliteValue.flagAddr,p,Tryz.As,q]
def fw (w:Xw):Prop:=w.cell? (xD 7 0)=some (.iface 245 (.agg #[.pointer (some (xD 21 53))]))
theorem L1 (p:Xb)(k:Xv)(d:Int)(N:k.oneCell'=true)(b:Nat)(z A:Xv)(w:Xw)(x:fw w)(y:w.heap[b]?=some (.cells #[z,A] 71 (0,0))) :
 xK 39 #[ew p (.iface 71 (.agg #[k,xI d])),.iface 73 (xP b)] w λe l=>e=.returned (.bool true)/\l.heap[b]?=some (.cells #[k,xI d] 71 (0,0))/\Fr (λj=>j=b) w l:=by
 have r:=ze y;have B:∀a w,(callFunc 73 a).run prog w=(((λa=>ReflectliteValue.unpack (a.getD 0 (.tuple #[]))) a).run prog w).andThen λv l=>.ok (.value v) l:=run_callFunc_extern func73 (by kernel_rfl) (by kernel_rfl) (by kernel_rfl) (by kernel_rfl);have C:=@run_callFunc_extern prog 74 _ (ReflectliteValue.methodAny (ReflectliteValue.valueError "reflectlite.Value.Type" 0) (λt _ _ _=>ReflectliteType.toType t)) func74 (by kernel_rfl) (by kernel_rfl) (by kernel_rfl) (by kernel_rfl);have D:=@run_callFunc_extern prog 75 _ (ReflectliteValue.method (ReflectliteValue.valueError "reflectlite.Value.IsNil" 0) ReflectliteValue.isNil) func75 (by kernel_rfl) (by kernel_rfl) (by kernel_rfl) (by kernel_rfl);have I:=@run_callFunc_extern prog 265 _ (ReflectliteType.abiMethod λt=>do pure (.int .u8 (<- Rtype.kind t))) func265 (by kernel_rfl) (by kernel_rfl) (by kernel_rfl) (by kernel_rfl);have G:=@run_callFunc_extern prog 279 _ (ReflectliteType.method ReflectliteType.elem) func279 (by kernel_rfl) (by kernel_rfl) (by kernel_rfl) (by kernel_rfl);have H:=@run_callFunc_extern prog 280 _ (ReflectliteType.relation "Implements" ReflectliteType.implements_) func280 (by kernel_rfl) (by kernel_rfl) (by kernel_rfl) (by kernel_rfl);have L:=Tryz.sH;have E:=@run_callFunc_extern prog 277 _ (ReflectliteType.relation "AssignableTo" ReflectliteType.assignableTo) func277 (by kernel_rfl) (by kernel_rfl) (by kernel_rfl) (by kernel_rfl);have M:=@run_callFunc_extern prog 142 _ (ReflectliteValue.method (ReflectliteValue.valueError "reflectlite.Value.Elem" 0) ReflectliteValue.elem) func142 (by kernel_rfl) (by kernel_rfl) (by kernel_rfl) (by kernel_rfl);have K:=@run_callFunc_extern prog 143 _ ReflectliteValue.set func143 (by kernel_rfl) (by kernel_rfl) (by kernel_rfl) (by kernel_rfl);have a2:=Tryz.td;have a4:=Tryz.BJ;have a5:=Tryz.BK;have aL:=Tryz.Bf;have V:=Tryz.Af;have X:=Tryz.Ag;have a9:=Tryz.BN;have vP:=Tryz.BO;have bl:=Tryz.BL;have a1:=Tryz.Bi;have aV:=Tryz.Bg;have a0:=Tryz.Bh;have aA:=Tryz.Ba;have ar:=Tryz.A9;have Y:=Tryz.Au;have ab:=Tryz.AE;have a3:=Tryz.Bl;have a6:=Tryz.s4;have Z:7<w.heap.size:=World.block_lt_of_cell? w (xD 7 0) x;have o:=Tryz.AU (xD w.heap.size 0) (xD b 0) ((w.alloc (.cells #[xP b] 73)).alloc (.cells #[.pointer (some (xD 21 73)),xP w.heap.size,.int .u64 150] 158)) (by simp);have q:((w.alloc (.cells #[xP b] 73)).alloc (.cells #[.pointer (some (xD 21 73)),xP w.heap.size,.int .u64 150] 158)).cell? (xD 7 0)=some (.iface 245 (.agg #[.pointer (some (xD 21 53))])):=zj _ (zj _ x);unfold ew;go_enter func39,ntmps39;go_wp2;refine zn (λW=>(xB w W)/\w.heap.size+3<=W.heap.size/\W.heap[w.heap.size]?=some (.cells #[xP b] 73 (0,0))/\W.heap[w.heap.size+2]?=some (.cells #[.pointer (some (xD 21 73)),xP w.heap.size,.int .u64 150] 158 (0,0))) ⟨jh (jh (zq w _) (an _) _) (an _) _,by simp,?_,?_⟩ ?_
 . rw[Below.heap_alloc _ _ _ (by simp;omega),Below.heap_alloc _ _ _ (by simp)];exact zc w _
 . have u:=zc ((w.alloc (.cells #[xP b] 73)).alloc (.cells #[.pointer (some (xD 21 73)),xP w.heap.size,.int .u64 150] 158)) (.cells #[.pointer (some (xD 21 73)),xP w.heap.size,.int .u64 150] 158);rw[au,au] at u;exact u
 rintro U ⟨g,O,n,h⟩;clear o q;obtain⟨Q,R,T,bb,vz⟩:=zL h;refine wp_loop_rounds 2 ?_;rw[rounds_succ];go_wp2_with (go_at_call 275;refine (y4 _ _ _).mono ?_;rintro e m ⟨rfl,c⟩);have P:=c.size;have i:=(c.block w.heap.size (by omega)).trans n;obtain⟨be,bg,bk,bo,bp⟩:=zL ((c.block (w.heap.size+2) (by omega)).trans h);have f:=(c.block b (by have:=g.size;omega)).trans ((g.block b r).trans y);have F:=Tryz.Av (xD w.heap.size 0) (xD b 0) m (zu i).1;have J:=Tryz.BB b m.heap.size k (xI d) z A (m.alloc (.cells #[k,xI d] 71)) N rfl (zc m _) ((Below.heap_alloc _ _ _ (ze f)).trans f);have s:=ze f;clear Q R T i;rw[rounds_succ];go_wp2;go_ret;refine⟨rfl,?_,?_⟩
 . exact (Below.heap_alloc _ _ _ (by simpa [World.setCell] using s)).trans (pa f k (xI d))
 exact (((((Fr.Mo g).dr (Fr.Mo (S:=λj=>j=b) c) (λ_ _ e=>e)).setCell (ao rfl) k).setCell (ao rfl) _).alloc _)
end
end Go.Proofs.YtbicmofihhjgbaaGreatDoor
