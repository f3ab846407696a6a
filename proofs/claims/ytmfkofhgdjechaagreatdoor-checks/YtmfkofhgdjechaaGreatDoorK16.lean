/- Part 17 of the proof. -/
import Derived.Test.YtmfkofhgdjechaaGreatDoorK15
set_option maxRecDepth 100000
set_option maxHeartbeats 8000000
namespace Go.Proofs.YtmfkofhgdjechaaGreatDoor
open Go.Proofs.Tryz
section
variable {f:List Nd} {m:List ay} {k:Nat} {d:Nd} {n:ay} {c:Sc}
theorem Gi {g:Tm->Bool}:∀(t u:Tm),u∈bh g t->u∈bh b8 t:=by
 intro t;induction t using Tm.ind with
 | h K a s nm v l i =>
   intro u hu;rw[bh] at hu;rw[bh,ag (show b8 (.mk K a s nm v l)=true from rfl)];rcases cC.1 hu with rfl|hu
   . exact ce ..
   split at hu
   . obtain⟨j,t,b,e⟩:=ni.1 hu;exact cS _ (ni.2 ⟨j,t,b,i t (aM b) u e⟩)
   cases hu
theorem v6 (h:di f m k d n c)(s:Xb):fV d.ab s=c.idx s:=by unfold fV Sc.idx ay.find;rw[h.cv]
theorem wM (h:di f m k d n c){i:Nat}{v:Vr}(b:d.ab[i]?=some v):(e5 d.ab i).toList=if (c.of i).2=0 then [] else [(c.of i).1]:=by
 have l:c.of i=c.own v:=by unfold Sc.of;rw[h.cv,b]
 rw[l];unfold e5 Sc.own;rw[b];simp only;rcases oR v with ⟨a,e⟩|⟨a,e⟩
 . rw[a,ag e];rfl
 obtain⟨u,g,_⟩:=h.found (h.ck v (aM b) a);have j:¬ba v=0:=by omega
 rw[ag a,g];simp[j]
theorem lf (h:di f m k d n c){g:ax->List Nat}{v:Nat}{l:Xn}:(v,l)∈nn d g↔∃q∈d.eqs,∃s∈q.ns,v=c.idx s/\l=g q++(e5 d.ab (c.idx s)).toList:=by
 unfold nn ld kx;rw[ed];constructor
 . rintro⟨q,a,i⟩;obtain⟨s,b,e⟩:=List.mem_map.1 i;rw[v6 h] at e;cases e;exact⟨q,a,s,b,rfl,rfl⟩
 rintro⟨q,a,s,b,rfl,rfl⟩;exact⟨q,a,List.mem_map.2 ⟨s,b,by rw[v6 h]⟩⟩
theorem ES {q:Qn}{s:Xb}{a b:Nat}:(a,b)∈fG c q s↔a=c.idx s/\((¬(c.of a).2=0/\b=(c.of a).1)∨oY c q.r b):=by
 unfold fG j0 oY;simp only[bj,ed];constructor
 . rintro (h|⟨u,g,h⟩)
   . split at h
     . cases h
     rename_i e;cases cu.1 h;exact⟨rfl,ao ⟨e,rfl⟩⟩
   split at h
   . rename_i e;cases cu.1 h;exact⟨rfl,ap ⟨u,g,e,rfl⟩⟩
   cases h
 rintro⟨rfl,⟨e,rfl⟩|⟨u,g,e,rfl⟩⟩
 . left;rw[ae e];exact cu.2 rfl
 exact ap ⟨u,g,by rw[ag e];exact cu.2 rfl⟩
theorem Ey (h:di f m k d n c){C:Nat->List Nat->Prop}(bx:∀x e l,d.az[x]?=some e->l.length<=100000->jD d C e l->C x l)(hF:∀q∈n.eqs,lF q.r)(X:∀q∈n.eqs,cc q.r<=100000)(hu:∀i v,d.ab[i]?=some v->bm v.nm d.ab 0=some i)(a9:∀q∈d.eqs,q.ns.length=q.ps.length)(ak:jP d=[])(bE:∀q∈n.eqs,∀s∈q.ns,¬c.idx s<c.nd.ah) :
 ∃G:ax->List Nat,(∀q∈d.eqs,(∀u∈G q,u<d.ab.length)/\(G q).length<=100000/\C q.ex (G q))/\∀x,x∈nu d G↔x∈c.gb:=by
 have a0:∀q:ax,∃l,∀o∈n.eqs,ft d.az q o->C q.ex l/\l.length<=100000/\∀i,i∈l↔oY c o.r i:=λq=>by
  by_cases N:∃o∈n.eqs,ft d.az q o
  . obtain⟨o,E,h2⟩:=N;obtain⟨l,l1,l2,l3⟩:=Gw h bx o.r q.ex h2.r (h.tm o E) (hF o E) (X o E);exact⟨l,λbp h3 h4=>by rw[q8 h4 h2];exact⟨l1,aJ l2 (X o E),l3⟩⟩
  exact⟨[],λo E h2=>absurd ⟨o,E,h2⟩ N⟩
 obtain⟨G,H⟩:=Classical.skolem.1 a0;have z:∀q∈d.eqs,∃o∈n.eqs,ft d.az q o:=λq p=>by obtain⟨j,L⟩:=List.mem_iff_getElem?.1 p;obtain⟨o,a4,M⟩:=kv h.dn.eqs L;exact⟨o,aM a4,M⟩
 have O:∀o∈n.eqs,∃q∈d.eqs,ft d.az q o:=λo p=>by
  obtain⟨j,L⟩:=List.mem_iff_getElem?.1 p;have Q:j<d.eqs.length:=by have:=(aB.1 L).1;have:=h.dn.eqs.len;omega
  obtain⟨bp,A,M⟩:=kv h.dn.eqs (av Q);rw[L] at A;cases A;exact⟨_,List.getElem_mem Q,M⟩
 have D:∀{s:Xb},c.has s=true->∃v,c.idx s<d.ab.length/\d.ab[c.idx s]?=some v:=fun {s} r=>by obtain⟨v,_,y⟩:=h.found r;exact⟨v,(aB.1 y).1,y⟩
 have T:∀o∈n.eqs,∀i,oY c o.r i->i<d.ab.length:=by rintro o p i ⟨u,m1,m2,rfl⟩;obtain⟨v,g,_⟩:=D ((h.tm o p u (Gi _ _ m1)).1 m2);exact g
 have B:∀q∈d.eqs,∀s∈q.ns,c.has s=true/\¬c.idx s<c.nd.ah:=λq p s r=>by obtain⟨o,w,y⟩:=z q p;rw[<- y.ns] at r;exact⟨h.left o w s r,bE o w s r⟩
 have t:∀a b,(a,b)∈fl (nn d G)↔(a,b)∈c.hI:=λa b=>by
  rw[lZ];unfold Sc.hI;rw[show c.nd.eqs=n.eqs by rw[h.sc]];simp only[ed,ES];constructor
  . rintro⟨l,F,hb⟩;obtain⟨q,p,s,r,rfl,rfl⟩:=(lf h).1 F;obtain⟨o,w,y⟩:=z q p;obtain⟨v,_,K⟩:=D (B q p s r).1;refine⟨o,w,s,by rw[y.ns];exact r,rfl,?_⟩;rcases bj.1 hb with hb|hb
    . exact ap (((H q o w y).2.2 b).1 hb)
    rw[wM h K] at hb;split at hb
    . cases hb
    rename_i Z;exact ao ⟨Z,cu.1 hb⟩
  rintro⟨o,w,s,r,rfl,hb⟩;obtain⟨q,p,y⟩:=O o w;obtain⟨v,_,K⟩:=D (h.left o w s r);refine⟨_,(lf h).2 ⟨q,p,s,by rw[<- y.ns];exact r,rfl,rfl⟩,bj.2 ?_⟩;rcases hb with ⟨Z,rfl⟩|hb
  . right;rw[wM h K,ae Z];exact cu.2 rfl
  exact ao (((H q o w y).2.2 b).2 hb)
 have a2:∀v l,(v,l)∈nn d G->v<d.ab.length/\∀u∈l,u<d.ab.length:=by
  intro v l F;obtain⟨q,p,s,r,rfl,rfl⟩:=(lf h).1 F;obtain⟨o,w,y⟩:=z q p;obtain⟨v,g0,K⟩:=D (B q p s r).1;refine⟨g0,λu hu=>?_⟩;rcases bj.1 hu with hu|hu
  . exact T o w u (((H q o w y).2.2 u).1 hu)
  exact o2 (Option.mem_toList.1 hu)
 have bL:=h.ab;have J:∀i v,d.ab[i]?=some v->bv (d.ab.map (·.bn)) i=v.bn:=λi v hv=>by unfold bv;rw[List.getD_eq_getElem?_getD,List.getElem?_map,hv];rfl
 unfold jP at ak;rw[ec] at ak;have U:=wQ (S:=[]) a9 ak.1 (by simp);rw[List.nil_append] at U
 have be:=EX (n:=d.ab.length) (R:=nn d G) (h0:=d.ab.map (·.bn)) (by simp) a2
  (λi I al=>by
    have hv:=av I;rw[J i _ hv] at al;have bs:=ak.2;unfold gX at bs;have:=List.flatMap_eq_nil_iff.1 bs _ (List.getElem_mem I);split at this
    . rename_i bk
      unfold nv at bk;rw[al,Bool.false_or,List.any_eq_true] at bk;obtain⟨s,r,e⟩:=bk;have e:=of_decide_eq_true e;obtain⟨q,p,r⟩:=ed.1 r;refine⟨_,(lf h).2 ⟨q,p,s,r,?_,rfl⟩⟩;rw[<- v6 h,e];unfold fV;rw[hu i _ hv];rfl
    cases this)
  (λv l F=>by
    obtain⟨q,p,s,r,rfl,rfl⟩:=(lf h).1 F;obtain⟨w,y⟩:=B q p s r;obtain⟨v,g0,K⟩:=D w;have P:c.nd.ah=(d.ab.filter (·.bn)).length:=(by rw[h.sc];exact h.dn.ah);rw[J _ v K,q2 bL _ v K,<- P,decide_eq_false y])
  (λv l l' F a5=>by
    obtain⟨q,p,s,r,bt,rfl⟩:=(lf h).1 F;obtain⟨bp,V,s2,W,a0,rfl⟩:=(lf h).1 a5;have es:=wT (B q p s r).1 (B bp V s2 W).1 (by rw[<- bt,<- a0]);subst es;obtain⟨j,L⟩:=List.mem_iff_getElem?.1 p;obtain⟨b3,A⟩:=List.mem_iff_getElem?.1 V;have:=vB U L A r W;subst this;rw[L] at A;cases A;rfl)
 refine⟨G,λq p=>?_,λx=>?_⟩
 . obtain⟨o,w,y⟩:=z q p;obtain⟨b0,b1,b2⟩:=H q o w y;exact⟨λu hu=>T o w u ((b2 u).1 hu),b1,b0⟩
 unfold nu Sc.gb;have ca:c.nd.a=d.a:=by rw[h.sc];exact h.dn.a
 rw[h.cv,ca,EF (an _),Nat.sub_self,ed];have ar:∀a b,(a,b)∈c.hI->a<d.ab.length/\b<d.ab.length:=λa b a3=>by obtain⟨l,F,hb⟩:=lZ.1 ((t a b).2 a3);exact⟨(a2 a l F).1,(a2 a l F).2 b hb⟩
 have bl:(∃v,v<d.ab.length/\bv (o0 d G) v=false)↔∃i,0<=i/\i<d.ab.length/\(i,i)∈jm d.ab.length c.hI:=by
  unfold o0;rw[be];constructor
  . rintro⟨i,hw⟩;have Y:=vZ (λa b=>(t a b).1) hw;refine⟨i,aE _,?_,(oV ar i i).2 Y⟩;cases Y with
    | one E=>exact (ar _ _ E).1
    | more E _=>exact (ar _ _ E).1
  rintro⟨i,_,_,I⟩;exact⟨i,vZ (λa b=>(t a b).2) ((oV ar i i).1 I)⟩
 rw[<- bl];constructor
 . rintro⟨i,I,N⟩;rw[eR] at N;exact⟨N.2,i,List.mem_range.1 I,by simpa using N.1⟩
 rintro⟨rfl,i,I,al⟩;exact⟨i,List.mem_range.2 I,by rw[eR];exact⟨by rw[al];simp,rfl⟩⟩
end
section
variable {ns:List ay}
theorem Fe (l:Xn):iK l=l.sum:=by
 have:∀(l:Xn) (a:Nat),l.foldl (·+·) a=a+l.sum:=by
  intro l;induction l with
  | nil=>intro a;simp
  | cons x l b=>intro a;rw[List.foldl_cons,b,List.sum_cons];omega
 unfold iK;rw[this];omega
theorem FP (g:Tm->Nat):∀t:Tm,((b7 t).map g).sum=((bh b8 t).map g).sum:=by
 intro t;induction t using Tm.ind with
 | h k a s nm n c f =>
   rw[b7,bh,ag (show b8 (.mk k a s nm n c)=true from rfl),List.map_append,List.sum_append,List.map_cons,List.sum_cons];have d:∀l:List Tm,(∀t∈l,((b7 t).map g).sum=((bh b8 t).map g).sum)->((cH l).map g).sum=((cN b8 l).map g).sum:=by
    intro l;induction l with
    | nil=>intro _;rw[cH,cN]
    | cons t l b => intro h;rw[cH,cN,List.map_append,List.map_append,List.sum_append,List.sum_append,h t (ce ..),b (λt e=>h t (cS _ e))]
   rw[d c f];simp;omega
theorem FG {L:List Ex}{f:Ex->Nat}{g:Tm->Nat}(h:∀i u e,bX L i u->L[i]?=some e->f e=g u):∀{l:List ax} {a b:Nat} {d:List Qn},eH L a l d b->b<=L.length->(((L.drop a).take (b-a)).map f).sum=((d.flatMap λq=>b7 q.r).map g).sum:=by
 intro l;induction l with
 | nil=>rintro a b d ⟨rfl,rfl⟩ _;simp
 | cons q l w =>
   rintro a b d ⟨x,A,c,rfl,y,k,z,m⟩ t;have v:=vX m;have p:=k.len;have s:(L.drop a).take (b-a)=(L.drop a).take (c-a)++(L.drop c).take (b-c):=(by rw[show b-a=(c-a)+(b-c) by omega,List.take_add,List.drop_drop,show a+(c-a)=c by omega]);rw[s,List.map_append,List.sum_append,w m t,List.flatMap_cons,List.map_append,List.sum_append];congr 2;apply List.ext_getElem?;intro j;rw[List.getElem?_map,List.getElem?_map,List.getElem?_take,List.getElem?_drop];by_cases o:j<c-a
   . rw[ag o];obtain⟨u,r⟩:∃u,(b7 x.r)[j]?=some u:=⟨_,av (by omega)⟩;obtain⟨e,n⟩:∃e,L[a+j]?=some e:=⟨_,av (by omega)⟩;rw[r,n];exact congrArg some (h (a+j) u e (k.tr j u r) n)
   rw[ae o,List.getElem?_eq_none (by omega)];rfl
theorem Gj {p:Prop} [Decidable p] {a b c:Nat}(d:a≠c)(e:b≠c):(if p then a else b)≠c:=by split <;> assumption
theorem FB (l:Xu)(n:Nat):(aF l n==9)=(l==[102,98,121]):=by
 by_cases h:l=[102,98,121]
 . subst h;rfl
 rw[bf.2 h,bf];unfold aF;rw[ae h]
 repeat' (first|decide|refine Gj ?_ ?_)
def ha (ns:List ay):Nat->List (ByteArray×Nat)
 | 0=>[]
 | k+1=>match ns[k]? with
   | none=>ha ns k
   | some n=>(n.nm,hl n (ha ns k))::ha ns k
def MK (ns:List ay)(k:Nat):Nat:=match ns[k]? with
 | none=>0
 | some n=>hl n (ha ns k)
def q9 (ns:List ay):Prop:=∀(i j:Nat) (n m:ay),ns[i]?=some n->ns[j]?=some m->n.nm=m.nm->i=j
theorem wE (g:q9 ns):∀(k:Nat),k<=ns.length->∀(f:Nat) (n:ay),f<k->ns[f]?=some n->fa n.nm (ha ns k)=MK ns f
 | 0,_,f,n,h,_=>by omega
 | k+1,i,f,n,h,c=>by
   obtain⟨m,b⟩:∃m,ns[k]?=some m:=⟨_,av (by omega)⟩;rw[ha,b];simp only;rw[fa];by_cases a:f=k
   . subst a;rw[b] at c;cases c;rw[ag rfl,MK,b]
   have d:¬m.nm=n.nm:=λe=>a (g f k n m c b e.symm);rw[ae d];exact wE g k (by omega) f n (by omega) c
theorem E7 {ns:List ay}:∀(j k x:Nat),k+j+1=ns.length->hr (ns.drop k) (ha ns k) x=MK ns (ns.length-1)
 | 0,k,x,h=>by obtain⟨n,a⟩:∃n,ns[k]?=some n:=⟨_,av (by omega)⟩;rw[dE (show k<ns.length by omega),(aB.1 a).2,hr,List.drop_of_length_le (by omega),hr,show ns.length-1=k by omega,MK,a]
 | j+1,k,x,h=>by obtain⟨n,a⟩:∃n,ns[k]?=some n:=⟨_,av (show k<ns.length by omega)⟩;have:=E7 (ns:=ns) j (k+1) (hl n (ha ns k)) (by omega);rw[ha,a] at this;rw[dE (show k<ns.length by omega),(aB.1 a).2,hr];exact this
theorem F4 {a:List Nd}(g:dS a ns)(G:q9 ns)(j:∀(k:Nat) (d:Nd) (n:ay),a[k]?=some d->ns[k]?=some n->eH d.az 0 d.eqs n.eqs d.az.length)(b:∀(k:Nat) (d:Nd),a[k]?=some d->∀e∈d.az,(e.op.toList==[99,97,108,108])=true->∃f,ea e.s (a.take k) 0=some f):E2 a (MK ns):=by
 refine⟨λk d o=>?_,b⟩;obtain⟨n,t,D⟩:=nr g k d o;have E:=(aB.1 t).1;have r:∀i u e,bX d.az i u->d.az[i]?=some e->q4 a k (MK ns) e=fE (ha ns k) u:=by
  intro i u e F y;cases F with
  | mk _ J M A K L =>
    rw[A] at y;cases y;have I:=FB e.op.toList e.n;have B:=(qO e.op.toList e.n).2;unfold q4 fE;rw[<- I,<- B]
    show _=if aF e.op.toList e.n=9 then 1 else if aF e.op.toList e.n=4 then 1+fa e.s (ha ns k) else 0;by_cases m:aF e.op.toList e.n=9
    . rw[ag (by rw[m];rfl),ag m]
    rw[ae (by rw[beq_iff_eq];exact m),ae m];by_cases c:aF e.op.toList e.n=4
    . rw[ag (by rw[c];rfl),ag c];obtain⟨f,p⟩:=b k d o e (aM A) (by rw[<- B,c];rfl);rw[p];simp only;rw[oT (oK k g)] at p;obtain⟨_,s,v,w,x⟩:=iC p;rw[Nat.sub_zero] at w;have h:f<k:=(by rw[List.length_take] at s;omega);rw[List.getElem?_take,ag h] at w;rw[<- x,wE G k (by omega) f v h w]
    rw[ae (by rw[beq_iff_eq];exact c),ae c]
 have z:=FG r (j k d n o t) (an _);rw[Nat.sub_zero,List.drop_zero,List.take_length] at z;have C:∀l:List Qn,((l.flatMap λq=>b7 q.r).map (fE (ha ns k))).sum=((l.flatMap λq=>bh b8 q.r).map (fE (ha ns k))).sum:=by
  intro l;induction l with
  | nil=>rfl
  | cons q l H=>rw[List.flatMap_cons,List.flatMap_cons,List.map_append,List.map_append,List.sum_append,List.sum_append,H,FP]
 rw[MK,t];simp only;unfold hl gC;rw[Fe,z,C]
end
section
open Go.RowKit
variable {N:Nat} {c:Sc} {d f:Xv} {w:Xw}
attribute [local go_sem ↓] Go.wp_at_zero Go.wp_at_succ
structure hn (w:Xw) (N:Nat) (ts:List Tm) (v:Xv):Prop where
 ex:∃a cp,v=.slice a ts.length cp/\ts.length<=cp/\cp<=9223372036854775807/\(ts≠[]->∃g o,a=some (xD g o)/\g<N/\∀i u,ts[i]?=some u->∃ub,w.cell? (xD g (o+i))=some (xP ub)/\TT w N u (xP ub))
theorem hn.am {w w':Xw}{k:List Tm}{v:Xv}(h:hn w N k v)(j:bV N w w'):hn w' N k v:=by obtain⟨a,l,m,n,p,q⟩:=h.ex;refine⟨a,l,m,n,p,λb=>?_⟩;obtain⟨g,o,r,e,s⟩:=q b;refine⟨g,o,r,e,λi u y=>?_⟩;obtain⟨z,t,x⟩:=s i u y;exact⟨z,(World.cell?_of_block (w:=w) (j g e)).trans t,x.am j⟩
theorem yp {t:Tm}{b:Xv}{j:Xm}(a:w.ownsRow 0 159 1 b j.length j)(r:j.length=t.ts.length)(C:∀(i:Nat) (u:Tm) (x:Xv),t.ts[i]?=some u->j[i]?=some x->TT w N u x)(B:∀g,b.ownBlock=some g->g<N):hn w N t.ts b:=by
 obtain⟨x,m,rfl⟩:=zB a;have n:j.length<=m/\m<=9223372036854775807:=by
  rcases a.2 with ⟨e,h⟩|⟨g,l,v,k,_,_,z,A,_⟩
  . simp only[Value.slice.injEq] at e;omega
  cases k;unfold maxLen at A;exact⟨z,by omega⟩
 refine⟨x,m,by rw[r],by omega,n.2,λo=>?_⟩;have y:0<j.length:=by rw[r];exact List.length_pos_iff.2 o
 obtain⟨g,l,k,_⟩:=zM a y;cases k;refine⟨g,0,rfl,B g rfl,λi u s=>?_⟩;have E:=(aB.1 s).1;have k:j[i]?=some j[i]:=av (by omega);have q:=r5 a k;have p:=C i u _ s k;obtain⟨D,_,_,e,_⟩:=p.ptr;rw[e] at q p;exact⟨D,by rw[Nat.zero_add];exact q,p⟩
theorem H3 (c:Sc)(a:Nat)(t:Tm)(l:List Tm):eV c a (t::l)=(bo c t==a&&eV c a l):=rfl
theorem rZ (M:eU c)(h:Nat)(a:List Tm)(v:Xv)(w:Xw)(E:hn w N a v)(p:br w N c d f)(I:N<=w.heap.size)(J:∀t∈a,gN c t) :
 xK 176 #[.agg #[d,f],xI h,v] w (λe Y=>e=.returned (.bool (eV c h a))/\xB w Y):=by
 obtain⟨x,al,rfl,O,T,_⟩:=E.ex;obtain⟨ak,s,V,rfl,rfl,U⟩:=p.shape;go_enter func176,ntmps176;go_wp2_with fail;go_loopg [11] (a.length+1) (λj i wr=>∃k:Nat,k+j=a.length+1/\k<=a.length/\i=xI k/\aa (eV c h (a.drop k)=eV c h a)/\aa (xH wr w.heap.size #[xE ak c s,xP V] 205)/\aa (xB w wr));case atStart=>exact⟨0,by omega,aE _,rfl,rfl,zc w _,zq w _⟩
 case round =>
  obtain⟨k,S,ar,rfl,F,H,m⟩:=hrel;obtain⟨a0,s1,a2,W⟩:=zp H.o;by_cases n:k<a.length
  . obtain⟨t,D⟩:∃t,a[k]?=some t:=⟨_,av n⟩;obtain⟨x',K,u,_,_,A⟩:=(E.am (zm m.o I)).ex;cases u;obtain⟨g,o,rfl,R,z⟩:=A (by intro e;rw[e] at n;simp at n);obtain⟨X,P,y⟩:=z k t D;have G:=za (nD M t (xP X) wr y (p.am (zm m.o I)) (by have:=m.o.size;omega) (J t (aM D)));have Q:a.drop k=t::a.drop (k+1):=by obtain⟨u,L⟩:=aB.1 D;rw[dE u,L]
    have q:=F.o;rw[Q,H3] at q;have r:=m.o.size;by_cases B:bo c t=h
    . have C:((bo c t:Int) != (h:Int))=false:=(by simp[B]);have b:aa (eV c h (a.drop (k+1))=eV c h a):=(by unfold aa;rw[<- q];simp[B]);go_wp2_with (go_at_call 175;refine G.o.mono ?_;rintro e Z ⟨rfl,l⟩);go_roundg (gk-1);case measure=>omega
      exact⟨k+1,by omega,by omega,by go_num,b.o,(l.block _ W).trans H.o,m.o.trans (l.mono r)⟩
    have C:((bo c t:Int) != (h:Int))=true:=(by simp;omega);have b:aa (eV c h a=false):=(by unfold aa;rw[<- q];simp[B]);go_wp2_with (go_at_call 175;refine G.o.mono ?_;rintro e Z ⟨rfl,l⟩);go_ret;exact⟨by rw[b.o];rfl,m.o.trans (l.mono r)⟩
  have q:eV c h a=true:=by rw[<- F.o,List.drop_of_length_le (by omega)];rfl
  have b:=za q;go_wp2_with fail;go_ret;exact⟨by rw[b.o];rfl,m.o⟩
theorem yw (a b:Nat):Ending.returned (.bool ((a:Int)==(b:Int)))=Ending.returned (.bool (a==b)):=by
 have:((a:Int)==(b:Int))=(a==b):=by rw[Bool.eq_iff_iff];simp;omega
 rw[this]
theorem rE (E:eU c)(t1 t2:Tm)(b:List Tm)(v:Xv)(w:Xw)(S:hn w N (t1::t2::b) v)(i:br w N c d f)(r:N<=w.heap.size)(A:gN c t1)(B:gN c t2) :
 xK 177 #[.agg #[d,f],v] w (λe j=>e=.returned (.bool (gp c (t1::t2::b)))/\xB w j):=by
 obtain⟨x,ar,rfl,T,V,C⟩:=S.ex;obtain⟨g,o,rfl,U,n⟩:=C (by simp);obtain⟨H,D,M⟩:=n 0 t1 rfl;obtain⟨I,Q,O⟩:=n 1 t2 rfl;obtain⟨K,l,G,rfl,rfl,X⟩:=i.shape;have u:=za (λW (a:xB w W)=>nD E t1 (xP H) W (M.am (zm a r)) (i.am (zm a r)) (by have:=a.size;omega) A);have y:=za (λW (a:xB w W)=>nD E t2 (xP I) W (O.am (zm a r)) (i.am (zm a r)) (by have:=a.size;omega) B);have L:aa (gp c (t1::t2::b)=(bo c t1==bo c t2)):=by unfold aa gp;rw[dO,dO,dO]
 have p:g<w.heap.size:=by omega
 rw[Nat.add_zero] at D;generalize bo c t1=Z at *;generalize bo c t2=ak at *;have a0:((xD g o):Addr).add 0=⟨g,o,none⟩:=by simp[Addr.add]
 have al:((xD g o):Addr).add 1=⟨g,o+1,none⟩:=by simp[Addr.add]
 have a3:0<(t1::t2::b).length:=by simp
 have n1:1<(t1::t2::b).length:=by simp
 have a2:(0:Int)<((t1::t2::b).length:Int):=by simp;omega
 have l1:(1:Int)<((t1::t2::b).length:Int):=by simp;omega
 generalize (t1::t2::b).length=a4 at *;go_enter func177,ntmps177;go_upto_region 1 with fail;refine zn (λW=>(xH W w.heap.size #[xE K c l,xP G] 205)/\xB w W) ⟨zc w _,zq w _⟩ ?_;rintro W ⟨Y,a⟩;obtain⟨a5,s1,a9,be⟩:=zp Y;have P:=zd a D p;have R:=zd a Q p;have q:=a.size;have s:=za (u.o W.drew (zo a))
 go_region_held3 (λj=>j.cell? (xD w.heap.size 0)=some (xE K c l)/\j.cell? (xD w.heap.size 1)=some (xP G)/\j.cell? (xD g o)=some (xP H)/\j.cell? (xD g (o+1))=some (xP I))
  (first|(with_reducible (refine⟨?_,?_,?_,?_⟩ <;> repeat (first|assumption|refine zg ?_|refine zj _ ?_|refine zk (by omega) ?_|refine zd k.o ?_ (by first|omega|(rw[au];omega))|refine zd h.o ?_ (by first|omega|(rw[au];omega)))))|go_keep)
  (first
    | (go_at_call 175;refine t.o.mono ?_;rintro e bk ⟨rfl,z⟩;have k:=za z)
    | (go_at_call 175;refine s.o.mono ?_;rintro e J ⟨rfl,m⟩;have h:=za (zw m);(have F:W.heap.size<=J.heap.size:=m.size);have t:=za (y.o J (a.trans (h.o.mono q)))))
 all_goals go_wp2_with fail
 all_goals go_ret
 all_goals exact⟨by rw[L.o];exact yw Z ak,(a.trans (h.o.mono q)).trans (k.o.mono (by omega))⟩
end
section
open Go.RowKit
variable {N k:Nat} {c:Sc} {t:Tm} {v:Xv}
attribute [local go_sem ↓] Go.wp_at_zero Go.wp_at_succ
theorem yI {n:Nat}(h:dJ k n=true):k<=23:=by
 rcases Nat.lt_or_ge 23 k with h'|h'
 . exfalso;unfold dJ at h;simp only[show ¬k<=3 by omega,show ¬k=4 by omega,show ¬k=5 by omega,show ¬k=6 by omega,show ¬k<=8 by omega,show ¬k=9 by omega,show ¬k<=11 by omega,show ¬k<=23 by omega,if_false] at h;cases h
 exact h'
theorem IK (w:Xw)(h:TT w N t v)(A:dJ t.k t.ts.length=true) :
 xK 178 #[v] w (λe J=>e=.returned (.bool (gq t))/\w=J):=by
 obtain⟨b,z,Y,rfl,T,m,d,f,o,_⟩:=h.ptr;obtain⟨O,P,Q,R,S,F,U,V⟩:=zt m;obtain⟨k,a,s,nm,n,i⟩:=t;simp only[Tm.k,Tm.ts] at *;have E:=yI A;by_cases l:k=10
 . subst l;have B:0<i.length:=by simp[dJ] at A;omega
   obtain⟨u,r⟩:∃u,i[0]?=some u:=⟨_,av B⟩;obtain⟨Z,D,rfl⟩:=zB d;rw[f] at F d;obtain⟨g,X,rfl,H,q,_⟩:=TT.arg (t:=.mk 10 a s nm n i) d f o r;obtain⟨_,_,_,e,_,y,_⟩:=q.ptr;cases e;obtain⟨W,_⟩:=zt y;have I:gq (.mk 10 a s nm n i)=(u.k==0):=by
    unfold gq;cases i with
    | nil=>simp at B
    | cons x i=>simp at r;subst r;simp[Tm.k,Tm.ts]
   have p:=za I;generalize u.k=C at *;by_cases j:C=0
   . subst j;go_enter func178,ntmps178;go_wp2_with fail;go_ret;exact⟨by rw[p.o];rfl,rfl⟩
   have d0:((C:Int)==0)=false:=(by simp;omega);go_enter func178,ntmps178;go_wp2_with fail;go_ret;exact⟨by rw[p.o];simp[j],rfl⟩
 have G:k=0∨k=1∨k=2∨(k≠0/\k≠1/\k≠2):=by omega
 rcases G with rfl|rfl|rfl|⟨K,L,M⟩
 . go_enter func178,ntmps178;go_wp2_with fail;go_ret;exact⟨rfl,rfl⟩
 . go_enter func178,ntmps178;go_wp2_with fail;go_ret;exact⟨rfl,rfl⟩
 . go_enter func178,ntmps178;go_wp2_with fail;go_ret;exact⟨rfl,rfl⟩
 have d1:((k:Int)==0)=false:=by simp;omega
 have d2:((k:Int)==1)=false:=by simp;omega
 have d3:((k:Int)==2)=false:=by simp;omega
 have d4:((k:Int)==10)=false:=by simp;omega
 have p:aa (gq (.mk k a s nm n i)=false):=by unfold aa gq;exact (ae (show ¬(k=0∨k=1∨k=2) by omega)).trans (ae (show ¬k=10 from l))
 go_enter func178,ntmps178;go_wp2_with fail;go_ret;exact⟨by rw[p.o];rfl,rfl⟩
def j3 (k:Nat):Bool:=ch k&&k != 3
theorem Hs (w:Xw)(h:TT w N t v) :
 xK 112 #[v] w (λe m=>e=.returned (.bool (j3 t.k))/\w=m):=by
 have a:=za (rq w h);obtain⟨b,j,z,rfl,u,f,_⟩:=h.ptr;obtain⟨n,o,p,q,r,s,x,y⟩:=zt f;generalize t.k=k at *;cases g:ch k with
 | false => rw[g] at a;have i:aa (j3 k=false):=(by unfold aa j3;rw[g];rfl);go_enter func112,ntmps112;go_wp2_with (go_at_call 106;refine a.o.mono ?_;rintro e l ⟨rfl,rfl⟩);go_ret;exact⟨by rw[i.o];rfl,rfl⟩
 | true =>
   rw[g] at a;by_cases d:k=3
   . subst d;go_enter func112,ntmps112;go_wp2_with (go_at_call 106;refine a.o.mono ?_;rintro e l ⟨rfl,rfl⟩);go_ret;exact⟨rfl,rfl⟩
   have d1:((k:Int) != 3)=true:=(by simp;omega);have i:aa (j3 k=true):=(by unfold aa j3;rw[g];simp[d]);go_enter func112,ntmps112;go_wp2_with (go_at_call 106;refine a.o.mono ?_;rintro e l ⟨rfl,rfl⟩);go_ret;exact⟨by rw[i.o];rfl,rfl⟩
theorem GN {a:List Tm}{b:List Vr}{v:Vr}(h:a[k]?=some t)(i:b[k]?=some v):gF c (a.drop k) (b.drop k)=if (bo c t != dt v)=true then false else gF c (a.drop (k+1)) (b.drop (k+1)):=by obtain⟨d,e⟩:=aB.1 h;obtain⟨f,g⟩:=aB.1 i;rw[dE d,dE f,e,g];rfl
theorem Iq {d:Sc}{ev b0:Xv}(U:eU c)(t:Tm)(v:Xv)(w:Xw)(hT:TT w N t v)(D:br w N c ev b0)(Q:N<=w.heap.size)(b3:gN c t)(a2:c.called t.s=some d)(cs:d.nd.ah=t.ts.length) :
 xK 179 #[.agg #[ev,b0],v] w (λe h=>e=.returned (.bool (gF c t.ts d.nd.ab))/\xB w h):=by
 obtain⟨b,bE,vs,rfl,gc,q,A,z,S,a3⟩:=hT.ptr;have F:=(U.called a2).1.nd;have X:=za (yp A z S a3);obtain⟨h1,ca,rfl⟩:=zB A;obtain⟨J,m,I,rfl,rfl,c5⟩:=D.shape;have R:=ze q;rw[z] at q X;have c2:=F.io;have dn:=F.aG;have cv:=F.bO;go_enter func179,ntmps179;go_upto_region 1 with fail;refine zn (λW=>W.heap[w.heap.size]?=some (.cells #[xE J c m,xP I] 205 (0,0))/\xB w W) ⟨zc w _,zq w _⟩ ?_;rintro W ⟨al,s⟩;obtain⟨hQ,s1,hR,b2⟩:=zp al;obtain⟨m0,m1,m2,m3,m4,m5,g4,g5⟩:=zt ((s.block b R).trans q);have ds:=s.size;have M:∀W,xB w W->br W N c (xE J c m) (xP I):=λW s=>D.am (zm s Q);have Y:=za (ji t.s (t.nm:Int) W.drew (M W.drew (zo s)) (by show N<=W.heap.size;omega) U.bO a2);have Z:=za (λo=>ji t.s (t.nm:Int) (W.alloc o).drew (M _ (zo (s.alloc (by omega) o))) (by show N<=(W.alloc o).heap.size;simp;omega) U.bO a2)
 go_region_held3 (λh=>h.cell? (xD w.heap.size 0)=some (xE J c m)/\h.cell? (xD w.heap.size 1)=some (xP I)/\h.cell? (xD b 2)=some (.string t.s)/\h.cell? (xD b 3)=some (xI t.nm))
  (first|(with_reducible (refine⟨?_,?_,?_,?_⟩ <;> repeat (first|assumption|refine zg ?_|refine zj _ ?_|refine zk (by omega) ?_|refine zd a.o ?_ (by first|omega|(rw[au];omega)))))|go_keep)
  (first
    | (go_at_call 100;refine Y.o.mono ?_;rintro e bp ⟨x2,E,B,rfl,H,n⟩;have a:=za (zw n);have f:=za H)
    | (go_at_call 100;refine (Z.o _).mono ?_;rintro e bp ⟨x2,E,B,rfl,H,n⟩;have a:=za (zw n);have f:=za H;obtain⟨h2,V,h3,h4⟩:=zp ((a.o.block W.heap.size (by rw[au];omega)).trans (zc W _))))
 all_goals go_upto_region 2 with fail
 refine zn (λx=>ki w N d bp.heap.size B x2 E x/\xH x w.heap.size #[xE J c m,xP I] 205) ⟨su s a.o f.o Q,(Below.heap_alloc _ _ _ (by have:=a.o.size;omega)).trans ((a.o.block _ b2).trans al)⟩ ?_;generalize bp.heap.size=bs;rotate_left;refine zn (λx=>ki w N d W.heap.size B x2 E x/\xH x w.heap.size #[xE J c m,xP I] 205) ⟨ss s a.o f.o Q,(zr (by omega) rfl).trans ((zr (by omega) rfl).trans ((a.o.block _ (by rw[au];omega)).trans ((Below.heap_alloc _ _ _ b2).trans al)))⟩ ?_;generalize W.heap.size=bs
 all_goals
  rintro x ⟨L,ak⟩;obtain⟨t0,t1,h0,es⟩:=zp L.box;obtain⟨em,eq,g6,b1⟩:=zp ak;obtain⟨gl,go,gs,gt,g0,g1,g2,g3⟩:=zt ((L.aH.block b R).trans q);have bl:=L.aH.size;obtain⟨eb,fd,er,fr,ck,C⟩:=L.sc.nd;cases ck;obtain⟨xv,O,rfl⟩:=zB C.bZ;have c4:=C.lo;obtain⟨_,_,P,_,cm,_⟩:=X.o.ex;simp only[Value.slice.injEq] at P;obtain⟨rfl,_,rfl⟩:=P;go_wp2_with fail;go_loopg [24] (t.ts.length+1) (λj i wr=>∃k:Nat,k+j=t.ts.length+1/\k<=t.ts.length/\i=xI k/\aa (gF c (t.ts.drop k) (d.nd.ab.drop k)=gF c t.ts d.nd.ab)/\aa (xB x wr));case atStart=>exact⟨0,by omega,aE _,rfl,rfl,Below.refl _ _⟩
  case round =>
   obtain⟨k,c3,ge,rfl,bt,l⟩:=hrel;have r:xB w wr:=L.aH.trans (l.o.mono bl);have bk:=l.o.size;by_cases G:k<t.ts.length
   . obtain⟨u,hu⟩:∃u,t.ts[k]?=some u:=⟨_,av G⟩;obtain⟨v,hv⟩:∃v,d.nd.ab[k]?=some v:=⟨_,av (by omega)⟩;obtain⟨x',b4,P,_,_,a4⟩:=(X.o.am (zm r Q)).ex;simp only[Value.slice.injEq] at P;obtain⟨rfl,_,rfl⟩:=P;obtain⟨g,o,rfl,c0,a0⟩:=a4 (by intro e;rw[e] at G;simp at G);obtain⟨ex,cn,ar⟩:=a0 k u hu;have p:=C.am (zm l.o (by omega:N<=x.heap.size));obtain⟨K,rfl,_,_,fV,_⟩:=hj p.bZ hv;have c1:=p.jc K rfl;obtain⟨g7,g8,g9,he,hg,hm,hw,hN⟩:=zt p.aC;have fv:=zd l.o em b1;have fx:=zd l.o eq b1;have d1:=zd l.o t1 es;have bx:=za (nD U u (xP ex) wr.drew (ar.am (λ_ _=>rfl)) (D.am (w':=wr.drew) (zm (zo r) Q)) (by show N<=wr.heap.size;omega) (b3.sub (aM hu)));have y:=GN (c:=c) hu hv;rw[bt.o] at y;have i0:(0:Int)<=(k:Int):=(by omega);have i1:(k:Int)<(d.nd.ab.length:Int):=(by omega);have be:dt v=dv v:=rfl;rw[be] at y;have bL:K<wr.heap.size:=(by omega);have c9:B<wr.heap.size:=(by omega);generalize bo c u=V at *;generalize dv v=T at *;by_cases a5:V=T
     . have a9:((V:Int) != (T:Int))=false:=(by simp[a5]);rw[ae (by simp[a5])] at y;have f:=za y;go_upto_region 5 with fail
       go_region_held3 (λh=>h.cell? (xD w.heap.size 0)=some (xE J c m)/\h.cell? (xD w.heap.size 1)=some (xP I)/\h.cell? (xD bs 1)=some (xP B)/\h.cell? (xD B 2)=some (xS K d.nd.ab.length O)/\h.cell? (xD K (k*7+2))=some (xI T))
        (first|(with_reducible (refine⟨?_,?_,?_,?_,?_⟩ <;> repeat (first|assumption|refine zg ?_|refine zj _ ?_|refine zk (by omega) ?_|refine zd a.o ?_ (by first|omega|(rw[au];omega)))))|go_keep)
        (first
          | (go_at_call 175;refine bx.o.mono ?_;rintro e fq ⟨rfl,n⟩;have a:=za (zw n)))
       all_goals go_wp2_with fail
       all_goals
        go_roundg (gk-1);case measure=>omega
        exact⟨k+1,by omega,by omega,by go_num,f.o.symm,l.o.trans (a.o.mono bk)⟩
     have a9:((V:Int) != (T:Int))=true:=(by simp;omega);rw[ag (by simp[a5])] at y;have f:=za y;go_upto_region 5 with fail
     go_region_held3 (λh=>h.cell? (xD w.heap.size 0)=some (xE J c m)/\h.cell? (xD w.heap.size 1)=some (xP I)/\h.cell? (xD bs 1)=some (xP B)/\h.cell? (xD B 2)=some (xS K d.nd.ab.length O)/\h.cell? (xD K (k*7+2))=some (xI T))
      (first|(with_reducible (refine⟨?_,?_,?_,?_,?_⟩ <;> repeat (first|assumption|refine zg ?_|refine zj _ ?_|refine zk (by omega) ?_|refine zd a.o ?_ (by first|omega|(rw[au];omega)))))|go_keep)
      (first
        | (go_at_call 175;refine bx.o.mono ?_;rintro e fq ⟨rfl,n⟩;have a:=za (zw n)))
     all_goals go_wp2_with fail
     all_goals go_ret
     all_goals exact⟨by rw[f.o];rfl,r.trans (a.o.mono (by omega))⟩
   have y:gF c t.ts d.nd.ab=true:=(by rw[<- bt.o,List.drop_of_length_le (by omega)];rfl);have f:=za y;go_wp2_with fail;go_ret;exact⟨by rw[f.o];rfl,r⟩
end
section
open Go.RowKit
variable {j:List Tm} {N l n:Nat} {w:Xw}
attribute [local go_sem ↓] Go.wp_at_zero Go.wp_at_succ
theorem hn.cut {a:Xp}(h:hn w N j (.slice a n l)){k:Nat}(z:k<=j.length):hn w N (j.take k) (.slice a k l):=by
 obtain⟨x,f,m,y,p,q⟩:=h.ex;cases m;have v:(j.take k).length=k:=by simp;omega
 refine⟨a,l,by rw[v],by omega,p,λc=>?_⟩;have d:j≠[]:=by intro e;subst e;simp at c
 obtain⟨g,o,r,s,t⟩:=q d;refine⟨g,o,r,s,λi u b=>t i u ?_⟩;rw[List.getElem?_take] at b;split at b
 . exact b
 cases b
theorem nA {f:FuncId}{a:Xa}{v:Xv}(h:xK f a (w.drewN n) (λe b=>e=.returned v/\w.drewN n=b)):xK f a (w.drewN n) (λe b=>e=.returned v/\∃m,b=w.drewN m):=h.mono λ_ _ h=>⟨h.1,n,h.2.symm⟩
theorem hn.rest {t:Tm}{g o:Nat}(h:hn w N (t::j) (.slice (some (xD g o)) n l)):hn w N j (.slice (some (xD g (o+1))) j.length (l-1)):=by obtain⟨v,a,b,c,y,d⟩:=h.ex;cases b;simp only[bJ] at c;refine⟨_,l-1,rfl,by omega,by omega,λr=>?_⟩;obtain⟨x,z,e,f,k⟩:=d (by simp);cases e;refine⟨g,o+1,rfl,f,λi u q=>?_⟩;obtain⟨s,m,p⟩:=k (i+1) u (by simpa using q);exact⟨s,by rw[show o+1+i=o+(i+1) by omega];exact m,p⟩
theorem Hi {c:Sc}{ev dn:Xv}(bk:eU c)(t:Tm)(v:Xv)(w:Xw)(b0:TT w N t v)(x:br w N c ev dn)(Y:N<=w.heap.size)(b4:gN c t) :
 xK 113 #[.agg #[ev,dn],v] w (λe z=>e=.returned (.bool (c.operands t))/\xB w z):=by
 obtain⟨b,c3,vs,rfl,gc,al,a0,ar,b3,c1⟩:=b0.ptr;have cm:=yp a0 ar b3 c1;obtain⟨a4,m,rfl⟩:=zB a0;obtain⟨J,y,I,rfl,rfl,es⟩:=x.shape;have E:=ze al;obtain⟨fd,ds,ak⟩:=b4 _ (nL b8 _);obtain⟨k,a,s,nm,n,j⟩:=t;have R:vs.length=j.length:=ar;have Q:w.heap[b]?=some (.cells #[xI k,xI a,.string s,xI nm,xI n,.slice a4 j.length m] 216 (0,0)):=by rw[<- R];exact al
 have D:=za Q;have T:hn w N j (.slice a4 j.length m):=by rw[<- R];exact cm
 have B:∀u∈j,gN c u:=λu hu=>b4.sub hu;simp only[Tm.k,Tm.s,Tm.ts] at fd ds ak;have eq:=yI ak;obtain⟨h0,h1,h2,h3,h4,h5,ge,gl⟩:=zt Q;have er:j.length<=m/\m<=9223372036854775807:=by obtain⟨_,_,e,h2,h3,_⟩:=T.ex;cases e;exact⟨h2,h3⟩
 have G:∀W,xB w W->br W N c (xE J c y) (xP I):=λW h=>x.am (zm h Y);have Z:(k=10∨k=17∨k=18∨k=19∨k=20∨k=21∨k=22∨k=23)∨(k=11∨k=12∨k=13∨k=14)∨(k=15∨k=16∨k=6)∨k=5∨k=9∨k=4∨(k=0∨k=1∨k=2∨k=3∨k=7∨k=8):=by omega
 rcases Z with hk|hk|hk|rfl|rfl|rfl|hk
 . rcases hk with rfl|rfl|rfl|rfl|rfl|rfl|rfl|rfl
   all_goals
    go_enter func113,ntmps113;go_upto_region 10 with fail;refine zn (λW=>(xH W w.heap.size #[xE J c y,xP I] 205)/\xB w W) ⟨zc w _,zq w _⟩ ?_;rintro W ⟨H,h⟩;obtain⟨bx,s1,bE,bL⟩:=zp H;obtain⟨m0,m1,m2,m3,m4,m5,bs,bt⟩:=zt ((h.block b E).trans D.o);have C:=h.size;have a5:=za (rZ bk 0 j (.slice a4 j.length m) W.drew (T.am (zm (zo h) Y)) (G W.drew (zo h)) (by show N<=W.heap.size;omega) B)
    go_region_held3 (λz=>z.cell? (xD w.heap.size 0)=some (xE J c y)/\z.cell? (xD w.heap.size 1)=some (xP I)/\z.cell? (xD b 5)=some (.slice a4 j.length m))
     (first|(with_reducible (refine⟨?_,?_,?_⟩ <;> repeat (first|assumption|refine zg ?_|refine zj _ ?_|refine zk (by omega) ?_|refine zd p.o ?_ (by first|omega|(rw[au];omega)))))|go_keep)
     (first
       | (go_at_call 176;refine a5.o.mono ?_;rintro e a3 ⟨rfl,A⟩;have p:=za (zw A)))
    all_goals go_wp2_with fail
    all_goals go_ret
    all_goals exact⟨by rfl,h.trans (p.o.mono (by omega))⟩
 . rcases hk with rfl|rfl|rfl|rfl
   all_goals
    go_enter func113,ntmps113;go_upto_region 15 with fail;refine zn (λW=>(xH W w.heap.size #[xE J c y,xP I] 205)/\xB w W) ⟨zc w _,zq w _⟩ ?_;rintro W ⟨H,h⟩;obtain⟨bx,s1,bE,bL⟩:=zp H;obtain⟨m0,m1,m2,m3,m4,m5,bs,bt⟩:=zt ((h.block b E).trans D.o);have C:=h.size;have a5:=za (rZ bk 1 j (.slice a4 j.length m) W.drew (T.am (zm (zo h) Y)) (G W.drew (zo h)) (by show N<=W.heap.size;omega) B)
    go_region_held3 (λz=>z.cell? (xD w.heap.size 0)=some (xE J c y)/\z.cell? (xD w.heap.size 1)=some (xP I)/\z.cell? (xD b 5)=some (.slice a4 j.length m))
     (first|(with_reducible (refine⟨?_,?_,?_⟩ <;> repeat (first|assumption|refine zg ?_|refine zj _ ?_|refine zk (by omega) ?_|refine zd p.o ?_ (by first|omega|(rw[au];omega)))))|go_keep)
     (first
       | (go_at_call 176;refine a5.o.mono ?_;rintro e a3 ⟨rfl,A⟩;have p:=za (zw A)))
    all_goals go_wp2_with fail
    all_goals go_ret
    all_goals exact⟨by rfl,h.trans (p.o.mono (by omega))⟩
 . rcases hk with rfl|rfl|rfl
   all_goals
    obtain⟨t1,t2,f,rfl⟩:∃t1 t2 f,j=t1::t2::f:=by
     rcases j with _|⟨t1,_|⟨t2,f⟩⟩
     . simp[dJ] at ak
     . simp[dJ] at ak
     exact⟨t1,t2,f,rfl⟩
    go_enter func113,ntmps113;go_upto_region 19 with fail;refine zn (λW=>W.heap[w.heap.size]?=some (.cells #[xE J c y,xP I] 205 (0,0))/\xB w W) ⟨zc w _,zq w _⟩ ?_;rintro W ⟨H,h⟩;obtain⟨bx,s1,bE,bL⟩:=zp H;obtain⟨m0,m1,m2,m3,m4,m5,bs,bt⟩:=zt ((h.block b E).trans D.o);have C:=h.size;have a5:=za (rE bk t1 t2 f (.slice a4 (t1::t2::f).length m) W.drew (T.am (zm (zo h) Y)) (G W.drew (zo h)) (by show N<=W.heap.size;omega) (B t1 (by simp)) (B t2 (by simp)));generalize b2:(t1::t2::f).length=a2 at *
    go_region_held3 (λz=>z.cell? (xD w.heap.size 0)=some (xE J c y)/\z.cell? (xD w.heap.size 1)=some (xP I)/\z.cell? (xD b 5)=some (.slice a4 a2 m))
     (first|(with_reducible (refine⟨?_,?_,?_⟩ <;> repeat (first|assumption|refine zg ?_|refine zj _ ?_|refine zk (by omega) ?_|refine zd p.o ?_ (by first|omega|(rw[au];omega)))))|go_keep)
     (first
       | (go_at_call 177;refine a5.o.mono ?_;rintro e a3 ⟨rfl,A⟩;have p:=za (zw A)))
    all_goals go_wp2_with fail
    all_goals go_ret
    all_goals exact⟨by rfl,h.trans (p.o.mono (by omega))⟩
 . obtain⟨t1,t2,t3,f,rfl⟩:∃t1 t2 t3 f,j=t1::t2::t3::f:=by
    rcases j with _|⟨t1,_|⟨t2,_|⟨t3,f⟩⟩⟩
    . simp[dJ] at ak
    . simp[dJ] at ak
    . simp[dJ] at ak
    exact⟨t1,t2,t3,f,rfl⟩
   obtain⟨fv,ca,ck,_,_,bp⟩:=T.ex;cases ck;obtain⟨g,o,rfl,c0,_⟩:=bp (by simp);have M:aa (c.operands (.mk 5 a s nm n (t1::t2::t3::f))=(eV c 1 [t1]&&gp c (t2::t3::f))):=rfl;have em:=za T.rest;have eb:=za (T.cut (k:=1) (by simp));have V:=za (λW (h:xB w W)=>rZ bk 1 [t1] (.slice (some (xD g o)) 1 m) W (eb.o.am (zm h Y)) (G W h) (by have:=h.size;omega) (λu hu=>B u (by simp at hu;simp[hu])));have U:=za (λW (h:xB w W)=>rE bk t2 t3 f (.slice (some (xD g (o+1))) (t2::t3::f).length (m-1)) W (em.o.am (zm h Y)) (G W h) (by have:=h.size;omega) (B t2 (by simp)) (B t3 (by simp)));have c2:(t2::t3::f).length=(t1::t2::t3::f).length-1:=(by simp);rw[c2] at U;have n3:3<=(t1::t2::t3::f).length:=(by simp);generalize b2:(t1::t2::t3::f).length=a2 at *;have ex:(1:Int)<=(a2:Int):=(by omega);have go:(1:Int)<=(m:Int):=(by omega);have gs:¬(m=1):=(by omega);have gt:¬((m:Int)=1):=(by omega);have fV:((xD g o):Addr).add 1=⟨g,o+1,none⟩:=(by simp[Addr.add]);cases P:eV c 1 [t1] with
   | true =>
     rw[P] at M V;go_enter func113,ntmps113;go_upto_region 21 with fail;refine zn (λW=>(xH W w.heap.size #[xE J c y,xP I] 205)/\xB w W) ⟨zc w _,zq w _⟩ ?_;rintro W ⟨H,h⟩;obtain⟨bx,s1,bE,bL⟩:=zp H;obtain⟨m0,m1,m2,m3,m4,m5,bs,bt⟩:=zt ((h.block b E).trans D.o);have C:=h.size;have F:=za (V.o W.drew (zo h))
     go_region_held3 (λz=>z.cell? (xD w.heap.size 0)=some (xE J c y)/\z.cell? (xD w.heap.size 1)=some (xP I)/\z.cell? (xD b 5)=some (.slice (some (xD g o)) a2 m))
      (first|(with_reducible (refine⟨?_,?_,?_⟩ <;> repeat (first|assumption|refine zg ?_|refine zj _ ?_|refine zk (by omega) ?_|refine zd L.o ?_ (by first|omega|(rw[au];omega))|refine zd p.o ?_ (by first|omega|(rw[au];omega)))))|go_keep)
      (first
        | (go_at_call 177;refine a9.o.mono ?_;rintro e fr ⟨rfl,be⟩;have L:=za be)
        | (go_at_call 176;refine F.o.mono ?_;rintro e a3 ⟨rfl,A⟩;have p:=za (zw A);(have c9:W.heap.size<=a3.heap.size:=A.size);have a9:=za (U.o a3 (h.trans (p.o.mono C)))))
     all_goals go_wp2_with fail
     all_goals go_ret
     all_goals exact⟨by rw[M.o];rfl,(h.trans (p.o.mono C)).trans (L.o.mono (by omega))⟩
   | false =>
     rw[P] at M V;go_enter func113,ntmps113;go_upto_region 21 with fail;refine zn (λW=>(xH W w.heap.size #[xE J c y,xP I] 205)/\xB w W) ⟨zc w _,zq w _⟩ ?_;rintro W ⟨H,h⟩;obtain⟨bx,s1,bE,bL⟩:=zp H;obtain⟨m0,m1,m2,m3,m4,m5,bs,bt⟩:=zt ((h.block b E).trans D.o);have C:=h.size;have F:=za (V.o W.drew (zo h));refine wp_region_noPanic ?_;refine wp_region_held_drew (S:=(λz=>z.cell? (xD w.heap.size 0)=some (xE J c y)/\z.cell? (xD w.heap.size 1)=some (xP I)/\z.cell? (xD b 5)=some (.slice (some (xD g o)) a2 m))) (by kernel_rfl) ?_ (λO=>?_)
     . (try dsimp only);(first|(with_reducible (refine⟨?_,?_,?_⟩ <;> repeat (first|assumption|refine zg ?_|refine zj _ ?_|refine zk (by omega) ?_|refine zd p.o ?_ (by first|omega|(rw[au];omega)))))|go_keep)
     refine aR 0 rfl (v:=?v1) (ao ⟨by rfl,?h1⟩) ?_;case h1=>(intro w r;(try dsimp only at r);go_simp;try with_reducible rfl)
     try simp only[Act.put,aD]
     refine aR 1 rfl (v:=?v2) (ao ⟨by rfl,?h2⟩) ?_;case h2=>(intro w r;(try dsimp only at r);go_simp;try with_reducible rfl)
     try simp only[Act.put,aD]
     refine aR 2 rfl (v:=?v3) (ao ⟨by rfl,?h3⟩) ?_;case h3=>(intro w r;(try dsimp only at r);go_simp;try with_reducible rfl)
     try simp only[Act.put,aD]
     refine aR 3 rfl (v:=?v4) (ao ⟨by rfl,?h4⟩) ?_;case h4=>(intro w r;(try dsimp only at r);go_simp;try with_reducible rfl)
     try simp only[Act.put,aD]
     refine aR 4 rfl (v:=?v5) (ao ⟨by rfl,?h5⟩) ?_;case h5=>(intro w r;(try dsimp only at r);go_simp;try with_reducible rfl)
     try simp only[Act.put,aD]
     refine aR 5 rfl (v:=?v6) (ao ⟨by rfl,?h6⟩) ?_;case h6=>(intro w r;(try dsimp only at r);go_simp;try with_reducible rfl)
     try simp only[Act.put,aD]
     refine wpAnyH_ready (rs:=[6]) (by kernel_rfl) (by simp) ?_;refine AllReadyH.cons rfl (λK c4=>?_) ?_;go_simp;first|go_at_K|(((go_at_call 176;refine F.o.mono ?_;rintro e a3 ⟨rfl,A⟩;have p:=za (zw A)));first|go_at_K|go_wp2_with fail)
     refine c4.out _ _ ?_ (λh9=>?_)
     . (try dsimp only);(first|(with_reducible (refine⟨?_,?_,?_⟩ <;> repeat (first|assumption|refine zg ?_|refine zj _ ?_|refine zk (by omega) ?_|refine zd p.o ?_ (by first|omega|(rw[au];omega)))))|go_keep)
     clear c4 K O;have O:=h9;try simp only[Act.put,aD]
     refine aR 7 rfl (v:=?v7) (ao ⟨by rfl,?h7⟩) ?_;case h7=>(intro w r;(try dsimp only at r);go_simp;try with_reducible rfl)
     try simp only[Act.put,aD]
     refine kt (i:=8) (v:=undef) rfl (by kernel_rfl) (λ_ _ _ x=>x) (ap ⟨by rfl,rfl⟩) (by assumption) ?_;try simp only[Act.put,aD]
     refine kt (i:=9) (v:=undef) rfl (by kernel_rfl) (λ_ _ _ x=>x) (ap ⟨by rfl,rfl⟩) (by assumption) ?_;try simp only[Act.put,aD]
     refine kt (i:=10) (v:=undef) rfl (by kernel_rfl) (λ_ _ _ x=>x) (ap ⟨by rfl,rfl⟩) (by assumption) ?_;try simp only[Act.put,aD]
     refine kt (i:=11) (v:=undef) rfl (by kernel_rfl) (λ_ _ _ x=>x) (ap ⟨by rfl,rfl⟩) (by assumption) ?_;try simp only[Act.put,aD]
     refine kt (i:=12) (v:=undef) rfl (by kernel_rfl) (λ_ _ _ x=>x) (ap ⟨by rfl,rfl⟩) (by assumption) ?_;try simp only[Act.put,aD]
     refine kt (i:=13) (v:=undef) rfl (by kernel_rfl) (λ_ _ _ x=>x) (ap ⟨by rfl,rfl⟩) (by assumption) ?_;try simp only[Act.put,aD]
     refine kt (i:=14) (v:=undef) rfl (by kernel_rfl) (λ_ _ _ x=>x) (ap ⟨by rfl,rfl⟩) (by assumption) ?_;try simp only[Act.put,aD]
     refine aR 15 rfl (v:=?v8) (ao ⟨by rfl,?h8⟩) ?_;case h8=>(intro w r;(try dsimp only at r);go_simp;try with_reducible rfl)
     try simp only[Act.put,aD]
     refine aR 16 rfl (v:=?v9) (ao ⟨by rfl,?h9⟩) ?_;case h9=>(intro w r;(try dsimp only at r);go_simp;try with_reducible rfl)
     try simp only[Act.put,aD]
     refine wpAnyH_done (by kernel_rfl) ?_ _;rotate_left;exact AllReadyH.nil;all_goals refine NoPanic.normal ?_
     all_goals go_wp2_with fail
     all_goals go_ret
     all_goals exact⟨by rw[M.o];rfl,h.trans (p.o.mono C)⟩
 . obtain⟨t1,t2,f,rfl⟩:∃t1 t2 f,j=t1::t2::f:=by
    rcases j with _|⟨t1,_|⟨t2,f⟩⟩
    . simp[dJ] at ak
    . simp[dJ] at ak
    exact⟨t1,t2,f,rfl⟩
   obtain⟨fv,ca,ck,_,_,bp⟩:=T.ex;cases ck;obtain⟨g,o,rfl,c0,cs⟩:=bp (by simp);obtain⟨fq,bl,cn⟩:=cs 0 t1 rfl;rw[Nat.add_zero] at bl;have M:aa (c.operands (.mk 9 a s nm n (t1::t2::f))=(gq t1&&gp c (t1::t2::f))):=rfl;have X:=za (λW (h:xB w W)=>IK W (cn.am (zm h Y)) ((B t1 (by simp)) t1 (nL b8 _)).2.2);have U:=za (λW (h:xB w W)=>rE bk t1 t2 f (.slice (some (xD g o)) (t1::t2::f).length m) W (T.am (zm h Y)) (G W h) (by have:=h.size;omega) (B t1 (by simp)) (B t2 (by simp)));have n3:0<(t1::t2::f).length:=(by simp);generalize b2:(t1::t2::f).length=a2 at *;have ex:(0:Int)<(a2:Int):=(by omega);have fx:((xD g o):Addr).add 0=⟨g,o,none⟩:=(by simp[Addr.add]);cases P:gq t1 with
   | true =>
     rw[P] at M X;go_enter func113,ntmps113;go_upto_region 23 with fail;refine zn (λW=>(xH W w.heap.size #[xE J c y,xP I] 205)/\xB w W) ⟨zc w _,zq w _⟩ ?_;rintro W ⟨H,h⟩;obtain⟨bx,s1,bE,bL⟩:=zp H;obtain⟨m0,m1,m2,m3,m4,m5,bs,bt⟩:=zt ((h.block b E).trans D.o);have C:=h.size;have b1:=zd h bl (by omega);have F:=za (X.o W.drew (zo h));have a9:=za (U.o W.drew (zo h))
     go_region_held3 (λz=>z.cell? (xD w.heap.size 0)=some (xE J c y)/\z.cell? (xD w.heap.size 1)=some (xP I)/\z.cell? (xD b 5)=some (.slice (some (xD g o)) a2 m)/\z.cell? (xD g o)=some (xP fq))
      (first|(with_reducible (refine⟨?_,?_,?_,?_⟩ <;> repeat (first|assumption|refine zg ?_|refine zj _ ?_|refine zk (by omega) ?_|refine zd L.o ?_ (by first|omega|(rw[au];omega)))))|go_keep)
      (first
        | (go_at_call 177;refine a9.o.mono ?_;rintro e fr ⟨rfl,be⟩;have L:=za (zw be))
        | (go_at_call 178;refine F.o.mono ?_;rintro e a3 ⟨rfl,rfl⟩))
     all_goals go_wp2_with fail
     all_goals go_ret
     all_goals exact⟨by rw[M.o];rfl,h.trans (L.o.mono (by omega))⟩
   | false =>
     rw[P] at M X;go_enter func113,ntmps113;go_upto_region 23 with fail;refine zn (λW=>(xH W w.heap.size #[xE J c y,xP I] 205)/\xB w W) ⟨zc w _,zq w _⟩ ?_;rintro W ⟨H,h⟩;obtain⟨bx,s1,bE,bL⟩:=zp H;obtain⟨m0,m1,m2,m3,m4,m5,bs,bt⟩:=zt ((h.block b E).trans D.o);have C:=h.size;have b1:=zd h bl (by omega);have F:=za (λq=>nA (X.o (W.drewN q) (zI h q)));go_quiet ((go_at_call 178;exact F.o _));all_goals go_wp2_with fail
     all_goals go_ret
     all_goals exact⟨by rw[M.o];rfl,zI h _⟩
 . obtain⟨d,c5,cv⟩:=ds rfl;have M:aa (c.operands (.mk 4 a s nm n j)=gF c j d.nd.ab):=by
    unfold aa Sc.operands
    show (match c.called s with|none=>true|some d=>gF c j d.nd.ab)=_;rw[c5]
   go_enter func113,ntmps113;go_upto_region 25 with fail;refine zn (λW=>(xH W w.heap.size #[xE J c y,xP I] 205)/\xB w W) ⟨zc w _,zq w _⟩ ?_;rintro W ⟨H,h⟩;obtain⟨bx,s1,bE,bL⟩:=zp H;obtain⟨m0,m1,m2,m3,m4,m5,bs,bt⟩:=zt ((h.block b E).trans D.o);have C:=h.size;have a5:=za (Iq bk (.mk 4 a s nm n j) (xP b) W (b0.am (zm h Y)) (G W h) (by omega) b4 c5 cv);go_wp2_with (go_at_call 179;refine a5.o.mono ?_;rintro e a3 ⟨rfl,A⟩;have p:=za A);go_ret;exact⟨by rw[M.o];rfl,h.trans (p.o.mono (by omega))⟩
 rcases hk with rfl|rfl|rfl|rfl|rfl|rfl
 all_goals
  go_enter func113,ntmps113;go_wp2_with fail;go_ret;exact⟨rfl,zq _ _⟩
end
section
open Go.RowKit
variable {s:Xb} {f:Xl} {N k:Nat} {c:Sc} {m r:Xv}
attribute [local go_sem ↓] Go.wp_at_zero Go.wp_at_succ
theorem K3:∀(f:Xl) (d:Xn) (k:Nat) (s:Xb) (p:Nat),f[k]?=some s->d[k]?=some p->(gg f d)[k*2]?=some (.string s)/\(gg f d)[k*2+1]?=some (xI p):=by
 intro f;induction f with
 | nil=>intro d k s p h;simp at h
 | cons a f l =>
   intro d k s p g e;cases d with
   | nil=>simp at e
   | cons b d =>
     cases k with
     | zero=>simp at g e;subst g e;exact⟨rfl,rfl⟩
     | succ k => obtain⟨i,j⟩:=l d k s p (by simpa using g) (by simpa using e);rw[show (k+1)*2=k*2+1+1 by omega];exact⟨by simpa [gg] using i,by simpa [gg] using j⟩
theorem kG {w:Xw}{n o:Nat}{a:Xp}{b:Xn}(h:w.ownsRow 0 144 2 (.slice a n o) n (gg f b)){p:Nat}(i:f[k]?=some s)(v:b[k]?=some p)(y:n=f.length) :
 ∃g,a=some (xD g 0)/\w.cell? (xD g (k*2))=some (.string s)/\w.cell? (xD g (k*2+1))=some (xI p):=by
 have u:=(aB.1 i).1;obtain⟨g,l,x,_⟩:=zM h (by omega);cases x;obtain⟨q,t⟩:=K3 f b k s p i v;have e:=h.cells (g:=g) rfl;have d:∀j,((xD g 0):Addr).add j=⟨g,j,none⟩:=λj=>by cases j <;> simp[Addr.add]
 refine⟨g,rfl,?_,?_⟩
 . have:=e _ _ q;rwa [d] at this
 have:=e _ _ t;rwa [d] at this
theorem GO {a:List Vr}{v:Vr}(h:f[k]?=some s)(i:a[k]?=some v):gE c (f.drop k) (a.drop k)=if (c.decl s != dt v)=true then false else gE c (f.drop (k+1)) (a.drop (k+1)):=by obtain⟨b,d⟩:=aB.1 h;obtain⟨e,g⟩:=aB.1 i;rw[dE b,dE e,d,g];rfl
theorem mO (w:Xw)(a b:Obj):((w.alloc a).alloc b).heap[w.heap.size]?=some a/\((w.alloc a).alloc b).heap[w.heap.size+1]?=some b:=by refine⟨(Below.heap_alloc _ _ _ (by simp)).trans (zc w a),?_⟩;have:=zc (w.alloc a) b;rwa [au] at this
theorem Im (al:eU c)(q:Qn)(S T:Xv)(w:Xw)(HEq:hB w N q S T)(o:br w N c m r)(M:N<=w.heap.size)(O:gN c q.r)(P:∀s∈q.ns,c.has s=true)(F:q.ns.length=q.ps.length)(B:q.ns.length=1) :
 xK 110 #[.agg #[m,r],.agg #[S,xI q.a,T]] w (λe d=>e=.returned (.bool (c.holds q))/\xB w d):=by
 obtain⟨s,b⟩:∃s,q.ns[0]?=some s:=⟨_,av (by omega)⟩;obtain⟨p,Q⟩:∃p,q.ps[0]?=some p:=⟨_,av (by omega)⟩;obtain⟨b0,L,rfl⟩:=zB HEq.own;obtain⟨g,rfl,J,K⟩:=kG HEq.own b Q rfl;have ar:=HEq.lo g rfl;obtain⟨H,_,_,rfl,a2,_⟩:=HEq.tt.ptr;obtain⟨I,i,G,rfl,rfl,a0⟩:=o.shape;have v:=P s (aM b);have X:aa (c.holds q=(c.decl s==bo c q.r)):=by
  unfold aa Sc.holds;cases E:q.ns with
  | nil=>rw[E] at b;simp at b
  | cons x l =>
    cases l with
    | nil=>rw[E] at b;simp at b;subst b;rfl
    | cons y l=>rw[E] at B;simp at B
 have t:∀W,xB w W->br W N c (xE I c i) (xP G):=λW a=>o.am (zm a M);have V:=za (λW (a:xB w W)=>me s (p:Int) W (t W a) (by have:=a.size;omega) v);have Y:=za (λW (a:xB w W)=>nD al q.r (xP H) W (HEq.tt.am (zm a M)) (t W a) (by have:=a.size;omega) O);rw[Nat.zero_mul,Nat.zero_add] at K;rw[Nat.zero_mul] at J;have l1:((q.ns.length:Int)==1)=true:=by simp[B]
 have bk:(0:Int)<(q.ns.length:Int):=by omega
 have a3:0<q.ns.length:=by omega
 clear O P F b Q v B;generalize c.decl s=a9 at *;generalize bo c q.r=be at *;go_enter func110,ntmps110;go_upto_region 2 with fail;refine zn (λW=>(xH W w.heap.size #[xE I c i,xP G] 205/\xH W (w.heap.size+1) #[xS g q.ns.length L,xI q.a,xP H] 161)/\xB w W) ⟨mO w _ _,cT w _ _⟩ ?_;rintro W ⟨⟨b,z⟩,a⟩;obtain⟨bx,s1,a5,bE⟩:=zp b;obtain⟨bl,bp,bs,a4,bt⟩:=zL z;have A:=a.size;have Z:=zd a J (by omega);have ak:=zd a K (by omega);have C:=za (V.o W.drew (zo a));clear b z a5 a4
 go_region_held3 (λd=>d.cell? (xD w.heap.size 0)=some (xE I c i)/\d.cell? (xD w.heap.size 1)=some (xP G)/\d.cell? (xD (w.heap.size+1) 0)=some (xS g q.ns.length L)/\d.cell? (xD (w.heap.size+1) 2)=some (xP H)/\d.cell? (xD g 0)=some (.string s)/\d.cell? (xD g 1)=some (xI p))
  (first|(with_reducible (refine⟨?_,?_,?_,?_,?_,?_⟩ <;> repeat (first|assumption|refine zg ?_|refine zj _ ?_|refine zk (by omega) ?_|refine zd n.o ?_ (by first|omega|(rw[au];omega))|refine zd h.o ?_ (by first|omega|(rw[au];omega)))))|go_keep)
  (first
    | (go_at_call 175;refine D.o.mono ?_;rintro e bL ⟨rfl,u⟩;have n:=za u;clear u)
    | (go_at_call 109;refine C.o.mono ?_;rintro e U ⟨rfl,j⟩;have h:=za (zw j);(have R:W.heap.size<=U.heap.size:=j.size);have D:=za (Y.o U (a.trans (h.o.mono A)));clear j))
 all_goals go_wp2_with fail
 all_goals go_ret
 all_goals exact⟨by rw[X.o];exact yw a9 be,(a.trans (h.o.mono A)).trans (n.o.mono (by omega))⟩
theorem HV {d:Sc}(cv:eU c)(q:Qn)(lv g0:Xv)(w:Xw)(bE:hB w N q lv g0)(h:br w N c m r)(hN:N<=w.heap.size)(gl:∀s∈q.ns,c.has s=true)(be:q.ns.length=q.ps.length)(h2:2<=q.ns.length)(bL:c.called q.r.s=some d)(c3:d.nd.aG=q.ns.length) :
 xK 110 #[.agg #[m,r],.agg #[lv,xI q.a,g0]] w (λe t=>e=.returned (.bool (c.holds q))/\xB w t):=by
 have HEq:=za bE;obtain⟨fr,S,rfl⟩:=zB bE.own;obtain⟨Z,_,_,rfl,hQ,B,_⟩:=bE.tt.ptr;have ds:=ze B;have cm:=za B;have X:=(cv.called bL).1.nd;have c4:=X.io;have go:=X.ah;have he:=X.bO;have cn:=za h;obtain⟨K,u,J,rfl,rfl,hw⟩:=h.shape;have gc:aa (c.holds q=gE c q.ns d.nd.results):=by
  unfold aa Sc.holds;cases gs:q.ns with
  | nil=>rw[gs] at h2;simp at h2
  | cons x l =>
    cases l with
    | nil=>rw[gs] at h2;simp at h2
    | cons y l=>simp only[bL]
 have R:∀W,xB w W->br W N c (xE K c u) (xP J):=λW L=>cn.o.am (zm L hN);have g5:=za gl;have ck:=za be;have l1:((q.ns.length:Int)==1)=false:=by simp;omega
 have h3:d.nd.aG<=q.ns.length:=by omega
 have h4:q.ns.length<=d.nd.aG:=by omega
 clear bE h gl B be c3;go_enter func110,ntmps110;go_upto_region 3 with fail;refine zn (λW=>(xH W w.heap.size #[xE K c u,xP J] 205/\xH W (w.heap.size+1) #[.slice fr q.ns.length S,xI q.a,xP Z] 161)/\xB w W) ⟨mO w _ _,cT w _ _⟩ ?_;rintro W ⟨⟨eb,Y⟩,L⟩;obtain⟨it,s1,iR,g2⟩:=zp eb;obtain⟨h8,h9,io,ip,g1⟩:=zL Y;have fV:=za L;have hT:=L.size;obtain⟨m0,m1,m2,m3,m4,m5,h0,kw⟩:=zt ((L.block Z ds).trans cm.o);have ar:=za (ji q.r.s (q.r.nm:Int) W.drew (R W.drew (zo L)) (by show N<=W.heap.size;omega) cv.bO bL);have a0:=za (λo=>ji q.r.s (q.r.nm:Int) (W.alloc o).drew (R _ (zo (L.alloc (by omega) o))) (by show N<=(W.alloc o).heap.size;simp;omega) cv.bO bL);have ge:=za eb;have a2:=za Y;clear eb Y L iR ip m0 m1 m4 m5 h0
 go_region_held3 (λt=>t.cell? (xD w.heap.size 0)=some (xE K c u)/\t.cell? (xD w.heap.size 1)=some (xP J)/\t.cell? (xD (w.heap.size+1) 2)=some (xP Z)/\t.cell? (xD Z 2)=some (.string q.r.s)/\t.cell? (xD Z 3)=some (xI q.r.nm))
  (first|(with_reducible (refine⟨?_,?_,?_,?_,?_⟩ <;> repeat (first|assumption|refine zg ?_|refine zj _ ?_|refine zk (by omega) ?_|refine zd a.o ?_ (by first|omega|(rw[au];omega)))))|go_keep)
  (first
    | (go_at_call 100;refine ar.o.mono ?_;rintro e g3 ⟨x2,T,n2,rfl,F,b⟩;have a:=za (zw b);have n:=za F;clear b F)
    | (go_at_call 100;refine (a0.o _).mono ?_;rintro e g3 ⟨x2,T,n2,rfl,F,b⟩;have a:=za (zw b);have n:=za F;obtain⟨lo,b2,ls,lt⟩:=zp ((a.o.block W.heap.size (by rw[au];omega)).trans (zc W _));clear b F))
 all_goals go_upto_region 4 with fail
 refine zn (λC=>ki w N d g3.heap.size n2 x2 T C/\(xH C w.heap.size #[xE K c u,xP J] 205/\xH C (w.heap.size+1) #[.slice fr q.ns.length S,xI q.a,xP Z] 161)) ⟨su fV.o a.o n.o hN,(Below.heap_alloc _ _ _ (by have:=a.o.size;omega)).trans ((a.o.block _ g2).trans ge.o),(Below.heap_alloc _ _ _ (by have:=a.o.size;omega)).trans ((a.o.block _ g1).trans a2.o)⟩ ?_;rotate_left;refine zn (λC=>ki w N d W.heap.size n2 x2 T C/\(xH C w.heap.size #[xE K c u,xP J] 205/\xH C (w.heap.size+1) #[.slice fr q.ns.length S,xI q.a,xP Z] 161)) ⟨ss fV.o a.o n.o hN,(zr (by omega) rfl).trans ((zr (by omega) rfl).trans ((a.o.block _ (by rw[au];omega)).trans ((Below.heap_alloc _ _ _ g2).trans ge.o))),(zr (by omega) rfl).trans ((zr (by omega) rfl).trans ((a.o.block _ (by rw[au];omega)).trans ((Below.heap_alloc _ _ _ g1).trans a2.o)))⟩ ?_
 all_goals
  rintro C ⟨a3,bk,P⟩;obtain⟨t0,t1,le,lk⟩:=zp a3.box;have g4:=za a3;obtain⟨h5,h6,lb,gt⟩:=zp bk;obtain⟨g8,i3,i4,i5,g9⟩:=zL P;have eq:=a3.aH.size;obtain⟨h1,i0,h7,i2,ak,H⟩:=a3.sc.nd;cases ak;have hv:=H.lo;have ca:=za H;have g6:=za (rk C H c4 (by omega));clear a3 bk P H it s1 h8 h9 io m2 m3 a n ar a0;go_wp2_with (go_at_call 76;refine g6.o.mono ?_;rintro e ln ⟨i6,g7,ak,rfl,U⟩;subst ak;have al:=za U;have hR:=U.size;clear U);have bp:d.nd.results.length=d.nd.aG:=by unfold ay.results;simp;omega
  have cs:=za bp;have a4:gE c (q.ns.drop 0) (d.nd.results.drop 0)=gE c q.ns d.nd.results:=rfl;have b4:=za a4;clear bp a4;go_loopg [39] (d.nd.aG+1) (λj i wr=>∃k:Nat,k+j=d.nd.aG+1/\k<=d.nd.aG/\i=xI k/\aa (gE c (q.ns.drop k) (d.nd.results.drop k)=gE c q.ns d.nd.results)/\aa (xB C wr));case atStart=>exact⟨0,by omega,aE _,rfl,b4.o,al.o⟩
  case round =>
   obtain⟨k,hu,i8,rfl,bt,A⟩:=hrel;have D:xB w wr:=g4.o.aH.trans (A.o.mono eq);have b3:=za D;have em:=A.o.size;by_cases c5:k<d.nd.aG
   . obtain⟨s,I⟩:∃s,q.ns[k]?=some s:=⟨_,av (by omega)⟩;obtain⟨p,a9⟩:∃p,q.ps[k]?=some p:=⟨_,av (by have:=ck.o;omega)⟩;obtain⟨v,G⟩:∃v,d.nd.results[k]?=some v:=⟨_,av (by have:=cs.o;omega)⟩;have bs:d.nd.ab[d.nd.ah+k]?=some v:=(by unfold ay.results at G;rw[List.getElem?_take_of_lt c5,List.getElem?_drop] at G;exact G);have O:=ca.o.am (zm A.o (by omega:N<=C.heap.size));obtain⟨i7,ak,z0,fv,c2,z3,z4,z5,fx⟩:=hj O.bZ bs;simp only[Option.some.injEq,Addr.mk.injEq,and_true] at ak;subst ak;have M:(d.nd.ah+k)*7=d.nd.ah*7+k*7:=(by omega);rw[M] at z0 fv c2 z3 z4 z5 fx;have V:=HEq.o.am (zm D hN);obtain⟨g,rfl,c0,c1⟩:=kG V.own I a9 rfl;have hg:=V.lo g rfl;have b0:=zd A.o h5 gt;have b1:=zd A.o h6 gt;have f0:=zd A.o g8 g9;have a5:=g5.o s (aM I);have bx:=za (λo=>me s (p:Int) (wr.alloc o).drew (R _ (zo (D.alloc (by omega) o))) (by show N<=(wr.alloc o).heap.size;simp;omega) a5);have E:=GO (c:=c) I G;rw[bt.o] at E;have bl:dt v=dv v:=rfl;rw[bl] at E;have hm:g<wr.heap.size:=(by omega);have i9:(0:Int)<=(k:Int):=(by omega);have kd:(k:Int)<(q.ns.length:Int):=(by omega);clear bt I a9 G bs O V bl M a5 D al;generalize c.decl s=b2 at *;by_cases c9:b2=dv v
     . have dn:((b2:Int) != (dv v:Int))=false:=(by simp[c9]);rw[ae (by simp[c9])] at E;have n:=za E;clear E;go_upto_region 7 with fail;refine zn (λz=>(z.cell? (xD w.heap.size 0)=some (xE K c u)/\z.cell? (xD w.heap.size 1)=some (xP J)/\z.cell? (xD (w.heap.size+1) 0)=some (xS g q.ns.length S)/\z.cell? (xD g (k*2))=some (.string s)/\z.cell? (xD g (k*2+1))=some (xI p)/\z.cell? (xD wr.heap.size 2)=some (xI (dv v:Nat)))/\∃o,z=wr.alloc o) ⟨⟨zj _ b0,zj _ b1,zj _ f0,zj _ c0,zj _ c1,by simp⟩,_,rfl⟩ ?_;rintro z ⟨⟨w0,er,es,ex,fd,fq⟩,o,rfl⟩;have Q:=za (bx.o o);clear bx z0 fv z3 z4 z5 fx b0 b1 f0 c0 c1 c2
       go_region_held3 (λt=>t.cell? (xD w.heap.size 0)=some (xE K c u)/\t.cell? (xD w.heap.size 1)=some (xP J)/\t.cell? (xD (w.heap.size+1) 0)=some (xS g q.ns.length S)/\t.cell? (xD g (k*2))=some (.string s)/\t.cell? (xD g (k*2+1))=some (xI p)/\t.cell? (xD wr.heap.size 2)=some (xI (dv v:Nat)))
        (first|(with_reducible (refine⟨?_,?_,?_,?_,?_,?_⟩ <;> repeat (first|assumption|refine zg ?_|refine zd a.o ?_ (by rw[au];omega))))|go_keep)
        (first
          | (go_at_call 109;refine Q.o.mono ?_;rintro e i1 ⟨rfl,b⟩;have a:=za (zw b);clear b))
       all_goals go_wp2_with fail
       all_goals
        go_roundg (gk-1);case measure=>omega
        exact⟨k+1,by omega,by omega,by go_num,n.o.symm,A.o.trans ((zE a.o).mono em)⟩
     have dn:((b2:Int) != (dv v:Int))=true:=(by simp;omega);rw[ag (by simp[c9])] at E;have n:=za E;clear E;go_upto_region 7 with fail;refine zn (λz=>(z.cell? (xD w.heap.size 0)=some (xE K c u)/\z.cell? (xD w.heap.size 1)=some (xP J)/\z.cell? (xD (w.heap.size+1) 0)=some (xS g q.ns.length S)/\z.cell? (xD g (k*2))=some (.string s)/\z.cell? (xD g (k*2+1))=some (xI p)/\z.cell? (xD wr.heap.size 2)=some (xI (dv v:Nat)))/\∃o,z=wr.alloc o) ⟨⟨zj _ b0,zj _ b1,zj _ f0,zj _ c0,zj _ c1,by simp⟩,_,rfl⟩ ?_;rintro z ⟨⟨w0,er,es,ex,fd,fq⟩,o,rfl⟩;have Q:=za (bx.o o);clear bx z0 fv z3 z4 z5 fx b0 b1 f0 c0 c1 c2
     go_region_held3 (λt=>t.cell? (xD w.heap.size 0)=some (xE K c u)/\t.cell? (xD w.heap.size 1)=some (xP J)/\t.cell? (xD (w.heap.size+1) 0)=some (xS g q.ns.length S)/\t.cell? (xD g (k*2))=some (.string s)/\t.cell? (xD g (k*2+1))=some (xI p)/\t.cell? (xD wr.heap.size 2)=some (xI (dv v:Nat)))
      (first|(with_reducible (refine⟨?_,?_,?_,?_,?_,?_⟩ <;> repeat (first|assumption|refine zg ?_|refine zd a.o ?_ (by rw[au];omega))))|go_keep)
      (first
        | (go_at_call 109;refine Q.o.mono ?_;rintro e i1 ⟨rfl,b⟩;have a:=za (zw b);clear b))
     all_goals go_wp2_with fail
     all_goals go_ret
     all_goals exact⟨by rw[gc.o,n.o];rfl,b3.o.trans ((zE a.o).mono (by omega))⟩
   have E:gE c q.ns d.nd.results=true:=(by rw[<- bt.o,List.drop_of_length_le (by omega)];cases d.nd.results.drop k <;> rfl);have n:=za E;clear bt E;go_wp2_with fail;go_ret;exact⟨by rw[gc.o,n.o];rfl,D⟩
end
end Go.Proofs.YtmfkofhgdjechaaGreatDoor
