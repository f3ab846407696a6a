/- Part 16 of the proof. -/
import Derived.Test.YtmfkofhgdjechaaGreatDoorK14
set_option maxRecDepth 100000
set_option maxHeartbeats 8000000
namespace Go.Proofs.YtmfkofhgdjechaaGreatDoor
open Go.Proofs.Tryz
section
variable {s:Xb} {D:Xk} {S:Xl} {c:Sc}
def jR (c:Sc)(S:Xl)(D:Xk):Prop:=D.length=c.nd.ab.length/\(∀s∈S,c.has s=true)/\∀i,D.getD i false=true↔∃s∈S,c.idx s=i
theorem qZ (h:c.has s=true):∃v,c.nd.ab[c.idx s]?=some v/\v.nm=s:=by unfold Sc.has at h;obtain⟨j,a⟩:=Option.isSome_iff_exists.1 h;unfold Sc.idx;rw[a];unfold ay.find at a;obtain⟨_,_,v,d,b⟩:=kP a;exact⟨v,by simpa using d,b⟩
theorem wT {t:Xb}(f:c.has s=true)(g:c.has t=true)(h:c.idx s=c.idx t):s=t:=by obtain⟨v,a,b⟩:=qZ f;obtain⟨u,d,e⟩:=qZ g;rw[h,d] at a;cases a;rw[<- b,e]
theorem jR.mem (h:jR c S D)(d:c.has s=true):D.getD (c.idx s) false=true↔s∈S:=by rw[h.2.2];exact⟨λ⟨t,a,e⟩=>(wT (h.2.1 t a) d e)▸a,λb=>⟨s,b,rfl⟩⟩
theorem wK {p x:Nat}:x∈jG S s p↔x=p/\s∈S:=by
 unfold jG;rw[ed];constructor
 . rintro⟨t,d,a⟩;by_cases e:t=s
   . rw[ag e] at a;exact⟨cu.1 a,e▸d⟩
   rw[ae e] at a;cases a
 rintro⟨rfl,b⟩;exact⟨s,b,by rw[ag rfl];exact cu.2 rfl⟩
theorem wZ (c:Sc)(x:Nat):∀(b:Xl) (d:Xn) (S:Xl) (D:Xk),b.length=d.length->(∀s∈b,c.has s=true)->jR c S D->(x∈fz S b d↔x∈(ee c b d D).1)/\jR c (S++b) (ee c b d D).2
 | [],d,S,D,_,_,h=>by rw[List.append_nil];cases d <;> exact⟨by simp[fz,ee],by simpa [ee] using h⟩
 | s::b,[],S,D,k,_,_=>by simp at k
 | s::b,p::d,S,D,k,m,h=>by
   have l:=m s (ce ..);obtain⟨v,r,_⟩:=qZ l;have j:c.idx s<D.length:=(by rw[h.1];exact (aB.1 r).1);have n:jR c (S++[s]) (D.set (c.idx s) true):=by
    refine⟨by rw[List.length_set];exact h.1,λt ht=>?_,λi=>?_⟩
    . rcases bj.1 ht with ht|ht
      . exact h.2.1 t ht
      rw[cu.1 ht];exact l
    rw[List.getD_eq_getElem?_getD,List.getElem?_set];by_cases g:c.idx s=i
    . rw[ag g,ag j];exact⟨λ_=>⟨s,by simp,g⟩,λ_=>rfl⟩
    rw[ae g,<- List.getD_eq_getElem?_getD,h.2.2];constructor
    . rintro⟨t,ht,e⟩;exact⟨t,List.mem_append_left _ ht,e⟩
    rintro⟨t,ht,e⟩;rcases bj.1 ht with ht|ht
    . exact⟨t,ht,e⟩
    rw[cu.1 ht] at e;exact absurd e g
   obtain⟨o,q⟩:=wZ c x b d (S++[s]) (D.set (c.idx s) true) (by simpa using k) (λt ht=>m t (cS _ ht)) n;rw[fz,ee];refine⟨?_,by rw[show S++s::b=S++[s]++b by simp];exact q⟩;simp only[bj];rw[o,wK,<- h.mem l];by_cases f:D.getD (c.idx s) false=true
   . rw[ag f,cu];exact⟨λe=>e.elim (λa=>ao a.1) ap,λe=>e.elim (λa=>ao ⟨a,f⟩) ap⟩
   rw[ae f];exact⟨λe=>e.elim (λa=>absurd a.2 f) ap,λe=>e.elim (λa=>absurd a (List.not_mem_nil)) ap⟩
theorem wY (c:Sc)(x:Nat):∀(l:List ax) (a:List Qn) (S:Xl) (D:Xk) (L:List Ex),fM L l a->(∀q∈l,q.ns.length=q.ps.length/\∀s∈q.ns,c.has s=true)->jR c S D->(x∈fP S l↔x∈(fW c a D).1)/\jR c (S++da l) (fW c a D).2
 | [],a,S,D,L,b,_,h=>by cases b;exact⟨by simp[fP,fW],by simpa [da,fW] using h⟩
 | q::l,a,S,D,L,b,f,h=>by obtain⟨t,d,rfl,e,j⟩:=b;obtain⟨g,i⟩:=f q (ce ..);obtain⟨m,n⟩:=wZ c x q.ns q.ps S D g i h;obtain⟨o,r⟩:=wY c x l d (S++q.ns) _ L j (λp k=>f p (cS _ k)) n;rw[fP,fW,e.ns,e.ps];simp only[bj];rw[m,o];exact⟨Iff.rfl,by rw[show S++da (q::l)=S++q.ns++da l by simp[da]];exact r⟩
theorem wD (c:Sc)(f:c.nd.ah=(c.nd.ab.filter (·.bn)).length)(m:hS c.nd.ab)(n:∀i v,c.nd.ab[i]?=some v->bm v.nm c.nd.ab 0=some i)(h:jR c S D):∀(l:List Vr) (i:Nat),(∀(j:Nat) (v:Vr),l[j]?=some v->c.nd.ab[i+j]?=some v)->gX S l=hk c.nd.ah D l i
 | [],_,_=>rfl
 | v::l,i,p=>by
   have g:=p 0 v rfl;rw[Nat.add_zero] at g;have A:=wD c f m n h l (i+1) (λj u t=>by have:=p (j+1) u (by simpa using t);rwa [show i+1+j=i+(j+1) by omega]);have o:=n i v g;have a:c.has v.nm=true:=(by unfold Sc.has ay.find;rw[o];rfl);have b:c.idx v.nm=i:=(by unfold Sc.idx ay.find;rw[o];rfl);have r:D.getD i false=S.any (λx=>decide (x=v.nm)):=(by rw[Bool.eq_iff_iff,<- b,h.mem a,List.any_eq_true];exact⟨λw=>⟨v.nm,w,decide_eq_true rfl⟩,λ⟨y,z,e⟩=>(of_decide_eq_true e)▸z⟩);have d:=q2 m i v g;rw[<- f] at d;have q:gX S (v::l)=(if nv S v=true then [] else [v.a])++gX S l:=(by unfold gX;rw[List.flatMap_cons]);rw[q,A,hk,r];unfold nv;rw[d];by_cases k:i<c.nd.ah
   . rw[decide_eq_true k,decide_eq_false (show ¬c.nd.ah<=i by omega)];simp
   rw[decide_eq_false k,decide_eq_true (show c.nd.ah<=i by omega)];cases S.any (λx=>decide (x=v.nm)) <;> simp
theorem qP {ns:List ay}{k:Nat}{d:Nd}{n:ay}(b:ht d n)(r:hS d.ab)(t:∀i v,d.ab[i]?=some v->bm v.nm d.ab 0=some i)(o:∀q∈d.eqs,q.ns.length=q.ps.length/\∀s∈q.ns,(bm s d.ab 0).isSome=true)(x:Nat):x∈jP d↔x∈(⟨ns.take k,n⟩:Sc).fy:=by
 obtain⟨c,l⟩:∃c:Sc,c=⟨ns.take k,n⟩:=⟨_,rfl⟩;rw[<- l];have a:c.nd.ab=d.ab:=by rw[l];exact b.ab
 have m:c.nd.ah=(c.nd.ab.filter (·.bn)).length:=by rw[a,l];exact b.ah
 have p:jR c [] (List.replicate c.nd.ab.length false):=⟨by simp,λs g=>(by cases g),λi=>by
  constructor
  . intro h;rw[List.getD_eq_getElem?_getD,List.getElem?_replicate] at h;split at h <;> cases h
  rintro⟨s,g,_⟩;cases g⟩
 obtain⟨w,y⟩:=wY c x d.eqs n.eqs [] _ d.az b.eqs (λq f=>⟨(o q f).1,λs g=>by unfold Sc.has ay.find;rw[a];exact (o q f).2 s g⟩) p;have e:c.nd.eqs=n.eqs:=by rw[l]
 unfold jP Sc.fy;simp only[bj,e];rw[w,List.nil_append] at *;have:=wD c m (a▸r) (a▸t) y c.nd.ab 0 (λj v u=>by rw[Nat.zero_add];exact u);rw[<- this,a]
end
section
variable {s:Xb} {e:Ex} {L:List Ex} {i:Nat}
def kk (c:Sc)(t:Tm):Prop:=∀u∈bh b8 t,(ch u.k=true->c.has u.s=true)/\(u.k=4->∃d,c.called u.s=some d/\d.nd.ah=u.ts.length)/\dJ u.k u.ts.length=true
structure di (g:List Nd) (p:List ay) (k:Nat) (d:Nd) (n:ay) (c:Sc):Prop where
 hN:dS g p
 ok:∀x∈g,hS x.ab
 dn:ht d n
 sc:c=⟨p.take k,n⟩
 ks:eH d.az 0 d.eqs n.eqs d.az.length
 small:∀e∈d.az,mQ e
 ab:hS d.ab
 tm:∀q∈n.eqs,kk c q.r
 ck:∀v∈d.ab,v.tm=true->c.has v.ck=true
 left:∀q∈n.eqs,∀s∈q.ns,c.has s=true
 many:∀q∈n.eqs,2<=q.ns.length->∃d',c.called q.r.s=some d'/\d'.nd.aG=q.ns.length
 one:∀q∈n.eqs,1<=q.ns.length
theorem Fq (l:Xu)(n:Nat):aF l n=aF l 0∨aF l n=aF l 1:=by
 by_cases h:n=1
 . subst h;exact ap rfl
 have:(if n=1 then 1 else 2)=(if (0:Nat)=1 then 1 else 2):=by rw[ae h];rfl
 left;unfold aF;rw[this]
theorem l7 {P:List UInt8->Nat->Prop}(a:∀l∈mE,P l (aF l 0))(b:∀l∈mE,P l (aF l 1)){l:Xu}(n:Nat)(h:l∈mE):P l (aF l n):=by
 rcases Fq l n with e|e <;> rw[e]
 . exact a l h
 exact b l h
theorem qS {k n:Nat}(h:dJ k n=true):(k<=3->n=0)/\(k=5->n=3)/\(k=6∨k=9∨12<=k->n=2)/\(k=7∨k=8∨k=10∨k=11->n=1):=by
 unfold dJ at h
 repeat' split at h
 all_goals (simp at h <;> omega)
theorem q3 {x:Nat}{t:Tm}(h:bX L x t):x<L.length:=by
 cases h with
 | mk _ b l a f j=>exact (aB.1 a).1
theorem FY {y:Nat}{u:Tm}(m:bX (L.take (i+1)) i u)(w:L[i]?=some e)(A:y∈e.ah):y<i:=by
 have b:=m;cases m with
 | mk _ B q o D z =>
   rw[List.getElem?_take,ag (cf i),w] at o;cases o;obtain⟨j,h⟩:=List.mem_iff_getElem?.1 A;have x:=(aB.1 h).1;obtain⟨t,a⟩:∃t,q[j]?=some t:=⟨_,av (show j<q.length by omega)⟩;have l:=z j y t h a;have r:=q3 l;rw[List.length_take] at r;by_cases f:y=i
   . subst f;have v:=congrArg cc (l.one b);have C:=mA (aM a);rw[cc] at v;omega
   omega
theorem wm:∀{l:List ax} {a b:Nat} {j:List Qn},eH L a l j b->∀i e,a<=i->i<b->L[i]?=some e->∀y∈e.ah,y<i:=by
 intro l;induction l with
 | nil=>rintro a b j ⟨rfl,rfl⟩ i e u f;omega
 | cons q l z =>
   rintro a b j ⟨A,D,c,rfl,u,f,B,v⟩ i e w h m y t;by_cases C:i<c
   . have o:=f.len;have x:=av (show i-a<(b7 A.r).length by omega);have r:=f.po _ _ x;rw[show a+(i-a)=i by omega] at r;exact FY r m t
   exact z v i e (by omega) h m y t
abbrev lR (e:Ex) (a:List Tm):Tm:=.mk (aF e.op.toList e.n) e.a e.s e.nm (df e.op.toList e.n) a
variable {g:List Nd} {p:List ay} {k:Nat} {d:Nd} {n:ay} {c:Sc}
theorem di.at (h:di g p k d n c)(f:d.az[i]?=some e):∃b q,bX d.az i (lR e b)/\b.length=e.ah.length/\(∀(j y:Nat) (t:Tm),e.ah[j]?=some y->b[j]?=some t->bX d.az y t)/\q∈n.eqs/\lR e b∈bh b8 q.r:=by
 have m:=(aB.1 f).1;obtain⟨j,q,z,u,B,l,a⟩:=(qR h.ks).1 i (aE _) m;have w:=a.2.1;have v:=a.1;cases v with
 | mk _ A b x o r => rw[x] at f;cases f;exact⟨b,z,a.1,o,r,aM l,(nh _ _).1 w⟩
theorem di.cv (h:di g p k d n c):c.nd.ab=d.ab:=by rw[h.sc];exact h.dn.ab
theorem di.found (h:di g p k d n c)(j:c.has s=true):∃v,bm s d.ab 0=some (c.idx s)/\d.ab[c.idx s]?=some v:=by
 have b:=j;unfold Sc.has at b;obtain⟨f,a⟩:=Option.isSome_iff_exists.1 b;have e:c.idx s=f:=by unfold Sc.idx;rw[a];rfl
 unfold ay.find at a;rw[h.cv] at a;obtain⟨_,_,v,l,_⟩:=kP a;exact⟨v,by rw[e];exact a,by rw[e];simpa using l⟩
theorem di.call (h:di g p k d n c){w:Sc}(a:c.called s=some w):∃f o,ea s (g.take k) 0=some f/\g[f]?=some o/\ht o w.nd/\hS o.ab:=by
 unfold Sc.called at a;rw[h.sc] at a;simp only at a;rw[oT (oK k h.hN)];cases r:fX s (p.take k) 0 with
 | none=>rw[r] at a;cases a
 | some f => rw[r] at a;obtain⟨_,u,v,l,_⟩:=iC r;rw[Nat.sub_zero] at l;simp only[l] at a;cases a;have t:f<k:=(by rw[List.length_take] at u;omega);have j:p[f]?=some v:=(by rw[List.getElem?_take,ag t] at l;exact l);have b:f<g.length:=(by have:=(aB.1 j).1;have:=h.hN.len;omega);obtain⟨m,x,q⟩:=nr h.hN f _ (av b);rw[j] at x;cases x;exact⟨f,_,rfl,av b,q,h.ok _ (aM (av b))⟩
theorem vH (v:Vr):(dt v==1)=v.bl:=by unfold dt;cases v.bl <;> rfl
theorem oW (v:Vr):dt v<=1:=by unfold dt;split <;> omega
theorem wS (o:Option Vr):(o.map dt).getD 0<=1:=by
 cases o with
 | none=>exact aE _
 | some v=>exact oW v
theorem vC (c:Sc):∀t,bo c t<=1:=by
 intro t;induction t using Tm.ind with
 | h K a s nm m r q =>
   have b:∀(l:List Tm) (j:Nat),(∀t∈l,bo c t<=1)->dO c l j<=1:=by
    intro l;induction l with
    | nil=>intro j _;rw[dO];exact aE _
    | cons t l f =>
      intro j o;cases j with
      | zero=>rw[dO];exact o t (ce ..)
      | succ j=>rw[dO];exact f j (λt u=>o t (cS _ u))
   rw[bo];split
   . exact wS _
   split
   . unfold Sc.mP;split
     . exact aE _
     exact wS _
   split
   . exact b r 0 q
   split
   . exact b r 1 q
   split <;> omega
theorem w5 {c:Sc}:∀{a:List Tm} {j:Nat} {t:Tm},a[j]?=some t->dO c a j=bo c t
 | [],j,t,h=>by simp at h
 | u::l,0,t,h=>by simp at h;subst h;rw[dO]
 | u::l,j+1,t,h=>by rw[dO];exact w5 (by simpa using h)
theorem o1 (c:Sc)(t u:Tm):(bo c t=bo c u)↔((bo c t==1)=(bo c u==1)):=by have a:=vC c t;have b:=vC c u;rcases (by omega:bo c t=0∨bo c t=1) with e|e <;> rcases (by omega:bo c u=0∨bo c u=1) with e'|e' <;> rw[e,e'] <;> decide
def Mf (c:Sc)(L:List Ex)(a:Xh):Prop:=∀i t,bX L i t->a i=(bo c t==1)
theorem Mn (c:Sc)(L:List Ex):∃f,Mf c L f:=by
 refine⟨λi=>@decide (∃t,bX L i t/\bo c t=1) (Classical.propDecidable _),λi t h=>?_⟩;simp only;by_cases a:bo c t=1
 . rw[@decide_eq_true _ (Classical.propDecidable _) ⟨t,h,a⟩,a];rfl
 rw[@decide_eq_false _ (Classical.propDecidable _) (λ⟨j,b,e⟩=>a (by rw[h.one b];exact e))];exact (bf.2 a).symm
theorem oO (h:di g p k d n c){v:Vr}(a:d.ab[c.idx s]?=some v):c.decl s=dt v:=by unfold Sc.decl;rw[h.cv,a];rfl
theorem q6 (h:di g p k d n c)(f:c.has s=true):(c.decl s==1)=oZ d.ab s/\c.decl s<=1:=by obtain⟨v,b,a⟩:=h.found f;rw[oO h a,l4 b a];exact⟨vH v,oW v⟩
theorem nk {h:Nd}{m:ay}(j:ht h m)(t:hS h.ab):dP true h.ab=m.ah/\m.results=(h.ab.drop m.ah).take m.aG/\m.aG+m.ah<=h.ab.length/\((m.results[0]?).map dt).getD 0=(if hV h.ab=true then 1 else 0):=by
 have u:m.ah=(h.ab.filter (·.bn)).length:=j.ah;have F:m.aG=(h.ab.filter (·.out)).length:=j.aG;have D:=t.io;have y:=t.aG;refine⟨by rw[qN,u],by unfold ay.results;rw[j.ab],by omega,?_⟩;unfold ay.results;rw[List.getElem?_take,ag (by omega),List.getElem?_drop,j.ab,u,Nat.add_zero];obtain⟨A,B,C,r,l,o,w⟩:=t.arr;have z:(h.ab.filter (·.bn)).length=A.length:=by rw[r,List.filter_append,List.filter_append,n9 (λv f=>(l v f).1),jt (λv f=>(o v f).1),jt (λv f=>(w v f).1)];simp
 have q:1<=B.length:=by rw[r,List.filter_append,List.filter_append,jt (λv f=>(l v f).2.1),n9 (λv f=>(o v f).2.1),jt (λv f=>(w v f).2)] at y;simpa using y
 rw[z,r];cases B with
 | nil=>simp at q
 | cons b B =>
   rw[bw,e8 (an _),Nat.sub_self];have:∀A:List Vr,(∀v∈A,v.out=false)->hV (A++(b::B++C))=b.bl:=by
    intro A;induction A with
    | nil=>intro _;show hV (b::(B++C))=_;rw[hV,ag (o b (ce ..)).2.1]
    | cons a A E=>intro x;show hV (a::(A++_))=_;rw[hV,ae (by rw[x a (ce ..)];simp)];exact E (λv f=>x v (cS _ f))
   rw[this A (λv f=>(l v f).2.1)];rfl
abbrev Ac (l:Xu) (K:Nat):Prop:=(l∈[[98,111,111,108],[110,111,116],[97,110,100],[111,114],[120,111,114],[61],[60,62],[60],[60,61]]/\(K=1∨K=2∨(11<=K/\K<=18)))∨(l∈[[110,117,109,98,101,114],[110,101,103],[43],[45],[42],[47],[37]]/\(K=0∨K=10∨(19<=K/\K<=23)))∨(l=[118,97,114]/\K=3)∨(l∈[[119,104,101,110],[119,104,101,110,111,116],[109,101,114,103,101]]/\(K=7∨K=8∨K=6))∨(l∈[[105,102],[102,98,121]]/\(K=5∨K=9))∨(l=[99,97,108,108]/\K=4)
theorem Fp (h:di g p k d n c){z:Xh}(B:Mf c d.az z)(t:d.az[i]?=some e):p3 g k d z i e:=by
 obtain⟨u,q,I,T,H,G,J⟩:=h.at t;obtain⟨f1,f2,f3⟩:=h.tm q G _ J;have l:=B _ _ I;have D:=(aB.1 t).1;have r:∀(j:Nat),j<u.length->∃y,e.ah[j]?=some y/\y<i/\z y=(dO c u j==1):=λj E=>by have x:=av (show j<e.ah.length by omega);have C:=av E;refine⟨_,x,wm h.ks i e (aE _) D t _ (aM x),?_⟩;rw[B _ _ (H j _ _ x C),w5 C]
 have F:=l7 (P:=Ac) (by decide) (by decide) e.n (h.small e (aM t)).2.2.1;change ch (aF e.op.toList e.n)=true->c.has e.s=true at f1;change aF e.op.toList e.n=4->∃d,c.called e.s=some d/\d.nd.ah=u.length at f2;change dJ (aF e.op.toList e.n) u.length=true at f3;rw[bo] at l;have R:=qS f3;generalize aF e.op.toList e.n=K at *;rcases F with ⟨a,b⟩|⟨a,b⟩|⟨a,rfl⟩|⟨a,b⟩|⟨a,b⟩|⟨a,rfl⟩
 . refine .BR a ?_;rw[l,ae (by omega),ae (by omega),ae (by omega),ae (by omega),ae (by omega)];rfl
 . refine .no a ?_;rw[l,ae (by omega),ae (by omega),ae (by omega),ae (by omega),ag (by omega)];rfl
 . obtain⟨v,m,o⟩:=h.found (f1 rfl);refine .var a _ v m o ?_;rw[l,ag rfl,oO h o,vH]
 . obtain⟨y,m,o,w⟩:=r 0 (by omega);refine .fst a y m o ?_;rw[l,w,ae (by omega),ae (by omega),ag (by omega)]
 . obtain⟨y,m,o,w⟩:=r 1 (by omega);refine .snd a y m o ?_;rw[l,w,ae (by omega),ae (by omega),ae (by omega),ag (by omega)]
 obtain⟨S,m,_⟩:=f2 rfl;obtain⟨f,A,M,N,O,Q⟩:=h.call m;refine .call a f A M N ?_;rw[l,ae (by omega),ag rfl];unfold Sc.mP;rw[m];simp only;rw[(nk O Q).2.2.2];cases hV A.ab <;> rfl
end
section
variable {a x:Nat} {p:Prop}
variable {g:List Nd} {m:List ay} {k:Nat} {d:Nd} {n:ay} {c:Sc}
theorem eR [Decidable p]:x∈(if p then [] else [a])↔¬p/\x=a:=by
 split
 . rename_i h;simp[h]
 rename_i h;simp[h]
theorem qY [Decidable p]:x∈(if p then [a] else [])↔p/\x=a:=by
 split
 . rename_i h;simp[h]
 rename_i h;simp[h]
theorem wO {r:List Tm}{f:Bool}{w:Nat}(v:w=if f=true then 1 else 0):x∈km a f (r.map λt=>bo c t==1)↔¬eV c w r=true/\x=a:=by
 unfold km eV;rw[ed,List.all_eq_true];have l:∀t:Tm,(bo c t==1)=f↔(bo c t==w)=true:=λt=>by have:=vC c t;rcases (by omega:bo c t=0∨bo c t=1) with e|e <;> rw[e,v] <;> cases f <;> decide
 constructor
 . rintro⟨b,s,q⟩;rw[eR] at q;obtain⟨t,j,rfl⟩:=List.mem_map.1 s;exact⟨λi=>q.1 ((l t).2 (i t j)),q.2⟩
 rintro⟨u,rfl⟩;have:∃t∈r,¬(bo c t==w)=true:=Classical.byContradiction λo=>u λt j=>Classical.byContradiction λh=>o ⟨t,j,h⟩;obtain⟨t,j,h⟩:=this;exact⟨_,List.mem_map.2 ⟨t,j,rfl⟩,eR.2 ⟨λe=>h ((l t).1 e),rfl⟩⟩
theorem wC {a x:Nat}:∀{ts:List Tm} {vs:List Vr},ts.length<=vs.length->(x∈gW a vs (ts.map λt=>bo c t==1)↔¬gF c ts vs=true/\x=a)
 | [],vs,_=>by cases vs <;> simp[gW,gF]
 | t::ts,[],h=>by simp at h
 | t::ts,v::vs,h=>by
   have i:=wC (a:=a) (x:=x) (ts:=ts) (vs:=vs) (by simpa using h);rw[List.map_cons,gW,bj,i,gF,eR];have j:=vC c t;have l:=oW v;have b:v.bl=(bo c t==1)↔(bo c t != dt v)=false:=(by rw[<- vH];rcases (by omega:bo c t=0∨bo c t=1) with e|e <;> rcases (by omega:dt v=0∨dt v=1) with e'|e' <;> rw[e,e'] <;> decide);cases f:(bo c t != dt v) with
   | false=>rw[ae (by simp)];exact⟨λe=>e.elim (λa=>absurd (b.2 f) a.1) id,ap⟩
   | true=>rw[ag rfl];exact⟨λe=>⟨by simp,e.elim (·.2) (·.2)⟩,λe=>ao ⟨λe'=>(by rw[b.1 e'] at f;cases f),e.2⟩⟩
theorem FN (h:di g m k d n c){y:Nat}{u:Ex}(A:d.az[y]?=some u):(∀t,bX d.az y t->jT d.az u=gq t)/\((u.op.toList==[110,101,103])=true->∃z x,u.ah[0]?=some z/\d.az[z]?=some x):=by
 obtain⟨j,q,I,F,H,G,J⟩:=h.at A;obtain⟨_,_,f3⟩:=h.tm q G _ J;change dJ (aF u.op.toList u.n) j.length=true at f3;have C:=qS f3;have v:=(h.small u (aM A)).2.2.1;have f:(u.op.toList==[110,101,103])=(aF u.op.toList u.n==10)/\(u.op.toList==[110,117,109,98,101,114])=(aF u.op.toList u.n==0)/\(u.op.toList==[98,111,111,108])=(aF u.op.toList u.n==1||aF u.op.toList u.n==2):=l7 (P:=λl K=>(l==[110,101,103])=(K==10)/\(l==[110,117,109,98,101,114])=(K==0)/\(l==[98,111,111,108])=(K==1||K==2)) (by decide) (by decide) u.n v;have i:aF u.op.toList u.n=10->∃z x t,u.ah[0]?=some z/\d.az[z]?=some x/\j=[t]/\t.k=aF x.op.toList x.n:=λO=>by
  have E:j.length=1:=C.2.2.2 (by omega)
  match j,E with
  | [t],_ =>
    have B:=av (show 0<u.ah.length by simp at F;omega);have:=H 0 _ t B rfl;cases this with
    | mk _ x N L _ _=>exact⟨_,x,_,B,L,rfl,rfl⟩
 refine⟨λt w=>?_,λe=>?_⟩
 . rw[w.one I];unfold jT gq
   show _=if aF u.op.toList u.n=0∨aF u.op.toList u.n=1∨aF u.op.toList u.n=2 then true else if aF u.op.toList u.n=10 then (match j with|[]=>false|u::_=>u.k==0) else false;by_cases b:aF u.op.toList u.n=10
   . obtain⟨z,x,t,r,o,rfl,D⟩:=i b;have M:(x.op.toList==[110,117,109,98,101,114])=(aF x.op.toList x.n==0):=l7 (P:=λl K=>(l==[110,117,109,98,101,114])=(K==0)) (by decide) (by decide) x.n (h.small x (aM o)).2.2.1;rw[ag (by rw[f.1,b];rfl),ae (by omega),ag b,r];simp only[o];rw[D,M]
   rw[ae (by rw[f.1];simpa using b),ae b,f.2.1,f.2.2];generalize aF u.op.toList u.n=K at *;by_cases s:K=0∨K=1∨K=2
   . rw[ag s];rcases s with rfl|rfl|rfl <;> rfl
   rw[ae s];simp only[Bool.or_eq_false_iff,bf];omega
 obtain⟨z,x,_,r,o,_⟩:=i (by rw[f.1] at e;simpa using e);exact⟨z,x,r,o⟩
abbrev zY (l:Xu) (K:Nat):Prop:=((l=[110,111,116]∨l=[97,110,100]∨l=[111,114]∨l=[120,111,114])/\11<=K/\K<=14)∨((l=[110,101,103]∨l=[43]∨l=[45]∨l=[42]∨l=[47]∨l=[37]∨l=[60]∨l=[60,61])/\(K=10∨(17<=K/\K<=23)))∨((l=[61]∨l=[60,62])/\(K=15∨K=16))∨(l=[102,98,121]/\K=9)∨(l=[105,102]/\K=5)∨((l=[119,104,101,110]∨l=[119,104,101,110,111,116])/\(K=7∨K=8))∨(l=[109,101,114,103,101]/\K=6)∨(l=[99,97,108,108]/\K=4)∨((l=[110,117,109,98,101,114]∨l=[98,111,111,108]∨l=[118,97,114])/\K<=3)
theorem vN {K:Nat}(h:K≠3/\K≠6/\K≠7/\K≠8):ch K=false:=by unfold ch;simp only[Bool.or_eq_false_iff,bf];omega
theorem FA (c:Sc)(K a nm v:Nat)(s:Xb)(b:List Tm)(x:Nat):x∈fT c (.mk K a s nm v b)↔((ch K&&K != 3&&c.decl s != 1)=true/\x=nm)∨(¬c.operands (.mk K a s nm v b)=true/\x=a):=by
 unfold fT;rw[bj]
 show x∈(if (ch K&&K != 3&&c.decl s != 1)=true then [nm] else [])∨_↔_;rw[qY];exact or_congr Iff.rfl eR
theorem w8 (c:Sc)(K a nm v:Nat)(s:Xb)(b:List Tm):c.operands (.mk K a s nm v b)=if K=10∨K=17∨K=18∨(19<=K/\K<=23) then eV c 0 b else if K=11∨K=12∨K=13∨K=14 then eV c 1 b else if K=15∨K=16∨K=6 then gp c b else if K=5 then eV c 1 (b.take 1)&&gp c (b.drop 1) else if K=9 then (match b with|[]=>false|u::_=>gq u)&&gp c b else if K=4 then (match c.called s with|none=>true|some d=>gF c b d.nd.ab) else true:=rfl
theorem Gq (h:di g m k d n c){F:Xh}(S:Mf c d.az F){i:Nat}{e:Ex}(I:d.az[i]?=some e):∃l,gz g k d F e l/\∀u,bX d.az i u->∀x,x∈l↔x∈fT c u:=by
 obtain⟨s,q,Z,V,L,X,hv⟩:=h.at I;obtain⟨f1,f2,f3⟩:=h.tm q X _ hv;have o:e.ah.map F=s.map λt=>bo c t==1:=by
  apply List.ext_getElem?;intro j;rw[List.getElem?_map,List.getElem?_map];by_cases T:j<s.length
  . have B:=av (show j<e.ah.length by omega);have r:=av T;rw[B,r];exact congrArg some (S _ _ (L j _ _ B r))
  rw[List.getElem?_eq_none (by omega),List.getElem?_eq_none (by omega)];rfl
 suffices Y:∃l,gz g k d F e l/\∀x,x∈l↔x∈fT c (lR e s) by obtain⟨l,Q,R⟩:=Y;exact⟨l,Q,λu r x=>by rw[r.one Z];exact R x⟩
 have U:=l7 (P:=zY) (by decide) (by decide) e.n (h.small e (aM I)).2.2.1;change ch (aF e.op.toList e.n)=true->c.has e.s=true at f1;change aF e.op.toList e.n=4->∃d,c.called e.s=some d/\d.nd.ah=s.length at f2;change dJ (aF e.op.toList e.n) s.length=true at f3;have E:=qS f3;have N:=za f2;clear f2;unfold lR;simp only[FA,w8];have C:=λy u (B:e.ah[0]?=some y) (r:d.az[y]?=some u)=>FN h r;generalize aF e.op.toList e.n=K at *;rcases U with ⟨a,b⟩|⟨a,b⟩|⟨a,b⟩|⟨a,rfl⟩|⟨a,rfl⟩|⟨a,b⟩|⟨a,rfl⟩|⟨a,rfl⟩|⟨a,b⟩
 . refine⟨_,.all true (ao ⟨rfl,a⟩),λx=>?_⟩;rw[o,wO (w:=1) rfl,vN (by omega),ae (by omega),ag (by omega)];simp
 . refine⟨_,.all false (ap ⟨rfl,a⟩),λx=>?_⟩;rw[o,wO (w:=0) rfl,vN (by omega),ag (by omega)];simp
 . match s,E.2.2.1 (by omega) with
   | [t0,t1],_ => refine⟨_,.two a _ _ o,λx=>?_⟩;rw[eR,vN (by omega),ae (by omega),ae (by omega),ag (by omega),<- o1];simp[gp,dO]
 . match s,E.2.2.1 (by omega) with
   | [t0,t1],_ => have B:=av (show 0<e.ah.length by simp at V;omega);have D:=L 0 _ t0 B rfl;have r:=av (q3 D);obtain⟨z,A⟩:=C _ _ B r;refine⟨_,.k2 a _ _ o _ _ B r A,λx=>?_⟩;rw[eR,z t0 D,<- o1,vN (by omega)];simp[gp,dO,and_comm]
 . match s,E.2.1 rfl with
   | [t0,t1,t2],_ => refine⟨_,.ite a _ _ _ o,λx=>?_⟩;rw[eR,<- o1,vN (by omega)];simp[gp,dO,eV]
 . have J:ch K=true:=by rcases b with rfl|rfl <;> rfl
   obtain⟨v,z,A⟩:=h.found (f1 J);refine⟨_,.co a _ v z A,λx=>?_⟩;have H:(c.decl e.s != 1)=!v.bl:=(by rw[oO h A];unfold dt;cases v.bl <;> rfl);have G:(K != 3)=true:=(by simp;omega);rw[eR,J,G,H,ae (by omega),ae (by omega),ae (by omega),ae (by omega),ae (by omega),ae (by omega)];simp
 . match s,E.2.2.1 (by omega) with
   | [t0,t1],_ => obtain⟨v,z,A⟩:=h.found (f1 rfl);refine⟨_,.k4 a _ v z A _ _ o,λx=>?_⟩;have H:(c.decl e.s != 1)=!v.bl:=(by rw[oO h A];unfold dt;cases v.bl <;> rfl);rw[bj,eR,eR,<- o1,H];simp[gp,dO,ch]
 . obtain⟨d',z,A⟩:=N.o rfl;obtain⟨f,O,ak,al,M,ar⟩:=h.call z;have W:=(nk M ar).2.2.1;refine⟨_,.call a f O ak al (by omega),λx=>?_⟩;rw[o,wC (by omega),vN (by omega),z,<- M.ab];simp
 refine⟨_,.hK a,λx=>?_⟩;have G:(ch K&&K != 3)=false:=by rcases (by omega:K=0∨K=1∨K=2∨K=3) with rfl|rfl|rfl|rfl <;> rfl
 rw[G,ae (by omega),ae (by omega),ae (by omega),ae (by omega),ae (by omega),ae (by omega)];simp
end
section
variable {q:ax} {L:List Ex} {x:Nat} {o:Xh}
variable {m:List Nd} {t:List ay} {k:Nat} {d:Nd} {n:ay} {c:Sc}
theorem kv:∀{l:List ax} {f:List Qn} {j:Nat} {q:ax},fM L l f->l[j]?=some q->∃e,f[j]?=some e/\ft L q e:=by
 intro l;induction l with
 | nil=>rintro f j q rfl h;simp at h
 | cons p l r =>
   rintro f j q ⟨s,u,rfl,g,i⟩ h;cases j with
   | zero=>simp at h;subst h;exact⟨s,rfl,g⟩
   | succ j => obtain⟨e,a,b⟩:=r (j:=j) i (by simpa using h);exact⟨e,by simpa using a,b⟩
theorem q8 {a b:Qn}(h:ft L q a)(j:ft L q b):a=b:=by cases a;cases b;obtain⟨l,p,r,s⟩:=h;obtain⟨e,f,g,i⟩:=j;simp only at *;rw[l,p,r,e,f,g,s.one i]
theorem wP {f:ax->List Nat}{g:Qn->List Nat}{l:List ax}{w:List Qn}(u:fM L l w)(h:∀q a,q∈l->a∈w->ft L q a->(x∈f q↔x∈g a)):x∈l.flatMap f↔x∈w.flatMap g:=by
 rw[ed,ed];constructor
 . rintro⟨q,r,v⟩;obtain⟨j,s⟩:=List.mem_iff_getElem?.1 r;obtain⟨a,i,e⟩:=kv u s;exact⟨a,aM i,(h q a r (aM i) e).1 v⟩
 rintro⟨a,r,v⟩;obtain⟨j,s⟩:=List.mem_iff_getElem?.1 r;have b:j<l.length:=by have:=(aB.1 s).1;have:=u.len;omega
 obtain⟨y,p,e⟩:=kv u (av b);rw[s] at p;cases p;exact⟨_,List.getElem_mem b,(h _ a (List.getElem_mem b) r e).2 v⟩
theorem wW (h:di m t k d n c){a x:Nat}{rb:Xh}:∀(l:Xl) (b:List Vr) (j:Nat),l.length<=b.length->(∀s∈l,c.has s=true)->(∀(i:Nat) (r:Vr),b[i]?=some r->rb (j+i)=r.bl)->(x∈dY d.ab a rb j l↔¬gE c l b=true/\x=a)
 | [],b,j,_,_,_=>by cases b <;> simp[dY,gE]
 | s::l,[],j,g,_,_=>by simp at g
 | s::l,r::b,j,g,w,y=>by
   have C:=wW h (a:=a) (x:=x) (rb:=rb) l b (j+1) (by simpa using g) (λs A=>w s (cS _ A)) (λi v B=>by have:=y (i+1) v (by simpa using B);rwa [show j+1+i=j+(i+1) by omega]);rw[dY,bj,C,gE,eR];have u:=y 0 r rfl;rw[Nat.add_zero] at u;obtain⟨z,D⟩:=q6 h (w s (ce ..));have E:=oW r;have f:oZ d.ab s=rb j↔(c.decl s != dt r)=false:=(by rw[u,<- z,<- vH];rcases (by omega:c.decl s=0∨c.decl s=1) with e|e <;> rcases (by omega:dt r=0∨dt r=1) with e'|e' <;> rw[e,e'] <;> decide);cases p:(c.decl s != dt r) with
   | false=>rw[ae (by simp)];exact⟨λe=>e.elim (λa=>absurd (f.2 p) a.1) id,ap⟩
   | true=>rw[ag rfl];exact⟨λe=>⟨by simp,e.elim (·.2) (·.2)⟩,λe=>ao ⟨λe'=>(by rw[f.1 e'] at p;cases p),e.2⟩⟩
theorem Gn (h:di m t k d n c)(N:Mf c d.az o){b:Qn}(A:b∈n.eqs)(a:ft d.az q b):∃K,od m k d o q K/\∀x,x∈dY d.ab q.a K 0 q.ns↔x∈(if c.holds b=true then [] else [b.a]):=by
 have hex:=q3 a.r;have z:∀s∈q.ns,lc d.ab s:=λs p=>by obtain⟨v,l,B⟩:=h.found (h.left b A s (by rw[a.ns];exact p));exact⟨_,v,l,B⟩
 have M:=h.one b A;rw[a.ns] at M;by_cases C:1<q.ns.length
 . obtain⟨G,l,B⟩:=h.many b A (by rw[a.ns];omega);obtain⟨f,u,I,Q,R,S⟩:=h.call l;obtain⟨T,J,W,_⟩:=nk R S;rw[a.ns] at B;have E:=a.r;obtain⟨g,w,F⟩:∃g,d.az[q.ex]?=some g/\b.r.s=g.s:=by
    generalize b.r=r at E ⊢;cases E with
    | mk _ g X P D E=>exact⟨g,P,rfl⟩
   rw[F] at I;refine⟨λj=>((u.ab[dP true u.ab+j]?).map (·.bl)).getD false,⟨hex,λe=>absurd C e,λ_=>⟨g,f,u,w,I,Q,λj V=>?_⟩,z⟩,λx=>?_⟩
   . have H:=av (show dP true u.ab+j<u.ab.length by omega);exact⟨_,H,by simp only[H];rfl⟩
   rw[eR,a.a];have O:c.holds b=gE c q.ns G.nd.results:=by
    unfold Sc.holds;rw[a.ns]
    match q.ns,C with
    | _::_::_,_=>simp only[l]
   rw[O];refine wW h q.ns G.nd.results 0 ?_ (λs p=>h.left b A s (by rw[a.ns];exact p)) (λi r y=>?_)
   . rw[J,List.length_take,List.length_drop];omega
   rw[J,List.getElem?_take] at y;split at y
   . rw[List.getElem?_drop] at y;simp only[Nat.zero_add,T,y];rfl
   cases y
 refine⟨λ_=>o q.ex,⟨hex,λ_ _=>rfl,λe=>absurd e C,z⟩,λx=>?_⟩;have D:=h.left b A;rw[eR,a.a];unfold Sc.holds;obtain⟨s,p⟩:=List.length_eq_one_iff.1 (show q.ns.length=1 by omega);rw[a.ns,p] at D;rw[a.ns,p];obtain⟨l,B⟩:=q6 h (D s (cu.2 rfl));have U:=vC c b.r;rw[dY,dY,List.append_nil,eR,N _ _ a.r,<- l];simp only;rcases (by omega:c.decl s=0∨c.decl s=1) with e|e <;> rcases (by omega:bo c b.r=0∨bo c b.r=1) with e'|e' <;> rw[e,e'] <;> simp
theorem wJ (h:di m t k d n c):∀l:List Vr,(∀v∈l,v∈d.ab)->jL d.ab l=eI c l
 | [],_=>rfl
 | v::l,b=>by
   have e:=wJ h l (λv i=>b v (cS _ i));unfold jL at e ⊢;rw[List.flatMap_cons,e,eI];congr 1;have g:=h.ck v (b v (ce ..));rw[w7];cases a:v.tm with
   | false=>rfl
   | true =>
     obtain⟨f,j⟩:=q6 h (g a);have:(c.decl v.ck != 1)=!oZ d.ab v.ck:=by rw[<- f];rfl
     rw[this]
theorem ET (h:di m t k d n c)(H:Mf c d.az o):∃(z:Nat->List Nat) (f:ax->Nat->Bool),(∀i e,d.az[i]?=some e->gz m k d o e (z i))/\(∀q∈d.eqs,od m k d o q (f q))/\∀x,x∈nl d z f↔x∈c.eP:=by
 have M:∀i,∃l,∀e,d.az[i]?=some e->gz m k d o e l/\∀u,bX d.az i u->∀x,x∈l↔x∈fT c u:=λi=>by
  cases C:d.az[i]? with
  | none=>exact⟨[],λe h=>by cases h⟩
  | some e => obtain⟨l,R⟩:=Gq h H C;exact⟨l,λV h=>by cases h;exact R⟩
 have N:∀q:ax,∃f,∀a∈n.eqs,ft d.az q a->od m k d o q f/\∀x,x∈dY d.ab q.a f 0 q.ns↔x∈(if c.holds a=true then [] else [a.a]):=λq=>by
  by_cases r:∃a∈n.eqs,ft d.az q a
  . obtain⟨a,A,w⟩:=r;obtain⟨f,p⟩:=Gn h H A w;exact⟨f,λW G Q=>by rw[q8 Q w];exact p⟩
  exact⟨λ_=>false,λa A w=>absurd ⟨a,A,w⟩ r⟩
 obtain⟨z,s⟩:=Classical.skolem.1 M;obtain⟨f,p⟩:=Classical.skolem.1 N;refine⟨z,f,λi e C=>(s i e C).1,λq S=>?_,λx=>?_⟩
 . obtain⟨j,I⟩:=List.mem_iff_getElem?.1 S;obtain⟨a,b,F⟩:=kv h.dn.eqs I;exact (p q a (aM b) F).1
 unfold nl Sc.eP;have B:c.nd.eqs=n.eqs:=by rw[h.sc]
 rw[bj,bj,bj,bj,h.cv,B,wJ h d.ab (λv U=>U)]
 have J:x∈(d.eqs.flatMap λq=>dY d.ab q.a (f q) 0 q.ns)↔x∈n.eqs.flatMap λq=>if c.holds q=true then [] else [q.a] :=
  wP h.dn.eqs (λq a _ w G=>(p q a w G).2 x)
 have K:x∈(List.range d.az.length).flatMap z↔x∈n.eqs.flatMap λq=>(bh b8 q.r).flatMap (fT c):=by
  obtain⟨O,P⟩:=qR h.ks;rw[ed,ed];constructor
  . rintro⟨i,y,r⟩;rw[List.mem_range] at y;obtain⟨j,q,a,u,I,b,g⟩:=O i (aE _) y;exact⟨a,aM b,ed.2 ⟨u,(nh _ u).1 g.2.1,((s i _ (av y)).2 u g.1 x).1 r⟩⟩
  rintro⟨a,E,r⟩;obtain⟨u,T,r⟩:=ed.1 r;obtain⟨j,b⟩:=List.mem_iff_getElem?.1 E;have D:j<d.eqs.length:=by have:=(aB.1 b).1;have:=h.dn.eqs.len;omega
  obtain⟨i,_,y,g⟩:=P j _ a u (av D) b ((nh _ u).2 T);exact⟨i,List.mem_range.2 y,((s i _ (av y)).2 u g.1 x).2 r⟩
 rw[J,K];constructor
 . rintro ((h|h)|h)
   . exact ao (ao h)
   . exact ap h
   exact ao (ap h)
 rintro ((h|h)|h)
 . exact ao (ao h)
 . exact ap h
 exact ao (ap h)
end
section
variable {n v:Nat} {g:Nat->Option Nat}
def c7 (g:Nat->Option Nat):Nat->Nat->Option Nat
 | 0,p=>some p
 | m+1,p=>(g p).bind (c7 g m)
theorem oM (b:Nat):∀(a p:Nat),c7 g (a+b) p=(c7 g a p).bind (c7 g b)
 | 0,p=>by rw[Nat.zero_add];rfl
 | a+1,p=>by rw[show a+1+b=(a+b)+1 by omega,c7,c7,Option.bind_assoc];congr 1;funext q;exact oM b a q
theorem FI {m p x:Nat}(c:∀i j,g i=some j->j<n)(d:p<n)(h:c7 g m p=some x):x<n:=by
 induction m generalizing p with
 | zero=>cases h;exact d
 | succ m e => rw[c7] at h;obtain⟨j,a,b⟩:=Option.bind_eq_some_iff.1 h;exact e (c _ _ a) b
theorem FF {f:Nat->Nat}(k:∀x,x<=n->f x<n):∃a b,a<b/\b<=n/\f a=f b:=by
 refine Classical.byContradiction λh=>?_;have d:((List.range (n+1)).map f).Nodup:=by rw[List.Nodup,List.pairwise_map];refine List.Pairwise.imp_of_mem ?_ List.pairwise_lt_range;intro a b _ j c e;exact h ⟨a,b,c,by have:=List.mem_range.1 j;omega,e⟩
 have:=wu n _ (λx l=>by obtain⟨a,i,rfl⟩:=List.mem_map.1 l;exact k a (by have:=List.mem_range.1 i;omega)) d;simp at this;omega
theorem Fk (u:∀i j,g i=some j->j<n)(z:v<n):∀(m:Nat),c7 g (m+1) v=some v->∃k,k<n/\c7 g (k+1) v=some v:=by
 intro m;induction m using Nat.strongRecOn with
 | ind m A =>
   intro h;by_cases w:m<n
   . exact⟨m,w,h⟩
   have d:∀a,a<=m+1->∃x,c7 g a v=some x:=λa r=>by have e:c7 g (m+1) v=(c7 g a v).bind (c7 g (m+1-a)):=(by rw[<- oM,show a+(m+1-a)=m+1 by omega]);rw[h] at e;obtain⟨x,c,_⟩:=Option.bind_eq_some_iff.1 e.symm;exact⟨x,c⟩
   obtain⟨a,b,s,B,t⟩:=FF (n:=n) (f:=λa=>(c7 g a v).getD 0) (λa r=>by
    obtain⟨x,c⟩:=d a (by omega)
    show (c7 g a v).getD 0<n;rw[c];exact FI u z c)
   obtain⟨x,c⟩:=d a (by omega);obtain⟨y,o⟩:=d b (by omega);have l:x=y:=(by have:(c7 g a v).getD 0=(c7 g b v).getD 0:=t;rw[c,o] at this;exact this);subst l;have e:c7 g (m-(b-a)+1) v=some v:=(by have p:c7 g (m+1) v=(c7 g b v).bind (c7 g (m+1-b)):=(by rw[<- oM,show b+(m+1-b)=m+1 by omega]);have q:c7 g (m-(b-a)+1) v=(c7 g a v).bind (c7 g (m+1-b)):=(by rw[<- oM,show a+(m+1-b)=m-(b-a)+1 by omega]);rw[q,c,<- o,<- p,h]);exact A (m-(b-a)) (by omega) e
def gn (g:Nat->Option Nat)(v:Nat):Nat->Nat->Bool
 | 0,_=>false
 | f+1,i=>match g i with
   | none=>false
   | some j=>if j=v then true else gn g v f j
theorem vJ:∀{f p:Nat},gn g v f p=true->∃m,m<f/\c7 g (m+1) p=some v
 | f+1,p,h=>by
   rw[gn] at h;cases a:g p with
   | none=>rw[a] at h;cases h
   | some j =>
     rw[a] at h;simp only at h;by_cases b:j=v
     . subst b;exact⟨0,by omega,by rw[c7,a];rfl⟩
     rw[ae b] at h;obtain⟨m,d,c⟩:=vJ h;exact⟨m+1,by omega,by rw[c7,a];exact c⟩
theorem wj:∀{f m p:Nat},m<f->c7 g (m+1) p=some v->gn g v f p=true
 | f+1,m,p,d,h=>by
   rw[c7] at h;obtain⟨j,c,b⟩:=Option.bind_eq_some_iff.1 h;rw[gn,c];simp only;by_cases a:j=v
   . rw[ag a]
   rw[ae a];cases m with
   | zero=>cases b;exact absurd rfl a
   | succ m=>exact wj (m:=m) (by omega) b
theorem Fa {f a:Nat}(r:∀i j,g i=some j->j<n)(s:v<n)(e:n<=f)(l:n<=a):gn g v f v=gn g v a v:=by
 have b:∀{f a:Nat},n<=a->gn g v f v=true->gn g v a v=true:=λh d=>by obtain⟨m,_,o⟩:=vJ d;obtain⟨k,t,p⟩:=Fk r s m o;exact wj (by omega) p
 cases c:gn g v f v with
 | true=>exact (b l c).symm
 | false =>
   cases q:gn g v a v with
   | false=>rfl
   | true=>rw[b e q] at c;cases c
end
section
theorem wH (a:List Vr)(v:Nat):∀f p,fS a v f p=gn (e5 a) v f p
 | 0,_=>rfl
 | f+1,p=>by
   rw[fS,gn];cases e5 a p with
   | none=>rfl
   | some j=>simp only;rw[wH a v f j]
theorem oR (v:Vr):(v.tm=false/\ba v=0)∨(v.tm=true/\(ba v=1∨ba v=2)):=by unfold ba;cases v.tm <;> cases v.nt <;> simp
theorem wI (c:Sc)(b:∀v∈c.nd.ab,v.tm=true->∃f,bm v.ck c.nd.ab 0=some f)(i:Nat):∀f p,p<c.nd.ab.length->lx c i f (c.of p)=gn (e5 c.nd.ab) i f p
 | 0,_,_=>rfl
 | f+1,p,s=>by
   obtain⟨v,q⟩:∃v,c.nd.ab[p]?=some v:=⟨_,av s⟩;have m:c.of p=c.own v:=(by unfold Sc.of;rw[q]);have n:e5 c.nd.ab p=if v.tm=true then bm v.ck c.nd.ab 0 else none:=(by unfold e5;rw[q]);rw[lx,gn,m,n];unfold Sc.own;rcases oR v with ⟨d,g⟩|⟨d,g⟩
   . rw[ag g,ag rfl,d];rfl
   obtain⟨j,k⟩:=b v (aM q) d;have r:¬ba v=0:=(by omega);have l:c.idx v.ck=j:=(by unfold Sc.idx ay.find;rw[k];rfl);rw[ag d,k,ae r,l,ae (λe=>r (Prod.mk.inj e).2)];simp only;by_cases a:j=i
   . rw[ag a,ag a]
   rw[ae a,ae a];have o:c.up (j,ba v)=c.of j:=(by unfold Sc.up;rw[ag g]);rw[o];exact wI c b i f j (by obtain⟨_,h,_⟩:=kP k;omega)
theorem w9 (c:Sc)(d:∀v∈c.nd.ab,v.tm=true->∃f,bm v.ck c.nd.ab 0=some f)(i:Nat)(e:i<c.nd.ab.length):fS c.nd.ab i (c.nd.ab.length+1) i=c.jF i:=by unfold Sc.jF;rw[wH,wI c d i _ i e];exact Fa (λa b h=>o2 h) e (by omega) (by omega)
end
section
variable {s:Xb} {f:List Tm} {a nm p v:Nat} {K:Nat×Nat} {C:Nat->Int->Bool->List Nat->Prop} {t u:Tm}
variable {m:List Nd} {o:List ay} {k:Nat} {d:Nd} {n:ay} {c:Sc}
def fj (K:Nat×Nat):Int×Bool:=if K.2=0 then (-1,false) else ((K.1:Int),K.2==2)
def VC (K:Nat×Nat):Prop:=K=(0,0)∨K.2=1∨K.2=2
theorem oP {a b:Nat×Nat}(ha:VC a)(hb:VC b):fj a=fj b↔a=b:=by refine⟨λh=>?_,λh=>by rw[h]⟩;obtain⟨e,g⟩:=a;obtain⟨i,j⟩:=b;unfold fj at h;rcases ha with ha|ha|ha <;> rcases hb with hb|hb|hb <;> simp only[Prod.mk.injEq] at ha hb <;> simp[ha,hb] at h ⊢ <;> omega
theorem oX (h:di m o k d n c){i:Nat}{v:Vr}(g:d.ab[i]?=some v):eN d.ab v=fj (c.of i)/\VC (c.of i):=by
 have l:c.of i=c.own v:=by unfold Sc.of;rw[h.cv,g]
 rw[l];unfold Sc.own eN;rcases oR v with ⟨b,e⟩|⟨b,e⟩
 . rw[b,ag e];exact⟨rfl,ao rfl⟩
 obtain⟨u,j,_⟩:=h.found (h.ck v (aM g) b);rw[ag b,ae (by omega),j];refine⟨?_,ap e⟩;unfold fj;simp only;rw[ae (by omega)];refine Prod.ext rfl ?_
 show v.nt=(ba v==2);unfold ba;rw[ag b];cases v.nt <;> rfl
theorem vS {g:Tm->Bool}:∀{l:List Tm},t∈l->u∈bh g t->u∈cN g l
 | [],h,_=>by cases h
 | x::l,h,b=>by
   rw[cN,bj];rcases cC.1 h with rfl|h
   . exact ao b
   exact ap (vS h b)
theorem la (g:Tm->Bool)(t:Tm):t∈bh g t:=by
 cases t with
 | mk K a s nm v f=>rw[bh];exact ce ..
theorem wL {K:Nat}(b:t∈f)(e:u∈bh b8 t):u∈bh b8 (.mk K a s nm v f):=by rw[bh,ag (show b8 (.mk K a s nm v f)=true from rfl)];exact cS _ (vS b e)
theorem kk.sub {K:Nat}(h:kk c (.mk K a s nm v f))(b:t∈f):kk c t:=λu e=>h u (wL b e)
theorem wN:∀{l:List Tm} {i:Nat},p∈k6 c t K l i↔∃j u,l[j]?=some u/\p∈fQ c u (c.operand t (i+j) K)
 | [],i=>by rw[k6];simp
 | x::l,i=>by
   rw[k6,bj,wN (l:=l)];constructor
   . rintro (h|⟨j,u,b,e⟩)
     . exact⟨0,x,rfl,h⟩
     exact⟨j+1,u,b,by rw[show i+(j+1)=i+1+j by omega];exact e⟩
   rintro⟨j,u,b,e⟩;cases j with
   | zero=>simp at b;subst b;exact ao e
   | succ j=>exact ap ⟨j,u,by simpa using b,by rw[show i+1+j=i+(j+1) by omega];exact e⟩
abbrev Ab (l:Xu) (K:Nat):Prop:=((l=[110,117,109,98,101,114]∨l=[98,111,111,108])/\K<=2)∨(l=[118,97,114]/\K=3)∨(l=[119,104,101,110]/\K=7)∨(l=[119,104,101,110,111,116]/\K=8)∨(l=[109,101,114,103,101]/\K=6)∨((∀s∈[[110,117,109,98,101,114],[98,111,111,108],[118,97,114],[119,104,101,110],[119,104,101,110,111,116],[109,101,114,103,101]],(l==s)=false)/\(K=4∨K=5∨9<=K))
theorem Fh:p∈fQ c t K↔p∈(c.cr t K).1∨((c.cr t K).2=true/\∃j u,t.ts[j]?=some u/\p∈fQ c u (c.operand t j K)):=by
 cases t with
 | mk M a s nm v f =>
   rw[fQ,bj];refine or_congr Iff.rfl ?_;by_cases h:(c.cr (.mk M a s nm v f) K).2=true
   . rw[ag h,wN];simp only[Nat.zero_add];exact⟨λe=>⟨h,e⟩,λe=>e.2⟩
   rw[ae h];exact⟨λe=>(by cases e),λe=>absurd e.1 h⟩
theorem Gv (h:di m o k d n c)(b0:∀x e bs bt l,d.az[x]?=some e->hD d C e bs bt l->C x bs bt l):∀(t:Tm) (x:Nat) (K:Nat×Nat),bX d.az x t->kk c t->VC K->∃l,C x (fj K).1 (fj K).2 l/\∀p,p∈l↔p∈fQ c t K:=by
 intro t;induction t using Tm.ind with
 | h _ _ _ _ _ f bp =>
   intro x K b3 hT Y;cases b3 with
   | mk _ e _ he be bl =>
     obtain⟨f1,_,f3⟩:=hT _ (la _ _);have Q:=qS f3;obtain⟨_,_,a0,_,a2⟩:=h.small e (aM he);have a9:=l7 (P:=Ab) (by decide) (by decide) e.n a0;have F:∀(j:Nat),j<f.length->∃y t,e.ah[j]?=some y/\f[j]?=some t/\∀N,VC N->∃l,C y (fj N).1 (fj N).2 l/\∀p,p∈l↔p∈fQ c t N:=λj q=>by have D:=av (show j<e.ah.length by omega);have A:=av q;exact⟨_,_,D,A,λN S=>bp _ (aM A) _ N (bl j _ _ D A) (hT.sub (aM A)) S⟩
     have B:=λl b2=>b0 x e (fj K).1 (fj K).2 l he b2;obtain⟨t0,w⟩:∃t0,t0=lR e f:=⟨_,rfl⟩;have bx:t0.k=aF e.op.toList e.n:=(by rw[w];rfl);have O:t0.s=e.s:=(by rw[w];rfl);have a4:t0.nm=e.nm:=(by rw[w];rfl);have bE:t0.a=e.a:=(by rw[w];rfl);have a5:t0.ts=f:=(by rw[w];rfl);unfold lR at w;rw[<- w] at f1 f3 Q ⊢;clear w bp bl hT;rw[<- bx] at a9;rw[O] at f1;rw[a5] at Q;have H:∀p,p∈fQ c t0 K↔p∈(c.cr t0 K).1∨((c.cr t0 K).2=true/\∃j u,f[j]?=some u/\p∈fQ c u (c.operand t0 j K)):=λp=>by rw[Fh,a5]
     simp only[H];clear H;have U:∀I:Bool,(I=false/\e.op.toList=[119,104,101,110]/\t0.k=7)∨(I=true/\e.op.toList=[119,104,101,110,111,116]/\t0.k=8)->∃l,C x (fj K).1 (fj K).2 l/\∀p,p∈l↔p∈(c.cr t0 K).1∨((c.cr t0 K).2=true/\∃j u,f[j]?=some u/\p∈fQ c u (c.operand t0 j K)):=by
      intro I L;have ak:t0.k=7∨t0.k=8:=L.imp (·.2.2) (·.2.2);have M:fj (c.idx e.s,lz t0.k)=((c.idx e.s:Int),I)/\VC (c.idx e.s,lz t0.k):=by
       rcases L with ⟨rfl,_,e⟩|⟨rfl,_,e⟩ <;> rw[e]
       . exact⟨rfl,ap (ao rfl)⟩
       exact⟨rfl,ap (ap rfl)⟩
      have bk:(I=false/\e.op.toList=[119,104,101,110])∨(I=true/\e.op.toList=[119,104,101,110,111,116]):=L.imp (λa=>⟨a.1,a.2.1⟩) (λa=>⟨a.1,a.2.1⟩);obtain⟨v,R,G⟩:=h.found (f1 (by rcases ak with e|e <;> rw[e] <;> rfl));obtain⟨V,W⟩:=oX h G;have r:c.cr t0 K=if K=(c.idx e.s,lz t0.k) then ([],true) else ([e.a],false):=(by unfold Sc.cr;rw[ae (by omega),ag ak,O,bE]);have g:∀i,c.operand t0 i K=c.of (c.idx e.s):=λi=>by unfold Sc.operand;rw[ag ak,O]
      simp only[g];rw[r];by_cases S:K=(c.idx e.s,lz t0.k)
      . have X:f.length=1:=Q.2.2.2 (by omega);obtain⟨y,t,D,A,E⟩:=F 0 (by omega);obtain⟨l,l1,l2⟩:=E _ W;refine⟨l,B l (.co I bk _ v R G ?_ y D l (by rw[V];exact l1)),λp=>?_⟩
        . rw[<- M.1,<- S]
        rw[ag S,l2];constructor
        . exact λhp=>ap ⟨rfl,0,t,A,hp⟩
        rintro (hp|⟨_,j,u,q,hp⟩)
        . cases hp
        have al:j=0:=(by have:=(aB.1 q).1;omega);subst al;rw[A] at q;cases q;exact hp
      refine⟨[e.a],B _ (.off I bk _ R (λb1=>S ((oP Y M.2).1 (by rw[M.1];exact b1.symm)))),λp=>?_⟩;rw[ae S];simp
     rcases a9 with ⟨a,b⟩|⟨a,b⟩|⟨a,b⟩|⟨a,b⟩|⟨a,b⟩|⟨a,b⟩
     . refine⟨[],B _ (.lit a),λp=>?_⟩;have Z:f=[]:=List.eq_nil_of_length_eq_zero (Q.1 (by omega));have r:c.cr t0 K=([],true):=(by unfold Sc.cr;rw[ae (by omega),ae (by omega)]);rw[r,Z];simp
     . obtain⟨v,R,G⟩:=h.found (f1 (by rw[b];rfl));obtain⟨V,W⟩:=oX h G;refine⟨_,B _ (.var a _ v R G),λp=>?_⟩;have Z:f=[]:=List.eq_nil_of_length_eq_zero (Q.1 (by omega));have r:c.cr t0 K=(if c.of (c.idx e.s)=K then [] else [e.nm],true):=(by unfold Sc.cr;rw[ag (ao b),O,a4]);rw[r,Z,eR,eR,V,a2 (by rw[a];rfl)];have:=oP W Y;simp only[List.getElem?_nil,reduceCtorEq,false_and,exists_false,and_false,or_false];exact and_congr (not_congr this) Iff.rfl
     . exact U false (ao ⟨rfl,a,b⟩)
     . exact U true (ap ⟨rfl,a,b⟩)
     . obtain⟨v,R,G⟩:=h.found (f1 (by rw[b];rfl));obtain⟨V,W⟩:=oX h G;have T:f.length=2:=Q.2.2.1 (by omega);obtain⟨y,cs,D,A,E⟩:=F 0 (by omega);obtain⟨z,cv,b4,hw,a3⟩:=F 1 (by omega);obtain⟨l1,ca,cm⟩:=E (c.idx e.s,1) (ap (ao rfl));obtain⟨l2,ck,cn⟩:=a3 (c.idx e.s,2) (ap (ap rfl));refine⟨_,B _ (.k4 a _ v R G y z D b4 l1 l2 ca ck),λp=>?_⟩;have r:c.cr t0 K=(if c.of (c.idx e.s)=K then [] else [e.nm],true):=(by unfold Sc.cr;rw[ag (ap b),O,a4]);have g:∀i,c.operand t0 i K=(c.idx e.s,if 0<i then 2 else 1):=λi=>by unfold Sc.operand;rw[ae (by omega),ag b,O]
       simp only[g];rw[r,bj,bj,eR,eR,V,cm,cn,or_assoc];refine or_congr (and_congr (not_congr (oP W Y)) Iff.rfl) ⟨λhp=>⟨rfl,?_⟩,λhp=>?_⟩
       . rcases hp with hp|hp
         . exact⟨0,cs,A,hp⟩
         exact⟨1,cv,hw,hp⟩
       obtain⟨_,j,u,q,hp⟩:=hp;have ar:=(aB.1 q).1;rcases (by omega:j=0∨j=1) with rfl|rfl
       . rw[A] at q;cases q;exact ao hp
       rw[hw] at q;cases q;exact ap hp
     have r:c.cr t0 K=([],true):=(by unfold Sc.cr;rw[ae (by omega),ae (by omega)]);have g:∀i,c.operand t0 i K=K:=λi=>by unfold Sc.operand;rw[ae (by omega),ae (by omega)]
     have bL:∀j,∃l,∀y t,e.ah[j]?=some y->f[j]?=some t->C y (fj K).1 (fj K).2 l/\∀p,p∈l↔p∈fQ c t K:=λj=>by
      by_cases q:j<f.length
      . obtain⟨y,t,D,A,E⟩:=F j q;obtain⟨l,be⟩:=E K Y;exact⟨l,λy' t' X T=>by rw[D] at X;rw[A] at T;cases X;cases T;exact be⟩
      exact⟨[],λy t X T=>absurd (aB.1 T).1 q⟩
     obtain⟨ls,J⟩:=Classical.skolem.1 bL;refine⟨_,B _ (.hK a ls (λi y D=>?_)),λp=>?_⟩
     . have q:=(aB.1 D).1;exact (J i y _ D (av (show i<f.length by omega))).1
     simp only[g];rw[r,ed];constructor
     . rintro⟨j,q,hp⟩;rw[List.mem_range] at q;have A:=av (show j<f.length by omega);exact ap ⟨rfl,j,_,A,((J j _ _ (av q) A).2 p).1 hp⟩
     rintro (hp|⟨_,j,u,q,hp⟩)
     . cases hp
     have ar:=(aB.1 q).1;have D:=av (show j<e.ah.length by omega);exact⟨j,List.mem_range.2 (by omega),((J j _ u D q).2 p).2 hp⟩
theorem wG (h:di m o k d n c)(i:VC K):∀(l:Xl) (b:Xn),(∀s∈l,c.has s=true)->eE d.ab (fj K) l b=fU c K l b
 | [],b,_=>by rw[eE,fU];all_goals simp
 | _::_,[],_=>by rw[eE,fU];all_goals simp
 | s::l,p::b,j=>by
   obtain⟨v,r,g⟩:=h.found (j s (ce ..));obtain⟨x,y⟩:=oX h g;have:=oP y i;rw[eE,fU,wG h i l b (λs w=>j s (cS _ w)),nw r g,x];by_cases e:c.of (c.idx s)=K
   . rw[ag e,ag (by rw[e])]
   rw[ae e,ae (λq=>e (this.1 q))]
theorem wX (h:di m o k d n c):∀(l:List Vr) (i:Nat),i+l.length=d.ab.length->gY (λi v=>if fS d.ab i (d.ab.length+1) i=true then [v.a] else []) i l=hZ c l i
 | [],_,_=>rfl
 | v::l,i,e=>by
   have q:i<d.ab.length:=(by rw[bJ] at e;omega);have b:=w9 c (λv g r=>by
    rw[h.cv] at g ⊢;obtain⟨u,j,_⟩:=h.found (h.ck v g r);exact⟨_,j⟩) i (by rw[h.cv];exact q)
   rw[h.cv] at b;rw[gY,hZ,wX h l (i+1) (by rw[bJ] at e;omega),b]
theorem EC (h:di m o k d n c)(O:∀x e I J l,d.az[x]?=some e->hD d C e I J l->C x I J l):∃A:ax->List Nat,(∀q∈d.eqs,C q.ex (fB d q).1 (fB d q).2 (A q))/\∀x,x∈lY d A↔x∈c.e4:=by
 have first:∀q b,b∈n.eqs->ft d.az q b->fB d q=fj (c.of (c.idx (b.ns.headD ⟨#[]⟩)))/\VC (c.of (c.idx (b.ns.headD ⟨#[]⟩)))/\∃s l,b.ns=s::l:=λq b z r=>by
  have i:=h.one b z;have E:=h.left b z;unfold fB;rw[<- r.ns];cases G:b.ns with
  | nil=>rw[G] at i;simp at i
  | cons s l => obtain⟨v,M,F⟩:=h.found (E s (by rw[G];exact ce ..));obtain⟨Q,R⟩:=oX h F;exact⟨(nw M F).trans Q,R,s,l,rfl⟩
 have L:∀q:ax,∃l,∀b∈n.eqs,ft d.az q b->C q.ex (fB d q).1 (fB d q).2 l/\∀x,x∈l↔x∈fQ c b.r (c.of (c.idx (b.ns.headD ⟨#[]⟩))):=λq=>by
  by_cases H:∃b∈n.eqs,ft d.az q b
  . obtain⟨b,i,g⟩:=H;obtain⟨f1,f2,_⟩:=first q b i g
    obtain⟨l,E⟩:=Gv h O b.r q.ex _ g.r (h.tm b i) f2;exact⟨l,λT w N=>by rw[q8 N g,f1];exact E⟩
  exact⟨[],λb i g=>absurd ⟨b,i,g⟩ H⟩
 obtain⟨A,y⟩:=Classical.skolem.1 L;refine⟨A,λq z=>?_,λx=>?_⟩
 . obtain⟨j,P⟩:=List.mem_iff_getElem?.1 z;obtain⟨b,D,r⟩:=kv h.dn.eqs P;exact (y q b (aM D) r).1
 unfold lY Sc.e4;have B:c.nd.eqs=n.eqs:=by rw[h.sc]
 rw[bj,bj,h.cv,B,wX h d.ab 0 (by simp)];refine or_congr Iff.rfl (wP h.dn.eqs (λq b _ g w=>?_));obtain⟨f1,f2,s,l,f3⟩:=first q b g w
 unfold mr;rw[bj,bj,(y q b g w).2 x,f1,<- w.ns,<- w.ps,wG h f2 _ _ (h.left b g),f3];refine or_congr ?_ Iff.rfl;cases b.ps with
 | nil=>rw[fU,fU] <;> simp
 | cons p S=>rw[fU];simp
end
section
variable {L:List (Nat×Nat)} {a:Nat} {t:Tm}
variable {o:List Nd} {r:List ay} {k:Nat} {d:Nd} {n:ay} {c:Sc}
def lF (t:Tm):Prop:=∀u∈bh b8 t,u.k=9->∃t0 l,u.ts=t0::l/\gq t0=true
theorem lF.sub {K nm v:Nat}{s:Xb}{b:List Tm}(h:lF (.mk K a s nm v b))(e:t∈b):lF t:=λu f=>h u (wL e f)
theorem Gm (K a nm v:Nat)(s:Xb)(b:List Tm):gq (.mk K a s nm v b)=if K=0∨K=1∨K=2 then true else if K=10 then (match b with|[]=>false|u::_=>u.k==0) else false:=rfl
theorem F5 (h:gq t=true)(i:kk c t):∀u∈bh gH t,ch u.k=false:=by
 cases t with
 | mk K a s nm v f =>
   have j:=qS (i _ (la _ _)).2.2;rw[Gm] at h;change (K<=3->f.length=0)/\(K=5->f.length=3)/\(K=6∨K=9∨12<=K->f.length=2)/\(K=7∨K=8∨K=10∨K=11->f.length=1) at j;intro u b;rw[bh] at b;by_cases z:K=0∨K=1∨K=2
   . have m:f=[]:=List.eq_nil_of_length_eq_zero (j.1 (by omega));subst m;rw[cN] at b;have:u=.mk K a s nm v []:=(by simpa using b);rw[this]
     show ch K=false;exact vN (by omega)
   rw[ae z] at h;split at h
   . rename_i y
     match f,j.2.2.2 (by omega),h,i,b with
     | [w],_,h,i,b =>
       have l:=qS ((i.sub (cu.2 rfl)) _ (la _ _)).2.2;cases w with
       | mk W p q g x B =>
         have A:W=0:=beq_iff_eq.1 h;have m:B=[]:=List.eq_nil_of_length_eq_zero (l.1 (by show W<=3;omega));subst m A;rw[cN,cN,bh,cN] at b;have:u=.mk K a s nm v [.mk 0 p q g x []]∨u=.mk 0 p q g x []:=by
          rcases cC.1 b with e|e
          . exact ao e
          split at e
          . simp at e;exact ap e
          cases e
         rcases this with e|e <;> rw[e]
         . show ch K=false;exact vN (by omega)
         rfl
   cases h
theorem E8:∀(e:List Tm) (b:Nat->List Nat),(∀(j:Nat) (t:Tm),e[j]?=some t->(b j).length<=cc t)->((List.range e.length).flatMap b).length<=gB e
 | [],b,_=>an _
 | t::e,b,h=>by have i:=E8 e (λj=>b (j+1)) (λj u f=>h (j+1) u (by simpa using f));have g:=h 0 t rfl;rw[bJ,List.range_succ_eq_map,List.flatMap_cons,List.flatMap_map,aP,gB];have:(λa=>b (Nat.succ a))=λj=>b (j+1):=rfl;rw[this];omega
theorem ni {u:Tm}{g:Tm->Bool}:∀{ts:List Tm},u∈cN g ts↔∃(j:Nat) (t:Tm),ts[j]?=some t/\u∈bh g t
 | []=>by rw[cN];simp
 | t::ts=>by
   rw[cN,bj,ni (ts:=ts)];constructor
   . rintro (h|⟨j,f,b,e⟩)
     . exact⟨0,t,rfl,h⟩
     exact⟨j+1,f,b,e⟩
   rintro⟨j,f,b,e⟩;cases j with
   | zero=>simp at b;subst b;exact ao e
   | succ j=>exact ap ⟨j,f,by simpa using b,e⟩
abbrev Aa (l:Xu) (K:Nat):Prop:=(l=[102,98,121]/\K=9)∨((l=[118,97,114]∨l=[119,104,101,110]∨l=[119,104,101,110,111,116]∨l=[109,101,114,103,101])/\ch K=true)∨((∀s∈[[102,98,121],[118,97,114],[119,104,101,110],[119,104,101,110,111,116],[109,101,114,103,101]],(l==s)=false)/\ch K=false/\¬K=9)
def oY (c:Sc)(t:Tm)(i:Nat):Prop:=∃u∈bh gH t,ch u.k=true/\c.idx u.s=i
theorem Gw (h:di o r k d n c){C:Nat->List Nat->Prop}(R:∀x e l,d.az[x]?=some e->l.length<=100000->jD d C e l->C x l):∀(t:Tm) (x:Nat),bX d.az x t->kk c t->lF t->cc t<=100000->∃l,C x l/\l.length<=cc t/\∀i,i∈l↔oY c t i:=by
 intro t;induction t using Tm.ind with
 | h _ _ _ _ _ p a4 =>
   intro x a2 S hF a3;cases a2 with
   | mk _ e _ N H a0 =>
     obtain⟨f1,_,f3⟩:=S _ (la _ _);have a5:=qS f3;have al:=l7 (P:=Aa) (by decide) (by decide) e.n (h.small e (aM N)).2.2.1;rw[cc] at a3 ⊢;have F:=hF _ (la _ _);have M:∀(j:Nat),j<p.length->∃y t l,e.ah[j]?=some y/\p[j]?=some t/\kk c t/\C y l/\l.length<=cc t/\∀i,i∈l↔oY c t i:=λj f=>by have z:=av (show j<e.ah.length by omega);have g:=av f;have I:=aM g;obtain⟨l,H⟩:=a4 _ I _ (a0 j _ _ z g) (S.sub I) (hF.sub I) (by have:=mA I;omega);exact⟨_,_,l,z,g,S.sub I,H⟩
     have Z:∀j,∃l,∀y t,e.ah[j]?=some y->p[j]?=some t->C y l/\l.length<=cc t/\∀i,i∈l↔oY c t i:=λj=>by
      by_cases f:j<p.length
      . obtain⟨y,t,l,z,g,_,H⟩:=M j f;exact⟨l,λy' t' q s=>by rw[z] at q;rw[g] at s;cases q;cases s;exact H⟩
      exact⟨[],λy t q s=>absurd (aB.1 s).1 f⟩
     obtain⟨K,w⟩:=Classical.skolem.1 Z;have J:=E8 p K (λj t f=>by
      have V:=(aB.1 f).1;exact (w j _ t (av (show j<e.ah.length by omega)) f).2.1)
     rw[H] at J;have G:∀(i y:Nat),e.ah[i]?=some y->C y (K i):=λi y z=>by have f:=(aB.1 z).1;exact (w i y _ z (av (show i<p.length by omega))).1
     have B:∀i,i∈(List.range e.ah.length).flatMap K↔∃u∈cN gH p,ch u.k=true/\c.idx u.s=i:=λi=>by
      rw[ed];constructor
      . rintro⟨j,f,ar⟩;rw[List.mem_range] at f;have g:=av (show j<p.length by omega);obtain⟨u,q,s⟩:=((w j _ _ (av f) g).2.2 i).1 ar;exact⟨u,ni.2 ⟨j,_,g,q⟩,s⟩
      rintro⟨u,g,s⟩;obtain⟨j,t,f,q⟩:=ni.1 g;have V:=(aB.1 f).1;exact⟨j,List.mem_range.2 (by omega),((w j _ t (av (show j<e.ah.length by omega)) f).2.2 i).2 ⟨u,q,s⟩⟩
     unfold oY;rw[bh];have W:gH (Tm.mk (aF e.op.toList e.n) e.a e.s e.nm (df e.op.toList e.n) p)=(aF e.op.toList e.n != 9):=rfl;rw[W];change ch (aF e.op.toList e.n)=true->c.has e.s=true at f1;change aF e.op.toList e.n=9->∃t0 l,p=t0::l/\gq t0=true at F;have m:(Tm.mk (aF e.op.toList e.n) e.a e.s e.nm (df e.op.toList e.n) p).k=aF e.op.toList e.n:=rfl;rcases al with ⟨a,b⟩|⟨a,b⟩|⟨a,b,Y⟩
     . obtain⟨t0,X,rfl,U⟩:=F b;obtain⟨y,t,l,z,g,T,q,s,h3⟩:=M 0 (by simp);simp at g;subst g;refine⟨l,R x e l N (by have:=mA (ce (a:=t0) (l:=X));omega) (.k2 a y z l q),by have:=mA (ce (a:=t0) (l:=X));omega,λi=>?_⟩;rw[h3,ae (by rw[b];decide)];constructor
       . rintro⟨u,D,E,_⟩;rw[F5 U T u D] at E;cases E
       rintro⟨u,D,E,_⟩;rw[cu] at D;rw[D,m,b] at E;cases E
     . obtain⟨v,D,E⟩:=h.found (f1 b);refine⟨_,R x e _ N (by rw[aP,List.length_singleton];omega) (.nm a _ D K G),by rw[aP,List.length_singleton];omega,λi=>?_⟩;have Q:(aF e.op.toList e.n != 9)=true:=(by rw[bne_iff_ne];intro ak;rw[ak] at b;cases b);rw[bj,B,Q,ag rfl,cu];constructor
       . rintro (rfl|⟨u,m1,A⟩)
         . exact⟨_,ce ..,b,rfl⟩
         exact⟨u,cS _ m1,A⟩
       rintro⟨u,m1,A,O⟩;rcases cC.1 m1 with rfl|m1
       . exact ao O.symm
       exact ap ⟨u,m1,A,O⟩
     refine⟨_,R x e _ N (by rw[List.nil_append];omega) (.hK a K G),by rw[List.nil_append];omega,λi=>?_⟩;have Q:(aF e.op.toList e.n != 9)=true:=(by rw[bne_iff_ne];exact Y);rw[List.nil_append,B,Q,ag rfl];constructor
     . rintro⟨u,m1,A⟩;exact⟨u,cS _ m1,A⟩
     rintro⟨u,m1,A,O⟩;rcases cC.1 m1 with rfl|m1
     . rw[m,b] at A;cases A
     exact⟨u,m1,A,O⟩
theorem vZ {f:List (Nat×Nat)}(h:∀a b,(a,b)∈L->(a,b)∈f){b:Nat}(g:Way L a b):Way f a b:=by
 induction g with
 | one e=>exact .one (h _ _ e)
 | more e _ i=>exact .more (h _ _ e) i
theorem EF {x m:Nat}:∀{j:Nat},j<=m->(x∈kQ a L m j↔x=a/\∃i,m-j<=i/\i<m/\(i,i)∈L)
 | 0,_=>by rw[kQ];exact⟨λe=>(by cases e),λ⟨_,i,b,g,_⟩=>by omega⟩
 | j+1,l=>by
   rw[kQ,bj,EF (j:=j) (by omega),qY];constructor
   . rintro (⟨b,g⟩|⟨b,i,g,h,f⟩)
     . exact⟨g,m-(j+1),an _,by omega,b⟩
     exact⟨b,i,by omega,h,f⟩
   rintro⟨b,i,g,h,f⟩;by_cases e:i=m-(j+1)
   . rw[e] at f;exact ao ⟨f,b⟩
   exact ap ⟨b,i,by omega,h,f⟩
theorem vB {α β:Type}{f:α->List β}:∀{l:List α} {i j:Nat} {a b:α} {s:β},(l.flatMap f).Nodup->l[i]?=some a->l[j]?=some b->s∈f a->s∈f b->i=j
 | [],i,j,a,b,s,_,h,_,_,_=>by simp at h
 | x::l,i,j,a,b,s,m,e,g,p,q=>by
   rw[List.flatMap_cons,List.nodup_append] at m;cases i with
   | zero =>
     cases j with
     | zero=>rfl
     | succ j => simp at e;subst e;exact absurd rfl (m.2.2 s p s (ed.2 ⟨b,aM (by simpa using g),q⟩))
   | succ i =>
     cases j with
     | zero => simp at g;subst g;exact absurd rfl (m.2.2 s q s (ed.2 ⟨a,aM (by simpa using e),p⟩))
     | succ j=>have:=vB (i:=i) (j:=j) m.2.1 (by simpa using e) (by simpa using g) p q;omega
theorem wR:∀{l:Xl} {ps:Xn} {S:Xl},l.length=ps.length->fz S l ps=[]->S.Nodup->(S++l).Nodup
 | [],ps,S,_,_,h=>by rw[List.append_nil];exact h
 | s::l,[],S,g,_,_=>by simp at g
 | s::l,p::ps,S,g,f,h=>by
   rw[fz,ec] at f;have q:s ∉ S:=λm=>by have:=(wK (S:=S) (s:=s) (p:=p) (x:=p)).2 ⟨rfl,m⟩;rw[f.1] at this;cases this
   have:=wR (l:=l) (ps:=ps) (S:=S++[s]) (by simpa using g) f.2 (List.nodup_append.2 ⟨h,by simp,λa i b j e=>q (by rw[<- cu.1 j,<- e];exact i)⟩);rw[show S++s::l=S++[s]++l by simp];exact this
theorem wQ:∀{l:List ax} {S:Xl},(∀q∈l,q.ns.length=q.ps.length)->fP S l=[]->S.Nodup->(S++da l).Nodup
 | [],S,_,_,h=>by show (S++[]).Nodup;rw[List.append_nil];exact h
 | q::l,S,e,b,h=>by rw[fP,ec] at b;have:=wQ (l:=l) (S:=S++q.ns) (λp f=>e p (cS _ f)) b.2 (wR (e q (ce ..)) b.1 h);rw[show S++da (q::l)=S++q.ns++da l by simp[da]];exact this
end
end Go.Proofs.YtmfkofhgdjechaaGreatDoor
