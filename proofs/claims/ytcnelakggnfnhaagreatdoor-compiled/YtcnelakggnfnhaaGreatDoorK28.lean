/- Part 29. -/
import Derived.Test.YtcnelakggnfnhaaGreatDoorK27
set_option maxRecDepth 100000
set_option maxHeartbeats 8000000
namespace Go.Proofs.YtcnelakggnfnhaaGreatDoor
open Go.Proofs.Tryz
section
variable {s x:Xb} {l:Xl} {i k p:Nat} {P:Xh} {st:St}
structure Rl (x:Xb):Prop where
 cl:acE x
 tt:(rb x).t=x.size
 sz:x.size<=40
structure Z9 (x:Xb):Prop where
 ok:Rl x
 k:(rb x).k=2
 s:(rb x).s=x
def At (st:St):List ByteArray->Prop
 | []=>st.er=0/\st.t.k=0
 | x::l=>st.er=0/\(st.t.k=(rb x).k/\st.t.s=(rb x).s/\st.t.n=(rb x).n)/\abh st.src st.t.t l
theorem At.er (h:At st l):st.er=0:=by cases l <;> exact h.1
theorem aee (h:abh s p l)(d:∀x∈l,Rl x)(st:St)(f:st.src=s)(b:st.er=0)(a:st.t=zZ s p):At st l:=by
 cases l with
 | nil => refine⟨b,?_⟩;rw[a];unfold zZ;simp only;rw[ag (show zQ cM s p=s.size from h)]
 | cons x l => have c:=d x (Mx ..);have e:=(lex h c.cl).1;rw[c.tt] at e;refine⟨b,by rw[a,e];exact⟨rfl,rfl,rfl⟩,?_⟩;rw[f,a,e];exact h.2.2.2
theorem At.ad (h:At st (x::l))(c:∀y∈l,Rl y):At st.ad l:=by
 obtain⟨a,_,b⟩:=h;have e:st.ad={ st with t:=zZ st.src st.t.t }:=by unfold St.ad;rw[ag a]
 rw[e];exact aee b c _ rfl a rfl
theorem At.is (h:At st (x::l))(k:Nat)(b:Xu):st.is k b=((rb x).k==k&&(rb x).s.toList==b):=by unfold St.is;rw[h.2.1.1,h.2.1.2.1]
def ab8 (x:Xb)(k:Nat):Bool:=decide (1<=x.size)&&(List.range x.size).all (λi=>!cM (bt x i))&&(rb x).t==x.size&&(rb x).k==k&&(rb x).s.toList==x.toList&&decide (x.size<=40)
theorem aad (h:ab8 x k=true):Rl x/\(rb x).k=k/\(rb x).s.toList=x.toList:=by unfold ab8 at h;simp only[Bool.and_eq_true,decide_eq_true_eq,beq_iff_eq,List.all_eq_true,List.mem_range,Bool.not_eq_true'] at h;exact⟨⟨⟨h.1.1.1.1.1,h.1.1.1.1.2⟩,h.1.1.1.2,h.2⟩,h.1.1.2,h.1.2⟩
theorem adA:∀(l:Xu) (c:UInt8) (x:Bool×Nat),gO (l++[c]) x=if (gO l x).2 > (9223372036854775807-(c.toNat-48)) / 10 then (false,(gO l x).2) else ((gO l x).1,(gO l x).2*10+(c.toNat-48))
 | [],c,x=>rfl
 | d::l,c,x=>by show gO (l++[c]) _=_;rw[adA l c];rfl
theorem aeu (h:k<10):(UInt8.ofNat (48+k)).toNat=48+k:=by rw[UInt8.toNat_ofNat'];omega
theorem agG:∀n:Nat,mv (Lib.decDigits n)/\1<=(Lib.decDigits n).length/\(n<=9223372036854775807->gO (Lib.decDigits n) (true,0)=(true,n)):=by
 intro n;induction n using Nat.strongRecOn with
 | ind n d =>
   rw[Lib.decDigits];by_cases h:n<10
   . rw[dif_pos h];have e:=aeu h;refine⟨λc hc=>?_,an _,λ_=>?_⟩
     . rw[cu.1 hc,e];omega
     show (if 0 > (9223372036854775807-((UInt8.ofNat (48+n)).toNat-48)) / 10 then (false,0) else (true,0*10+((UInt8.ofNat (48+n)).toNat-48)))=_;rw[e,ae (by omega)];exact congrArg (Prod.mk true) (by omega)
   rw[dif_neg h];obtain⟨a,f,b⟩:=d (n / 10) (by omega);have e:=aeu (show n % 10<10 by omega);refine⟨λc hc=>?_,by rw[aP];omega,λg=>?_⟩
   . rcases bj.1 hc with hc|hc
     . exact a c hc
     rw[cu.1 hc,e];omega
   rw[adA,b (by omega),e];simp only;rw[ae (by omega)];exact congrArg (Prod.mk true) (by omega)
theorem aa0 {l:Xu}(h:i<l.length):bt (⟨l.toArray⟩:Xb) i=(l[i]).toNat:=by
 unfold bt;have a:i<(⟨l.toArray⟩:Xb).size:=by show i<l.toArray.size;simpa using h
 rw[dif_pos a];rfl
theorem adQ (b:P 32=false)(h:∀i,i<x.size->P (bt x i)=true):zQ P (x++Rw) 0=x.size:=by
 have:∀(n j:Nat),j+n=x.size->zQ P (x++Rw) j=x.size:=by
  intro n;induction n with
  | zero=>intro j a;rw[Nat.add_zero] at a;subst a;exact nW (by rw[ab6];exact b)
  | succ n c=>intro j a;rw[kJ (by rw[aaW];omega) (by rw[aaJ (by omega)];exact h j (by omega))];exact c (j+1) (by omega)
 exact this x.size 0 (by omega)
theorem adJ (x:Xb):(x++Rw).extract 0 x.size=x:=by have:=aa7 (s:=x++Rw) (y:=x) (a:=0) (m:=x.size) (by rw[aaW];omega) (an _) (λi b=>by rw[Nat.zero_add,aaJ b]);rw[Nat.zero_add] at this;rw[this];apply ByteArray.ext;simp
theorem adr:∀(f n:Nat),n<10 ^ (f+1)->(Lib.decDigits n).length<=f+1
 | 0,n,h=>by rw[Lib.decDigits,dif_pos (by omega)];exact an _
 | f+1,n,h=>by
   rw[Lib.decDigits];split
   . simp
   have:=adr f (n / 10) (by rw[Nat.pow_succ] at h;omega);rw[aP];simp;omega
theorem abX {n:Nat}(t:n<=9223372036854775807):Rl (pQ n)/\(rb (pQ n)).k=3/\(rb (pQ n)).n=n:=by
 obtain⟨d,o,f⟩:=agG n;have e:pQ n=⟨(Lib.decDigits n).toArray⟩:=by unfold pQ Lib.itoa;rw[ae (by omega)];rfl
 have q:=adr 18 n (by omega);obtain⟨D,r⟩:∃D,Lib.decDigits n=D:=⟨_,rfl⟩;rw[r] at d o f q e;rw[e];have u:(⟨D.toArray⟩:Xb).size=D.length:=by show D.toArray.size=_;simp
 have c:∀i,i<(⟨D.toArray⟩:Xb).size->48<=bt ⟨D.toArray⟩ i/\bt ⟨D.toArray⟩ i<=57:=λi a=>by rw[u] at a;rw[aa0 a];exact d _ (List.getElem_mem a)
 have g:∀i,i<(⟨D.toArray⟩:Xb).size->zT (bt ⟨D.toArray⟩ i)=true:=λi a=>by have:=c i a;unfold zT;rw[decide_eq_true this.1,decide_eq_true this.2];rfl
 have h:∀i,i<(⟨D.toArray⟩:Xb).size->cM (bt ⟨D.toArray⟩ i)=false:=λi a=>by have:=c i a;unfold cM;simp only[Bool.or_eq_false_iff,bf];omega
 have y:zQ cM (⟨D.toArray⟩++Rw) 0=0:=nW (by rw[aaJ (by omega)];exact h 0 (by omega));have m:bt (⟨D.toArray⟩++Rw) 0=bt ⟨D.toArray⟩ 0:=aaJ (by omega);have v:gv (bt ⟨D.toArray⟩ 0)=false:=by have:=c 0 (by omega);unfold gv;rw[decide_eq_false (by omega)];rfl
 have j:=adQ (P:=zT) (x:=⟨D.toArray⟩) rfl g;have b:rb ⟨D.toArray⟩=fc (⟨D.toArray⟩++Rw) 0:=by unfold rb zZ;simp only;rw[y,ae (by rw[aaW];omega),m,v,g 0 (by omega)];rfl
 have w:dR (⟨D.toArray⟩++Rw) ((⟨D.toArray⟩++Rw:Xb).size-0) 0 (true,0)=(true,n):=by rw[(I8 _ _ 0 _ rfl).1,j];unfold j1;rw[adJ];exact f t
 unfold fc at b;simp only at b;rw[w,j] at b;refine⟨⟨⟨by omega,h⟩,by rw[b],by omega⟩,by rw[b];rfl,by rw[b]⟩
theorem aei:∀(f a:Nat) (i:Nat),a<=i->i<ia P s f a->P (bt s i)=true
 | 0,a,i,c,b=>by have:i<a:=b;omega
 | f+1,a,i,c,b=>by
   unfold ia at b;split at b
   . rename_i d
     by_cases e:i=a
     . rw[e];exact d.2
     exact aei f (a+1) i (by omega) b
   omega
theorem aeA {a b:Nat}(c:b<=s.size)(d:a+i<b):bt (s.extract a b) i=bt s (a+i):=by unfold bt;rw[dif_pos (by rw[ByteArray.size_extract];omega),dif_pos (by omega),ByteArray.getElem_extract]
theorem ady (u:p<=s.size)(h:(zZ s p).k=2):Z9 (zZ s p).s:=by
 have j:=jl cM s p u;unfold zZ at h ⊢;simp only at h ⊢;generalize zQ cM s p=a at *;by_cases n:a=s.size
 . rw[ag n] at h;cases h
 rw[ae n] at h ⊢;by_cases c:gv (bt s a)=true
 . rw[ag c] at h ⊢;unfold eM at h ⊢;simp only at h ⊢;have r:=jl b6 s a j;have y:a+1<=zQ b6 s a:=by rw[kJ (by omega) (by unfold b6;rw[c];rfl)];exact ll _ _ _
   have f:∀i,a<=i->i<zQ b6 s a->b6 (bt s i)=true:=λi=>aei _ a i;generalize zQ b6 s a=z at *;have A:(s.extract a z).size=z-a:=(by rw[ByteArray.size_extract];omega);have q:∀i,i<(s.extract a z).size->b6 (bt (s.extract a z) i)=true:=λi o=>by rw[aeA r (by omega)];exact f _ (by omega) (by omega)
   have b:∀i,i<(s.extract a z).size->cM (bt (s.extract a z) i)=false:=λi o=>by
    cases e:cM (bt (s.extract a z) i) with
    | false=>rfl
    | true=>have:=acv _ e;rw[q i o] at this;cases this
   have g:gv (bt (s.extract a z) 0)=true:=(by rw[aeA r (by omega),Nat.add_zero];exact c);have d:ep (s.extract a z)=false/\z-a<=12:=by
    cases e:ep (s.extract a z) with
    | true=>rw[e] at h;simp at h
    | false =>
      rw[e] at h;refine⟨rfl,?_⟩;by_cases t:z-a > 12
      . rw[ae (by simp),ag t] at h;cases h
      omega
   generalize s.extract a z=x at *;have v:zQ cM (x++Rw) 0=0:=nW (by rw[aaJ (by omega)];exact b 0 (by omega));have w:=adQ (P:=b6) (x:=x) rfl q;have m:rb x=⟨2,0,x.size,x,0⟩:=(by unfold rb zZ;simp only;rw[v,ae (by rw[aaW];omega),aaJ (by omega),ag g];unfold eM;simp only;rw[w,adJ,d.1,Nat.sub_zero,ae (show ¬false=true by simp),ae (by omega)]);exact⟨⟨⟨by omega,b⟩,by rw[m],by omega⟩,by rw[m],by rw[m]⟩
 rw[ae c] at h;split at h
 . unfold fc at h;simp only at h;split at h <;> cases h
 unfold dT at h;split at h
 . cases h
 split at h <;> cases h
end
section
variable {P a rx:Fn} {n:Nat}
mutual
def eT:Tm->Tm
 | .mk k _ s _ n b=>.mk k 0 s 0 n (eL b)
def eL:List Tm->List Tm
 | []=>[]
 | t::l=>eT t::eL l
end
theorem aaK:∀b:List Tm,eL b=b.map eT
 | []=>rfl
 | t::l=>by rw[eL,aaK l];rfl
structure abC (st:St) (R:Xl) (t:Tm) (x:St×Nat):Prop where
 at':At x.1 R
 op:x.1.op=st.op
 L:st.L <+: x.1.L
 tr:∃t',bX x.1.L x.2 t'/\eT t'=eT t
def Out (st:St)(R:Xl)(t:Tm)(x:St×Nat):Prop:=x.1.er=3∨abC st R t x
theorem abI {st:St}(h:(a st).1.er≠0∨eu (a st).1=false):gR a st=a st:=by
 unfold gR
 show M0 (1299+1) _=_;generalize 1299=f
 show (if _ then _ else a st)=_;rw[ae (λe=>by rcases h with h|h;exact h e.1;rw[h] at e;cases e.2)]
theorem aaX {st:St}(h:(P st).1.er≠0∨et (P st).1.t n=false):eo n P st=P st:=by
 unfold eo
 show dx n P (1299+1) _=_;generalize 1299=f
 show (if _ then _ else P st)=_;rw[ae (λe=>by rcases h with h|h;exact h e.1;rw[h] at e;cases e.2)]
theorem abZ {st:St}(h:(P st).1.er≠0∨eh (P st).1.t=false):ei P st=P st:=by unfold ei;simp only;rw[ae (λe=>by rcases h with h|h;exact h e.1;rw[h] at e;cases e.2)]
theorem abS {st:St}(h:(P st).1.er≠0∨(P st).1.is 5 [102,98,121]=false):fe rx P st=P st:=by unfold fe;simp only;rw[ae (λe=>by rcases h with h|h;exact h e.1;rw[h] at e;cases e.2)]
theorem aeh {b:Fn}{st:St}(h:st.er≠0):(aN rx b st).1=st:=by unfold aN;rw[ag h]
theorem abF {c b:Fn}{st:St}(h:¬(st.er=0/\(st.is 4 [45]||st.is 5 [110,111,116])=true)):dG c b st=b st:=by unfold dG;rw[ae h]
theorem aa9:∀(d:Nat) {st:St},st.er≠0->((fx d).ex st).1=st/\((fx d).un st).1=st/\((fx d).at' st).1=st
 | 0,st,h=>⟨rfl,rfl,rfl⟩
 | d+1,st,h=>by have b:(aN (fx d).ex (fx d).at' st).1=st:=aeh h;have m:gR (aN (fx d).ex (fx d).at') st=aN (fx d).ex (fx d).at' st:=abI (.inl (by rw[b];exact h));have k:dG (fx d).un (gR (aN (fx d).ex (fx d).at')) st=aN (fx d).ex (fx d).at' st:=(by rw[abF (λe=>h e.1),m]);have i:=aaX (n:=3) (P:=dG (fx d).un (gR (aN (fx d).ex (fx d).at'))) (st:=st) (.inl (by rw[k,b];exact h));rw[k] at i;have g:=aaX (n:=2) (P:=eo 3 (dG (fx d).un (gR (aN (fx d).ex (fx d).at')))) (st:=st) (.inl (by rw[i,b];exact h));rw[i] at g;have j:=abZ (P:=eo 2 (eo 3 (dG (fx d).un (gR (aN (fx d).ex (fx d).at'))))) (st:=st) (.inl (by rw[g,b];exact h));rw[g] at j;have f:=aaX (n:=1) (P:=ei (eo 2 (eo 3 (dG (fx d).un (gR (aN (fx d).ex (fx d).at')))))) (st:=st) (.inl (by rw[j,b];exact h));rw[j] at f;have c:=aaX (n:=0) (P:=eo 1 (ei (eo 2 (eo 3 (dG (fx d).un (gR (aN (fx d).ex (fx d).at'))))))) (st:=st) (.inl (by rw[f,b];exact h));rw[f] at c;have l:=abS (rx:=(fx d).ex) (P:=eo 0 (eo 1 (ei (eo 2 (eo 3 (dG (fx d).un (gR (aN (fx d).ex (fx d).at')))))))) (st:=st) (.inl (by rw[c,b];exact h));rw[c] at l;exact⟨by show (fe _ _ st).1=st;rw[l,b],by show (dG _ _ st).1=st;rw[k,b],b⟩
theorem At.acf {st:St}{y:Xb}{R:Xl}(h:At st (y::R))(n:Nat):et st.t n=et (rb y) n:=by unfold et;rw[h.2.1.1,h.2.1.2.1]
theorem At.test {st:St}{y:Xb}{R:Xl}(h:At st (y::R)):eh st.t=eh (rb y):=by unfold eh;rw[h.2.1.1,h.2.1.2.1]
variable {st:St} {y:Xb} {R:Xl} {t:Tm}
theorem adl (h:Out st (y::R) t (a st))(b:((rb y).k==5&&((rb y).s.toList==[119,104,101,110]||(rb y).s.toList==[119,104,101,110,111,116]))=false):Out st (y::R) t (gR a st):=by
 rw[abI];exact h;rcases h with h|h
 . exact .inl (by rw[h];decide)
 refine .inr ?_;unfold eu;rw[h.at'.is,h.at'.is,<- b,Bool.and_or_distrib_left]
theorem aaR (h:Out st (y::R) t (P st))(b:et (rb y) n=false):Out st (y::R) t (eo n P st):=by
 rw[aaX];exact h;rcases h with h|h
 . exact .inl (by rw[h];decide)
 exact .inr (by rw[h.at'.acf];exact b)
theorem adH (h:Out st (y::R) t (P st))(b:eh (rb y)=false):Out st (y::R) t (ei P st):=by
 rw[abZ];exact h;rcases h with h|h
 . exact .inl (by rw[h];decide)
 exact .inr (by rw[h.at'.test];exact b)
theorem adC (h:Out st (y::R) t (P st))(b:((rb y).k==5&&(rb y).s.toList==[102,98,121])=false):Out st (y::R) t (fe rx P st):=by
 rw[abS];exact h;rcases h with h|h
 . exact .inl (by rw[h];decide)
 exact .inr (by rw[h.at'.is];exact b)
end
section
variable {s:Xb} {P g m:Fn} {L:List Ex} {f i j k n:Nat}
variable {st:St} {y x:Xb} {R l:Xl} {t:Tm}
theorem At.add (h:At st R)(e:Ex):At (st.add e) R:=by cases R <;> exact h
theorem At.aI (h:At st R):At st.aI R:=by cases R <;> exact h
theorem At.enter (h:At st (x::l))(e:∀y∈l,Rl y):st.enter.er=3∨(At st.enter l/\st.op+1<=16):=by
 unfold St.enter;split
 . refine .inl ?_;unfold St.fail;rw[ag (show ({ st with op:=st.op+1 }:St).er=0 from h.1)]
 exact .inr ⟨At.ad (st:={ st with op:=st.op+1 }) (x:=x) h e,by omega⟩
theorem At.ac (h:At st (x::l))(p:∀y∈l,Rl y){b:Xu}(o:(rb x).k=k)(e:(rb x).s.toList=b):At (st.ac k b) l:=by unfold St.ac;rw[ag (by rw[h.is,o,e];simp)];exact h.ad p
theorem At.name (h:At st (x::l))(o:∀y∈l,Rl y)(e:(rb x).k=2):At st.name l:=by unfold St.name;rw[ag (by rw[h.2.1.1,e])];exact h.ad o
theorem aaO {h:St}{e:Ex}{us:List Tm}(r:At h R)(v:h.op=st.op)(u:st.L <+: h.L)(o:dW h.L e.ah us)(w:eT t=.mk (aF e.op.toList e.n) 0 e.s 0 (df e.op.toList e.n) (us.map eT)):abC st R t (h.put e):=by
 refine⟨r.add e,v,u.trans (List.prefix_append _ _),⟨.mk (aF e.op.toList e.n) e.a e.s e.nm (df e.op.toList e.n) us,?_,?_⟩⟩
 . refine .mk h.L.length e us ?_ o.1 (λi y t p q=>mZ (List.prefix_append _ _) (o.2 i y t p q))
   show (h.L++[e])[h.L.length]?=_;rw[e8 (an _),Nat.sub_self];rfl
 rw[eT,w,aaK]
theorem ab9 {a:Tm}(h:bX L i a):dW L [i] [a]:=(dW.nil L).snoc h
theorem aca {a b:Tm}(h:bX L i a)(e:bX L j b):dW L [i,j] [a,b]:=(ab9 h).snoc e
theorem agT {a b c:Tm}(h:bX L i a)(o:bX L j b)(e:bX L k c):dW L [i,j,k] [a,b,c]:=(aca h o).snoc e
def Dp (d:Nat)(st:St):Prop:=st.op<=16/\18<=st.op+d
def aah (d:Nat)(M:Fn)(u:Tm)(y:Xb):Prop:=∀(st:St) (R:Xl),Dp d st->(∀z∈y::R,Rl z)->At st (ob u++y::R)->Out st (y::R) u (M st)
theorem af9 {x:St×Nat}(h:x.1.er≠0∨et x.1.t n=false):dx n P f x=x:=by
 cases f with
 | zero=>rfl
 | succ f => show (if _ then _ else x)=_;rw[ae (λe=>by rcases h with h|h;exact h e.1;rw[h] at e;cases e.2)]
variable {d:Nat} {a b c:Tm}
theorem adG {x:St×Nat}(e:abC st (y::(ob b++kr::R)) a x)(v:aah d P b kr)(o:∀z∈ob b++kr::R,Rl z)(p:Dp d st)(w:eT t=.mk (aF (rb y).s.toList 0) 0 sE 0 (df (rb y).s.toList 0) [eT a,eT b]) :
 Out st (kr::R) t ((P x.1.ad).1.put ⟨x.1.t.s,x.1.t.a,0,[x.2,(P x.1.ad).2],sE,0⟩):=by
 have u:=e.at'.ad o;have h2:=v x.1.ad R ⟨by rw[St.bQ,e.op];exact p.1,by rw[St.bQ,e.op];exact p.2⟩ (λz A=>o z (bj.2 (.inr A))) u;rcases h2 with h2|h2
 . exact .inl h2
 refine .inr ?_;obtain⟨q,B,C⟩:=e.tr;obtain⟨r,D,E⟩:=h2.tr;have h:=h2.L;rw[St.bu] at h;refine aaO (us:=[q,r]) h2.at' (by rw[h2.op,St.bQ,e.op]) (e.L.trans h) (aca (mZ h B) D) ?_
 show eT t=.mk (aF x.1.t.s.toList 0) 0 sE 0 (df x.1.t.s.toList 0) [eT q,eT r];rw[w,e.at'.2.1.2.1,C,E]
theorem abW (ha:Out st (y::(ob b++kr::R)) a (P st))(e:aah d P b kr)(h:∀z∈ob b++kr::R,Rl z)(o:Dp d st)(r:et (rb y) n=true)(p:et (rb kr) n=false)(q:eT t=.mk (aF (rb y).s.toList 0) 0 sE 0 (df (rb y).s.toList 0) [eT a,eT b]) :
 Out st (kr::R) t (eo n P st):=by
 rcases ha with ha|ha
 . rw[aaX (.inl (by rw[ha];decide))];exact .inl ha
 have h1:=adG ha e h o q;unfold eo
 show Out _ _ _ (dx n P (1299+1) _);generalize 1299=f
 show Out _ _ _ (if _ then _ else P st);rw[ag ⟨ha.at'.er,by rw[ha.at'.acf];exact r⟩,af9]
 . exact h1
 rcases h1 with h1|h1
 . exact .inl (by rw[h1];decide)
 exact .inr (by rw[h1.at'.acf];exact p)
theorem agM (ha:Out st (y::(ob b++kr::R)) a (P st))(h:aah d P b kr)(o:∀z∈ob b++kr::R,Rl z)(p:Dp d st)(r:eh (rb y)=true)(q:eT t=.mk (aF (rb y).s.toList 0) 0 sE 0 (df (rb y).s.toList 0) [eT a,eT b]) :
 Out st (kr::R) t (ei P st):=by
 rcases ha with ha|ha
 . rw[abZ (.inl (by rw[ha];decide))];exact .inl ha
 have e:=adG ha h o p q;unfold ei;simp only;rw[ag ⟨ha.at'.er,by rw[ha.at'.test];exact r⟩];exact e
theorem Dp.enter (h:Dp (d+1) st)(e:st.op+1<=16):Dp d st.enter:=⟨by rw[St.bN];exact e,by rw[St.bN];have:=h.2;omega⟩
theorem agz (ha:Out st (y::(ob b++kr::R)) a (P st))(w:aah d m b kr)(C:∀s:St,s.er≠0->(m s).1=s)(p:∀z∈ob b++kr::R,Rl z)(q:Dp (d+1) st)(r:(rb y).k=5/\(rb y).s.toList=[102,98,121])(B:eT t=.mk 9 0 sE 0 0 [eT a,eT b]) :
 Out st (kr::R) t (fe m P st):=by
 rcases ha with ha|ha
 . rw[abS (.inl (by rw[ha];decide))];exact .inl ha
 unfold fe;simp only;rw[ag ⟨ha.at'.er,by rw[ha.at'.is,r.1,r.2];rfl⟩];have o:Dp (d+1) (P st).1:=⟨by rw[ha.op];exact q.1,by rw[ha.op];exact q.2⟩;rcases ha.at'.enter p with e|⟨e,A⟩
 . left
   show (m (P st).1.enter).1.er=3;rw[C _ (by rw[e];decide)];exact e
 rcases w _ R (o.enter A) (λz D=>p z (bj.2 (.inr D))) e with h2|h2
 . exact .inl h2
 right;obtain⟨u,E,F⟩:=ha.tr;obtain⟨v,G,H⟩:=h2.tr;have h:=h2.L;rw[St.dA] at h;refine aaO (us:=[u,v]) h2.at'.aI (by rw[St.iw,h2.op,St.bN,ha.op];rfl) (ha.L.trans h) (aca (mZ h E) G) ?_
 show eT t=.mk (aF iO.toList 0) 0 sE 0 (df iO.toList 0) [eT u,eT v];rw[B,F,H,show aF iO.toList 0=9 by decide +kernel,show df iO.toList 0=0 by decide +kernel]
theorem aft {o u:Fn}(h:At st (y::(ob a++kr::R)))(B:aah d o a kr)(F:∀s:St,s.er≠0->(o s).1=s)(w:∀z∈ob a++kr::R,Rl z)(D:Dp (d+1) st)(A:((rb y).k=4/\(rb y).s.toList=[45]/\eT t=.mk 10 0 sE 0 0 [eT a])∨((rb y).k=5/\(rb y).s.toList=[110,111,116]/\eT t=.mk 11 0 sE 0 0 [eT a])) :
 Out st (kr::R) t (dG o u st):=by
 unfold dG;have C:(st.is 4 [45]||st.is 5 [110,111,116])=true:=by rw[h.is,h.is];rcases A with ⟨e,h2,_⟩|⟨e,h2,_⟩ <;> rw[e,h2] <;> rfl
 rw[ag ⟨h.er,C⟩];rcases h.enter w with e|⟨e,E⟩
 . left
   show (o st.enter).1.er=3;rw[F _ (by rw[e];decide)];exact e
 rcases B _ R (D.enter E) (λz G=>w z (bj.2 (.inr G))) e with h2|h2
 . exact .inl h2
 right;obtain⟨J,H,I⟩:=h2.tr;have v:=h2.L;rw[St.dA] at v;refine aaO (us:=[J]) h2.at'.aI (by rw[St.iw,h2.op,St.bN];rfl) v (ab9 H) ?_;simp only[List.map_cons,List.map_nil];rw[I,h.is];rcases A with ⟨p,q,r⟩|⟨p,q,r⟩
 . rw[p,q,ag (by decide),r,show aF kS.toList 0=10 by decide +kernel,show df kS.toList 0=0 by decide +kernel]
 rw[p,q,ae (by decide),r,show aF kR.toList 0=11 by decide +kernel,show df kR.toList 0=0 by decide +kernel]
theorem afr {x:St×Nat}(h:x.1.er≠0∨eu x.1=false):M0 f x=x:=by
 cases f with
 | zero=>rfl
 | succ f => show (if _ then _ else x)=_;rw[ae (λe=>by rcases h with h|h;exact h e.1;rw[h] at e;cases e.2)]
theorem afP (e:At st (kr::R)):eu st=false:=by unfold eu;rw[e.is,e.is];decide +kernel
theorem adL (ha:Out st (y::s::kr::R) a (g st))(o:Z9 s)(r:∀z∈kr::R,Rl z)(u:(rb y).k=5/\((rb y).s.toList=[119,104,101,110]∨(rb y).s.toList=[119,104,101,110,111,116]))(A:eT t=.mk (aF (rb y).s.toList 0) 0 s 0 0 [eT a]) :
 Out st (kr::R) t (gR g st):=by
 rcases ha with ha|ha
 . rw[abI (.inl (by rw[ha];decide))];exact .inl ha
 have e:∀z∈s::kr::R,Rl z:=λz hz=>by
  rcases cC.1 hz with rfl|hz
  . exact o.ok
  exact r z hz
 have B:eu (g st).1=true:=by unfold eu;rw[ha.at'.is,ha.at'.is,u.1];rcases u.2 with h|h <;> rw[h] <;> rfl
 have p:=ha.at'.ad e;have w:=p.name r o.k;have q:abC st (kr::R) t ((g st).1.ad.name.put ⟨(g st).1.t.s,(g st).1.t.a,(g st).1.ad.t.a,[(g st).2],(g st).1.ad.t.s,0⟩):=by
  obtain⟨v,C,D⟩:=ha.tr;refine aaO (us:=[v]) w (by rw[St.dB,St.bQ,ha.op]) (by rw[St.c8,St.bu];exact ha.L) (by rw[St.c8,St.bu];exact ab9 C) ?_
  show eT t=.mk (aF (g st).1.t.s.toList 0) 0 (g st).1.ad.t.s 0 (df (g st).1.t.s.toList 0) [eT v];rw[D,ha.at'.2.1.2.1,p.2.1.2.1,o.s,A,jY]
 unfold gR
 show Out _ _ _ (M0 (1299+1) _);generalize 1299=f
 show Out _ _ _ (if _ then _ else g st);rw[ag ⟨ha.at'.er,B⟩,afr (.inr (afP q.at'))];exact .inr q
theorem aej (h:st.er≠0)(k:Nat)(l:Xu):(st.ac k l).er=st.er:=(Iw h k l).1
theorem aaD {M:Fn}(e:∀s:St,s.er≠0->(M s).1=s)(h:st.er=3):(M st).1.er=3:=by rw[e st (by rw[h];decide)];exact h
theorem aas {l:Xu}(h:st.er=3):(st.ac k l).er=3:=by rw[aej (by rw[h];decide)];exact h
def aaE:ByteArray:=⟨#[116,104,101,110]⟩
def aau:ByteArray:=⟨#[101,108,115,101]⟩
def aa4:ByteArray:=⟨#[105,102]⟩
theorem afB (U:At st (aa4::(ob c++aaE::(ob a++aau::(ob b++kr::R)))))(X:aah d m c aaE)(V:aah d m a aau)(W:aah d m b kr)(e:∀s:St,s.er≠0->(m s).1=s)(B:∀z∈ob c++aaE::(ob a++aau::(ob b++kr::R)),Rl z)(v:Dp (d+1) st)(Y:eT t=.mk 5 0 sE 0 0 [eT c,eT a,eT b]) :
 Out st (kr::R) t (fp m st):=by
 have H:∀z∈aaE::(ob a++aau::(ob b++kr::R)),Rl z:=λz h=>B z (bj.2 (.inr h));have I:∀z∈ob a++aau::(ob b++kr::R),Rl z:=λz h=>H z (cS _ h);have J:∀z∈aau::(ob b++kr::R),Rl z:=λz h=>I z (bj.2 (.inr h));have K:∀z∈ob b++kr::R,Rl z:=λz h=>J z (cS _ h);have z5:∀z∈kr::R,Rl z:=λz h=>K z (bj.2 (.inr h));unfold fp;simp only;have r:(rb aaE).k=5/\(rb aaE).s.toList=[116,104,101,110]:=by decide +kernel
 have u:(rb aau).k=5/\(rb aau).s.toList=[101,108,115,101]:=by decide +kernel
 rcases U.enter B with p|⟨p,w⟩
 . exact .inl (aaD e (aas (aaD e (aas (aaD e p)))))
 rcases X _ _ (v.enter w) H p with h2|h2
 . exact .inl (aaD e (aas (aaD e (aas h2))))
 generalize ar:m st.enter=C at *;have Z:=h2.at'.ac I r.1 r.2;have d1:Dp d (C.1.ac 5 [116,104,101,110]):=by unfold Dp;rw[St.a8,h2.op];exact v.enter w
 rcases V _ _ d1 J Z with h3|h3
 . exact .inl (aaD e (aas h3))
 generalize hB:m (C.1.ac 5 [116,104,101,110])=A at *;have m2:=h3.at'.ac K u.1 u.2;have d2:Dp d (A.1.ac 5 [101,108,115,101]):=by unfold Dp;rw[St.a8,h3.op];exact d1
 rcases W _ _ d2 z5 m2 with h4|h4
 . exact .inl h4
 right;obtain⟨G,S,T⟩:=h2.tr;obtain⟨E,M,N⟩:=h3.tr;obtain⟨F,O,Q⟩:=h4.tr;have D:=h2.L;have q:=h3.L;have o:=h4.L;rw[St.dA] at D;rw[St.bi] at q o;refine aaO (us:=[G,E,F]) h4.at'.aI (by rw[St.iw,h4.op,St.a8,h3.op,St.a8,h2.op,St.bN];rfl) ((D.trans q).trans o) (agT (mZ (q.trans o) S) (mZ o M) O) ?_
 show eT t=.mk (aF iz.toList 0) 0 sE 0 (df iz.toList 0) [eT G,eT E,eT F];rw[Y,T,N,Q,show aF iz.toList 0=5 by decide +kernel,show df iz.toList 0=0 by decide +kernel]
def acb (d:Nat)(M:Fn)(u:Tm):Prop:=∀(st:St) (R:Xl),Dp d st->(∀z∈R,Rl z)->At st (jq u.k (ob u)++R)->Out st R u (M st)
def aa8:ByteArray:=⟨#[109,101,114,103,101]⟩
theorem afG (F:At st (aa8::s::(jq a.k (ob a)++(jq b.k (ob b)++R))))(o:Z9 s)(G:acb d (bF g) a)(H:acb d (bF g) b)(p:∀s:St,s.er≠0->(bF g s).1=s)(q:∀z∈jq a.k (ob a)++(jq b.k (ob b)++R),Rl z)(I:Dp (d+1) st)(K:eT t=.mk 6 0 s 0 0 [eT a,eT b]) :
 Out st R t (fs g st):=by
 have N:∀z∈s::(jq a.k (ob a)++(jq b.k (ob b)++R)),Rl z:=λz h=>by
  rcases cC.1 h with rfl|h
  . exact o.ok
  exact q z h
 have w:∀z∈jq b.k (ob b)++R,Rl z:=λz h=>q z (bj.2 (.inr h));have O:∀z∈R,Rl z:=λz h=>w z (bj.2 (.inr h));unfold fs;simp only;rcases F.enter N with e|⟨e,J⟩
 . refine .inl (aaD p (aaD p ?_));rw[(aK.name st.enter (by rw[e];decide)).1];exact e
 have M:=e.name q o.k;have d1:Dp d st.enter.name:=by unfold Dp;rw[St.dB];exact I.enter J
 rcases G _ _ d1 w M with h2|h2
 . exact .inl (aaD p h2)
 generalize Q:bF g st.enter.name=C at *;have d2:Dp d C.1:=by unfold Dp;rw[h2.op];exact d1
 rcases H _ _ d2 O h2.at' with h3|h3
 . exact .inl h3
 right;obtain⟨u,A,B⟩:=h2.tr;obtain⟨v,D,E⟩:=h3.tr;have r:=h2.L;rw[St.c8,St.dA] at r;refine aaO (us:=[u,v]) h3.at'.aI (by rw[St.iw,h3.op,h2.op,St.dB,St.bN];rfl) (r.trans h3.L) (aca (mZ h3.L A) D) ?_
 show eT t=.mk (aF iL.toList 0) 0 st.enter.t.s 0 (df iL.toList 0) [eT u,eT v];rw[K,B,E,e.2.1.2.1,o.s,show aF iL.toList 0=6 by decide +kernel,show df iL.toList 0=0 by decide +kernel]
theorem ac1 (p:At st (jM::l))(r:∀z∈l,Rl z)(q:∀z∈R,Rl z)(v:∀s:St,s.er≠0->(m s).1=s)(h:At st.enter l->st.op+1<=16->Out st.enter (kr::R) t (m st.enter)):Out st R t (iM m st):=by
 unfold iM;have o:(rb kr).k=4/\(rb kr).s.toList=[41]:=by decide +kernel
 rcases p.enter r with e|⟨e,u⟩
 . exact .inl (aas (aaD v e))
 rcases h e u with h2|h2
 . exact .inl (aas h2)
 right;refine⟨(h2.at'.ac q o.1 o.2).aI,?_,?_,?_⟩
 . show ((m st.enter).1.ac 4 [41]).op-1=_;rw[St.a8,h2.op,St.bN];rfl
 . show _ <+: ((m st.enter).1.ac 4 [41]).L;rw[St.bi];have:=h2.L;rw[St.dA] at this;exact this
 obtain⟨B,w,A⟩:=h2.tr;exact⟨B,by show bX ((m st.enter).1.ac 4 [41]).L _ _;rw[St.bi];exact w,A⟩
end
section
variable {x:Xb} {l:Xl} {k:Nat} {st:St} {t:Tm}
def aaP (k:Nat):Bool:=k==3||k==4||k==6||k==7||k==8
inductive Rd:Tm->Prop
 | mk (k a:Nat) (s:Xb) (nm n:Nat) (ts:List Tm) (ar:dJ k ts.length=true) (len:ts.length<=1200) (nk:aaP k=true->Z9 s) (sk:aaP k=false->s=sE) (n0:k≠0->n=0) (nn:n<=9223372036854775807) (hr:∀t∈ts,Rd t):Rd (.mk k a s nm n ts)
theorem agm:((List.range 24).all λk=>k==0||k==3||k==4||ab8 (wd k) 4||ab8 (wd k) 5)=true:=by decide +kernel
theorem aaY (h:k<24)(a:¬(k=0∨k=3∨k=4)):Rl (wd k):=by
 have:=List.all_eq_true.1 agm k (List.mem_range.2 h);simp only[Bool.or_eq_true,beq_iff_eq] at this;rcases this with (((h1|h1)|h1)|h1)|h1
 . exact absurd (.inl h1) a
 . exact absurd (.inr (.inl h1)) a
 . exact absurd (.inr (.inr h1)) a
 . exact (aad h1).1
 exact (aad h1).1
theorem abw:Rl jM:=(aad (k:=4) (by decide +kernel)).1
theorem aar:Rl kr:=(aad (k:=4) (by decide +kernel)).1
theorem ab3:Rl p7:=(aad (k:=4) (by decide +kernel)).1
theorem agp:Rl aa4:=(aad (k:=5) (by decide +kernel)).1
theorem aeb:Rl aaE:=(aad (k:=5) (by decide +kernel)).1
theorem ads:Rl aau:=(aad (k:=5) (by decide +kernel)).1
theorem age:Rl aa8:=(aad (k:=5) (by decide +kernel)).1
abbrev Ar (l:Xl):Prop:=∀x∈l,Rl x
theorem Ml {a:Xl}(h:Ar l)(b:Ar a):Ar (l++a):=λx hx=>by
 rcases bj.1 hx with hx|hx
 . exact h x hx
 exact b x hx
theorem Ow (h:Rl x)(a:Ar l):Ar (x::l):=λz hz=>by
 rcases cC.1 hz with rfl|hz
 . exact h
 exact a z hz
theorem aat:Ar []:=λx a=>by cases a
theorem aaa (h:Rl x):Ar [x]:=Ow h aat
theorem aa5:∀(b:Bool) (l:List (List ByteArray)),(∀x∈l,Ar x)->Ar (eA b l)
 | _,[],_=>aat
 | b,x::l,h=>by
   rw[eA];refine Ml ?_ (Ml (h x (Mx ..)) (aa5 true l (λy a=>h y (cS _ a))));split
   . exact Ow ab3 aat
   exact aat
theorem acp {l:List (List ByteArray)}(h:∀x∈l,Ar x):Ar (gS l) :=
 Ml (aaa abw) (Ml (aa5 false l h) (aaa aar))
theorem aaN {l:List (List ByteArray)}(h:∀x∈l,Ar x)(i:Nat):Ar (l.getD i []):=by
 rw[List.getD_eq_getElem?_getD];cases e:l[i]? with
 | none=>exact aat
 | some y=>exact h y (aM e)
theorem abL (h:Ar l):Ar (jq k l):=by
 unfold jq;split
 . exact Ml (aaa abw) (Ml h (aaa aar))
 exact h
theorem ab7 {n:Nat}(h:dJ k n=true):k<24:=by
 unfold dJ at h
 repeat' split at h
 all_goals first|omega|cases h
theorem adZ {s:Xb}{c:Xn}{l:List (List ByteArray)}(a:k<24)(f:5<=k)(b:aaP k=true->Z9 s)(h:∀x∈l,Ar x):Ar (iy k s c l):=by
 unfold iy;split
 . exact Ml (aaa agp) (Ml (aaN h 0) (Ml (aaa aeb) (Ml (aaN h 1) (Ml (aaa ads) (aaN h 2)))))
 split
 . rename_i _ e
   exact Ml (Ow age (aaa (b (by rw[e];rfl)).ok)) ((Ml (abL (aaN h 0)) (abL (aaN h 1))))
 split
 . rename_i _ _ e
   exact Ml (aaN h 0) (Ow (aaY a (by omega)) (Ow (b (by rcases e with e|e <;> rw[e] <;> rfl)).ok aat))
 split
 . exact Ml (aaa (aaY a (by omega))) (aaN h 0)
 exact Ml (aaN h 0) (Ml (aaa (aaY a (by omega))) (aaN h 1))
theorem aan (h:Rd t):Ar (ob t):=by
 induction h with
 | mk k a s w n q i o b z v p r m =>
   have f:∀x∈hH q,Ar x:=λx g=>by rw[aa2] at g;obtain⟨u,j,rfl⟩:=List.mem_map.1 g;exact m u j
   have c:=ab7 i;rw[ob];unfold lM;split
   . exact Ow (abX p).1 aat
   split
   . exact Ow (aaY c (by omega)) aat
   split
   . rename_i e;exact Ow (b (by rw[e];rfl)).ok aat
   split
   . rename_i e;exact Ml (aaa (b (by rw[e];rfl)).ok) (acp f)
   exact Ml (aaa abw) (Ml (adZ c (by omega) b f) (aaa aar))
def abc (y:Xb):Bool:=!((rb y).k==4&&(rb y).s.toList==[45])&&!((rb y).k==5&&(rb y).s.toList==[110,111,116])
theorem abP {y:Xb}{R:Xl}(a:At st (y::R))(h:abc y=true):¬(st.er=0/\(st.is 4 [45]||st.is 5 [110,111,116])=true):=by rintro⟨_,e⟩;rw[a.is,a.is] at e;unfold abc at h;cases b:((rb y).k==4&&(rb y).s.toList==[45]) <;> cases c:((rb y).k==5&&(rb y).s.toList==[110,111,116]) <;> rw[b,c] at h e <;> first|(simp at e;done)|(simp at h;done)
theorem acl (h:Rd t):∃y l,ob t=y::l/\abc y=true/\(t.k=3∨t.k=4∨¬(rb y).k=2):=by
 cases h with
 | mk k a s p n r f g i q o c m =>
   have j:=ab7 f;have b:aaP k=true->abc s=true:=λe=>by unfold abc;rw[(i e).k];rfl
   rw[ob];unfold lM;split
   . refine⟨_,_,rfl,?_,.inr (.inr ?_)⟩
     . unfold abc;rw[(abX c).2.1];rfl
     rw[(abX c).2.1];decide
   split
   . rename_i e
     refine⟨_,_,rfl,?_,.inr (.inr ?_)⟩ <;> rcases e with e|e <;> rw[e] <;> decide +kernel
   split
   . rename_i e;exact⟨_,_,rfl,b (by rw[e];rfl),.inl e⟩
   split
   . rename_i e;exact⟨_,_,rfl,b (by rw[e];rfl),.inr (.inl e)⟩
   exact⟨_,_,rfl,by decide +kernel,.inr (.inr (by decide +kernel))⟩
def T3 (d:Nat):Fn:=eo 3 (fx d).un
def T2 (d:Nat):Fn:=eo 2 (T3 d)
def Te (d:Nat):Fn:=ei (T2 d)
def T1 (d:Nat):Fn:=eo 1 (Te d)
def T0 (d:Nat):Fn:=eo 0 (T1 d)
theorem abA (d:Nat):(fx (d+1)).un=dG (fx d).un (gR (fx (d+1)).at'):=rfl
theorem aba (d:Nat):(fx (d+1)).at'=aN (fx d).ex (fx d).at':=rfl
theorem abO (d:Nat):(fx (d+1)).ex=fe (fx d).ex (T0 (d+1)):=by unfold T0 T1 Te T2 T3;rw[abA,aba];simp only[fx]
def agS:List ByteArray->Prop
 | []=>True
 | z::_=>((rb z).k==4&&(rb z).s.toList==[40])=false
def aai (u:Tm):Prop:=∀(d:Nat) (st:St) (R:Xl),Dp d st->Ar R->(u.k=3->agS R)->At st (ob u++R)->Out st R u ((fx d).at' st)
def Z8 (y:Xb)(i:Nat):Bool :=
 !((rb y).k==4&&(rb y).s.toList==[40])&&!((rb y).k==5&&((rb y).s.toList==[119,104,101,110]||(rb y).s.toList==[119,104,101,110,111,116]))
 && (i==0||!et (rb y) 3)&&(i<=1||!et (rb y) 2)&&(i<=2||!eh (rb y))&&(i<=3||!et (rb y) 1)&&(i<=4||!et (rb y) 0)&&(i<=5||!((rb y).k==5&&(rb y).s.toList==[102,98,121]))
theorem Dp.succ {d:Nat}(h:Dp d st):∃e,d=e+1:=⟨d-1,by have:=h.1;have:=h.2;omega⟩
variable {u:Tm} {y:Xb} {d:Nat}
theorem aaZ {i:Nat}(h:Z8 y i=true):((rb y).k==4&&(rb y).s.toList==[40])=false/\((rb y).k==5&&((rb y).s.toList==[119,104,101,110]||(rb y).s.toList==[119,104,101,110,111,116]))=false
 /\ (1<=i->et (rb y) 3=false)/\(2<=i->et (rb y) 2=false)/\(3<=i->eh (rb y)=false)/\(4<=i->et (rb y) 1=false)/\(5<=i->et (rb y) 0=false)/\(6<=i->((rb y).k==5&&(rb y).s.toList==[102,98,121])=false):=by
 unfold Z8 at h;simp only[Bool.and_eq_true,Bool.or_eq_true,Bool.not_eq_true',beq_iff_eq,decide_eq_true_eq] at h;obtain⟨⟨⟨⟨⟨⟨⟨a,b⟩,c⟩,f⟩,g⟩,j⟩,m⟩,n⟩:=h;refine⟨a,b,λe=>c.resolve_left (by omega),λe=>f.resolve_left (by omega),λe=>g.resolve_left (by omega),λe=>j.resolve_left (by omega),λe=>m.resolve_left (by omega),λe=>n.resolve_left (by omega)⟩
theorem abM (f:aai u)(j:Rd u)(m:Z8 y 0=true):aah d (fx d).un u y:=λst R c n b=>by obtain⟨e,rfl⟩:=c.succ;obtain⟨o,p,_⟩:=aaZ m;obtain⟨h,l,i,g,_⟩:=acl j;have a:=b;rw[i] at a;rw[abA,abF (abP a g)];exact adl (f _ st _ c n (λ_=>o) b) p
theorem acD (c:aai u)(f:Rd u)(g:Z8 y 1=true)(a:Z8 y 0=true):aah d (T3 d) u y:=λst R e h b=>aaR (abM c f a st R e h b) ((aaZ g).2.2.1 (an _))
theorem acF (e:aai u)(g:Rd u)(h:Z8 y 2=true)(b:Z8 y 1=true)(a:Z8 y 0=true):aah d (T2 d) u y:=λst R f i c=>aaR (acD e g b a st R f i c) ((aaZ h).2.2.2.1 (an _))
theorem acz (f:aai u)(h:Rd u)(i:Z8 y 3=true)(c:Z8 y 2=true)(b:Z8 y 1=true)(a:Z8 y 0=true):aah d (Te d) u y:=λst R g j e=>adH (acF f h c b a st R g j e) ((aaZ i).2.2.2.2.1 (an _))
theorem acI (g:aai u)(i:Rd u)(j:Z8 y 4=true)(e:Z8 y 3=true)(c:Z8 y 2=true)(b:Z8 y 1=true)(a:Z8 y 0=true):aah d (T1 d) u y:=λst R h m f=>aaR (acz g i e c b a st R h m f) ((aaZ j).2.2.2.2.2.1 (an _))
theorem aes (h:aai u)(j:Rd u)(m:Z8 y 5=true)(f:Z8 y 4=true)(e:Z8 y 3=true)(c:Z8 y 2=true)(b:Z8 y 1=true)(a:Z8 y 0=true):aah d (T0 d) u y:=λst R i n g=>aaR (acI h j f e c b a st R i n g) ((aaZ m).2.2.2.2.2.2.1 (an _))
theorem abv (m:aai u)(n:Rd u)(o:Z8 y 6=true)(i:Z8 y 5=true)(h:Z8 y 4=true)(g:Z8 y 3=true)(f:Z8 y 2=true)(c:Z8 y 1=true)(b:Z8 y 0=true):aah d (fx d).ex u y:=λst R a p j=>by obtain⟨e,rfl⟩:=a.succ;rw[abO];exact adC (aes m n i h g f c b st R a p j) ((aaZ o).2.2.2.2.2.2.2 (an _))
end
section
variable {g f:Fn}
section
variable {st:St} {R l:Xl} {t:Tm} {d:Nat}
theorem aeR (h:Out st (kr::R) t (T0 (d+1) st)):Out st (kr::R) t ((fx (d+1)).ex st):=by rw[abO];exact adC h (by decide +kernel)
theorem aeQ (h:Out st (kr::R) t (T1 (d+1) st)):Out st (kr::R) t ((fx (d+1)).ex st):=aeR (aaR h (by decide +kernel))
theorem aeJ (h:Out st (kr::R) t (Te (d+1) st)):Out st (kr::R) t ((fx (d+1)).ex st):=aeQ (aaR h (by decide +kernel))
theorem aeM (h:Out st (kr::R) t (T2 (d+1) st)):Out st (kr::R) t ((fx (d+1)).ex st):=aeJ (adH h (by decide +kernel))
theorem aeP (h:Out st (kr::R) t (T3 (d+1) st)):Out st (kr::R) t ((fx (d+1)).ex st):=aeM (aaR h (by decide +kernel))
theorem aeT (h:Out st (kr::R) t ((fx (d+1)).un st)):Out st (kr::R) t ((fx (d+1)).ex st):=aeP (aaR h (by decide +kernel))
theorem aeS (a:¬(st.er=0/\(st.is 4 [45]||st.is 5 [110,111,116])=true))(h:Out st (kr::R) t (gR (fx (d+1)).at' st)):Out st (kr::R) t ((fx (d+1)).ex st):=aeT (by rw[abA,abF a];exact h)
theorem aeL (a:¬(st.er=0/\(st.is 4 [45]||st.is 5 [110,111,116])=true))(h:Out st (kr::R) t ((fx (d+1)).at' st)):Out st (kr::R) t ((fx (d+1)).ex st):=aeS a (adl h (by decide +kernel))
theorem DB (a:At st (aa4::l)):aN f g st=fp f st:=by unfold aN;rw[ae (λe=>e a.er),a.2.1.1,a.is,a.is,a.is,a.is,a.is,ae (by decide +kernel),ae (by decide +kernel),ae (by decide +kernel),ae (by decide +kernel),ae (by decide +kernel),ag (by decide +kernel)]
theorem CH (a:At st (aa8::l)):aN f g st=fs g st:=by unfold aN;rw[ae (λe=>e a.er),a.2.1.1,a.is,a.is,a.is,a.is,a.is,ae (by decide +kernel),ae (by decide +kernel),ae (by decide +kernel),ae (by decide +kernel),ae (by decide +kernel),ae (by decide +kernel),ag (by decide +kernel)]
theorem aeg (a:At st (jM::l)):aN f g st=iM f st:=by unfold aN;rw[ae (λe=>e a.er),a.2.1.1,a.is,ae (by decide +kernel),ae (by decide +kernel),ag (by decide +kernel)]
theorem agC {d:Nat}(s:St)(h:s.er≠0):(bF (fx d).at' s).1=s:=by unfold bF;rw[ag (.inl h)];exact (aa9 d h).2.2
variable {u:Tm}
theorem ab4 (a:aai u)(b:Rd u):aah d (fx d).ex u kr:=abv a b (by decide +kernel) (by decide +kernel) (by decide +kernel) (by decide +kernel) (by decide +kernel) (by decide +kernel) (by decide +kernel)
theorem agJ (a:aai u)(b:Rd u):aah d (fx d).ex u aaE:=abv a b (by decide +kernel) (by decide +kernel) (by decide +kernel) (by decide +kernel) (by decide +kernel) (by decide +kernel) (by decide +kernel)
theorem agE (a:aai u)(b:Rd u):aah d (fx d).ex u aau:=abv a b (by decide +kernel) (by decide +kernel) (by decide +kernel) (by decide +kernel) (by decide +kernel) (by decide +kernel) (by decide +kernel)
theorem ags (a:aai u)(b:Rd u):aah d (fx d).ex u p7:=abv a b (by decide +kernel) (by decide +kernel) (by decide +kernel) (by decide +kernel) (by decide +kernel) (by decide +kernel) (by decide +kernel)
theorem adB {s:Xb}(b:Z9 s)(a:At st (s::R))(e:Ar R)(c:eT t=.mk 3 0 s 0 0 []):Out st R t (kc st):=by
 right;unfold kc;refine aaO (us:=[]) (a.ad e) (St.bQ st) (by rw[St.bu];exact List.prefix_rfl) (dW.nil _) ?_
 show eT t=.mk (aF gQ.toList 0) 0 st.t.s 0 (df gQ.toList 0) [];rw[a.2.1.2.1,b.s,c,show aF gQ.toList 0=3 by decide +kernel,show df gQ.toList 0=0 by decide +kernel]
theorem adM (x:aai u)(m:Rd u):acb d (bF (fx d).at') u:=λst R q j c=>by
 obtain⟨e,rfl⟩:=q.succ;unfold jq at c;by_cases p:u.k=4
 . rw[ag p] at c;have b:At st (jM::(ob u++kr::R)):=by simpa using c
   have r:¬st.t.k=2:=(by rw[b.2.1.1];decide +kernel);unfold bF;rw[ag (.inr r),aba,aeg b];have G:Ar (ob u++kr::R):=Ml (aan m) (Ow aar j);exact ac1 b G j (λs h=>(aa9 e h).1) (λo F=>ab4 x m _ _ (q.enter F) (Ow aar j) o)
 rw[ae p] at c;obtain⟨h,l,E,L,C⟩:=acl m;have b:=c;rw[E] at b;unfold bF;by_cases i:u.k=3
 . cases m with
   | mk k a s K n z A H J O I N M =>
     have v:k=3:=i;subst v;have D:ob (.mk 3 a s K n z)=[s]:=(by rw[ob];rfl);rw[D] at c;have y:=J rfl;have w:z=[]:=List.length_eq_zero_iff.1 (by simpa [dJ] using A);rw[ae (by
      have o:=c.er;have B:st.t.k=2:=(by rw[c.2.1.1];exact y.k);rintro (e|e)
      . exact e o
      exact e B)]
     exact adB y c j (by rw[eT,aaK,w,I (by decide)];rfl)
 have r:¬st.t.k=2:=by rw[b.2.1.1];exact C.elim (λe=>absurd e i) (λe=>e.elim (λe=>absurd e p) id)
 rw[ag (.inr r)];exact x _ st R q j (λe=>absurd e i) c
end
theorem acS {l:List Tm}(h:(l.length==1)=true):∃a,l=[a]:=by
 match l,h with
 | [a],_=>exact⟨a,rfl⟩
theorem acd {l:List Tm}(h:(l.length==2)=true):∃a b,l=[a,b]:=by
 match l,h with
 | [a,b],_=>exact⟨a,b,rfl⟩
theorem ae8 {l:List Tm}(h:(l.length==3)=true):∃a b c,l=[a,b,c]:=by
 match l,h with
 | [a,b,c],_=>exact⟨a,b,c,rfl⟩
end
section
section
variable {k a c:Nat} {s:Xb} {x y:Tm} {R:Xl} {b:Xn}
theorem abo (f:s=sE)(d:aF (rb (wd k)).s.toList 0=k)(e:df (rb (wd k)).s.toList 0=0):eT (.mk k a s c 0 [x,y])=.mk (aF (rb (wd k)).s.toList 0) 0 sE 0 (df (rb (wd k)).s.toList 0) [eT x,eT y]:=by rw[d,e,eT,eL,eL,eL,f]
theorem ad4 (h:k=9∨12<=k):iy k s b (hH [x,y])++kr::R=ob x++wd k::(ob y++kr::R):=by unfold iy;rw[ae (by omega),ae (by omega),ae (by omega),ae (by omega)];simp[hH]
theorem agP (h:k=10∨k=11):iy k s b (hH [x])++kr::R=wd k::(ob x++kr::R):=by unfold iy;rw[ae (by omega),ae (by omega),ae (by omega),ag h];simp[hH]
theorem agc (h:k=7∨k=8):iy k s b (hH [x])++kr::R=ob x++wd k::s::kr::R:=by unfold iy;rw[ae (by omega),ae (by omega),ag h];simp[hH]
end
section
variable {b:St} {R:Xl} {d:Nat} {k a f:Nat} {s:Xb} {x y:Tm}
theorem abu {u:Tm}(c:Rd u)(e:Ar R):Ar (ob u++kr::R):=Ml (aan c) (Ow aar e)
theorem afY (m:Rd x)(g:Rd y)(h:aai x)(i:aai y)(l:s=sE)(q:12<=k)(o:k<24)(p:Ar R)(c:Dp (d+1) b)(j:At b (ob x++wd k::(ob y++kr::R))):Out b (kr::R) (.mk k a s f 0 [x,y]) ((fx (d+1)).ex b):=by
 have zr:=Ow aar p;have zy:=abu g p;have zw:Ar (wd k::(ob y++kr::R)):=Ow (aaY o (by omega)) zy;rcases (by omega:k=12∨(k=13∨k=14)∨(k=15∨k=16∨k=17∨k=18)∨(k=19∨k=20)∨k=21∨k=22∨k=23) with e|e|e|e|e
 . subst e;exact aeQ (abW (n:=1) (acz h m (by decide +kernel) (by decide +kernel) (by decide +kernel) (by decide +kernel) b _ c zw j) (acz i g (by decide +kernel) (by decide +kernel) (by decide +kernel) (by decide +kernel)) zy c (by decide +kernel) (by decide +kernel) (abo l (by decide +kernel) (by decide +kernel)))
 . rcases e with e|e <;> subst e <;>
   exact aeR (abW (n:=0) (acI h m (by decide +kernel) (by decide +kernel) (by decide +kernel) (by decide +kernel) (by decide +kernel) b _ c zw j) (acI i g (by decide +kernel) (by decide +kernel) (by decide +kernel) (by decide +kernel) (by decide +kernel)) zy c (by decide +kernel) (by decide +kernel) (abo l (by decide +kernel) (by decide +kernel)))
 . rcases e with e|e|e|e <;> subst e <;>
   exact aeJ (agM (acF h m (by decide +kernel) (by decide +kernel) (by decide +kernel) b _ c zw j) (acF i g (by decide +kernel) (by decide +kernel) (by decide +kernel)) zy c (by decide +kernel) (abo l (by decide +kernel) (by decide +kernel)))
 . rcases e with e|e <;> subst e <;>
   exact aeM (abW (n:=2) (acD h m (by decide +kernel) (by decide +kernel) b _ c zw j) (acD i g (by decide +kernel) (by decide +kernel)) zy c (by decide +kernel) (by decide +kernel) (abo l (by decide +kernel) (by decide +kernel)))
 rcases e with e|e|e <;> subst e <;>
 exact aeP (abW (n:=3) (abM h m (by decide +kernel) b _ c zw j) (abM i g (by decide +kernel)) zy c (by decide +kernel) (by decide +kernel) (abo l (by decide +kernel) (by decide +kernel)))
theorem afx {n:Nat}{m:List Tm}(F:Rd (.mk k a s f n m))(o:∀u∈m,aai u)(L:5<=k)(w:Ar R)(t:Dp (d+1) b)(j:At b (iy k s (m.map Tm.k) (hH m)++kr::R)):Out b (kr::R) (.mk k a s f n m) ((fx (d+1)).ex b):=by
 cases F with
 | mk _ _ _ _ _ _ q J D z K M p =>
   have A:=ab7 q;have I:n=0:=K (by omega);subst I;have zr:=Ow aar w;have C:∀s:St,s.er≠0->((fx d).ex s).1=s:=λs h=>(aa9 d h).1;rcases (by omega:k=5∨k=6∨(k=7∨k=8)∨k=9∨(k=10∨k=11)∨12<=k) with e|e|e|e|e|e
   . subst e;obtain⟨c,x,y,rfl⟩:=ae8 (show (m.length==3)=true from q);have B:=p c (by simp);have g:=p x (by simp);have r:=p y (by simp);have i:At b (aa4::(ob c++aaE::(ob x++aau::(ob y++kr::R)))):=(by have e:iy 5 s ([c,x,y].map Tm.k) (hH [c,x,y])++kr::R=aa4::(ob c++aaE::(ob x++aau::(ob y++kr::R))):=(by simp[iy,hH,aa4,aaE,aau]);rw[e] at j;exact j);refine aeL (abP i (by decide +kernel)) ?_;rw[aba,DB i];exact afB i (agJ (o c (by simp)) B) (agE (o x (by simp)) g) (ab4 (o y (by simp)) r) C (Ml (aan B) (Ow aeb (Ml (aan g) (Ow ads (abu r w))))) t (by rw[eT,eL,eL,eL,eL,z rfl])
   . subst e;obtain⟨x,y,rfl⟩:=acd (show (m.length==2)=true from q);have g:=p x (by simp);have r:=p y (by simp);have i:At b (aa8::s::(jq x.k (ob x)++(jq y.k (ob y)++kr::R))):=(by have e:iy 6 s ([x,y].map Tm.k) (hH [x,y])++kr::R=aa8::s::(jq x.k (ob x)++(jq y.k (ob y)++kr::R)):=(by simp[iy,hH,aa8]);rw[e] at j;exact j);refine aeL (abP i (by decide +kernel)) ?_;rw[aba,CH i];exact afG i (D rfl) (adM (o x (by simp)) g) (adM (o y (by simp)) r) agC (Ml (abL (aan g)) (Ml (abL (aan r)) zr)) t (by rw[eT,eL,eL,eL])
   . obtain⟨x,rfl⟩:∃x,m=[x]:=by rcases e with e|e <;> subst e <;> exact acS (show (m.length==1)=true from q)
     have g:=p x (by simp);rw[agc e] at j;obtain⟨h,l,H,G,_⟩:=acl g;have i:=j;rw[H] at i;refine aeS (abP i G) ?_;have v:Z9 s:=D (by rcases e with e|e <;> subst e <;> rfl);have zw:Ar (wd k::s::kr::R):=Ow (aaY A (by omega)) (Ow v.ok zr);rcases e with e|e <;> subst e
     . exact adL (o x (by simp) _ b _ t zw (λ_=>by show _=false;decide +kernel) j) v zr (by decide +kernel) (by rw[eT,eL,eL,show aF (rb (wd 7)).s.toList 0=7 by decide +kernel])
     exact adL (o x (by simp) _ b _ t zw (λ_=>by show _=false;decide +kernel) j) v zr (by decide +kernel) (by rw[eT,eL,eL,show aF (rb (wd 8)).s.toList 0=8 by decide +kernel])
   . subst e;obtain⟨x,y,rfl⟩:=acd (show (m.length==2)=true from q);have g:=p x (by simp);have r:=p y (by simp);rw[ad4 (.inl rfl)] at j;have zw:Ar (wd 9::(ob y++kr::R)):=Ow (aaY A (by omega)) (abu r w);rw[abO];exact agz (aes (o x (by simp)) g (by decide +kernel) (by decide +kernel) (by decide +kernel) (by decide +kernel) (by decide +kernel) (by decide +kernel) b _ t zw j) (ab4 (o y (by simp)) r) C (abu r w) t (by decide +kernel) (by rw[eT,eL,eL,eL,z rfl])
   . obtain⟨x,rfl⟩:∃x,m=[x]:=by rcases e with e|e <;> subst e <;> exact acS (show (m.length==1)=true from q)
     have g:=p x (by simp);rw[agP e] at j;refine aeT ?_;rw[abA];have v:s=sE:=z (by rcases e with e|e <;> subst e <;> rfl);refine aft j (abM (o x (by simp)) g (by decide +kernel)) (λs h=>(aa9 d h).2.1) (abu g w) t ?_;rcases e with e|e <;> subst e
     . exact .inl ⟨by decide +kernel,by decide +kernel,by rw[eT,eL,eL,v]⟩
     exact .inr ⟨by decide +kernel,by decide +kernel,by rw[eT,eL,eL,v]⟩
   have E:(m.length==2)=true:=(by unfold dJ at q;rw[ae (by omega),ae (by omega),ae (by omega),ae (by omega),ae (by omega),ae (by omega),ae (by omega),ag (by omega)] at q;exact q);obtain⟨x,y,rfl⟩:=acd E;rw[ad4 (.inr e)] at j;have v:s=sE:=z (by
    unfold aaP;simp only[Bool.or_eq_false_iff,bf];omega)
   exact afY (p x (by simp)) (p y (by simp)) (o x (by simp)) (o y (by simp)) v e A w t j
end
end
section
variable {c:List Tm} {g:St} {t u:Tm}
structure acL (g:St) (R:Xl) (c:List Tm) (x:St×List Nat):Prop where
 at':At x.1 R
 op:x.1.op=g.op
 L:g.L <+: x.1.L
 tr:∃vs,dW x.1.L x.2 vs/\vs.map eT=c.map eT
theorem abJ {a:Fn}{f:Nat}{x:St×List Nat}(h:x.1.er≠0∨x.1.is 4 [44]=false):cY a f x=x:=by
 cases f with
 | zero=>rfl
 | succ f => show (if _ then _ else x)=_;rw[ae (λe=>by rcases h with h|h;exact h e.1;rw[h] at e;cases e.2)]
section
variable {R:Xl} {d:Nat}
theorem adn (f:aai u)(i:Rd u)(a:∀v∈c,Rd v)(k:Ar R)(g:St)(h:Dp d g)(b:At g (ob u++(eA true (hH c)++kr::R))):Out g (eA true (hH c)++kr::R) u ((fx d).ex g):=by
 cases c with
 | nil=>exact ab4 f i g R h (Ow aar k) b
 | cons v c => have e:eA true (hH (v::c))++kr::R=p7::(ob v++(eA true (hH c)++kr::R)):=(by simp[hH,eA]);rw[e] at b ⊢;refine ags f i g _ h (Ow ab3 (Ml (aan (a v (Mx ..))) (Ml (aa5 _ _ ?_) (Ow aar k)))) b;intro x j;rw[aa2] at j;obtain⟨w,l,rfl⟩:=List.mem_map.1 j;exact aan (a w (cS _ l))
theorem abE (a:∀v∈c,Rd v)(b:Bool)(h:Ar R):Ar (eA b (hH c)++kr::R):=by refine Ml (aa5 _ _ ?_) (Ow aar h);intro x e;rw[aa2] at e;obtain⟨w,f,rfl⟩:=List.mem_map.1 e;exact aan (a w f)
theorem adO (o:Ar R)(q:Dp d g):∀(c a:List Tm) (f:Nat) (x:St×List Nat),c.length<f->(∀u∈c,aai u)->(∀u∈c,Rd u)->acL g (eA true (hH c)++kr::R) a x ->
 (cY (fx d).ex f x).1.er=3∨acL g (kr::R) (a++c) (cY (fx d).ex f x)
 | [],a,f,x,_,_,_,h=>by have i:At x.1 (kr::R):=h.at';rw[abJ (.inr (by rw[i.is];decide +kernel)),List.append_nil];exact .inr h
 | u::c,a,0,x,l,_,_,_=>by cases l
 | u::c,a,f+1,x,l,p,m,h=>by
   have e:eA true (hH (u::c))++kr::R=p7::(ob u++(eA true (hH c)++kr::R)):=(by simp[hH,eA]);have i:=h.at';rw[e] at i;have b:∀v∈c,Rd v:=λv n=>m v (cS _ n);have r:=i.ad (Ml (aan (m u (Mx ..))) (abE b true o));have k:Dp d x.1.ad:=(by unfold Dp;rw[St.bQ,h.op];exact q);have h2:=adn (p u (Mx ..)) (m u (Mx ..)) b o x.1.ad k r
   show (if _ then cY (fx d).ex f ((((fx d).ex x.1.ad).1,x.2++[((fx d).ex x.1.ad).2])) else x).1.er=3∨acL g (kr::R) (a++u::c) (if _ then cY (fx d).ex f ((((fx d).ex x.1.ad).1,x.2++[((fx d).ex x.1.ad).2])) else x);rw[ag ⟨i.er,by rw[i.is];decide +kernel⟩];rcases h2 with h2|h2
   . left;rw[abJ (.inl (by show ((fx d).ex x.1.ad).1.er≠0;rw[h2];decide))];exact h2
   have:=adO o q c (a++[u]) f (((fx d).ex x.1.ad).1,x.2++[((fx d).ex x.1.ad).2]) (by simp at l;omega) (λv n=>p v (cS _ n)) b ?_
   . rw[bw] at this;exact this
   obtain⟨B,s,w⟩:=h.tr;obtain⟨A,y,z⟩:=h2.tr;have j:=h2.L;rw[St.bu] at j;exact⟨h2.at',by show ((fx d).ex x.1.ad).1.op=_;rw[h2.op,St.bQ,h.op],h.L.trans j,⟨B++[A],(s.more j).snoc y,by rw[List.map_append,List.map_append,w];simp[z]⟩⟩
theorem adP {tk:Tk}(m:At g (jM::(ob u++(eA true (hH c)++kr::R))))(b:Ar R)(p:Dp (d+1) g)(o:∀v∈u::c,aai v)(i:∀v∈u::c,Rd v)(D:c.length<=1200)(w:eT t=.mk 4 0 tk.s 0 0 ((u::c).map eT)):Out g R t (Fs (fx d).ex tk g):=by
 have a:∀v∈c,Rd v:=λv j=>i v (cS _ j);unfold Fs;rw[ag (by rw[m.is];decide +kernel)];simp only;have l:(rb kr).k=4/\(rb kr).s.toList=[41]:=by decide +kernel
 have x:∀s:St,s.er≠0->((fx d).ex s).1=s:=λs h=>(aa9 d h).1;unfold cL;obtain⟨f,r⟩:∃f,f=1300:=⟨_,rfl⟩;rw[<- r];rcases m.enter (Ml (aan (i u (Mx ..))) (abE a true b)) with e|⟨e,q⟩
 . left;have h2:=aaD x e;rw[abJ (.inl (by show ((fx d).ex g.enter).1.er≠0;rw[h2];decide))];exact aas h2
 rcases adn (o u (Mx ..)) (i u (Mx ..)) a b g.enter (p.enter q) e with h2|h2
 . left;rw[abJ (.inl (by show ((fx d).ex g.enter).1.er≠0;rw[h2];decide))];exact aas h2
 obtain⟨C,y,z⟩:=h2.tr;have h3:=adO b (p.enter q) c [u] f (((fx d).ex g.enter).1,[((fx d).ex g.enter).2]) (by omega) (λv j=>o v (cS _ j)) a ⟨h2.at',h2.op,h2.L,⟨[C],ab9 y,by simp[z]⟩⟩;generalize cY (fx d).ex f (((fx d).ex g.enter).1,[((fx d).ex g.enter).2])=X at *;rcases h3 with h3|h3
 . exact .inl (aas h3)
 right;obtain⟨k,A,B⟩:=h3.tr;have n:=h3.L;rw[St.dA] at n;refine aaO (us:=k) (h3.at'.ac b l.1 l.2).aI ?_ ?_ ?_ ?_
 . rw[St.iw,St.a8,h3.op,St.bN];rfl
 . show _ <+: (X.1.ac 4 [41]).L;rw[St.bi];exact n
 . show dW (X.1.ac 4 [41]).L X.2 k;rw[St.bi];exact A
 show eT t=.mk (aF fL.toList 0) 0 tk.s 0 (df fL.toList 0) (k.map eT);rw[w,B,show aF fL.toList 0=4 by decide +kernel,show df fL.toList 0=0 by decide +kernel];rfl
end
theorem ack {y:Xb}{R:Xl}(b:At g (y::R))(e:Ar R){a:Xb}{n:Nat}(d:eT t=.mk (aF a.toList n) 0 sE 0 (df a.toList n) []):Out g R t (fK a n g):=by right;unfold fK;exact aaO (us:=[]) (b.ad e) (St.bQ g) (by rw[St.bu];exact List.prefix_rfl) (dW.nil _) d
theorem adS (h:Rd t):aai t:=by
 induction h with
 | mk k a s G n o w A B H M N y J =>
   intro d g R C m D b;obtain⟨d,rfl⟩:=C.succ;have S:=ab7 w;have Q:Rd (.mk k a s G n o):=.mk k a s G n o w A B H M N y;rw[ob] at b;unfold lM at b;rw[aba];by_cases F:k=0
   . subst F;rw[ag rfl] at b;have i:o=[]:=List.length_eq_zero_iff.1 (by simpa [dJ] using w);obtain⟨_,O,P⟩:=abX N;unfold aN;rw[ae (λe=>e b.er),ag (by rw[b.2.1.1];exact O)];refine ack b m ?_;rw[b.2.1.2.2,P,eT,i,eL,H rfl];unfold aF df;rw[ag (by decide +kernel),ag (by decide +kernel)]
   rw[ae F] at b;have U:n=0:=M F;subst U;by_cases l:k=1∨k=2
   . rw[ag l] at b;have i:o=[]:=List.length_eq_zero_iff.1 (by rcases l with e|e <;> subst e <;> simpa [dJ] using w);have q:s=sE:=H (by rcases l with e|e <;> subst e <;> rfl);unfold aN;rcases l with e|e <;> subst e
     . rw[ae (λe=>e b.er),b.2.1.1,b.is,b.is,ae (by decide +kernel),ae (by decide +kernel),ae (by decide +kernel),ag (by decide +kernel)];refine ack b m ?_;rw[eT,i,eL,q,show aF MV.toList 1=1 by decide +kernel,show df MV.toList 1=0 by decide +kernel]
     rw[ae (λe=>e b.er),b.2.1.1,b.is,b.is,b.is,ae (by decide +kernel),ae (by decide +kernel),ae (by decide +kernel),ae (by decide +kernel),ag (by decide +kernel)];refine ack b m ?_;rw[eT,i,eL,q,show aF MV.toList 0=2 by decide +kernel,show df MV.toList 0=0 by decide +kernel]
   rw[ae l] at b;by_cases K:k=3
   . subst K;rw[ag rfl] at b;have q:=B rfl;have i:o=[]:=List.length_eq_zero_iff.1 (by simpa [dJ] using w);have f:At g (s::R):=b;have r:=f.ad m;have h2:g.ad.is 4 [40]=false:=by
      have:=D rfl;cases R with
      | nil=>unfold St.is;rw[r.2];rfl
      | cons z R=>rw[r.is];exact this
     have j:g.t.k=2:=(by rw[f.2.1.1];exact q.k);unfold aN;rw[ae (λe=>e f.er),ae (by rw[j];decide),ag j,ae (by rw[h2];decide)];exact adB q f m (by rw[eT,i,eL])
   rw[ae K] at b;by_cases L:k=4
   . subst L;rw[ag rfl] at b;have q:=B rfl;obtain⟨u,c,rfl⟩:∃u c,o=u::c:=by
      cases o with
      | nil=>simp[dJ] at w
      | cons u c=>exact⟨u,c,rfl⟩
     have f:At g (s::jM::(ob u++(eA true (hH c)++kr::R))):=(by have e:[s]++gS (hH (u::c))++R=s::jM::(ob u++(eA true (hH c)++kr::R)):=(by simp[gS,hH,eA]);rw[e] at b;exact b);have E:∀v∈c,Rd v:=λv X=>y v (cS _ X);have r:=f.ad (Ow abw (Ml (aan (y u (Mx ..))) (abE E true m)));have j:g.t.k=2:=(by rw[f.2.1.1];exact q.k);have p:Dp (d+1) g.ad:=(by unfold Dp;rw[St.bQ];exact C);unfold aN;rw[ae (λe=>e f.er),ae (by rw[j];decide),ag j,ag (by rw[r.is];decide +kernel)];have h2:=adP (tk:=g.t) (t:=.mk 4 a s G 0 (u::c)) r m p J y (by simp at A;omega) (by rw[eT,aaK,f.2.1.2.1,q.s]);rcases h2 with h2|h2
     . exact .inl h2
     refine .inr ⟨h2.at',by rw[h2.op,St.bQ],?_,h2.tr⟩;have:=h2.L;rw[St.bu] at this;exact this
   rw[ae L] at b;have f:At g (jM::(iy k s (o.map Tm.k) (hH o)++kr::R)):=(by simpa using b);rw[aeg f];have T:∀x∈hH o,Ar x:=λx I=>by rw[aa2] at I;obtain⟨u,W,rfl⟩:=List.mem_map.1 I;exact aan (y u W)
   refine ac1 f (Ml (adZ S (by omega) B T) (Ow aar m)) m (λs h=>(aa9 d h).1) (λr V=>?_);have p:=C.enter V;obtain⟨e,rfl⟩:=p.succ;exact afx Q J (by omega) m p r
end
section
def eV (v:Vr):Vr:=⟨v.nm,0,v.bl,v.bn,v.out,0,v.ck,0,v.nt,v.tm⟩
structure aac (v:Vr):Prop where
 nm:Z9 v.nm
 ck:v.tm=true->Z9 v.ck/\v.bn=false/\v.out=false
 no:v.tm=false->v.ck=sE/\v.nt=false
section
variable {a:St} {R:Xl} {ak:List Vr} {v:Vr} {b:Bool}
theorem af3 (c:At a ((if b=true then (⟨#[98,111,111,108]⟩:Xb) else ⟨#[105,110,116]⟩)::R))(d:Ar R):At (z9 a) R/\a.is 5 cD=b:=by
 cases b with
 | true => rw[ag rfl] at c;have h:a.is 5 cD=true:=(by rw[c.is];decide +kernel);unfold z9;rw[ag h];exact⟨c.ad d,h⟩
 | false => rw[ae (by decide)] at c;have h:a.is 5 cD=false:=(by rw[c.is];decide +kernel);unfold z9;rw[ae (by rw[h];decide)];exact⟨c.ac d (by decide +kernel) (by decide +kernel),h⟩
theorem aey:Rl (if b=true then (⟨#[98,111,111,108]⟩:Xb) else ⟨#[105,110,116]⟩):=by
 cases b
 . exact (aad (k:=5) (by decide +kernel)).1
 exact (aad (k:=5) (by decide +kernel)).1
theorem adE:Rl ⟨#[58]⟩:=(aad (k:=4) (by decide +kernel)).1
theorem abY:Rl ⟨#[59]⟩:=(aad (k:=4) (by decide +kernel)).1
theorem abr (c:aac v):Ar (eB v):=Ow c.nm.ok (Ow adE (aaa aey))
structure acH (a:St) (R:Xl) (ak:List Vr) (v:Vr) (x:St×List Vr):Prop where
 at':At x.1 R
 op:x.1.op=a.op
 L:x.1.L=a.L
 vs:∃v',x.2=ak++[v']/\eV v'=eV v
theorem abR (d:aac v)(l:At a (eB v++R))(e:Ar R):a.t.s=v.nm/\At (z9 (a.name.ac 4 [58])) R/\(a.name.ac 4 [58]).is 5 cD=v.bl:=by have c:At a (v.nm::⟨#[58]⟩::(if v.bl=true then (⟨#[98,111,111,108]⟩:Xb) else ⟨#[105,110,116]⟩)::R):=l;have f:Ar ((if v.bl=true then (⟨#[98,111,111,108]⟩:Xb) else ⟨#[105,110,116]⟩)::R):=Ow aey e;have g:=c.name (Ow adE f) d.nm.k;have h:=g.ac (k:=4) (b:=[58]) f (by decide +kernel) (by decide +kernel);obtain⟨i,j⟩:=af3 h e;exact⟨by rw[c.2.1.2.1,d.nm.s],i,j⟩
theorem adw {i o:Bool}(e:aac v)(d:v.tm=false)(m:v.bn=i)(p:v.out=o)(c:(!i&&!o)=false)(l:At a (eB v++R))(q:Ar R)(n:¬16<=ak.length):acH a R ak v (zx i o a ak):=by obtain⟨h,j,k⟩:=abR e l q;unfold zx;rw[ae n];simp only;rw[ae (by rw[Bool.and_assoc,c,Bool.and_false];decide)];refine⟨j,by rw[JB,St.a8,St.dB],by rw[X3,St.bi,St.c8],⟨_,rfl,?_⟩⟩;obtain⟨f,g⟩:=e.no d;unfold eV;simp only[h,k,m,p,d,f,g]
theorem adv (p:aac v)(y:v.bn=false)(B:v.out=false)(j:At a (fZ v++R))(r:Ar R)(z:¬16<=ak.length):acH a R ak v (MN a ak):=by
 have s:Ar (⟨#[59]⟩::R):=Ow abY r;have f:Rl ⟨#[111,110]⟩:=(aad (k:=5) (by decide +kernel)).1;have g:Rl ⟨#[110,111,116]⟩:=(aad (k:=5) (by decide +kernel)).1;have F:fZ v++R=eB v++(tj v++⟨#[59]⟩::R):=by unfold fZ;simp
 rw[F] at j;unfold MN;simp only;cases i:v.tm with
 | false => have d:tj v=[]:=(by unfold tj ba;rw[i];simp);rw[d] at j;obtain⟨n,h,o⟩:=abR p j s;obtain⟨D,E⟩:=p.no i;have A:(z9 (a.name.ac 4 [58])).is 5 cF=false:=(by have t:At (z9 (a.name.ac 4 [58])) (⟨#[59]⟩::R):=h;rw[t.is];decide +kernel);unfold zx;rw[ae z];simp only;rw[A,ae (by decide)];refine⟨At.ac (x:=⟨#[59]⟩) h r (by decide +kernel) (by decide +kernel),by rw[St.a8,JB,St.a8,St.dB],by rw[St.bi,X3,St.bi,St.c8],⟨_,rfl,?_⟩⟩;unfold eV;simp only[n,o,y,B,i,D,E]
 | true =>
   obtain⟨m,_,_⟩:=p.ck i;have zc:Ar (v.ck::⟨#[59]⟩::R):=Ow m.ok s;cases q:v.nt with
   | false => have d:tj v=[⟨#[111,110]⟩,v.ck]:=(by unfold tj ba;rw[i,q];simp);rw[d] at j;obtain⟨n,h,o⟩:=abR (R:=⟨#[111,110]⟩::v.ck::⟨#[59]⟩::R) p j (Ow f zc);have e:(z9 (a.name.ac 4 [58])).is 5 cF=true:=(by rw[h.is];decide +kernel);have l:=h.ad zc;have c:(z9 (a.name.ac 4 [58])).ad.is 5 aav=false:=(by rw[l.is,m.k];rfl);have u:aS (z9 (a.name.ac 4 [58])).ad=(z9 (a.name.ac 4 [58])).ad:=(by unfold aS;rw[ae (by rw[c];decide)]);have w:=l.name s m.k;unfold zx;rw[ae z];simp only;rw[e,ag (by decide),u];refine⟨w.ac (k:=4) (b:=[59]) r (by decide +kernel) (by decide +kernel),by rw[St.a8,St.dB,St.bQ,JB,St.a8,St.dB],by rw[St.bi,St.c8,St.bu,X3,St.bi,St.c8],⟨_,rfl,?_⟩⟩;unfold eV;simp only[n,o,y,B,i,q,c,l.2.1.2.1,m.s]
   | true => have d:tj v=[⟨#[111,110]⟩,⟨#[110,111,116]⟩,v.ck]:=(by unfold tj ba;rw[i,q];simp);rw[d] at j;have zn:Ar (⟨#[110,111,116]⟩::v.ck::⟨#[59]⟩::R):=Ow g zc;obtain⟨n,h,o⟩:=abR (R:=⟨#[111,110]⟩::⟨#[110,111,116]⟩::v.ck::⟨#[59]⟩::R) p j (Ow f zn);have e:(z9 (a.name.ac 4 [58])).is 5 cF=true:=(by rw[h.is];decide +kernel);have l:=h.ad zn;have c:(z9 (a.name.ac 4 [58])).ad.is 5 aav=true:=(by rw[l.is];decide +kernel);have u:aS (z9 (a.name.ac 4 [58])).ad=(z9 (a.name.ac 4 [58])).ad.ad:=(by unfold aS;rw[ag c]);have C:=l.ad zc;have w:=C.name s m.k;unfold zx;rw[ae z];simp only;rw[e,ag (by decide),u];refine⟨w.ac (k:=4) (b:=[59]) r (by decide +kernel) (by decide +kernel),by rw[St.a8,St.dB,St.bQ,St.bQ,JB,St.a8,St.dB],by rw[St.bi,St.c8,St.bu,St.bu,X3,St.bi,St.c8],⟨_,rfl,?_⟩⟩;unfold eV;simp only[n,o,y,B,i,q,c,C.2.1.2.1,m.s]
end
end
section
variable {i:Bool} {us a:List Vr} {f:Nat} {x:St×List Vr} {v:Vr}
structure aao (st:St) (R:Xl) (ak vs:List Vr) (x:St×List Vr):Prop where
 at':At x.1 R
 op:x.1.op=st.op
 L:x.1.L=st.L
 vs:∃vs',x.2=ak++vs'/\vs'.map eV=vs.map eV
theorem aao.len {e:St}{R:Xl}{b:List Vr}(h:aao e R b a x):x.2.length=b.length+a.length:=by obtain⟨g,c,d⟩:=h.vs;have:=congrArg List.length d;rw[List.length_map,List.length_map] at this;rw[c,aP,this]
theorem aao.snoc {j d:St}{R g:Xl}{b:List Vr}{y:St×List Vr}(h:aao j R b a x)(p:d.op=x.1.op)(o:d.L=x.1.L)(c:acH d g x.2 v y):aao j g b (a++[v]) y:=by obtain⟨e,k,l⟩:=h.vs;obtain⟨q,m,n⟩:=c.vs;refine⟨c.at',by rw[c.op,p,h.op],by rw[c.L,o,h.L],⟨e++[q],by rw[m,k,bw],by rw[List.map_append,List.map_append,l];simp[n]⟩⟩
section
variable {R:Xl} {c:St} {ak:List Vr}
theorem ad0 (h:∀v∈us,aac v)(b:Bool)(g:Ar R):Ar (eA b (us.map eB)++kr::R):=by refine Ml (aa5 _ _ ?_) (Ow aar g);intro x e;obtain⟨w,d,rfl⟩:=List.mem_map.1 e;exact abr (h w d)
theorem afp (h:x.1.is 4 [44]=false):MG i f x=x:=by
 cases f with
 | zero=>rfl
 | succ f => show (if _ then _ else x)=_;rw[ae (λe=>by rw[h] at e;cases e.2)]
theorem acY (o:Ar R):∀(us b:List Vr) (f:Nat) (x:St×List Vr),us.length<f->(∀v∈us,aac v/\v.tm=false/\v.bn=i/\v.out=!i)->ak.length+b.length+us.length<=16->aao c (eA true (us.map eB)++kr::R) ak b x->aao c (kr::R) ak (b++us) (MG i f x)
 | [],b,f,x,_,_,_,h=>by have d:At x.1 (kr::R):=h.at';rw[afp (by rw[d.is];decide +kernel),List.append_nil];exact h
 | u::us,b,0,x,g,_,_,_=>by cases g
 | u::us,b,f+1,x,g,k,n,h=>by
   have e:eA true ((u::us).map eB)++kr::R=p7::(eB u++(eA true (us.map eB)++kr::R)):=(by simp[eA]);have d:=h.at';rw[e] at d;obtain⟨p,s,t,w⟩:=k u (Mx ..);have l:∀v∈us,aac v:=λv m=>(k v (cS _ m)).1;have zq:=ad0 l true o;have q:=d.ad (Ml (abr p) zq);have j:¬16<=x.2.length:=(by rw[h.len];simp at n;omega);have r:=adw (ak:=x.2) p s t w (by cases i <;> rfl) q zq j
   show aao c (kr::R) ak (b++u::us) (if _ then MG i f (zx i (!i) x.1.ad x.2) else x);rw[ag ⟨d.er,by rw[d.is];decide +kernel⟩];have:=acY o us (b++[u]) f _ (by simp at g;omega) (λv m=>k v (cS _ m)) (by simp at n ⊢;omega) (h.snoc (St.bQ _) (St.bu _) r);rw[bw] at this;exact this
theorem ade {u:Vr}(m:Ar R)(h:∀v∈u::us,aac v/\v.tm=false/\v.bn=i/\v.out=!i)(B:ak.length+(us.length+1)<=16)(n:At c (gS ((u::us).map eB)++R)):aao c R ak (u::us) (bW i c ak):=by
 have e:gS ((u::us).map eB)++R=jM::(eB u++(eA true (us.map eB)++kr::R)):=by simp[gS,eA]
 rw[e] at n;obtain⟨o,w,y,z⟩:=h u (Mx ..);have j:∀v∈us,aac v:=λv l=>(h v (cS _ l)).1;have zq:=ad0 j true m;have q:=n.ac (k:=4) (b:=[40]) (Ml (abr o) zq) (by decide +kernel) (by decide +kernel);have d:=adw (ak:=ak) o w y z (by cases i <;> rfl) q zq (by omega);unfold bW;obtain⟨f,t⟩:∃f,f=1300:=⟨_,rfl⟩;rw[<- t];simp only;have p:aao c (eA true (us.map eB)++kr::R) ak [u] (zx i (!i) (c.ac 4 [40]) ak):=by obtain⟨A,r,s⟩:=d.vs;exact⟨d.at',by rw[d.op,St.a8],by rw[d.L,St.bi],⟨[A],r,by simp[s]⟩⟩
 have g:=acY m us [u] f _ (by omega) (λv l=>h v (cS _ l)) (by simp;omega) p;generalize MG i f (zx i (!i) (c.ac 4 [40]) ak)=X at *;exact⟨g.at'.ac m (by decide +kernel) (by decide +kernel),by rw[St.a8,g.op],by rw[St.bi,g.L],g.vs⟩
def aae:ByteArray:=⟨#[123]⟩
theorem ab5:Rl aae:=(aad (k:=4) (by decide +kernel)).1
theorem adt (h:aac v):Ar (fZ v):=by
 unfold fZ tj;refine Ml (abr h) (Ml ?_ (aaa abY));cases b:v.tm with
 | false=>rw[ae (by unfold ba;rw[b];simp),ae (by unfold ba;rw[b];simp)];exact aat
 | true =>
   have d:=(h.ck b).1;split
   . exact Ow (aad (k:=5) (by decide +kernel)).1 (aaa d.ok)
   split
   . exact Ow (aad (k:=5) (by decide +kernel)).1 (Ow (aad (k:=5) (by decide +kernel)).1 (aaa d.ok))
   exact aat
theorem abH (h:∀v∈us,aac v):Ar (us.flatMap fZ):=λx b=>by obtain⟨v,d,b⟩:=ed.1 b;exact adt (h v d) x b
theorem afs (h:¬x.1.t.k=2):en f x=x:=by
 cases f with
 | zero=>rfl
 | succ f => show (if _ then _ else x)=_;rw[ae (λe=>h e.2)]
theorem adb (p:Ar R):∀(us b:List Vr) (f:Nat) (x:St×List Vr),us.length<f->(∀v∈us,aac v/\v.bn=false/\v.out=false)->ak.length+b.length+us.length<=16->aao c (us.flatMap fZ++aae::R) ak b x->aao c (aae::R) ak (b++us) (en f x)
 | [],b,f,x,_,_,_,h=>by have d:At x.1 (aae::R):=h.at';rw[afs (by rw[d.2.1.1];decide +kernel),List.append_nil];exact h
 | u::us,b,0,x,j,_,_,_=>by cases j
 | u::us,b,f+1,x,j,l,o,h=>by
   have e:(u::us).flatMap fZ++aae::R=fZ u++(us.flatMap fZ++aae::R):=(by simp);have d:=h.at';rw[e] at d;obtain⟨q,w,y⟩:=l u (Mx ..);have m:∀v∈us,aac v:=λv n=>(l v (cS _ n)).1;have zq:Ar (us.flatMap fZ++aae::R):=Ml (abH m) (Ow ab5 p);have k:¬16<=x.2.length:=(by rw[h.len];simp at o;omega);have s:=adv (ak:=x.2) q w y d zq k;have t:x.1.t.k=2:=by have g:At x.1 (u.nm::(⟨#[58]⟩::(if u.bl=true then (⟨#[98,111,111,108]⟩:Xb) else ⟨#[105,110,116]⟩)::(tj u++[⟨#[59]⟩]++(us.flatMap fZ++aae::R)))):=(by have r:fZ u++(us.flatMap fZ++aae::R)=u.nm::(⟨#[58]⟩::(if u.bl=true then (⟨#[98,111,111,108]⟩:Xb) else ⟨#[105,110,116]⟩)::(tj u++[⟨#[59]⟩]++(us.flatMap fZ++aae::R))):=(by unfold fZ eB;simp);rw[r] at d;exact d);rw[g.2.1.1];exact q.nm.k
   show aao c (aae::R) ak (b++u::us) (if _ then en f (MN x.1 x.2) else x);rw[ag ⟨d.er,t⟩];have:=adb p us (b++[u]) f _ (by simp at j;omega) (λv n=>l v (cS _ n)) (by simp at o ⊢;omega) (h.snoc rfl rfl s);rw[bw] at this;exact this
theorem af7 (r:us.length<f)(l:Ar R)(g:∀v∈us,aac v/\v.bn=false/\v.out=false)(k:ak.length+us.length<=16)(e:At c ((if 0<us.length then [(⟨#[118,97,114]⟩:Xb)] else [])++(us.flatMap fZ++aae::R))):aao c (aae::R) ak us (bD f c ak):=by
 unfold bD;cases us with
 | nil => have b:At c (aae::R):=e;rw[ae (by rw[b.is];decide +kernel)];exact⟨b,rfl,rfl,⟨[],by simp,rfl⟩⟩
 | cons u us => rw[ag (by simp)] at e;have b:At c (⟨#[118,97,114]⟩::(fZ u++(us.flatMap fZ++aae::R))):=(by simpa using e);obtain⟨m,s,t⟩:=g u (Mx ..);have h:∀v∈us,aac v:=λv j=>(g v (cS _ j)).1;have zq:Ar (us.flatMap fZ++aae::R):=Ml (abH h) (Ow ab5 l);have o:=b.ad (Ml (adt m) zq);rw[ag (by rw[b.is];decide +kernel)];have d:=adv (ak:=ak) m s t o zq (by simp at k;omega);have n:aao c (us.flatMap fZ++aae::R) ak [u] (MN c.ad ak):=(by obtain⟨w,p,q⟩:=d.vs;exact⟨d.at',by rw[d.op,St.bQ],by rw[d.L,St.bu],⟨[w],p,by simp[q]⟩⟩);exact adb l us [u] f _ (by simp at r;omega) (λv j=>g v (cS _ j)) (by simp at k ⊢;omega) n
end
end
section
variable {a:Xb} {e:ax} {us:Xl} {L c:List Ex} {q:Qn}
structure aaz (q:Qn):Prop where
 ns:∀s∈q.ns,Z9 s
 one:1<=q.ns.length
 len:q.ns.length<=1302
 r:Rd q.r
 call:q.ns.length≠1->q.r.k=4
structure abe (L:List Ex) (e:ax) (q:Qn):Prop where
 ns:e.ns=q.ns
 r:∃t,bX L e.ex t/\eT t=eT q.r
theorem abe.more (h:abe L e q)(f:L <+: c):abe c e q:=by obtain⟨t,b,d⟩:=h.r;exact⟨h.ns,t,mZ f b,d⟩
def aaU (L:List Ex)(b:List ax)(d:List Qn):Prop:=b.length=d.length/\∀(i:Nat) (e:ax) (q:Qn),b[i]?=some e->d[i]?=some q->abe L e q
theorem aaU.snoc {f:List ax}{j:List Qn}(h:aaU L f j)(l:L <+: c)(m:abe c e q):aaU c (f++[e]) (j++[q]):=by
 refine⟨by rw[aP,aP,h.1];rfl,λi k n b d=>?_⟩;by_cases g:i<f.length
 . rw[e9 g] at b;rw[e9 (by rw[<- h.1];exact g)] at d;exact (h.2 i k n b d).more l
 rw[e8 (by omega)] at b;rw[e8 (by rw[<- h.1];omega),<- h.1] at d
 match i-f.length,b,d with
 | 0,b,d=>cases b;cases d;exact m
structure aaH (st:St) (R:Xl) (qs:List Qn) (x:St×List ax):Prop where
 at':At x.1 R
 op:x.1.op=st.op
 L:st.L <+: x.1.L
 eqs:aaU x.1.L x.2 qs
section
variable {R:Xl} {st:St}
def aaA:ByteArray:=⟨#[61]⟩
def aal:ByteArray:=⟨#[59]⟩
theorem aew:Rl aaA:=(aad (k:=4) (by decide +kernel)).1
theorem agv {d:Nat}{u:Tm}(b:aai u)(f:Rd u):aah d (fx d).ex u aal:=abv b f (by decide +kernel) (by decide +kernel) (by decide +kernel) (by decide +kernel) (by decide +kernel) (by decide +kernel) (by decide +kernel)
theorem afo {f:Nat}{x:dI}(h:x.st.is 4 [44]=false):cX f x=x:=by
 cases f with
 | zero=>rfl
 | succ f => show (if _ then _ else x)=_;rw[ae (λe=>by rw[h] at e;cases e.2)]
structure aa3 (st:St) (R:Xl) (ns:Xl) (x:dI):Prop where
 at':At x.st R
 op:x.st.op=st.op
 L:x.st.L=st.L
 ns:x.ns=ns
theorem adq (h:∀s∈us,Z9 s)(b:Bool)(g:Ar R):Ar (eA b (us.map λs=>[s])++kr::R):=by refine Ml (aa5 _ _ ?_) (Ow aar g);intro x f;obtain⟨w,d,rfl⟩:=List.mem_map.1 f;exact aaa (h w d).ok
theorem adi (m:Ar R):∀(us b:Xl) (f:Nat) (x:dI),us.length<=f->(∀s∈us,Z9 s)->aa3 st (eA true (us.map λs=>[s])++kr::R) b x->aa3 st (kr::R) (b++us) (cX f x)
 | [],b,f,x,_,_,h=>by have d:At x.st (kr::R):=h.at';rw[afo (by rw[d.is];decide +kernel),List.append_nil];exact h
 | u::us,b,0,x,i,_,_=>by simp at i
 | u::us,b,f+1,x,i,l,h=>by
   have e:eA true ((u::us).map λs=>[s])++kr::R=p7::u::(eA true (us.map λs=>[s])++kr::R):=(by simp[eA]);have d:=h.at';rw[e] at d;have g:∀s∈us,Z9 s:=λv o=>l v (cS _ o);have j:=l u (Mx ..);have zq:=adq g true m;have k:=d.ad (Ow j.ok zq);have n:=k.name zq j.k
   show aa3 st (kr::R) (b++u::us) (if _ then cX f x.more else x);rw[ag ⟨d.er,by rw[d.is];decide +kernel⟩];have:=adi m us (b++[u]) f x.more (by simp at i;omega) g ⟨n,by show x.st.ad.name.op=_;rw[St.dB,St.bQ,h.op],by show x.st.ad.name.L=_;rw[St.c8,St.bu,h.L],by show x.ns++[x.st.ad.t.s]=_;rw[h.ns,k.2.1.2.1,j.s]⟩;rw[bw] at this;exact this
theorem af8 {b:Xb}(m:Ar R)(h:∀s∈a::b::us,Z9 s)(v:us.length<=1300)(i:At st (gS ((a::b::us).map λs=>[s])++R)):st.is 4 [40]=true/\aa3 st R (a::b::us) (aZ st):=by
 have e:gS ((a::b::us).map λs=>[s])++R=jM::a::p7::b::(eA true (us.map λs=>[s])++kr::R):=by simp[gS,eA]
 rw[e] at i;have j:=h a (by simp);have d:=h b (by simp);have zq:=adq (us:=us) (λs l=>h s (by simp[l])) true m;have p:st.is 4 [40]=true:=by rw[i.is];decide +kernel
 have n:=i.ad (Ow j.ok (Ow ab3 (Ow d.ok zq)));have r:=n.name (Ow ab3 (Ow d.ok zq)) j.k;have o:=r.ac (k:=4) (b:=[44]) (Ow d.ok zq) (by decide +kernel) (by decide +kernel);have t:=o.name zq d.k;refine⟨p,?_⟩;unfold aZ;rw[ag p];unfold iG;obtain⟨f,u⟩:∃f,f=1300:=⟨_,rfl⟩;rw[<- u];simp only
 have g:=adi (st:=st) m us [a,b] f ⟨(st.ad.name.ac 4 [44]).name,[st.ad.t.s,(st.ad.name.ac 4 [44]).t.s],[st.ad.t.a,(st.ad.name.ac 4 [44]).t.a]⟩ (by omega) (λs l=>h s (by simp[l]))
  ⟨t,by show (st.ad.name.ac 4 [44]).name.op=_;rw[St.dB,St.a8,St.dB,St.bQ],by show (st.ad.name.ac 4 [44]).name.L=_;rw[St.c8,St.bi,St.c8,St.bu],by show [_,_]=_;rw[n.2.1.2.1,o.2.1.2.1,j.s,d.s]⟩
 generalize cX f _=X at *;exact⟨g.at'.ac m (by decide +kernel) (by decide +kernel),by show (X.st.ac 4 [41]).op=_;rw[St.a8,g.op],by show (X.st.ac 4 [41]).L=_;rw[St.bi,g.L],g.ns⟩
theorem afX (g:Ar R)(d:Z9 a)(b:At st (a::R)):st.is 4 [40]=false/\aa3 st R [a] (aZ st):=by
 have f:st.is 4 [40]=false:=by rw[b.is,d.k];rfl
 refine⟨f,?_⟩;unfold aZ;rw[ae (by rw[f];decide)];exact⟨b.name g d.k,St.dB st,St.c8 st,by show [st.t.s]=_;rw[b.2.1.2.1,d.s]⟩
end
end
section
section
variable {R:Xl} {c:St} {d:Nat} {q:Qn} {es:List ax} {qs:List Qn}
theorem ab2:Rl aal:=abY
theorem Dp.of {s:St}(h:Dp d c)(a:s.op=c.op):Dp d s:=by unfold Dp;rw[a];exact h
theorem acX (j:aaz q)(T:Dp (d+1) c)(z:Ar R)(C:At c (gT q++R))(h:aaU c.L es qs) :
 (zF (fx d).ex (fx (d+1)).ex c es).1.er=3∨aaH c R (qs++[q]) (zF (fx d).ex (fx (d+1)).ex c es):=by
 have zr:Ar (ob q.r++aal::R):=Ml (aan j.r) (Ow ab2 z);have ze:Ar (aaA::(ob q.r++aal::R)):=Ow aew zr;have A:(rb aaA).k=4/\(rb aaA).s.toList=[61]:=by decide +kernel
 have P:(rb aal).k=4/\(rb aal).s.toList=[59]:=by decide +kernel
 unfold zF;simp only;have y:∀(m:Bool) (l:dI) (X:St×Nat),aa3 c (aaA::(ob q.r++aal::R)) q.ns l->Out (l.st.ac 4 [61]) (aal::R) q.r X->(X.1.ac 4 [59]).er=3∨aaH c R (qs++[q]) (X.1.ac 4 [59],es++[⟨l.ns,l.ps,l.st.t.a,X.2⟩]):=by
  intro m l X x hX;rcases hX with hX|hX
  . exact .inl (aas hX)
  right;have G:=hX.L;rw[St.bi,x.L] at G;refine⟨hX.at'.ac z P.1 P.2,by show (X.1.ac 4 [59]).op=_;rw[St.a8,hX.op,St.a8,x.op],by show _ <+: (X.1.ac 4 [59]).L;rw[St.bi];exact G,?_⟩
  show aaU (X.1.ac 4 [59]).L _ _;rw[St.bi];exact h.snoc G ⟨x.ns,hX.tr⟩
 obtain⟨a,g,f⟩:∃a g,q.ns=a::g:=by
  have:=j.one;cases J:q.ns with
  | nil=>rw[J] at this;simp at this
  | cons a g=>exact⟨a,g,rfl⟩
 cases g with
 | nil =>
   have ar:Z9 a:=j.ns a (by rw[f];simp);have w:At c (a::aaA::(ob q.r++aal::R)):=(by have e:gT q++R=a::aaA::(ob q.r++aal::R):=(by unfold gT;rw[f];simp[aaA,aal]);rw[e] at C;exact C);obtain⟨F,p⟩:=afX ze ar w;have B:=p.at'.ac zr A.1 A.2;refine y false _ _ (by rw[f];exact p) ?_;rw[F]
   show Out _ _ _ ((fx (d+1)).ex _);exact agv (adS j.r) j.r _ R (T.of (by rw[St.a8,p.op])) (Ow ab2 z) B
 | cons b g =>
   have Y:q.r.k=4:=j.call (by rw[f];simp);have w:At c (gS ((a::b::g).map λs=>[s])++(aaA::(ob q.r++aal::R))):=(by have e:gT q++R=gS ((a::b::g).map λs=>[s])++(aaA::(ob q.r++aal::R)):=(by unfold gT;rw[f,ae (by simp)];simp[aaA,aal]);rw[e] at C;exact C);have x:=j.len;rw[f] at x;obtain⟨F,p⟩:=af8 ze (λs D=>j.ns s (by rw[f];exact D)) (by simp at x;omega) w;have B:=p.at'.ac zr A.1 A.2;refine y true _ _ (by rw[f];exact p) ?_;rw[F]
   show Out _ _ _ (Fs (fx d).ex _ _);generalize L:(aZ c).st.ac 4 [61]=E at *;have H:Dp (d+1) E:=T.of (by rw[<- L,St.a8,p.op]);generalize aA:q.r=r at *;have K:Rd r:=(by rw[<- aA];exact j.r);cases K with
   | mk k Q s U n V W O nk aL n0 nn o =>
     have I:k=4:=Y;subst I;have D:=nk rfl;have J:=n0 (by decide);subst J;obtain⟨u,i,rfl⟩:∃u g,V=u::g:=by
      cases V with
      | nil=>simp[dJ] at W
      | cons u g=>exact⟨u,g,rfl⟩
     have S:At E (s::jM::(ob u++(eA true (hH i)++kr::aal::R))):=(by have e:ob (.mk 4 Q s U 0 (u::i))++aal::R=s::jM::(ob u++(eA true (hH i)++kr::aal::R)):=(by rw[ob];simp[lM,gS,hH,eA]);rw[e] at B;exact B);have M:∀v∈i,Rd v:=λv N=>o v (cS _ N);have Z:=S.name (Ow abw (Ml (aan (o u (Mx ..))) (abE M true (Ow ab2 z)))) D.k;have h7:=adP (tk:=E.t) (t:=.mk 4 Q s U 0 (u::i)) Z (Ow ab2 z) (H.of (St.dB E)) (λv N=>adS (o v N)) o (by simp at O;omega) (by rw[eT,aaK,S.2.1.2.1,D.s]);rcases h7 with h7|h7
     . exact .inl h7
     refine .inr ⟨h7.at',by rw[h7.op,St.dB],?_,h7.tr⟩;have:=h7.L;rw[St.c8] at this;exact this
end
end
section
variable {l:List Qn} {q:Qn}
section
variable {R:Xl} {c:St} {d p:Nat}
def aaf:ByteArray:=⟨#[125]⟩
theorem ab0:Rl aaf:=(aad (k:=4) (by decide +kernel)).1
theorem aem (h:aaz q):Ar (gT q):=by
 unfold gT;refine Ml ?_ (Ml (aaa aew) (Ml (aan h.r) (aaa abY)));split
 . exact λx a=>(h.ns x a).ok
 refine acp (λx a=>?_);obtain⟨s,b,rfl⟩:=List.mem_map.1 a;exact aaa (h.ns s b).ok
theorem abK (h:∀q∈l,aaz q):Ar (l.flatMap gT):=λx a=>by obtain⟨q,b,a⟩:=ed.1 a;exact aem (h q b) x a
theorem afU (h:aaz q):∃y l,gT q=y::l/\((rb y).k=2∨y=jM):=by
 unfold gT;split
 . rename_i e
   cases b:q.ns with
   | nil=>rw[b] at e;simp at e
   | cons a f=>exact⟨a,_,rfl,.inl (h.ns a (by rw[b];simp)).k⟩
 exact⟨jM,_,rfl,.inr rfl⟩
theorem adN (o:d=17)(u:Ar R):∀(l a:List Qn) (f:Nat) (x:St×List ax),l.length<f->(∀q∈l,aaz q)->Inv p x.1->x.1.op=0->aaH c (l.flatMap gT++aaf::R) a x ->
 (bS (fx d).ex (fx (d+1)).ex f x).1.er=3∨aaH c (aaf::R) (a++l) (bS (fx d).ex (fx (d+1)).ex f x)
 | [],a,0,x,i,_,_,_,_=>by cases i
 | [],a,f+1,x,_,_,_,_,h=>by
   have b:At x.1 (aaf::R):=h.at';right
   show aaH c (aaf::R) (a++[]) (if _ then bS _ _ f _ else x);rw[ae (by rw[b.2.1.1,b.is];decide +kernel),List.append_nil];exact h
 | q::l,a,0,x,i,_,_,_,_=>by cases i
 | q::l,a,f+1,x,i,t,A,r,h=>by
   have e:(q::l).flatMap gT++aaf::R=gT q++(l.flatMap gT++aaf::R):=(by simp);have b:=h.at';rw[e] at b;have s:=t q (Mx ..);have j:∀v∈l,aaz v:=λv C=>t v (cS _ C);have zq:Ar (l.flatMap gT++aaf::R):=Ml (abK j) (Ow ab0 u);have k:zv 17 (fx d).ex:=o▸(pm d).1;have m:zv 18 (fx (d+1)).ex:=(by have:=(pm (d+1)).1;rw[show d+1=18 by omega] at this ⊢;exact this);have g:=gD k m (eqs:=x.2) A r;have z:Dp (d+1) x.1:=⟨by omega,by omega⟩;have h2:=acX (d:=d) (es:=x.2) (qs:=a) s z zq b h.eqs;have B:x.1.t.k=2∨x.1.is 4 [40]=true:=by
    obtain⟨y,E,D,n⟩:=afU s;rw[D] at b;rcases n with n|rfl
    . exact .inl (by rw[b.2.1.1];exact n)
    exact .inr (by rw[b.is];decide +kernel)
   show (if _ then bS (fx d).ex (fx (d+1)).ex f (zF (fx d).ex (fx (d+1)).ex x.1 x.2) else x).1.er=3∨aaH c (aaf::R) (a++q::l) (if _ then bS (fx d).ex (fx (d+1)).ex f (zF (fx d).ex (fx (d+1)).ex x.1 x.2) else x);rw[ag B];rcases h2 with h2|h2
   . left;rw[sb g.1.af (by rw[h2];decide)];exact h2
   have w:aaH c (l.flatMap gT++aaf::R) (a++[q]) (zF (fx d).ex (fx (d+1)).ex x.1 x.2):=⟨h2.at',by rw[h2.op,h.op],h.L.trans h2.L,h2.eqs⟩;have:=adN o u l (a++[q]) f _ (by simp at i;omega) j g.1.af (g.2.trans r) w;rw[bw] at this;exact this
theorem afw (r:d=17)(n:Ar R){f:Nat}(A:l.length<f)(t:∀v∈q::l,aaz v)(z:Inv p c)(B:c.op=0)(o:At c (aae::((q::l).flatMap gT++aaf::R))) :
 (dy (fx d).ex (fx (d+1)).ex f c).1.er=3∨aaH c R (q::l) (dy (fx d).ex (fx (d+1)).ex f c):=by
 have s:=t q (Mx ..);have a:∀v∈l,aaz v:=λv C=>t v (cS _ C);have zq:Ar (l.flatMap gT++aaf::R):=Ml (abK a) (Ow ab0 n);have e:(q::l).flatMap gT++aaf::R=gT q++(l.flatMap gT++aaf::R):=by simp
 rw[e] at o;have w:=o.ac (k:=4) (b:=[123]) (Ml (aem s) zq) (by decide +kernel) (by decide +kernel);have j:zv 17 (fx d).ex:=r▸(pm d).1;have m:zv 18 (fx (d+1)).ex:=by have:=(pm (d+1)).1;rw[show d+1=18 by omega] at this ⊢;exact this
 have D:=ai.ac z 4 [123];have u:(c.ac 4 [123]).op=0:=by rw[St.a8,B]
 have g:=gD j m (eqs:=[]) D.af u;have y:Dp (d+1) (c.ac 4 [123]):=⟨by omega,by omega⟩;have h2:=acX (d:=d) (es:=[]) (qs:=[]) s y zq w ⟨rfl,λi e q h=>by simp at h⟩;unfold dy;simp only;rcases h2 with h2|h2
 . left;rw[sb g.1.af (by rw[h2];decide)];exact aas h2
 have x:aaH c (l.flatMap gT++aaf::R) [q] (zF (fx d).ex (fx (d+1)).ex (c.ac 4 [123]) []):=⟨h2.at',by rw[h2.op,St.a8],by have:=h2.L;rw[St.bi] at this;exact this,h2.eqs⟩;rcases adN r n l [q] f _ A a g.1.af (g.2.trans u) x with h4|h4
 . exact .inl (aas h4)
 generalize bS (fx d).ex (fx (d+1)).ex f _=X at *;exact .inr ⟨h4.at'.ac n (by decide +kernel) (by decide +kernel),by show (X.1.ac 4 [125]).op=_;rw[St.a8,h4.op],by show _ <+: (X.1.ac 4 [125]).L;rw[St.bi];exact h4.L,by show aaU (X.1.ac 4 [125]).L _ _;rw[St.bi];exact h4.eqs⟩
end
end
section
variable {R:Xl} {c:St}
structure aay (n:ay):Prop where
 nm:Z9 n.nm
 vs:∀v∈n.ak,aac v
 i0:1<=n.ah
 o0:1<=n.aG
 io:n.ah+n.aG<=n.ak.length
 len:n.ak.length<=16
 vi:∀v∈n.ak.take n.ah,v.tm=false/\v.bn=true/\v.out=false
 vo:∀v∈(n.ak.drop n.ah).take n.aG,v.tm=false/\v.bn=false/\v.out=true
 vl:∀v∈n.ak.drop (n.ah+n.aG),v.bn=false/\v.out=false
 q0:n.eqs≠[]
 ql:n.eqs.length<=1201
 qs:∀q∈n.eqs,aaz q
structure abB (d:Nd) (n:ay):Prop where
 nm:d.nm=n.nm
 ak:d.ak.map eV=n.ak.map eV
 eqs:aaU d.az d.eqs n.eqs
theorem At.aw (h:At c R):At c.aw R:=by cases R <;> exact h
def abD:ByteArray:=⟨#[110,111,100,101]⟩
def abj:ByteArray:=⟨#[45,62]⟩
theorem agu:Rl abD:=(aad (k:=5) (by decide +kernel)).1
theorem acG:Rl abj:=(aad (k:=4) (by decide +kernel)).1
theorem ad2:Rl ⟨#[118,97,114]⟩:=(aad (k:=5) (by decide +kernel)).1
theorem abG {a:List Vr}(h:∀v∈a,aac v):Ar (gS (a.map eB)):=acp (λx d=>by
 obtain⟨w,b,rfl⟩:=List.mem_map.1 d;exact abr (h w b))
theorem ac0 {d p f:Nat}{n:ay}(aL:d=17)(m:aay n)(O:Ar R)(aA:Inv p c)(aV:c.op=0)(hf:1200<f)(N:At c (ez n++R)) :
 (a7 (fx d).ex (fx (d+1)).ex f c).1.er=3∨(At (a7 (fx d).ex (fx (d+1)).ex f c).1 R/\abB (a7 (fx d).ex (fx (d+1)).ex f c).2 n):=by
 obtain⟨A,s⟩:∃A,n.ak.take n.ah=A:=⟨_,rfl⟩;obtain⟨B,w⟩:∃B,(n.ak.drop n.ah).take n.aG=B:=⟨_,rfl⟩;obtain⟨C,z⟩:∃C,n.ak.drop (n.ah+n.aG)=C:=⟨_,rfl⟩;have g:n.ak=A++(B++C):=by rw[<- s,<- w,<- z,<- List.drop_drop,List.take_append_drop,List.take_append_drop]
 have lA:A.length=n.ah:=by rw[<- s,List.length_take];have:=m.io;omega
 have lB:B.length=n.aG:=by rw[<- w,List.length_take,List.length_drop];have:=m.io;omega
 have j:=m.len;rw[g,aP,aP] at j;have Q:∀v∈A,aac v/\v.tm=false/\v.bn=true/\v.out=!true:=λv o=>⟨m.vs v (by rw[g];simp[o]),m.vi v (by rw[s];exact o)⟩;have S:∀v∈B,aac v/\v.tm=false/\v.bn=false/\v.out=!false:=λv o=>⟨m.vs v (by rw[g];simp[o]),m.vo v (by rw[w];exact o)⟩;have T:∀v∈C,aac v/\v.bn=false/\v.out=false:=λv o=>⟨m.vs v (by rw[g];simp[o]),m.vl v (by rw[z];exact o)⟩;obtain⟨q,l,I⟩:∃q l,n.eqs=q::l:=by
  cases h:n.eqs with
  | nil=>exact absurd h m.q0
  | cons q l=>exact⟨q,l,rfl⟩
 have U:∀v∈q::l,aaz v:=λv o=>m.qs v (by rw[I];exact o);have W:Ar ((q::l).flatMap gT++aaf::R):=Ml (abK U) (Ow ab0 O);have z2:Ar (C.flatMap fZ++aae::((q::l).flatMap gT++aaf::R)):=Ml (abH (λv o=>(T v o).1)) (Ow ab5 W);have z3:Ar ((if 0<C.length then [(⟨#[118,97,114]⟩:Xb)] else [])++(C.flatMap fZ++aae::((q::l).flatMap gT++aaf::R))):=by
  refine Ml ?_ z2;split
  . exact aaa ad2
  exact aat
 obtain⟨y,x⟩:∃y,(if 0<C.length then [(⟨#[118,97,114]⟩:Xb)] else [])++(C.flatMap fZ++aae::((q::l).flatMap gT++aaf::R))=y:=⟨_,rfl⟩;have M:Ar (gS (B.map eB)++y):=Ml (abG (λv o=>(S v o).1)) (x▸z3);have z5:Ar (gS (A.map eB)++abj::(gS (B.map eB)++y)):=Ml (abG (λv o=>(Q v o).1)) (Ow acG M);have e:ez n++R=abD::n.nm::(gS (A.map eB)++abj::(gS (B.map eB)++y)):=by unfold ez;rw[s,w,z,I,<- x];simp[abD,abj,aae,aaf]
 rw[e] at N;have h0:=ai.aw aA;have J:=mz h0;have K:=kM (f:=f) (ak:=(aT c.aw).2) J.1.af;have V:=N.aw.ac (k:=5) (b:=zW) (Ow m.nm.ok z5) (by decide +kernel) (by decide +kernel);have s2:=V.name z5 m.nm.k;obtain⟨a,D,r⟩:∃a D,A=a::D:=by
  cases A with
  | nil=>have:=m.i0;simp at lA;omega
  | cons a D=>exact⟨a,D,rfl⟩
 obtain⟨b,E,t⟩:∃b E,B=b::E:=by
  cases B with
  | nil=>have:=m.o0;simp at lB;omega
  | cons b E=>exact⟨b,E,rfl⟩
 have G:=ade (ak:=[]) (i:=true) (u:=a) (us:=D) (R:=abj::(gS (B.map eB)++y)) (Ow acG M) (by rw[<- r];exact Q) (by rw[r] at j;simp at j ⊢;omega) (by rw[<- r];exact s2);rw[<- r] at G;unfold a7;unfold aT at J K ⊢;simp only at J K ⊢;generalize a1:bW true (c.aw.ac 5 zW).name []=X at *;have a0:=G.at'.ac (k:=4) (b:=[45,62]) M (by decide +kernel) (by decide +kernel);have P:=G.len;have H:=ade (ak:=X.2) (i:=false) (u:=b) (us:=E) (R:=y) (x▸z3) (by rw[<- t];exact S) (by rw[P];rw[t] at j;simp at j ⊢;omega) (by rw[<- t];exact a0);rw[<- t] at H;generalize a2:bW false (X.1.ac 4 [45,62]) X.2=Y at *;have lY:=H.len;have L:=af7 (ak:=Y.2) (f:=f) (us:=C) (R:=(q::l).flatMap gT++aaf::R) (by omega) W T (by rw[lY,P];simp;omega) (by rw[x];exact H.at');generalize a3:bD f Y.1 Y.2=Z at *;have oZ:Z.1.op=0:=by rw[L.op,H.op,St.a8,G.op,St.dB,St.a8];exact aV
 have F:=m.ql;rw[I] at F;rcases afw (f:=f) aL O (by simp at F;omega) U K.1.af oZ L.at' with h|h
 . exact .inl h
 right;refine⟨h.at',?_,?_,by rw[I];exact h.eqs⟩
 . show (c.aw.ac 5 zW).t.s=n.nm;rw[V.2.1.2.1,m.nm.s]
 show Z.2.map eV=_;obtain⟨v1,e1,f1⟩:=G.vs;obtain⟨v2,ar,f2⟩:=H.vs;obtain⟨v3,e3,f3⟩:=L.vs;rw[e3,ar,e1,g];simp only[List.nil_append,List.map_append,f1,f2,f3,bw]
end
section
def Wh (w:Xu):Prop:=∀c∈w,cM c.toNat=true
def abf:List ByteArray->List UInt8->Prop
 | [],u=>Wh u
 | x::l,u=>∃w c v,u=w++(x.data.toList++c::v)/\Wh w/\cM c.toNat=true/\abf l (c::v)
theorem adY {l:Xl}{r:Xu}(d:abf l (10::r)):∀(a:Xl) (x:Xb) (w:Xu),Wh w->abf (x::a++l) (w++(([32]:Xu).intercalate ((x::a).map (·.data.toList))++10::r))
 | [],x,w,b=>⟨w,10,r,by simp[List.intercalate],b,rfl,d⟩
 | y::a,x,w,b=>by have f:=adY d a y [32] (λc e=>by rw[cu.1 e];rfl);exact⟨w,32,([32]:Xu).intercalate ((y::a).map (·.data.toList))++10::r,by simp[List.intercalate],b,rfl,f⟩
theorem adx:∀(a:List ay) (w:Xu),Wh w->abf (a.flatMap ez) (w++dU a)
 | [],w,b=>by rw[show dU []=[] from rfl,List.append_nil];exact b
 | n::a,w,b=>by have h:=adx a [10] (λc f=>by rw[cu.1 f];rfl);obtain⟨x,d,g⟩:∃x d,ez n=x::d:=⟨_,_,rfl⟩;have:=adY (l:=a.flatMap ez) (r:=dU a) h d x w b;rw[<- g] at this;have e:w++dU (n::a)=w++(([32]:Xu).intercalate ((ez n).map (·.data.toList))++10::dU a):=(by show w++(jp n++dU a)=_;unfold jp;simp);rw[e,List.flatMap_cons];exact this
theorem acq {u:Xu}:∀(w a:Xu),Wh w->(∀c v,u=c::v->cM c.toNat=false)->zQ cM ⟨(a++(w++u)).toArray⟩ a.length=a.length+w.length
 | [],a,_,b=>by
   rw[List.nil_append,cw,Nat.add_zero];cases u with
   | nil=>exact nY (by show (a++[]).toArray.size<=_;simp)
   | cons c v => refine nW ?_;rw[aa0 (by simp)];simp only[List.getElem_append_right (an _),Nat.sub_self,L7];exact b c v rfl
 | c::w,a,d,b=>by have f:=d c (Mx ..);have e:a++(c::w++u)=(a++[c])++(w++u):=(by simp);have g:a.length<(a++(c::w++u)).length:=(by simp);rw[kJ (by show _<(a++(c::w++u)).toArray.size;simp) (by rw[aa0 g];simp only[List.getElem_append_right (an _),Nat.sub_self,List.cons_append,L7];exact f)];have:=acq (u:=u) w (a++[c]) (λx h=>d x (cS _ h)) b;rw[e,show a.length+1=(a++[c]).length by simp,this];simp;omega
theorem adp:∀(l:Xl) (u a:Xu),(∀x∈l,acE x)->abf l u->abh ⟨(a++u).toArray⟩ a.length l
 | [],u,a,_,h=>by
   have:=acq (u:=[]) u a h (λc v e=>by cases e);rw[List.append_nil] at this
   show zQ cM _ _=(a++u).toArray.size;rw[this];simp
 | x::l,u,a,r,h=>by
   obtain⟨w,c,v,rfl,B,z,h⟩:=h;have o:=r x (Mx ..);have f:x.data.toList.length=x.size:=(by show x.data.toList.length=x.data.size;simp);have d:=acq (u:=x.data.toList++c::v) w a B (λp E e=>by
    have q:=o.2 0 (by have:=o.1;omega);have t:bt x 0=p.toNat:=(by have g:x=⟨x.data.toList.toArray⟩:=(by simp);have b:0<x.data.toList.length:=(by rw[f];have:=o.1;omega);have j:=aa0 (l:=x.data.toList) b;rw[<- g] at j;have:(x.data.toList++c::v)[0]'(by rw[aP];omega)=p:=(by simp only[e,L7]);rw[List.getElem_append_left b] at this;rw[j,this]);rw[t] at q;exact q)
   have n:(⟨(a++(w++(x.data.toList++c::v))).toArray⟩:Xb).size=a.length+w.length+x.size+1+v.length:=(by show (a++(w++(x.data.toList++c::v))).toArray.size=_;simp only[List.size_toArray,aP,bJ,f];omega);have k:∀i,i<x.size->bt ⟨(a++(w++(x.data.toList++c::v))).toArray⟩ (a.length+w.length+i)=bt x i:=λi A=>by have b:i<x.data.toList.length:=(by rw[f];exact A);have g:x=⟨x.data.toList.toArray⟩:=(by simp);have j:bt x i=(x.data.toList[i]).toNat:=(by have:=aa0 (l:=x.data.toList) b;rw[<- g] at this;exact this);rw[j,aa0 (by simp;omega)];congr 1;rw[List.getElem_append_right (by omega),List.getElem_append_right (by omega),List.getElem_append_left (by omega)];congr 1;omega
   have m:bt ⟨(a++(w++(x.data.toList++c::v))).toArray⟩ (a.length+w.length+x.size)=c.toNat:=(by rw[aa0 (by simp;omega)];congr 1;rw[List.getElem_append_right (by omega),List.getElem_append_right (by omega),List.getElem_append_right (by omega)];simp only[show a.length+w.length+x.size-a.length-w.length-x.data.toList.length=0 by omega,L7]);refine⟨by rw[d,n];omega,by rw[d];exact k,by rw[d,m];exact z,?_⟩;rw[d];have D:=adp l (c::v) (a++w++x.data.toList) (λy C=>r y (cS _ C)) h;have s:a++(w++(x.data.toList++c::v))=a++w++x.data.toList++c::v:=(by simp);have g:(a++w++x.data.toList).length=a.length+w.length+x.size:=(by rw[aP,aP,f]);rw[s,<- g];exact D
end
section
variable {a:List ay} {n:ay}
theorem adI (b:aay n):Ar (ez n):=by
 unfold ez;refine Ml (Ow agu (aaa b.nm.ok)) (Ml (abG λv c=>b.vs v (List.mem_of_mem_take c)) (Ml (aaa acG) (Ml (abG λv c=>b.vs v (List.mem_of_mem_drop (List.mem_of_mem_take c))) (Ml ?_ (Ml (abH λv c=>b.vs v (List.mem_of_mem_drop c)) (Ml (aaa ab5) (Ml (abK b.qs) (aaa ab0))))))));split
 . exact aaa ad2
 exact aat
theorem aci (h:∀n∈a,aay n):Ar (a.flatMap ez):=λx b=>by obtain⟨n,c,b⟩:=ed.1 b;exact adI (h n c) x b
def aaL (b:List Nd)(a:List ay):Prop:=b.length=a.length/\∀(i:Nat) (d:Nd) (n:ay),b[i]?=some d->a[i]?=some n->abB d n
theorem aaL.snoc {e:List Nd}{d:Nd}(h:aaL e a)(j:abB d n):aaL (e++[d]) (a++[n]):=by
 refine⟨by rw[aP,aP,h.1];rfl,λi g k b c=>?_⟩;by_cases f:i<e.length
 . rw[e9 f] at b;rw[e9 (by rw[<- h.1];exact f)] at c;exact h.2 i g k b c
 rw[e8 (by omega)] at b;rw[e8 (by rw[<- h.1];omega),<- h.1] at c
 match i-e.length,b,c with
 | 0,b,c=>cases b;cases c;exact j
section
variable {d g:Nat}
theorem adg (q:d=17)(t:1200<g):∀(a b:List ay) (f p:Nat) (x:St×List Nd),a.length<f->(∀n∈a,aay n)->b.length+a.length<=6->Inv p x.1->x.1.op=0->At x.1 (a.flatMap ez)->aaL x.2 b ->
 (Mq (fx d).ex (fx (d+1)).ex g f x).1.er=3∨(At (Mq (fx d).ex (fx (d+1)).ex g f x).1 []/\aaL (Mq (fx d).ex (fx (d+1)).ex g f x).2 (b++a))
 | [],b,0,p,x,k,_,_,_,_,_,_=>by cases k
 | [],b,f+1,p,x,_,_,_,_,_,j,h=>by
   have c:At x.1 []:=j;right
   show At (if _ then Mq _ _ g f _ else x).1 []/\aaL (if _ then Mq _ _ g f _ else x).2 (b++[]);rw[ae (by rintro⟨e,_⟩;unfold St.is at e;rw[c.2] at e;cases e),List.append_nil];exact⟨c,h⟩
 | n::a,b,0,p,x,k,_,_,_,_,_,_=>by cases k
 | n::a,b,f+1,p,x,k,z,w,s,y,j,h=>by
   rw[List.flatMap_cons] at j;have C:=z n (Mx ..);have l:∀v∈a,aay v:=λv D=>z v (cS _ D);have m:zv 17 (fx d).ex:=q▸(pm d).1;have o:zv 18 (fx (d+1)).ex:=(by have:=(pm (d+1)).1;rw[show d+1=18 by omega] at this ⊢;exact this);obtain⟨_,_,u,r,_⟩:=px m o (f:=g) (nodes:=[]) s y (by simp);have i:=ac0 (d:=d) (f:=g) q C (aci l) s y t j;have B:x.1.is 5 zW=true/\x.2.length<6:=by have c:At x.1 (abD::(n.nm::_)):=j;refine⟨by rw[c.is];decide +kernel,?_⟩;rw[h.1];simp at w;omega
   show (if _ then Mq (fx d).ex (fx (d+1)).ex g f ((a7 (fx d).ex (fx (d+1)).ex g x.1).1,x.2++[(a7 (fx d).ex (fx (d+1)).ex g x.1).2]) else x).1.er=3∨(At (if _ then Mq (fx d).ex (fx (d+1)).ex g f ((a7 (fx d).ex (fx (d+1)).ex g x.1).1,x.2++[(a7 (fx d).ex (fx (d+1)).ex g x.1).2]) else x).1 []/\aaL (if _ then Mq (fx d).ex (fx (d+1)).ex g f ((a7 (fx d).ex (fx (d+1)).ex g x.1).1,x.2++[(a7 (fx d).ex (fx (d+1)).ex g x.1).2]) else x).2 (b++n::a));rw[ag B];rcases i with i|⟨i,A⟩
   . left;rw[mI (p:=0) u (by show (a7 (fx d).ex (fx (d+1)).ex g x.1).1.er≠0;rw[i];decide)];exact i
   have:=adg q t a (b++[n]) f 0 ((a7 (fx d).ex (fx (d+1)).ex g x.1).1,x.2++[(a7 (fx d).ex (fx (d+1)).ex g x.1).2]) (by simp at k;omega) l (by simp at w ⊢;omega) u r i (h.snoc A);rw[bw] at this;exact this
theorem afC (B:d=17)(G:1200<g)(K:1<=a.length)(E:a.length<=6)(D:∀n∈a,aay n)(t:Inv 0 (⟨⟨(dU a).toArray⟩,zZ ⟨(dU a).toArray⟩ 0,0,0,0,[]⟩:St)) :
 (dm (fx d).ex (fx (d+1)).ex g ⟨(dU a).toArray⟩).1.er=3∨((dm (fx d).ex (fx (d+1)).ex g ⟨(dU a).toArray⟩).1.er=0/\aaL (dm (fx d).ex (fx (d+1)).ex g ⟨(dU a).toArray⟩).2 a):=by
 have k:=aci D;have F:=adp (a.flatMap ez) (dU a) [] (λx Q=>(k x Q).cl) (adx a [] (λc N=>by cases N));obtain⟨s,J⟩:∃s:Xb,s=⟨(dU a).toArray⟩:=⟨_,rfl⟩;rw[List.nil_append,<- J] at F;rw[<- J] at t ⊢;have A:At (⟨s,zZ s 0,0,0,0,[]⟩:St) (a.flatMap ez):=aee F k _ rfl rfl rfl;obtain⟨j,o⟩:∃j:St,j=⟨s,zZ s 0,0,0,0,[]⟩:=⟨_,rfl⟩;have I:j.op=0:=by rw[o]
 unfold dm;rw[<- o] at t A ⊢;simp only;obtain⟨n,q,rfl⟩:∃n l,a=n::l:=by
  cases a with
  | nil=>simp at K
  | cons n l=>exact⟨n,l,rfl⟩
 rw[List.flatMap_cons] at A;have O:=D n (Mx ..);have m:∀v∈q,aay v:=λv P=>D v (cS _ P);have y:zv 17 (fx d).ex:=B▸(pm d).1;have z:zv 18 (fx (d+1)).ex:=by have:=(pm (d+1)).1;rw[show d+1=18 by omega] at this ⊢;exact this
 obtain⟨_,_,H,C,_⟩:=px y z (f:=g) (nodes:=[]) t I (by simp);have b:∀X:St,X.er=3->(cW X).er=3:=λX e=>by rw[(pU X (by rw[e];decide)).1];exact e
 rcases ac0 (d:=d) (f:=g) B O (aci m) t I G A with r|⟨r,L⟩
 . left;rw[mI (p:=0) H (by show (a7 (fx d).ex (fx (d+1)).ex g j).1.er≠0;rw[r];decide)];exact b _ r
 have h:=adg B G q [n] g 0 ((a7 (fx d).ex (fx (d+1)).ex g j).1,[(a7 (fx d).ex (fx (d+1)).ex g j).2]) (by simp at E;omega) m (by simp at E ⊢;omega) H C r ⟨rfl,λi R S u w=>by
  match i,u,w with
  | 0,u,w=>cases u;cases w;exact L⟩
 generalize Mq (fx d).ex (fx (d+1)).ex g g _=X at *;rcases h with h|⟨h,M⟩
 . exact .inl (b _ h)
 right;have:cW X.1=X.1:=by unfold cW;rw[ag h.2]
 rw[this];exact⟨h.1,M⟩
end
end
section
variable {part:Fn} {c n:Nat} {st:St} {t:Tk}
def aaq (l:Xu):Bool:=l==[118,97,114]||l==[99,97,108,108]||l==[109,101,114,103,101]||l==[119,104,101,110]||l==[119,104,101,110,111,116]
def abl (e:Ex):Prop:=(aaq e.op.toList=true->Z9 e.s)/\(aaq e.op.toList=false->e.s=sE)
structure Nz (st:St):Prop where
 tt:st.t.t<=st.src.size
 nm:st.t.k=2->Z9 st.t.s
 L:st.er=0->∀e∈st.L,abl e
 er:st.er=0∨st.er=2∨st.er=3
structure Z7 (M:Fn):Prop where
 go:∀st,Nz st->Nz (M st).1
 bk:∀st:St,st.er≠0->(M st).1=st
theorem Nz.ad (h:Nz st):Nz st.ad:=by
 unfold St.ad;split
 . rename_i a
   exact⟨(zV st.src st.t.t h.tt).2.2.1,λe=>ady h.tt e,λ_=>h.L a,h.er⟩
 exact h
theorem Nz.fail (h:Nz st){e:Nat}(d:e=2∨e=3)(a:Nat):Nz (st.fail e a):=by
 have b:e≠0:=by rcases d with rfl|rfl <;> decide
 unfold St.fail;split
 . exact⟨h.tt,λe=>(by cases e),λe=>absurd e b,.inr d⟩
 rename_i f;exact⟨h.tt,λe=>(by cases e),λe=>absurd e f,h.er⟩
theorem Nz.ac (h:Nz st)(k:Nat)(l:Xu):Nz (st.ac k l):=by unfold St.ac;split;exact h.ad;exact h.fail (by decide) _
theorem Nz.name (h:Nz st):Nz st.name:=by unfold St.name;split;exact h.ad;exact h.fail (by decide) _
theorem Nz.enter (h:Nz st):Nz st.enter:=by have a:Nz ({ st with op:=st.op+1 }:St):=⟨h.tt,h.nm,h.L,h.er⟩;unfold St.enter;split;exact a.fail (by decide) _;exact a.ad
theorem Nz.aI (h:Nz st):Nz st.aI:=⟨h.tt,h.nm,h.L,h.er⟩
theorem Nz.put (h:Nz st){e:Ex}(b:st.er=0->abl e):Nz (st.put e).1:=by
 refine⟨h.tt,h.nm,λa x hx=>?_,h.er⟩;rcases bj.1 (show x∈st.L++[e] from hx) with hx|hx
 . exact h.L a x hx
 rw[cu.1 hx];exact b a
theorem abb {d:Xb}{a b:Nat}{l:Xn}(h:aaq d.toList=false):abl ⟨d,a,b,l,sE,n⟩:=⟨λe=>(by simp only at e;rw[h] at e;cases e),λ_=>rfl⟩
theorem aaC (h:st.name.er=0):st.t.k=2:=by
 unfold St.name at h;split at h
 . rename_i e;exact e
 exact absurd h (St.cy _ (by decide))
theorem aaS {k:Nat}{l:Xu}(h:(st.ac k l).er=0):st.er=0:=by
 by_cases e:st.er=0
 . exact e
 rw[aej e] at h;exact absurd h e
theorem Z7.er {M:Fn}(h:Z7 M)(e:(M st).1.er=0):st.er=0:=by
 by_cases a:st.er=0
 . exact a
 rw[h.bk st a] at e;exact absurd e a
theorem af0 (h:et t n=true):aaq t.s.toList=false:=by
 unfold et at h;split at h
 . cases h
 split at h
 . rename_i e;rcases e with e|e <;> rw[e] <;> rfl
 split at h
 . rename_i e;rw[e];rfl
 split at h
 . rename_i e;rcases e with e|e <;> rw[e] <;> rfl
 split at h
 . rename_i e;rcases e with e|e|e <;> rw[e] <;> rfl
 cases h
theorem aed (a:Z7 part):∀(f:Nat) (x:St×Nat),Nz x.1->Nz (dx c part f x).1
 | 0,_,h=>h
 | f+1,x,h=>by
   unfold dx;split
   . rename_i b
     exact aed a f _ ((a.go _ h.ad).put (λ_=>abb (af0 b.2)))
   exact h
theorem abN (a:Z7 part):Z7 (eo c part):=⟨λst h=>aed a 1300 _ (a.go st h),λst e=>by rw[aaX (.inl (by rw[a.bk st e];exact e)),a.bk st e]⟩
theorem agy (h:eh t=true):aaq t.s.toList=false:=by unfold eh at h;simp only[Bool.and_eq_true,Bool.or_eq_true,beq_iff_eq] at h;rcases h.2 with ((e|e)|e)|e <;> rw[e] <;> rfl
theorem afO {sum:Fn}(a:Z7 sum):Z7 (ei sum):=by
 refine⟨λst h=>?_,λst e=>by rw[abZ (.inl (by rw[a.bk st e];exact e)),a.bk st e]⟩;unfold ei;simp only;split
 . rename_i b
   exact (a.go _ (a.go st h).ad).put (λ_=>abb (agy b.2))
 exact a.go st h
theorem af4 {d a:Fn}(f:Z7 d)(b:Z7 a):Z7 (dG d a):=by
 refine⟨λst h=>?_,λst e=>by rw[abF (λh=>e h.1),b.bk st e]⟩;unfold dG;split
 . refine (f.go _ h.enter).aI.put (λ_=>abb ?_);split <;> decide +kernel
 exact b.go st h
theorem adh:∀(f:Nat) (x:St×Nat),Nz x.1->Nz (M0 f x).1
 | 0,_,h=>h
 | f+1,x,h=>by
   unfold M0;split
   . rename_i a
     refine adh f _ (h.ad.name.put (λe=>?_));have b:=h.ad.nm (aaC e);have d:aaq x.1.t.s.toList=true:=(by have:=a.2;unfold eu St.is at this;simp only[Bool.and_eq_true,Bool.or_eq_true,beq_iff_eq] at this;rcases this with e|e <;> rw[e.2] <;> rfl);exact⟨λ_=>b,λe=>by simp only at e;rw[d] at e;cases e⟩
   exact h
theorem afA {a:Fn}(b:Z7 a):Z7 (gR a):=⟨λst h=>adh 1300 _ (b.go st h),λst e=>by rw[abI (.inl (by rw[b.bk st e];exact e)),b.bk st e]⟩
end
section
variable {c b:Fn} {a:St}
theorem acs {d:Xb}{n:Nat}(e:aaq d.toList=false)(h:Nz a):Nz (fK d n a).1:=h.ad.put (λ_=>abb e)
theorem ad3 (h:Nz a)(d:a.t.k=2):Nz (kc a).1:=h.ad.put (λ_=>⟨λ_=>h.nm d,λe=>absurd e (by show ¬aaq gQ.toList=false;decide +kernel)⟩)
theorem afR (d:Z7 c):Z7 (bF c):=by
 refine⟨λa h=>?_,λa e=>?_⟩
 . unfold bF;split
   . exact d.go a h
   rename_i f
   exact ad3 h (Classical.byContradiction λe=>f (.inr e))
 unfold bF;rw[ag (.inl e)];exact d.bk a e
theorem aco (d:Z7 b):∀(f:Nat) (x:St×List Nat),Nz x.1->Nz (cY b f x).1/\((cY b f x).1.er=0->x.1.er=0)
 | 0,_,h=>⟨h,id⟩
 | f+1,x,h=>by
   unfold cY;split
   . rename_i e
     have:=aco d f ((b x.1.ad).1,x.2++[(b x.1.ad).2]) (d.go _ h.ad);exact⟨this.1,λ_=>e.1⟩
   exact⟨h,id⟩
theorem afS (d:Z7 b){f:Tk}(g:Z9 f.s)(h:Nz a):Nz (Fs b f a).1:=by
 unfold Fs;split
 . simp only;unfold cL;exact (((aco d 1300 _ (d.go _ h.enter)).1.ac _ _).aI).put (λ_=>⟨λ_=>g,λe=>absurd e (by show ¬aaq fL.toList=false;decide +kernel)⟩)
 exact h.fail (by decide) _
theorem afv (d:Z7 b)(h:Nz a):Nz (fp b a).1 :=
 ((d.go _ ((d.go _ ((d.go _ h.enter).ac _ _)).ac _ _)).aI).put (λ_=>abb (by decide +kernel))
theorem af1 (f:Z7 c)(h:Nz a):Nz (fs c a).1:=by have d:=afR f;refine ((d.go _ (d.go _ h.enter.name)).aI).put (λe=>⟨λ_=>?_,λe=>absurd e (by show ¬aaq iL.toList=false;decide +kernel)⟩);exact h.enter.nm (aaC (d.er (d.er e)))
theorem afZ (d:Z7 b)(h:Nz a):Nz (iM b a).1:=((d.go _ h.enter).ac _ _).aI
theorem agx {g:Fn}(d:Z7 b)(i:Z7 g):Z7 (aN b g):=by
 refine⟨λa h=>?_,λa e=>aeh e⟩;unfold aN;split
 . exact h
 split
 . exact acs (by decide +kernel) h
 split
 . rename_i f
   split
   . exact afS d (h.nm f) h.ad
   exact ad3 h f
 split
 . exact afZ d h
 split
 . exact acs (by decide +kernel) h
 split
 . exact acs (by decide +kernel) h
 split
 . exact afv d h
 split
 . exact af1 i h
 exact h.fail (by decide) _
theorem afQ {d:Fn}(g:Z7 b)(f:Z7 d):Z7 (fe b d):=by
 refine⟨λa h=>?_,λa e=>by rw[abS (.inl (by rw[f.bk a e];exact e)),f.bk a e]⟩;unfold fe;simp only;split
 . exact ((g.go _ (f.go a h).enter).aI).put (λ_=>abb (by decide +kernel))
 exact f.go a h
theorem abz:∀d:Nat,Z7 (fx d).ex/\Z7 (fx d).un/\Z7 (fx d).at'
 | 0=>⟨⟨λ_ h=>h,λ_ _=>rfl⟩,⟨λ_ h=>h,λ_ _=>rfl⟩,⟨λ_ h=>h,λ_ _=>rfl⟩⟩
 | d+1=>by obtain⟨e,i,j⟩:=abz d;have f:Z7 (fx (d+1)).at':=(by rw[aba];exact agx e j);have g:Z7 (fx (d+1)).un:=(by rw[abA];exact af4 i (afA f));refine⟨?_,g,f⟩;rw[abO];exact afQ e (abN (abN (afO (abN (abN g)))))
end
end Go.Proofs.YtcnelakggnfnhaaGreatDoor
