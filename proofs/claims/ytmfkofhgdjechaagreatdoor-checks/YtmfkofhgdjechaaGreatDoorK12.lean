/- Part 13 of the proof. -/
import Derived.Deep.DrawnRows
import Derived.Maps.OwnSet
import Derived.Test.YtmfkofhgdjechaaGreatDoorK11
set_option maxRecDepth 100000
set_option maxHeartbeats 8000000
namespace Go.Proofs.YtmfkofhgdjechaaGreatDoor
open Go.Proofs.Tryz
section
variable {a:Act} {e:Array Bool} {d:Array Oper} {Q:Exit->Act->World->Prop} {j:Nat} {f:Oper} {P:Program} {g:Region.Mode} {v:Xv} {w:Xw} {S:World->Prop}
theorem kt {i:Nat}(m:d[i]?=some f)
 (b:(Region.noSelect d&&(Region.free g d e i&&(Region.ready g d e).contains i))=true)
 (k:∀c a w,Q (.panic c) (a.put f.dst v) w->Q (.panic c) a w) (n:YieldsIf P d S f v a) (l:S w)
 (h:wpAnyH P g d Q S j (e.setIfInBounds i true) (a.put f.dst v) w):wpAnyH P g d Q S (j+1) e a w:=by
 simp only[Bool.and_eq_true] at b;exact wpAnyH_take m b.1 b.2.1 b.2.2 k n l h
theorem aR (i:Nat)(l:d[i]?=some f)(m:YieldsIf P d S f v a)
 (h:wpAnyH P g d Q S j (e.setIfInBounds i true) (a.put f.dst v) w)
 (k:(Region.noSelect d&&(Region.free g d e i&&(Region.ready g d e).contains i))=true:=by kernel_rfl)
 (hQ:∀c a w,Q (.panic c) (a.put f.dst v) w->Q (.panic c) a w:=by exact λ_ _ _ h=>h) (b:S w:=by assumption):wpAnyH P g d Q S (j+1) e a w:=kt l k hQ m b h
theorem aD:(∀{α:Type} (a:α) (l:List α) (h:0<(a::l).length),(a::l)[0]'h=a)/\(∀{α:Type} (a:α) (l:List α) (i:Nat) (h:i+1<(a::l).length),(a::l)[i+1]'h=l[i]'(Nat.lt_of_succ_lt_succ h))/\(∀{α:Type} {l:List α} {i:Nat} (h:i<l.toArray.size),l.toArray[i]'h=l[i]'(by simpa using h))/\(∀{α:Type} (l:List α) (i:Nat) (a:α),l.toArray.setIfInBounds i a=(l.set i a).toArray)/\(∀{α:Type} {l:List α} {a b:α},(a::l).set 0 b=b::l)/\∀{α:Type} {l:List α} {a b:α} {n:Nat},(a::l).set (n+1) b=a::l.set n b :=
 ⟨λ_ _ _=>rfl,λ_ _ _ _=>rfl,λ_=>rfl,λl i a=>K7 l i a,rfl,rfl⟩
end
section
open Go.RowKit
attribute [local go_sem ↓] Go.wp_at_zero Go.wp_at_succ
theorem zB {w:Xw}{B n a:Nat}{e:Xy}{d:Xv}{k:Xm}(h:w.ownsRow B e a d n k):∃x f,d=.slice x n f:=by
 rcases h.2 with ⟨c,j⟩|⟨g,b,i,c,_⟩
 . exact⟨none,0,by rw[c,j]⟩
 exact⟨_,b,c⟩
end
section
open Go.RowKit
attribute [local go_sem ↓] Go.wp_at_zero Go.wp_at_succ
theorem nB {w:Xw}{B n f:Nat}{e:Xy}{a:Xp}{b:Xm}(h:w.ownsRow B e 1 (.slice a n f) n b){k:Nat}{u:Xv}(c:b[k]?=some u):∃g,a=some (xD g 0)/\xC w g k u:=by
 have l:b.length=n:=by simpa using h.1
 have i:=(aB.1 c).1;obtain⟨g,d,j,_⟩:=zM h (by omega);cases j;exact⟨g,rfl,r5 h c⟩
end
section
open Go.RowKit
variable {b:Nat} {w:Xw}
structure nR {κ:Type} [DecidableEq κ] (P:Program) (K:Xy) (enc:κ->Value):Prop where
 check:∀(em:Bool) (k:κ) (w:Xw),(Instr.checkKey em 10000 K (enc k)).run P w=.ok () w
 find:∀(k:κ) (es:List MapEntry) (ks:List κ) (w:Xw),es.map (·.key)=ks.map enc ->
  (k ∉ ks->(Instr.findKey K (enc k) es).run P w=.ok none w) /\
  (∀j e,ks.idxOf? k=some j->es[j]?=some e->(Instr.findKey K (enc k) es).run P w=.ok (some (j,e.val)) w)
 stays:∀(k:κ) (w:Xw),(Instr.keyThatStays (enc k) (enc k)).run P w=.ok (enc k) w
section
variable {κ:Type} [DecidableEq κ]
def fb (w:Xw)(b:Nat)(a:κ->Value)(l:List (κ×Value)):Prop :=
 ∃d c,w.heap[b]?=some (.map d c)/\d.toList.map (λe=>(e.key,e.val))=l.map (λp=>(a p.1,p.2))
def db (k:κ):List (κ×Value)->Option Value
 | []=>none
 | p::l=>if p.1=k then some p.2 else db k l
def hL (k:κ)(v:Xv):List (κ×Value)->List (κ×Value)
 | []=>[(k,v)]
 | p::l=>if p.1=k then (k,v)::l else p::hL k v l
theorem rJ (k c:κ)(v:Xv):∀l:List (κ×Value),db c (hL k v l)=if k=c then some v else db c l:=by
 intro l;induction l with
 | nil=>simp[hL,db]
 | cons p l g =>
   unfold hL;split
   . rename_i h
     unfold db;by_cases d:k=c
     . subst d;simp
     have:¬p.1=c:=λe=>d (h.symm.trans e);simp[d,this]
   rename_i h
   unfold db;by_cases f:p.1=c
   . have:¬k=c:=λe=>h (f.trans e.symm);simp[f,this]
   simp[f,g]
theorem fb.of {θ:Type}{d:Xw}{a:θ->Value}{l:List (θ×Value)}(h:fb w b a l)(i:d.heap[b]?=w.heap[b]?):fb d b a l:=by obtain⟨e,c,f,g⟩:=h;exact⟨e,c,i.trans f,g⟩
theorem fb.lt {θ:Type}{a:θ->Value}{l:List (θ×Value)}(h:fb w b a l):b<w.heap.size:=by
 obtain⟨e,c,d,f⟩:=h;rcases Nat.lt_or_ge b w.heap.size with h|h
 . exact h
 rw[Array.getElem?_eq_none h] at d;cases d
theorem Me {k:κ}:∀{l:List (κ×Value)},k ∉ l.map (·.1)->db k l=none:=by
 intro l;induction l with
 | nil=>intro _;rfl
 | cons p l c => intro h;simp at h;unfold db;rw[ae (λe=>h.1 e.symm)];exact c (by simpa using h.2)
theorem yj {k:κ}:∀{l:List (κ×Value)} {j:Nat},(l.map (·.1)).idxOf? k=some j->∃p,l[j]?=some p/\p.1=k/\db k l=some p.2/\∀v,hL k v l=l.set j (k,v):=by
 intro l;induction l with
 | nil=>intro j h;simp at h
 | cons p l m =>
   intro j h;rw[List.map_cons,List.idxOf?_cons] at h;by_cases c:p.1=k
   . simp[c] at h;subst h;exact⟨p,rfl,c,by simp[db,c],λv=>by simp[hL,c]⟩
   simp[c] at h;obtain⟨n,d,rfl⟩:=h;obtain⟨q,e,f,g,i⟩:=m (by simpa using d);exact⟨q,by simpa using e,f,by simp[db,c,g],λv=>by simp[hL,c,i v]⟩
theorem rR {k:κ}{v:Xv}:∀{l:List (κ×Value)},k ∉ l.map (·.1)->hL k v l=l++[(k,v)]:=by
 intro l;induction l with
 | nil=>intro _;rfl
 | cons p l c => intro h;simp at h;unfold hL;rw[ae (λe=>h.1 e.symm),c (by simpa using h.2)];rfl
theorem xF {k:κ}{l:List κ}(h:k∈l):∃j,l.idxOf? k=some j:=by
 cases c:l.idxOf? k with
 | none=>rw[List.idxOf?_eq_none_iff] at c;exact absurd h c
 | some j=>exact⟨j,rfl⟩
variable {P:Program} {K E T:Xy} {a:κ->Value}
theorem rN (g:nR P K a)(u:P.underlying T=some (.map K E)){z:Xv}(C:∀w,(zeroValue E).run P w=.ok z w){l:List (κ×Value)}(h:fb w b a l)(k:κ)(v:Bool) :
 (Instr.lookup T (.map (some b)) (a k) v).run P w=.ok (if v then .tuple #[(db k l).getD z,.bool (db k l).isSome] else (db k l).getD z) w:=by
 obtain⟨d,c,A,f⟩:=h;have n:d.toList.map (·.key)=(l.map (·.1)).map a:=by have:=congrArg (List.map Prod.fst) f;simpa [List.map_map,Function.comp_def] using this
 have s:(getObj b).run P w=.ok (.map d c) w:=MapKept.run_getObj_map A;obtain⟨f1,f2⟩:=g.find k d.toList (l.map (·.1)) w n;by_cases o:k∈l.map (·.1)
 . obtain⟨j,t⟩:=xF o;obtain⟨p,q,D,y,_⟩:=yj t;have m:=(aB.1 q).1;obtain⟨e,r⟩:∃e,d.toList[j]?=some e:=⟨_,av (by have:=congrArg List.length f;simp at this;simpa [this] using m)⟩;have B:e.val=p.2:=by have:=congrArg (λx=>(x[j]?).map Prod.snd) f;simp[List.getElem?_map,r,q] at this;simpa using this
   have i:=f2 j e t r;rw[y];simp[Instr.lookup,run_underlying u,s,g.check,i,B]
 have i:=f1 o;rw[Me o];simp[Instr.lookup,run_underlying u,s,g.check,i,C]
theorem pq (u:nR P K a)(J:P.underlying T=some (.map K E)){l:List (κ×Value)}(h:fb w b a l)(k:κ)(v:Xv) :
 ∃C,(Instr.mapUpdate T (.map (some b)) (a k) v).run P w=.ok () C/\fb C b a (hL k v l)/\Fr (·=b) w C:=by
 have t:=h.lt;obtain⟨d,c,F,g⟩:=h;have A:d.toList.map (·.key)=(l.map (·.1)).map a:=by have:=congrArg (List.map Prod.fst) g;simpa [List.map_map,Function.comp_def] using this
 have G:(getObj b).run P w=.ok (.map d c) w:=MapKept.run_getObj_map F;have I:∀o,(setObj b o).run P w=.ok () { w with heap:=w.heap.setIfInBounds b o }:=λo=>MapKept.run_setObj_map o F;have n:∀o,Fr (·=b) w { w with heap:=w.heap.setIfInBounds b o }:=λo=>⟨rfl,rfl,rfl,by simp,λk _ N=>by simp[Ne.symm N]⟩;obtain⟨f1,f2⟩:=u.find k d.toList (l.map (·.1)) w A;by_cases B:k∈l.map (·.1)
 . obtain⟨j,H⟩:=xF B;obtain⟨p,D,L,O,M⟩:=yj H;have r:=(aB.1 D).1;obtain⟨e,y⟩:∃e,d.toList[j]?=some e:=⟨_,av (by have:=congrArg List.length g;simp at this;simpa [this] using r)⟩;have m:d[j]?=some e:=by simpa using y
   have s:e.key=a k:=(by have:=congrArg (λx=>(x[j]?).map Prod.fst) g;simp[List.getElem?_map,y,D,L] at this;simpa using this);have z:=f2 j e H y;refine⟨{ w with heap:=w.heap.setIfInBounds b (.map (d.modify j λe=>{ e with key:=a k,val:=v }) c) },?_,⟨d.modify j λe=>{ e with key:=a k,val:=v },c,?_,?_⟩,n _⟩
   . simp[Instr.mapUpdate,run_underlying J,G,u.check,z,m,s,u.stays];exact I _
   . simp[t]
   rw[M v];apply List.ext_getElem?;intro i;have f:=congrArg (λx=>x[i]?) g;simp only[List.getElem?_map] at f ⊢;rw[Array.getElem?_toList,Array.getElem?_modify,List.getElem?_set];rw[Array.getElem?_toList] at f;by_cases q:j=i
   . subst q;simp[m,r]
   simpa [q] using f
 have z:=f1 B;refine⟨{ w with heap:=w.heap.setIfInBounds b (.map (d.push { key:=a k,val:=v,born:=c }) (c+1)) },?_,⟨d.push { key:=a k,val:=v,born:=c },c+1,?_,?_⟩,n _⟩
 . simp[Instr.mapUpdate,run_underlying J,G,u.check,z];exact I _
 . simp[t]
 rw[rR B];simp[g]
end
theorem xu {κ:Type} [DecidableEq κ] {P:Program}{K:Xy}{c:κ->Value}(l:∀(a b:κ) (w:Xw),(Op.equal K (c a) (c b)).run P w=.ok (decide (a=b)) w)(k:κ)(w:Xw) :
 ∀(g:List MapEntry) (d:List κ) (i:Nat),g.map (·.key)=d.map c->(k ∉ d->(Instr.findAsking K (c k) g i).run P w=.ok none w)/\(∀j e,d.idxOf? k=some j->g[j]?=some e->(Instr.findAsking K (c k) g i).run P w=.ok (some (i+j,e.val)) w):=by
 intro g;induction g with
 | nil =>
   intro d i h;cases d with
   | nil=>exact⟨λ_=>rfl,λj e f=>by simp at f⟩
   | cons _ _=>simp at h
 | cons e g x =>
   intro d i h;cases d with
   | nil=>simp at h
   | cons s d =>
     simp only[List.map_cons,List.cons.injEq] at h;obtain⟨p,t⟩:=h;obtain⟨u,v⟩:=x d (i+1) t;by_cases n:k=s
     . subst n;refine⟨λo=>by simp at o,λj r f m=>?_⟩;simp[List.idxOf?_cons] at f;subst f;simp at m;subst m;simp[Instr.findAsking,p,l]
     refine⟨λo=>?_,λj r f m=>?_⟩
     . simp at o;simp[Instr.findAsking,p,l,n];exact u o.2
     rw[List.idxOf?_cons] at f;have:¬s=k:=λe=>n e.symm;simp[this] at f;obtain⟨y,q,rfl⟩:=f;have:=v y r (by simpa using q) (by simpa using m);simp[Instr.findAsking,p,l,n];rw[this];congr 3;omega
theorem yW (a b:Xb):(a==b)=decide (a=b):=by
 obtain⟨x⟩:=a;obtain⟨y⟩:=b;rw[Bool.eq_iff_iff];simp only[decide_eq_true_eq];constructor
 . intro h;unfold BEq.beq at h;have c:(x==y)=true:=h;rw[beq_iff_eq] at c;rw[c]
 intro h;cases h
 show (x==x)=true;simp
def pr (p:Int×Int):Value:=.agg #[xI p.1,xI p.2]
theorem Tryz.Aw (a b:Int×Int)(w:Xw):(Op.equal 228 (pr a) (pr b)).run prog w=.ok (decide (a=b)) w:=by
 unfold pr Op.equal;simp[go_sem,Op.maxDepth];by_cases c:a.1=b.1
 . by_cases d:a.2=b.2
   . simp[c,d,Prod.ext_iff]
   simp[c,d,Prod.ext_iff]
 simp[c,Prod.ext_iff]
theorem Tryz.qe:nR prog 228 pr where
 check em k w:=by
  unfold pr;have h:∀n:Nat,(Instr.checkKey em (n+2) 228 (.agg #[xI k.1,xI k.2])).run prog w=.ok () w:=by intro n;simp[Instr.checkKey,go_sem]
  exact h 9998
 find k a i w h:=by
  have d:(underlying 228).run prog w=.ok (.struct (prog.fieldsOf 228)) w:=by simp[go_sem]
  obtain⟨m,o⟩:=xu Tryz.Aw k w a i 0 h;cases a with
  | nil =>
    cases i with
    | nil=>exact⟨λ_=>by simp[Instr.findKey,d,Instr.findNow],λj e c=>by simp at c⟩
    | cons _ _=>simp at h
  | cons e a =>
    have g:∀f,Instr.findNow (.struct f) (pr k) (e::a) 0=none:=λf=>by simp[Instr.findNow,Instr.sameNow]
    refine⟨λq=>?_,λj l c p=>?_⟩
    . simp[Instr.findKey,d,g];exact m q
    simp[Instr.findKey,d,g];have:=o j l c p;rwa [Nat.zero_add] at this
 stays k w:=by unfold pr;simp[Instr.keyThatStays,Instr.sameBits]
theorem Tryz.Ax (a b:Int×Int)(w:Xw):(Op.equal 326 (pr a) (pr b)).run prog w=.ok (decide (a=b)) w:=by
 unfold pr Op.equal;simp[go_sem,Op.maxDepth];by_cases c:a.1=b.1
 . by_cases d:a.2=b.2
   . simp[c,d,Prod.ext_iff]
   simp[c,d,Prod.ext_iff]
 simp[c,Prod.ext_iff]
theorem Tryz.tg:nR prog 326 pr where
 check em k w:=by
  unfold pr;have h:∀n:Nat,(Instr.checkKey em (n+2) 326 (.agg #[xI k.1,xI k.2])).run prog w=.ok () w:=by intro n;simp[Instr.checkKey,go_sem]
  exact h 9998
 find k a i w h:=by
  have d:(underlying 326).run prog w=.ok (.struct (prog.fieldsOf 326)) w:=by simp[go_sem]
  obtain⟨m,o⟩:=xu Tryz.Ax k w a i 0 h;cases a with
  | nil =>
    cases i with
    | nil=>exact⟨λ_=>by simp[Instr.findKey,d,Instr.findNow],λj e c=>by simp at c⟩
    | cons _ _=>simp at h
  | cons e a =>
    have g:∀f,Instr.findNow (.struct f) (pr k) (e::a) 0=none:=λf=>by simp[Instr.findNow,Instr.sameNow]
    refine⟨λq=>?_,λj l c p=>?_⟩
    . simp[Instr.findKey,d,g];exact m q
    simp[Instr.findKey,d,g];have:=o j l c p;rwa [Nat.zero_add] at this
 stays k w:=by unfold pr;simp[Instr.keyThatStays,Instr.sameBits]
theorem JP {κ:Type} [DecidableEq κ] {d:TypeDesc}{enc:κ->Value}(l:∀a b:κ,Instr.sameNow d (enc a) (enc b)=some (decide (a=b)))(k:κ):∀(g:List MapEntry) (c:List κ) (i:Nat),g.map (·.key)=c.map enc->(k ∉ c->Instr.findNow d (enc k) g i=some none)/\(∀j e,c.idxOf? k=some j->g[j]?=some e->Instr.findNow d (enc k) g i=some (some (i+j,e.val))):=by
 intro g;induction g with
 | nil =>
   intro c i h;cases c with
   | nil=>exact⟨λ_=>rfl,λj e f=>by simp at f⟩
   | cons _ _=>simp at h
 | cons e g x =>
   intro c i h;cases c with
   | nil=>simp at h
   | cons s c =>
     simp only[List.map_cons,List.cons.injEq] at h;obtain⟨p,t⟩:=h;obtain⟨u,v⟩:=x c (i+1) t;by_cases n:k=s
     . subst n;refine⟨λo=>by simp at o,λj r f m=>?_⟩;simp[List.idxOf?_cons] at f;subst f;simp at m;subst m;simp[Instr.findNow,p,l]
     refine⟨λo=>?_,λj r f m=>?_⟩
     . simp at o;simp[Instr.findNow,p,l,n];exact u o.2
     rw[List.idxOf?_cons] at f;have:¬s=k:=λe=>n e.symm;simp[this] at f;obtain⟨y,q,rfl⟩:=f;have:=v y r (by simpa using q) (by simpa using m);simp[Instr.findNow,p,l,n];rw[this];congr 3;omega
theorem Tryz.th:nR prog 9 Value.string where
 check em k w:=by
  have h:∀n:Nat,(Instr.checkKey em (n+1) 9 (.string k)).run prog w=.ok () w:=by intro n;simp[Instr.checkKey,go_sem]
  exact h 9999
 find k es ks w h:=by
  have c:(underlying 9).run prog w=.ok .string w:=by simp[go_sem]
  obtain⟨f,g⟩:=JP (d:=.string) (enc:=Value.string) (λa b=>by simp[Instr.sameNow,yW]) k es ks 0 h;refine⟨λm=>?_,λj e l i=>?_⟩
  . simp[Instr.findKey,c,f m]
  simp[Instr.findKey,c,g j e l i]
 stays k w:=by simp[Instr.keyThatStays,Instr.sameBits,yW]
end
section
open Go.RowKit
variable {a b:Xb}
attribute [local go_sem ↓] Go.wp_at_zero Go.wp_at_succ
theorem mC (h:a=b):(a.toList==b.toList)=true:=by rw[h];simp
theorem mB (h:¬a=b):(a.toList==b.toList)=false:=by rw[bf];intro e;apply h;rw[ByteArray.toList_eq,ByteArray.toList_eq] at e;have:=Array.ext' e;cases a;cases b;simp_all
theorem KX:∀(l:List Vr) (k:Nat) (v:Vr),l[k]?=some v->∀j u,(jd v)[j]?=some u->(eT l)[k*7+j]?=some u:=by
 intro l;induction l with
 | nil=>intro k v h;simp at h
 | cons a l f =>
   intro k v h j u c;have e:eT (a::l)=jd a++eT l:=rfl;have d:(jd a).length=7:=rfl;cases k with
   | zero => simp at h;subst h;rw[e,Nat.zero_mul,Nat.zero_add,e9 (aB.1 c).1];exact c
   | succ k => simp at h;rw[e,e8 (by omega),d,show (k+1)*7+j-7=k*7+j by omega];exact f k v h j u c
def dv (v:Vr):Nat:=if v.bl=true then 1 else 0
theorem hj {w:Xw}{B n o:Nat}{e:Xy}{a:Xp}{l:List Vr}(h:w.ownsRow B e 7 (.slice a n o) n (eT l)){k:Nat}{v:Vr}(i:l[k]?=some v) :
 ∃g,a=some (xD g 0)/\xC w g (k*7) (.string v.nm)/\xC w g (k*7+1) (xI v.a)/\xC w g (k*7+2) (xI (dv v:Nat))/\xC w g (k*7+3) (xI (ba v:Nat))/\xC w g (k*7+4) (xI v.on)/\xC w g (k*7+5) (.string v.ck)/\xC w g (k*7+6) (xI v.ca):=by
 have r:(eT l).length=l.length*7:=by
  clear h i;induction l with
  | nil=>rfl
  | cons a l s=>show (jd a++eT l).length=_;rw[aP,s];simp[jd];omega
 have t:l.length=n:=by have:=h.1;omega
 have p:=(aB.1 i).1;obtain⟨g,m,q,_⟩:=zM h (by omega);cases q;have f:=h.cells (g:=g) rfl;have d:∀j,((xD g 0):Addr).add j=⟨g,j,none⟩:=λj=>by cases j <;> simp[Addr.add]
 have c:=KX l k v i;refine⟨g,rfl,?_,?_,?_,?_,?_,?_,?_⟩
 . have:=f _ _ (c 0 _ rfl);rwa [d] at this
 . have:=f _ _ (c 1 _ rfl);rwa [d] at this
 . have:=f _ _ (c 2 _ rfl);rwa [d] at this
 . have:=f _ _ (c 3 _ rfl);rwa [d] at this
 . have:=f _ _ (c 4 _ rfl);rwa [d] at this
 . have:=f _ _ (c 5 _ rfl);rwa [d] at this
 have:=f _ _ (c 6 _ rfl);rwa [d] at this
def pF (o:Xo):Value:=.tuple #[xI (o.getD 0:Nat),.bool o.isSome]
theorem rK {N:Nat}{n:ay}{t:Nat}{D A:Xv}{F:Xm}(s:Xb)(w:Xw)(h:NT w N n t D A F) :
 xK 101 #[xP t,.string s] w (λe E=>e=.returned (pF (n.find s))/\xB w E):=by
 obtain⟨O,P,Q,R,S,T,U,W⟩:=zt h.aC;obtain⟨x,z,rfl⟩:=zB h.bZ;have y:=za h.bZ;have r:=h.bO;clear h;go_enter func101,ntmps101;go_wp2_with fail;go_loopg [13] (n.ab.length+1) (λj i wr=>∃k:Nat,k+j=n.ab.length+1/\k<=n.ab.length/\i=xI k/\aa (bm s (n.ab.drop k) k=n.find s)/\aa (xB w wr));case atStart=>exact⟨0,by omega,aE _,rfl,rfl,Below.refl _ _⟩
 case round =>
  obtain⟨k,C,V,rfl,l,c⟩:=hrel;have m:aa (wr.ownsRow 0 156 7 (.slice x n.ab.length z) n.ab.length (eT n.ab)):=zi y.o (λb _ B _=>c.o.block b B);by_cases o:k<n.ab.length
  . obtain⟨v,q⟩:∃v,n.ab[k]?=some v:=⟨_,av o⟩;obtain⟨g,rfl,G,H,I,J,K,L,M⟩:=hj m.o q;have f:=yA (s:=s) q;rw[l.o] at f;clear l q;by_cases d:v.nm=s
    . rw[ag d] at f;have p:=mC d;clear d;go_wp2_with fail;refine bodyPost_ret (v:=.tuple #[xI k,.bool true]) (by simp[results,results101,go_sem]) rfl ⟨by rw[f];rfl,c.o.trans ((Below.refl _ _).alloc c.o.size _)⟩
    rw[ae d] at f;have p:=mB d;clear d;go_wp2_with fail;go_roundg (gk-1);case measure=>omega
    exact⟨k+1,by omega,by omega,by go_num,f.symm,c.o.trans ((Below.refl _ _).alloc c.o.size _)⟩
  have u:n.find s=none:=by rw[<- l.o,List.drop_of_length_le (by omega)];rfl
  clear l;go_wp2_with fail;refine bodyPost_ret (v:=.tuple #[xI 0,.bool false]) (by simp[results,results101,go_sem]) rfl ⟨by rw[u];rfl,c.o⟩
end
section
open Go.RowKit
variable {N:Nat} {d:Nd} {qv b xv:Xv} {W w:Xw}
def bC:Option Nat->Int
 | none=>-1
 | some n=>n
def lH (w:Xw)(N:Nat)(v:Xv)(l:List ax):Prop:=∃a c,v=.slice a l.length c/\l.length<=100000/\∀(i:Nat) (q:ax),l[i]?=some q->∃g h j e f,a=some (xD g 0)/\g<N/\w.cell? (xD g (i*4))=some (.slice h q.ns.length j)/\w.cell? (xD g (i*4+1))=some (.slice e q.ps.length f)/\w.cell? (xD g (i*4+2))=some (xI q.a)/\w.cell? (xD g (i*4+3))=some (xI (q.ex:Nat))/\kf w N (.slice h q.ns.length j) q.ns/\gm w N (.slice e q.ps.length f) q.ps
theorem lH.aH {v:Xv}{l:List ax}(h:lH w N v l)(c:Below N w W):lH W N v l:=by obtain⟨a,f,s,t,u⟩:=h;refine⟨a,f,s,t,λi q x=>?_⟩;obtain⟨g,A,B,y,z,r,e,j,k,m,n,o,p⟩:=u i q x;exact⟨g,A,B,y,z,r,e,cA c e j,cA c e k,cA c e m,cA c e n,o.aH c,p.aH c⟩
structure kX (w:Xw) (N:Nat) (b xv qv:Xv) (d:Nd):Prop where
 vs:iW w N b d.ab
 xs:lK w N xv d.az
 qs:lH w N qv d.eqs
theorem kX.aH (h:kX w N b xv qv d)(a:Below N w W):kX W N b xv qv d:=⟨h.vs.aH a,h.xs.aH a,h.qs.aH a⟩
theorem qM (nm s:Xb)(a:Int)(w:Xw)(h:iW w N b d.ab)(P:N<=w.heap.size)(C:∃a n c,xv=.slice a n c)(f:∃a n c,qv=.slice a n c) :
 xK 169 #[.agg #[.string nm,xI a,b,xv,qv],.string s] w (λe I=>e=.returned (xI (bC (bm s d.ab 0)))/\xB w I):=by
 obtain⟨G,H,rfl,o,u⟩:=h;obtain⟨J,M,K,rfl⟩:=C;obtain⟨D,F,E,rfl⟩:=f;have y:=za u;obtain⟨L,p⟩:∃L,d.ab.length=L:=⟨_,rfl⟩;have t:=za p;rw[p] at o ⊢;clear u p;go_enter func169,ntmps169;go_wp2_with fail;go_loopg [5] (L+1) (λj i wr=>∃k:Nat,k+j=L+1/\k<=L/\i=xI k/\aa (bm s (d.ab.drop k) k=bm s d.ab 0)/\wr=w.alloc (.cells #[.string nm,xI a,.slice G L H,.slice J M K,.slice D F E] 103));case atStart=>exact⟨0,by omega,aE _,rfl,rfl,rfl⟩
 case round =>
  obtain⟨k,A,R,rfl,m,rfl⟩:=hrel;by_cases B:k<L
  . obtain⟨v,r⟩:∃v,d.ab[k]?=some v:=⟨_,av (by have:=t.o;omega)⟩;obtain⟨_,g,rfl,Q,O,_⟩:=y.o k v r;have l:=yA (s:=s) r;rw[m.o] at l;have z:g<w.heap.size:=by omega
    clear m r;by_cases f:v.nm=s
    . rw[ag f] at l;have q:=mC f;clear f;go_wp2_with fail;go_ret;exact⟨by rw[l];rfl,(Below.refl _ _).alloc (an _) _⟩
    rw[ae f] at l;have q:=mB f;clear f;go_wp2_with fail;go_roundg (gk-1);case measure=>omega
    exact⟨k+1,by omega,by omega,by go_num,l.symm,rfl⟩
  have x:bm s d.ab 0=none:=by rw[<- m.o,List.drop_of_length_le (by have:=t.o;omega)];rfl
  clear m;go_wp2_with fail;go_ret;exact⟨by rw[x];rfl,(Below.refl _ _).alloc (an _) _⟩
end
section
open Go.RowKit
variable {f:List Nd} {N r k:Nat} {o:Xo} {t:Xv} {W w:Xw}
def ea (s:Xb):List Nd->Nat->Option Nat
 | [],_=>none
 | n::l,i=>if n.nm=s then some i else ea s l (i+1)
theorem EV {s:Xb}{l:List Nd}{v:Nd}(h:l[k]?=some v):ea s (l.drop k) k=if v.nm=s then some k else ea s (l.drop (k+1)) (k+1):=by obtain⟨a,b⟩:=aB.1 h;rw[dE a,b];rfl
def mL (w:Xw)(N:Nat)(t:Xv)(f:List Nd):Prop:=∃a b,t=.slice a f.length b/\f.length<=6/\∀(k:Nat) (d:Nd),f[k]?=some d->∃g i l j m p n c h e,a=some (xD g 0)/\g<N/\w.cell? (xD g (k*5))=some (.string d.nm)/\w.cell? (xD g (k*5+1))=some (xI d.a)/\w.cell? (xD g (k*5+2))=some (.slice i l j)/\w.cell? (xD g (k*5+3))=some (.slice m p n)/\w.cell? (xD g (k*5+4))=some (.slice c h e)/\kX w N (.slice i l j) (.slice m p n) (.slice c h e) d
theorem mL.aH (h:mL w N t f)(c:Below N w W):mL W N t f:=by obtain⟨a,e,s,u,v⟩:=h;refine⟨a,e,s,u,λk d x=>?_⟩;obtain⟨g,B,D,C,E,G,F,y,A,z,q,b,i,j,l,m,n,p⟩:=v k d x;exact⟨g,B,D,C,E,G,F,y,A,z,q,b,cA c b i,cA c b j,cA c b l,cA c b m,cA c b n,p.aH c⟩
structure Ak (w:Xw) (N r:Nat) (t:Xv) (f:List Nd) (o:Xo):Prop where
 aC:w.heap[r]?=some (.cells #[t,xI (bC o)] 193 (0,0))
 ns:mL w N t f
 lt:N<=r
theorem Ak.on (h:Ak w N r t f o)(a:xB w W):Ak W N r t f o :=
 ⟨(a.block r (ze h.aC)).trans h.aC,h.ns.aH (a.mono (by have:=ze h.aC;have:=h.lt;omega)),h.lt⟩
theorem du (p:Nat)(w:Xw)(h:Ak w N r t f o) :
 xK 246 #[xP r,xI p] w (λe n=>e=.returned (.tuple #[])/\Ak n N r t f (aj o p)/\Fr (λk=>k=r) w n):=by
 obtain⟨a,j,rfl,x,s⟩:=h.ns;have c:=za h;obtain⟨v,m,y,z⟩:=zp h.aC;clear h s;have i:∀q:Nat,Ak (w.setCell (xD r 1) (xI q)) N r (.slice a f.length j) f (some q)/\Fr (λk=>k=r) w (w.setCell (xD r 1) (xI q)):=λq=>by have hF:Fr (λk=>k=r) w (w.setCell (xD r 1) (xI q)):=Fr.aY (Fr.refl _ _) 1 _;refine⟨⟨zh _ _ _ _ c.o.aC,c.o.ns.aH (hF.below (by have:=c.o.lt;omega) (λk e=>by subst e;exact c.o.lt)),c.o.lt⟩,hF⟩
 have l:=za i;clear i;cases o with
 | none => unfold bC at m;go_enter func246,ntmps246;go_wp2_with fail;go_end0;exact⟨rfl,l.o p⟩
 | some b =>
   unfold bC at m;have u:¬((b:Int)<0):=(by omega);by_cases d:p<b
   . have g:((p:Int)<(b:Int)):=(by omega);go_enter func246,ntmps246;go_wp2_with fail;go_end0;exact⟨rfl,by rw[show aj (some b) p=some p from ag d];exact l.o p⟩
   have g:¬((p:Int)<(b:Int)):=(by omega);go_enter func246,ntmps246;go_wp2_with fail;go_end0;exact⟨rfl,by rw[show aj (some b) p=some b from ae d];exact c.o,Fr.refl _ _⟩
theorem lX (s:Xb)(m:Nat)(G:m<=f.length)(w:Xw)(h:Ak w N r t f o) :
 xK 95 #[xP r,.string s,xI m] w (λe H=>e=.returned (xI (bC (ea s (f.take m) 0)))/\w=H):=by
 obtain⟨a,B,rfl,C,v⟩:=h.ns;have F:=h.lt;obtain⟨A,I,J,O⟩:=zp h.aC;have y:=za v;obtain⟨L,p⟩:∃L,f.length=L:=⟨_,rfl⟩;have x:=za p;rw[p] at C G A;clear h v p;go_enter func95,ntmps95;go_wp2_with fail;go_loopg [7] (m+1) (λj i wr=>∃k:Nat,k+j=m+1/\k<=m/\i=xI k/\aa (ea s ((f.take m).drop k) k=ea s (f.take m) 0)/\wr=w);case atStart=>exact⟨0,by omega,aE _,rfl,rfl,rfl⟩
 case round =>
  obtain⟨k,E,M,rfl,n,rfl⟩:=hrel;by_cases l:k<m
  . obtain⟨d,q⟩:∃d,f[k]?=some d:=⟨_,av (by have:=x.o;omega)⟩;obtain⟨g,T,V,U,X,Z,Y,Q,S,R,rfl,K,P,_⟩:=y.o k d q;have c:=EV (s:=s) (show (f.take m)[k]?=some d by rw[List.getElem?_take,ag l];exact q);rw[n.o] at c;have D:k<L:=by omega
    clear n q;by_cases b:d.nm=s
    . rw[ag b] at c;have u:=mC b;clear b;go_wp2_with fail;go_ret;exact⟨by rw[c];rfl,rfl⟩
    rw[ae b] at c;have u:=mB b;clear b;go_wp2_with fail;go_roundg (gk-1);case measure=>omega
    exact⟨k+1,by omega,by omega,by go_num,c.symm,rfl⟩
  have z:ea s (f.take m) 0=none:=by rw[<- n.o,List.drop_of_length_le (by rw[List.length_take];omega)];rfl
  clear n;go_wp2_with fail;go_ret;exact⟨by rw[z];rfl,rfl⟩
def fC (x:Nat):List ax->Nat
 | []=>1
 | q::l=>if q.ex=x/\1<q.ns.length then q.ns.length else fC x l
theorem Ff {x:Nat}{l:List ax}{q:ax}(h:l[k]?=some q):fC x (l.drop k)=if q.ex=x/\1<q.ns.length then q.ns.length else fC x (l.drop (k+1)):=by obtain⟨a,b⟩:=aB.1 h;rw[dE a,b];rfl
theorem FD {G H F:Xv}{d:Nd}(nm:Xb)(a:Int)(x:Nat)(w:Xw)(h:lH w N F d.eqs)(hN:N<=w.heap.size)(S:∃a n c,G=.slice a n c)(T:∃a n c,H=.slice a n c) :
 xK 247 #[.agg #[.string nm,xI a,G,H,F],xI x] w (λe w'=>e=.returned (xI (fC x d.eqs:Nat))/\xB w w'):=by
 obtain⟨U,V,rfl,v,E⟩:=h;obtain⟨X,Z,Y,rfl⟩:=S;obtain⟨ak,ar,al,rfl⟩:=T;have J:=za E;obtain⟨L,z⟩:∃L,d.eqs.length=L:=⟨_,rfl⟩;have B:=za z;rw[z] at v ⊢;clear E z;go_enter func247,ntmps247;go_wp2_with fail;go_loopg [5] (L+1) (λj i wr=>∃k:Nat,k+j=L+1/\k<=L/\i=xI k/\aa (fC x (d.eqs.drop k)=fC x d.eqs)/\wr=w.alloc (.cells #[.string nm,xI a,.slice X Z Y,.slice ak ar al,.slice U L V] 103));case atStart=>exact⟨0,by omega,aE _,rfl,rfl,rfl⟩
 case round =>
  obtain⟨k,Q,a0,rfl,s,rfl⟩:=hrel;by_cases R:k<L
  . obtain⟨q,A⟩:∃q,d.eqs[k]?=some q:=⟨_,av (by have:=B.o;omega)⟩;obtain⟨g,u1,u2,a2,a3,rfl,hg,K,c1,c2,M,_⟩:=J.o k q A;have b:=Ff (x:=x) A;rw[s.o] at b;have P:g<w.heap.size:=by omega
    obtain⟨u,m⟩:∃u,q.ex=u:=⟨_,rfl⟩;obtain⟨p,l⟩:∃p,q.ns.length=p:=⟨_,rfl⟩;rw[m] at M b;rw[l] at K b;clear s A m l;by_cases C:u=x
    . subst C;by_cases D:1<p
      . rw[ag ⟨rfl,D⟩] at b;have y:(1:Int)<(p:Int):=(by omega);go_wp2_with fail;go_ret;exact⟨by rw[b];rfl,(Below.refl _ _).alloc (an _) _⟩
      rw[ae (λe=>D e.2)] at b;have y:¬((1:Int)<(p:Int)):=(by omega);go_wp2_with fail;go_roundg (gk-1);case measure=>omega
      exact⟨k+1,by omega,by omega,by go_num,b.symm,rfl⟩
    rw[ae (λe=>C e.1)] at b;have O:((u:Int)==(x:Int))=false:=(by rw[bf];omega);go_wp2_with fail;go_roundg (gk-1);case measure=>omega
    exact⟨k+1,by omega,by omega,by go_num,b.symm,rfl⟩
  have I:fC x d.eqs=1:=by rw[<- s.o,List.drop_of_length_le (by have:=B.o;omega)];rfl
  clear s;go_wp2_with fail;go_ret;exact⟨by rw[I];rfl,(Below.refl _ _).alloc (an _) _⟩
end
section
open Go.RowKit
variable {N:Nat} {d:Nd} {qv f xv:Xv}
def dP (b:Bool):List Vr->Nat
 | []=>0
 | v::l=>(if (if b=true then v.bn else v.out)=true then 1 else 0)+dP b l
theorem wt {b:Bool}:∀{l:List Vr} {k:Nat} {v:Vr},l[k]?=some v->dP b (l.take (k+1))=dP b (l.take k)+(if (if b=true then v.bn else v.out)=true then 1 else 0)
 | [],k,v,h=>by simp at h
 | x::l,0,v,h=>by simp at h;subst h;simp[dP]
 | x::l,k+1,v,h=>by have:=wt (b:=b) (l:=l) (k:=k) (v:=v) (by simpa using h);rw[cI,cI,dP,dP,this];omega
theorem vU (nm:Xb)(a:Int)(b:Bool)(w:Xw)(h:iW w N f d.ab)(Y:N<=w.heap.size)(M:∃a n c,xv=.slice a n c)(K:∃a n c,qv=.slice a n c) :
 xK 46 #[.agg #[.string nm,xI a,f,xv,qv],.bool b] w (λe T=>e=.returned (xI (dP b d.ab:Nat))/\xB w T):=by
 obtain⟨R,S,rfl,q,y⟩:=h;obtain⟨U,W,V,rfl⟩:=M;obtain⟨O,Q,P,rfl⟩:=K;have A:=za y;obtain⟨L,r⟩:∃L,d.ab.length=L:=⟨_,rfl⟩;have x:=za r;rw[r] at q ⊢;clear y r;go_enter func46,ntmps46;go_wp2_with fail;go_loopg [5,6] (L+1) (λj c i wr=>∃k C:Nat,k+j=L+1/\k<=L/\C<=k/\i=xI k/\c=xI C/\aa (C=dP b (d.ab.take k))/\wr=w.alloc (.cells #[.string nm,xI a,.slice R L S,.slice U W V,.slice O Q P] 103));case atStart=>exact⟨0,0,by omega,aE _,an _,rfl,rfl,rfl,rfl⟩
 case round =>
  obtain⟨k,C,I,ak,X,rfl,rfl,p,rfl⟩:=hrel;by_cases J:k<L
  . obtain⟨v,s⟩:∃v,d.ab[k]?=some v:=⟨_,av (by have:=x.o;omega)⟩;obtain⟨_,g,rfl,Z,B,D,E,F,G,_⟩:=A.o k v s;have o:=wt (b:=b) s;rw[<- p.o] at o;have H:g<w.heap.size:=by omega
    obtain⟨t,l⟩:∃t,v.bn=t:=⟨_,rfl⟩;obtain⟨u,m⟩:∃u,v.out=u:=⟨_,rfl⟩;rw[l,m] at o;rw[l] at F;rw[m] at G;have o:=za o;clear p s B D E l m;cases b <;> cases t <;> cases u <;> (go_wp2_with fail;go_roundg (gk-1);(case measure=>omega);first|exact⟨k+1,C+1,by omega,by omega,by omega,by go_num,by go_num,o.o.symm,rfl⟩|exact⟨k+1,C,by omega,by omega,by omega,by go_num,rfl,o.o.symm,rfl⟩)
  have z:C=dP b d.ab:=by rw[p.o,de (by have:=x.o;omega)]
  clear p;go_wp2_with fail;go_ret;exact⟨by rw[<- z];rfl,(Below.refl _ _).alloc (an _) _⟩
def eN (a:List Vr)(v:Vr):Int×Bool:=if v.tm=true then (bC (bm v.ck a 0),v.nt) else (-1,false)
def k0 (c:Int×Bool):Value:=.agg #[xI c.1,.bool c.2]
theorem ng (nm:Xb)(a:Int)(i:Nat)(v:Vr)(y:d.ab[i]?=some v)(w:Xw)(h:iW w N f d.ab)(K:N<=w.heap.size)(P:∃a n c,xv=.slice a n c)(M:∃a n c,qv=.slice a n c) :
 xK 168 #[.agg #[.string nm,xI a,f,xv,qv],xI i] w (λe k=>e=.returned (k0 (eN d.ab v))/\xB w k):=by
 have p:=za (λW (I:xB w W)=>qM nm v.ck a W (h.aH (I.mono K)) (aJ K I.size) P M);obtain⟨bx,C,rfl,s,H⟩:=h;obtain⟨D,F,E,rfl⟩:=P;obtain⟨z,B,A,rfl⟩:=M;obtain⟨_,g,rfl,hg,R,S,T,U,V,X,Y,ak,al,G⟩:=H i v y;have ar:=(aB.1 y).1;obtain⟨L,J⟩:∃L,d.ab.length=L:=⟨_,rfl⟩;rw[J] at s ar p ⊢;have l:g<w.heap.size:=by omega
 unfold eN k0;obtain⟨r,O⟩:∃r,bC (bm v.ck d.ab 0)=r:=⟨_,rfl⟩;rw[O] at p ⊢;clear H J O y R S T U V X ak;cases o:v.tm with
 | false => rw[o] at G;go_enter func168,ntmps168;go_wp2_with fail;refine bodyPost_ret (v:=.agg #[xI (-1),.bool false]) (by simp[results,results168,go_sem]) rfl ⟨rfl,?_⟩;exact ((Below.refl _ _).alloc (an _) _).alloc (by simp) _
 | true =>
   rw[o] at G;go_enter func168,ntmps168;go_upto_region 3 with fail;refine zn (λW=>(W.heap[w.heap.size]?=some (.cells #[.string nm,xI a,xS g L C,.slice D F E,.slice z B A] 103 (0,0))/\W.heap[w.heap.size+1]?=some (.cells #[xI 0,.bool false] 309 (0,0)))/\xB w W) ⟨⟨(Below.heap_alloc _ _ _ (by simp)).trans (zc w _),by have:=zc (w.alloc (.cells #[.string nm,xI a,xS g L C,.slice D F E,.slice z B A] 103)) (.cells #[xI 0,.bool false] 309);rwa [au] at this⟩,cT w _ _⟩ ?_;rintro W ⟨⟨a0,m⟩,j⟩;obtain⟨bl,s1,s2,bp,bs,bt,a3⟩:=bz a0;obtain⟨a9,be,bk,a2⟩:=zp m;have Z:=zd j Y l;have q:=zd j al l;have Q:=za (p.o W.drew ⟨j.os,j.tape,j.output,j.size,j.block⟩);have u:g<W.heap.size:=(by have:=j.size;omega)
   go_region_held3 (λk=>k.cell? (xD w.heap.size 0)=some (.string nm)/\k.cell? (xD w.heap.size 1)=some (xI a)/\k.cell? (xD w.heap.size 2)=some (xS g L C)/\k.cell? (xD w.heap.size 3)=some (.slice D F E)/\k.cell? (xD w.heap.size 4)=some (.slice z B A)/\k.cell? (xD g (i*10+6))=some (.string v.ck))
    (first|(with_reducible (refine⟨?_,?_,?_,?_,?_,?_⟩ <;> repeat (first|assumption|refine zg ?_|refine zj _ ?_|refine zk (by omega) ?_|refine zd b.o ?_ (by first|omega|(rw[au];omega)))))|go_keep)
    (first
      | (go_at_call 169;refine Q.o.mono ?_;rintro e bE ⟨rfl,t⟩;have b:=za (zw t)))
   all_goals (have t0:=zd b.o s2 a3;have t1:=zd b.o q u;have x:=(b.o.block _ a2).trans m;obtain⟨a4,a5,bL,b0⟩:=zp x)
   all_goals go_wp2_with fail
   all_goals refine bodyPost_ret (v:=.agg #[xI r,.bool v.nt]) (by simp[results,results168,go_sem,a4,a5]) rfl ⟨rfl,?_⟩
   all_goals exact ((j.trans (b.o.mono j.size)).setCell (Nat.le_succ _) _).setCell (Nat.le_succ _) _
end
section
variable {R:List (Nat×List Nat)} {L:List (Nat×Nat)} {h:Xk} {a b c n u:Nat}
theorem wh {f:Nat}:∀{m:Nat} {L:List (Nat×Nat)},m<=n->∀a b,(a,b)∈iE c f n m L↔(a,b)∈L∨(a=f/\n-m<=b/\b<n/\(f,c)∈L/\(c,b)∈L):=by
 intro m;induction m with
 | zero=>intro L _ a b;rw[iE];exact⟨ao,λh=>by rcases h with h|h;exact h;omega⟩
 | succ m p =>
   intro L q a b;rw[iE];by_cases j:(f,c)∈L/\(c,n-(m+1))∈L
   . have e:∀x y,(x,y)∈L++[(f,n-(m+1))]↔(x,y)∈L∨(x=f/\y=n-(m+1)):=λx y=>by simp
     rw[ag j,p (by omega),e,e,e];constructor
     . rintro ((h|⟨rfl,rfl⟩)|⟨rfl,l,g,i,d⟩)
       . exact ao h
       . exact ap ⟨rfl,by omega,by omega,j⟩
       refine ap ⟨rfl,by omega,g,j.1,?_⟩;rcases d with d|⟨rfl,rfl⟩
       . exact d
       exact j.2
     rintro (h|⟨rfl,l,g,i,d⟩)
     . exact ao (ao h)
     by_cases o:b=n-(m+1)
     . exact ao (ap ⟨rfl,o⟩)
     exact ap ⟨rfl,by omega,g,ao i,ao d⟩
   rw[ae j,p (by omega)];constructor
   . rintro (h|⟨k,l,g,i⟩)
     . exact ao h
     exact ap ⟨k,by omega,g,i⟩
   rintro (h|⟨k,l,g,i,d⟩)
   . exact ao h
   by_cases o:b=n-(m+1)
   . subst o;exact absurd ⟨i,d⟩ j
   exact ap ⟨k,by omega,g,i,d⟩
theorem qT:∀{m:Nat} {L:List (Nat×Nat)},m<=n->∀a b,(a,b)∈iD c n m L↔(a,b)∈L∨(n-m<=a/\a<n/\b<n/\(a,c)∈L/\(c,b)∈L):=by
 intro m;induction m with
 | zero=>intro L _ a b;rw[iD];exact⟨ao,λh=>by rcases h with h|h;exact h;omega⟩
 | succ m p =>
   intro L q a b;rw[iD,p (by omega),wh (an _),wh (an _),wh (an _)];constructor
   . rintro ((h|⟨rfl,l,i,d⟩)|⟨l,i,d,f,g⟩)
     . exact ao h
     . exact ap ⟨an _,by omega,i,d⟩
     have j:(a,c)∈L:=by
      rcases f with f|⟨e,_⟩
      . exact f
      omega
     have k:(c,b)∈L:=by
      rcases g with g|⟨_,_,_,_,e⟩
      . exact g
      exact e
     exact ap ⟨by omega,i,d,j,k⟩
   rintro (h|⟨l,i,d,f,g⟩)
   . exact ao (ao h)
   by_cases o:a=n-(m+1)
   . subst o;exact ao (ap ⟨rfl,by omega,d,f,g⟩)
   exact ap ⟨by omega,i,d,ao f,ao g⟩
inductive Way (L:List (Nat×Nat)):Nat->Nat->Prop
 | one {a b:Nat} (h:(a,b)∈L):Way L a b
 | more {a b c:Nat} (h:(a,b)∈L) (h':Way L b c):Way L a c
theorem Way.kZ (h:Way L a b)(d:Way L b c):Way L a c:=by
 induction h with
 | one h=>exact .more h d
 | more h _ e=>exact .more h (e d)
theorem Gs (E:∀a b,(a,b)∈L->a<n/\b<n):∀(m:Nat) (M:List (Nat×Nat)),m<=n->(∀a b,(a,b)∈M->Way L a b/\a<n/\b<n)->(∀a b,(a,b)∈L->(a,b)∈M)->(∀a b c,c<n-m->(a,c)∈M->(c,b)∈M->(a,b)∈M) ->
 ∀a b,(a,b)∈kK n m M↔Way L a b:=by
 intro m;induction m with
 | zero =>
   intro M _ f l k a b;rw[kK];refine⟨λh=>(f a b h).1,λh=>?_⟩;induction h with
   | one h=>exact l _ _ h
   | more h _ r=>exact k _ _ _ (E _ _ h).2 (l _ _ h) r
 | succ m r =>
   intro M G f l k;rw[kK];refine r _ (by omega) ?_ ?_ ?_
   . intro a b h;rw[qT (an _)] at h;rcases h with h|⟨_,A,B,C,D⟩
     . exact f a b h
     exact⟨(f _ _ C).1.kZ (f _ _ D).1,A,B⟩
   . intro a b h;rw[qT (an _)];exact ao (l a b h)
   intro a b c F e d;rw[qT (an _)] at e d ⊢;by_cases q:c=n-(m+1)
   . have g:(a,c)∈M:=by
      rcases e with h|⟨_,_,_,h,_⟩
      . exact h
      rw[<- q] at h;exact h
     have i:(c,b)∈M:=by
      rcases d with h|⟨_,_,_,_,h⟩
      . exact h
      rw[<- q] at h;exact h
     rw[<- q];exact ap ⟨by omega,(f _ _ g).2.1,(f _ _ i).2.2,g,i⟩
   have j:c<n-(m+1):=(by omega);rcases e with e|⟨s,t,_,v,x⟩
   . rcases d with d|⟨y,z,o,w,p⟩
     . exact ao (k a b c j e d)
     exact ap ⟨by omega,(f _ _ e).2.1,o,k _ _ _ j e w,p⟩
   rcases d with d|⟨y,z,o,w,p⟩
   . exact ap ⟨s,t,(f _ _ d).2.2,v,k _ _ _ j x d⟩
   exact ap ⟨s,t,o,v,p⟩
theorem oV (d:∀a b,(a,b)∈L->a<n/\b<n)(a b:Nat):(a,b)∈jm n L↔Way L a b :=
 Gs d n L (an _) (λa b h=>⟨.one h,d a b h⟩) (λ_ _ h=>h) (λa b c e=>by omega) a b
def bv (h:Xk)(v:Nat):Bool:=h.getD v false
def hU (h:Xk)(r:Nat×List Nat):List Bool:=h.set r.1 (bv h r.1||r.2.all (bv h))
def fD (R:List (Nat×List Nat))(h:Xk):List Bool:=R.foldl hU h
def eS (R:List (Nat×List Nat))(h:Xk):Nat->List Bool
 | 0=>h
 | m+1=>fD R (eS R h m)
def fl (R:List (Nat×List Nat)):List (Nat×Nat):=R.flatMap λr=>r.2.map λu=>(r.1,u)
theorem lZ:(a,b)∈fl R↔∃l,(a,l)∈R/\b∈l:=by
 unfold fl;simp only[ed,List.mem_map,Prod.mk.injEq,Prod.exists];constructor
 . rintro⟨x,l,d,u,e,rfl,rfl⟩;exact⟨l,d,e⟩
 rintro⟨l,d,e⟩;exact⟨a,l,d,b,e,rfl,rfl⟩
theorem vQ (h:Xk)(r:Nat×List Nat):(hU h r).length=h.length:=by unfold hU;simp
theorem ky:∀(R:List (Nat×List Nat)) (h:Xk),(fD R h).length=h.length
 | [],h=>rfl
 | r::R,h=>by have:=ky R (hU h r);unfold fD at this ⊢;rw[List.foldl_cons,this,vQ]
theorem oL (R:List (Nat×List Nat))(h:Xk):∀m,(eS R h m).length=h.length
 | 0=>rfl
 | m+1=>by rw[eS,ky,oL R h m]
theorem qQ (h:Xk)(r:Nat×List Nat)(u:Nat):bv (hU h r) u=if u=r.1/\u<h.length then (bv h r.1||r.2.all (bv h)) else bv h u:=by
 unfold bv hU;rw[List.getD_eq_getElem?_getD,List.getElem?_set];by_cases d:r.1=u
 . by_cases f:r.1<h.length
   . rw[ag d,ag f,ag ⟨d.symm,by omega⟩];rfl
   rw[ag d,ae f,ae (by omega),List.getD_eq_getElem?_getD,List.getElem?_eq_none (by omega)]
 rw[ae d,ae (λe=>d e.1.symm),List.getD_eq_getElem?_getD]
theorem wq {r:Nat×List Nat}(d:bv h u=true):bv (hU h r) u=true:=by
 rw[qQ];split
 . rename_i e;rw[<- e.1,d];rfl
 exact d
theorem jU:∀{R:List (Nat×List Nat)} {h:Xk} {u:Nat},bv h u=true->bv (fD R h) u=true
 | [],_,_,d=>d
 | _::R,_,_,d=>jU (R:=R) (wq d)
theorem vE (d:bv h u=true):∀m,bv (eS R h m) u=true
 | 0=>d
 | m+1=>jU (vE d m)
theorem vI:∀{R:List (Nat×List Nat)} {h:Xk} {v:Nat} {l:Xn},(v,l)∈R->v<h.length->l.all (bv h)=true->bv (fD R h) v=true
 | r::R,h,v,l,hm,e,d=>by
   show bv (fD R (hU h r)) v=true;rcases cC.1 hm with rfl|hm
   . refine jU ?_;rw[qQ,ag ⟨rfl,e⟩,d,Bool.or_true]
   refine vI hm (by rw[vQ];exact e) ?_;rw[List.all_eq_true] at d ⊢;exact λx f=>wq (d x f)
def Ch (L:List (Nat×Nat)):Nat->List Nat->Prop
 | _,[]=>True
 | a,b::l=>(a,b)∈L/\Ch L b l
theorem Ch.tQ:∀{l:Xn} {a x:Nat},Ch L a l->x∈l->Way L a x
 | b::l,a,x,h,hx=>by
   rcases cC.1 hx with rfl|hx
   . exact .one h.1
   exact .more h.1 (Ch.tQ h.2 hx)
theorem Ch.nodup (d:∀i,¬Way L i i):∀{l:Xn} {a:Nat},Ch L a l->(a::l).Nodup
 | [],a,_=>by simp
 | b::l,a,h=>List.nodup_cons.2 ⟨λe=>d a (Ch.tQ h e),Ch.nodup d h.2⟩
theorem wu:∀(n:Nat) (l:Xn),(∀x∈l,x<n)->l.Nodup->l.length<=n
 | 0,l,h,_=>by
   cases l with
   | nil=>exact an _
   | cons x l=>exact absurd (h x (ce ..)) (Nat.not_lt_zero _)
 | n+1,l,h,e=>by
   have d:=wu n (l.erase n) (λx f=>by
    have:=h x (List.mem_of_mem_erase f);have:=(e.mem_erase_iff.1 f).1;omega) (e.erase n)
   rw[List.length_erase] at d;split at d <;> omega
theorem EX {h0:Xk}(V:h0.length=n)(F:∀v l,(v,l)∈R->v<n/\∀u∈l,u<n)(Q:∀v,v<n->bv h0 v=false->∃l,(v,l)∈R)
 (T:∀v l,(v,l)∈R->bv h0 v=false) (U:∀v l D,(v,l)∈R->(v,D)∈R->l=D) :
 (∃v,v<n/\bv (eS R h0 n) v=false)↔∃i,Way (fl R) i i:=by
 constructor
 . rintro⟨v,z,o⟩;by_cases N:∃i,Way (fl R) i i
   . exact N
   have K:∀(m v:Nat),v<n->bv (eS R h0 m) v=false->∃l,l.length=m/\Ch (fl R) v l/\∀x∈l,x<n:=by
    intro m;induction m with
    | zero=>intro v _ _;exact⟨[],rfl,trivial,λx hx=>by cases hx⟩
    | succ m A =>
      intro v z o;have J:bv h0 v=false:=by
       cases h:bv h0 v with
       | false=>rfl
       | true=>rw[vE h (m+1)] at o;cases o
      obtain⟨l,C⟩:=Q v z J;have g:¬l.all (bv (eS R h0 m))=true:=λe=>by have:=vI C (by rw[oL,V];exact z) e;rw[eS] at o;rw[this] at o;cases o
      rw[List.all_eq_true] at g;have:∃u∈l,bv (eS R h0 m) u=false:=by
       refine Classical.byContradiction λH=>g λu j=>?_;cases B:bv (eS R h0 m) u with
       | true=>rfl
       | false=>exact absurd ⟨u,j,B⟩ H
      obtain⟨u,j,G⟩:=this;obtain⟨D,f,d,E⟩:=A u ((F v l C).2 u j) G;refine⟨u::D,by simp[f],⟨lZ.2 ⟨l,C,j⟩,d⟩,λx hx=>?_⟩;rcases cC.1 hx with rfl|hx
      . exact (F v l C).2 x j
      exact E x hx
   obtain⟨l,f,d,E⟩:=K n v z o;have:=wu n (v::l) (λx hx=>by rcases cC.1 hx with rfl|hx;exact z;exact E x hx) (d.nodup (λi t=>N ⟨i,t⟩));rw[bJ] at this;omega
 rintro⟨i,t⟩;have q:∀{a b:Nat},Way (fl R) a b->∃l u,(a,l)∈R/\u∈l/\(u=b∨Way (fl R) u b):=λh=>by
  cases h with
  | one h=>obtain⟨l,f,d⟩:=lZ.1 h;exact⟨l,_,f,d,ao rfl⟩
  | more h P=>obtain⟨l,f,d⟩:=lZ.1 h;exact⟨l,_,f,d,ap P⟩
 have s:∀(h:Xk) (r:Nat×List Nat),r∈R->(∀v,Way (fl R) i v->Way (fl R) v i->bv h v=false)->∀v,Way (fl R) i v->Way (fl R) v i->bv (hU h r) v=false:=by
  intro h r W k v f d;rw[qQ];split
  . rename_i e
    obtain⟨l,u,w,O,k3⟩:=q d;have I:r.2=l:=U v _ _ (by rw[e.1];exact W) w;have j:bv h u=false:=by
     refine k u (f.kZ (.one (lZ.2 ⟨l,w,O⟩))) ?_;rcases k3 with rfl|k3
     . exact t
     exact k3
    rw[<- e.1,k v f d,Bool.false_or,I];cases B:l.all (bv h) with
    | false=>rfl
    | true=>rw[List.all_eq_true] at B;rw[B u O] at j;cases j
  exact k v f d
 have p:∀(S:List (Nat×List Nat)) (h:Xk),(∀r∈S,r∈R)->(∀v,Way (fl R) i v->Way (fl R) v i->bv h v=false)->∀v,Way (fl R) i v->Way (fl R) v i->bv (fD S h) v=false:=by
  intro S;induction S with
  | nil=>intro h _ k;exact k
  | cons r S A=>intro h M k;exact A _ (λx hx=>M x (cS _ hx)) (s h r (M r (ce ..)) k)
 have y:∀m v,Way (fl R) i v->Way (fl R) v i->bv (eS R h0 m) v=false:=by
  intro m;induction m with
  | zero => intro v _ d;obtain⟨l,u,w,_⟩:=q d;exact T v l w
  | succ m A=>exact p R _ (λ_ h=>h) A
 obtain⟨l,u,w,_⟩:=q t;exact⟨i,(F i l w).1,y n i t t⟩
end
section
variable {s:Xb} {q:ax} {l:List Ex} {nds:List Nd} {vs:List Vr} {a f i j k m:Nat} {M:Nat->Nat} {v:Vr}
def lc (vs:List Vr)(s:Xb):Prop:=∃f v,bm s vs 0=some f/\vs[f]?=some v
def jT (L:List Ex)(e:Ex):Bool :=
 if (e.op.toList==[110,101,103])=true then (match e.ah[0]? with
  | none=>false
  | some y=>match L[y]? with
    | none=>false
    | some u=>u.op.toList==[110,117,109,98,101,114])
 else (e.op.toList==[110,117,109,98,101,114]||e.op.toList==[98,111,111,108])
def e5 (vs:List Vr)(i:Nat):Option Nat:=match vs[i]? with
 | none=>none
 | some v=>if v.tm=true then bm v.ck vs 0 else none
def fS (vs:List Vr)(v:Nat):Nat->Nat->Bool
 | 0,_=>false
 | f+1,i=>match e5 vs i with
   | none=>false
   | some j=>if j=v then true else fS vs v f j
theorem w6 (b:vs[i]?=some v):(eN vs v).1=bC (e5 vs i):=by unfold eN e5;rw[b];simp only;split <;> rfl
theorem o2 (h:e5 vs i=some j):j<vs.length:=by
 unfold e5 at h;split at h
 . cases h
 split at h
 . obtain⟨_,b,_⟩:=kP h;omega
 cases h
def hV:List Vr->Bool
 | []=>false
 | v::l=>if v.out=true then v.bl else hV l
theorem FL {l:List Vr}(h:l[j]?=some v):hV (l.drop j)=if v.out=true then v.bl else hV (l.drop (j+1)):=by obtain⟨b,c⟩:=aB.1 h;rw[dE b,c];rfl
inductive p3 (nds:List Nd) (k:Nat) (d:Nd) (ty:Xh) (i:Nat) (e:Ex):Prop
 | BR (h:e.op.toList∈[[98,111,111,108],[110,111,116],[97,110,100],[111,114],[120,111,114],[61],[60,62],[60],[60,61]]) (r:ty i=true)
 | no (h:e.op.toList∈[[110,117,109,98,101,114],[110,101,103],[43],[45],[42],[47],[37]]) (r:ty i=false)
 | var (h:e.op.toList=[118,97,114]) (f:Nat) (v:Vr) (hf:bm e.s d.ab 0=some f) (hv:d.ab[f]?=some v) (r:ty i=v.bl)
 | fst (h:e.op.toList∈[[119,104,101,110],[119,104,101,110,111,116],[109,101,114,103,101]]) (y:Nat) (hy:e.ah[0]?=some y) (hl:y<i) (r:ty i=ty y)
 | snd (h:e.op.toList∈[[105,102],[102,98,121]]) (y:Nat) (hy:e.ah[1]?=some y) (hl:y<i) (r:ty i=ty y)
 | call (h:e.op.toList=[99,97,108,108]) (f:Nat) (c:Nd) (hf:ea e.s (nds.take k) 0=some f) (hc:nds[f]?=some c) (r:ty i=hV c.ab)
theorem np {α:Type}{f:α->List Nat}{l:List α}{v:α}(h:l[m]?=some v):(l.take (m+1)).flatMap f=(l.take m).flatMap f++f v:=by rw[List.take_add_one,h,List.flatMap_append];simp
def km (a:Nat)(c:Bool)(d:Xk):List Nat:=d.flatMap λb=>if b=c then [] else [a]
def gW (a:Nat):List Vr->List Bool->List Nat
 | v::vs,b::c=>(if v.bl=b then [] else [a])++gW a vs c
 | _,_=>[]
theorem vW {a:Nat}:∀{vs:List Vr} {bs:Xk} {j:Nat} {v:Vr} {b:Bool},vs[j]?=some v->bs[j]?=some b->gW a vs (bs.take (j+1))=gW a vs (bs.take j)++(if v.bl=b then [] else [a])
 | [],_,j,v,b,h,_=>by simp at h
 | _::_,[],j,v,b,_,h=>by simp at h
 | x::vs,y::bs,0,v,b,h,c=>by simp at h c;subst h c;simp[gW]
 | x::vs,y::bs,j+1,v,b,h,c=>by have:=vW (a:=a) (vs:=vs) (bs:=bs) (j:=j) (v:=v) (b:=b) (by simpa using h) (by simpa using c);rw[cI,cI,gW,gW,this,bw]
inductive gz (nds:List Nd) (k:Nat) (d:Nd) (ty:Xh) (e:Ex):List Nat->Prop
 | all (want:Bool) (h:(want=true/\(e.op.toList=[110,111,116]∨e.op.toList=[97,110,100]∨e.op.toList=[111,114]∨e.op.toList=[120,111,114]))∨(want=false/\(e.op.toList=[110,101,103]∨e.op.toList=[43]∨e.op.toList=[45]∨e.op.toList=[42]∨e.op.toList=[47]∨e.op.toList=[37]∨e.op.toList=[60]∨e.op.toList=[60,61]))):gz nds k d ty e (km e.a want (e.ah.map ty))
 | two (h:e.op.toList=[61]∨e.op.toList=[60,62]) (b0 b1:Bool) (hi:e.ah.map ty=[b0,b1]):gz nds k d ty e (if b0=b1 then [] else [e.a])
 | k2 (h:e.op.toList=[102,98,121]) (b0 b1:Bool) (hi:e.ah.map ty=[b0,b1]) (y:Nat) (u:Ex) (hy:e.ah[0]?=some y) (hu:d.az[y]?=some u) (hn:(u.op.toList==[110,101,103])=true->∃z x,u.ah[0]?=some z/\d.az[z]?=some x):gz nds k d ty e (if b0=b1/\jT d.az u=true then [] else [e.a])
 | ite (h:e.op.toList=[105,102]) (b0 b1 b2:Bool) (hi:e.ah.map ty=[b0,b1,b2]):gz nds k d ty e (if b0=true/\b1=b2 then [] else [e.a])
 | co (h:e.op.toList=[119,104,101,110]∨e.op.toList=[119,104,101,110,111,116]) (f:Nat) (v:Vr) (hf:bm e.s d.ab 0=some f) (hv:d.ab[f]?=some v):gz nds k d ty e (if v.bl=true then [] else [e.nm])
 | k4 (h:e.op.toList=[109,101,114,103,101]) (f:Nat) (v:Vr) (hf:bm e.s d.ab 0=some f) (hv:d.ab[f]?=some v) (b0 b1:Bool) (hi:e.ah.map ty=[b0,b1]):gz nds k d ty e ((if v.bl=true then [] else [e.nm])++(if b0=b1 then [] else [e.a]))
 | call (h:e.op.toList=[99,97,108,108]) (f:Nat) (c:Nd) (hf:ea e.s (nds.take k) 0=some f) (hc:nds[f]?=some c) (hl:e.ah.length<=c.ab.length):gz nds k d ty e (gW e.a c.ab (e.ah.map ty))
 | hK (h:e.op.toList=[110,117,109,98,101,114]∨e.op.toList=[98,111,111,108]∨e.op.toList=[118,97,114]):gz nds k d ty e []
def oZ (vs:List Vr)(s:Xb):Bool:=match bm s vs 0 with
 | none=>false
 | some f=>((vs[f]?).map (·.bl)).getD false
theorem l4 (h:bm s vs 0=some f)(b:vs[f]?=some v):oZ vs s=v.bl:=by unfold oZ;rw[h];simp only[b];rfl
def jL (vs l:List Vr):List Nat:=l.flatMap λv=>if (v.tm&&!oZ vs v.ck)=true then [v.on] else []
def dY (vs:List Vr)(a:Nat)(b:Xh):Nat->List ByteArray->List Nat
 | _,[]=>[]
 | j,s::c=>(if oZ vs s=b j then [] else [a])++dY vs a b (j+1) c
theorem vY {vs:List Vr}{a:Nat}{rb:Xh}:∀{l:Xl} {j m:Nat} {s:Xb},l[m]?=some s->dY vs a rb j (l.take (m+1))=dY vs a rb j (l.take m)++(if oZ vs s=rb (j+m) then [] else [a])
 | [],j,m,v,h=>by simp at h
 | x::l,j,0,v,h=>by simp at h;subst h;simp[dY]
 | x::l,j,m+1,v,h=>by have:=vY (vs:=vs) (a:=a) (rb:=rb) (l:=l) (j:=j+1) (m:=m) (s:=v) (by simpa using h);rw[cI,cI,dY,dY,this,bw,show j+1+m=j+(m+1) by omega]
structure od (nds:List Nd) (k:Nat) (d:Nd) (ty:Xh) (q:ax) (rb:Xh):Prop where
 ex:q.ex<d.az.length
 one:¬1<q.ns.length->∀j,rb j=ty q.ex
 many:1<q.ns.length->∃ex f c,d.az[q.ex]?=some ex/\ea ex.s (nds.take k) 0=some f/\nds[f]?=some c/\∀j,j<q.ns.length->∃v,c.ab[dP true c.ab+j]?=some v/\rb j=v.bl
 nm:∀s∈q.ns,lc d.ab s
def nl (d:Nd)(c:Nat->List Nat)(b:ax->Nat->Bool):List Nat:=jL d.ab d.ab++(List.range d.az.length).flatMap c++d.eqs.flatMap λq=>dY d.ab q.a (b q) 0 q.ns
inductive hD (d:Nd) (C:Nat->Int->Bool->List Nat->Prop) (e:Ex) (ka:Int) (kb:Bool):List Nat->Prop
 | lit (h:e.op.toList=[110,117,109,98,101,114]∨e.op.toList=[98,111,111,108]):hD d C e ka kb []
 | var (h:e.op.toList=[118,97,114]) (f:Nat) (v:Vr) (hf:bm e.s d.ab 0=some f) (hv:d.ab[f]?=some v):hD d C e ka kb (if eN d.ab v=(ka,kb) then [] else [e.a])
 | off (nt:Bool) (h:(nt=false/\e.op.toList=[119,104,101,110])∨(nt=true/\e.op.toList=[119,104,101,110,111,116])) (f:Nat) (hf:bm e.s d.ab 0=some f) (hne:¬((f:Int),nt)=(ka,kb)):hD d C e ka kb [e.a]
 | co (nt:Bool) (h:(nt=false/\e.op.toList=[119,104,101,110])∨(nt=true/\e.op.toList=[119,104,101,110,111,116])) (f:Nat) (v:Vr) (hf:bm e.s d.ab 0=some f) (hv:d.ab[f]?=some v) (heq:((f:Int),nt)=(ka,kb)) (y:Nat) (hy:e.ah[0]?=some y) (l:Xn) (hr:C y (eN d.ab v).1 (eN d.ab v).2 l):hD d C e ka kb l
 | k4 (h:e.op.toList=[109,101,114,103,101]) (f:Nat) (v:Vr) (hf:bm e.s d.ab 0=some f) (hv:d.ab[f]?=some v) (y z:Nat) (hy:e.ah[0]?=some y) (hz:e.ah[1]?=some z) (l1 l2:Xn) (h1:C y f false l1) (h2:C z f true l2):hD d C e ka kb ((if eN d.ab v=(ka,kb) then [] else [e.nm])++l1++l2)
 | hK (h:∀s∈[[110,117,109,98,101,114],[98,111,111,108],[118,97,114],[119,104,101,110],[119,104,101,110,111,116],[109,101,114,103,101]],(e.op.toList==s)=false) (ls:Nat->List Nat) (hr:∀(i y:Nat),e.ah[i]?=some y->C y ka kb (ls i)):hD d C e ka kb ((List.range e.ah.length).flatMap ls)
def gY {α:Type}(f:Nat->α->List Nat):Nat->List α->List Nat
 | _,[]=>[]
 | i,a::l=>f i a++gY f (i+1) l
theorem vP {α:Type}{f:Nat->α->List Nat}:∀{l:List α} {j m:Nat} {a:α},l[m]?=some a->gY f j (l.take (m+1))=gY f j (l.take m)++f (j+m) a
 | [],j,m,v,h=>by simp at h
 | x::l,j,0,v,h=>by simp at h;subst h;simp[gY]
 | x::l,j,m+1,v,h=>by have:=vP (f:=f) (l:=l) (j:=j+1) (m:=m) (a:=v) (by simpa using h);rw[cI,cI,gY,gY,this,bw,show j+1+m=j+(m+1) by omega]
def wy (vs:List Vr)(s:Xb):Int×Bool:=match bm s vs 0 with
 | none=>(-1,false)
 | some f=>((vs[f]?).map (eN vs)).getD (-1,false)
theorem nw (h:bm s vs 0=some f)(b:vs[f]?=some v):wy vs s=eN vs v:=by unfold wy;rw[h];simp only[b];rfl
def eE (vs:List Vr)(c:Int×Bool):List ByteArray->List Nat->List Nat
 | s::b,p::d=>(if wy vs s=c then [] else [p])++eE vs c b d
 | _,_=>[]
theorem qV {vs:List Vr}{c:Int×Bool}:∀{ns:Xl} {ps:Xn} {j:Nat} {s:Xb} {p:Nat},ns[j]?=some s->ps[j]?=some p->eE vs c (ns.take (j+1)) (ps.take (j+1))=eE vs c (ns.take j) (ps.take j)++(if wy vs s=c then [] else [p])
 | [],_,j,s,p,h,_=>by simp at h
 | _::_,[],j,s,p,_,h=>by simp at h
 | x::ns,y::ps,0,s,p,h,b=>by simp at h b;subst h b;simp[eE]
 | x::ns,y::ps,j+1,s,p,h,b=>by have:=qV (vs:=vs) (c:=c) (ns:=ns) (ps:=ps) (j:=j) (s:=s) (p:=p) (by simpa using h) (by simpa using b);rw[cI,cI,cI,cI,eE,eE,this,bw]
def fB (d:Nd)(q:ax):Int×Bool:=wy d.ab (q.ns.headD ⟨#[]⟩)
def lY (d:Nd)(b:ax->List Nat):List Nat:=gY (λi v=>if fS d.ab i (d.ab.length+1) i=true then [v.a] else []) 0 d.ab++d.eqs.flatMap λq=>eE d.ab (fB d q) q.ns q.ps++b q
inductive jD (d:Nd) (C:Nat->List Nat->Prop) (e:Ex):List Nat->Prop
 | k2 (h:e.op.toList=[102,98,121]) (y:Nat) (hy:e.ah[0]?=some y) (l:Xn) (hr:C y l):jD d C e l
 | nm (h:e.op.toList=[118,97,114]∨e.op.toList=[119,104,101,110]∨e.op.toList=[119,104,101,110,111,116]∨e.op.toList=[109,101,114,103,101]) (f:Nat) (hf:bm e.s d.ab 0=some f) (ls:Nat->List Nat) (hr:∀(i y:Nat),e.ah[i]?=some y->C y (ls i)):jD d C e ([f]++(List.range e.ah.length).flatMap ls)
 | hK (h:∀s∈[[102,98,121],[118,97,114],[119,104,101,110],[119,104,101,110,111,116],[109,101,114,103,101]],(e.op.toList==s)=false) (ls:Nat->List Nat) (hr:∀(i y:Nat),e.ah[i]?=some y->C y (ls i)):jD d C e ([]++(List.range e.ah.length).flatMap ls)
theorem ny {h:Xk}(b:i<h.length):h[i]?=some (bv h i):=by unfold bv;rw[List.getD_eq_getElem?_getD,av b];rfl
def fV (vs:List Vr)(s:Xb):Nat:=(bm s vs 0).getD 0
def kx (d:Nd)(b:ax->List Nat)(q:ax)(s:Xb):Nat×List Nat:=(fV d.ab s,b q++(e5 d.ab (fV d.ab s)).toList)
def ld (d:Nd)(b:ax->List Nat)(q:ax):List (Nat×List Nat):=q.ns.map (kx d b q)
def nn (d:Nd)(b:ax->List Nat):List (Nat×List Nat):=d.eqs.flatMap (ld d b)
def o0 (d:Nd)(b:ax->List Nat):List Bool:=eS (nn d b) (d.ab.map (·.bn)) d.ab.length
def nu (d:Nd)(b:ax->List Nat):List Nat:=(List.range d.ab.length).flatMap λi=>if bv (o0 d b) i=true then [] else [d.a]
def oz (vs:List Vr)(i:Nat)(v:Vr):List Nat:=(if bC (bm v.nm vs 0)<(i:Int) then [v.a] else [])++(if (v.tm&&decide (bC (bm v.ck vs 0)<0))=true then [v.ca] else [])
def e7 (vs:List Vr):Nat->List Vr->List Nat
 | _,[]=>[]
 | i,v::l=>oz vs i v++e7 vs (i+1) l
theorem wi {vs:List Vr}:∀{l:List Vr} {j k:Nat} {v:Vr},l[k]?=some v->e7 vs j (l.take (k+1))=e7 vs j (l.take k)++oz vs (j+k) v
 | [],j,k,v,h=>by simp at h
 | x::l,j,0,v,h=>by simp at h;subst h;simp[e7]
 | x::l,j,k+1,v,h=>by have:=wi (vs:=vs) (l:=l) (j:=j+1) (k:=k) (v:=v) (by simpa using h);rw[cI,cI,e7,e7,this,bw,show j+1+k=j+(k+1) by omega]
def kp (vs:List Vr)(s:Xb):Bool:=match bm s vs 0 with
 | none=>true
 | some f=>match vs[f]? with
   | none=>true
   | some v=>v.bn
def fA (vs:List Vr):List ByteArray->List Nat->List Nat
 | s::b,p::c=>(if kp vs s=true then [p] else [])++fA vs b c
 | _,_=>[]
theorem wx {vs:List Vr}:∀{ns:Xl} {ps:Xn} {j:Nat} {s:Xb} {p:Nat},ns[j]?=some s->ps[j]?=some p->fA vs (ns.take (j+1)) (ps.take (j+1))=fA vs (ns.take j) (ps.take j)++(if kp vs s=true then [p] else [])
 | [],_,j,s,p,h,_=>by simp at h
 | _::_,[],j,s,p,_,h=>by simp at h
 | x::ns,y::ps,0,s,p,h,b=>by simp at h b;subst h b;simp[fA]
 | x::ns,y::ps,j+1,s,p,h,b=>by have:=wx (vs:=vs) (ns:=ns) (ps:=ps) (j:=j) (s:=s) (p:=p) (by simpa using h) (by simpa using b);rw[cI,cI,cI,cI,fA,fA,this,bw]
def gZ (vs:List Vr)(b:List ax):List Nat:=b.flatMap λq=>fA vs q.ns q.ps
theorem rf {b:List ax}(h:b[m]?=some q):gZ vs (b.take (m+1))=gZ vs (b.take m)++fA vs q.ns q.ps:=by unfold gZ;rw[List.take_add_one,h,List.flatMap_append];simp
theorem q7:∀{l:List Nd} {i j:Nat},ea s l i=some j->i<=j/\j<i+l.length/\∃v,l[j-i]?=some v/\v.nm=s:=by
 intro l;induction l with
 | nil=>intro i j h;cases h
 | cons v l e =>
   intro i j h;unfold ea at h;split at h
   . rename_i d;cases h;exact⟨an _,by simp,v,by simp,d⟩
   obtain⟨g,n,u,b,c⟩:=e h;refine⟨by omega,by simp only[bJ];omega,u,?_,c⟩;rw[show j-i=(j-(i+1))+1 by omega];simpa using b
def jQ (nds:List Nd)(k:Nat)(d:Nd)(i:Nat)(e:Ex):Bool:=match ea e.s (nds.take k) 0 with
 | none=>false
 | some f=>match nds[f]? with
   | none=>false
   | some c=>(dP true c.ab==e.ah.length)&&(dP false c.ab==fC i d.eqs)
def hJ (l:Xu):Bool:=l==[118,97,114]||(l==[119,104,101,110]||(l==[119,104,101,110,111,116]||l==[109,101,114,103,101]))
def jb (nds:List Nd)(k:Nat)(d:Nd)(i:Nat)(e:Ex):List Nat :=
 if hJ e.op.toList=true then (if (bm e.s d.ab 0).isNone=true then [e.nm] else [])
 else if (e.op.toList==[99,97,108,108])=true then (if jQ nds k d i e=true then [] else [e.nm]) else []
def ek (nds:List Nd)(k:Nat)(d:Nd):Nat->List Ex->List Nat
 | _,[]=>[]
 | i,e::l=>jb nds k d i e++ek nds k d (i+1) l
theorem wa {nds:List Nd}{k:Nat}{d:Nd}:∀{l:List Ex} {j m:Nat} {e:Ex},l[m]?=some e->ek nds k d j (l.take (m+1))=ek nds k d j (l.take m)++jb nds k d (j+m) e
 | [],j,m,v,h=>by simp at h
 | x::l,j,0,v,h=>by simp at h;subst h;simp[ek]
 | x::l,j,m+1,v,h=>by have:=wa (nds:=nds) (k:=k) (d:=d) (l:=l) (j:=j+1) (m:=m) (e:=v) (by simpa using h);rw[cI,cI,ek,ek,this,bw,show j+1+m=j+(m+1) by omega]
theorem Fm (l:Xu):((l==[118,97,114])=true/\hJ l=true)∨((l==[118,97,114])=false/\(l==[119,104,101,110])=true/\hJ l=true)∨((l==[118,97,114])=false/\(l==[119,104,101,110])=false/\(l==[119,104,101,110,111,116])=true/\hJ l=true)∨((l==[118,97,114])=false/\(l==[119,104,101,110])=false/\(l==[119,104,101,110,111,116])=false/\(l==[109,101,114,103,101])=true/\hJ l=true)∨((l==[118,97,114])=false/\(l==[119,104,101,110])=false/\(l==[119,104,101,110,111,116])=false/\(l==[109,101,114,103,101])=false/\hJ l=false):=by
 unfold hJ;cases b:l==[118,97,114]
 . cases c:l==[119,104,101,110]
   . cases d:l==[119,104,101,110,111,116]
     . cases e:l==[109,101,114,103,101]
       . exact ap (ap (ap (ap ⟨rfl,rfl,rfl,rfl,rfl⟩)))
       exact ap (ap (ap (ao ⟨rfl,rfl,rfl,rfl,rfl⟩)))
     exact ap (ap (ao ⟨rfl,rfl,rfl,rfl⟩))
   exact ap (ao ⟨rfl,rfl,rfl⟩)
 exact ao ⟨rfl,rfl⟩
def l8 (nds:List Nd)(k:Nat)(d:Nd):List Nat:=(if (ea d.nm (nds.take k) 0).isSome=true then [d.a] else [])++e7 d.ab 0 d.ab++gZ d.ab d.eqs++ek nds k d 0 d.az
def jG (S:Xl)(s:Xb)(p:Nat):List Nat:=S.flatMap λx=>if x=s then [p] else []
def fz (S:Xl):List ByteArray->List Nat->List Nat
 | s::b,p::c=>jG S s p++fz (S++[s]) b c
 | _,_=>[]
theorem vT:∀{ns:Xl} {ps:Xn} {S:Xl} {j:Nat} {s:Xb} {p:Nat},ns[j]?=some s->ps[j]?=some p->fz S (ns.take (j+1)) (ps.take (j+1))=fz S (ns.take j) (ps.take j)++jG (S++ns.take j) s p
 | [],_,_,j,s,p,h,_=>by simp at h
 | _::_,[],_,j,s,p,_,h=>by simp at h
 | x::ns,y::ps,S,0,s,p,h,b=>by simp at h b;subst h b;simp[fz]
 | x::ns,y::ps,S,j+1,s,p,h,b=>by have:=vT (ns:=ns) (ps:=ps) (S:=S++[x]) (j:=j) (s:=s) (p:=p) (by simpa using h) (by simpa using b);rw[cI,cI,cI,cI,fz,fz,this,bw,bw];rfl
def da (l:List ax):List ByteArray:=l.flatMap (·.ns)
def fP (S:Xl):List ax->List Nat
 | []=>[]
 | q::l=>fz S q.ns q.ps++fP (S++q.ns) l
theorem vR:∀{l:List ax} {S:Xl} {m:Nat} {q:ax},l[m]?=some q->fP S (l.take (m+1))=fP S (l.take m)++fz (S++da (l.take m)) q.ns q.ps
 | [],S,m,q,h=>by simp at h
 | x::l,S,0,q,h=>by simp at h;subst h;simp[fP,da]
 | x::l,S,m+1,q,h=>by have:=vR (l:=l) (S:=S++x.ns) (m:=m) (q:=q) (by simpa using h);rw[cI,cI,fP,fP,this,bw];simp[da]
theorem EO {l:List ax}(h:l[m]?=some q):da (l.take (m+1))=da (l.take m)++q.ns:=by unfold da;rw[List.take_add_one,h,List.flatMap_append];simp
theorem Fi (l:List ax)(m:Nat):(da (l.take m)).length<=(da l).length:=by
 have:da l=da (l.take m)++da (l.drop m):=by unfold da;rw[<- List.flatMap_append,List.take_append_drop]
 rw[this,aP];omega
def nv (S:Xl)(v:Vr):Bool:=v.bn||S.any (λx=>decide (x=v.nm))
def gX (S:Xl)(l:List Vr):List Nat:=l.flatMap λv=>if nv S v=true then [] else [v.a]
def jP (d:Nd):List Nat:=fP [] d.eqs++gX (da d.eqs) d.ab
def q4 (nds:List Nd)(k:Nat)(M:Nat->Nat)(e:Ex):Nat:=if (e.op.toList==[102,98,121])=true then 1 else if (e.op.toList==[99,97,108,108])=true then (match ea e.s (nds.take k) 0 with|none=>0|some f=>1+M f) else 0
def gC (nds:List Nd)(k:Nat)(M:Nat->Nat)(l:List Ex):Nat:=(l.map (q4 nds k M)).sum
theorem EK {e:Ex}(h:l[m]?=some e):gC nds k M (l.take (m+1))=gC nds k M (l.take m)+q4 nds k M e:=by unfold gC;rw[List.take_add_one,h,List.map_append,List.sum_append];simp
theorem FJ (m:Nat):gC nds k M (l.take m)<=gC nds k M l:=by
 have:gC nds k M l=gC nds k M (l.take m)+gC nds k M (l.drop m):=by unfold gC;rw[<- List.sum_append,<- List.map_append,List.take_append_drop]
 omega
structure E2 (nds:List Nd) (M:Nat->Nat):Prop where
 eq:∀k d,nds[k]?=some d->M k=min (gC nds k M d.az) 61
 call:∀(k:Nat) (d:Nd),nds[k]?=some d->∀e∈d.az,(e.op.toList==[99,97,108,108])=true->∃f,ea e.s (nds.take k) 0=some f
end
end Go.Proofs.YtmfkofhgdjechaaGreatDoor
