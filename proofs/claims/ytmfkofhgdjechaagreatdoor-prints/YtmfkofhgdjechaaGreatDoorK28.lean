/- Part 29 of the proof: RunF RunI MapA FacA FacB TreW. -/
import Derived.Deep.DrawnRows
import Derived.Maps.OwnSet
import Derived.Test.YtmfkofhgdjechaaGreatDoorK27
set_option maxRecDepth 100000
set_option maxHeartbeats 8000000
namespace Go.Proofs.YtmfkofhgdjechaaGreatDoor
open Go.Proofs.Tryz
open Go.RowKit
section
variable {w:World}
attribute [local go_sem ↓] Go.wp_at_zero Go.wp_at_succ
structure Cd where
 bools:List Bool
 outs:Nat
 slots:Nat
 cells:List Int
 depth:Nat
 row:List (Nat×Int)
def zbs (l:List (Nat×Int)):List Value:=l.flatMap λi=>[.int .u8 i.1,xI i.2]
structure CB (w:World) (N cb:Nat) (bv cv rv:Value) (c:Cd):Prop where
 blk:xH w cb #[bv,xI c.outs,xI c.slots,cv,xI c.depth,rv] 177
 bown:w.ownsRow 0 4 1 bv c.bools.length (c.bools.map .bool)
 cown:w.ownsRow 0 2 1 cv c.cells.length (zK c.cells)
 rown:w.ownsRow 0 281 2 rv c.row.length (zbs c.row)
 h0:cb<N
 h1:∀k,bv.ownBlock=some k->k<N
 h2:∀k,cv.ownBlock=some k->k<N
 h3:∀k,rv.ownBlock=some k->k<N
 outsB:c.bools.length+c.outs<=c.slots
 slotsB:c.slots<=255
 cellsB:c.cells.length<=255
 depthB:c.depth<=3145728
 rowB:c.row.length<=1048576
theorem CB.old {w':World}{N cb:Nat}{bv cv rv:Value}{c:Cd}(h:CB w N cb bv cv rv c)(ho:Old N w w'):CB w' N cb bv cv rv c :=
 ⟨(ho _ h.h0).trans h.blk,zi h.bown (λk _ _ e=>ho k (h.h1 k e)),zi h.cown (λk _ _ e=>ho k (h.h2 k e)),zi h.rown (λk _ _ e=>ho k (h.h3 k e)),h.h0,h.h1,h.h2,h.h3,h.outsB,h.slotsB,h.cellsB,h.depthB,h.rowB⟩
theorem zB {B n size:Nat}{e:TypeId}{vs:Value}{xs:List Value}(h:w.ownsRow B e size vs n xs):∃x cp,vs=.slice x n cp:=by
 rcases h.2 with ⟨h1,h2⟩|⟨g,cap,cur,h1,_⟩
 . exact⟨none,0,by rw[h1,h2]⟩
 . exact⟨_,cap,h1⟩
end
section
variable {w:World}
attribute [local go_sem ↓] Go.wp_at_zero Go.wp_at_succ
structure Nm (w:World) (v:Value) (g:Nat) (l:List Int):Prop where
 ex:∃a c,v=.slice a l.length c/\l.length<=c/\c<=maxLen/\(l≠[]->∃o,a=some (xD g o)/\∀j x,l[j]?=some x->xC w g (o+j) (xI x))
theorem Nm.of {w':World}{v:Value}{g:Nat}{l:List Int}(h:Nm w v g l)(hb:w'.heap[g]?=w.heap[g]?):Nm w' v g l:=by obtain⟨a,c,h1,h2,h3,h4⟩:=h.ex;refine⟨a,c,h1,h2,h3,λhl=>?_⟩;obtain⟨o,h5,h6⟩:=h4 hl;exact⟨o,h5,λj x hj=>(World.cell?_of_block (w:=w) hb).trans (h6 j x hj)⟩
theorem zbE {B n cp:Nat}{e:TypeId}{a:Option Addr}{xs:List Value}(h:w.ownsRow B e 1 (.slice a n cp) n xs){k:Nat}{u:Value}(hk:xs[k]?=some u):∃g,a=some (xD g 0)/\xC w g k u:=by
 have hl:xs.length=n:=by simpa using h.1
 have hk':=(List.getElem?_eq_some_iff.1 hk).1;obtain⟨g,cap,hv,_⟩:=zM h (by omega);cases hv;exact⟨g,rfl,zhv h hk⟩
end
section
variable {b:Nat} {w:World}
structure zg1 {κ:Type} [DecidableEq κ] (P:Program) (K:TypeId) (enc:κ->Value):Prop where
 check:∀(em:Bool) (k:κ) (w:World),(Instr.checkKey em 10000 K (enc k)).run P w=.ok () w
 find:∀(k:κ) (es:List MapEntry) (ks:List κ) (w:World),es.map (·.key)=ks.map enc ->
  (k ∉ ks->(Instr.findKey K (enc k) es).run P w=.ok none w) /\
  (∀j e,ks.idxOf? k=some j->es[j]?=some e->(Instr.findKey K (enc k) es).run P w=.ok (some (j,e.val)) w)
 stays:∀(k:κ) (w:World),(Instr.keyThatStays (enc k) (enc k)).run P w=.ok (enc k) w
section
variable {κ:Type} [DecidableEq κ]
def zbn (w:World)(b:Nat)(enc:κ->Value)(l:List (κ×Value)):Prop :=
 ∃es clock,w.heap[b]?=some (.map es clock)/\es.toList.map (λe=>(e.key,e.val))=l.map (λp=>(enc p.1,p.2))
def zaT (k:κ):List (κ×Value)->Option Value
 | []=>none
 | p::l=>if p.1=k then some p.2 else zaT k l
def upd (k:κ)(v:Value):List (κ×Value)->List (κ×Value)
 | []=>[(k,v)]
 | p::l=>if p.1=k then (k,v)::l else p::upd k v l
theorem zgD (k k':κ)(v:Value):∀l:List (κ×Value),zaT k' (upd k v l)=if k=k' then some v else zaT k' l:=by
 intro l;induction l with
 | nil=>simp[upd,zaT]
 | cons p l ih =>
   unfold upd;split
   . rename_i h
     unfold zaT;by_cases hk:k=k'
     . subst hk;simp
     . have:¬p.1=k':=λe=>hk (h.symm.trans e);simp[hk,this]
   . rename_i h
     unfold zaT;by_cases hp:p.1=k'
     . have:¬k=k':=λe=>h (hp.trans e.symm);simp[hp,this]
     . simp[hp,ih]
theorem zbn.of {θ:Type}{w':World}{enc:θ->Value}{l:List (θ×Value)}(h:zbn w b enc l)(hb:w'.heap[b]?=w.heap[b]?):zbn w' b enc l:=by obtain⟨es,c,h1,h2⟩:=h;exact⟨es,c,hb.trans h1,h2⟩
theorem zbn.lt {θ:Type}{enc:θ->Value}{l:List (θ×Value)}(h:zbn w b enc l):b<w.heap.size:=by
 obtain⟨es,c,h1,h2⟩:=h;rcases Nat.lt_or_ge b w.heap.size with h|h
 . exact h
 . rw[Array.getElem?_eq_none h] at h1;cases h1
theorem zmK {k:κ}:∀{l:List (κ×Value)},k ∉ l.map (·.1)->zaT k l=none:=by
 intro l;induction l with
 | nil=>intro _;rfl
 | cons p l ih => intro h;simp at h;unfold zaT;rw[if_neg (λe=>h.1 e.symm)];exact ih (by simpa using h.2)
theorem zkK {k:κ}:∀{l:List (κ×Value)} {j:Nat},(l.map (·.1)).idxOf? k=some j->∃p,l[j]?=some p/\p.1=k/\zaT k l=some p.2/\∀v,upd k v l=l.set j (k,v):=by
 intro l;induction l with
 | nil=>intro j h;simp at h
 | cons p l ih =>
   intro j h;rw[List.map_cons,List.idxOf?_cons] at h;by_cases hp:p.1=k
   . simp[hp] at h;subst h;exact⟨p,rfl,hp,by simp[zaT,hp],λv=>by simp[upd,hp]⟩
   . simp[hp] at h;obtain⟨j',h1,rfl⟩:=h;obtain⟨q,h2,h3,h4,h5⟩:=ih (by simpa using h1);exact⟨q,by simpa using h2,h3,by simp[zaT,hp,h4],λv=>by simp[upd,hp,h5 v]⟩
theorem zh0 {k:κ}{v:Value}:∀{l:List (κ×Value)},k ∉ l.map (·.1)->upd k v l=l++[(k,v)]:=by
 intro l;induction l with
 | nil=>intro _;rfl
 | cons p l ih => intro h;simp at h;unfold upd;rw[if_neg (λe=>h.1 e.symm),ih (by simpa using h.2)];rfl
theorem zhj {k:κ}{l:List κ}(h:k∈l):∃j,l.idxOf? k=some j:=by
 cases hj:l.idxOf? k with
 | none=>rw[List.idxOf?_eq_none_iff] at hj;exact absurd h hj
 | some j=>exact⟨j,rfl⟩
variable {P:Program} {K E T:TypeId} {enc:κ->Value}
theorem zgI (hK:zg1 P K enc)(ht:P.underlying T=some (.map K E)){z:Value}(hz:∀w,(zeroValue E).run P w=.ok z w){l:List (κ×Value)}(h:zbn w b enc l)(k:κ)(ok:Bool) :
 (Instr.lookup T (.map (some b)) (enc k) ok).run P w=.ok (if ok then .tuple #[(zaT k l).getD z,.bool (zaT k l).isSome] else (zaT k l).getD z) w:=by
 obtain⟨es,c,h1,h2⟩:=h;have hks:es.toList.map (·.key)=(l.map (·.1)).map enc:=by have:=congrArg (List.map Prod.fst) h2;simpa [List.map_map,Function.comp_def] using this
 have hg:(getObj b).run P w=.ok (.map es c) w:=MapKept.run_getObj_map h1;obtain⟨f1,f2⟩:=hK.find k es.toList (l.map (·.1)) w hks;by_cases hm:k∈l.map (·.1)
 . obtain⟨j,hj⟩:=zhj hm;obtain⟨p,e1,e2,e3,_⟩:=zkK hj;have hjl:=(List.getElem?_eq_some_iff.1 e1).1;obtain⟨e,he⟩:∃e,es.toList[j]?=some e:=⟨_,zsc (by have:=congrArg List.length h2;simp at this;simpa [this] using hjl)⟩;have hv:e.val=p.2:=by have:=congrArg (λx=>(x[j]?).map Prod.snd) h2;simp[List.getElem?_map,he,e1] at this;simpa using this
   have hf:=f2 j e hj he;rw[e3];simp[Instr.lookup,run_underlying ht,hg,hK.check,hf,hv]
 . have hf:=f1 hm;rw[zmK hm];simp[Instr.lookup,run_underlying ht,hg,hK.check,hf,hz]
theorem zgh (hK:zg1 P K enc)(ht:P.underlying T=some (.map K E)){l:List (κ×Value)}(h:zbn w b enc l)(k:κ)(v:Value) :
 ∃w',(Instr.mapUpdate T (.map (some b)) (enc k) v).run P w=.ok () w'/\zbn w' b enc (upd k v l)/\Fr (·=b) w w':=by
 have hlt:=h.lt;obtain⟨es,c,h1,h2⟩:=h;have hks:es.toList.map (·.key)=(l.map (·.1)).map enc:=by have:=congrArg (List.map Prod.fst) h2;simpa [List.map_map,Function.comp_def] using this
 have hg:(getObj b).run P w=.ok (.map es c) w:=MapKept.run_getObj_map h1;have hs:∀o,(setObj b o).run P w=.ok () { w with heap:=w.heap.setIfInBounds b o }:=λo=>MapKept.run_setObj_map o h1;have hfr:∀o,Fr (·=b) w { w with heap:=w.heap.setIfInBounds b o }:=λo=>⟨rfl,rfl,rfl,by simp,λk _ hn=>by simp[Ne.symm hn]⟩;obtain⟨f1,f2⟩:=hK.find k es.toList (l.map (·.1)) w hks;by_cases hm:k∈l.map (·.1)
 . obtain⟨j,hj⟩:=zhj hm;obtain⟨p,e1,e2,e3,e4⟩:=zkK hj;have hjl:=(List.getElem?_eq_some_iff.1 e1).1;obtain⟨e,he⟩:∃e,es.toList[j]?=some e:=⟨_,zsc (by have:=congrArg List.length h2;simp at this;simpa [this] using hjl)⟩;have he':es[j]?=some e:=by simpa using he
   have hkey:e.key=enc k:=(by have:=congrArg (λx=>(x[j]?).map Prod.fst) h2;simp[List.getElem?_map,he,e1,e2] at this;simpa using this);have hf:=f2 j e hj he;refine⟨{ w with heap:=w.heap.setIfInBounds b (.map (es.modify j λe=>{ e with key:=enc k,val:=v }) c) },?_,⟨es.modify j λe=>{ e with key:=enc k,val:=v },c,?_,?_⟩,hfr _⟩
   . simp[Instr.mapUpdate,run_underlying ht,hg,hK.check,hf,he',hkey,hK.stays];exact hs _
   . simp[hlt]
   . rw[e4 v];apply List.ext_getElem?;intro i;have h2i:=congrArg (λx=>x[i]?) h2;simp only[List.getElem?_map] at h2i ⊢;rw[Array.getElem?_toList,Array.getElem?_modify,List.getElem?_set];rw[Array.getElem?_toList] at h2i;by_cases hij:j=i
     . subst hij;simp[he',hjl]
     . simpa [hij] using h2i
 . have hf:=f1 hm;refine⟨{ w with heap:=w.heap.setIfInBounds b (.map (es.push { key:=enc k,val:=v,born:=c }) (c+1)) },?_,⟨es.push { key:=enc k,val:=v,born:=c },c+1,?_,?_⟩,hfr _⟩
   . simp[Instr.mapUpdate,run_underlying ht,hg,hK.check,hf];exact hs _
   . simp[hlt]
   . rw[zh0 hm];simp[h2]
end
theorem zgz {κ:Type} [DecidableEq κ] {P:Program}{K:TypeId}{enc:κ->Value}(heq:∀(a b:κ) (w:World),(Op.equal K (enc a) (enc b)).run P w=.ok (decide (a=b)) w)(k:κ)(w:World) :
 ∀(es:List MapEntry) (ks:List κ) (i:Nat),es.map (·.key)=ks.map enc->(k ∉ ks->(Instr.findAsking K (enc k) es i).run P w=.ok none w)/\(∀j e,ks.idxOf? k=some j->es[j]?=some e->(Instr.findAsking K (enc k) es i).run P w=.ok (some (i+j,e.val)) w):=by
 intro es;induction es with
 | nil =>
   intro ks i h;cases ks with
   | nil=>exact⟨λ_=>rfl,λj e hj=>by simp at hj⟩
   | cons _ _=>simp at h
 | cons e es ih =>
   intro ks i h;cases ks with
   | nil=>simp at h
   | cons k' ks =>
     simp only[List.map_cons,List.cons.injEq] at h;obtain⟨h1,h2⟩:=h;obtain⟨i1,i2⟩:=ih ks (i+1) h2;by_cases hk:k=k'
     . subst hk;refine⟨λhn=>by simp at hn,λj e' hj he=>?_⟩;simp[List.idxOf?_cons] at hj;subst hj;simp at he;subst he;simp[Instr.findAsking,h1,heq]
     . refine⟨λhn=>?_,λj e' hj he=>?_⟩
       . simp at hn;simp[Instr.findAsking,h1,heq,hk];exact i1 hn.2
       . rw[List.idxOf?_cons] at hj;have:¬k'=k:=λe=>hk e.symm;simp[this] at hj;obtain⟨j',hj',rfl⟩:=hj;have:=i2 j' e' (by simpa using hj') (by simpa using he);simp[Instr.findAsking,h1,heq,hk];rw[this];congr 3;omega
theorem zqo (a b:ByteArray):(a==b)=decide (a=b):=by
 obtain⟨x⟩:=a;obtain⟨y⟩:=b;rw[Bool.eq_iff_iff];simp only[decide_eq_true_eq];constructor
 . intro h;unfold BEq.beq at h;have h':(x==y)=true:=h;rw[beq_iff_eq] at h';rw[h']
 . intro h;cases h
   show (x==x)=true;simp
def pr (p:Int×Int):Value:=.agg #[xI p.1,xI p.2]
theorem Tryz.eqClock (a b:Int×Int)(w:World):(Op.equal 228 (pr a) (pr b)).run prog w=.ok (decide (a=b)) w:=by
 unfold pr Op.equal;simp[go_sem,Op.maxDepth];by_cases h1:a.1=b.1
 . by_cases h2:a.2=b.2
   . simp[h1,h2,Prod.ext_iff]
   . simp[h1,h2,Prod.ext_iff]
 . simp[h1,Prod.ext_iff]
theorem Tryz.keyClock:zg1 prog 228 pr where
 check em k w:=by
  unfold pr;have h:∀n:Nat,(Instr.checkKey em (n+2) 228 (.agg #[xI k.1,xI k.2])).run prog w=.ok () w:=by intro n;simp[Instr.checkKey,go_sem]
  exact h 9998
 find k es ks w h:=by
  have hu:(underlying 228).run prog w=.ok (.struct (prog.fieldsOf 228)) w:=by simp[go_sem]
  obtain⟨h1,h2⟩:=zgz Tryz.eqClock k w es ks 0 h;cases es with
  | nil =>
    cases ks with
    | nil=>exact⟨λ_=>by simp[Instr.findKey,hu,Instr.findNow],λj e hj=>by simp at hj⟩
    | cons _ _=>simp at h
  | cons e es =>
    have hn:∀f,Instr.findNow (.struct f) (pr k) (e::es) 0=none:=λf=>by simp[Instr.findNow,Instr.sameNow]
    refine⟨λhm=>?_,λj e' hj he=>?_⟩
    . simp[Instr.findKey,hu,hn];exact h1 hm
    . simp[Instr.findKey,hu,hn];have:=h2 j e' hj he;rwa [Nat.zero_add] at this
 stays k w:=by unfold pr;simp[Instr.keyThatStays,Instr.sameBits]
theorem Tryz.eqLink (a b:Int×Int)(w:World):(Op.equal 326 (pr a) (pr b)).run prog w=.ok (decide (a=b)) w:=by
 unfold pr Op.equal;simp[go_sem,Op.maxDepth];by_cases h1:a.1=b.1
 . by_cases h2:a.2=b.2
   . simp[h1,h2,Prod.ext_iff]
   . simp[h1,h2,Prod.ext_iff]
 . simp[h1,Prod.ext_iff]
theorem Tryz.keyLink:zg1 prog 326 pr where
 check em k w:=by
  unfold pr;have h:∀n:Nat,(Instr.checkKey em (n+2) 326 (.agg #[xI k.1,xI k.2])).run prog w=.ok () w:=by intro n;simp[Instr.checkKey,go_sem]
  exact h 9998
 find k es ks w h:=by
  have hu:(underlying 326).run prog w=.ok (.struct (prog.fieldsOf 326)) w:=by simp[go_sem]
  obtain⟨h1,h2⟩:=zgz Tryz.eqLink k w es ks 0 h;cases es with
  | nil =>
    cases ks with
    | nil=>exact⟨λ_=>by simp[Instr.findKey,hu,Instr.findNow],λj e hj=>by simp at hj⟩
    | cons _ _=>simp at h
  | cons e es =>
    have hn:∀f,Instr.findNow (.struct f) (pr k) (e::es) 0=none:=λf=>by simp[Instr.findNow,Instr.sameNow]
    refine⟨λhm=>?_,λj e' hj he=>?_⟩
    . simp[Instr.findKey,hu,hn];exact h1 hm
    . simp[Instr.findKey,hu,hn];have:=h2 j e' hj he;rwa [Nat.zero_add] at this
 stays k w:=by unfold pr;simp[Instr.keyThatStays,Instr.sameBits]
theorem zoO {κ:Type} [DecidableEq κ] {d:TypeDesc}{enc:κ->Value}(heq:∀a b:κ,Instr.sameNow d (enc a) (enc b)=some (decide (a=b)))(k:κ):∀(es:List MapEntry) (ks:List κ) (i:Nat),es.map (·.key)=ks.map enc->(k ∉ ks->Instr.findNow d (enc k) es i=some none)/\(∀j e,ks.idxOf? k=some j->es[j]?=some e->Instr.findNow d (enc k) es i=some (some (i+j,e.val))):=by
 intro es;induction es with
 | nil =>
   intro ks i h;cases ks with
   | nil=>exact⟨λ_=>rfl,λj e hj=>by simp at hj⟩
   | cons _ _=>simp at h
 | cons e es ih =>
   intro ks i h;cases ks with
   | nil=>simp at h
   | cons k' ks =>
     simp only[List.map_cons,List.cons.injEq] at h;obtain⟨h1,h2⟩:=h;obtain⟨i1,i2⟩:=ih ks (i+1) h2;by_cases hk:k=k'
     . subst hk;refine⟨λhn=>by simp at hn,λj e' hj he=>?_⟩;simp[List.idxOf?_cons] at hj;subst hj;simp at he;subst he;simp[Instr.findNow,h1,heq]
     . refine⟨λhn=>?_,λj e' hj he=>?_⟩
       . simp at hn;simp[Instr.findNow,h1,heq,hk];exact i1 hn.2
       . rw[List.idxOf?_cons] at hj;have:¬k'=k:=λe=>hk e.symm;simp[this] at hj;obtain⟨j',hj',rfl⟩:=hj;have:=i2 j' e' (by simpa using hj') (by simpa using he);simp[Instr.findNow,h1,heq,hk];rw[this];congr 3;omega
theorem Tryz.keyStr:zg1 prog 9 Value.string where
 check em k w:=by
  have h:∀n:Nat,(Instr.checkKey em (n+1) 9 (.string k)).run prog w=.ok () w:=by intro n;simp[Instr.checkKey,go_sem]
  exact h 9999
 find k es ks w h:=by
  have hu:(underlying 9).run prog w=.ok .string w:=by simp[go_sem]
  obtain⟨h1,h2⟩:=zoO (d:=.string) (enc:=Value.string) (λa b=>by simp[Instr.sameNow,zqo]) k es ks 0 h;refine⟨λhm=>?_,λj e' hj he=>?_⟩
  . simp[Instr.findKey,hu,h1 hm]
  . simp[Instr.findKey,hu,h2 j e' hj he]
 stays k w:=by simp[Instr.keyThatStays,Instr.sameBits,zqo]
end
section
variable {a b:ByteArray}
attribute [local go_sem ↓] Go.wp_at_zero Go.wp_at_succ
theorem zmz (h:a=b):(a.toList==b.toList)=true:=by rw[h];simp
theorem zmx (h:¬a=b):(a.toList==b.toList)=false:=by rw[beq_eq_false_iff_ne];intro e;apply h;rw[ByteArray.toList_eq,ByteArray.toList_eq] at e;have:=Array.ext' e;cases a;cases b;simp_all
theorem zqi:∀(l:List Vr) (k:Nat) (v:Vr),l[k]?=some v->∀j u,(vrC v)[j]?=some u->(zb0 l)[k*7+j]?=some u:=by
 intro l;induction l with
 | nil=>intro k v h;simp at h
 | cons a l ih =>
   intro k v h j u hj;have e:zb0 (a::l)=vrC a++zb0 l:=rfl;have hl:(vrC a).length=7:=rfl;cases k with
   | zero => simp at h;subst h;rw[e,Nat.zero_mul,Nat.zero_add,List.getElem?_append_left (List.getElem?_eq_some_iff.1 hj).1];exact hj
   | succ k => simp at h;rw[e,List.getElem?_append_right (by omega),hl,show (k+1)*7+j-7=k*7+j by omega];exact ih k v h j u hj
def zaK (v:Vr):Nat:=if v.bl=true then 1 else 0
theorem zaM {w:World}{B n cp:Nat}{e:TypeId}{a:Option Addr}{l:List Vr}(h:w.ownsRow B e 7 (.slice a n cp) n (zb0 l)){k:Nat}{v:Vr}(hk:l[k]?=some v) :
 ∃g,a=some (xD g 0)/\xC w g (k*7) (.string v.nm)/\xC w g (k*7+1) (xI v.a)/\xC w g (k*7+2) (xI (zaK v:Nat))/\xC w g (k*7+3) (xI (zaA v:Nat))/\xC w g (k*7+4) (xI v.on)/\xC w g (k*7+5) (.string v.ck)/\xC w g (k*7+6) (xI v.ca):=by
 have hvl:(zb0 l).length=l.length*7:=by
  clear h hk;induction l with
  | nil=>rfl
  | cons a l ih=>show (vrC a++zb0 l).length=_;rw[List.length_append,ih];simp[vrC];omega
 have hl:l.length=n:=by have:=h.1;omega
 have hk':=(List.getElem?_eq_some_iff.1 hk).1;obtain⟨g,cap,hv,_⟩:=zM h (by omega);cases hv;have hc:=h.cells (g:=g) rfl;have e0:∀j,((xD g 0):Addr).add j=⟨g,j,none⟩:=λj=>by cases j <;> simp[Addr.add]
 have hat:=zqi l k v hk;refine⟨g,rfl,?_,?_,?_,?_,?_,?_,?_⟩
 . have:=hc _ _ (hat 0 _ rfl);rwa [e0] at this
 . have:=hc _ _ (hat 1 _ rfl);rwa [e0] at this
 . have:=hc _ _ (hat 2 _ rfl);rwa [e0] at this
 . have:=hc _ _ (hat 3 _ rfl);rwa [e0] at this
 . have:=hc _ _ (hat 4 _ rfl);rwa [e0] at this
 . have:=hc _ _ (hat 5 _ rfl);rwa [e0] at this
 . have:=hc _ _ (hat 6 _ rfl);rwa [e0] at this
def zk6 (o:Option Nat):Value:=.tuple #[xI (o.getD 0:Nat),.bool o.isSome]
theorem zgF {N:Nat}{n:Nod}{nb:Nat}{vs ev:Value}{xs:List Value}(s:ByteArray)(w:World)(h:NT w N n nb vs ev xs) :
 xK 101 #[xP nb,.string s] w (λe w'=>e=.returned (zk6 (n.find s))/\xB w w'):=by
 obtain⟨h0,h1,h2,h3,h4,h5,hf,hz⟩:=zt h.blk;obtain⟨x,cp,rfl⟩:=zB h.vown;have HV:=za h.vown;have hfew:=h.few;clear h;go_enter func101,ntmps101;go_wp2_with fail;go_loopg [13] (n.vars.length+1) (λj i wr=>∃k:Nat,k+j=n.vars.length+1/\k<=n.vars.length/\i=xI k/\Hid (zfj s (n.vars.drop k) k=n.find s)/\Hid (xB w wr));case atStart=>exact⟨0,by omega,Nat.zero_le _,rfl,rfl,Below.refl _ _⟩
 case round =>
  obtain⟨k,hkj,hk,rfl,HS,HB⟩:=hrel;have HV':Hid (wr.ownsRow 0 156 7 (.slice x n.vars.length cp) n.vars.length (zb0 n.vars)):=zi HV.o (λb _ hb _=>HB.o.block b hb);by_cases hlt:k<n.vars.length
  . obtain⟨v,hv⟩:∃v,n.vars[k]?=some v:=⟨_,zsc hlt⟩;obtain⟨g,rfl,c0,c1,c2,c3,c4,c5,c6⟩:=zaM HV'.o hv;have HD:=zld (s:=s) hv;rw[HS.o] at HD;clear HS hv;by_cases hq:v.nm=s
    . rw[if_pos hq] at HD;have hq':=zmz hq;clear hq;go_wp2_with fail;refine bodyPost_ret (v:=.tuple #[xI k,.bool true]) (by simp[results,results101,go_sem]) rfl ⟨by rw[HD];rfl,HB.o.trans ((Below.refl _ _).alloc HB.o.size _)⟩
    . rw[if_neg hq] at HD;have hq':=zmx hq;clear hq;go_wp2_with fail;go_roundg (gk-1);case measure=>omega
      exact⟨k+1,by omega,by omega,by go_num,HD.symm,HB.o.trans ((Below.refl _ _).alloc HB.o.size _)⟩
  . have HO:n.find s=none:=by rw[<- HS.o,List.drop_of_length_le (by omega)];rfl
    clear HS;go_wp2_with fail;refine bodyPost_ret (v:=.tuple #[xI 0,.bool false]) (by simp[results,results101,go_sem]) rfl ⟨by rw[HO];rfl,HB.o⟩
end
section
variable {er:List Nod} {N:Nat} {c:Sc} {ev nv:Value} {w w':World}
attribute [local go_sem ↓] Go.wp_at_zero Go.wp_at_succ
def NE (w:World)(N:Nat)(er:List Nod)(v:Value):Prop :=
 ∃a cp,v=.slice a er.length cp/\er.length<=cp/\cp<=9223372036854775807/\(er≠[]->∃g,a=some (xD g 0)/\g<N/\∀i n,er[i]?=some n->∃u,w.cell? (xD g i)=some u/\NP w N n u)
theorem NE.old {v:Value}(h:NE w N er v)(ho:Old N w w'):NE w' N er v:=by obtain⟨a,cp,h1,h2,h3,h4⟩:=h;refine⟨a,cp,h1,h2,h3,λhne=>?_⟩;obtain⟨g,h5,h6,h7⟩:=h4 hne;refine⟨g,h5,h6,λi n hi=>?_⟩;obtain⟨u,h8,h9⟩:=h7 i n hi;exact⟨u,(World.cell?_of_block (w:=w) (ho g h6)).trans h8,h9.old ho⟩
structure ScV (w:World) (N:Nat) (c:Sc) (ev nv:Value):Prop where
 er:NE w N c.er ev
 nd:NP w N c.nd nv
theorem ScV.old (h:ScV w N c ev nv)(ho:Old N w w'):ScV w' N c ev nv:=⟨h.er.old ho,h.nd.old ho⟩
theorem zaU {B:Nat}(h:Below B w w')(hB:B<=w.heap.size)(o:Obj):Below B w (w'.alloc o):=h.alloc (Nat.le_trans hB h.size) o
theorem zaz (s:ByteArray)(a:Int)(w:World)(h:ScV w N c ev nv)(hN:N<=w.heap.size) :
 xK 103 #[.agg #[ev,nv],.agg #[.string s,xI a]] w (λe w'=>e=.returned (xI (c.idx s:Nat))/\xB w w'):=by
 obtain⟨nb,vs,qv,xs,rfl,hn⟩:=h.nd;have HF:=za (λo1 o2=>zgF s ((w.alloc o1).alloc o2) (hn.old (zfr hN o1 o2)));go_enter func103,ntmps103;go_wp2_with (go_at_call 101;refine (HF.o _ _).mono ?_;rintro e w1 ⟨rfl,HB⟩;unfold zk6);go_ret;exact⟨rfl,zhh HB⟩
theorem zgt (s:ByteArray)(a:Int)(w:World)(h:ScV w N c ev nv)(hN:N<=w.heap.size) :
 xK 102 #[.agg #[ev,nv],.agg #[.string s,xI a]] w (λe w'=>e=.returned (.bool (c.nd.find s).isSome)/\xB w w'):=by
 obtain⟨nb,vs,qv,xs,rfl,hn⟩:=h.nd;have HF:=za (λo1 o2=>zgF s ((w.alloc o1).alloc o2) (hn.old (zfr hN o1 o2)));go_enter func102,ntmps102;go_wp2_with (go_at_call 101;refine (HF.o _ _).mono ?_;rintro e w1 ⟨rfl,HB⟩;unfold zk6);go_ret;exact⟨rfl,zhh HB⟩
def zdW (N:Nat)(c:Sc)(s:ByteArray)(w':World)(e:Ending):Prop :=
 match c.called s with
 | none=>e=.returned (.tuple #[.agg #[.slice none 0 0,.pointer none],.bool false])
 | some c'=>∃ev' nv',e=.returned (.tuple #[.agg #[ev',nv'],.bool true])/\ScV w' N c' ev' nv'
theorem NE.take {a:Option Addr}{n cp k:Nat}(h:NE w N er (.slice a n cp))(hk:k<er.length):NE w N (er.take k) (.slice a k cp):=by
 obtain⟨a',cp',h1,h2,h3,h4⟩:=h;cases h1;have hl:(er.take k).length=k:=by simp;omega
 refine⟨a,cp,by rw[hl],by omega,h3,λ_=>?_⟩;obtain⟨g,h5,h6,h7⟩:=h4 (by intro e;subst e;simp at hk);refine⟨g,h5,h6,λi n hi=>h7 i n ?_⟩;rw[List.getElem?_take] at hi;split at hi
 . exact hi
 . cases hi
theorem al3 (w:World)(o1 o2 o3:Obj):(((w.alloc o1).alloc o2).alloc o3).heap[w.heap.size]?=some o1/\(((w.alloc o1).alloc o2).alloc o3).heap[w.heap.size+1]?=some o2/\(((w.alloc o1).alloc o2).alloc o3).heap[w.heap.size+1+1]?=some o3:=by
 have h (w:World) (o:Obj) (k:Nat):(w.alloc o).heap[k]?=if k=w.heap.size then some o else w.heap[k]?:=by show (w.heap.push o)[k]?=_;rw[Array.getElem?_push]
 refine⟨?_,?_,?_⟩;all_goals simp only[h,zsb]
 . rw[if_neg (by omega),if_neg (by omega),if_pos trivial]
 . rw[if_neg (by omega),if_pos trivial]
 . rw[if_pos trivial]
theorem zhA (s:ByteArray)(a:Int)(w:World)(h:ScV w N c ev nv)(hN:N<=w.heap.size)(h6:c.er.length<=6) :
 xK 100 #[.agg #[ev,nv],.agg #[.string s,xI a]] w (λe w'=>zdW N c s w' e/\xB w w'):=by
 have hE:=h.er;obtain⟨x,cp,rfl,hcp,hmx,hin⟩:=h.er;have HE:=za hE;have Hin:=za hin;go_enter func100,ntmps100;go_wp2_with fail;go_loopg [11] (c.er.length+1) (λj i wr=>∃k:Nat,k+j=c.er.length+1/\k<=c.er.length/\i=xI k/\Hid (zgg s (c.er.drop k) k=zgg s c.er 0)/\Hid (xH wr w.heap.size #[xE x c cp,nv] 202/\xH wr (w.heap.size+1) #[.string s,xI a] 144/\xH wr (w.heap.size+1+1) #[.slice none 0 0,.pointer none] 202)/\Hid (xB w wr));case atStart=>exact⟨0,by omega,Nat.zero_le _,rfl,rfl,al3 w _ _ _,zcz w _ _ _⟩
 case round =>
  obtain⟨k,hkj,hk,rfl,HS,HX,HB⟩:=hrel;obtain⟨hx0,hx1,hx2⟩:=HX.o;obtain⟨p0,p1,pf,pz⟩:=zp hx0;obtain⟨q0,q1,qf,qz⟩:=zp hx1;obtain⟨r0,r1,rf,rz⟩:=zp hx2;by_cases hlt:k<c.er.length
  . obtain⟨n,Hn⟩:∃n,c.er[k]?=some n:=⟨_,zsc hlt⟩;have hE2:=HE.o.old (zm HB.o hN);have HE2:=za (hE2.take hlt);obtain⟨x',cp',e1,_,_,hin2⟩:=hE2;cases e1;obtain⟨g,rfl,hgN,hat⟩:=hin2 (by intro e;rw[e] at hlt;simp at hlt);obtain⟨u,hu,hnp⟩:=hat k n Hn;have HNP:=za hnp;obtain⟨nb,vs,qv,xs,rfl,hnt⟩:=hnp;obtain⟨n0,n1,n2,n3,n4,n5,nf,nz⟩:=zt hnt.blk;have hD:=zla (s:=s) Hn;rw[HS.o] at hD;have i1:(k:Int)<=(cp:Int):=by omega
    by_cases hq:n.nm=s
    . rw[if_pos hq] at hD;have hcal:c.called s=some ⟨c.er.take k,n⟩:=(by unfold Sc.called;rw[hD];simp only[Hn]);have HD:=za hcal;have hq':=zmz hq;go_wp2_with fail;go_region_held3 (λw'=>w'.cell? (xD nb 0)=some (.string n.nm)/\w'.cell? (xD (w.heap.size+1) 0)=some (.string s)) (go_keep) (fail);go_wp2_with fail;have hBn:=zo (zC (i:=1) (zC (b:=w.heap.size+1+1) (i:=0) HB.o (by omega) (xS g k cp)) (b:=w.heap.size+1+1) (by omega) (xP nb));refine bodyPost_ret (v:=.tuple #[.agg #[xS g k cp,xP nb],.bool true]) (by simp[results,results100,go_sem,r0,r1]) rfl ⟨?_,hBn⟩;have hOn:Old N wr _:=λk hk=>(hBn.block k (by omega)).trans (HB.o.block k (by omega)).symm;unfold zdW;rw[HD.o];exact⟨_,_,rfl,HE2.o.old hOn,HNP.o.old hOn⟩
    . rw[if_neg hq] at hD;have HD:=za hD;have hq':=zmx hq;go_wp2_with fail;go_region_held3 (λw'=>w'.cell? (xD nb 0)=some (.string n.nm)/\w'.cell? (xD (w.heap.size+1) 0)=some (.string s)) (go_keep) (fail);go_wp2_with fail;go_roundg (gk-1);case measure=>omega
      exact⟨k+1,by omega,by omega,by go_num,HD.o.symm,HX.o,⟨HB.o.os,HB.o.tape,HB.o.output,HB.o.size,HB.o.block⟩⟩
  . have HO:c.called s=none:=by unfold Sc.called;rw[<- HS.o,List.drop_of_length_le (by omega)];rfl
    go_wp2_with fail;refine bodyPost_ret (v:=.tuple #[.agg #[.slice none 0 0,.pointer none],.bool false]) (by simp[results,results100,go_sem,r0,r1]) rfl ⟨?_,zC (zC HB.o (by omega) _) (by omega) _⟩;unfold zdW;rw[HO]
theorem zc4 (s:ByteArray)(a:Int)(w:World)(h:ScV w N c ev nv)(hN:N<=w.heap.size)(h6:c.er.length<=6)(hc:c.called s=none) :
 xK 100 #[.agg #[ev,nv],.agg #[.string s,xI a]] w (λe w'=>e=.returned (.tuple #[.agg #[.slice none 0 0,.pointer none],.bool false])/\xB w w'):=by
 refine (zhA s a w h hN h6).mono ?_;rintro e w' ⟨h1,h2⟩;unfold zdW at h1;rw[hc] at h1;exact⟨h1,h2⟩
theorem ScV.shape (h:ScV w N c ev nv):∃x cp nb,ev=xE x c cp/\nv=xP nb/\nb<N:=by obtain⟨x,cp,h1,_⟩:=h.er;obtain⟨nb,_,_,_,h2,h3⟩:=h.nd;exact⟨x,cp,nb,h1,h2,h3.lo⟩
theorem zah {d:Sc}(s:ByteArray)(a:Int)(w:World)(h:ScV w N c ev nv)(hN:N<=w.heap.size)(h6:c.er.length<=6)(hc:c.called s=some d) :
 xK 100 #[.agg #[ev,nv],.agg #[.string s,xI a]] w (λe w'=>∃x cp nb,e=.returned (.tuple #[.agg #[xE x d cp,xP nb],.bool true])/\ScV w' N d (xE x d cp) (xP nb)/\xB w w'):=by
 refine (zhA s a w h hN h6).mono ?_;rintro e w' ⟨h1,h2⟩;unfold zdW at h1;rw[hc] at h1;obtain⟨ev',nv',h3,h4⟩:=h1;obtain⟨x,cp,nb,rfl,rfl,_⟩:=h4.shape;exact⟨x,cp,nb,h3,h4,h2⟩
end
section
variable {N:Nat} {t:Tm} {g:Tm->Bool} {v:Value} {w:World}
attribute [local go_sem ↓] Go.wp_at_zero Go.wp_at_succ
theorem zmZ {ts:List Tm}{k:Nat}(h:ts[k]?=some t):zdk g (ts.take (k+1))=zdk g (ts.take k)++zaV g t:=by
 induction ts generalizing k with
 | nil=>simp at h
 | cons x ts ih =>
   cases k with
   | zero=>simp at h;subst h;simp[zdk]
   | succ k => simp at h;rw[List.take_succ_cons,List.take_succ_cons,zdk,zdk,ih h,List.append_assoc]
structure Vis {σ:Type} (N:Nat) (T:Nat->Prop) (F:FuncId) (caps:Array Value) (Pt:Tm->Value->Prop) (g:Tm->Bool) (step:σ->Tm->σ) (I:σ->World->Prop):Prop where
 enters:zH F
 hT:∀k,T k->N<=k
 keep:∀s w w',I s w->xB w w'->I s w'
 sub:∀t v u x,Pt t v->u∈t.ts->Pt u x
 call:∀t v s w,TT w N t v->N<=w.heap.size->I s w->Pt t v->xK F (#[v]++caps) w (λe w'=>e=.returned (.bool (g t))/\I (step s t) w'/\Fr T w w')
theorem TT.ptr (h:TT w N t v):∃b args vs,v=xP b/\b<N/\xH w b #[xI t.k,xI t.a,.string t.s,xI t.nm,xI t.n,args] 216/\w.ownsRow 0 159 1 args vs.length vs/\vs.length=t.ts.length/\(∀(i:Nat) (u:Tm) (x:Value),t.ts[i]?=some u->vs[i]?=some x->TT w N u x)/\(∀g,args.ownBlock=some g->g<N):=by
 cases h with
 | mk k a s nm n ts b args vs hN hb ha hg hl hr=>exact⟨b,args,vs,rfl,hN,hb,ha,hl,hr,hg⟩
theorem ziV {σ:Type}{T:Nat->Prop}{F:FuncId}{caps:Array Value}{Pt:Tm->Value->Prop}{step:σ->Tm->σ}{I:σ->World->Prop}(hV:Vis N T F caps Pt g step I) :
 ∀(t:Tm) (v:Value) (s:σ) (w:World),TT w N t v->N<=w.heap.size->I s w->Pt t v->xK 173 #[v,.func (.func F) #[] caps] w (λe w'=>e=.returned (.tuple #[])/\I ((zaV g t).foldl step s) w'/\Fr T w w'):=by
 intro t;induction t using Tm.ind with
 | h kk a nm n p ts ih =>
   intro v s w h hN hI hP;obtain⟨b,args,vs,rfl,hb,hblk,hown,hlen,hsub,hgs⟩:=h.ptr;have HC:=za (hV.call _ _ s w h hN hI hP);have hcf:∀(args:Array Value) (w:World),(callFunc F args).run prog w=.ok (.enter F args) w:=hV.enters;have HV:=za hV;have HP:=za hP;have Hsub:=za hsub;have Hown:=za hown;have HT:=za h;have Hih:=za ih;have Hblk:=za hblk;have Hgs:=za hgs;obtain⟨h0,h1,h2,h3,h4,h5,hf,hz⟩:=zt hblk;have hw6:w.ownsRow 0 159 1 args vs.length vs:=hown;obtain⟨x,cp,rfl⟩:=zB hown;have hlen':vs.length=ts.length:=hlen;rw[hlen'] at h5 Hown Hblk Hgs;cases hg:g (.mk kk a nm n p ts) with
   | false =>
     rw[hg] at HC;have e:zaV g (.mk kk a nm n p ts)=[.mk kk a nm n p ts]:=(by unfold zaV;rw[hg];simp);rw[e];go_enter func173,ntmps173;go_wp2_with fail;with_reducible refine HC.o.mono ?_
     rintro e w1 ⟨rfl,hI1,hF1⟩;have HI1:=za hI1;have HF1:=za hF1;go_wp2_with fail;first|go_end0|refine bodyPost_ret (results_none rfl _ _ _) rfl ?_
     exact⟨rfl,HI1.o,HF1.o⟩
   | true =>
     rw[hg] at HC;have e:zaV g (.mk kk a nm n p ts)=.mk kk a nm n p ts::zdk g ts:=(by unfold zaV;rw[if_pos hg]);rw[e];go_enter func173,ntmps173;go_wp2_with fail;with_reducible refine HC.o.mono ?_
     rintro e w1 ⟨rfl,hI1,hF1⟩;have hO1:Old N w w1:=hF1.old hN HV.o.hT;have hz1:=hF1.size;obtain⟨p0,p1,p2,p3,p4,p5,pf,pz⟩:=zt ((hO1 b hb).trans Hblk.o);have HO1:=za hO1;have HI1:=za hI1;have HF1:=za hF1;go_wp2_with fail;have h16:ts.length<=9223372036854775807:=by
      have:=Hown.o;rcases this.2 with ⟨_,h⟩|⟨g,cap,cur,hv,_,_,h3,h4,_⟩
      . omega
      . unfold maxLen at h4;omega
     go_loopg [15] (ts.length+1) (λj i wr=>∃k:Nat,k+j=ts.length+1/\k<=ts.length/\i=xI k/\Hid (I ((zdk g (ts.take k)).foldl step (step s (.mk kk a nm n p ts))) wr)/\Hid (Fr T w wr));case atStart=>exact⟨0,by omega,Nat.zero_le _,rfl,HI1.o,HF1.o⟩
     case round =>
      obtain⟨k,hkj,hk,rfl,HIk,HFk⟩:=hrel;have hOk:Old N w wr:=HFk.o.old hN HV.o.hT;have hzk:=HFk.o.size;by_cases hlt:k<ts.length
      . obtain⟨t,ht⟩:∃t,ts[k]?=some t:=⟨_,zsc hlt⟩;obtain⟨u,hu⟩:∃u,vs[k]?=some u:=⟨_,zsc (by omega)⟩;have hown':wr.ownsRow 0 159 1 (.slice x ts.length cp) ts.length vs:=zi Hown.o (λj _ _ e=>hOk j (Hgs.o j e));obtain⟨g',rfl,hcell⟩:=zbE hown' hu;have hTu:=(Hsub.o k t u ht hu).old hOk;obtain⟨bu,_,_,rfl,_⟩:=hTu.ptr;have hPu:=HV.o.sub _ _ t (xP bu) HP.o (List.mem_of_getElem? ht);have HW:=za (Hih.o t (List.mem_of_getElem? ht) _ _ wr hTu (by omega) HIk.o hPu);have HS:=za (zmZ (g:=g) ht);go_wp2_with (go_at_call 173;refine HW.o.mono ?_;rintro e w2 ⟨rfl,hI2,hF2⟩;have HI2:=za hI2;have HF2:=za (HFk.o.trans hF2));go_roundg (gk-1);case measure=>omega
        refine⟨k+1,by omega,by omega,by go_num,?_,HF2.o⟩;rw[HS.o,List.foldl_append];exact HI2.o
      . have ek:k=ts.length:=(by omega);subst ek;rw[List.take_length] at HIk;go_wp2_with fail;first|go_end0|refine bodyPost_ret (results_none rfl _ _ _) rfl ?_
        exact⟨rfl,HIk.o,HFk.o⟩
theorem TT.det (h:TT w N t v):∀{t':Tm},TT w N t' v->t=t':=by
 induction h with
 | mk k a s nm n ts b args vs hN hb ha hg hl _ ih =>
   intro t' h';cases h' with
   | mk k' a' s' nm' n' ts' b args' vs' hN' hb' ha' hg' hl' hr' =>
     have e:=Obj.cells.inj (Option.some.inj (hb.symm.trans hb'));have e1:=e.1;simp only[Array.mk.injEq,List.cons.injEq,Value.int.injEq,Value.string.injEq,true_and,and_true,Int.ofNat_inj] at e1;obtain⟨ek,ea,es,enm,en,eargs⟩:=e1;subst ek ea es enm en eargs;have hvs:vs=vs':=by
      rcases ha.2 with ⟨h1,h2⟩|⟨g,cap,cur,h1,_,h3,h4,h5,h6,h7⟩
      . rcases ha'.2 with ⟨k1,k2⟩|⟨g',cap',cur',k1,_⟩
        . have:vs.length=0:=h2;have:vs'.length=0:=k2;rw[List.eq_nil_of_length_eq_zero ‹vs.length=0›,List.eq_nil_of_length_eq_zero ‹vs'.length=0›]
        . rw[h1] at k1;cases k1
      . rcases ha'.2 with ⟨k1,k2⟩|⟨g',cap',cur',k1,_,k3,k4,k5,k6,k7⟩
        . rw[h1] at k1;cases k1
        . rw[h1] at k1;simp only[Value.slice.injEq,Option.some.injEq,Addr.mk.injEq,and_true] at k1;obtain⟨rfl,hl2,rfl⟩:=k1;rw[h3] at k3;have e4:=(Obj.cells.inj (Option.some.inj k3)).1;subst e4;rw[<- h7,<- k7,hl2]
     subst hvs;have:ts=ts':=by
      apply List.ext_getElem?;intro i;rcases Nat.lt_or_ge i ts.length with hi|hi
      . have e1:ts[i]?=some ts[i]:=zsc hi;have hi':i<ts'.length:=(by omega);have e2:ts'[i]?=some ts'[i]:=zsc hi';have hiv:i<vs.length:=(by omega);have e3:vs[i]?=some vs[i]:=zsc hiv;rw[e1,e2];congr 1;exact ih i _ _ e1 e3 (hr' i _ _ e2 e3)
      . rw[List.getElem?_eq_none hi,List.getElem?_eq_none (by omega)]
     rw[this]
end
end Go.Proofs.YtmfkofhgdjechaaGreatDoor
