/- Part 15 of the proof: RunI MapA FacA FacB. -/
import Derived.Maps.OwnSet
import Derived.Test.YtbicmofihhjgbaaGreatDoorK13
set_option maxRecDepth 100000
set_option maxHeartbeats 8000000
namespace Go.Proofs.YtbicmofihhjgbaaGreatDoor
open Go.Proofs.Tryz
open Go.RowKit
section
variable {l:List Int} {k:Nat} {w:World}
attribute [local go_sem ↓] Go.wp_at_zero Go.wp_at_succ
structure Nm (w:World) (v:Value) (g:Nat) (l:List Int):Prop where
 ex:∃a c,v=.slice a l.length c/\l.length<=c/\c<=maxLen/\(l≠[]->∃o,a=some (xD g o)/\∀j x,l[j]?=some x->xC w g (o+j) (xI x))
theorem Nm.of {w':World}{v:Value}{g:Nat}(h:Nm w v g l)(hb:w'.heap[g]?=w.heap[g]?):Nm w' v g l:=by obtain⟨a,c,h1,h2,h3,h4⟩:=h.ex;refine⟨a,c,h1,h2,h3,λhl=>?_⟩;obtain⟨o,h5,h6⟩:=h4 hl;exact⟨o,h5,λj x hj=>(World.cell?_of_block (w:=w) hb).trans (h6 j x hj)⟩
theorem zlr {bs:List Bool}{b:Bool}{x:Int}(hb:bs[k]?=some b)(hx:l[k]?=some x):zeK (bs.drop k) (l.drop k) k=if b=true/\x≠0/\x≠1 then some k else zeK (bs.drop (k+1)) (l.drop (k+1)) (k+1):=by obtain⟨h1,h2⟩:=List.getElem?_eq_some_iff.1 hb;obtain⟨h3,h4⟩:=List.getElem?_eq_some_iff.1 hx;rw[List.drop_eq_getElem_cons h1,List.drop_eq_getElem_cons h3,h2,h4];rfl
def zhk (S:Nat->Addr)(b:Bool)(e:Ending):Prop:=if b=true then ∃p:Int,e=.returned (.iface 71 (.agg #[sen S 11,xI p])) else e=.returned .nilIface
theorem zfc (S:Nat->Addr)(k:Nat)(a:Int)(w:World):xK 42 #[.iface 324 (.pointer (some (S k))),xI a] w λe w'=>e=.returned (.agg #[.iface 324 (.pointer (some (S k))),xI a])/\xB w w':=by go_enter func42,ntmps42;go_wp2;exact bodyPost_ret (v:=.agg #[.iface 324 (.pointer (some (S k))),xI a]) (by simp[results,results42,go_sem]) rfl ⟨rfl,(Below.refl _ _).alloc (Nat.le_refl _) _⟩
theorem zbE {B n cp:Nat}{e:TypeId}{a:Option Addr}{xs:List Value}(h:w.ownsRow B e 1 (.slice a n cp) n xs){u:Value}(hk:xs[k]?=some u):∃g,a=some (xD g 0)/\xC w g k u:=by
 have hl:xs.length=n:=by simpa using h.1
 have hk':=(List.getElem?_eq_some_iff.1 hk).1;obtain⟨g,cap,hv,_⟩:=zM h (by omega);cases hv;exact⟨g,rfl,zhv h hk⟩
theorem zhQ (S:Nat->Addr)(N mb cb:Nat)(c1 c2 c3 bv cv rv:Value)(c:Cd)(w:World)(v:Value)(g:Nat)(l:List Int)(hG:Gl S w)(hb:w.heap[mb]?=some (.cells #[xP cb,c1,c2,c3] 138 (0,0)))(h:CB w N cb bv cv rv c)(hl:Nm w v g l)(hne:l.length≠c.bools.length) :
 xK 58 #[xP mb,v] w (λe w'=>zhk S true e/\xB w w'):=by
 obtain⟨a,cp,rfl,hcp,hmx,hin⟩:=hl.ex;unfold maxLen at hmx;have hne':((l.length:Int) != (c.bools.length:Int))=true:=by simpa using (by omega:¬(l.length:Int)=c.bools.length)
 have hbo:=h.slotsB;have hbo2:=h.outsB;have HI:=za (zec mb cb N c1 c2 c3 bv cv rv c w hb h);have HI2:=za (zec mb cb N c1 c2 c3 bv cv rv c w.drew hb (h.old (Old.refl _ _)));have hi:=hG.input;have Hsz:=za hG.size;unfold sen at hi;go_enter func58,ntmps58;go_upto_region 2 with (go_at_call 32;refine HI.o.mono ?_;rintro e w1 ⟨rfl,rfl⟩);go_region_held3 (λw'=>w'.cell? (xD 12 0)=some (.iface 324 (.pointer (some (S 11))))) (first|with_reducible assumption|exact hi|exact (World.cell?_of_block (w:=w) (HB.o.block 12 (by have:=Hsz.o;omega))).trans hi|go_keep) (first|(go_at_call 32;refine HI2.o.mono ?_;rintro e w1 ⟨rfl,rfl⟩)|(go_at_call 42;refine (zfc S 11 _ _).mono ?_;rintro e w1 ⟨rfl,hB⟩;have HB:=za (zw hB)));all_goals go_wp2_with fail
 all_goals go_ret
 all_goals exact⟨⟨_,rfl⟩,HB.o⟩
theorem ziw (S:Nat->Addr)(N mb cb:Nat)(c1 c2 c3 bv cv rv:Value)(c:Cd)(w:World)(v:Value)(g:Nat)(l:List Int)(hG:Gl S w)(hb:xH w mb #[xP cb,c1,c2,c3] 138)(h:CB w N cb bv cv rv c)(hl:Nm w v g l)(he:l.length=c.bools.length) :
 xK 58 #[xP mb,v] w (λe w'=>zhk S (zeK c.bools l 0).isSome e/\xB w w'):=by
 obtain⟨h0,h1,h2,h3,hf,hz⟩:=zU hb;obtain⟨k0,k1,k2,k3,k4,k5,kf,kz⟩:=zt h.blk;obtain⟨x,cpb,rfl⟩:=zB h.bown;obtain⟨a,cp,rfl,hcp,hmx,hin⟩:=hl.ex;unfold maxLen at hmx;have hbo:=h.slotsB;have hbo2:=h.outsB;have HI:=za (zec mb cb N c1 c2 c3 _ cv rv c w hb h);have Hb:=za h.bown;have hi:=hG.input;unfold sen at hi;have Hin:=za hin;rw[he] at hcp ⊢;clear hl hin hb h hG;go_enter func58,ntmps58;go_wp2_with (go_at_call 32;refine HI.o.mono ?_;rintro e w1 ⟨rfl,rfl⟩);go_loop [28] (λi=>∃k:Nat,k<=c.bools.length/\i=xI k/\Hid (zeK (c.bools.drop k) (l.drop k) k=zeK c.bools l 0)) (λi=>c.bools.length-(intOf i).toNat)
 case atStart=>exact⟨0,Nat.zero_le _,rfl,rfl⟩
 case round =>
  obtain⟨k,hk,rfl,HS⟩:=hrel;by_cases hlt:k<c.bools.length
  . obtain⟨b,hbk⟩:∃b,c.bools[k]?=some b:=⟨_,zsc hlt⟩;obtain⟨y,hyk⟩:∃y,l[k]?=some y:=⟨_,zsc (by omega)⟩;obtain⟨o,rfl,hcell⟩:=Hin.o (by intro e;rw[e] at hyk;simp at hyk);have hc:=hcell k y hyk;obtain⟨gb,rfl,hcb⟩:=zbE Hb.o (k:=k) (u:=.bool b) (by simp[hbk]);have HD:=zlr hbk hyk;rw[HS.o] at HD;clear HS hcell hbk hyk Hin;by_cases hy0:b=true/\y≠0/\y≠1
    . obtain⟨rfl,y0,y1⟩:=hy0;rw[if_pos ⟨rfl,y0,y1⟩] at HD;have HD:=za HD;have y0':(y != 0)=true:=(by simpa using y0);have y1':(y != 1)=true:=(by simpa using y1);clear y0 y1;go_wp2_with (go_at_call 42;refine (zfc S 11 _ _).mono ?_;rintro e w1 ⟨rfl,hB⟩;have HB:=za hB;clear hB);go_ret;refine⟨?_,HB.o⟩;rw[HD.o];exact⟨_,rfl⟩
    . rw[if_neg hy0] at HD;have HD:=za HD;have hb3:b=false∨(b=true/\y=0)∨(b=true/\y=1):=by
       cases b with
       | false=>exact Or.inl rfl
       | true =>
         by_cases e0:y=0
         . exact Or.inr (Or.inl ⟨rfl,e0⟩)
         . by_cases e1:y=1
           . exact Or.inr (Or.inr ⟨rfl,e1⟩)
           . exact absurd ⟨rfl,e0,e1⟩ hy0
      clear hy0;rcases hb3 with rfl|⟨rfl,rfl⟩|⟨rfl,rfl⟩
      all_goals
       go_wp2_with fail;go_round
       case rel=>exact⟨k+1,by omega,by go_num,HD.o.symm⟩
       case measure=>simp[intOf];omega
  . have hO:zeK c.bools l 0=none:=by rw[<- HS.o,List.drop_of_length_le (by omega)];rfl
    have HO:=za hO;clear HS hO;go_wp2_with fail;go_ret;exact⟨by rw[HO.o];rfl,Below.refl _ _⟩
theorem zkX (S:Nat->Addr)(N mb cb:Nat)(c1 c2 c3 bv cv rv:Value)(c:Cd)(w:World)(v:Value)(g:Nat)(l:List Int)(hG:Gl S w)(hb:xH w mb #[xP cb,c1,c2,c3] 138)(h:CB w N cb bv cv rv c)(hl:Nm w v g l) :
 xK 58 #[xP mb,v] w (λe w'=>zhk S (zdE c.bools l).isSome e/\xB w w'):=by
 unfold zdE;by_cases he:l.length=c.bools.length
 . rw[if_pos he];exact ziw S N mb cb c1 c2 c3 bv cv rv c w v g l hG hb h hl he
 . rw[if_neg he];exact zhQ S N mb cb c1 c2 c3 bv cv rv c w v g l hG hb h hl he
end
section
variable {b:Nat} {w:World}
structure zg1 {κ:Type} [DecidableEq κ] (P:Program) (K:TypeId) (enc:κ->Value):Prop where
 check:∀(em:Bool) (k:κ) (w:World),(Instr.checkKey em 10000 K (enc k)).run P w=.ok () w
 find:∀(k:κ) (es:List MapEntry) (ks:List κ) (w:World),es.map (·.key)=ks.map enc ->
  (k ∉ ks->(Instr.findKey K (enc k) es).run P w=.ok none w) /\
  (∀j e,ks.idxOf? k=some j->es[j]?=some e->(Instr.findKey K (enc k) es).run P w=.ok (some (j,e.val)) w)
 stays:∀(k:κ) (w:World),(Instr.keyThatStays (enc k) (enc k)).run P w=.ok (enc k) w
section
variable {κ:Type} [DecidableEq κ]
def zbn (w:World)(b:Nat)(enc:κ->Value)(l:List (κ×Value)):Prop :=
 ∃es clock,w.heap[b]?=some (.map es clock)/\es.toList.map (λe=>(e.key,e.val))=l.map (λp=>(enc p.1,p.2))
def zaT (k:κ):List (κ×Value)->Option Value
 | []=>none
 | p::l=>if p.1=k then some p.2 else zaT k l
def upd (k:κ)(v:Value):List (κ×Value)->List (κ×Value)
 | []=>[(k,v)]
 | p::l=>if p.1=k then (k,v)::l else p::upd k v l
theorem zgD (k k':κ)(v:Value):∀l:List (κ×Value),zaT k' (upd k v l)=if k=k' then some v else zaT k' l:=by
 intro l;induction l with
 | nil=>simp[upd,zaT]
 | cons p l ih =>
   unfold upd;split
   . rename_i h
     unfold zaT;by_cases hk:k=k'
     . subst hk;simp
     . have:¬p.1=k':=λe=>hk (h.symm.trans e);simp[hk,this]
   . rename_i h
     unfold zaT;by_cases hp:p.1=k'
     . have:¬k=k':=λe=>h (hp.trans e.symm);simp[hp,this]
     . simp[hp,ih]
theorem zbn.of {θ:Type}{w':World}{enc:θ->Value}{l:List (θ×Value)}(h:zbn w b enc l)(hb:w'.heap[b]?=w.heap[b]?):zbn w' b enc l:=by obtain⟨es,c,h1,h2⟩:=h;exact⟨es,c,hb.trans h1,h2⟩
theorem zbn.lt {θ:Type}{enc:θ->Value}{l:List (θ×Value)}(h:zbn w b enc l):b<w.heap.size:=by
 obtain⟨es,c,h1,h2⟩:=h;rcases Nat.lt_or_ge b w.heap.size with h|h
 . exact h
 . rw[Array.getElem?_eq_none h] at h1;cases h1
theorem zmK {k:κ}:∀{l:List (κ×Value)},k ∉ l.map (·.1)->zaT k l=none:=by
 intro l;induction l with
 | nil=>intro _;rfl
 | cons p l ih => intro h;simp at h;unfold zaT;rw[if_neg (λe=>h.1 e.symm)];exact ih (by simpa using h.2)
theorem zkK {k:κ}:∀{l:List (κ×Value)} {j:Nat},(l.map (·.1)).idxOf? k=some j->∃p,l[j]?=some p/\p.1=k/\zaT k l=some p.2/\∀v,upd k v l=l.set j (k,v):=by
 intro l;induction l with
 | nil=>intro j h;simp at h
 | cons p l ih =>
   intro j h;rw[List.map_cons,List.idxOf?_cons] at h;by_cases hp:p.1=k
   . simp[hp] at h;subst h;exact⟨p,rfl,hp,by simp[zaT,hp],λv=>by simp[upd,hp]⟩
   . simp[hp] at h;obtain⟨j',h1,rfl⟩:=h;obtain⟨q,h2,h3,h4,h5⟩:=ih (by simpa using h1);exact⟨q,by simpa using h2,h3,by simp[zaT,hp,h4],λv=>by simp[upd,hp,h5 v]⟩
theorem zh0 {k:κ}{v:Value}:∀{l:List (κ×Value)},k ∉ l.map (·.1)->upd k v l=l++[(k,v)]:=by
 intro l;induction l with
 | nil=>intro _;rfl
 | cons p l ih => intro h;simp at h;unfold upd;rw[if_neg (λe=>h.1 e.symm),ih (by simpa using h.2)];rfl
theorem zhj {k:κ}{l:List κ}(h:k∈l):∃j,l.idxOf? k=some j:=by
 cases hj:l.idxOf? k with
 | none=>rw[List.idxOf?_eq_none_iff] at hj;exact absurd h hj
 | some j=>exact⟨j,rfl⟩
variable {P:Program} {K E T:TypeId} {enc:κ->Value}
theorem zgI (hK:zg1 P K enc)(ht:P.underlying T=some (.map K E)){z:Value}(hz:∀w,(zeroValue E).run P w=.ok z w){l:List (κ×Value)}(h:zbn w b enc l)(k:κ)(ok:Bool) :
 (Instr.lookup T (.map (some b)) (enc k) ok).run P w=.ok (if ok then .tuple #[(zaT k l).getD z,.bool (zaT k l).isSome] else (zaT k l).getD z) w:=by
 obtain⟨es,c,h1,h2⟩:=h;have hks:es.toList.map (·.key)=(l.map (·.1)).map enc:=by have:=congrArg (List.map Prod.fst) h2;simpa [List.map_map,Function.comp_def] using this
 have hg:(getObj b).run P w=.ok (.map es c) w:=MapKept.run_getObj_map h1;obtain⟨f1,f2⟩:=hK.find k es.toList (l.map (·.1)) w hks;by_cases hm:k∈l.map (·.1)
 . obtain⟨j,hj⟩:=zhj hm;obtain⟨p,e1,e2,e3,_⟩:=zkK hj;have hjl:=(List.getElem?_eq_some_iff.1 e1).1;obtain⟨e,he⟩:∃e,es.toList[j]?=some e:=⟨_,zsc (by have:=congrArg List.length h2;simp at this;simpa [this] using hjl)⟩;have hv:e.val=p.2:=by have:=congrArg (λx=>(x[j]?).map Prod.snd) h2;simp[List.getElem?_map,he,e1] at this;simpa using this
   have hf:=f2 j e hj he;rw[e3];simp[Instr.lookup,run_underlying ht,hg,hK.check,hf,hv]
 . have hf:=f1 hm;rw[zmK hm];simp[Instr.lookup,run_underlying ht,hg,hK.check,hf,hz]
theorem zgh (hK:zg1 P K enc)(ht:P.underlying T=some (.map K E)){l:List (κ×Value)}(h:zbn w b enc l)(k:κ)(v:Value) :
 ∃w',(Instr.mapUpdate T (.map (some b)) (enc k) v).run P w=.ok () w'/\zbn w' b enc (upd k v l)/\Fr (·=b) w w':=by
 have hlt:=h.lt;obtain⟨es,c,h1,h2⟩:=h;have hks:es.toList.map (·.key)=(l.map (·.1)).map enc:=by have:=congrArg (List.map Prod.fst) h2;simpa [List.map_map,Function.comp_def] using this
 have hg:(getObj b).run P w=.ok (.map es c) w:=MapKept.run_getObj_map h1;have hs:∀o,(setObj b o).run P w=.ok () { w with heap:=w.heap.setIfInBounds b o }:=λo=>MapKept.run_setObj_map o h1;have hfr:∀o,Fr (·=b) w { w with heap:=w.heap.setIfInBounds b o }:=λo=>⟨rfl,rfl,rfl,by simp,λk _ hn=>by simp[Ne.symm hn]⟩;obtain⟨f1,f2⟩:=hK.find k es.toList (l.map (·.1)) w hks;by_cases hm:k∈l.map (·.1)
 . obtain⟨j,hj⟩:=zhj hm;obtain⟨p,e1,e2,e3,e4⟩:=zkK hj;have hjl:=(List.getElem?_eq_some_iff.1 e1).1;obtain⟨e,he⟩:∃e,es.toList[j]?=some e:=⟨_,zsc (by have:=congrArg List.length h2;simp at this;simpa [this] using hjl)⟩;have he':es[j]?=some e:=by simpa using he
   have hkey:e.key=enc k:=(by have:=congrArg (λx=>(x[j]?).map Prod.fst) h2;simp[List.getElem?_map,he,e1,e2] at this;simpa using this);have hf:=f2 j e hj he;refine⟨{ w with heap:=w.heap.setIfInBounds b (.map (es.modify j λe=>{ e with key:=enc k,val:=v }) c) },?_,⟨es.modify j λe=>{ e with key:=enc k,val:=v },c,?_,?_⟩,hfr _⟩
   . simp[Instr.mapUpdate,run_underlying ht,hg,hK.check,hf,he',hkey,hK.stays];exact hs _
   . simp[hlt]
   . rw[e4 v];apply List.ext_getElem?;intro i;have h2i:=congrArg (λx=>x[i]?) h2;simp only[List.getElem?_map] at h2i ⊢;rw[Array.getElem?_toList,Array.getElem?_modify,List.getElem?_set];rw[Array.getElem?_toList] at h2i;by_cases hij:j=i
     . subst hij;simp[he',hjl]
     . simpa [hij] using h2i
 . have hf:=f1 hm;refine⟨{ w with heap:=w.heap.setIfInBounds b (.map (es.push { key:=enc k,val:=v,born:=c }) (c+1)) },?_,⟨es.push { key:=enc k,val:=v,born:=c },c+1,?_,?_⟩,hfr _⟩
   . simp[Instr.mapUpdate,run_underlying ht,hg,hK.check,hf];exact hs _
   . simp[hlt]
   . rw[zh0 hm];simp[h2]
end
theorem zgz {κ:Type} [DecidableEq κ] {P:Program}{K:TypeId}{enc:κ->Value}(heq:∀(a b:κ) (w:World),(Op.equal K (enc a) (enc b)).run P w=.ok (decide (a=b)) w)(k:κ)(w:World) :
 ∀(es:List MapEntry) (ks:List κ) (i:Nat),es.map (·.key)=ks.map enc->(k ∉ ks->(Instr.findAsking K (enc k) es i).run P w=.ok none w)/\(∀j e,ks.idxOf? k=some j->es[j]?=some e->(Instr.findAsking K (enc k) es i).run P w=.ok (some (i+j,e.val)) w):=by
 intro es;induction es with
 | nil =>
   intro ks i h;cases ks with
   | nil=>exact⟨λ_=>rfl,λj e hj=>by simp at hj⟩
   | cons _ _=>simp at h
 | cons e es ih =>
   intro ks i h;cases ks with
   | nil=>simp at h
   | cons k' ks =>
     simp only[List.map_cons,List.cons.injEq] at h;obtain⟨h1,h2⟩:=h;obtain⟨i1,i2⟩:=ih ks (i+1) h2;by_cases hk:k=k'
     . subst hk;refine⟨λhn=>by simp at hn,λj e' hj he=>?_⟩;simp[List.idxOf?_cons] at hj;subst hj;simp at he;subst he;simp[Instr.findAsking,h1,heq]
     . refine⟨λhn=>?_,λj e' hj he=>?_⟩
       . simp at hn;simp[Instr.findAsking,h1,heq,hk];exact i1 hn.2
       . rw[List.idxOf?_cons] at hj;have:¬k'=k:=λe=>hk e.symm;simp[this] at hj;obtain⟨j',hj',rfl⟩:=hj;have:=i2 j' e' (by simpa using hj') (by simpa using he);simp[Instr.findAsking,h1,heq,hk];rw[this];congr 3;omega
theorem zqo (a b:ByteArray):(a==b)=decide (a=b):=by
 obtain⟨x⟩:=a;obtain⟨y⟩:=b;rw[Bool.eq_iff_iff];simp only[decide_eq_true_eq];constructor
 . intro h;unfold BEq.beq at h;have h':(x==y)=true:=h;rw[beq_iff_eq] at h';rw[h']
 . intro h;cases h
   show (x==x)=true;simp
def pr (p:Int×Int):Value:=.agg #[xI p.1,xI p.2]
theorem Tryz.eqClock (a b:Int×Int)(w:World):(Op.equal 198 (pr a) (pr b)).run prog w=.ok (decide (a=b)) w:=by
 unfold pr Op.equal;simp[go_sem,Op.maxDepth];by_cases h1:a.1=b.1
 . by_cases h2:a.2=b.2
   . simp[h1,h2,Prod.ext_iff]
   . simp[h1,h2,Prod.ext_iff]
 . simp[h1,Prod.ext_iff]
theorem Tryz.keyClock:zg1 prog 198 pr where
 check em k w:=by
  unfold pr;have h:∀n:Nat,(Instr.checkKey em (n+2) 198 (.agg #[xI k.1,xI k.2])).run prog w=.ok () w:=by intro n;simp[Instr.checkKey,go_sem]
  exact h 9998
 find k es ks w h:=by
  have hu:(underlying 198).run prog w=.ok (.struct (prog.fieldsOf 198)) w:=by simp[go_sem]
  obtain⟨h1,h2⟩:=zgz Tryz.eqClock k w es ks 0 h;cases es with
  | nil =>
    cases ks with
    | nil=>exact⟨λ_=>by simp[Instr.findKey,hu,Instr.findNow],λj e hj=>by simp at hj⟩
    | cons _ _=>simp at h
  | cons e es =>
    have hn:∀f,Instr.findNow (.struct f) (pr k) (e::es) 0=none:=λf=>by simp[Instr.findNow,Instr.sameNow]
    refine⟨λhm=>?_,λj e' hj he=>?_⟩
    . simp[Instr.findKey,hu,hn];exact h1 hm
    . simp[Instr.findKey,hu,hn];have:=h2 j e' hj he;rwa [Nat.zero_add] at this
 stays k w:=by unfold pr;simp[Instr.keyThatStays,Instr.sameBits]
theorem Tryz.eqLink (a b:Int×Int)(w:World):(Op.equal 284 (pr a) (pr b)).run prog w=.ok (decide (a=b)) w:=by
 unfold pr Op.equal;simp[go_sem,Op.maxDepth];by_cases h1:a.1=b.1
 . by_cases h2:a.2=b.2
   . simp[h1,h2,Prod.ext_iff]
   . simp[h1,h2,Prod.ext_iff]
 . simp[h1,Prod.ext_iff]
theorem Tryz.keyLink:zg1 prog 284 pr where
 check em k w:=by
  unfold pr;have h:∀n:Nat,(Instr.checkKey em (n+2) 284 (.agg #[xI k.1,xI k.2])).run prog w=.ok () w:=by intro n;simp[Instr.checkKey,go_sem]
  exact h 9998
 find k es ks w h:=by
  have hu:(underlying 284).run prog w=.ok (.struct (prog.fieldsOf 284)) w:=by simp[go_sem]
  obtain⟨h1,h2⟩:=zgz Tryz.eqLink k w es ks 0 h;cases es with
  | nil =>
    cases ks with
    | nil=>exact⟨λ_=>by simp[Instr.findKey,hu,Instr.findNow],λj e hj=>by simp at hj⟩
    | cons _ _=>simp at h
  | cons e es =>
    have hn:∀f,Instr.findNow (.struct f) (pr k) (e::es) 0=none:=λf=>by simp[Instr.findNow,Instr.sameNow]
    refine⟨λhm=>?_,λj e' hj he=>?_⟩
    . simp[Instr.findKey,hu,hn];exact h1 hm
    . simp[Instr.findKey,hu,hn];have:=h2 j e' hj he;rwa [Nat.zero_add] at this
 stays k w:=by unfold pr;simp[Instr.keyThatStays,Instr.sameBits]
theorem zoO {κ:Type} [DecidableEq κ] {d:TypeDesc}{enc:κ->Value}(heq:∀a b:κ,Instr.sameNow d (enc a) (enc b)=some (decide (a=b)))(k:κ):∀(es:List MapEntry) (ks:List κ) (i:Nat),es.map (·.key)=ks.map enc->(k ∉ ks->Instr.findNow d (enc k) es i=some none)/\(∀j e,ks.idxOf? k=some j->es[j]?=some e->Instr.findNow d (enc k) es i=some (some (i+j,e.val))):=by
 intro es;induction es with
 | nil =>
   intro ks i h;cases ks with
   | nil=>exact⟨λ_=>rfl,λj e hj=>by simp at hj⟩
   | cons _ _=>simp at h
 | cons e es ih =>
   intro ks i h;cases ks with
   | nil=>simp at h
   | cons k' ks =>
     simp only[List.map_cons,List.cons.injEq] at h;obtain⟨h1,h2⟩:=h;obtain⟨i1,i2⟩:=ih ks (i+1) h2;by_cases hk:k=k'
     . subst hk;refine⟨λhn=>by simp at hn,λj e' hj he=>?_⟩;simp[List.idxOf?_cons] at hj;subst hj;simp at he;subst he;simp[Instr.findNow,h1,heq]
     . refine⟨λhn=>?_,λj e' hj he=>?_⟩
       . simp at hn;simp[Instr.findNow,h1,heq,hk];exact i1 hn.2
       . rw[List.idxOf?_cons] at hj;have:¬k'=k:=λe=>hk e.symm;simp[this] at hj;obtain⟨j',hj',rfl⟩:=hj;have:=i2 j' e' (by simpa using hj') (by simpa using he);simp[Instr.findNow,h1,heq,hk];rw[this];congr 3;omega
theorem Tryz.keyStr:zg1 prog 9 Value.string where
 check em k w:=by
  have h:∀n:Nat,(Instr.checkKey em (n+1) 9 (.string k)).run prog w=.ok () w:=by intro n;simp[Instr.checkKey,go_sem]
  exact h 9999
 find k es ks w h:=by
  have hu:(underlying 9).run prog w=.ok .string w:=by simp[go_sem]
  obtain⟨h1,h2⟩:=zoO (d:=.string) (enc:=Value.string) (λa b=>by simp[Instr.sameNow,zqo]) k es ks 0 h;refine⟨λhm=>?_,λj e' hj he=>?_⟩
  . simp[Instr.findKey,hu,h1 hm]
  . simp[Instr.findKey,hu,h2 j e' hj he]
 stays k w:=by simp[Instr.keyThatStays,Instr.sameBits,zqo]
end
section
variable {a b:ByteArray}
attribute [local go_sem ↓] Go.wp_at_zero Go.wp_at_succ
theorem zmz (h:a=b):(a.toList==b.toList)=true:=by rw[h];simp
theorem zmx (h:¬a=b):(a.toList==b.toList)=false:=by rw[beq_eq_false_iff_ne];intro e;apply h;rw[ByteArray.toList_eq,ByteArray.toList_eq] at e;have:=Array.ext' e;cases a;cases b;simp_all
theorem zqi:∀(l:List Vr) (k:Nat) (v:Vr),l[k]?=some v->∀j u,(vrC v)[j]?=some u->(zb0 l)[k*7+j]?=some u:=by
 intro l;induction l with
 | nil=>intro k v h;simp at h
 | cons a l ih =>
   intro k v h j u hj;have e:zb0 (a::l)=vrC a++zb0 l:=rfl;have hl:(vrC a).length=7:=rfl;cases k with
   | zero => simp at h;subst h;rw[e,Nat.zero_mul,Nat.zero_add,List.getElem?_append_left (List.getElem?_eq_some_iff.1 hj).1];exact hj
   | succ k => simp at h;rw[e,List.getElem?_append_right (by omega),hl,show (k+1)*7+j-7=k*7+j by omega];exact ih k v h j u hj
def zaK (v:Vr):Nat:=if v.bl=true then 1 else 0
theorem zaM {w:World}{B n cp:Nat}{e:TypeId}{a:Option Addr}{l:List Vr}(h:w.ownsRow B e 7 (.slice a n cp) n (zb0 l)){k:Nat}{v:Vr}(hk:l[k]?=some v) :
 ∃g,a=some (xD g 0)/\xC w g (k*7) (.string v.nm)/\xC w g (k*7+1) (xI v.a)/\xC w g (k*7+2) (xI (zaK v:Nat))/\xC w g (k*7+3) (xI (zaA v:Nat))/\xC w g (k*7+4) (xI v.on)/\xC w g (k*7+5) (.string v.ck)/\xC w g (k*7+6) (xI v.ca):=by
 have hvl:(zb0 l).length=l.length*7:=by
  clear h hk;induction l with
  | nil=>rfl
  | cons a l ih=>show (vrC a++zb0 l).length=_;rw[List.length_append,ih];simp[vrC];omega
 have hl:l.length=n:=by have:=h.1;omega
 have hk':=(List.getElem?_eq_some_iff.1 hk).1;obtain⟨g,cap,hv,_⟩:=zM h (by omega);cases hv;have hc:=h.cells (g:=g) rfl;have e0:∀j,((xD g 0):Addr).add j=⟨g,j,none⟩:=λj=>by cases j <;> simp[Addr.add]
 have hat:=zqi l k v hk;refine⟨g,rfl,?_,?_,?_,?_,?_,?_,?_⟩
 . have:=hc _ _ (hat 0 _ rfl);rwa [e0] at this
 . have:=hc _ _ (hat 1 _ rfl);rwa [e0] at this
 . have:=hc _ _ (hat 2 _ rfl);rwa [e0] at this
 . have:=hc _ _ (hat 3 _ rfl);rwa [e0] at this
 . have:=hc _ _ (hat 4 _ rfl);rwa [e0] at this
 . have:=hc _ _ (hat 5 _ rfl);rwa [e0] at this
 . have:=hc _ _ (hat 6 _ rfl);rwa [e0] at this
def zk6 (o:Option Nat):Value:=.tuple #[xI (o.getD 0:Nat),.bool o.isSome]
theorem zgF {N:Nat}{n:Nod}{nb:Nat}{vs ev:Value}{xs:List Value}(s:ByteArray)(w:World)(h:NT w N n nb vs ev xs) :
 xK 120 #[xP nb,.string s] w (λe w'=>e=.returned (zk6 (n.find s))/\xB w w'):=by
 obtain⟨h0,h1,h2,h3,h4,h5,hf,hz⟩:=zt h.blk;obtain⟨x,cp,rfl⟩:=zB h.vown;have HV:=za h.vown;have hfew:=h.few;clear h;go_enter func120,ntmps120;go_wp2_with fail;go_loopg [13] (n.vars.length+1) (λj i wr=>∃k:Nat,k+j=n.vars.length+1/\k<=n.vars.length/\i=xI k/\Hid (zfj s (n.vars.drop k) k=n.find s)/\Hid (xB w wr));case atStart=>exact⟨0,by omega,Nat.zero_le _,rfl,rfl,Below.refl _ _⟩
 case round =>
  obtain⟨k,hkj,hk,rfl,HS,HB⟩:=hrel;have HV':Hid (wr.ownsRow 0 134 7 (.slice x n.vars.length cp) n.vars.length (zb0 n.vars)):=zi HV.o (λb _ hb _=>HB.o.block b hb);by_cases hlt:k<n.vars.length
  . obtain⟨v,hv⟩:∃v,n.vars[k]?=some v:=⟨_,zsc hlt⟩;obtain⟨g,rfl,c0,c1,c2,c3,c4,c5,c6⟩:=zaM HV'.o hv;have HD:=zld (s:=s) hv;rw[HS.o] at HD;clear HS hv;by_cases hq:v.nm=s
    . rw[if_pos hq] at HD;have hq':=zmz hq;clear hq;go_wp2_with fail;refine bodyPost_ret (v:=.tuple #[xI k,.bool true]) (by simp[results,results120,go_sem]) rfl ⟨by rw[HD];rfl,HB.o.trans ((Below.refl _ _).alloc HB.o.size _)⟩
    . rw[if_neg hq] at HD;have hq':=zmx hq;clear hq;go_wp2_with fail;go_roundg (gk-1);case measure=>omega
      exact⟨k+1,by omega,by omega,by go_num,HD.symm,HB.o.trans ((Below.refl _ _).alloc HB.o.size _)⟩
  . have HO:n.find s=none:=by rw[<- HS.o,List.drop_of_length_le (by omega)];rfl
    clear HS;go_wp2_with fail;refine bodyPost_ret (v:=.tuple #[xI 0,.bool false]) (by simp[results,results120,go_sem]) rfl ⟨by rw[HO];rfl,HB.o⟩
end
section
variable {er:List Nod} {N:Nat} {c:Sc} {ev nv:Value} {w w':World}
attribute [local go_sem ↓] Go.wp_at_zero Go.wp_at_succ
def NE (w:World)(N:Nat)(er:List Nod)(v:Value):Prop :=
 ∃a cp,v=.slice a er.length cp/\er.length<=cp/\cp<=9223372036854775807/\(er≠[]->∃g,a=some (xD g 0)/\g<N/\∀i n,er[i]?=some n->∃u,w.cell? (xD g i)=some u/\NP w N n u)
theorem NE.old {v:Value}(h:NE w N er v)(ho:Old N w w'):NE w' N er v:=by obtain⟨a,cp,h1,h2,h3,h4⟩:=h;refine⟨a,cp,h1,h2,h3,λhne=>?_⟩;obtain⟨g,h5,h6,h7⟩:=h4 hne;refine⟨g,h5,h6,λi n hi=>?_⟩;obtain⟨u,h8,h9⟩:=h7 i n hi;exact⟨u,(World.cell?_of_block (w:=w) (ho g h6)).trans h8,h9.old ho⟩
structure ScV (w:World) (N:Nat) (c:Sc) (ev nv:Value):Prop where
 er:NE w N c.er ev
 nd:NP w N c.nd nv
theorem ScV.old (h:ScV w N c ev nv)(ho:Old N w w'):ScV w' N c ev nv:=⟨h.er.old ho,h.nd.old ho⟩
theorem zaU {B:Nat}(h:Below B w w')(hB:B<=w.heap.size)(o:Obj):Below B w (w'.alloc o):=h.alloc (Nat.le_trans hB h.size) o
theorem zaz (s:ByteArray)(a:Int)(w:World)(h:ScV w N c ev nv)(hN:N<=w.heap.size) :
 xK 105 #[.agg #[ev,nv],.agg #[.string s,xI a]] w (λe w'=>e=.returned (xI (c.idx s:Nat))/\xB w w'):=by
 obtain⟨nb,vs,qv,xs,rfl,hn⟩:=h.nd;have HF:=za (λo1 o2=>zgF s ((w.alloc o1).alloc o2) (hn.old (zfr hN o1 o2)));go_enter func105,ntmps105;go_wp2_with (go_at_call 120;refine (HF.o _ _).mono ?_;rintro e w1 ⟨rfl,HB⟩;unfold zk6);go_ret;exact⟨rfl,zhh HB⟩
theorem zgt (s:ByteArray)(a:Int)(w:World)(h:ScV w N c ev nv)(hN:N<=w.heap.size) :
 xK 121 #[.agg #[ev,nv],.agg #[.string s,xI a]] w (λe w'=>e=.returned (.bool (c.nd.find s).isSome)/\xB w w'):=by
 obtain⟨nb,vs,qv,xs,rfl,hn⟩:=h.nd;have HF:=za (λo1 o2=>zgF s ((w.alloc o1).alloc o2) (hn.old (zfr hN o1 o2)));go_enter func121,ntmps121;go_wp2_with (go_at_call 120;refine (HF.o _ _).mono ?_;rintro e w1 ⟨rfl,HB⟩;unfold zk6);go_ret;exact⟨rfl,zhh HB⟩
def zdW (N:Nat)(c:Sc)(s:ByteArray)(w':World)(e:Ending):Prop :=
 match c.called s with
 | none=>e=.returned (.tuple #[.agg #[.slice none 0 0,.pointer none],.bool false])
 | some c'=>∃ev' nv',e=.returned (.tuple #[.agg #[ev',nv'],.bool true])/\ScV w' N c' ev' nv'
theorem NE.take {a:Option Addr}{n cp k:Nat}(h:NE w N er (.slice a n cp))(hk:k<er.length):NE w N (er.take k) (.slice a k cp):=by
 obtain⟨a',cp',h1,h2,h3,h4⟩:=h;cases h1;have hl:(er.take k).length=k:=by simp;omega
 refine⟨a,cp,by rw[hl],by omega,h3,λ_=>?_⟩;obtain⟨g,h5,h6,h7⟩:=h4 (by intro e;subst e;simp at hk);refine⟨g,h5,h6,λi n hi=>h7 i n ?_⟩;rw[List.getElem?_take] at hi;split at hi
 . exact hi
 . cases hi
theorem al3 (w:World)(o1 o2 o3:Obj):(((w.alloc o1).alloc o2).alloc o3).heap[w.heap.size]?=some o1/\(((w.alloc o1).alloc o2).alloc o3).heap[w.heap.size+1]?=some o2/\(((w.alloc o1).alloc o2).alloc o3).heap[w.heap.size+1+1]?=some o3:=by
 have h (w:World) (o:Obj) (k:Nat):(w.alloc o).heap[k]?=if k=w.heap.size then some o else w.heap[k]?:=by show (w.heap.push o)[k]?=_;rw[Array.getElem?_push]
 refine⟨?_,?_,?_⟩;all_goals simp only[h,zsb]
 . rw[if_neg (by omega),if_neg (by omega),if_pos trivial]
 . rw[if_neg (by omega),if_pos trivial]
 . rw[if_pos trivial]
theorem zhA (s:ByteArray)(a:Int)(w:World)(h:ScV w N c ev nv)(hN:N<=w.heap.size)(h6:c.er.length<=6) :
 xK 119 #[.agg #[ev,nv],.agg #[.string s,xI a]] w (λe w'=>zdW N c s w' e/\xB w w'):=by
 have hE:=h.er;obtain⟨x,cp,rfl,hcp,hmx,hin⟩:=h.er;have HE:=za hE;have Hin:=za hin;go_enter func119,ntmps119;go_wp2_with fail;go_loopg [11] (c.er.length+1) (λj i wr=>∃k:Nat,k+j=c.er.length+1/\k<=c.er.length/\i=xI k/\Hid (zgg s (c.er.drop k) k=zgg s c.er 0)/\Hid (xH wr w.heap.size #[xE x c cp,nv] 114/\xH wr (w.heap.size+1) #[.string s,xI a] 117/\xH wr (w.heap.size+1+1) #[.slice none 0 0,.pointer none] 114)/\Hid (xB w wr));case atStart=>exact⟨0,by omega,Nat.zero_le _,rfl,rfl,al3 w _ _ _,zcz w _ _ _⟩
 case round =>
  obtain⟨k,hkj,hk,rfl,HS,HX,HB⟩:=hrel;obtain⟨hx0,hx1,hx2⟩:=HX.o;obtain⟨p0,p1,pf,pz⟩:=zp hx0;obtain⟨q0,q1,qf,qz⟩:=zp hx1;obtain⟨r0,r1,rf,rz⟩:=zp hx2;by_cases hlt:k<c.er.length
  . obtain⟨n,Hn⟩:∃n,c.er[k]?=some n:=⟨_,zsc hlt⟩;have hE2:=HE.o.old (zm HB.o hN);have HE2:=za (hE2.take hlt);obtain⟨x',cp',e1,_,_,hin2⟩:=hE2;cases e1;obtain⟨g,rfl,hgN,hat⟩:=hin2 (by intro e;rw[e] at hlt;simp at hlt);obtain⟨u,hu,hnp⟩:=hat k n Hn;have HNP:=za hnp;obtain⟨nb,vs,qv,xs,rfl,hnt⟩:=hnp;obtain⟨n0,n1,n2,n3,n4,n5,nf,nz⟩:=zt hnt.blk;have hD:=zla (s:=s) Hn;rw[HS.o] at hD;have i1:(k:Int)<=(cp:Int):=by omega
    by_cases hq:n.nm=s
    . rw[if_pos hq] at hD;have hcal:c.called s=some ⟨c.er.take k,n⟩:=(by unfold Sc.called;rw[hD];simp only[Hn]);have HD:=za hcal;have hq':=zmz hq;go_wp2_with fail;go_region_held3 (λw'=>w'.cell? (xD nb 0)=some (.string n.nm)/\w'.cell? (xD (w.heap.size+1) 0)=some (.string s)) (go_keep) (fail);go_wp2_with fail;have hBn:=zo (zC (i:=1) (zC (b:=w.heap.size+1+1) (i:=0) HB.o (by omega) (xS g k cp)) (b:=w.heap.size+1+1) (by omega) (xP nb));refine bodyPost_ret (v:=.tuple #[.agg #[xS g k cp,xP nb],.bool true]) (by simp[results,results119,go_sem,r0,r1]) rfl ⟨?_,hBn⟩;have hOn:Old N wr _:=λk hk=>(hBn.block k (by omega)).trans (HB.o.block k (by omega)).symm;unfold zdW;rw[HD.o];exact⟨_,_,rfl,HE2.o.old hOn,HNP.o.old hOn⟩
    . rw[if_neg hq] at hD;have HD:=za hD;have hq':=zmx hq;go_wp2_with fail;go_region_held3 (λw'=>w'.cell? (xD nb 0)=some (.string n.nm)/\w'.cell? (xD (w.heap.size+1) 0)=some (.string s)) (go_keep) (fail);go_wp2_with fail;go_roundg (gk-1);case measure=>omega
      exact⟨k+1,by omega,by omega,by go_num,HD.o.symm,HX.o,⟨HB.o.os,HB.o.tape,HB.o.output,HB.o.size,HB.o.block⟩⟩
  . have HO:c.called s=none:=by unfold Sc.called;rw[<- HS.o,List.drop_of_length_le (by omega)];rfl
    go_wp2_with fail;refine bodyPost_ret (v:=.tuple #[.agg #[.slice none 0 0,.pointer none],.bool false]) (by simp[results,results119,go_sem,r0,r1]) rfl ⟨?_,zC (zC HB.o (by omega) _) (by omega) _⟩;unfold zdW;rw[HO]
theorem zc4 (s:ByteArray)(a:Int)(w:World)(h:ScV w N c ev nv)(hN:N<=w.heap.size)(h6:c.er.length<=6)(hc:c.called s=none) :
 xK 119 #[.agg #[ev,nv],.agg #[.string s,xI a]] w (λe w'=>e=.returned (.tuple #[.agg #[.slice none 0 0,.pointer none],.bool false])/\xB w w'):=by
 refine (zhA s a w h hN h6).mono ?_;rintro e w' ⟨h1,h2⟩;unfold zdW at h1;rw[hc] at h1;exact⟨h1,h2⟩
theorem ScV.shape (h:ScV w N c ev nv):∃x cp nb,ev=xE x c cp/\nv=xP nb/\nb<N:=by obtain⟨x,cp,h1,_⟩:=h.er;obtain⟨nb,_,_,_,h2,h3⟩:=h.nd;exact⟨x,cp,nb,h1,h2,h3.lo⟩
theorem zah {d:Sc}(s:ByteArray)(a:Int)(w:World)(h:ScV w N c ev nv)(hN:N<=w.heap.size)(h6:c.er.length<=6)(hc:c.called s=some d) :
 xK 119 #[.agg #[ev,nv],.agg #[.string s,xI a]] w (λe w'=>∃x cp nb,e=.returned (.tuple #[.agg #[xE x d cp,xP nb],.bool true])/\ScV w' N d (xE x d cp) (xP nb)/\xB w w'):=by
 refine (zhA s a w h hN h6).mono ?_;rintro e w' ⟨h1,h2⟩;unfold zdW at h1;rw[hc] at h1;obtain⟨ev',nv',h3,h4⟩:=h1;obtain⟨x,cp,nb,rfl,rfl,_⟩:=h4.shape;exact⟨x,cp,nb,h3,h4,h2⟩
end
end Go.Proofs.YtbicmofihhjgbaaGreatDoor
