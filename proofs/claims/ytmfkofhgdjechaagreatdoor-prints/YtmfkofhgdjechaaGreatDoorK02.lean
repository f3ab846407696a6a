/- Part 3 of the proof: RefH MdlE MdlG MdlH MdlX. -/
import Derived.Test.YtmfkofhgdjechaaGreatDoorK01
set_option maxRecDepth 100000
set_option maxHeartbeats 8000000
namespace Go.Proofs.YtmfkofhgdjechaaGreatDoor
open Go.Proofs.Tryz
section
open Go.RowKit
variable {F:Fx} {base n rb size:Nat} {row:Option Nat} {x xs y z:Rw} {st:St} {e:TypeId} {iv v v':Value} {a b c w w':World}
def zy5 (e:Ex)(v:Value):List Value:=[.string e.op,xI e.a,xI e.nm,v,.string e.s,xI e.n]
def zyV:List Ex->List Value->List Value
 | e::L,v::vs=>zy5 e v++zyV L vs
 | _,_=>[]
theorem zB2:∀(L:List Ex) (vs:List Value) (e:Ex) (v:Value),L.length=vs.length->zyV (L++[e]) (vs++[v])=zyV L vs++zy5 e v:=by
 intro L;induction L with
 | nil=>intro vs e v h;cases vs with
   | nil=>simp[zyV]
   | cons _ _=>simp at h
 | cons e0 L ih=>intro vs e v h;cases vs with
   | nil=>simp at h
   | cons v0 vs=>simp only[List.cons_append,zyV,ih vs e v (by simpa using h),List.append_assoc]
def zyp (l:List Nat):List Value:=l.map λ(n:Nat)=>(xI (n:Int))
def zx8 (w:World)(base:Nat)(xs:Rw)(L:List Ex):Prop :=
 L.length=xs.ins.length/\w.ownsRow base 190 6 xs.v L.length (zyV L xs.ins) /\
  ∀(i:Nat) (e:Ex) (v:Value),L[i]?=some e->xs.ins[i]?=some v->w.ownsRow base 3 1 v e.ins.length (zyp e.ins)
theorem zx8.kept {L:List Ex}(h:zx8 w base xs L)(hk:∀k,base<=k->k<w.heap.size->w'.heap[k]?=w.heap[k]?):zx8 w' base xs L:=by obtain⟨h1,h2,h3⟩:=h;exact⟨h1,zi h2 (λk a b _=>hk k a b),λi e v he hv=>zi (h3 i e v he hv) (λk a b _=>hk k a b)⟩
def Ev0 (rb:Nat)(xs xs':Rw)(w w':World):Prop :=
 Fr (λk=>k=rb∨xs.v.ownBlock=some k) w w'/\∀k,xs'.v.ownBlock=some k->xs.v.ownBlock=some k∨w.heap.size<=k
def Ev (rb:Nat)(xs xs':Rw)(w w':World):Prop :=
 Ev0 rb xs xs' w w'/\∃E,xs'.ins=xs.ins++E/\∀v,v∈E->∀k,v.ownBlock=some k->w.heap.size<=k
theorem Ev0.of_fr (h:Fr (·=rb) w w'):Ev0 rb xs xs w w':=⟨h.mono (λ_ _ h=>Or.inl h),λ_ h=>Or.inl h⟩
theorem Ev.of_fr (h:Fr (·=rb) w w'):Ev rb xs xs w w':=⟨Ev0.of_fr h,[],by simp,λ_ h=>by cases h⟩
theorem Ev.refl (rb:Nat)(xs:Rw)(w:World):Ev rb xs xs w w:=Ev.of_fr (Fr.refl _ _)
theorem Ev0.trans (h:Ev0 rb x y a b)(k:Ev0 rb y z b c):Ev0 rb x z a c:=by
 refine⟨h.1.trans' k.1 ?_,?_⟩
 . intro i hi hs;rcases hs with hs|hs
   . exact Or.inl hs
   . rcases h.2 i hs with h2|h2
     . exact Or.inr h2
     . omega
 . intro i hi;have hz:=h.1.size;rcases k.2 i hi with h2|h2
   . exact h.2 i h2
   . exact Or.inr (by omega)
theorem Ev.trans (h:Ev rb x y a b)(k:Ev rb y z b c):Ev rb x z a c:=by
 obtain⟨h1,E,h2,h3⟩:=h;obtain⟨k1,E',k2,k3⟩:=k;refine⟨h1.trans k1,E++E',by rw[k2,h2,List.append_assoc],?_⟩;intro v hv i hi;have hz:=h1.1.size;rcases List.mem_append.1 hv with hv|hv
 . exact h3 v hv i hi
 . have:=k3 v hv i hi;omega
theorem zBU (w:World)(A B:Obj):((w.alloc A).alloc B).drew.heap[w.heap.size+1]?=some B:=by have h:=zc (w.alloc A) B;rw[show (w.alloc A).heap.size=w.heap.size+1 by simp] at h;exact h
theorem zyB {xs:List Value}(h:w.ownsRow base e size v n xs)(hb:rb<base):v.ownBlock≠some rb:=by intro hv;have:=(h.lt rb hv).1;omega
theorem zs.grown (h:zs w rb F xs st)(hg:w.grownBy w' row)(hn:row≠some rb):zs w' rb F xs st:=h.kept (hg.block rb h.lt (λe=>hn e.symm))
theorem zED (h:rb<w.heap.size)(A B:Obj):rb+1<=((w.alloc A).alloc B).drew.heap.size:=by
 have h1:((w.alloc A).alloc B).drew.heap.size=w.heap.size+2:=by show ((w.heap.push A).push B).size=_;simp
 omega
theorem zAH {xs:List Value}(h:w.ownsRow base e size v n xs)(A B:Obj):((w.alloc A).alloc B).drew.ownsRow base e size v n xs :=
 zi h (λk _ hk _=>(Below.heap_alloc (w.alloc A) B k (by simp;omega)).trans (Below.heap_alloc w A k hk))
theorem zGC {e:Ex}(h:iv.oneCell'=true):∀u∈zy5 e iv,u.oneCell'=true:=by intro u hu;simp only[zy5,List.mem_cons,List.not_mem_nil,or_false] at hu;rcases hu with rfl|rfl|rfl|rfl|rfl|rfl;all_goals first|exact h|rfl
theorem zy2 {e:Nat}{xs:List Value}{base' e' size' n':Nat}{xs':List Value}(h:w.ownsRow base e size v n xs)(h':w.ownsRow base' e' size' v' n' xs')(he:e≠e'){k:Nat}(hk:v.ownBlock=some k):v'.ownBlock≠some k:=by
 intro hk';rcases h.2 with ⟨h1,_⟩|⟨g,cap,cur,h1,_,h2,_⟩
 . rw[h1] at hk;cases hk
 . rcases h'.2 with ⟨h1',_⟩|⟨g',cap',cur',h1',_,h2',_⟩
   . rw[h1'] at hk';cases hk'
   . rw[h1] at hk;rw[h1'] at hk';have e1:g=k:=(by simpa [Value.ownBlock] using hk);have e2:g'=k:=(by simpa [Value.ownBlock] using hk');rw[e1] at h2;rw[e2,h2] at h2';injection h2' with h3
     injection h3 with h4 h5
     exact he h5
theorem zyQ {e:Nat}{xs:List Value}(h:w.ownsRow base e size v n xs)(hg:w.grownBy w' row)(hn:∀k,v.ownBlock=some k->row≠some k):w'.ownsRow base e size v n xs :=
 zi h (λk _ hk hv=>hg.block k hk (λe=>hn k hv e.symm))
theorem zD6 {w1:World}{e:Ex}{A B:Obj}
 (hX:zx8 w (rb+1) xs st.L) (hlt:rb<w.heap.size)
 (HI:w.ownsRow (rb+1) 3 1 iv e.ins.length (zyp e.ins))
 (HOWN:w1.ownsRow (rb+1) 190 6 v' (st.L.length+1) (zyV st.L xs.ins++zy5 e iv))
 (HG:((w.alloc A).alloc B).drew.grownBy w1 xs.v.ownBlock) (HNEW:∀k,v'.ownBlock=some k->xs.v.ownBlock=some k∨((w.alloc A).alloc B).drew.heap.size<=k) (HL1:zs w1 rb F xs st) :
 zs (w1.setCell (xD rb 13) v') rb F ⟨v',xs.ins++[iv]⟩ (st.add e)/\zx8 (w1.setCell (xD rb 13) v') (rb+1) ⟨v',xs.ins++[iv]⟩ (st.add e).L/\Ev0 rb xs ⟨v',xs.ins++[iv]⟩ w (w1.setCell (xD rb 13) v'):=by
 obtain⟨G1,G2,G3⟩:=hX;have hapart:∀{v:Value} {l:List Nat},w.ownsRow (rb+1) 3 1 v l.length (zyp l)->(w1.setCell (xD rb 13) v').ownsRow (rb+1) 3 1 v l.length (zyp l):=by intro v l h;refine ownsRow_setCell_below ?_ (Nat.lt_succ_self rb) v';exact zyQ (zAH h A B) HG (λk hk=>zy2 (zAH h A B) (zAH G2 A B) (by decide) hk)
 refine⟨HL1.setXs v' _,⟨by simp[St.add,G1],?_,?_⟩,?_,?_⟩
 . have h:=ownsRow_setCell_below HOWN (a:=(xD rb 13)) (Nat.lt_succ_self rb) v';rw[<- zB2 _ _ _ _ G1] at h;simpa [St.add] using h
 . intro i e' v hi hv;simp only[St.add] at hi;simp only at hv;rcases Nat.lt_or_ge i st.L.length with hlt|hge
   . rw[List.getElem?_append_left hlt] at hi;rw[List.getElem?_append_left (by omega)] at hv;exact hapart (G3 i e' v hi hv)
   . rw[List.getElem?_append_right hge] at hi;rw[List.getElem?_append_right (by omega)] at hv;have:i-st.L.length=0:=by have:=(List.getElem?_eq_some_iff.1 hi).1;simp at this;omega
     rw[this] at hi;rw[<- G1,this] at hv;simp at hi hv;subst hi hv;exact hapart HI
 . have h1:Fr (λk=>k=rb∨xs.v.ownBlock=some k) w ((w.alloc A).alloc B).drew:=(((Fr.refl _ w).alloc _).alloc _).drew;have h2:Fr (λk=>k=rb∨xs.v.ownBlock=some k) ((w.alloc A).alloc B).drew w1:=⟨HG.os,HG.tape,HG.output,HG.size,λk hk hn=>HG.block k hk (λe=>hn (Or.inr e.symm))⟩;exact (h1.trans h2).setCell (Or.inl (Or.inl rfl)) v'
 . intro k hk;rcases HNEW k hk with h|h
   . exact Or.inl h
   . have:=zED (rb:=w.heap.size-1) (w:=w) (by omega) A B;exact Or.inr (by omega)
theorem Tryz.infoEx:(prog.info? 190).map (λi=>(i.zero,i.size,i.bytes))=some (some (.agg #[.string ⟨#[]⟩,xI 0,xI 0,.slice none 0 0,.string ⟨#[]⟩,xI 0]),6,80):=by kernel_rfl
theorem zGa (rb:Nat)(F:Fx)(xs:Rw)(st:St)(e:Ex)(iv:Value)(w:World)(hlen:st.L.length<=100000)(hR:zs w rb F xs st)(hX:zx8 w (rb+1) xs st.L)(hI:w.ownsRow (rb+1) 3 1 iv e.ins.length (zyp e.ins))(h1c:iv.oneCell'=true) :
 xK 283 #[xP rb,.agg #[.string e.op,xI e.a,xI e.nm,iv,.string e.s,xI e.n]] w λe' w'=>∃v',e'=.returned (xI st.L.length)/\zs w' rb F ⟨v',xs.ins++[iv]⟩ (st.add e)/\zx8 w' (rb+1) ⟨v',xs.ins++[iv]⟩ (st.add e).L/\Ev0 rb xs ⟨v',xs.ins++[iv]⟩ w w':=by
 have hf:=hR.frozen;have hlt:=hR.lt;obtain⟨h0,h1,h2,h3,h4,h5,h6,h7,h8,h9,h10,h11,h12,h13,h14⟩:=hR.cells;have g2:=hX.2.1;have HX:=za hX;have HR:=za hR;have G2:=za g2;have HI:=za hI;obtain⟨i0,hi,hz0,hz1,hz2⟩:=info_parts Tryz.infoEx;clear hR g2 hX hI;have mx:st.L.length+1<=maxLen:=by unfold maxLen;omega
 have by':(st.L.length+1)*80<=140737488355328:=by omega
 go_enter func283,ntmps283;go_wp2_with fail
 go_region_law (
  refine zJ _ rfl (.tmp 10) (.tmp 12) 100 rfl (rb+1) 190 i0 _ 6 80 underlying100 hi hz0 hz1 hz2 rfl (by decide) xs.v st.L.length (zyV st.L xs.ins) rfl (zAH G2.o _ _) (xD (w.heap.size+1) 0) 1 1 (zy5 e iv) rfl rfl (zN (zBU w _ _) rfl) (zGC h1c) mx by' (zED hlt _ _) ?_;intro v' w1 hown hgrow hnew;have HOWN:=za hown;have HNEW:=za hnew;have HG:=za hgrow;have hL1:=((HR.o.alloc _).alloc _).drew.grown hgrow (zyB G2.o (Nat.lt_succ_self _));obtain⟨q0,q1,q2,q3,q4,q5,q6,q7,q8,q9,q10,q11,q12,q13,q14⟩:=hL1.cells;have qf:=hL1.frozen;have HL1:=za hL1;obtain⟨g,cap,rfl,hg⟩:=zM hown (by omega);clear hown hgrow hL1 hnew)
 all_goals go_wp2_with fail
 all_goals go_ret
 all_goals exact⟨_,rfl,zD6 HX.o hlt HI.o HOWN.o HG.o HNEW.o HL1.o⟩
end
section
abbrev Fn:=St->St×Nat
def sE:ByteArray:=⟨#[]⟩
def St.put (st:St)(e:Ex):St×Nat:=(st.add e,st.L.length)
def zco (t:Tk)(n:Nat):Bool :=
 if t.k≠4/\t.k≠5 then false
 else if t.s.toList=[111,114]∨t.s.toList=[120,111,114] then n==0
 else if t.s.toList=[97,110,100] then n==1
 else if t.s.toList=[43]∨t.s.toList=[45] then n==2
 else if t.s.toList=[42]∨t.s.toList=[47]∨t.s.toList=[37] then n==3
 else false
def zdq (lev:Nat)(part:Fn):Nat->St×Nat->St×Nat
 | 0,x=>x
 | f+1,x=>if x.1.er=0/\zco x.1.t lev=true then
    zdq lev part f ((part x.1.step).1.put ⟨x.1.t.s,x.1.t.a,0,[x.2,(part x.1.step).2],sE,0⟩) else x
def zcT (lev:Nat)(part:Fn):Fn:=λst=>zdq lev part 1300 (part st)
def zcn (t:Tk):Bool:=t.k==4&&(t.s.toList==[61]||t.s.toList==[60,62]||t.s.toList==[60]||t.s.toList==[60,61])
def zdJ (sum:Fn):Fn:=λst =>
 let x:=sum st
 if x.1.er=0/\zcn x.1.t=true then (sum x.1.step).1.put ⟨x.1.t.s,x.1.t.a,0,[x.2,(sum x.1.step).2],sE,0⟩ else x
def zlo:ByteArray:=⟨#[110,101,103]⟩
def zk5:ByteArray:=⟨#[110,111,116]⟩
def zdn (ru smp:Fn):Fn:=λst =>
 if st.er=0/\(st.is 4 [45]||st.is 5 [110,111,116])=true then
  (ru st.enter).1.leave.put ⟨if st.is 4 [45]=true then zlo else zk5,st.t.a,0,[(ru st.enter).2],sE,0⟩
 else smp st
def zdi (st:St):Bool:=st.is 5 [119,104,101,110]||st.is 5 [119,104,101,110,111,116]
def zaY:Nat->St×Nat->St×Nat
 | 0,x=>x
 | f+1,x=>if x.1.er=0/\zdi x.1=true then
    zaY f (x.1.step.name.put ⟨x.1.t.s,x.1.t.a,x.1.step.t.a,[x.2],x.1.step.t.s,0⟩) else x
def zfu (atm:Fn):Fn:=λst=>zaY 1300 (atm st)
def zdP (op:ByteArray)(n:Nat):Fn:=λst=>st.step.put ⟨op,st.t.a,0,[],sE,n⟩
def zfR:ByteArray:=⟨#[118,97,114]⟩
def zef:ByteArray:=⟨#[99,97,108,108]⟩
def zcq:ByteArray:=⟨#[110,117,109,98,101,114]⟩
def zcb:ByteArray:=⟨#[98,111,111,108]⟩
def sIf:ByteArray:=⟨#[105,102]⟩
def zep:ByteArray:=⟨#[109,101,114,103,101]⟩
def zgW:ByteArray:=⟨#[102,98,121]⟩
def zc1 (rx:Fn):Nat->St×List Nat->St×List Nat
 | 0,x=>x
 | f+1,x=>if x.1.er=0/\x.1.is 4 [44]=true then zc1 rx f ((rx x.1.step).1,x.2++[(rx x.1.step).2]) else x
def zbG (rx:Fn)(st:St):St×List Nat:=zc1 rx 1300 ((rx st).1,[(rx st).2])
def zao (rx:Fn)(t:Tk):Fn:=λst =>
 if st.is 4 [40]=true then
  let x:=zbG rx st.enter
  (x.1.must 4 [41]).leave.put ⟨zef,t.a,t.a,x.2,t.s,0⟩
 else (st.fail 2 st.t.a,0)
def zdx (rx:Fn):Fn:=λst =>
 let c:=rx st.enter
 let a:=rx (c.1.must 5 [116,104,101,110])
 let b:=rx (a.1.must 5 [101,108,115,101])
 b.1.leave.put ⟨sIf,st.t.a,0,[c.2,a.2,b.2],sE,0⟩
def zjx:Fn:=λst=>st.step.put ⟨zfR,st.t.a,st.t.a,[],st.t.s,0⟩
def zch (atm:Fn):Fn:=λst=>if st.er≠0∨st.t.k≠2 then atm st else zjx st
def zeE (atm:Fn):Fn:=λst =>
 let c:=st.enter.t
 let a:=zch atm st.enter.name
 let b:=zch atm a.1
 b.1.leave.put ⟨zep,st.t.a,c.a,[a.2,b.2],c.s,0⟩
def zfQ (rx:Fn):Fn:=λst=>(((rx st.enter).1.must 4 [41]).leave,(rx st.enter).2)
def zap (rx ra:Fn):Fn:=λst =>
 if st.er≠0 then (st,0)
 else if st.t.k=3 then zdP zcq st.t.n st
 else if st.t.k=2 then (if st.step.is 4 [40]=true then zao rx st.t st.step else zjx st)
 else if st.is 4 [40]=true then zfQ rx st
 else if st.is 5 [116,114,117,101]=true then zdP zcb 1 st
 else if st.is 5 [102,97,108,115,101]=true then zdP zcb 0 st
 else if st.is 5 [105,102]=true then zdx rx st
 else if st.is 5 [109,101,114,103,101]=true then zeE ra st
 else (st.fail 2 st.t.a,0)
def zgk (rx eith:Fn):Fn:=λst =>
 let x:=eith st
 if x.1.er=0/\x.1.is 5 [102,98,121]=true then
  (rx x.1.enter).1.leave.put ⟨zgW,x.1.t.a,0,[x.2,(rx x.1.enter).2],sE,0⟩
 else x
structure Lev where
 ex:Fn
 un:Fn
 at':Fn
def Lev.sum (l:Lev):Fn:=zcT 2 (zcT 3 l.un)
def Lev.either (l:Lev):Fn:=zcT 0 (zcT 1 (zdJ l.sum))
def lev:Nat->Lev
 | 0=>⟨λst=>(st,0),λst=>(st,0),λst=>(st,0)⟩
 | d+1 =>
   let a:=zap (lev d).ex (lev d).at'
   let u:=zdn (lev d).un (zfu a)
   ⟨zgk (lev d).ex (zcT 0 (zcT 1 (zdJ (zcT 2 (zcT 3 u))))),u,a⟩
structure Inv (p:Nat) (st:St):Prop where
 ok:st.Ok
 pot:st.L.length+p<=st.t.a+(if st.er=0 then 0 else 1)
 op1:st.op<=17
 op0:st.er=0->st.op<=16
 bad:st.er≠0->st.t.k=1
 tok:2<=st.t.k->st.t.a<st.t.t
structure zaN (M:Fn) (st:St) (p:Nat):Prop where
 inv:Inv p (M st).1
 op:(M st).1.op=st.op
 src:(M st).1.src=st.src
 ta:st.t.a<=(M st).1.t.a
 L:∃E,(M st).1.L=st.L++E
 er:st.er≠0->M st=(st,(M st).2)
 num:(M st).1.er=0->(M st).2<(M st).1.L.length
theorem St.step_L (st:St):st.step.L=st.L:=by unfold St.step;split <;> rfl
theorem St.fail_L (st:St)(e a:Nat):(st.fail e a).L=st.L:=by unfold St.fail;split <;> rfl
theorem St.must_L (st:St)(k:Nat)(l:List UInt8):(st.must k l).L=st.L:=by unfold St.must;split;exact st.step_L;exact st.fail_L _ _
theorem St.name_L (st:St):st.name.L=st.L:=by unfold St.name;split;exact st.step_L;exact st.fail_L _ _
theorem St.enter_L (st:St):st.enter.L=st.L:=by unfold St.enter;split;exact St.fail_L _ _ _;exact St.step_L _
end
section
variable {M part:Fn} {l:List UInt8} {a d e k lv p:Nat} {st:St} {t:Tk}
def zv (d:Nat)(M:Fn):Prop:=∀(st:St) (p:Nat),Inv p st->18<=st.op+d->zaN M st p
theorem Inv.is_ok (h:Inv p st)(hk:k≠1)(hi:st.is k l=true):st.er=0:=by
 by_cases he:st.er=0
 . exact he
 . have:=h.bad he;simp[St.is,this] at hi;omega
theorem Inv.is_k (hi:st.is k l=true):st.t.k=k:=by simp[St.is] at hi;exact hi.1
theorem St.enter_op:st.enter.op=st.op+1:=by
 unfold St.enter;split
 . unfold St.fail;split <;> rfl
 . unfold St.step;split <;> rfl
theorem St.fail_op (st:St)(e a:Nat):(st.fail e a).op=st.op:=by unfold St.fail;split <;> rfl
theorem St.fail_src (st:St)(e a:Nat):(st.fail e a).src=st.src:=by unfold St.fail;split <;> rfl
theorem St.fail_ta (st:St)(e a:Nat):(st.fail e a).t.a=st.t.a:=by unfold St.fail;split <;> rfl
theorem St.fail_er (st:St)(he:e≠0):(st.fail e a).er≠0:=by unfold St.fail;split <;> simp[*]
theorem St.step_op (st:St):st.step.op=st.op:=by unfold St.step;split <;> rfl
theorem St.step_er (st:St):st.step.er=st.er:=by unfold St.step;split <;> rfl
theorem St.step_bad (h:st.er≠0):st.step=st:=by unfold St.step;rw[if_neg h]
theorem St.step_ok (h:st.er=0):st.step={ st with t:=zZ st.src st.t.t }:=by unfold St.step;rw[if_pos h]
structure Fwd (p:Nat) (st st':St):Prop where
 inv:Inv p st'
 src:st'.src=st.src
 ta:st.t.a<=st'.t.a
 L:∃E,st'.L=st.L++E
 er:st.er≠0->st'.er≠0
theorem Fwd.refl (h:Inv p st):Fwd p st st:=⟨h,rfl,Nat.le_refl _,⟨[],by simp⟩,λh=>h⟩
theorem Fwd.trans {q:Nat}{a b c:St}(h:Fwd p a b)(k:Fwd q b c):Fwd q a c:=by obtain⟨E,hE⟩:=h.L;obtain⟨E',hE'⟩:=k.L;exact⟨k.inv,k.src.trans h.src,Nat.le_trans h.ta k.ta,⟨E++E',by rw[hE',hE,List.append_assoc]⟩,λe=>k.er (h.er e)⟩
theorem Fwd.use (h:Inv p st)(he:st.er=0)(hk:2<=st.t.k):Fwd (p+1) st st.step:=by
 have hf:=zV st.src st.t.t h.ok.tt;have h1:=h.pot;have h2:=h.tok hk;rw[if_pos he] at h1;have hok:=h.ok.step;rw[St.step_ok he] at hok ⊢;refine⟨⟨hok,?_,h.op1,h.op0,λh=>absurd he h,hf.2.2.2.2.2⟩,rfl,?_,⟨[],by simp⟩,λh=>h⟩
 . simp only[he,if_pos];omega
 . simp only;omega
theorem Fwd.step (h:Inv p st):Fwd p st st.step:=by
 by_cases he:st.er=0
 . have hf:=zV st.src st.t.t h.ok.tt;have h1:=h.pot;have h2:=h.ok.ta;rw[if_pos he] at h1;have hok:=h.ok.step;rw[St.step_ok he] at hok ⊢;refine⟨⟨hok,?_,h.op1,h.op0,λh=>absurd he h,hf.2.2.2.2.2⟩,rfl,?_,⟨[],by simp⟩,λh=>h⟩
   . simp only[he,if_pos];omega
   . simp only;omega
 . rw[St.step_bad he];exact Fwd.refl h
theorem Fwd.fail (h:Inv p st)(h0:e≠0)(he:e<=11)(ha:a<=1200):Fwd p st (st.fail e a):=by
 have h1:=h.pot;refine⟨⟨h.ok.fail he ha,?_,by rw[St.fail_op];exact h.op1,λh2=>absurd h2 (St.fail_er st h0),?_,?_⟩,St.fail_src _ _ _,by rw[St.fail_ta];exact Nat.le_refl _,⟨[],by rw[St.fail_L];simp⟩,λ_=>St.fail_er st h0⟩
 . rw[St.fail_L,St.fail_ta,if_neg (St.fail_er st h0)];split at h1 <;> omega
 . intro _;unfold St.fail;split <;> rfl
 . intro h2;exfalso;unfold St.fail at h2;split at h2 <;> simp at h2
theorem Fwd.must (h:Inv p st)(k:Nat)(l:List UInt8):Fwd p st (st.must k l):=by
 unfold St.must;split
 . exact Fwd.step h
 . exact Fwd.fail h (by omega) (by omega) h.ok.ta_le
theorem Fwd.name (h:Inv p st):Fwd p st st.name:=by
 unfold St.name;split
 . exact Fwd.step h
 . exact Fwd.fail h (by omega) (by omega) h.ok.ta_le
theorem St.must_op (st:St)(k:Nat)(l:List UInt8):(st.must k l).op=st.op:=by unfold St.must;split;exact st.step_op;exact st.fail_op _ _
theorem St.name_op (st:St):st.name.op=st.op:=by unfold St.name;split;exact st.step_op;exact st.fail_op _ _
theorem Fwd.enter (h:Inv p st)(he:st.er=0)(hk:2<=st.t.k):Fwd (p+1) st st.enter:=by
 have h1:=h.pot;have h2:=h.op0 he;have h3:=h.tok hk;have h4:=h.op1;rw[if_pos he] at h1;have hok:=h.ok.enter (by omega);have hf:=zV st.src st.t.t h.ok.tt;unfold St.enter at hok ⊢;split at hok
 . rename_i hc
   rw[if_pos hc];refine⟨⟨hok,?_,?_,λh=>absurd h (St.fail_er _ (by omega)),λ_=>?_,λh=>?_⟩,St.fail_src _ _ _,by rw[St.fail_ta];exact Nat.le_refl _,⟨[],by rw[St.fail_L];simp⟩,λ_=>St.fail_er _ (by omega)⟩
   . rw[St.fail_L,St.fail_ta,if_neg (St.fail_er _ (by omega))];simp only;omega
   . rw[St.fail_op];simp only;omega
   . unfold St.fail;split <;> rfl
   . exfalso;unfold St.fail at h;split at h <;> simp at h
 . rename_i hc
   rw[if_neg hc];rw[St.step_ok (show ({ st with op:=st.op+1 }:St).er=0 from he)] at hok ⊢;refine⟨⟨hok,?_,?_,λ_=>?_,λh=>absurd he h,hf.2.2.2.2.2⟩,rfl,?_,⟨[],by simp⟩,λh=>h⟩
   . simp only[he,if_pos];omega
   . simp only;omega
   . simp only;omega
   . simp only;omega
theorem Fwd.leave (h:Inv p st):Fwd p st st.leave:=by
 refine⟨⟨h.ok.leave,h.pot,?_,?_,h.bad,h.tok⟩,rfl,Nat.le_refl _,⟨[],by simp[St.leave]⟩,λh=>h⟩
 . have:=h.op1;unfold St.leave;simp only;omega
 . intro he;have:=h.op0 he;unfold St.leave;simp only;omega
theorem Fwd.put (h:Inv (p+1) st)(e:Ex):Fwd p st (st.put e).1:=by refine⟨⟨h.ok.add e,?_,h.op1,h.op0,h.bad,h.tok⟩,rfl,Nat.le_refl _,⟨[e],rfl⟩,λh=>h⟩;have:=h.pot;simp only[St.put,St.add,List.length_append,List.length_cons,List.length_nil];split at this <;> simp_all <;> omega
theorem zaN.fwd (h:zaN M st p):Fwd p st (M st).1:=⟨h.inv,h.src,h.ta,h.L,λe=>by rw[h.er e];exact e⟩
theorem zaN.of_fwd (he:st.er=0)(h:Fwd p st (M st).1)(ho:(M st).1.op=st.op)(hn:(M st).1.er=0->(M st).2<(M st).1.L.length):zaN M st p :=
 ⟨h.inv,ho,h.src,h.ta,h.L,λe=>absurd he e,hn⟩
theorem zgp (st:St)(e:Ex):(st.put e).2<(st.put e).1.L.length:=by simp[St.put,St.add]
theorem zgS {n:Nat}(h:zco t n=true):2<=t.k:=by
 unfold zco at h;split at h
 . cases h
 . omega
theorem zl8 (hP:zv d part):∀(f p:Nat) (x:St×Nat),Inv p x.1->18<=x.1.op+d->(x.1.er=0->x.2<x.1.L.length) ->
 Fwd p x.1 (zdq lv part f x).1/\(zdq lv part f x).1.op=x.1.op/\((zdq lv part f x).1.er=0->(zdq lv part f x).2<(zdq lv part f x).1.L.length)/\(x.1.er≠0->zdq lv part f x=x):=by
 intro f;induction f with
 | zero=>intro p x hI _ hn;exact⟨Fwd.refl hI,rfl,hn,λ_=>rfl⟩
 | succ f ih =>
   intro p x hI ho hn
   show Fwd p x.1 (if _ then _ else x).1/\(if _ then _ else x).1.op=x.1.op/\((if _ then _ else x).1.er=0->(if _ then _ else x).2<(if _ then _ else x).1.L.length)/\(x.1.er≠0->(if _ then _ else x)=x);by_cases hc:x.1.er=0/\zco x.1.t lv=true
   . rw[if_pos hc];have h1:=Fwd.use hI hc.1 (zgS hc.2);have h2:=hP x.1.step (p+1) h1.inv (by rw[St.step_op];exact ho);have h3:=Fwd.put h2.inv ⟨x.1.t.s,x.1.t.a,0,[x.2,(part x.1.step).2],sE,0⟩;have ho3:(((part x.1.step).1.put ⟨x.1.t.s,x.1.t.a,0,[x.2,(part x.1.step).2],sE,0⟩).1).op=x.1.op:=h2.op.trans (St.step_op _);have h4:=ih p _ h3.inv (by rw[ho3];exact ho) (λ_=>zgp _ _);exact⟨((h1.trans h2.fwd).trans h3).trans h4.1,h4.2.1.trans ho3,h4.2.2.1,λe=>absurd hc.1 e⟩
   . rw[if_neg hc];exact⟨Fwd.refl hI,rfl,hn,λ_=>rfl⟩
theorem zcF (hP:zv d part):zv d (zcT lv part):=by
 intro st p hI ho;have h1:=hP st p hI ho;have h2:=zl8 (lv:=lv) hP 1300 p (part st) h1.inv (by rw[h1.op];exact ho) h1.num;refine⟨h2.1.inv,h2.2.1.trans h1.op,h2.1.src.trans h1.src,Nat.le_trans h1.ta h2.1.ta,(h1.fwd.trans h2.1).L,λe=>?_,h2.2.2.1⟩;have e1:=h1.er e
 show zdq lv part 1300 (part st)=(st,_);rw[h2.2.2.2 (by rw[e1];exact e)];exact Prod.ext (by rw[e1]) (by show _=(zdq lv part 1300 (part st)).2;rw[h2.2.2.2 (by rw[e1];exact e)])
theorem znN (h:zcn t=true):2<=t.k:=by simp[zcn] at h;omega
theorem zh6 {sum:Fn}(hP:zv d sum):zv d (zdJ sum):=by
 intro st p hI ho;have h1:=hP st p hI ho;by_cases hc:(sum st).1.er=0/\zcn (sum st).1.t=true
 . have e:zdJ sum st=(sum (sum st).1.step).1.put ⟨(sum st).1.t.s,(sum st).1.t.a,0,[(sum st).2,(sum (sum st).1.step).2],sE,0⟩:=by unfold zdJ;simp only;rw[if_pos hc]
   have h2:=Fwd.use h1.inv hc.1 (znN hc.2);have h3:=hP _ (p+1) h2.inv (by rw[St.step_op,h1.op];exact ho);have h4:=Fwd.put h3.inv ⟨(sum st).1.t.s,(sum st).1.t.a,0,[(sum st).2,(sum (sum st).1.step).2],sE,0⟩;have he:st.er=0:=by
    by_cases he:st.er=0
    . exact he
    . exact absurd hc.1 (h1.fwd.er he)
   refine zaN.of_fwd he ?_ ?_ ?_
   . rw[e];exact ((h1.fwd.trans h2).trans h3.fwd).trans h4
   . rw[e];exact (h3.op.trans (St.step_op _)).trans h1.op
   . rw[e];exact λ_=>zgp _ _
 . have e:zdJ sum st=sum st:=by unfold zdJ;simp only;rw[if_neg hc]
   exact⟨by rw[e];exact h1.inv,by rw[e];exact h1.op,by rw[e];exact h1.src,by rw[e];exact h1.ta,by rw[e];exact h1.L,by rw[e];exact h1.er,by rw[e];exact h1.num⟩
end
section
variable {M atm rx:Fn} {d p:Nat} {st:St}
theorem zaN.same {N:Fn}(h:zaN N st p)(e:M st=N st):zaN M st p :=
 ⟨by rw[e];exact h.inv,by rw[e];exact h.op,by rw[e];exact h.src,by rw[e];exact h.ta,by rw[e];exact h.L,by rw[e];exact h.er,by rw[e];exact h.num⟩
theorem zaN.of_put {s1:St}{e:Ex}(he:st.er=0)(hM:M st=s1.put e)(h:Fwd (p+1) st s1)(ho:s1.op=st.op):zaN M st p:=by
 refine zaN.of_fwd he ?_ ?_ ?_
 . rw[hM];exact h.trans (Fwd.put h.inv e)
 . rw[hM];exact ho
 . rw[hM];exact λ_=>zgp _ _
theorem zfk (op:ByteArray)(n:Nat)(hI:Inv p st)(he:st.er=0)(hk:2<=st.t.k):zaN (zdP op n) st p :=
 zaN.of_put he rfl (Fwd.use hI he hk) (St.step_op _)
theorem zjD (hI:Inv p st)(he:st.er=0)(hk:2<=st.t.k):zaN zjx st p :=
 zaN.of_put he rfl (Fwd.use hI he hk) (St.step_op _)
theorem St.leave_op (st:St):st.leave.op=st.op-1:=rfl
theorem zhu {ru smp:Fn}(hU:zv d ru)(hS:zv (d+1) smp):zv (d+1) (zdn ru smp):=by
 intro st p hI ho;by_cases hc:st.er=0/\(st.is 4 [45]||st.is 5 [110,111,116])=true
 . have hk:2<=st.t.k:=by
    rcases Bool.or_eq_true_iff.1 hc.2 with h|h
    . have:=Inv.is_k h;omega
    . have:=Inv.is_k h;omega
   have h1:=Fwd.enter hI hc.1 hk;have h2:=hU st.enter (p+1) h1.inv (by rw[St.enter_op];omega);have h3:=Fwd.leave h2.inv;refine zaN.of_put hc.1 (by unfold zdn;rw[if_pos hc]) ((h1.trans h2.fwd).trans h3) ?_;rw[St.leave_op,h2.op,St.enter_op];rfl
 . exact (hS st p hI ho).same (by unfold zdn;rw[if_neg hc])
theorem zok (h:zdi st=true):2<=st.t.k:=by
 rcases Bool.or_eq_true_iff.1 h with h|h
 . have:=Inv.is_k h;omega
 . have:=Inv.is_k h;omega
theorem ziC:∀(f p:Nat) (x:St×Nat),Inv p x.1->(x.1.er=0->x.2<x.1.L.length) ->
 Fwd p x.1 (zaY f x).1/\(zaY f x).1.op=x.1.op/\((zaY f x).1.er=0->(zaY f x).2<(zaY f x).1.L.length)/\(x.1.er≠0->zaY f x=x):=by
 intro f;induction f with
 | zero=>intro p x hI hn;exact⟨Fwd.refl hI,rfl,hn,λ_=>rfl⟩
 | succ f ih =>
   intro p x hI hn
   show Fwd p x.1 (if _ then _ else x).1/\(if _ then _ else x).1.op=x.1.op/\((if _ then _ else x).1.er=0->(if _ then _ else x).2<(if _ then _ else x).1.L.length)/\(x.1.er≠0->(if _ then _ else x)=x);by_cases hc:x.1.er=0/\zdi x.1=true
   . rw[if_pos hc];have h1:=Fwd.use hI hc.1 (zok hc.2);have h2:=Fwd.name h1.inv;have h3:=Fwd.put h2.inv ⟨x.1.t.s,x.1.t.a,x.1.step.t.a,[x.2],x.1.step.t.s,0⟩;have ho3:((x.1.step.name.put ⟨x.1.t.s,x.1.t.a,x.1.step.t.a,[x.2],x.1.step.t.s,0⟩).1).op=x.1.op:=(St.name_op _).trans (St.step_op _);have h4:=ih p _ h3.inv (λ_=>zgp _ _);exact⟨((h1.trans h2).trans h3).trans h4.1,h4.2.1.trans ho3,h4.2.2.1,λe=>absurd hc.1 e⟩
   . rw[if_neg hc];exact⟨Fwd.refl hI,rfl,hn,λ_=>rfl⟩
theorem zfY (hP:zv d atm):zv d (zfu atm):=by
 intro st p hI ho;have h1:=hP st p hI ho;have h2:=ziC 1300 p (atm st) h1.inv h1.num;refine⟨h2.1.inv,h2.2.1.trans h1.op,h2.1.src.trans h1.src,Nat.le_trans h1.ta h2.1.ta,(h1.fwd.trans h2.1).L,λe=>?_,h2.2.2.1⟩;have e1:=h1.er e
 show zaY 1300 (atm st)=(st,_);rw[h2.2.2.2 (by rw[e1];exact e)];exact Prod.ext (by rw[e1]) (by show _=(zaY 1300 (atm st)).2;rw[h2.2.2.2 (by rw[e1];exact e)])
theorem zln (hP:zv d rx):∀(f p:Nat) (x:St×List Nat),Inv p x.1->18<=x.1.op+d->x.2.length<=x.1.t.a ->
 Fwd p x.1 (zc1 rx f x).1/\(zc1 rx f x).1.op=x.1.op/\(zc1 rx f x).2.length<=(zc1 rx f x).1.t.a:=by
 intro f;induction f with
 | zero=>intro p x hI _ hl;exact⟨Fwd.refl hI,rfl,hl⟩
 | succ f ih =>
   intro p x hI ho hl
   show Fwd p x.1 (if _ then _ else x).1/\(if _ then _ else x).1.op=x.1.op/\(if _ then _ else x).2.length<=(if _ then _ else x).1.t.a;by_cases hc:x.1.er=0/\x.1.is 4 [44]=true
   . rw[if_pos hc];have hk:=Inv.is_k hc.2;have h0:=Fwd.use hI hc.1 (by omega);have hta:x.1.t.a+1<=x.1.step.t.a:=(by have:=hI.tok (by omega);rw[St.step_ok hc.1];have hf:=zV x.1.src x.1.t.t hI.ok.tt;simp only;omega);have h1:=Fwd.step hI;have h2:=hP x.1.step p h1.inv (by rw[St.step_op];exact ho);have h4:=ih p ((rx x.1.step).1,x.2++[(rx x.1.step).2]) h2.inv (by rw[h2.op,St.step_op];exact ho) (by have:=h2.ta;simp only[List.length_append,List.length_cons,List.length_nil];omega);exact⟨(h1.trans h2.fwd).trans h4.1,h4.2.1.trans (h2.op.trans (St.step_op _)),h4.2.2⟩
   . rw[if_neg hc];exact⟨Fwd.refl hI,rfl,hl⟩
theorem zid (hP:zv d rx)(hI:Inv p st)(ho:18<=st.op+d)(ha:1<=st.t.a):Fwd p st (zbG rx st).1/\(zbG rx st).1.op=st.op/\(zbG rx st).2.length<=(zbG rx st).1.t.a:=by have h1:=hP st p hI ho;have h2:=zln hP 1300 p ((rx st).1,[(rx st).2]) h1.inv (by rw[h1.op];exact ho) (by have:=h1.ta;simp only[List.length_cons,List.length_nil];omega);exact⟨h1.fwd.trans h2.1,h2.2.1.trans h1.op,h2.2.2⟩
theorem zis (hP:zv d rx)(t:Tk)(hI:Inv p st)(he:st.er=0)(ho:18<=st.op+(d+1))(ha:1<=st.t.a):zaN (zao rx t) st p:=by
 by_cases hc:st.is 4 [40]=true
 . have hk:=Inv.is_k hc;have h1:=Fwd.enter hI he (by omega);have h2:=zid hP h1.inv (by rw[St.enter_op];omega) (Nat.le_trans ha h1.ta);have h3:=Fwd.must h2.1.inv 4 [41];have h4:=Fwd.leave h3.inv;refine zaN.of_put he (by unfold zao;rw[if_pos hc]) (((h1.trans h2.1).trans h3).trans h4) ?_;rw[St.leave_op,St.must_op,h2.2.1,St.enter_op];rfl
 . have e:zao rx t st=(st.fail 2 st.t.a,0):=by unfold zao;rw[if_neg hc]
   refine zaN.of_fwd he ?_ ?_ ?_
   . rw[e];exact Fwd.fail hI (by omega) (by omega) hI.ok.ta_le
   . rw[e];exact St.fail_op _ _ _
   . rw[e];exact λh=>absurd h (St.fail_er st (by omega))
theorem zj7 (hP:zv d rx)(hI:Inv p st)(he:st.er=0)(hk:2<=st.t.k)(ho:18<=st.op+(d+1)):zaN (zdx rx) st p:=by
 have h1:=Fwd.enter hI he hk;have o1:st.enter.op=st.op+1:=St.enter_op;have h2:=hP st.enter (p+1) h1.inv (by rw[o1];omega);have h3:=Fwd.must h2.inv 5 [116,104,101,110];have o3:((rx st.enter).1.must 5 [116,104,101,110]).op=st.op+1:=by rw[St.must_op,h2.op,o1]
 have h4:=hP _ (p+1) h3.inv (by rw[o3];omega);have h5:=Fwd.must h4.inv 5 [101,108,115,101];have o5:((rx ((rx st.enter).1.must 5 [116,104,101,110])).1.must 5 [101,108,115,101]).op=st.op+1:=by rw[St.must_op,h4.op,o3]
 have h6:=hP _ (p+1) h5.inv (by rw[o5];omega);have h7:=Fwd.leave h6.inv;refine zaN.of_put he rfl ((((((h1.trans h2.fwd).trans h3).trans h4.fwd).trans h5).trans h6.fwd).trans h7) ?_;rw[St.leave_op,h6.op,o5];rfl
theorem zf0 (hP:zv d atm):zv d (zch atm):=by
 intro st p hI ho;by_cases hc:st.er≠0∨st.t.k≠2
 . exact (hP st p hI ho).same (by unfold zch;rw[if_pos hc])
 . exact (zjD hI (by omega) (by omega)).same (by unfold zch;rw[if_neg hc])
theorem zlU (hP:zv d atm)(hI:Inv p st)(he:st.er=0)(hk:2<=st.t.k)(ho:18<=st.op+(d+1)):zaN (zeE atm) st p:=by have h1:=Fwd.enter hI he hk;have h2:=Fwd.name h1.inv;have o2:st.enter.name.op=st.op+1:=(St.name_op _).trans St.enter_op;have h3:=zf0 hP st.enter.name (p+1) h2.inv (by rw[o2];omega);have h4:=zf0 hP _ (p+1) h3.inv (by rw[h3.op,o2];omega);have h5:=Fwd.leave h4.inv;refine zaN.of_put he rfl ((((h1.trans h2).trans h3.fwd).trans h4.fwd).trans h5) ?_;rw[St.leave_op,h4.op,h3.op,o2];rfl
theorem zlu (hP:zv d rx)(hI:Inv p st)(he:st.er=0)(hk:2<=st.t.k)(ho:18<=st.op+(d+1)):zaN (zfQ rx) st p:=by
 have h1:=Fwd.enter hI he hk;have h2:=hP st.enter (p+1) h1.inv (by rw[St.enter_op];omega);have h3:=Fwd.must h2.inv 4 [41];have h4:=Fwd.leave h3.inv;have hf:=((h1.trans h2.fwd).trans h3).trans h4;refine zaN.of_fwd he ⟨⟨hf.inv.ok,?_,hf.inv.op1,hf.inv.op0,hf.inv.bad,hf.inv.tok⟩,hf.src,hf.ta,hf.L,hf.er⟩ ?_ ?_
 . exact Nat.le_trans (Nat.add_le_add_left (Nat.le_succ p) _) hf.inv.pot
 . show ((rx st.enter).1.must 4 [41]).leave.op=_;rw[St.leave_op,St.must_op,h2.op,St.enter_op];rfl
 . intro hz;have hz1:((rx st.enter).1.must 4 [41]).er=0:=hz;have hz2:(rx st.enter).1.er=0:=by
    by_cases h:(rx st.enter).1.er=0
    . exact h
    . exact absurd hz1 (h3.er h)
   have:=h2.num hz2
   show (rx st.enter).2<((rx st.enter).1.must 4 [41]).leave.L.length
   show (rx st.enter).2<((rx st.enter).1.must 4 [41]).L.length;rw[St.must_L];exact this
theorem zh7 {ra:Fn}(hX:zv d rx)(hA:zv d ra):zv (d+1) (zap rx ra):=by
 intro st p hI ho;by_cases he:st.er=0
 . have hn:¬st.er≠0:=by omega
   have hfail:zaN (λst=>(st.fail 2 st.t.a,0)) st p:=(by refine zaN.of_fwd he (Fwd.fail hI (by omega) (by omega) hI.ok.ta_le) (St.fail_op _ _ _) (λh=>absurd h (St.fail_er st (by omega))));by_cases h3:st.t.k=3
   . exact (zfk zcq st.t.n hI he (by omega)).same (by unfold zap;rw[if_neg hn,if_pos h3])
   . by_cases h2:st.t.k=2
     . by_cases hp:st.step.is 4 [40]=true
       . have e1:zap rx ra st=zao rx st.t st.step:=(by unfold zap;rw[if_neg hn,if_neg h3,if_pos h2,if_pos hp]);have hs:=Fwd.step hI;have hta:1<=st.step.t.a:=(by have:=hI.tok (by omega);rw[St.step_ok he];have hf:=zV st.src st.t.t hI.ok.tt;simp only;omega);have hg:=zis hX st.t hs.inv (by rw[St.step_er];exact he) (by rw[St.step_op];omega) hta;have hw:=hs.trans hg.fwd;refine zaN.of_fwd he ?_ ?_ ?_
         . rw[e1];exact hw
         . rw[e1];exact hg.op.trans (St.step_op _)
         . rw[e1];exact hg.num
       . exact (zjD hI he (by omega)).same (by unfold zap;rw[if_neg hn,if_neg h3,if_pos h2,if_neg hp])
     . by_cases c1:st.is 4 [40]=true
       . exact (zlu hX hI he (by have:=Inv.is_k c1;omega) (by omega)).same (by unfold zap;rw[if_neg hn,if_neg h3,if_neg h2,if_pos c1])
       . by_cases c2:st.is 5 [116,114,117,101]=true
         . exact (zfk zcb 1 hI he (by have:=Inv.is_k c2;omega)).same (by unfold zap;rw[if_neg hn,if_neg h3,if_neg h2,if_neg c1,if_pos c2])
         . by_cases c3:st.is 5 [102,97,108,115,101]=true
           . exact (zfk zcb 0 hI he (by have:=Inv.is_k c3;omega)).same (by unfold zap;rw[if_neg hn,if_neg h3,if_neg h2,if_neg c1,if_neg c2,if_pos c3])
           . by_cases c4:st.is 5 [105,102]=true
             . exact (zj7 hX hI he (by have:=Inv.is_k c4;omega) (by omega)).same (by unfold zap;rw[if_neg hn,if_neg h3,if_neg h2,if_neg c1,if_neg c2,if_neg c3,if_pos c4])
             . by_cases c5:st.is 5 [109,101,114,103,101]=true
               . exact (zlU hA hI he (by have:=Inv.is_k c5;omega) (by omega)).same (by unfold zap;rw[if_neg hn,if_neg h3,if_neg h2,if_neg c1,if_neg c2,if_neg c3,if_neg c4,if_pos c5])
               . exact hfail.same (by unfold zap;rw[if_neg hn,if_neg h3,if_neg h2,if_neg c1,if_neg c2,if_neg c3,if_neg c4,if_neg c5])
 . have e:zap rx ra st=(st,0):=by unfold zap;rw[if_pos he]
   exact⟨by rw[e];exact hI,by rw[e],by rw[e],by rw[e];exact Nat.le_refl _,⟨[],by rw[e];simp⟩,λ_=>by rw[e],λh=>by rw[e] at h;exact absurd h he⟩
theorem zmd {eith:Fn}(hX:zv d rx)(hE:zv (d+1) eith):zv (d+1) (zgk rx eith):=by
 intro st p hI ho;have h1:=hE st p hI ho;by_cases hc:(eith st).1.er=0/\(eith st).1.is 5 [102,98,121]=true
 . have h2:=Fwd.enter h1.inv hc.1 (by have:=Inv.is_k hc.2;omega);have h3:=hX _ (p+1) h2.inv (by rw[St.enter_op,h1.op];omega);have h4:=Fwd.leave h3.inv;have he:st.er=0:=by
    by_cases he:st.er=0
    . exact he
    . exact absurd hc.1 (h1.fwd.er he)
   refine zaN.of_put he (by unfold zgk;simp only;rw[if_pos hc]) (((h1.fwd.trans h2).trans h3.fwd).trans h4) ?_;rw[St.leave_op,h3.op,St.enter_op,h1.op];rfl
 . exact h1.same (by unfold zgk;simp only;rw[if_neg hc])
theorem zgP:∀d,zv d (lev d).ex/\zv d (lev d).un/\zv d (lev d).at':=by
 intro d;induction d with
 | zero =>
   have h:∀M:Fn,zv 0 M:=λM st p hI ho=>by have:=hI.op1;omega
   exact⟨h _,h _,h _⟩
 | succ d ih => have ha:=zh7 ih.1 ih.2.2;have hu:=zhu ih.2.1 (zfY ha);exact⟨zmd ih.1 (zcF (zcF (zh6 (zcF (zcF hu))))),hu,ha⟩
end
section
variable {n:Nat} {t:Tk}
theorem Inv.len {p:Nat}{st:St}(h:Inv p st):st.L.length<=100000:=by have h1:=h.pot;have h2:=h.ok.ta_le;split at h1 <;> omega
def rem (st:St):Nat:=if st.er=0 then 1201-st.t.a else 0
def zds (x:List UInt8)(n:Nat):Bool:=if x=[111,114]∨x=[120,111,114] then n==0 else if x=[97,110,100] then n==1 else if x=[43]∨x=[45] then n==2 else if x=[42]∨x=[47]∨x=[37] then n==3 else false
theorem zdQ (hk:t.k≠4/\t.k≠5):zco t n=false:=by unfold zco;rw[if_pos hk]
theorem zek (hk:t.k=4∨t.k=5):zco t n=zds t.s.toList n:=by unfold zco;rw[if_neg (by omega)];rfl
end
end Go.Proofs.YtmfkofhgdjechaaGreatDoor
