/- Part 1. -/
import Derived.BigQuiet
import Derived.BigRegion
import Derived.Deep.DeepMust
import Derived.Deep.QuietTactic
import Derived.Deep.RegionWith
import Derived.Lib.AtoiErrMem
import Derived.Lib.ParseIntB
import Derived.RegionTactic
import Derived.Test.YtcnelakggnfnhaaGreatDoorProg
import Derived.Test.YtcnelakggnfnhaaGreatDoorShelf
import Derived.WalkKit
import Derived.WalkLawsBesides
set_option maxRecDepth 100000
set_option maxHeartbeats 8000000
namespace Go.Proofs.YtcnelakggnfnhaaGreatDoor
open Go.Proofs.Tryz
theorem mm (w : World) (o : Obj) (k : Nat) (h : k < w.heap.size) : (w.alloc o).heap[k]? = w.heap[k]? := Go.RowKit.Below.heap_alloc w o k h
theorem yS (B : Nat) (w : World) : Go.RowKit.Below B w w := Go.RowKit.Below.refl B w
theorem bw {α : Type _} (a b c : List α) : a ++ b ++ c = a ++ (b ++ c) := List.append_assoc a b c
theorem ec {α : Type _} {a b : List α} : a ++ b = [] ↔ a = [] ∧ b = [] := List.append_eq_nil_iff
theorem dE {α : Type _} {l : List α} {i : Nat} (h : i < l.length) : l.drop i = l[i]'h :: l.drop (i + 1) := List.drop_eq_getElem_cons h
theorem bc {α : Type _} {β : Type _} {f : β → α → β} {b : β} {l m : List α} : (l ++ m).foldl f b = m.foldl f (l.foldl f b) := List.foldl_append
theorem e9 {α : Type _} {a b : List α} {i : Nat} (h : i < a.length) : (a ++ b)[i]? = a[i]? := List.getElem?_append_left h
theorem e8 {α : Type _} {a b : List α} {i : Nat} (h : a.length ≤ i) : (a ++ b)[i]? = b[i - a.length]? := List.getElem?_append_right h
theorem av {α : Type _} {l : List α} {i : Nat} (h : i < l.length) : l[i]? = some (l[i]'h) := List.getElem?_eq_getElem h
theorem aB {α : Type _} {l : List α} {i : Nat} {a : α} : l[i]? = some a ↔ ∃ h : i < l.length, l[i]'h = a := List.getElem?_eq_some_iff
theorem L8 {α : Type _} (a : α) (l : List α) (i : Nat) (h : i + 1 < (a :: l).length) : (a :: l)[i + 1]'h = l[i]'(Nat.lt_of_succ_lt_succ h) := List.getElem_cons_succ a l i h
theorem L7 {α : Type _} (a : α) (l : List α) (h : 0 < (a :: l).length) : (a :: l)[0]'h = a := List.getElem_cons_zero a l h
theorem L9 {α : Type _} {l : List α} {i : Nat} (h : i < l.toArray.size) : l.toArray[i]'h = l[i]'(by simpa using h) := List.getElem_toArray h
theorem aP {α : Type _} {a b : List α} : (a ++ b).length = a.length + b.length := List.length_append
theorem bJ {α : Type _} {a : α} {l : List α} : (a :: l).length = l.length + 1 := List.length_cons
theorem cw {α : Type _} : ([] : List α).length = 0 := List.length_nil
theorem bj {α : Type _} {a : α} {s t : List α} : a ∈ s ++ t ↔ a ∈ s ∨ a ∈ t := List.mem_append
theorem cC {α : Type _} {a b : α} {l : List α} : a ∈ b :: l ↔ a = b ∨ a ∈ l := List.mem_cons
theorem cS {α : Type _} {a : α} (y : α) {l : List α} (h : a ∈ l) : a ∈ y :: l := List.mem_cons_of_mem y h
theorem Mx {α : Type _} {a : α} {l : List α} : a ∈ a :: l := List.mem_cons_self
theorem ed {α : Type _} {β : Type _} {f : α → List β} {b : β} {l : List α} : b ∈ l.flatMap f ↔ ∃ a, a ∈ l ∧ b ∈ f a := List.mem_flatMap
theorem aM {α : Type _} {l : List α} {i : Nat} {a : α} (h : l[i]? = some a) : a ∈ l := List.mem_of_getElem? h
theorem cu {α : Type _} {a b : α} : a ∈ [b] ↔ a = b := List.mem_singleton
theorem K7 {α : Type _} (l : List α) (i : Nat) (a : α) : l.toArray.setIfInBounds i a = (l.set i a).toArray := List.setIfInBounds_toArray l i a
theorem Q5 {α : Type _} {l : List α} {a b : α} {n : Nat} : (a :: l).set (n + 1) b = a :: l.set n b := List.set_cons_succ
theorem Mb {α : Type _} {l : List α} {a b : α} : (a :: l).set 0 b = b :: l := List.set_cons_zero
theorem de {α : Type _} {i : Nat} {l : List α} (h : l.length ≤ i) : l.take i = l := List.take_of_length_le h
theorem cI {α : Type _} {i : Nat} {a : α} {l : List α} : (a :: l).take (i + 1) = a :: l.take i := List.take_succ_cons
theorem an (n : Nat) : n ≤ n := Nat.le_refl n
theorem aJ {n m k : Nat} (h : n ≤ m) (i : m ≤ k) : n ≤ k := Nat.le_trans h i
theorem dD {n m k : Nat} (h : n < m) (i : m ≤ k) : n < k := Nat.lt_of_lt_of_le h i
theorem cf (n : Nat) : n < n + 1 := Nat.lt_succ_self n
theorem aE (n : Nat) : 0 ≤ n := Nat.zero_le n
theorem ao {a b : Prop} (h : a) : a ∨ b := Or.inl h
theorem ap {a b : Prop} (h : b) : a ∨ b := Or.inr h
theorem Z6 {w b : World} {a : Addr} (h : b.heap[a.block]? = w.heap[a.block]?) : b.cell? a = w.cell? a := World.cell?_of_block h
theorem au (w : World) (o : Obj) : (w.alloc o).heap.size = w.heap.size + 1 := World.size_alloc w o
theorem bf {α : Type _} [BEq α] [LawfulBEq α] {a b : α} : (a == b) = false ↔ a ≠ b := beq_eq_false_iff_ne
theorem ab {P : Program} {fn : Func} {R : Ending → World → Prop} {a : Act} {w : World} {v : Value} (h : (results fn a.tmps).run P w = .ok v w) (i : a.defers = []) (j : R (.returned v) w) : bodyPost P fn R .ret a w := Go.bodyPost_ret h i j
theorem ae {c : Prop} {h : Decidable c} (n : ¬c) {α : Sort _} {t e : α} : ite c t e = e := if_neg n
theorem ag {c : Prop} {h : Decidable c} (n : c) {α : Sort _} {t e : α} : ite c t e = t := if_pos n
section
open Go.RowKit
abbrev Xw:Type:=World
abbrev Xv:Type:=Value
abbrev Xb:Type:=ByteArray
abbrev Xs:Type:=Nat->Addr
abbrev Xl:Type:=List ByteArray
abbrev Xm:Type:=List Value
abbrev Xn:Type:=List Nat
abbrev Xa:Type:=Array Value
abbrev Xo:Type:=Option Nat
abbrev Xu:Type:=List UInt8
abbrev Xp:Type:=Option Addr
abbrev Xy:Type:=TypeId
abbrev Xk:Type:=List Bool
abbrev Xh:Type:=Nat->Bool
abbrev Xj:Type:=Nat->Prop
def aa (p:Prop):Prop:=p
theorem aa.out {p:Prop}(h:aa p):p:=h
theorem aa.o {p:Prop}(h:aa p):p:=h
abbrev xD (b o:Nat):Addr:=⟨b,o,none⟩
abbrev xP (b:Nat):Value:=.pointer (some ⟨b,0,none⟩)
abbrev xS (b n c:Nat):Value:=.slice (some ⟨b,0,none⟩) n c
abbrev xK (f:FuncId) (a:Xa) (w:Xw) (Q:Ending->World->Prop):Prop:=Calls prog f a w Q
abbrev xI (n:Int):Value:=.int .i64 n
abbrev xC (w:Xw) (b o:Nat) (v:Xv):Prop:=w.cell? ⟨b,o,none⟩=some v
abbrev xH (w:Xw) (b:Nat) (c:Xa) (t:Xy):Prop:=w.heap[b]?=some (.cells c t (0,0))
abbrev xB (w w':Xw):Prop:=Go.RowKit.Below w.heap.size w w'
variable {S S':Xj} {a b c w w':Xw}
structure Fr (S:Xj) (w w':Xw):Prop where
 os:w'.os=w.os
 tape:w'.tape=w.tape
 output:w'.output=w.output
 size:w.heap.size<=w'.heap.size
 block:∀k,k<w.heap.size->¬S k->w'.heap[k]?=w.heap[k]?
theorem Fr.refl (S:Xj)(w:Xw):Fr S w w:=⟨rfl,rfl,rfl,an _,λ_ _ _=>rfl⟩
theorem Fr.mono (h:Fr S w w')(e:∀k,k<w.heap.size->S k->S' k):Fr S' w w' :=
 ⟨h.os,h.tape,h.output,h.size,λk d f=>h.block k d (λg=>f (e k d g))⟩
theorem Fr.dr (h:Fr S a b)(k:Fr S' b c)(f:∀i,i<a.heap.size->S' i->S i):Fr S a c :=
 ⟨k.os.trans h.os,k.tape.trans h.tape,k.output.trans h.output,aJ h.size k.size,
  λi d e=>(k.block i (dD d h.size) (λg=>e (f i d g))).trans (h.block i d e)⟩
theorem Fr.trans (h:Fr S a b)(k:Fr S b c):Fr S a c:=h.dr k (λ_ _ h=>h)
theorem Fr.drew (h:Fr S a w):Fr S a w.drew:=⟨h.os,h.tape,h.output,h.size,h.block⟩
theorem Fr.alloc (h:Fr S a w)(o:Obj):Fr S a (w.alloc o) :=
 h.trans ⟨rfl,rfl,rfl,by simp,λk d _=>mm _ _ _ d⟩
theorem Fr.setCell (h:Fr S a w){p:Addr}(hp:S p.block∨a.heap.size<=p.block)(u:Xv):Fr S a (w.setCell p u) :=
 ⟨h.os,h.tape,h.output,aJ h.size (by simp[World.setCell]),λk f d=>by
   rw[Below.heap_setCell _ _ _ _ (λe=>by rcases hp with hp|hp;exact d (e▸hp);omega)];exact h.block k f d⟩
theorem Fr.below (h:Fr S w w'){B:Nat}(f:B<=w.heap.size)(d:∀k,S k->B<=k):Below B w w' :=
 ⟨h.os,h.tape,h.output,h.size,λk g=>h.block k (by omega) (λe=>by have:=d k e;omega)⟩
theorem Fr.Mo (h:xB w w'):Fr S w w' :=
 ⟨h.os,h.tape,h.output,h.size,λk d _=>h.block k d⟩
end
section
open Go.RowKit
variable {b:Nat} {S:Xj} {e:Xy} {W a w d:Xw}
theorem Fr.aY (h:Fr (·=b) a w)(i:Nat)(u:Xv):Fr (·=b) a (w.setCell (xD b i) u):=h.setCell (ao rfl) u
theorem zw (h:Below w.drew.heap.size w.drew d):xB w d:=⟨h.os,h.tape,h.output,h.size,h.block⟩
theorem Fr.gA {f:Xw}(h:Fr S a w)(c:xB w f):Fr S a f :=
 h.trans ⟨c.os,c.tape,c.output,c.size,λk g _=>c.block k g⟩
theorem Fr.aO (h:Fr S a w)(c:a.heap.size<=b)(i:Nat)(u:Xv):Fr S a (w.setCell (xD b i) u):=h.setCell (ap c) u
theorem zh (w:Xw)(b i:Nat)(v:Xv){c:Xa}{f:Nat×Nat}(h:w.heap[b]?=some (.cells c e f)):(w.setCell (xD b i) v).heap[b]?=some (.cells (c.setIfInBounds i v) e f):=by simp[World.setCell,Array.getElem?_modify,h]
theorem mD (c:xB W d):(∀b o,b<W.heap.size->d.cell? (xD b o)=W.cell? (xD b o))/\(∀b o,b<W.heap.size->d.frozen? (xD b o)=W.frozen? ⟨b,o,none⟩) :=
 ⟨λb o h=>c.cell (p:=(xD b o)) h,λb o h=>c.frozen (p:=(xD b o)) h⟩
theorem sw (h:Fr (·=b) W d):(∀k o,k<W.heap.size->¬k=b->d.cell? (xD k o)=W.cell? (xD k o))/\(∀k o,k<W.heap.size->¬k=b->d.frozen? (xD k o)=W.frozen? ⟨k,o,none⟩) :=
 ⟨λk _ c f=>Z6 (w:=W) (h.block k c f),λk _ c f=>World.frozen?_of_block (w:=W) (h.block k c f)⟩
theorem zc (w:Xw)(o:Obj):(w.alloc o).heap[w.heap.size]?=some o:=by show (w.heap.push o)[w.heap.size]?=some o;simp
theorem zn {P:Program}{c:Code}{Q:Exit->Act->World->Prop}{a:Act}(f:World->Prop)(h:f W)(k:∀g,f g->Code.wp P c Q a g):Code.wp P c Q a W:=k W h
theorem zr {k i:Nat}{v:Xv}{o:Option Obj}(h:¬k=b)(c:w.heap[k]?=o):(w.setCell (xD b i) v).heap[k]?=o:=(Below.heap_setCell _ _ _ _ h).trans c
theorem kB {j k l m:Xv}(h:xH w b #[j,k,l,m] e)(c f g i:Xv):((((w.setCell (xD b 0) c).setCell (xD b 1) f).setCell (xD b 2) g).setCell (xD b 3) i).heap[b]?=some (.cells #[c,f,g,i] e (0,0)) :=
 zh _ _ _ _ (zh _ _ _ _ (zh _ _ _ _ (zh _ _ _ _ h)))
theorem za {p:Prop}(h:p):aa p:=h
end
section
variable {s:Xb} {i:Nat} {p:Xh}
def bt (s:Xb)(i:Nat):Nat:=if h:i<s.size then s[i].toNat else 0
theorem QZ (h:i<s.size):s[i].toNat=bt s i:=by unfold bt;rw[dif_pos h]
def cM (c:Nat):Bool:=c==32||c==10
def gv (c:Nat):Bool:=decide (97<=c)&&decide (c<=122)
def zT (c:Nat):Bool:=decide (48<=c)&&decide (c<=57)
def b6 (c:Nat):Bool:=gv c||zT c||c==95
def ia (p:Xh)(s:Xb):Nat->Nat->Nat
 | 0,i=>i
 | f+1,i=>if i<s.size/\p (bt s i)=true then ia p s f (i+1) else i
def zQ (p:Xh)(s:Xb)(i:Nat):Nat:=ia p s (s.size-i) i
theorem kJ (h:i<s.size)(b:p (bt s i)=true):zQ p s i=zQ p s (i+1):=by
 unfold zQ;obtain⟨m,a⟩:∃m,s.size-i=m+1:=⟨s.size-i-1,by omega⟩;rw[a,show s.size-(i+1)=m by omega]
 show (if i<s.size/\p (bt s i)=true then ia p s m (i+1) else i)=_;rw[ag ⟨h,b⟩]
theorem nY (h:s.size<=i):zQ p s i=i:=by unfold zQ;rw[show s.size-i=0 by omega];rfl
theorem nW (a:p (bt s i)=false):zQ p s i=i:=by
 unfold zQ;cases b:s.size-i with
 | zero=>rfl
 | succ m => show (if i<s.size/\p (bt s i)=true then ia p s m (i+1) else i)=_;rw[ae (by rw[a];simp)]
theorem x9 (p:Xh)(s:Xb):∀f i,i<=ia p s f i/\(i<=s.size->ia p s f i<=s.size):=by
 intro f;induction f with
 | zero=>intro i;exact⟨an _,λh=>h⟩
 | succ f a =>
   intro i
   show i<=(if i<s.size/\p (bt s i)=true then ia p s f (i+1) else i)/\(i<=s.size->(if i<s.size/\p (bt s i)=true then ia p s f (i+1) else i)<=s.size);split
   . rename_i h
     have:=a (i+1);exact⟨by omega,λ_=>this.2 (by omega)⟩
   exact⟨an _,λh=>h⟩
theorem ll (p:Xh)(s:Xb)(i:Nat):i<=zQ p s i:=(x9 p s _ i).1
theorem jl (p:Xh)(s:Xb)(i:Nat)(h:i<=s.size):zQ p s i<=s.size:=(x9 p s _ i).2 h
structure Tk where
 k:Nat
 a:Nat
 t:Nat
 s:ByteArray
 n:Nat
def j5:List (List UInt8):=[[110,111,100,101],[118,97,114],[105,110,116],[98,111,111,108],[111,110],[110,111,116],[97,110,100],[111,114],[120,111,114],[105,102],[116,104,101,110],[101,108,115,101],[109,101,114,103,101],[119,104,101,110],[119,104,101,110,111,116],[102,98,121],[116,114,117,101],[102,97,108,115,101]]
def ep (s:Xb):Bool:=j5.any λl=>s.toList==l
def eM (s:Xb)(a:Nat):Tk :=
 let b:=zQ b6 s a
 let x:=s.extract a b
 ⟨if ep x then 5 else if b-a > 12 then 1 else 2,a,b,x,0⟩
def dR (s:Xb):Nat->Nat->Bool×Nat->Bool×Nat
 | 0,_,x=>x
 | f+1,i,x=>if i<s.size/\zT (bt s i)=true then
    dR s f (i+1) (if x.2 > (9223372036854775807-(bt s i-48)) / 10 then (false,x.2) else (x.1,x.2*10+(bt s i-48))) else x
def fc (s:Xb)(a:Nat):Tk :=
 let x:=dR s (s.size-a) a (true,0)
 ⟨if x.1 then 3 else 1,a,zQ zT s a,⟨#[48]⟩,x.2⟩
def hs (c:Nat):Bool:=[40,41,123,125,58,59,44,61,60,43,45,42,47,37].contains c
def dT (s:Xb)(a:Nat):Tk :=
 if a+2<=s.size/\((s.extract a (a+2)).toList==[45,62]||(s.extract a (a+2)).toList==[60,62]||(s.extract a (a+2)).toList==[60,61])=true then ⟨4,a,a+2,s.extract a (a+2),0⟩
 else if hs (bt s a) then ⟨4,a,a+1,s.extract a (a+1),0⟩
 else ⟨1,a,a,⟨#[]⟩,0⟩
def zZ (s:Xb)(b:Nat):Tk :=
 let a:=zQ cM s b
 if a=s.size then ⟨0,a,a,⟨#[]⟩,0⟩
 else if gv (bt s a) then eM s a
 else if zT (bt s a) then fc s a
 else dT s a
end
section
open Go.RowKit
theorem Ib (c:Nat)(w:Xw):xK 66 #[.int .u8 c] w λe d=>e=.returned (.bool (cM c))/\w=d:=by
 have a:((c:Int)==32)=(c==32):=by rw[Bool.eq_iff_iff];simp;omega
 have b:((c:Int)==10)=(c==10):=by rw[Bool.eq_iff_iff];simp;omega
 unfold cM;rw[<- a,<- b];clear a b;go_enter func66,ntmps66;go_wp2;all_goals go_ret
 all_goals simp[*]
theorem PH (c:Nat)(w:Xw):xK 67 #[.int .u8 c] w λe a=>e=.returned (.bool (gv c))/\w=a:=by
 have e:gv c=(decide ((97:Int)<=c)&&decide ((c:Int)<=122)):=by unfold gv;rw[Bool.eq_iff_iff];simp;omega
 rw[e];clear e;go_enter func67,ntmps67;go_wp2;all_goals go_ret
 . exact⟨by rename_i h;simp[h],rfl⟩
 exact⟨by rename_i h;simp;omega,rfl⟩
theorem mf (c:Nat)(w:Xw):xK 69 #[.int .u8 c] w λe a=>e=.returned (.bool (zT c))/\w=a:=by
 have e:zT c=(decide ((48:Int)<=c)&&decide ((c:Int)<=57)):=by unfold zT;rw[Bool.eq_iff_iff];simp;omega
 rw[e];clear e;go_enter func69,ntmps69;go_wp2;all_goals go_ret
 . exact⟨by rename_i h;simp[h],rfl⟩
 exact⟨by rename_i h;simp;omega,rfl⟩
theorem rI (c:Nat)(w:Xw):xK 129 #[.int .u8 c] w λe a=>e=.returned (.bool (b6 c))/\w=a:=by
 have d:((c:Int)==95)=(c==95):=by rw[Bool.eq_iff_iff];simp;omega
 unfold b6;rw[<- d];clear d;cases b:gv c with
 | true => go_enter func129,ntmps129;go_wp2_with (go_at_call 67;refine (PH c _).mono ?_;rintro e a ⟨rfl,rfl⟩;rw[b]);go_ret;simp
 | false =>
   cases f:zT c with
   | true => go_enter func129,ntmps129;go_wp2_with (first|(go_at_call 67;refine (PH c _).mono ?_;rintro e a ⟨rfl,rfl⟩;rw[b])|(go_at_call 69;refine (mf c _).mono ?_;rintro e a ⟨rfl,rfl⟩;rw[f]));go_ret;simp
   | false => go_enter func129,ntmps129;go_wp2_with (first|(go_at_call 67;refine (PH c _).mono ?_;rintro e a ⟨rfl,rfl⟩;rw[b])|(go_at_call 69;refine (mf c _).mono ?_;rintro e a ⟨rfl,rfl⟩;rw[f]));go_ret;simp
theorem HK (s:Xb):ep s=(s.toList==[110,111,100,101]||(s.toList==[118,97,114]||(s.toList==[105,110,116]||(s.toList==[98,111,111,108]||(s.toList==[111,110]||(s.toList==[110,111,116]||(s.toList==[97,110,100]||(s.toList==[111,114]||(s.toList==[120,111,114]||(s.toList==[105,102]||(s.toList==[116,104,101,110]||(s.toList==[101,108,115,101]||(s.toList==[109,101,114,103,101]||(s.toList==[119,104,101,110]||(s.toList==[119,104,101,110,111,116]||(s.toList==[102,98,121]||(s.toList==[116,114,117,101]||s.toList==[102,97,108,115,101]))))))))))))))))):=by simp[ep,j5]
theorem rh (s:Xb)(w:Xw):xK 130 #[.string s] w λe a=>e=.returned (.bool (ep s))/\w=a:=by
 rw[HK];go_enter func130,ntmps130;go_wp2;all_goals go_ret
 all_goals first|(refine⟨?_,rfl⟩;simp[*];done)|(exfalso;simp_all;done)
theorem mj (f:FuncId)(p:Xh)(q:∀(a:Xa) (w:Xw),(callFunc f a).run prog w=.ok (.enter f a) w)(r:∀(c:Nat) (w:Xw),xK f #[.int .u8 c] w λe b=>e=.returned (.bool (p c))/\w=b)(s:Xb)(u:s.size<=1200)(w:Xw) :
 xK 65 #[.string s,.func (.func f) #[] #[]] w λe b=>e=.returned (xI (zQ p s 0:Nat))/\w=b:=by
 have n:aa (∀(c:Nat) (w:Xw),xK f #[.int .u8 c] w λe b=>e=.returned (.bool (p c))/\w=b):=r;go_enter func65,ntmps65;go_wp2;go_loop [8] (λi=>∃k:Nat,k<=s.size/\i=xI k/\aa (zQ p s k=zQ p s 0)) (λi=>s.size-(intOf i).toNat)
 case atStart=>exact⟨0,aE _,rfl,rfl⟩
 case round =>
  obtain⟨k,t,rfl,j⟩:=hrel;by_cases g:k<s.size
  . have o:=QZ g;obtain⟨c,m⟩:∃c,bt s k=c:=⟨_,rfl⟩;rw[m] at o;cases h:p c with
    | true =>
      have d:aa (zQ p s (k+1)=zQ p s 0):=(kJ g (by rw[m];exact h)).symm.trans j.o;go_wp2_with (with_reducible refine (n.o c _).mono ?_;rintro e b ⟨rfl,rfl⟩;rw[h]);go_round
      case rel=>exact⟨k+1,by omega,by go_num,d⟩
      case measure=>simp[intOf];omega
    | false => have d:aa (zQ p s 0=k):=j.o.symm.trans (nW (by rw[m];exact h));go_wp2_with (with_reducible refine (n.o c _).mono ?_;rintro e b ⟨rfl,rfl⟩;rw[h]);go_ret;exact⟨by rw[d.o];rfl,rfl⟩
  have d:aa (zQ p s 0=k):=j.o.symm.trans (nY (by omega));have l:aa (k=s.size):=by show k=s.size;omega
  go_wp2;go_ret;exact⟨by rw[d.o,l.o];rfl,rfl⟩
theorem Ii (a:Xa)(w:Xw):(callFunc 66 a).run prog w=.ok (.enter 66 a) w:=by kernel_rfl
theorem rC (a:Xa)(w:Xw):(callFunc 129 a).run prog w=.ok (.enter 129 a) w:=by kernel_rfl
theorem xm (a:Xa)(w:Xw):(callFunc 69 a).run prog w=.ok (.enter 69 a) w:=by kernel_rfl
def ci (k:Nat)(s:Xb)(a n:Nat):Value:=.agg #[xI k,.string s,xI a,xI n]
def nV (s:Xb)(a:Nat):Value :=
 let x:=s.extract 0 (zQ b6 s 0)
 if ep x then ci 2 x a 0 else if x.size<=12 then ci 3 x a 0 else ci 0 ⟨#[]⟩ a 0
theorem Jm (s:Xb)(i:s.size<=1200)(a:Nat)(w:Xw) :
 xK 68 #[.string s,xI a] w λe c=>e=.returned (nV s a)/\xB w c:=by
 have j:=jl b6 s 0 (aE _);obtain⟨n,d⟩:∃n,zQ b6 s 0=n:=⟨_,rfl⟩;have g:=za d;rw[d] at j;have b:aa (nV s a=if ep (s.extract 0 n) then ci 2 (s.extract 0 n) a 0 else if n<=12 then ci 3 (s.extract 0 n) a 0 else ci 0 ⟨#[]⟩ a 0):=by unfold aa nV;simp only[g.o,ByteArray.size_extract];rw[show min n s.size-0=n by omega]
 cases h:ep (s.extract 0 n) with
 | true => rw[h,ag rfl] at b;have f:=za h;go_enter func68,ntmps68;go_wp2_with (first|(go_at_call 65;refine (mj _ b6 rC rI s i _).mono ?_;rintro e c ⟨rfl,rfl⟩;rw[g.o])|(go_at_call 130;refine (rh _ _).mono ?_;rintro e c ⟨rfl,rfl⟩;rw[f.o]));refine ab (v:=ci 2 (s.extract 0 n) a 0) (by simp[results,results68,go_sem,ci]) rfl ⟨by rw[b.o],(yS _ _).alloc (an _) _⟩
 | false =>
   rw[h,ae (by simp)] at b;have f:=za h;by_cases d:n<=12
   . rw[ag d] at b;go_enter func68,ntmps68;go_wp2_with (first|(go_at_call 65;refine (mj _ b6 rC rI s i _).mono ?_;rintro e c ⟨rfl,rfl⟩;rw[g.o])|(go_at_call 130;refine (rh _ _).mono ?_;rintro e c ⟨rfl,rfl⟩;rw[f.o]));refine ab (v:=ci 3 (s.extract 0 n) a 0) (by simp[results,results68,go_sem,ci]) rfl ⟨by rw[b.o],(yS _ _).alloc (an _) _⟩
   rw[ae d] at b;go_enter func68,ntmps68;go_wp2_with (first|(go_at_call 65;refine (mj _ b6 rC rI s i _).mono ?_;rintro e c ⟨rfl,rfl⟩;rw[g.o])|(go_at_call 130;refine (rh _ _).mono ?_;rintro e c ⟨rfl,rfl⟩;rw[f.o]));refine ab (v:=ci 0 ⟨#[]⟩ a 0) (by simp[results,results68,go_sem,ci]) rfl ⟨by rw[b.o],(yS _ _).alloc (an _) _⟩
end
section
structure Ex where
 op:ByteArray
 a:Nat
 nm:Nat
 ah:List Nat
 s:ByteArray
 n:Nat
structure St where
 src:ByteArray
 t:Tk
 op:Nat
 er:Nat
 at':Nat
 L:List Ex
def St.bad (a:St):St:={ a with t:=⟨1,a.t.a,a.t.t,⟨#[]⟩,0⟩ }
def St.fail (b:St)(e a:Nat):St:=if b.er=0 then { b with er:=e,at':=a,t:=⟨1,b.t.a,b.t.t,⟨#[]⟩,0⟩ } else { b with t:=⟨1,b.t.a,b.t.t,⟨#[]⟩,0⟩ }
def St.ad (st:St):St:=if st.er=0 then { st with t:=zZ st.src st.t.t } else st
def St.is (a:St)(k:Nat)(l:Xu):Bool:=a.t.k==k&&a.t.s.toList==l
def St.ac (a:St)(k:Nat)(l:Xu):St:=if a.is k l=true then a.ad else a.fail 2 a.t.a
def St.name (a:St):St:=if a.t.k=2 then a.ad else a.fail 2 a.t.a
def St.enter (a:St):St:=if 16<a.op+1 then ({ a with op:=a.op+1 }:St).fail 3 a.t.a else ({ a with op:=a.op+1 }:St).ad
def St.aI (a:St):St:={ a with op:=a.op-1 }
def St.add (a:St)(e:Ex):St:={ a with L:=a.L++[e] }
structure St.Ok (st:St):Prop where
 src:st.src.size<=1200
 tt:st.t.t<=st.src.size
 ta:st.t.a<=st.t.t
 tn:st.t.n<=9223372036854775807
 op:st.op<=100
 er:st.er<=11
 at':st.at'<=1200
 tk:st.t.k<=5
theorem Kc (s:Xb):∀f i (x:Bool×Nat),x.2<=9223372036854775807->(dR s f i x).2<=9223372036854775807:=by
 intro f;induction f with
 | zero=>intro i x h;exact h
 | succ f c =>
   intro i x h
   show (if i<s.size/\zT (bt s i)=true then _ else x).2<=_;split
   . apply c
     rename_i a
     have b:bt s i-48<=9:=(by have:=a.2;simp[zT] at this;omega);split
     . exact h
     show x.2*10+(bt s i-48)<=_;omega
   exact h
theorem zV (s:Xb)(p:Nat)(k:p<=s.size):p<=(zZ s p).a/\(zZ s p).a<=(zZ s p).t/\(zZ s p).t<=s.size/\(zZ s p).n<=9223372036854775807/\(zZ s p).k<=5/\(2<=(zZ s p).k->(zZ s p).a<(zZ s p).t):=by
 have b:=ll cM s p;have d:=jl cM s p k;unfold zZ;simp only;generalize zQ cM s p=a at *;split
 . refine⟨b,an _,d,by simp,by simp,λh=>?_⟩;simp only at h;omega
 rename_i j
 have c:a<s.size:=by omega
 split
 . rename_i i
   have f:a+1<=zQ b6 s a:=(by rw[kJ c (by simp[b6,i])];exact ll _ _ _);have e:=jl b6 s a d;unfold eM;simp only;refine⟨b,by omega,e,by simp,?_,λ_=>by omega⟩;split;omega;split <;> omega
 split
 . rename_i g
   have f:a+1<=zQ zT s a:=(by rw[kJ c g];exact ll _ _ _);have e:=jl zT s a d;unfold fc;simp only;refine⟨b,by omega,e,Kc _ _ _ _ (by simp),?_,λ_=>by omega⟩;split <;> omega
 unfold dT;split
 . rename_i h;exact⟨b,by simp only;omega,h.1,by simp,by simp,λ_=>by simp only;omega⟩
 split
 . exact⟨b,by simp only;omega,by simp only;omega,by simp,by simp,λ_=>by simp only;omega⟩
 exact⟨b,an _,d,by simp,by simp,λh=>by simp only at h;omega⟩
theorem St.Ok.fail {g:St}(h:g.Ok){e a:Nat}(l:e<=11)(k:a<=1200):(g.fail e a).Ok:=by
 have b:=h.src;have c:=h.tt;have d:=h.ta;have m:=h.tn;have f:=h.op;have i:=h.er;have j:=h.at';have n:=h.tk;unfold St.fail;split
 . exact⟨b,c,d,by simp,f,l,k,by simp⟩
 exact⟨b,c,d,by simp,f,i,j,by simp⟩
theorem St.Ok.ad {st:St}(h:st.Ok):st.ad.Ok:=by
 unfold St.ad;split
 . obtain⟨e,a,b,c,d,f⟩:=zV st.src st.t.t h.tt;exact⟨h.src,b,a,c,h.op,h.er,h.at',d⟩
 exact h
theorem St.Ok.bR {a:St}(h:a.Ok):a.t.a<=1200:=aJ h.ta (aJ h.tt h.src)
theorem St.Ok.opened {a:St}(h:a.Ok)(o:a.op<100):({ a with op:=a.op+1 }:St).Ok:=⟨h.src,h.tt,h.ta,h.tn,by simp only;omega,h.er,h.at',h.tk⟩
theorem St.Ok.enter {a:St}(h:a.Ok)(o:a.op<100):a.enter.Ok:=by
 unfold St.enter;split
 . exact (h.opened o).fail (by omega) h.bR
 exact (h.opened o).ad
theorem St.Ok.aI {a:St}(h:a.Ok):a.aI.Ok:=⟨h.src,h.tt,h.ta,h.tn,by unfold St.aI;simp only;have:=h.op;omega,h.er,h.at',h.tk⟩
theorem St.Ok.add {a:St}(h:a.Ok)(e:Ex):(a.add e).Ok:=⟨h.src,h.tt,h.ta,h.tn,h.op,h.er,h.at',h.tk⟩
abbrev Fn:=St->St×Nat
def sE:ByteArray:=⟨#[]⟩
def St.put (a:St)(e:Ex):St×Nat:=(a.add e,a.L.length)
def et (t:Tk)(n:Nat):Bool :=
 if t.k≠4/\t.k≠5 then false
 else if t.s.toList=[111,114]∨t.s.toList=[120,111,114] then n==0
 else if t.s.toList=[97,110,100] then n==1
 else if t.s.toList=[43]∨t.s.toList=[45] then n==2
 else if t.s.toList=[42]∨t.s.toList=[47]∨t.s.toList=[37] then n==3
 else false
def dx (fx:Nat)(part:Fn):Nat->St×Nat->St×Nat
 | 0,x=>x
 | f+1,x=>if x.1.er=0/\et x.1.t fx=true then
    dx fx part f ((part x.1.ad).1.put ⟨x.1.t.s,x.1.t.a,0,[x.2,(part x.1.ad).2],sE,0⟩) else x
def eo (fx:Nat)(part:Fn):Fn:=λa=>dx fx part 1300 (part a)
def eh (t:Tk):Bool:=t.k==4&&(t.s.toList==[61]||t.s.toList==[60,62]||t.s.toList==[60]||t.s.toList==[60,61])
def ei (sum:Fn):Fn:=λa =>
 let x:=sum a
 if x.1.er=0/\eh x.1.t=true then (sum x.1.ad).1.put ⟨x.1.t.s,x.1.t.a,0,[x.2,(sum x.1.ad).2],sE,0⟩ else x
def kS:ByteArray:=⟨#[110,101,103]⟩
def kR:ByteArray:=⟨#[110,111,116]⟩
def dG (b a:Fn):Fn:=λst =>
 if st.er=0/\(st.is 4 [45]||st.is 5 [110,111,116])=true then
  (b st.enter).1.aI.put ⟨if st.is 4 [45]=true then kS else kR,st.t.a,0,[(b st.enter).2],sE,0⟩
 else a st
def eu (st:St):Bool:=st.is 5 [119,104,101,110]||st.is 5 [119,104,101,110,111,116]
def M0:Nat->St×Nat->St×Nat
 | 0,x=>x
 | f+1,x=>if x.1.er=0/\eu x.1=true then
    M0 f (x.1.ad.name.put ⟨x.1.t.s,x.1.t.a,x.1.ad.t.a,[x.2],x.1.ad.t.s,0⟩) else x
def gR (a:Fn):Fn:=λb=>M0 1300 (a b)
def fK (b:Xb)(n:Nat):Fn:=λa=>a.ad.put ⟨b,a.t.a,0,[],sE,n⟩
def gQ:ByteArray:=⟨#[118,97,114]⟩
def fL:ByteArray:=⟨#[99,97,108,108]⟩
def fJ:ByteArray:=⟨#[110,117,109,98,101,114]⟩
def MV:ByteArray:=⟨#[98,111,111,108]⟩
def iz:ByteArray:=⟨#[105,102]⟩
def iL:ByteArray:=⟨#[109,101,114,103,101]⟩
def iO:ByteArray:=⟨#[102,98,121]⟩
def cY (a:Fn):Nat->St×List Nat->St×List Nat
 | 0,x=>x
 | f+1,x=>if x.1.er=0/\x.1.is 4 [44]=true then cY a f ((a x.1.ad).1,x.2++[(a x.1.ad).2]) else x
def cL (a:Fn)(b:St):St×List Nat:=cY a 1300 ((a b).1,[(a b).2])
def Fs (b:Fn)(t:Tk):Fn:=λa =>
 if a.is 4 [40]=true then
  let x:=cL b a.enter
  (x.1.ac 4 [41]).aI.put ⟨fL,t.a,t.a,x.2,t.s,0⟩
 else (a.fail 2 a.t.a,0)
def fp (d:Fn):Fn:=λe =>
 let c:=d e.enter
 let a:=d (c.1.ac 5 [116,104,101,110])
 let b:=d (a.1.ac 5 [101,108,115,101])
 b.1.aI.put ⟨iz,e.t.a,0,[c.2,a.2,b.2],sE,0⟩
def kc:Fn:=λa=>a.ad.put ⟨gQ,a.t.a,a.t.a,[],a.t.s,0⟩
def bF (b:Fn):Fn:=λa=>if a.er≠0∨a.t.k≠2 then b a else kc a
def fs (d:Fn):Fn:=λe =>
 let c:=e.enter.t
 let a:=bF d e.enter.name
 let b:=bF d a.1
 b.1.aI.put ⟨iL,e.t.a,c.a,[a.2,b.2],c.s,0⟩
def iM (a:Fn):Fn:=λb=>(((a b.enter).1.ac 4 [41]).aI,(a b.enter).2)
def aN (b c:Fn):Fn:=λa =>
 if a.er≠0 then (a,0)
 else if a.t.k=3 then fK fJ a.t.n a
 else if a.t.k=2 then (if a.ad.is 4 [40]=true then Fs b a.t a.ad else kc a)
 else if a.is 4 [40]=true then iM b a
 else if a.is 5 [116,114,117,101]=true then fK MV 1 a
 else if a.is 5 [102,97,108,115,101]=true then fK MV 0 a
 else if a.is 5 [105,102]=true then fp b a
 else if a.is 5 [109,101,114,103,101]=true then fs c a
 else (a.fail 2 a.t.a,0)
def fe (b a:Fn):Fn:=λc =>
 let x:=a c
 if x.1.er=0/\x.1.is 5 [102,98,121]=true then
  (b x.1.enter).1.aI.put ⟨iO,x.1.t.a,0,[x.2,(b x.1.enter).2],sE,0⟩
 else x
structure z1 where
 ex:Fn
 un:Fn
 at':Fn
def fx:Nat->z1
 | 0=>⟨λb=>(b,0),λb=>(b,0),λb=>(b,0)⟩
 | d+1 =>
   let a:=aN (fx d).ex (fx d).at'
   let u:=dG (fx d).un (gR a)
   ⟨fe (fx d).ex (eo 0 (eo 1 (ei (eo 2 (eo 3 u))))),u,a⟩
structure Inv (p:Nat) (st:St):Prop where
 ok:st.Ok
 jN:st.L.length+p<=st.t.a+(if st.er=0 then 0 else 1)
 N7:st.op<=17
 kq:st.er=0->st.op<=16
 bad:st.er≠0->st.t.k=1
 tok:2<=st.t.k->st.t.a<st.t.t
structure cU (M:Fn) (st:St) (p:Nat):Prop where
 af:Inv p (M st).1
 op:(M st).1.op=st.op
 src:(M st).1.src=st.src
 ta:st.t.a<=(M st).1.t.a
 L:∃E,(M st).1.L=st.L++E
 er:st.er≠0->M st=(st,(M st).2)
 num:(M st).1.er=0->(M st).2<(M st).1.L.length
theorem St.bu (a:St):a.ad.L=a.L:=by unfold St.ad;split <;> rfl
theorem St.N4 (b:St)(e a:Nat):(b.fail e a).L=b.L:=by unfold St.fail;split <;> rfl
theorem St.bi (a:St)(k:Nat)(l:Xu):(a.ac k l).L=a.L:=by unfold St.ac;split;exact a.bu;exact a.N4 _ _
theorem St.c8 (a:St):a.name.L=a.L:=by unfold St.name;split;exact a.bu;exact a.N4 _ _
theorem St.dA (a:St):a.enter.L=a.L:=by unfold St.enter;split;exact St.N4 _ _ _;exact St.bu _
end
section
open Go.RowKit
variable {s:Xb} {l:Xu} {c:Nat} {S:Xs} {T:Xj} {st:St} {w d:Xw}
def ck (t:Tk):Nat:=if t.k=0 then 1 else if t.k=1 then 0 else if t.k=2 then 3 else if t.k=3 then 4 else 2
def cs (src:Xb)(t:Tk):ByteArray:=if t.k=3 then src.extract t.a t.t else if 2<=t.k then t.s else ⟨#[]⟩
def cn (t:Tk):Nat:=if t.k=3 then t.n else 0
def gJ:List ByteArray:=[⟨#[]⟩,⟨#[116,114,117,101]⟩,⟨#[102,97,108,115,101]⟩,⟨#[]⟩,⟨#[]⟩,⟨#[105,102]⟩,⟨#[109,101,114,103,101]⟩,⟨#[119,104,101,110]⟩,⟨#[119,104,101,110,111,116]⟩,⟨#[102,98,121]⟩,⟨#[45]⟩,⟨#[110,111,116]⟩,⟨#[97,110,100]⟩,⟨#[111,114]⟩,⟨#[120,111,114]⟩,⟨#[61]⟩,⟨#[60,62]⟩,⟨#[60]⟩,⟨#[60,61]⟩,⟨#[43]⟩,⟨#[45]⟩,⟨#[42]⟩,⟨#[47]⟩,⟨#[37]⟩]
def aW (S:Xs)(e:Nat):Value:=.iface 316 (.pointer (some (S e)))
structure Gl (S:Xs) (w:Xw):Prop where
 ou:xC w 0 0 (aW S 1)
 e6:xC w 8 0 (aW S 2)
 deep:xC w 9 0 (aW S 3)
 name:xC w 1 0 (aW S 4)
 type:xC w 2 0 (aW S 5)
 clock:xC w 3 0 (aW S 6)
 define:xC w 4 0 (aW S 7)
 kn:xC w 5 0 (aW S 8)
 k3:xC w 6 0 (aW S 9)
 mS:xC w 10 0 (aW S 10)
 input:xC w 12 0 (aW S 11)
 range:xC w 17 0 (aW S 12)
 words:∀i s,gJ[i]?=some s->xC w 14 i (.string s)
 size:21<=w.heap.size
theorem Gl.of (h:Gl S w)(b:Fr T w d)(e:∀k,T k->21<=k):Gl S d:=by
 have a:∀k o,k<21->d.cell? (xD k o)=w.cell? ⟨k,o,none⟩:=λk o f =>
  Z6 (w:=w) (b.block k (dD f h.size) (λj=>by have:=e k j;omega))
 exact⟨(a _ _ (by decide)).trans h.ou,(a _ _ (by decide)).trans h.e6,(a _ _ (by decide)).trans h.deep,(a _ _ (by decide)).trans h.name,(a _ _ (by decide)).trans h.type,(a _ _ (by decide)).trans h.clock,(a _ _ (by decide)).trans h.define,(a _ _ (by decide)).trans h.kn,(a _ _ (by decide)).trans h.k3,(a _ _ (by decide)).trans h.mS,(a _ _ (by decide)).trans h.input,(a _ _ (by decide)).trans h.range,
  λi s g=>(a _ _ (by decide)).trans (h.words i s g),aJ h.size b.size⟩
def cJ (S:Xs)(b a:Nat):Value:=if b=0 then .nilIface else .iface 53 (.agg #[aW S b,xI a])
def lu (S:Xs)(st:St):Obj:=.cells #[.string st.src,xI (ck st.t),.string (cs st.src st.t),xI st.t.a,xI (cn st.t),xI st.op,cJ S st.er st.at'] 105 (0,0)
structure Tx (src:Xb) (t:Tk):Prop where
 text:t.k=2∨4<=t.k->t.s=src.extract t.a t.t
 kw:t.k=5->ep t.s=true
 sg:t.k=4->ep t.s=false
theorem yy (src:Xb)(a t:Nat):Tx src ⟨1,a,t,⟨#[]⟩,0⟩:=⟨λh=>by rcases h with h|h <;> simp at h,λh=>by simp at h,λh=>by simp at h⟩
theorem JR (h:(s.toList==[45,62]||s.toList==[60,62]||s.toList==[60,61])=true):ep s=false:=by simp only[Bool.or_eq_true,beq_iff_eq] at h;unfold ep;rcases h with (h|h)|h <;> (rw[h];decide)
theorem JY (h:s.toList.length<=1):ep s=false:=by
 unfold ep;generalize s.toList=l at h
 match l,h with
 | [],_=>decide
 | [x],_=>simp[j5]
theorem ri (s:Xb):s.toList.length=s.size:=by rw[ByteArray.toList_eq];exact Array.length_toList
theorem yh (src:Xb)(p:Nat):Tx src (zZ src p):=by
 unfold zZ;simp only;split
 . exact⟨λh=>by simp at h,λh=>by simp at h,λh=>by simp at h⟩
 split
 . unfold eM;simp only;refine⟨λ_=>rfl,λh=>?_,λh=>?_⟩
   . simp only at h ⊢;split at h
     . assumption
     split at h <;> simp at h
   simp only at h;split at h
   . simp at h
   split at h <;> simp at h
 split
 . unfold fc;simp only;refine⟨λh=>?_,λh=>?_,λh=>?_⟩ <;> (simp only at h;split at h <;> simp at h)
 unfold dT;split
 . rename_i a
   exact⟨λ_=>rfl,λh=>by simp at h,λ_=>JR a.2⟩
 split
 . refine⟨λ_=>rfl,λh=>by simp at h,λ_=>JY ?_⟩;rw[ri,ByteArray.size_extract];omega
 exact⟨λh=>by simp at h,λh=>by simp at h,λh=>by simp at h⟩
theorem Lj {src:Xb}{t:Tk}(h:Tx src t):cs src t=if 2<=t.k then src.extract t.a t.t else ⟨#[]⟩:=by
 unfold cs;split
 . rename_i a;rw[ag (by omega)]
 split
 . rename_i a b
   exact h.text (by omega)
 rfl
def St.ej (st:St)(l:Xu):Bool:=(st.t.k==4||st.t.k==5)&&st.t.s.toList==l
theorem KL (a:st.t.k<=5)(l:Xu):(ck st.t==2&&(cs st.src st.t).toList==l)=st.ej l:=by
 unfold St.ej ck cs;rcases Nat.lt_or_ge st.t.k 4 with h|h
 . have:st.t.k=0∨st.t.k=1∨st.t.k=2∨st.t.k=3:=by omega
   rcases this with h|h|h|h <;> simp[h]
 have:st.t.k=4∨st.t.k=5:=by omega
 rcases this with h|h <;> simp[h]
theorem yK (h:s.toList=l):ep s=j5.any λx=>l==x:=by subst h;rfl
theorem fm (e:Tx st.src st.t)(f:(j5.any λx=>l==x)=false):st.ej l=st.is 4 l:=by
 unfold St.ej St.is;by_cases a:st.t.k=5
 . have h:=e.kw a;by_cases b:st.t.s.toList=l
   . rw[yK b,f] at h;cases h
   simp[a,b]
 have:(st.t.k==5)=false:=by simp[a]
 rw[this,Bool.or_false]
theorem MH (e:Tx st.src st.t)(f:(j5.any λx=>l==x)=true):st.ej l=st.is 5 l:=by
 unfold St.ej St.is;by_cases a:st.t.k=4
 . have h:=e.sg a;by_cases b:st.t.s.toList=l
   . rw[yK b,f] at h;cases h
   simp[a,b]
 have:(st.t.k==4)=false:=by simp[a]
 rw[this,Bool.false_or]
structure PL (S:Xs) (w:Xw) (pb:Nat) (st:St):Prop where
 tx:Tx st.src st.t
 heap:w.heap[pb]?=some (lu S st)
 gl:Gl S w
 pb:21<=pb
theorem PL.cells (h:PL S w c st) :
 w.cell? (xD c 0)=some (.string st.src)/\w.cell? (xD c 1)=some (xI (ck st.t))/\w.cell? (xD c 2)=some (.string (cs st.src st.t))/\w.cell? (xD c 3)=some (xI st.t.a) /\
 w.cell? (xD c 4)=some (xI (cn st.t))/\w.cell? (xD c 5)=some (xI st.op)/\w.cell? (xD c 6)=some (cJ S st.er st.at'):=by
 have:=h.heap;simp[World.cell?,this,lu]
theorem PL.frozen (h:PL S w c st)(i:Nat):w.frozen? (xD c i)=false:=by have:=h.heap;simp[World.frozen?,this,lu]
theorem PL.lt (h:PL S w c st):c<w.heap.size:=by
 have a:=h.heap;rcases Nat.lt_or_ge c w.heap.size with h1|h1
 . exact h1
 rw[Array.getElem?_eq_none h1] at a;cases a
theorem PL.drew (h:PL S w c st):PL S w.drew c st:=⟨h.tx,h.heap,h.gl.of (Fr.refl (·=c) w).drew (λ_ a=>a▸h.pb),h.pb⟩
theorem PL.fr (h:PL S w c st)(b:Fr T w d)(a:∀k,T k->c<k):PL S d c st :=
 ⟨h.tx,(b.block c h.lt (λf=>by have:=a _ f;omega)).trans h.heap,h.gl.of b (λk e=>by have:=a k e;have:=h.pb;omega),h.pb⟩
theorem PL.alloc (h:PL S w c st)(o:Obj):PL S (w.alloc o) c st :=
 h.fr (T:=λ_=>False) ((Fr.refl _ w).alloc o) (λ_ a=>a.elim)
theorem PL.below (h:PL S w c st)(a:xB w d):PL S d c st :=
 h.fr (T:=λ_=>False) (Fr.Mo a) (λ_ b=>b.elim)
theorem PL.aU (h:PL S w c st){b:Nat}(a:c<b)(i:Nat)(u:Xv):PL S (w.setCell (xD b i) u) c st :=
 h.fr (T:=(·=b)) ((Fr.refl _ w).aY i u) (λ_ e=>e▸a)
theorem PL.hd (h:PL S w c st)(t:Tk)(j:Tx st.src t):PL S (((((w.setCell (xD c 1) (xI (ck t))).setCell (xD c 2) (.string (cs st.src t))).setCell (xD c 3) (xI t.a)).setCell (xD c 4) (xI (cn t)))) c { st with t:=t }:=by have a:xH w c #[.string st.src,xI (ck st.t),.string (cs st.src st.t),xI st.t.a,xI (cn st.t),xI st.op,cJ S st.er st.at'] 105:=h.heap;have b:(w.setCell (xD c 1) (xI (ck t))).heap[c]?=some (.cells #[.string st.src,xI (ck t),.string (cs st.src st.t),xI st.t.a,xI (cn st.t),xI st.op,cJ S st.er st.at'] 105 (0,0)):=zh _ _ _ _ a;have e:((w.setCell (xD c 1) (xI (ck t))).setCell (xD c 2) (.string (cs st.src t))).heap[c]?=some (.cells #[.string st.src,xI (ck t),.string (cs st.src t),xI st.t.a,xI (cn st.t),xI st.op,cJ S st.er st.at'] 105 (0,0)):=zh _ _ _ _ b;have f:(((w.setCell (xD c 1) (xI (ck t))).setCell (xD c 2) (.string (cs st.src t))).setCell (xD c 3) (xI t.a)).heap[c]?=some (.cells #[.string st.src,xI (ck t),.string (cs st.src t),xI t.a,xI (cn st.t),xI st.op,cJ S st.er st.at'] 105 (0,0)):=zh _ _ _ _ e;have g:((((w.setCell (xD c 1) (xI (ck t))).setCell (xD c 2) (.string (cs st.src t))).setCell (xD c 3) (xI t.a)).setCell (xD c 4) (xI (cn t))).heap[c]?=some (.cells #[.string st.src,xI (ck t),.string (cs st.src t),xI t.a,xI (cn t),xI st.op,cJ S st.er st.at'] 105 (0,0)):=zh _ _ _ _ f;exact⟨j,g,h.gl.of (T:=(·=c)) (((((Fr.refl _ w).aY _ _).aY _ _).aY _ _).aY _ _) (λ_ i=>i▸h.pb),h.pb⟩
theorem PL.qj (h:PL S w c st)(e a:Nat):PL S ((w.setCell (xD c 6) (cJ S e a))) c { st with er:=e,at':=a }:=by have b:xH w c #[.string st.src,xI (ck st.t),.string (cs st.src st.t),xI st.t.a,xI (cn st.t),xI st.op,cJ S st.er st.at'] 105:=h.heap;have f:xH (w.setCell (xD c 6) (cJ S e a)) c #[.string st.src,xI (ck st.t),.string (cs st.src st.t),xI st.t.a,xI (cn st.t),xI st.op,cJ S e a] 105:=zh _ _ _ _ b;exact⟨h.tx,f,h.gl.of (T:=(·=c)) ((Fr.refl _ w).aY _ _) (λ_ g=>g▸h.pb),h.pb⟩
theorem PL.mU (h:PL S w c st)(o:Nat):PL S ((w.setCell (xD c 5) (xI (o:Nat)))) c { st with op:=o }:=by have a:xH w c #[.string st.src,xI (ck st.t),.string (cs st.src st.t),xI st.t.a,xI (cn st.t),xI st.op,cJ S st.er st.at'] 105:=h.heap;have b:(w.setCell (xD c 5) (xI (o:Nat))).heap[c]?=some (.cells #[.string st.src,xI (ck st.t),.string (cs st.src st.t),xI st.t.a,xI (cn st.t),xI o,cJ S st.er st.at'] 105 (0,0)):=zh _ _ _ _ a;exact⟨h.tx,b,h.gl.of (T:=(·=c)) ((Fr.refl _ w).aY _ _) (λ_ e=>e▸h.pb),h.pb⟩
end
section
theorem jZ (s:Xb)(a:Nat)(b:a<=s.size):(s.extract a s.size).size=s.size-a:=by rw[ByteArray.size_extract];omega
theorem nP (s:Xb)(a i:Nat)(b:a<=s.size):bt (s.extract a s.size) i=bt s (a+i):=by
 unfold bt;by_cases h:i<s.size-a
 . rw[dif_pos (by rw[jZ s a b];exact h),dif_pos (by omega)];congr 1;rw[ByteArray.getElem_extract]
 rw[dif_neg (by rw[jZ s a b];exact h),dif_neg (by omega)]
theorem Iz (p:Xh)(s:Xb)(a:Nat)(b:a<=s.size):∀f i,ia p (s.extract a s.size) f i+a=ia p s f (a+i):=by
 intro f;induction f with
 | zero=>intro i;show i+a=a+i;omega
 | succ f d =>
   intro i
   show (if i<(s.extract a s.size).size/\p (bt (s.extract a s.size) i)=true then ia p (s.extract a s.size) f (i+1) else i)+a=(if a+i<s.size/\p (bt s (a+i))=true then ia p s f (a+i+1) else a+i);rw[jZ s a b,nP s a i b];by_cases h:i<s.size-a/\p (bt s (a+i))=true
   . rw[ag h,ag ⟨by omega,h.2⟩,d (i+1)];rfl
   rw[ae h,ae (λc=>h ⟨by omega,c.2⟩)];omega
theorem rr (p:Xh)(s:Xb)(a:Nat)(b:a<=s.size):zQ p (s.extract a s.size) 0+a=zQ p s a:=by unfold zQ;rw[jZ s a b];have:=Iz p s a b (s.size-a-0) 0;simpa using this
theorem nC (s:Xb)(a n:Nat)(h:a+n<=s.size):(s.extract a s.size).extract 0 n=s.extract a (a+n):=by rw[ByteArray.extract_extract];congr 1;omega
def gO:List UInt8->Bool×Nat->Bool×Nat
 | [],x=>x
 | c::r,x=>gO r (if x.2 > (9223372036854775807-(c.toNat-48)) / 10 then (false,x.2) else (x.1,x.2*10+(c.toNat-48)))
theorem V9:∀(l:Xu) (n:Nat),(gO l (false,n)).1=false:=by
 intro l;induction l with
 | nil=>intro n;rfl
 | cons c r a =>
   intro n
   show (gO r (if n > (9223372036854775807-(c.toNat-48)) / 10 then (false,n) else (false,n*10+(c.toNat-48)))).1=false;split <;> exact a _
def mv (l:Xu):Prop:=∀c∈l,48<=c.toNat/\c.toNat<=57
theorem Jj (M:Nat):∀(l:Xu) (a:Nat),mv l->Lib.parseUintM M a l=.range∨∃u,Lib.parseUintM M a l=.ok u/\a<=u:=by
 intro l;induction l with
 | nil=>intro a _;exact ap ⟨a,rfl,an _⟩
 | cons c r i =>
   intro a h;have e:=h c (by simp);have f:mv r:=λx g=>h x (by simp[g]);have d:Lib.parseUintM M a (c::r)=if 1844674407370955162<=a then .range else if M<a*10+(c.toNat-48) then .range else Lib.parseUintM M (a*10+(c.toNat-48)) r:=(by rw[Lib.parseUintM,ag e]);rw[d];split
   . exact ao rfl
   split
   . exact ao rfl
   rcases i (a*10+(c.toNat-48)) f with b|⟨u,b,j⟩
   . exact ao b
   exact ap ⟨u,b,by omega⟩
theorem KM:∀(l:Xu) (a:Nat),mv l->a<=9223372036854775807 ->
 ((gO l (true,a)).1=true->Lib.parseUintM 18446744073709551615 a l=.ok (gO l (true,a)).2/\(gO l (true,a)).2<=9223372036854775807) /\
 ((gO l (true,a)).1=false->Lib.parseUintM 18446744073709551615 a l=.range∨∃u,Lib.parseUintM 18446744073709551615 a l=.ok u/\9223372036854775807<u):=by
 intro l;induction l with
 | nil=>intro a _ e;exact⟨λ_=>⟨rfl,e⟩,λh=>by cases h⟩
 | cons c r n =>
   intro a h e;have k:=h c (by simp);have f:mv r:=λx m=>h x (by simp[m]);have g:gO (c::r) (true,a)=gO r (if a > (9223372036854775807-(c.toNat-48)) / 10 then (false,a) else (true,a*10+(c.toNat-48))):=rfl;have i:Lib.parseUintM 18446744073709551615 a (c::r)=if 1844674407370955162<=a then .range else if 18446744073709551615<a*10+(c.toNat-48) then .range else Lib.parseUintM 18446744073709551615 (a*10+(c.toNat-48)) r:=(by rw[Lib.parseUintM,ag k]);rw[g,i];by_cases d:a > (9223372036854775807-(c.toNat-48)) / 10
   . rw[ag d];refine⟨λb=>?_,λ_=>?_⟩
     . rw[V9] at b;cases b
     split
     . exact ao rfl
     split
     . exact ao rfl
     rcases Jj 18446744073709551615 r (a*10+(c.toNat-48)) f with b|⟨u,b,o⟩
     . exact ao b
     exact ap ⟨u,b,by omega⟩
   rw[ae d];have j:a*10+(c.toNat-48)<=9223372036854775807:=(by omega);rw[ae (by omega),ae (by omega)];exact n _ f j
theorem KB (l:Xu)(h:mv l)(b:l≠[]):Lib.parseIntB 64 l=if (gO l (true,0)).1=true then .ok ((gO l (true,0)).2:Int) else .range:=by
 obtain⟨c,r,rfl⟩:=List.exists_cons_of_ne_nil b;have i:=h c (by simp);have e:=KM (c::r) 0 h (by omega);have g:Lib.parseUintB 64 (if c.toNat=43∨c.toNat=45 then r else c::r)=Lib.parseUintM 18446744073709551615 0 (c::r):=by rw[ae (by omega)];unfold Lib.parseUintB;rw[ae (by simp)]
 unfold Lib.parseIntB;simp only;rw[g];cases d:(gO (c::r) (true,0)).1 with
 | true => obtain⟨a,f⟩:=e.1 d;rw[a];simp only;rw[ae (by omega),ae (by omega),ae (by omega)];simp
 | false =>
   rw[ae (by simp)];rcases e.2 d with a|⟨u,a,f⟩
   . rw[a]
   rw[a];simp only;rw[ag ⟨by omega,by omega⟩]
def j1 (s:Xb)(i e:Nat):List UInt8:=(s.extract i e).data.toList
theorem SQ (s:Xb)(i e:Nat)(c:i<e)(b:e<=s.size):j1 s i e=s[i]'(by omega)::j1 s (i+1) e:=by unfold j1;have a:s.data.size=s.size:=rfl;rw[ByteArray.data_extract,ByteArray.data_extract,Array.toList_extract,Array.toList_extract,List.extract_eq_take_drop,List.extract_eq_take_drop];rw[dE (by rw[Array.length_toList,a];omega),show e-i=(e-(i+1))+1 by omega,cI];rfl
theorem xl (s:Xb)(i:Nat):j1 s i i=[]:=by unfold j1;rw[ByteArray.data_extract,Array.toList_extract,List.extract_eq_take_drop];simp
theorem I8 (s:Xb):∀(f i:Nat) (x:Bool×Nat),f=s.size-i->dR s f i x=gO (j1 s i (zQ zT s i)) x/\mv (j1 s i (zQ zT s i)):=by
 intro f;induction f with
 | zero => intro i x o;rw[nY (by omega),xl];exact⟨rfl,λc a=>by cases a⟩
 | succ f p =>
   intro i x o;have j:i<s.size:=(by omega);by_cases b:zT (bt s i)=true
   . have e:=kJ j b;have k:i+1<=zQ zT s i:=(by rw[e];exact ll _ _ _);have d:zQ zT s i<=s.size:=jl _ _ _ (by omega);have n:=QZ j;have a:=SQ s i _ k d;obtain⟨l,m⟩:=p (i+1) (if x.2 > (9223372036854775807-(bt s i-48)) / 10 then (false,x.2) else (x.1,x.2*10+(bt s i-48))) (by omega);rw[<- e] at l m;rw[a];refine⟨?_,?_⟩
     . show (if i<s.size/\zT (bt s i)=true then _ else x)=gO (j1 s (i+1) (zQ zT s i)) (if x.2 > (9223372036854775807-((s[i]).toNat-48)) / 10 then (false,x.2) else (x.1,x.2*10+((s[i]).toNat-48)));rw[ag ⟨j,b⟩,n,l]
     intro c a;rcases cC.1 a with h|h
     . subst h;rw[n];simp[zT] at b;exact b
     exact m c h
   have g:zT (bt s i)=false:=(by simpa using b);rw[nW g,xl];refine⟨?_,λc a=>by cases a⟩
   show (if i<s.size/\zT (bt s i)=true then _ else x)=x;rw[ae (λh=>b h.2)]
theorem Jc (s:Xb)(a:Nat)(f:a<s.size)(g:zT (bt s a)=true):Lib.parseIntB 64 (s.extract a (zQ zT s a)).data.toList=if (dR s (s.size-a) a (true,0)).1=true then .ok ((dR s (s.size-a) a (true,0)).2:Int) else .range:=by
 obtain⟨d,e⟩:=I8 s (s.size-a) a (true,0) rfl;have c:a+1<=zQ zT s a:=by rw[kJ f g];exact ll _ _ _
 have b:zQ zT s a<=s.size:=jl _ _ _ (by omega);rw[d];refine KB _ e ?_
 show j1 s a (zQ zT s a)≠[];rw[SQ s a _ c b];simp
end
section
open Go.RowKit
variable {b:Nat} {e:Xy} {a c d f g j:Xv} {w:Xw}
theorem ze {o:Obj}(h:w.heap[b]?=some o):b<w.heap.size:=by
 rcases Nat.lt_or_ge b w.heap.size with h1|h1
 . exact h1
 rw[Array.getElem?_eq_none h1] at h;cases h
theorem zu (h:w.heap[b]?=some (.cells #[a] e (0,0))):w.cell? (xD b 0)=some a/\(∀i,w.frozen? (xD b i)=false)/\b<w.heap.size :=
 ⟨by simp[World.cell?,h],λi=>by simp[World.frozen?,h],ze h⟩
theorem zp (h:w.heap[b]?=some (.cells #[a,c] e (0,0))):w.cell? (xD b 0)=some a/\w.cell? (xD b 1)=some c/\(∀i,w.frozen? (xD b i)=false)/\b<w.heap.size :=
 ⟨by simp[World.cell?,h],by simp[World.cell?,h],λi=>by simp[World.frozen?,h],ze h⟩
theorem zL (h:w.heap[b]?=some (.cells #[a,c,d] e (0,0))):w.cell? (xD b 0)=some a/\w.cell? (xD b 1)=some c/\w.cell? (xD b 2)=some d/\(∀i,w.frozen? (xD b i)=false)/\b<w.heap.size :=
 ⟨by simp[World.cell?,h],by simp[World.cell?,h],by simp[World.cell?,h],λi=>by simp[World.frozen?,h],ze h⟩
theorem zU (h:w.heap[b]?=some (.cells #[a,c,d,f] e (0,0))):w.cell? (xD b 0)=some a/\w.cell? (xD b 1)=some c/\w.cell? (xD b 2)=some d/\w.cell? (xD b 3)=some f/\(∀i,w.frozen? (xD b i)=false)/\b<w.heap.size :=
 ⟨by simp[World.cell?,h],by simp[World.cell?,h],by simp[World.cell?,h],by simp[World.cell?,h],λi=>by simp[World.frozen?,h],ze h⟩
theorem bz (h:w.heap[b]?=some (.cells #[a,c,d,f,g] e (0,0))):w.cell? (xD b 0)=some a/\w.cell? (xD b 1)=some c/\w.cell? (xD b 2)=some d/\w.cell? (xD b 3)=some f/\w.cell? (xD b 4)=some g/\(∀i,w.frozen? (xD b i)=false)/\b<w.heap.size :=
 ⟨by simp[World.cell?,h],by simp[World.cell?,h],by simp[World.cell?,h],by simp[World.cell?,h],by simp[World.cell?,h],λi=>by simp[World.frozen?,h],ze h⟩
theorem zt (h:w.heap[b]?=some (.cells #[a,c,d,f,g,j] e (0,0))):w.cell? (xD b 0)=some a/\w.cell? (xD b 1)=some c/\w.cell? (xD b 2)=some d/\w.cell? (xD b 3)=some f/\w.cell? (xD b 4)=some g/\w.cell? (xD b 5)=some j/\(∀i,w.frozen? (xD b i)=false)/\b<w.heap.size :=
 ⟨by simp[World.cell?,h],by simp[World.cell?,h],by simp[World.cell?,h],by simp[World.cell?,h],by simp[World.cell?,h],by simp[World.cell?,h],λi=>by simp[World.frozen?,h],ze h⟩
theorem eK {k:Xv}(h:w.heap[b]?=some (.cells #[a,c,d,f,g,j,k] e (0,0))):w.cell? (xD b 0)=some a/\w.cell? (xD b 1)=some c/\w.cell? (xD b 2)=some d/\w.cell? (xD b 3)=some f/\w.cell? (xD b 4)=some g/\w.cell? (xD b 5)=some j/\w.cell? (xD b 6)=some k/\(∀i,w.frozen? (xD b i)=false)/\b<w.heap.size :=
 ⟨by simp[World.cell?,h],by simp[World.cell?,h],by simp[World.cell?,h],by simp[World.cell?,h],by simp[World.cell?,h],by simp[World.cell?,h],by simp[World.cell?,h],λi=>by simp[World.frozen?,h],ze h⟩
end
section
open Go.RowKit
variable {w d:Xw}
theorem JZ {e:Xy}(h:d=w∨∃t,d=Lib.bytesWorld w e t):xB w d:=by
 rcases h with rfl|⟨t,rfl⟩
 . exact yS _ _
 exact Lib.bytesWorld_below _ _ _
theorem nK {o:Obj}(h:Below (w.alloc o).heap.size (w.alloc o) d):xB w d :=
 ⟨h.os,h.tape,h.output,aJ (by simp) h.size,λk a=>(h.block k (by simp;omega)).trans (mm _ _ _ a)⟩
theorem PI {fn:Func}{p:Tmp}(h:fn.results=#[.cell p 102]){a:Xa}{b:Nat}(n:a[p]?.getD undef=xP b){c e f g:Xv}(m:xH w b #[c,e,f,g] 102):(results fn a).run prog w=.ok (.agg #[c,e,f,g]) w:=by obtain⟨i,j,k,l,_⟩:=zU m;simp[results,h,n,go_sem,i,j,k,l]
def pK (r:Xb)(a:Nat):Value :=
 if (dR r (r.size-0) 0 (true,0)).1=true then ci 4 (r.extract 0 (zQ zT r 0)) a (dR r (r.size-0) 0 (true,0)).2 else ci 0 ⟨#[]⟩ a 0
theorem Ic (S:Xs)(r:Xb)(s:r.size<=1200)(z:0<r.size)(B:zT (bt r 0)=true)(a:Nat)(w:Xw)(q:Gl S w) :
 xK 70 #[.string r,xI a] w λe p=>e=.returned (pK r a)/\xB w p:=by
 have A:=jl zT r 0 (aE _);have h:=Jc r 0 z B;have g:aa (pK r a=if (dR r (r.size-0) 0 (true,0)).1=true then ci 4 (r.extract 0 (zQ zT r 0)) a (dR r (r.size-0) 0 (true,0)).2 else ci 0 ⟨#[]⟩ a 0):=rfl;obtain⟨n,j⟩:∃n,zQ zT r 0=n:=⟨_,rfl⟩;generalize dR r (r.size-0) 0 (true,0)=x at *;rw[j] at A h g;have l:w.cell? (xD 17 0)=some (.iface 316 (.pointer (some (S 12)))):=q.range;have k:=q.size;have i:17<w.heap.size:=dD (by decide) k;have m:(r.extract 0 n).size<=281474976710656:=by rw[ByteArray.size_extract];omega
 cases t:x.1 with
 | true => rw[t,ag rfl] at h g;have f:=za (Tryz.strconv_ParseInt_10_at64_ok (r.extract 0 n) (by omega) x.2 h (w.alloc (.cells #[xI 0,.string ⟨#[]⟩,xI 0,xI 0] 102)));go_enter func70,ntmps70;go_wp2_with (first|(go_at_call 131;refine f.o.mono ?_;rintro e d ⟨rfl,o⟩;have b:=JZ o;have c:=(b.block w.heap.size (Nat.lt_of_lt_of_eq (cf _) (by simp))).trans (zc w _);obtain⟨d0,d1,d2,d3,u,y⟩:=zU c)|(go_at_call 65;refine (mj _ zT xm mf r s _).mono ?_;rintro e p ⟨rfl,rfl⟩;rw[j]));refine ab (v:=ci 4 (r.extract 0 n) a x.2) (PI rfl rfl (kB c _ _ _ _)) rfl ⟨by rw[g.o],?_⟩;exact (((((nK b).setCell (an _) _).setCell (an _) _).setCell (an _) _).setCell (an _) _)
 | false => rw[t,ae (by simp)] at h g;have f:=za (Tryz.strconv_ParseInt_10_at64_range (r.extract 0 n) m h (.iface 316 (.pointer (some (S 12)))) (w.alloc (.cells #[xI 0,.string ⟨#[]⟩,xI 0,xI 0] 102)) ((World.cell?_alloc_lt _ _ _ i).trans l) (ap ⟨_,_,rfl⟩));go_enter func70,ntmps70;go_wp2_with (first|(go_at_call 131;refine f.o.mono ?_;rintro e d ⟨N,rfl,_,_,b⟩;have c:=(b.block w.heap.size (Nat.lt_of_lt_of_eq (cf _) (by simp))).trans (zc w _);obtain⟨d0,d1,d2,d3,u,y⟩:=zU c)|(go_at_call 65;refine (mj _ zT xm mf r s _).mono ?_;rintro e p ⟨rfl,rfl⟩;rw[j]));refine ab (v:=ci 0 ⟨#[]⟩ a 0) (PI rfl rfl (kB c _ _ _ _)) rfl ⟨by rw[g.o],?_⟩;exact (((((nK b).setCell (an _) _).setCell (an _) _).setCell (an _) _).setCell (an _) _)
def pB (r:Xb)(a:Nat):Value :=
 if 2<=r.size/\((r.extract 0 2).toList==[45,62]||(r.extract 0 2).toList==[60,62]||(r.extract 0 2).toList==[60,61])=true then ci 2 (r.extract 0 2) a 0
 else if hs (bt r 0) then ci 2 (r.extract 0 1) a 0 else ci 0 ⟨#[]⟩ a 0
theorem RA (s t:Xb)(c:t.size=2)(b:s.size<=1200)(w:Xw):xK 132 #[.string s,.string t] w λe a=>e=.returned (.bool (decide (2<=s.size)&&(s.extract 0 2).toList==t.toList))/\w=a:=by
 go_enter func132,ntmps132;go_wp2;all_goals go_ret
 . rename_i h
   have:decide (2<=s.size)=true:=by simp;omega
   rw[this];exact⟨rfl,rfl⟩
 rename_i h
 have:decide (2<=s.size)=false:=by simp;omega
 rw[this];exact⟨rfl,rfl⟩
theorem Kx:∀n,n<256->decide ((0:Int)<=Lib.indexByte [40,41,123,125,58,59,44,61,60,43,45,42,47,37] n.toUInt8)=hs n:=by decide +kernel
theorem r6 {s t:Xb}(h:s.toList=t.toList):s=t:=by rw[ByteArray.toList_eq,ByteArray.toList_eq] at h;exact ByteArray.ext (Array.toList_inj.1 h)
theorem qc (a b c:Xb)(w:Xw):(Instr.index 250 (.agg #[.string a,.string b,.string c]) (xI 0)).run prog w=.ok (.string a) w/\(Instr.index 250 (.agg #[.string a,.string b,.string c]) (xI 1)).run prog w=.ok (.string b) w/\(Instr.index 250 (.agg #[.string a,.string b,.string c]) (xI 2)).run prog w=.ok (.string c) w:=⟨by kernel_rfl,by kernel_rfl,by kernel_rfl⟩
theorem Lk (r:Xb)(i:Nat):bt r i<256:=by
 unfold bt;split
 . exact UInt8.toNat_lt _
 decide
theorem Jt (r:Xb)(q:r.size<=1200)(x:0<r.size)(a:Nat)(w:Xw) :
 xK 71 #[.string r,xI a] w λe m=>e=.returned (pB r a)/\xB w m:=by
 have A:=λw=>(qc ⟨#[45,62]⟩ ⟨#[60,62]⟩ ⟨#[60,61]⟩ w).1;have B:=λw=>(qc ⟨#[45,62]⟩ ⟨#[60,62]⟩ ⟨#[60,61]⟩ w).2.1;have C:=λw=>(qc ⟨#[45,62]⟩ ⟨#[60,62]⟩ ⟨#[60,61]⟩ w).2.2;have z:=QZ x;have b:=Lk r 0;have i:=Kx (bt r 0) b;have t1:(⟨#[45,62]⟩:Xb).toList=[45,62]:=by decide +kernel
 have t2:(⟨#[60,62]⟩:Xb).toList=[60,62]:=by decide +kernel
 have t3:(⟨#[60,61]⟩:Xb).toList=[60,61]:=by decide +kernel
 have j:aa (pB r a=if 2<=r.size/\((r.extract 0 2).toList==[45,62]||(r.extract 0 2).toList==[60,62]||(r.extract 0 2).toList==[60,61])=true then ci 2 (r.extract 0 2) a 0 else if hs (bt r 0) then ci 2 (r.extract 0 1) a 0 else ci 0 ⟨#[]⟩ a 0):=rfl;obtain⟨c,u⟩:∃c,bt r 0=c:=⟨_,rfl⟩;rw[u] at z i j;have l:=za i;have T1:=za t1;have T2:=za t2;have T3:=za t3;clear u i t1 t2 t3 b;go_enter func71,ntmps71;go_wp2_with fail;refine wp_loop_rounds 4 ?_;rw[rounds_succ];go_wp2_with (go_at_call 132;refine (RA _ _ rfl q _).mono ?_;rintro e m ⟨rfl,rfl⟩;rw[T1.o])
 . rename_i f
   refine ab (v:=ci 2 ⟨#[45,62]⟩ a 0) (by simp[results,results71,go_sem,ci]) rfl ⟨?_,(yS _ _).alloc (an _) _⟩;simp only[beq_iff_eq] at f;rw[j.o,ag ⟨f.1,by simp[f.2]⟩,r6 (f.2.trans T1.o.symm)]
 rename_i f
 rw[rounds_succ];go_wp2_with (go_at_call 132;refine (RA _ _ rfl q _).mono ?_;rintro e m ⟨rfl,rfl⟩;rw[T2.o])
 . rename_i g
   refine ab (v:=ci 2 ⟨#[60,62]⟩ a 0) (by simp[results,results71,go_sem,ci]) rfl ⟨?_,(yS _ _).alloc (an _) _⟩;simp only[beq_iff_eq] at g;rw[j.o,ag ⟨g.1,by simp[g.2]⟩,r6 (g.2.trans T2.o.symm)]
 rename_i g
 rw[rounds_succ];go_wp2_with (go_at_call 132;refine (RA _ _ rfl q _).mono ?_;rintro e m ⟨rfl,rfl⟩;rw[T3.o])
 . rename_i h
   refine ab (v:=ci 2 ⟨#[60,61]⟩ a 0) (by simp[results,results71,go_sem,ci]) rfl ⟨?_,(yS _ _).alloc (an _) _⟩;simp only[beq_iff_eq] at h;rw[j.o,ag ⟨h.1,by simp[h.2]⟩,r6 (h.2.trans T3.o.symm)]
 rename_i h
 have t:aa (¬(2<=r.size/\((r.extract 0 2).toList==[45,62]||(r.extract 0 2).toList==[60,62]||(r.extract 0 2).toList==[60,61])=true)):=by
  rintro⟨o,g2⟩;simp only[Bool.or_eq_true] at g2;rcases g2 with (g2|g2)|g2
  . rw[g2] at f;simp[o] at f
  . rw[g2] at g;simp[o] at g
  rw[g2] at h;simp[o] at h
 have s:=j.o;rw[ae t.o] at s;have k:=za s;clear f g h s j t;rw[rounds_succ];go_wp2_with (go_at_call 133;refine (Tryz.strings_IndexByte _ _ _).mono ?_;rintro e m ⟨rfl,rfl⟩)
 . rename_i n
   have p:hs c=true:=(by rw[<- l.o];exact decide_eq_true n);refine ab (v:=ci 2 (r.extract 0 1) a 0) (by simp[results,results71,go_sem,ci]) rfl ⟨by rw[k.o,ag p],(yS _ _).alloc (an _) _⟩
 rename_i n
 have p:¬hs c=true:=by rw[<- l.o];intro y;exact absurd (of_decide_eq_true y) (by first|exact n|exact Int.not_le.2 n)
 refine ab (v:=ci 0 ⟨#[]⟩ a 0) (by simp[results,results71,go_sem,ci]) rfl ⟨by rw[k.o,ae p],(yS _ _).alloc (an _) _⟩
end
end Go.Proofs.YtcnelakggnfnhaaGreatDoor
