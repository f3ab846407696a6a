/- Part 1. -/
import Derived.BigQuiet
import Derived.BigRegion
import Derived.Deep.DeepMust
import Derived.Deep.QuietTactic
import Derived.Deep.RegionWith
import Derived.Lib.AtoiErrMem
import Derived.Lib.ParseIntB
import Derived.RegionTactic
import Derived.Test.YtenadialhccdiaaGreatDoorProg
import Derived.Test.YtenadialhccdiaaGreatDoorShelf
import Derived.WalkKit
import Derived.WalkLawsBesides
set_option maxRecDepth 100000
set_option maxHeartbeats 8000000
namespace Go.Proofs.YtenadialhccdiaaGreatDoor
open Go.Proofs.Tryz
theorem zWP (w : World) (o : Obj) (k : Nat) (h : k < w.heap.size) : (w.alloc o).heap[k]? = w.heap[k]? := Go.RowKit.Below.heap_alloc w o k h
theorem zWQ (B : Nat) (w : World) : Go.RowKit.Below B w w := Go.RowKit.Below.refl B w
theorem zMQ {α : Type _} (a b c : List α) : a ++ b ++ c = a ++ (b ++ c) := List.append_assoc a b c
theorem zM7 {α : Type _} {a b : List α} : a ++ b = [] ↔ a = [] ∧ b = [] := List.append_eq_nil_iff
theorem zMT {α : Type _} {l : List α} {i : Nat} (h : i < l.length) : l.drop i = l[i]'h :: l.drop (i + 1) := List.drop_eq_getElem_cons h
theorem zMP {α : Type _} {β : Type _} {f : β → α → β} {b : β} {l m : List α} : (l ++ m).foldl f b = m.foldl f (l.foldl f b) := List.foldl_append
theorem zM6 {α : Type _} {a b : List α} {i : Nat} (h : i < a.length) : (a ++ b)[i]? = a[i]? := List.getElem?_append_left h
theorem zM5 {α : Type _} {a b : List α} {i : Nat} (h : a.length ≤ i) : (a ++ b)[i]? = b[i - a.length]? := List.getElem?_append_right h
theorem zsc {α : Type _} {l : List α} {i : Nat} (h : i < l.length) : l[i]? = some (l[i]'h) := List.getElem?_eq_getElem h
theorem zMJ {α : Type _} {l : List α} {i : Nat} {a : α} : l[i]? = some a ↔ ∃ h : i < l.length, l[i]'h = a := List.getElem?_eq_some_iff
theorem zr7 {α : Type _} (a : α) (l : List α) (i : Nat) (h : i + 1 < (a :: l).length) : (a :: l)[i + 1]'h = l[i]'(Nat.lt_of_succ_lt_succ h) := List.getElem_cons_succ a l i h
theorem zr6 {α : Type _} (a : α) (l : List α) (h : 0 < (a :: l).length) : (a :: l)[0]'h = a := List.getElem_cons_zero a l h
theorem zr8 {α : Type _} {l : List α} {i : Nat} (h : i < l.toArray.size) : l.toArray[i]'h = l[i]'(by simpa using h) := List.getElem_toArray h
theorem zMM {α : Type _} {a b : List α} : (a ++ b).length = a.length + b.length := List.length_append
theorem zMR {α : Type _} {a : α} {l : List α} : (a :: l).length = l.length + 1 := List.length_cons
theorem zNb {α : Type _} : ([] : List α).length = 0 := List.length_nil
theorem zMY {α : Type _} {a : α} {s t : List α} : a ∈ s ++ t ↔ a ∈ s ∨ a ∈ t := List.mem_append
theorem zNa {α : Type _} {a b : α} {l : List α} : a ∈ b :: l ↔ a = b ∨ a ∈ l := List.mem_cons
theorem zMX {α : Type _} {a : α} (y : α) {l : List α} (h : a ∈ l) : a ∈ y :: l := List.mem_cons_of_mem y h
theorem zMS {α : Type _} {a : α} {l : List α} : a ∈ a :: l := List.mem_cons_self
theorem zM8 {α : Type _} {β : Type _} {f : α → List β} {b : β} {l : List α} : b ∈ l.flatMap f ↔ ∃ a, a ∈ l ∧ b ∈ f a := List.mem_flatMap
theorem zML {α : Type _} {l : List α} {i : Nat} {a : α} (h : l[i]? = some a) : a ∈ l := List.mem_of_getElem? h
theorem zMZ {α : Type _} {a b : α} : a ∈ [b] ↔ a = b := List.mem_singleton
theorem zr5 {α : Type _} (l : List α) (i : Nat) (a : α) : l.toArray.setIfInBounds i a = (l.set i a).toArray := List.setIfInBounds_toArray l i a
theorem zr9 {α : Type _} {l : List α} {a b : α} {n : Nat} : (a :: l).set (n + 1) b = a :: l.set n b := List.set_cons_succ
theorem zsa {α : Type _} {l : List α} {a b : α} : (a :: l).set 0 b = b :: l := List.set_cons_zero
theorem zMU {α : Type _} {i : Nat} {l : List α} (h : l.length ≤ i) : l.take i = l := List.take_of_length_le h
theorem zMW {α : Type _} {i : Nat} {a : α} {l : List α} : (a :: l).take (i + 1) = a :: l.take i := List.take_succ_cons
theorem zMK (n : Nat) : n ≤ n := Nat.le_refl n
theorem zMO {n m k : Nat} (h : n ≤ m) (i : m ≤ k) : n ≤ k := Nat.le_trans h i
theorem zM9 {n m k : Nat} (h : n < m) (i : m ≤ k) : n < k := Nat.lt_of_lt_of_le h i
theorem zMV (n : Nat) : n < n + 1 := Nat.lt_succ_self n
theorem zMN (n : Nat) : 0 ≤ n := Nat.zero_le n
theorem zM3 {a b : Prop} (h : a) : a ∨ b := Or.inl h
theorem zM4 {a b : Prop} (h : b) : a ∨ b := Or.inr h
theorem zWS {w w' : World} {a : Addr} (h : w'.heap[a.block]? = w.heap[a.block]?) : w'.cell? a = w.cell? a := World.cell?_of_block h
theorem zsb (w : World) (o : Obj) : (w.alloc o).heap.size = w.heap.size + 1 := World.size_alloc w o
theorem zM0 {α : Type _} [BEq α] [LawfulBEq α] {a b : α} : (a == b) = false ↔ a ≠ b := beq_eq_false_iff_ne
theorem zWR {P : Program} {fn : Func} {R : Ending → World → Prop} {a : Act} {w : World} {v : Value} (h : (results fn a.tmps).run P w = .ok v w) (i : a.defers = []) (j : R (.returned v) w) : bodyPost P fn R .ret a w := Go.bodyPost_ret h i j
theorem zM1 {c : Prop} {h : Decidable c} (n : ¬c) {α : Sort _} {t e : α} : ite c t e = e := if_neg n
theorem zM2 {c : Prop} {h : Decidable c} (n : c) {α : Sort _} {t e : α} : ite c t e = t := if_pos n
section
open Go.RowKit
abbrev Xw:Type:=World
abbrev Xv:Type:=Value
abbrev Xb:Type:=ByteArray
abbrev Xs:Type:=Nat->Addr
abbrev Xl:Type:=List ByteArray
abbrev Xm:Type:=List Value
abbrev Xn:Type:=List Nat
abbrev Xa:Type:=Array Value
abbrev Xo:Type:=Option Nat
abbrev Xu:Type:=List UInt8
abbrev Xp:Type:=Option Addr
abbrev Xy:Type:=TypeId
abbrev Xk:Type:=List Bool
abbrev Xh:Type:=Nat->Bool
abbrev Xj:Type:=Nat->Prop
def Hid (p:Prop):Prop:=p
theorem Hid.out {p:Prop}(h:Hid p):p:=h
theorem Hid.o {p:Prop}(h:Hid p):p:=h
abbrev xD (b o:Nat):Addr:=⟨b,o,none⟩
abbrev xP (b:Nat):Value:=.pointer (some ⟨b,0,none⟩)
abbrev xS (b n c:Nat):Value:=.slice (some ⟨b,0,none⟩) n c
abbrev xK (f:FuncId) (a:Xa) (w:Xw) (Q:Ending->World->Prop):Prop:=Calls prog f a w Q
abbrev xI (n:Int):Value:=.int .i64 n
abbrev xC (w:Xw) (b o:Nat) (v:Xv):Prop:=w.cell? ⟨b,o,none⟩=some v
abbrev xH (w:Xw) (b:Nat) (c:Xa) (t:Xy):Prop:=w.heap[b]?=some (.cells c t (0,0))
abbrev xB (w w':Xw):Prop:=Go.RowKit.Below w.heap.size w w'
variable {S S':Xj} {a b c w w':Xw}
structure Fr (S:Xj) (w w':Xw):Prop where
 os:w'.os=w.os
 tape:w'.tape=w.tape
 output:w'.output=w.output
 size:w.heap.size<=w'.heap.size
 block:∀k,k<w.heap.size->¬S k->w'.heap[k]?=w.heap[k]?
theorem Fr.refl (S:Xj)(w:Xw):Fr S w w:=⟨rfl,rfl,rfl,zMK _,λ_ _ _=>rfl⟩
theorem Fr.mono (h:Fr S w w')(hS:∀k,k<w.heap.size->S k->S' k):Fr S' w w' :=
 ⟨h.os,h.tape,h.output,h.size,λk hk hn=>h.block k hk (λhs=>hn (hS k hk hs))⟩
theorem Fr.trans' (h:Fr S a b)(k:Fr S' b c)(hS:∀i,i<a.heap.size->S' i->S i):Fr S a c :=
 ⟨k.os.trans h.os,k.tape.trans h.tape,k.output.trans h.output,zMO h.size k.size,
  λi hi hn=>(k.block i (zM9 hi h.size) (λhs=>hn (hS i hi hs))).trans (h.block i hi hn)⟩
theorem Fr.trans (h:Fr S a b)(k:Fr S b c):Fr S a c:=h.trans' k (λ_ _ h=>h)
theorem Fr.drew (h:Fr S a w):Fr S a w.drew:=⟨h.os,h.tape,h.output,h.size,h.block⟩
theorem Fr.alloc (h:Fr S a w)(o:Obj):Fr S a (w.alloc o) :=
 h.trans ⟨rfl,rfl,rfl,by simp,λk hk _=>zWP _ _ _ hk⟩
theorem Fr.setCell (h:Fr S a w){p:Addr}(hp:S p.block∨a.heap.size<=p.block)(u:Xv):Fr S a (w.setCell p u) :=
 ⟨h.os,h.tape,h.output,zMO h.size (by simp[World.setCell]),λk hk hn=>by
   rw[Below.heap_setCell _ _ _ _ (λe=>by rcases hp with hp|hp;exact hn (e▸hp);omega)];exact h.block k hk hn⟩
theorem Fr.below (h:Fr S w w'){B:Nat}(hB:B<=w.heap.size)(hS:∀k,S k->B<=k):Below B w w' :=
 ⟨h.os,h.tape,h.output,h.size,λk hk=>h.block k (by omega) (λhs=>by have:=hS k hs;omega)⟩
theorem Fr.of_below (h:xB w w'):Fr S w w' :=
 ⟨h.os,h.tape,h.output,h.size,λk hk _=>h.block k hk⟩
end
section
open Go.RowKit
variable {b:Nat} {S:Xj} {e:Xy} {W a w w1:Xw}
theorem Fr.set1 (h:Fr (·=b) a w)(i:Nat)(u:Xv):Fr (·=b) a (w.setCell (xD b i) u):=h.setCell (zM3 rfl) u
theorem zw (h:Below w.drew.heap.size w.drew w1):xB w w1:=⟨h.os,h.tape,h.output,h.size,h.block⟩
theorem Fr.belowed {w':Xw}(h:Fr S a w)(hb:xB w w'):Fr S a w' :=
 h.trans ⟨hb.os,hb.tape,hb.output,hb.size,λk hk _=>hb.block k hk⟩
theorem Fr.setNew (h:Fr S a w)(hb:a.heap.size<=b)(i:Nat)(u:Xv):Fr S a (w.setCell (xD b i) u):=h.setCell (zM4 hb) u
theorem zh (w:Xw)(b i:Nat)(v:Xv){c:Xa}{f:Nat×Nat}(h:w.heap[b]?=some (.cells c e f)):(w.setCell (xD b i) v).heap[b]?=some (.cells (c.setIfInBounds i v) e f):=by simp[World.setCell,Array.getElem?_modify,h]
theorem zoV (hb:xB W w1):(∀b o,b<W.heap.size->w1.cell? (xD b o)=W.cell? (xD b o))/\(∀b o,b<W.heap.size->w1.frozen? (xD b o)=W.frozen? ⟨b,o,none⟩) :=
 ⟨λb o h=>hb.cell (p:=(xD b o)) h,λb o h=>hb.frozen (p:=(xD b o)) h⟩
theorem zrw (h:Fr (·=b) W w1):(∀k o,k<W.heap.size->¬k=b->w1.cell? (xD k o)=W.cell? (xD k o))/\(∀k o,k<W.heap.size->¬k=b->w1.frozen? (xD k o)=W.frozen? ⟨k,o,none⟩) :=
 ⟨λk _ hk hn=>zWS (w:=W) (h.block k hk hn),λk _ hk hn=>World.frozen?_of_block (w:=W) (h.block k hk hn)⟩
theorem zc (w:Xw)(o:Obj):(w.alloc o).heap[w.heap.size]?=some o:=by show (w.heap.push o)[w.heap.size]?=some o;simp
theorem zn {P:Program}{c:Code}{Q:Exit->Act->World->Prop}{a:Act}(Facts:World->Prop)(h:Facts W)(k:∀w9,Facts w9->Code.wp P c Q a w9):Code.wp P c Q a W:=k W h
theorem zr {k i:Nat}{v:Xv}{o:Option Obj}(h:¬k=b)(hh:w.heap[k]?=o):(w.setCell (xD b i) v).heap[k]?=o:=(Below.heap_setCell _ _ _ _ h).trans hh
theorem zb7 {u0 u1 u2 u3:Xv}(h:xH w b #[u0,u1,u2,u3] e)(v0 v1 v2 v3:Xv):((((w.setCell (xD b 0) v0).setCell (xD b 1) v1).setCell (xD b 2) v2).setCell (xD b 3) v3).heap[b]?=some (.cells #[v0,v1,v2,v3] e (0,0)) :=
 zh _ _ _ _ (zh _ _ _ _ (zh _ _ _ _ (zh _ _ _ _ h)))
theorem za {p:Prop}(h:p):Hid p:=h
end
section
variable {s:Xb} {i:Nat} {p:Xh}
def bt (s:Xb)(i:Nat):Nat:=if h:i<s.size then s[i].toNat else 0
theorem ziM (h:i<s.size):s[i].toNat=bt s i:=by unfold bt;rw[dif_pos h]
def zbY (c:Nat):Bool:=c==32||c==10
def zeM (c:Nat):Bool:=decide (97<=c)&&decide (c<=122)
def zT (c:Nat):Bool:=decide (48<=c)&&decide (c<=57)
def inW (c:Nat):Bool:=zeM c||zT c||c==95
def zc0 (p:Xh)(s:Xb):Nat->Nat->Nat
 | 0,i=>i
 | f+1,i=>if i<s.size/\p (bt s i)=true then zc0 p s f (i+1) else i
def zQ (p:Xh)(s:Xb)(i:Nat):Nat:=zc0 p s (s.size-i) i
theorem zd1 (h:i<s.size)(hp:p (bt s i)=true):zQ p s i=zQ p s (i+1):=by
 unfold zQ;obtain⟨m,hm⟩:∃m,s.size-i=m+1:=⟨s.size-i-1,by omega⟩;rw[hm,show s.size-(i+1)=m by omega]
 show (if i<s.size/\p (bt s i)=true then zc0 p s m (i+1) else i)=_;rw[zM2 ⟨h,hp⟩]
theorem zjm (h:s.size<=i):zQ p s i=i:=by unfold zQ;rw[show s.size-i=0 by omega];rfl
theorem zif (hp:p (bt s i)=false):zQ p s i=i:=by
 unfold zQ;cases hm:s.size-i with
 | zero=>rfl
 | succ m => show (if i<s.size/\p (bt s i)=true then zc0 p s m (i+1) else i)=_;rw[zM1 (by rw[hp];simp)]
theorem zjv (p:Xh)(s:Xb):∀f i,i<=zc0 p s f i/\(i<=s.size->zc0 p s f i<=s.size):=by
 intro f;induction f with
 | zero=>intro i;exact⟨zMK _,λh=>h⟩
 | succ f ih =>
   intro i
   show i<=(if i<s.size/\p (bt s i)=true then zc0 p s f (i+1) else i)/\(i<=s.size->(if i<s.size/\p (bt s i)=true then zc0 p s f (i+1) else i)<=s.size);split
   . rename_i h
     have:=ih (i+1);exact⟨by omega,λ_=>this.2 (by omega)⟩
   exact⟨zMK _,λh=>h⟩
theorem zdB (p:Xh)(s:Xb)(i:Nat):i<=zQ p s i:=(zjv p s _ i).1
theorem zcr (p:Xh)(s:Xb)(i:Nat)(h:i<=s.size):zQ p s i<=s.size:=(zjv p s _ i).2 h
structure Tk where
 k:Nat
 a:Nat
 t:Nat
 s:ByteArray
 n:Nat
def zdX:List (List UInt8):=[[110,111,100,101],[118,97,114],[105,110,116],[98,111,111,108],[111,110],[110,111,116],[97,110,100],[111,114],[120,111,114],[105,102],[116,104,101,110],[101,108,115,101],[109,101,114,103,101],[119,104,101,110],[119,104,101,110,111,116],[102,98,121],[116,114,117,101],[102,97,108,115,101]]
def zcW (s:Xb):Bool:=zdX.any λl=>s.toList==l
def zfg (s:Xb)(a:Nat):Tk :=
 let tz:=zQ inW s a
 let x:=s.extract a tz
 ⟨if zcW x then 5 else if tz-a > 12 then 1 else 2,a,tz,x,0⟩
def zdt (s:Xb):Nat->Nat->Bool×Nat->Bool×Nat
 | 0,_,x=>x
 | f+1,i,x=>if i<s.size/\zT (bt s i)=true then
    zdt s f (i+1) (if x.2 > (9223372036854775807-(bt s i-48)) / 10 then (false,x.2) else (x.1,x.2*10+(bt s i-48))) else x
def zgc (s:Xb)(a:Nat):Tk :=
 let x:=zdt s (s.size-a) a (true,0)
 ⟨if x.1 then 3 else 1,a,zQ zT s a,⟨#[48]⟩,x.2⟩
def zfe (c:Nat):Bool:=[40,41,123,125,58,59,44,61,60,43,45,42,47,37].contains c
def zfh (s:Xb)(a:Nat):Tk :=
 if a+2<=s.size/\((s.extract a (a+2)).toList==[45,62]||(s.extract a (a+2)).toList==[60,62]||(s.extract a (a+2)).toList==[60,61])=true then ⟨4,a,a+2,s.extract a (a+2),0⟩
 else if zfe (bt s a) then ⟨4,a,a+1,s.extract a (a+1),0⟩
 else ⟨1,a,a,⟨#[]⟩,0⟩
def zZ (s:Xb)(at':Nat):Tk :=
 let a:=zQ zbY s at'
 if a=s.size then ⟨0,a,a,⟨#[]⟩,0⟩
 else if zeM (bt s a) then zfg s a
 else if zT (bt s a) then zgc s a
 else zfh s a
end
section
open Go.RowKit
theorem zkj (c:Nat)(w:Xw):xK 79 #[.int .u8 c] w λe w'=>e=.returned (.bool (zbY c))/\w=w':=by
 have e1:((c:Int)==32)=(c==32):=by rw[Bool.eq_iff_iff];simp;omega
 have e2:((c:Int)==10)=(c==10):=by rw[Bool.eq_iff_iff];simp;omega
 unfold zbY;rw[<- e1,<- e2];clear e1 e2;go_enter func79,ntmps79;go_wp2;all_goals go_ret
 all_goals simp[*]
theorem zb2 (c:Nat)(w:Xw):xK 80 #[.int .u8 c] w λe w'=>e=.returned (.bool (zeM c))/\w=w':=by
 have e:zeM c=(decide ((97:Int)<=c)&&decide ((c:Int)<=122)):=by unfold zeM;rw[Bool.eq_iff_iff];simp;omega
 rw[e];clear e;go_enter func80,ntmps80;go_wp2;all_goals go_ret
 . exact⟨by rename_i h;simp[h],rfl⟩
 exact⟨by rename_i h;simp;omega,rfl⟩
theorem zcp (c:Nat)(w:Xw):xK 82 #[.int .u8 c] w λe w'=>e=.returned (.bool (zT c))/\w=w':=by
 have e:zT c=(decide ((48:Int)<=c)&&decide ((c:Int)<=57)):=by unfold zT;rw[Bool.eq_iff_iff];simp;omega
 rw[e];clear e;go_enter func82,ntmps82;go_wp2;all_goals go_ret
 . exact⟨by rename_i h;simp[h],rfl⟩
 exact⟨by rename_i h;simp;omega,rfl⟩
theorem zfy (c:Nat)(w:Xw):xK 123 #[.int .u8 c] w λe w'=>e=.returned (.bool (inW c))/\w=w':=by
 have e1:((c:Int)==95)=(c==95):=by rw[Bool.eq_iff_iff];simp;omega
 unfold inW;rw[<- e1];clear e1;cases h1:zeM c with
 | true => go_enter func123,ntmps123;go_wp2_with (go_at_call 80;refine (zb2 c _).mono ?_;rintro e w' ⟨rfl,rfl⟩;rw[h1]);go_ret;simp
 | false =>
   cases h2:zT c with
   | true => go_enter func123,ntmps123;go_wp2_with (first|(go_at_call 80;refine (zb2 c _).mono ?_;rintro e w' ⟨rfl,rfl⟩;rw[h1])|(go_at_call 82;refine (zcp c _).mono ?_;rintro e w' ⟨rfl,rfl⟩;rw[h2]));go_ret;simp
   | false => go_enter func123,ntmps123;go_wp2_with (first|(go_at_call 80;refine (zb2 c _).mono ?_;rintro e w' ⟨rfl,rfl⟩;rw[h1])|(go_at_call 82;refine (zcp c _).mono ?_;rintro e w' ⟨rfl,rfl⟩;rw[h2]));go_ret;simp
theorem zjX (s:Xb):zcW s=(s.toList==[110,111,100,101]||(s.toList==[118,97,114]||(s.toList==[105,110,116]||(s.toList==[98,111,111,108]||(s.toList==[111,110]||(s.toList==[110,111,116]||(s.toList==[97,110,100]||(s.toList==[111,114]||(s.toList==[120,111,114]||(s.toList==[105,102]||(s.toList==[116,104,101,110]||(s.toList==[101,108,115,101]||(s.toList==[109,101,114,103,101]||(s.toList==[119,104,101,110]||(s.toList==[119,104,101,110,111,116]||(s.toList==[102,98,121]||(s.toList==[116,114,117,101]||s.toList==[102,97,108,115,101]))))))))))))))))):=by simp[zcW,zdX]
theorem zd4 (s:Xb)(w:Xw):xK 124 #[.string s] w λe w'=>e=.returned (.bool (zcW s))/\w=w':=by
 rw[zjX];go_enter func124,ntmps124;go_wp2;all_goals go_ret
 all_goals first|(refine⟨?_,rfl⟩;simp[*];done)|(exfalso;simp_all;done)
theorem zdv (f:FuncId)(p:Xh)(hcf:∀(args:Xa) (w:Xw),(callFunc f args).run prog w=.ok (.enter f args) w)(hf:∀(c:Nat) (w:Xw),xK f #[.int .u8 c] w λe w'=>e=.returned (.bool (p c))/\w=w')(s:Xb)(hs:s.size<=1200)(w:Xw) :
 xK 78 #[.string s,.func (.func f) #[] #[]] w λe w'=>e=.returned (xI (zQ p s 0:Nat))/\w=w':=by
 have Hf:Hid (∀(c:Nat) (w:Xw),xK f #[.int .u8 c] w λe w'=>e=.returned (.bool (p c))/\w=w'):=hf;go_enter func78,ntmps78;go_wp2;go_loop [8] (λi=>∃k:Nat,k<=s.size/\i=xI k/\Hid (zQ p s k=zQ p s 0)) (λi=>s.size-(intOf i).toNat)
 case atStart=>exact⟨0,zMN _,rfl,rfl⟩
 case round =>
  obtain⟨k,hk,rfl,HS⟩:=hrel;by_cases hlt:k<s.size
  . have hb:=ziM hlt;obtain⟨c,hc⟩:∃c,bt s k=c:=⟨_,rfl⟩;rw[hc] at hb;cases Hp:p c with
    | true =>
      have H2:Hid (zQ p s (k+1)=zQ p s 0):=(zd1 hlt (by rw[hc];exact Hp)).symm.trans HS.o;go_wp2_with (with_reducible refine (Hf.o c _).mono ?_;rintro e w' ⟨rfl,rfl⟩;rw[Hp]);go_round
      case rel=>exact⟨k+1,by omega,by go_num,H2⟩
      case measure=>simp[intOf];omega
    | false => have H2:Hid (zQ p s 0=k):=HS.o.symm.trans (zif (by rw[hc];exact Hp));go_wp2_with (with_reducible refine (Hf.o c _).mono ?_;rintro e w' ⟨rfl,rfl⟩;rw[Hp]);go_ret;exact⟨by rw[H2.o];rfl,rfl⟩
  have H2:Hid (zQ p s 0=k):=HS.o.symm.trans (zjm (by omega));have Hk2:Hid (k=s.size):=by show k=s.size;omega
  go_wp2;go_ret;exact⟨by rw[H2.o,Hk2.o];rfl,rfl⟩
theorem zlA (args:Xa)(w:Xw):(callFunc 79 args).run prog w=.ok (.enter 79 args) w:=by kernel_rfl
theorem zfM (args:Xa)(w:Xw):(callFunc 123 args).run prog w=.ok (.enter 123 args) w:=by kernel_rfl
theorem zg0 (args:Xa)(w:Xw):(callFunc 82 args).run prog w=.ok (.enter 82 args) w:=by kernel_rfl
def zaw (k:Nat)(s:Xb)(a n:Nat):Value:=.agg #[xI k,.string s,xI a,xI n]
def zhy (s:Xb)(a:Nat):Value :=
 let x:=s.extract 0 (zQ inW s 0)
 if zcW x then zaw 2 x a 0 else if x.size<=12 then zaw 3 x a 0 else zaw 0 ⟨#[]⟩ a 0
theorem znH (s:Xb)(hs:s.size<=1200)(a:Nat)(w:Xw) :
 xK 81 #[.string s,xI a] w λe w'=>e=.returned (zhy s a)/\xB w w':=by
 have h1:=zcr inW s 0 (zMN _);obtain⟨n,hn⟩:∃n,zQ inW s 0=n:=⟨_,rfl⟩;have Hn:=za hn;rw[hn] at h1;have HT:Hid (zhy s a=if zcW (s.extract 0 n) then zaw 2 (s.extract 0 n) a 0 else if n<=12 then zaw 3 (s.extract 0 n) a 0 else zaw 0 ⟨#[]⟩ a 0):=by unfold Hid zhy;simp only[Hn.o,ByteArray.size_extract];rw[show min n s.size-0=n by omega]
 cases hk:zcW (s.extract 0 n) with
 | true => rw[hk,zM2 rfl] at HT;have Hk:=za hk;go_enter func81,ntmps81;go_wp2_with (first|(go_at_call 78;refine (zdv _ inW zfM zfy s hs _).mono ?_;rintro e w' ⟨rfl,rfl⟩;rw[Hn.o])|(go_at_call 124;refine (zd4 _ _).mono ?_;rintro e w' ⟨rfl,rfl⟩;rw[Hk.o]));refine zWR (v:=zaw 2 (s.extract 0 n) a 0) (by simp[results,results81,go_sem,zaw]) rfl ⟨by rw[HT.o],(zWQ _ _).alloc (zMK _) _⟩
 | false =>
   rw[hk,zM1 (by simp)] at HT;have Hk:=za hk;by_cases hn:n<=12
   . rw[zM2 hn] at HT;go_enter func81,ntmps81;go_wp2_with (first|(go_at_call 78;refine (zdv _ inW zfM zfy s hs _).mono ?_;rintro e w' ⟨rfl,rfl⟩;rw[Hn.o])|(go_at_call 124;refine (zd4 _ _).mono ?_;rintro e w' ⟨rfl,rfl⟩;rw[Hk.o]));refine zWR (v:=zaw 3 (s.extract 0 n) a 0) (by simp[results,results81,go_sem,zaw]) rfl ⟨by rw[HT.o],(zWQ _ _).alloc (zMK _) _⟩
   rw[zM1 hn] at HT;go_enter func81,ntmps81;go_wp2_with (first|(go_at_call 78;refine (zdv _ inW zfM zfy s hs _).mono ?_;rintro e w' ⟨rfl,rfl⟩;rw[Hn.o])|(go_at_call 124;refine (zd4 _ _).mono ?_;rintro e w' ⟨rfl,rfl⟩;rw[Hk.o]));refine zWR (v:=zaw 0 ⟨#[]⟩ a 0) (by simp[results,results81,go_sem,zaw]) rfl ⟨by rw[HT.o],(zWQ _ _).alloc (zMK _) _⟩
end
section
structure Ex where
 op:ByteArray
 a:Nat
 nm:Nat
 ins:List Nat
 s:ByteArray
 n:Nat
structure St where
 src:ByteArray
 t:Tk
 op:Nat
 er:Nat
 at':Nat
 L:List Ex
def St.bad (st:St):St:={ st with t:=⟨1,st.t.a,st.t.t,⟨#[]⟩,0⟩ }
def St.fail (st:St)(e a:Nat):St:=if st.er=0 then { st with er:=e,at':=a,t:=⟨1,st.t.a,st.t.t,⟨#[]⟩,0⟩ } else { st with t:=⟨1,st.t.a,st.t.t,⟨#[]⟩,0⟩ }
def St.step (st:St):St:=if st.er=0 then { st with t:=zZ st.src st.t.t } else st
def St.is (st:St)(k:Nat)(l:Xu):Bool:=st.t.k==k&&st.t.s.toList==l
def St.must (st:St)(k:Nat)(l:Xu):St:=if st.is k l=true then st.step else st.fail 2 st.t.a
def St.name (st:St):St:=if st.t.k=2 then st.step else st.fail 2 st.t.a
def St.enter (st:St):St:=if 16<st.op+1 then ({ st with op:=st.op+1 }:St).fail 3 st.t.a else ({ st with op:=st.op+1 }:St).step
def St.leave (st:St):St:={ st with op:=st.op-1 }
def St.add (st:St)(e:Ex):St:={ st with L:=st.L++[e] }
structure St.Ok (st:St):Prop where
 src:st.src.size<=1200
 tt:st.t.t<=st.src.size
 ta:st.t.a<=st.t.t
 tn:st.t.n<=9223372036854775807
 op:st.op<=100
 er:st.er<=11
 at':st.at'<=1200
 tk:st.t.k<=5
theorem zpH (s:Xb):∀f i (x:Bool×Nat),x.2<=9223372036854775807->(zdt s f i x).2<=9223372036854775807:=by
 intro f;induction f with
 | zero=>intro i x h;exact h
 | succ f ih =>
   intro i x h
   show (if i<s.size/\zT (bt s i)=true then _ else x).2<=_;split
   . apply ih
     rename_i hd
     have hd2:bt s i-48<=9:=(by have:=hd.2;simp[zT] at this;omega);split
     . exact h
     show x.2*10+(bt s i-48)<=_;omega
   exact h
theorem zV (s:Xb)(p:Nat)(hp:p<=s.size):p<=(zZ s p).a/\(zZ s p).a<=(zZ s p).t/\(zZ s p).t<=s.size/\(zZ s p).n<=9223372036854775807/\(zZ s p).k<=5/\(2<=(zZ s p).k->(zZ s p).a<(zZ s p).t):=by
 have h1:=zdB zbY s p;have h2:=zcr zbY s p hp;unfold zZ;simp only;generalize zQ zbY s p=a at *;split
 . refine⟨h1,zMK _,h2,by simp,by simp,λh=>?_⟩;simp only at h;omega
 rename_i hne
 have hlt:a<s.size:=by omega
 split
 . rename_i hl
   have h3:a+1<=zQ inW s a:=(by rw[zd1 hlt (by simp[inW,hl])];exact zdB _ _ _);have h4:=zcr inW s a h2;unfold zfg;simp only;refine⟨h1,by omega,h4,by simp,?_,λ_=>by omega⟩;split;omega;split <;> omega
 split
 . rename_i hd
   have h3:a+1<=zQ zT s a:=(by rw[zd1 hlt hd];exact zdB _ _ _);have h4:=zcr zT s a h2;unfold zgc;simp only;refine⟨h1,by omega,h4,zpH _ _ _ _ (by simp),?_,λ_=>by omega⟩;split <;> omega
 unfold zfh;split
 . rename_i h;exact⟨h1,by simp only;omega,h.1,by simp,by simp,λ_=>by simp only;omega⟩
 split
 . exact⟨h1,by simp only;omega,by simp only;omega,by simp,by simp,λ_=>by simp only;omega⟩
 exact⟨h1,zMK _,h2,by simp,by simp,λh=>by simp only at h;omega⟩
theorem St.Ok.fail {st:St}(h:st.Ok){e a:Nat}(he:e<=11)(ha:a<=1200):(st.fail e a).Ok:=by
 have h0:=h.src;have h1:=h.tt;have h2:=h.ta;have h3:=h.tn;have h4:=h.op;have h5:=h.er;have h6:=h.at';have h7:=h.tk;unfold St.fail;split
 . exact⟨h0,h1,h2,by simp,h4,he,ha,by simp⟩
 exact⟨h0,h1,h2,by simp,h4,h5,h6,by simp⟩
theorem St.Ok.step {st:St}(h:st.Ok):st.step.Ok:=by
 unfold St.step;split
 . obtain⟨h1,h2,h3,h4,h5,h6⟩:=zV st.src st.t.t h.tt;exact⟨h.src,h3,h2,h4,h.op,h.er,h.at',h5⟩
 exact h
theorem St.Ok.ta_le {st:St}(h:st.Ok):st.t.a<=1200:=zMO h.ta (zMO h.tt h.src)
theorem St.Ok.opened {st:St}(h:st.Ok)(o:st.op<100):({ st with op:=st.op+1 }:St).Ok:=⟨h.src,h.tt,h.ta,h.tn,by simp only;omega,h.er,h.at',h.tk⟩
theorem St.Ok.enter {st:St}(h:st.Ok)(o:st.op<100):st.enter.Ok:=by
 unfold St.enter;split
 . exact (h.opened o).fail (by omega) h.ta_le
 exact (h.opened o).step
theorem St.Ok.leave {st:St}(h:st.Ok):st.leave.Ok:=⟨h.src,h.tt,h.ta,h.tn,by unfold St.leave;simp only;have:=h.op;omega,h.er,h.at',h.tk⟩
theorem St.Ok.add {st:St}(h:st.Ok)(e:Ex):(st.add e).Ok:=⟨h.src,h.tt,h.ta,h.tn,h.op,h.er,h.at',h.tk⟩
abbrev Fn:=St->St×Nat
def sE:ByteArray:=⟨#[]⟩
def St.put (st:St)(e:Ex):St×Nat:=(st.add e,st.L.length)
def zco (t:Tk)(n:Nat):Bool :=
 if t.k≠4/\t.k≠5 then false
 else if t.s.toList=[111,114]∨t.s.toList=[120,111,114] then n==0
 else if t.s.toList=[97,110,100] then n==1
 else if t.s.toList=[43]∨t.s.toList=[45] then n==2
 else if t.s.toList=[42]∨t.s.toList=[47]∨t.s.toList=[37] then n==3
 else false
def zdq (lev:Nat)(part:Fn):Nat->St×Nat->St×Nat
 | 0,x=>x
 | f+1,x=>if x.1.er=0/\zco x.1.t lev=true then
    zdq lev part f ((part x.1.step).1.put ⟨x.1.t.s,x.1.t.a,0,[x.2,(part x.1.step).2],sE,0⟩) else x
def zcT (lev:Nat)(part:Fn):Fn:=λst=>zdq lev part 1300 (part st)
def zcn (t:Tk):Bool:=t.k==4&&(t.s.toList==[61]||t.s.toList==[60,62]||t.s.toList==[60]||t.s.toList==[60,61])
def zdJ (sum:Fn):Fn:=λst =>
 let x:=sum st
 if x.1.er=0/\zcn x.1.t=true then (sum x.1.step).1.put ⟨x.1.t.s,x.1.t.a,0,[x.2,(sum x.1.step).2],sE,0⟩ else x
def zlo:ByteArray:=⟨#[110,101,103]⟩
def zk5:ByteArray:=⟨#[110,111,116]⟩
def zdn (ru smp:Fn):Fn:=λst =>
 if st.er=0/\(st.is 4 [45]||st.is 5 [110,111,116])=true then
  (ru st.enter).1.leave.put ⟨if st.is 4 [45]=true then zlo else zk5,st.t.a,0,[(ru st.enter).2],sE,0⟩
 else smp st
def zdi (st:St):Bool:=st.is 5 [119,104,101,110]||st.is 5 [119,104,101,110,111,116]
def zaY:Nat->St×Nat->St×Nat
 | 0,x=>x
 | f+1,x=>if x.1.er=0/\zdi x.1=true then
    zaY f (x.1.step.name.put ⟨x.1.t.s,x.1.t.a,x.1.step.t.a,[x.2],x.1.step.t.s,0⟩) else x
def zfu (atm:Fn):Fn:=λst=>zaY 1300 (atm st)
def zdP (op:Xb)(n:Nat):Fn:=λst=>st.step.put ⟨op,st.t.a,0,[],sE,n⟩
def zfR:ByteArray:=⟨#[118,97,114]⟩
def zef:ByteArray:=⟨#[99,97,108,108]⟩
def zcq:ByteArray:=⟨#[110,117,109,98,101,114]⟩
def zcb:ByteArray:=⟨#[98,111,111,108]⟩
def sIf:ByteArray:=⟨#[105,102]⟩
def zep:ByteArray:=⟨#[109,101,114,103,101]⟩
def zgW:ByteArray:=⟨#[102,98,121]⟩
def zc1 (rx:Fn):Nat->St×List Nat->St×List Nat
 | 0,x=>x
 | f+1,x=>if x.1.er=0/\x.1.is 4 [44]=true then zc1 rx f ((rx x.1.step).1,x.2++[(rx x.1.step).2]) else x
def zbG (rx:Fn)(st:St):St×List Nat:=zc1 rx 1300 ((rx st).1,[(rx st).2])
def zao (rx:Fn)(t:Tk):Fn:=λst =>
 if st.is 4 [40]=true then
  let x:=zbG rx st.enter
  (x.1.must 4 [41]).leave.put ⟨zef,t.a,t.a,x.2,t.s,0⟩
 else (st.fail 2 st.t.a,0)
def zdx (rx:Fn):Fn:=λst =>
 let c:=rx st.enter
 let a:=rx (c.1.must 5 [116,104,101,110])
 let b:=rx (a.1.must 5 [101,108,115,101])
 b.1.leave.put ⟨sIf,st.t.a,0,[c.2,a.2,b.2],sE,0⟩
def zjx:Fn:=λst=>st.step.put ⟨zfR,st.t.a,st.t.a,[],st.t.s,0⟩
def zch (atm:Fn):Fn:=λst=>if st.er≠0∨st.t.k≠2 then atm st else zjx st
def zeE (atm:Fn):Fn:=λst =>
 let c:=st.enter.t
 let a:=zch atm st.enter.name
 let b:=zch atm a.1
 b.1.leave.put ⟨zep,st.t.a,c.a,[a.2,b.2],c.s,0⟩
def zfQ (rx:Fn):Fn:=λst=>(((rx st.enter).1.must 4 [41]).leave,(rx st.enter).2)
def zap (rx ra:Fn):Fn:=λst =>
 if st.er≠0 then (st,0)
 else if st.t.k=3 then zdP zcq st.t.n st
 else if st.t.k=2 then (if st.step.is 4 [40]=true then zao rx st.t st.step else zjx st)
 else if st.is 4 [40]=true then zfQ rx st
 else if st.is 5 [116,114,117,101]=true then zdP zcb 1 st
 else if st.is 5 [102,97,108,115,101]=true then zdP zcb 0 st
 else if st.is 5 [105,102]=true then zdx rx st
 else if st.is 5 [109,101,114,103,101]=true then zeE ra st
 else (st.fail 2 st.t.a,0)
def zgk (rx eith:Fn):Fn:=λst =>
 let x:=eith st
 if x.1.er=0/\x.1.is 5 [102,98,121]=true then
  (rx x.1.enter).1.leave.put ⟨zgW,x.1.t.a,0,[x.2,(rx x.1.enter).2],sE,0⟩
 else x
structure Lev where
 ex:Fn
 un:Fn
 at':Fn
def lev:Nat->Lev
 | 0=>⟨λst=>(st,0),λst=>(st,0),λst=>(st,0)⟩
 | d+1 =>
   let a:=zap (lev d).ex (lev d).at'
   let u:=zdn (lev d).un (zfu a)
   ⟨zgk (lev d).ex (zcT 0 (zcT 1 (zdJ (zcT 2 (zcT 3 u))))),u,a⟩
structure Inv (p:Nat) (st:St):Prop where
 ok:st.Ok
 pot:st.L.length+p<=st.t.a+(if st.er=0 then 0 else 1)
 op1:st.op<=17
 op0:st.er=0->st.op<=16
 bad:st.er≠0->st.t.k=1
 tok:2<=st.t.k->st.t.a<st.t.t
structure zaN (M:Fn) (st:St) (p:Nat):Prop where
 inv:Inv p (M st).1
 op:(M st).1.op=st.op
 src:(M st).1.src=st.src
 ta:st.t.a<=(M st).1.t.a
 L:∃E,(M st).1.L=st.L++E
 er:st.er≠0->M st=(st,(M st).2)
 num:(M st).1.er=0->(M st).2<(M st).1.L.length
theorem St.step_L (st:St):st.step.L=st.L:=by unfold St.step;split <;> rfl
theorem St.fail_L (st:St)(e a:Nat):(st.fail e a).L=st.L:=by unfold St.fail;split <;> rfl
theorem St.must_L (st:St)(k:Nat)(l:Xu):(st.must k l).L=st.L:=by unfold St.must;split;exact st.step_L;exact st.fail_L _ _
theorem St.name_L (st:St):st.name.L=st.L:=by unfold St.name;split;exact st.step_L;exact st.fail_L _ _
theorem St.enter_L (st:St):st.enter.L=st.L:=by unfold St.enter;split;exact St.fail_L _ _ _;exact St.step_L _
end
section
open Go.RowKit
variable {s:Xb} {l:Xu} {pb:Nat} {S:Xs} {T:Xj} {st:St} {w w':Xw}
def ck (t:Tk):Nat:=if t.k=0 then 1 else if t.k=1 then 0 else if t.k=2 then 3 else if t.k=3 then 4 else 2
def cs (src:Xb)(t:Tk):ByteArray:=if t.k=3 then src.extract t.a t.t else if 2<=t.k then t.s else ⟨#[]⟩
def cn (t:Tk):Nat:=if t.k=3 then t.n else 0
def zcY:List ByteArray:=[⟨#[]⟩,⟨#[116,114,117,101]⟩,⟨#[102,97,108,115,101]⟩,⟨#[]⟩,⟨#[]⟩,⟨#[105,102]⟩,⟨#[109,101,114,103,101]⟩,⟨#[119,104,101,110]⟩,⟨#[119,104,101,110,111,116]⟩,⟨#[102,98,121]⟩,⟨#[45]⟩,⟨#[110,111,116]⟩,⟨#[97,110,100]⟩,⟨#[111,114]⟩,⟨#[120,111,114]⟩,⟨#[61]⟩,⟨#[60,62]⟩,⟨#[60]⟩,⟨#[60,61]⟩,⟨#[43]⟩,⟨#[45]⟩,⟨#[42]⟩,⟨#[47]⟩,⟨#[37]⟩]
def sen (S:Xs)(e:Nat):Value:=.iface 290 (.pointer (some (S e)))
structure Gl (S:Xs) (w:Xw):Prop where
 long:xC w 0 0 (sen S 1)
 syn:xC w 8 0 (sen S 2)
 deep:xC w 9 0 (sen S 3)
 name:xC w 1 0 (sen S 4)
 type:xC w 2 0 (sen S 5)
 clock:xC w 3 0 (sen S 6)
 define:xC w 4 0 (sen S 7)
 cause:xC w 5 0 (sen S 8)
 limit:xC w 6 0 (sen S 9)
 image:xC w 10 0 (sen S 10)
 input:xC w 12 0 (sen S 11)
 range:xC w 15 0 (sen S 12)
 words:∀i s,zcY[i]?=some s->xC w 17 i (.string s)
 size:21<=w.heap.size
theorem Gl.of (h:Gl S w)(hf:Fr T w w')(hT:∀k,T k->21<=k):Gl S w':=by
 have hc:∀k o,k<21->w'.cell? (xD k o)=w.cell? ⟨k,o,none⟩:=λk o hk =>
  zWS (w:=w) (hf.block k (zM9 hk h.size) (λht=>by have:=hT k ht;omega))
 exact⟨(hc _ _ (by decide)).trans h.long,(hc _ _ (by decide)).trans h.syn,(hc _ _ (by decide)).trans h.deep,(hc _ _ (by decide)).trans h.name,(hc _ _ (by decide)).trans h.type,(hc _ _ (by decide)).trans h.clock,(hc _ _ (by decide)).trans h.define,(hc _ _ (by decide)).trans h.cause,(hc _ _ (by decide)).trans h.limit,(hc _ _ (by decide)).trans h.image,(hc _ _ (by decide)).trans h.input,(hc _ _ (by decide)).trans h.range,
  λi s hs=>(hc _ _ (by decide)).trans (h.words i s hs),zMO h.size hf.size⟩
def za2 (S:Xs)(er a:Nat):Value:=if er=0 then .nilIface else .iface 59 (.agg #[sen S er,xI a])
def zgL (S:Xs)(st:St):Obj:=.cells #[.string st.src,xI (ck st.t),.string (cs st.src st.t),xI st.t.a,xI (cn st.t),xI st.op,za2 S st.er st.at'] 124 (0,0)
structure Tx (src:Xb) (t:Tk):Prop where
 text:t.k=2∨4<=t.k->t.s=src.extract t.a t.t
 kw:t.k=5->zcW t.s=true
 sg:t.k=4->zcW t.s=false
theorem zl7 (src:Xb)(a t:Nat):Tx src ⟨1,a,t,⟨#[]⟩,0⟩:=⟨λh=>by rcases h with h|h <;> simp at h,λh=>by simp at h,λh=>by simp at h⟩
theorem zoS (h:(s.toList==[45,62]||s.toList==[60,62]||s.toList==[60,61])=true):zcW s=false:=by simp only[Bool.or_eq_true,beq_iff_eq] at h;unfold zcW;rcases h with (h|h)|h <;> (rw[h];decide)
theorem zon (h:s.toList.length<=1):zcW s=false:=by
 unfold zcW;generalize s.toList=l at h
 match l,h with
 | [],_=>decide
 | [x],_=>simp[zdX]
theorem zd7 (s:Xb):s.toList.length=s.size:=by rw[ByteArray.toList_eq];exact Array.length_toList
theorem zkH (src:Xb)(p:Nat):Tx src (zZ src p):=by
 unfold zZ;simp only;split
 . exact⟨λh=>by simp at h,λh=>by simp at h,λh=>by simp at h⟩
 split
 . unfold zfg;simp only;refine⟨λ_=>rfl,λh=>?_,λh=>?_⟩
   . simp only at h ⊢;split at h
     . assumption
     split at h <;> simp at h
   simp only at h;split at h
   . simp at h
   split at h <;> simp at h
 split
 . unfold zgc;simp only;refine⟨λh=>?_,λh=>?_,λh=>?_⟩ <;> (simp only at h;split at h <;> simp at h)
 unfold zfh;split
 . rename_i h1
   exact⟨λ_=>rfl,λh=>by simp at h,λ_=>zoS h1.2⟩
 split
 . refine⟨λ_=>rfl,λh=>by simp at h,λ_=>zon ?_⟩;rw[zd7,ByteArray.size_extract];omega
 exact⟨λh=>by simp at h,λh=>by simp at h,λh=>by simp at h⟩
theorem zrl {src:Xb}{t:Tk}(h:Tx src t):cs src t=if 2<=t.k then src.extract t.a t.t else ⟨#[]⟩:=by
 unfold cs;split
 . rename_i h1;rw[zM2 (by omega)]
 split
 . rename_i h1 h2
   exact h.text (by omega)
 rfl
def St.atB (st:St)(l:Xu):Bool:=(st.t.k==4||st.t.k==5)&&st.t.s.toList==l
theorem zqP (hk:st.t.k<=5)(l:Xu):(ck st.t==2&&(cs st.src st.t).toList==l)=st.atB l:=by
 unfold St.atB ck cs;rcases Nat.lt_or_ge st.t.k 4 with h|h
 . have:st.t.k=0∨st.t.k=1∨st.t.k=2∨st.t.k=3:=by omega
   rcases this with h|h|h|h <;> simp[h]
 have:st.t.k=4∨st.t.k=5:=by omega
 rcases this with h|h <;> simp[h]
theorem zo2 (h:s.toList=l):zcW s=zdX.any λx=>l==x:=by subst h;rfl
theorem zaB (hT:Tx st.src st.t)(hl:(zdX.any λx=>l==x)=false):st.atB l=st.is 4 l:=by
 unfold St.atB St.is;by_cases h5:st.t.k=5
 . have h:=hT.kw h5;by_cases hs:st.t.s.toList=l
   . rw[zo2 hs,hl] at h;cases h
   simp[h5,hs]
 have:(st.t.k==5)=false:=by simp[h5]
 rw[this,Bool.or_false]
theorem zar (hT:Tx st.src st.t)(hl:(zdX.any λx=>l==x)=true):st.atB l=st.is 5 l:=by
 unfold St.atB St.is;by_cases h4:st.t.k=4
 . have h:=hT.sg h4;by_cases hs:st.t.s.toList=l
   . rw[zo2 hs,hl] at h;cases h
   simp[h4,hs]
 have:(st.t.k==4)=false:=by simp[h4]
 rw[this,Bool.false_or]
structure PL (S:Xs) (w:Xw) (pb:Nat) (st:St):Prop where
 tx:Tx st.src st.t
 heap:w.heap[pb]?=some (zgL S st)
 gl:Gl S w
 pb:21<=pb
theorem PL.cells (h:PL S w pb st) :
 w.cell? (xD pb 0)=some (.string st.src)/\w.cell? (xD pb 1)=some (xI (ck st.t))/\w.cell? (xD pb 2)=some (.string (cs st.src st.t))/\w.cell? (xD pb 3)=some (xI st.t.a) /\
 w.cell? (xD pb 4)=some (xI (cn st.t))/\w.cell? (xD pb 5)=some (xI st.op)/\w.cell? (xD pb 6)=some (za2 S st.er st.at'):=by
 have:=h.heap;simp[World.cell?,this,zgL]
theorem PL.frozen (h:PL S w pb st)(i:Nat):w.frozen? (xD pb i)=false:=by have:=h.heap;simp[World.frozen?,this,zgL]
theorem PL.lt (h:PL S w pb st):pb<w.heap.size:=by
 have h':=h.heap;rcases Nat.lt_or_ge pb w.heap.size with h1|h1
 . exact h1
 rw[Array.getElem?_eq_none h1] at h';cases h'
theorem PL.drew (h:PL S w pb st):PL S w.drew pb st:=⟨h.tx,h.heap,h.gl.of (Fr.refl (·=pb) w).drew (λ_ hk=>hk▸h.pb),h.pb⟩
theorem PL.fr (h:PL S w pb st)(hf:Fr T w w')(hT:∀k,T k->pb<k):PL S w' pb st :=
 ⟨h.tx,(hf.block pb h.lt (λht=>by have:=hT _ ht;omega)).trans h.heap,h.gl.of hf (λk hk=>by have:=hT k hk;have:=h.pb;omega),h.pb⟩
theorem PL.alloc (h:PL S w pb st)(o:Obj):PL S (w.alloc o) pb st :=
 h.fr (T:=λ_=>False) ((Fr.refl _ w).alloc o) (λ_ hk=>hk.elim)
theorem PL.below (h:PL S w pb st)(hb:xB w w'):PL S w' pb st :=
 h.fr (T:=λ_=>False) (Fr.of_below hb) (λ_ hk=>hk.elim)
theorem PL.setOther (h:PL S w pb st){b:Nat}(hb:pb<b)(i:Nat)(u:Xv):PL S (w.setCell (xD b i) u) pb st :=
 h.fr (T:=(·=b)) ((Fr.refl _ w).set1 i u) (λ_ hk=>hk▸hb)
theorem PL.setTok (h:PL S w pb st)(t:Tk)(ht:Tx st.src t):PL S (((((w.setCell (xD pb 1) (xI (ck t))).setCell (xD pb 2) (.string (cs st.src t))).setCell (xD pb 3) (xI t.a)).setCell (xD pb 4) (xI (cn t)))) pb { st with t:=t }:=by have h0:xH w pb #[.string st.src,xI (ck st.t),.string (cs st.src st.t),xI st.t.a,xI (cn st.t),xI st.op,za2 S st.er st.at'] 124:=h.heap;have h1:(w.setCell (xD pb 1) (xI (ck t))).heap[pb]?=some (.cells #[.string st.src,xI (ck t),.string (cs st.src st.t),xI st.t.a,xI (cn st.t),xI st.op,za2 S st.er st.at'] 124 (0,0)):=zh _ _ _ _ h0;have h2:((w.setCell (xD pb 1) (xI (ck t))).setCell (xD pb 2) (.string (cs st.src t))).heap[pb]?=some (.cells #[.string st.src,xI (ck t),.string (cs st.src t),xI st.t.a,xI (cn st.t),xI st.op,za2 S st.er st.at'] 124 (0,0)):=zh _ _ _ _ h1;have h3:(((w.setCell (xD pb 1) (xI (ck t))).setCell (xD pb 2) (.string (cs st.src t))).setCell (xD pb 3) (xI t.a)).heap[pb]?=some (.cells #[.string st.src,xI (ck t),.string (cs st.src t),xI t.a,xI (cn st.t),xI st.op,za2 S st.er st.at'] 124 (0,0)):=zh _ _ _ _ h2;have h4:((((w.setCell (xD pb 1) (xI (ck t))).setCell (xD pb 2) (.string (cs st.src t))).setCell (xD pb 3) (xI t.a)).setCell (xD pb 4) (xI (cn t))).heap[pb]?=some (.cells #[.string st.src,xI (ck t),.string (cs st.src t),xI t.a,xI (cn t),xI st.op,za2 S st.er st.at'] 124 (0,0)):=zh _ _ _ _ h3;exact⟨ht,h4,h.gl.of (T:=(·=pb)) (((((Fr.refl _ w).set1 _ _).set1 _ _).set1 _ _).set1 _ _) (λ_ hk=>hk▸h.pb),h.pb⟩
theorem PL.setErr (h:PL S w pb st)(e a:Nat):PL S ((w.setCell (xD pb 6) (za2 S e a))) pb { st with er:=e,at':=a }:=by have h0:xH w pb #[.string st.src,xI (ck st.t),.string (cs st.src st.t),xI st.t.a,xI (cn st.t),xI st.op,za2 S st.er st.at'] 124:=h.heap;have h1:xH (w.setCell (xD pb 6) (za2 S e a)) pb #[.string st.src,xI (ck st.t),.string (cs st.src st.t),xI st.t.a,xI (cn st.t),xI st.op,za2 S e a] 124:=zh _ _ _ _ h0;exact⟨h.tx,h1,h.gl.of (T:=(·=pb)) ((Fr.refl _ w).set1 _ _) (λ_ hk=>hk▸h.pb),h.pb⟩
theorem PL.setOp (h:PL S w pb st)(o:Nat):PL S ((w.setCell (xD pb 5) (xI (o:Nat)))) pb { st with op:=o }:=by have h0:xH w pb #[.string st.src,xI (ck st.t),.string (cs st.src st.t),xI st.t.a,xI (cn st.t),xI st.op,za2 S st.er st.at'] 124:=h.heap;have h1:(w.setCell (xD pb 5) (xI (o:Nat))).heap[pb]?=some (.cells #[.string st.src,xI (ck st.t),.string (cs st.src st.t),xI st.t.a,xI (cn st.t),xI o,za2 S st.er st.at'] 124 (0,0)):=zh _ _ _ _ h0;exact⟨h.tx,h1,h.gl.of (T:=(·=pb)) ((Fr.refl _ w).set1 _ _) (λ_ hk=>hk▸h.pb),h.pb⟩
end
section
theorem zbN (s:Xb)(a:Nat)(ha:a<=s.size):(s.extract a s.size).size=s.size-a:=by rw[ByteArray.size_extract];omega
theorem zfd (s:Xb)(a i:Nat)(ha:a<=s.size):bt (s.extract a s.size) i=bt s (a+i):=by
 unfold bt;by_cases h:i<s.size-a
 . rw[dif_pos (by rw[zbN s a ha];exact h),dif_pos (by omega)];congr 1;rw[ByteArray.getElem_extract]
 rw[dif_neg (by rw[zbN s a ha];exact h),dif_neg (by omega)]
theorem zlm (p:Xh)(s:Xb)(a:Nat)(ha:a<=s.size):∀f i,zc0 p (s.extract a s.size) f i+a=zc0 p s f (a+i):=by
 intro f;induction f with
 | zero=>intro i;show i+a=a+i;omega
 | succ f ih =>
   intro i
   show (if i<(s.extract a s.size).size/\p (bt (s.extract a s.size) i)=true then zc0 p (s.extract a s.size) f (i+1) else i)+a=(if a+i<s.size/\p (bt s (a+i))=true then zc0 p s f (a+i+1) else a+i);rw[zbN s a ha,zfd s a i ha];by_cases h:i<s.size-a/\p (bt s (a+i))=true
   . rw[zM2 h,zM2 ⟨by omega,h.2⟩,ih (i+1)];rfl
   rw[zM1 h,zM1 (λh2=>h ⟨by omega,h2.2⟩)];omega
theorem zf3 (p:Xh)(s:Xb)(a:Nat)(ha:a<=s.size):zQ p (s.extract a s.size) 0+a=zQ p s a:=by unfold zQ;rw[zbN s a ha];have:=zlm p s a ha (s.size-a-0) 0;simpa using this
theorem zcL (s:Xb)(a n:Nat)(h:a+n<=s.size):(s.extract a s.size).extract 0 n=s.extract a (a+n):=by rw[ByteArray.extract_extract];congr 1;omega
def zdm:List UInt8->Bool×Nat->Bool×Nat
 | [],x=>x
 | c::r,x=>zdm r (if x.2 > (9223372036854775807-(c.toNat-48)) / 10 then (false,x.2) else (x.1,x.2*10+(c.toNat-48)))
theorem zlP:∀(l:Xu) (n:Nat),(zdm l (false,n)).1=false:=by
 intro l;induction l with
 | nil=>intro n;rfl
 | cons c r ih =>
   intro n
   show (zdm r (if n > (9223372036854775807-(c.toNat-48)) / 10 then (false,n) else (false,n*10+(c.toNat-48)))).1=false;split <;> exact ih _
def zfi (l:Xu):Prop:=∀c∈l,48<=c.toNat/\c.toNat<=57
theorem znD (M:Nat):∀(l:Xu) (acc:Nat),zfi l->Lib.parseUintM M acc l=.range∨∃u,Lib.parseUintM M acc l=.ok u/\acc<=u:=by
 intro l;induction l with
 | nil=>intro acc _;exact zM4 ⟨acc,rfl,zMK _⟩
 | cons c r ih =>
   intro acc h;have hc:=h c (by simp);have hr:zfi r:=λx hx=>h x (by simp[hx]);have e2:Lib.parseUintM M acc (c::r)=if 1844674407370955162<=acc then .range else if M<acc*10+(c.toNat-48) then .range else Lib.parseUintM M (acc*10+(c.toNat-48)) r:=(by rw[Lib.parseUintM,zM2 hc]);rw[e2];split
   . exact zM3 rfl
   split
   . exact zM3 rfl
   rcases ih (acc*10+(c.toNat-48)) hr with h1|⟨u,h1,h2⟩
   . exact zM3 h1
   exact zM4 ⟨u,h1,by omega⟩
theorem zqR:∀(l:Xu) (acc:Nat),zfi l->acc<=9223372036854775807 ->
 ((zdm l (true,acc)).1=true->Lib.parseUintM 18446744073709551615 acc l=.ok (zdm l (true,acc)).2/\(zdm l (true,acc)).2<=9223372036854775807) /\
 ((zdm l (true,acc)).1=false->Lib.parseUintM 18446744073709551615 acc l=.range∨∃u,Lib.parseUintM 18446744073709551615 acc l=.ok u/\9223372036854775807<u):=by
 intro l;induction l with
 | nil=>intro acc _ ha;exact⟨λ_=>⟨rfl,ha⟩,λh=>by cases h⟩
 | cons c r ih =>
   intro acc h ha;have hc:=h c (by simp);have hr:zfi r:=λx hx=>h x (by simp[hx]);have e1:zdm (c::r) (true,acc)=zdm r (if acc > (9223372036854775807-(c.toNat-48)) / 10 then (false,acc) else (true,acc*10+(c.toNat-48))):=rfl;have e2:Lib.parseUintM 18446744073709551615 acc (c::r)=if 1844674407370955162<=acc then .range else if 18446744073709551615<acc*10+(c.toNat-48) then .range else Lib.parseUintM 18446744073709551615 (acc*10+(c.toNat-48)) r:=(by rw[Lib.parseUintM,zM2 hc]);rw[e1,e2];by_cases hov:acc > (9223372036854775807-(c.toNat-48)) / 10
   . rw[zM2 hov];refine⟨λh1=>?_,λ_=>?_⟩
     . rw[zlP] at h1;cases h1
     split
     . exact zM3 rfl
     split
     . exact zM3 rfl
     rcases znD 18446744073709551615 r (acc*10+(c.toNat-48)) hr with h1|⟨u,h1,h2⟩
     . exact zM3 h1
     exact zM4 ⟨u,h1,by omega⟩
   rw[zM1 hov];have hb:acc*10+(c.toNat-48)<=9223372036854775807:=(by omega);rw[zM1 (by omega),zM1 (by omega)];exact ih _ hr hb
theorem zqC (l:Xu)(h:zfi l)(hne:l≠[]):Lib.parseIntB 64 l=if (zdm l (true,0)).1=true then .ok ((zdm l (true,0)).2:Int) else .range:=by
 obtain⟨c,r,rfl⟩:=List.exists_cons_of_ne_nil hne;have hc:=h c (by simp);have hp:=zqR (c::r) 0 h (by omega);have hu:Lib.parseUintB 64 (if c.toNat=43∨c.toNat=45 then r else c::r)=Lib.parseUintM 18446744073709551615 0 (c::r):=by rw[zM1 (by omega)];unfold Lib.parseUintB;rw[zM1 (by simp)]
 unfold Lib.parseIntB;simp only;rw[hu];cases hb:(zdm (c::r) (true,0)).1 with
 | true => obtain⟨h1,h2⟩:=hp.1 hb;rw[h1];simp only;rw[zM1 (by omega),zM1 (by omega),zM1 (by omega)];simp
 | false =>
   rw[zM1 (by simp)];rcases hp.2 hb with h1|⟨u,h1,h2⟩
   . rw[h1]
   rw[h1];simp only;rw[zM2 ⟨by omega,by omega⟩]
def zcS (s:Xb)(i e:Nat):List UInt8:=(s.extract i e).data.toList
theorem zga (s:Xb)(i e:Nat)(hi:i<e)(he:e<=s.size):zcS s i e=s[i]'(by omega)::zcS s (i+1) e:=by unfold zcS;have hz:s.data.size=s.size:=rfl;rw[ByteArray.data_extract,ByteArray.data_extract,Array.toList_extract,Array.toList_extract,List.extract_eq_take_drop,List.extract_eq_take_drop];rw[zMT (by rw[Array.length_toList,hz];omega),show e-i=(e-(i+1))+1 by omega,zMW];rfl
theorem zfX (s:Xb)(i:Nat):zcS s i i=[]:=by unfold zcS;rw[ByteArray.data_extract,Array.toList_extract,List.extract_eq_take_drop];simp
theorem zms (s:Xb):∀(f i:Nat) (x:Bool×Nat),f=s.size-i->zdt s f i x=zdm (zcS s i (zQ zT s i)) x/\zfi (zcS s i (zQ zT s i)):=by
 intro f;induction f with
 | zero => intro i x hf;rw[zjm (by omega),zfX];exact⟨rfl,λc hc=>by cases hc⟩
 | succ f ih =>
   intro i x hf;have hi:i<s.size:=(by omega);by_cases hd:zT (bt s i)=true
   . have hsp:=zd1 hi hd;have hle:i+1<=zQ zT s i:=(by rw[hsp];exact zdB _ _ _);have hle2:zQ zT s i<=s.size:=zcr _ _ _ (by omega);have hb:=ziM hi;have hc:=zga s i _ hle hle2;obtain⟨h1,h2⟩:=ih (i+1) (if x.2 > (9223372036854775807-(bt s i-48)) / 10 then (false,x.2) else (x.1,x.2*10+(bt s i-48))) (by omega);rw[<- hsp] at h1 h2;rw[hc];refine⟨?_,?_⟩
     . show (if i<s.size/\zT (bt s i)=true then _ else x)=zdm (zcS s (i+1) (zQ zT s i)) (if x.2 > (9223372036854775807-((s[i]).toNat-48)) / 10 then (false,x.2) else (x.1,x.2*10+((s[i]).toNat-48)));rw[zM2 ⟨hi,hd⟩,hb,h1]
     intro c hc;rcases zNa.1 hc with h|h
     . subst h;rw[hb];simp[zT] at hd;exact hd
     exact h2 c h
   have hd':zT (bt s i)=false:=(by simpa using hd);rw[zif hd',zfX];refine⟨?_,λc hc=>by cases hc⟩
   show (if i<s.size/\zT (bt s i)=true then _ else x)=x;rw[zM1 (λh=>hd h.2)]
theorem zn1 (s:Xb)(a:Nat)(ha:a<s.size)(hd:zT (bt s a)=true):Lib.parseIntB 64 (s.extract a (zQ zT s a)).data.toList=if (zdt s (s.size-a) a (true,0)).1=true then .ok ((zdt s (s.size-a) a (true,0)).2:Int) else .range:=by
 obtain⟨h1,h2⟩:=zms s (s.size-a) a (true,0) rfl;have hle:a+1<=zQ zT s a:=by rw[zd1 ha hd];exact zdB _ _ _
 have hle2:zQ zT s a<=s.size:=zcr _ _ _ (by omega);rw[h1];refine zqC _ h2 ?_
 show zcS s a (zQ zT s a)≠[];rw[zga s a _ hle hle2];simp
end
section
open Go.RowKit
variable {b:Nat} {e:Xy} {v0 v1 v2 v3 v4 v5:Xv} {w:Xw}
theorem ze {o:Obj}(h:w.heap[b]?=some o):b<w.heap.size:=by
 rcases Nat.lt_or_ge b w.heap.size with h1|h1
 . exact h1
 rw[Array.getElem?_eq_none h1] at h;cases h
theorem zu (h:w.heap[b]?=some (.cells #[v0] e (0,0))):w.cell? (xD b 0)=some v0/\(∀i,w.frozen? (xD b i)=false)/\b<w.heap.size :=
 ⟨by simp[World.cell?,h],λi=>by simp[World.frozen?,h],ze h⟩
theorem zp (h:w.heap[b]?=some (.cells #[v0,v1] e (0,0))):w.cell? (xD b 0)=some v0/\w.cell? (xD b 1)=some v1/\(∀i,w.frozen? (xD b i)=false)/\b<w.heap.size :=
 ⟨by simp[World.cell?,h],by simp[World.cell?,h],λi=>by simp[World.frozen?,h],ze h⟩
theorem zL (h:w.heap[b]?=some (.cells #[v0,v1,v2] e (0,0))):w.cell? (xD b 0)=some v0/\w.cell? (xD b 1)=some v1/\w.cell? (xD b 2)=some v2/\(∀i,w.frozen? (xD b i)=false)/\b<w.heap.size :=
 ⟨by simp[World.cell?,h],by simp[World.cell?,h],by simp[World.cell?,h],λi=>by simp[World.frozen?,h],ze h⟩
theorem zU (h:w.heap[b]?=some (.cells #[v0,v1,v2,v3] e (0,0))):w.cell? (xD b 0)=some v0/\w.cell? (xD b 1)=some v1/\w.cell? (xD b 2)=some v2/\w.cell? (xD b 3)=some v3/\(∀i,w.frozen? (xD b i)=false)/\b<w.heap.size :=
 ⟨by simp[World.cell?,h],by simp[World.cell?,h],by simp[World.cell?,h],by simp[World.cell?,h],λi=>by simp[World.frozen?,h],ze h⟩
theorem zcf (h:w.heap[b]?=some (.cells #[v0,v1,v2,v3,v4] e (0,0))):w.cell? (xD b 0)=some v0/\w.cell? (xD b 1)=some v1/\w.cell? (xD b 2)=some v2/\w.cell? (xD b 3)=some v3/\w.cell? (xD b 4)=some v4/\(∀i,w.frozen? (xD b i)=false)/\b<w.heap.size :=
 ⟨by simp[World.cell?,h],by simp[World.cell?,h],by simp[World.cell?,h],by simp[World.cell?,h],by simp[World.cell?,h],λi=>by simp[World.frozen?,h],ze h⟩
theorem zt (h:w.heap[b]?=some (.cells #[v0,v1,v2,v3,v4,v5] e (0,0))):w.cell? (xD b 0)=some v0/\w.cell? (xD b 1)=some v1/\w.cell? (xD b 2)=some v2/\w.cell? (xD b 3)=some v3/\w.cell? (xD b 4)=some v4/\w.cell? (xD b 5)=some v5/\(∀i,w.frozen? (xD b i)=false)/\b<w.heap.size :=
 ⟨by simp[World.cell?,h],by simp[World.cell?,h],by simp[World.cell?,h],by simp[World.cell?,h],by simp[World.cell?,h],by simp[World.cell?,h],λi=>by simp[World.frozen?,h],ze h⟩
theorem zbZ {v6:Xv}(h:w.heap[b]?=some (.cells #[v0,v1,v2,v3,v4,v5,v6] e (0,0))):w.cell? (xD b 0)=some v0/\w.cell? (xD b 1)=some v1/\w.cell? (xD b 2)=some v2/\w.cell? (xD b 3)=some v3/\w.cell? (xD b 4)=some v4/\w.cell? (xD b 5)=some v5/\w.cell? (xD b 6)=some v6/\(∀i,w.frozen? (xD b i)=false)/\b<w.heap.size :=
 ⟨by simp[World.cell?,h],by simp[World.cell?,h],by simp[World.cell?,h],by simp[World.cell?,h],by simp[World.cell?,h],by simp[World.cell?,h],by simp[World.cell?,h],λi=>by simp[World.frozen?,h],ze h⟩
end
section
open Go.RowKit
variable {w w2:Xw}
theorem zoo {e:Xy}(h:w2=w∨∃t,w2=Lib.bytesWorld w e t):xB w w2:=by
 rcases h with rfl|⟨t,rfl⟩
 . exact zWQ _ _
 exact Lib.bytesWorld_below _ _ _
theorem zeu {o:Obj}(h:Below (w.alloc o).heap.size (w.alloc o) w2):xB w w2 :=
 ⟨h.os,h.tape,h.output,zMO (by simp) h.size,λk hk=>(h.block k (by simp;omega)).trans (zWP _ _ _ hk)⟩
theorem zb6 {fn:Func}{p:Tmp}(h:fn.results=#[.cell p 121]){tmps:Xa}{b:Nat}(hp:tmps[p]?.getD undef=xP b){v0 v1 v2 v3:Xv}(hh:xH w b #[v0,v1,v2,v3] 121):(results fn tmps).run prog w=.ok (.agg #[v0,v1,v2,v3]) w:=by obtain⟨c0,c1,c2,c3,_⟩:=zU hh;simp[results,h,hp,go_sem,c0,c1,c2,c3]
def zlt (r:Xb)(a:Nat):Value :=
 if (zdt r (r.size-0) 0 (true,0)).1=true then zaw 4 (r.extract 0 (zQ zT r 0)) a (zdt r (r.size-0) 0 (true,0)).2 else zaw 0 ⟨#[]⟩ a 0
theorem zl0 (S:Xs)(r:Xb)(hs:r.size<=1200)(h0:0<r.size)(hd:zT (bt r 0)=true)(a:Nat)(w:Xw)(hG:Gl S w) :
 xK 83 #[.string r,xI a] w λe w'=>e=.returned (zlt r a)/\xB w w':=by
 have h1:=zcr zT r 0 (zMN _);have hP:=zn1 r 0 h0 hd;have HV:Hid (zlt r a=if (zdt r (r.size-0) 0 (true,0)).1=true then zaw 4 (r.extract 0 (zQ zT r 0)) a (zdt r (r.size-0) 0 (true,0)).2 else zaw 0 ⟨#[]⟩ a 0):=rfl;obtain⟨n,Hn⟩:∃n,zQ zT r 0=n:=⟨_,rfl⟩;generalize zdt r (r.size-0) 0 (true,0)=x at *;rw[Hn] at h1 hP HV;have hrg:w.cell? (xD 15 0)=some (.iface 290 (.pointer (some (S 12)))):=hG.range;have hgz:=hG.size;have hg17:15<w.heap.size:=zM9 (by decide) hgz;have hsz:(r.extract 0 n).size<=281474976710656:=by rw[ByteArray.size_extract];omega
 cases hx:x.1 with
 | true => rw[hx,zM2 rfl] at hP HV;have HPi:=za (Tryz.strconv_ParseInt_10_at64_ok (r.extract 0 n) (by omega) x.2 hP (w.alloc (.cells #[xI 0,.string ⟨#[]⟩,xI 0,xI 0] 121)));go_enter func83,ntmps83;go_wp2_with (first|(go_at_call 125;refine HPi.o.mono ?_;rintro e w2 ⟨rfl,hw2⟩;have Hb2:=zoo hw2;have Hh2:=(Hb2.block w.heap.size (Nat.lt_of_lt_of_eq (zMV _) (by simp))).trans (zc w _);obtain⟨d0,d1,d2,d3,df,dz⟩:=zU Hh2)|(go_at_call 78;refine (zdv _ zT zg0 zcp r hs _).mono ?_;rintro e w' ⟨rfl,rfl⟩;rw[Hn]));refine zWR (v:=zaw 4 (r.extract 0 n) a x.2) (zb6 rfl rfl (zb7 Hh2 _ _ _ _)) rfl ⟨by rw[HV.o],?_⟩;exact (((((zeu Hb2).setCell (zMK _) _).setCell (zMK _) _).setCell (zMK _) _).setCell (zMK _) _)
 | false => rw[hx,zM1 (by simp)] at hP HV;have HPi:=za (Tryz.strconv_ParseInt_10_at64_range (r.extract 0 n) hsz hP (.iface 290 (.pointer (some (S 12)))) (w.alloc (.cells #[xI 0,.string ⟨#[]⟩,xI 0,xI 0] 121)) ((World.cell?_alloc_lt _ _ _ hg17).trans hrg) (zM4 ⟨_,_,rfl⟩));go_enter func83,ntmps83;go_wp2_with (first|(go_at_call 125;refine HPi.o.mono ?_;rintro e w2 ⟨N,rfl,_,_,Hb2⟩;have Hh2:=(Hb2.block w.heap.size (Nat.lt_of_lt_of_eq (zMV _) (by simp))).trans (zc w _);obtain⟨d0,d1,d2,d3,df,dz⟩:=zU Hh2)|(go_at_call 78;refine (zdv _ zT zg0 zcp r hs _).mono ?_;rintro e w' ⟨rfl,rfl⟩;rw[Hn]));refine zWR (v:=zaw 0 ⟨#[]⟩ a 0) (zb6 rfl rfl (zb7 Hh2 _ _ _ _)) rfl ⟨by rw[HV.o],?_⟩;exact (((((zeu Hb2).setCell (zMK _) _).setCell (zMK _) _).setCell (zMK _) _).setCell (zMK _) _)
def ziQ (r:Xb)(a:Nat):Value :=
 if 2<=r.size/\((r.extract 0 2).toList==[45,62]||(r.extract 0 2).toList==[60,62]||(r.extract 0 2).toList==[60,61])=true then zaw 2 (r.extract 0 2) a 0
 else if zfe (bt r 0) then zaw 2 (r.extract 0 1) a 0 else zaw 0 ⟨#[]⟩ a 0
theorem zfA (s t:Xb)(ht:t.size=2)(hs:s.size<=1200)(w:Xw):xK 126 #[.string s,.string t] w λe w'=>e=.returned (.bool (decide (2<=s.size)&&(s.extract 0 2).toList==t.toList))/\w=w':=by
 go_enter func126,ntmps126;go_wp2;all_goals go_ret
 . rename_i h
   have:decide (2<=s.size)=true:=by simp;omega
   rw[this];exact⟨rfl,rfl⟩
 rename_i h
 have:decide (2<=s.size)=false:=by simp;omega
 rw[this];exact⟨rfl,rfl⟩
theorem zpy:∀n,n<256->decide ((0:Int)<=Lib.indexByte [40,41,123,125,58,59,44,61,60,43,45,42,47,37] n.toUInt8)=zfe n:=by decide +kernel
theorem zi9 {s t:Xb}(h:s.toList=t.toList):s=t:=by rw[ByteArray.toList_eq,ByteArray.toList_eq] at h;exact ByteArray.ext (Array.toList_inj.1 h)
theorem ix3 (s0 s1 s2:Xb)(w:Xw):(Instr.index 237 (.agg #[.string s0,.string s1,.string s2]) (xI 0)).run prog w=.ok (.string s0) w/\(Instr.index 237 (.agg #[.string s0,.string s1,.string s2]) (xI 1)).run prog w=.ok (.string s1) w/\(Instr.index 237 (.agg #[.string s0,.string s1,.string s2]) (xI 2)).run prog w=.ok (.string s2) w:=⟨by kernel_rfl,by kernel_rfl,by kernel_rfl⟩
theorem zrm (r:Xb)(i:Nat):bt r i<256:=by
 unfold bt;split
 . exact UInt8.toNat_lt _
 decide
theorem znT (r:Xb)(hs:r.size<=1200)(h0:0<r.size)(a:Nat)(w:Xw) :
 xK 84 #[.string r,xI a] w λe w'=>e=.returned (ziQ r a)/\xB w w':=by
 have hx0:=λw=>(ix3 ⟨#[45,62]⟩ ⟨#[60,62]⟩ ⟨#[60,61]⟩ w).1;have hx1:=λw=>(ix3 ⟨#[45,62]⟩ ⟨#[60,62]⟩ ⟨#[60,61]⟩ w).2.1;have hx2:=λw=>(ix3 ⟨#[45,62]⟩ ⟨#[60,62]⟩ ⟨#[60,61]⟩ w).2.2;have hb:=ziM h0;have hb256:=zrm r 0;have hsx:=zpy (bt r 0) hb256;have t1:(⟨#[45,62]⟩:Xb).toList=[45,62]:=by decide +kernel
 have t2:(⟨#[60,62]⟩:Xb).toList=[60,62]:=by decide +kernel
 have t3:(⟨#[60,61]⟩:Xb).toList=[60,61]:=by decide +kernel
 have HV:Hid (ziQ r a=if 2<=r.size/\((r.extract 0 2).toList==[45,62]||(r.extract 0 2).toList==[60,62]||(r.extract 0 2).toList==[60,61])=true then zaw 2 (r.extract 0 2) a 0 else if zfe (bt r 0) then zaw 2 (r.extract 0 1) a 0 else zaw 0 ⟨#[]⟩ a 0):=rfl;obtain⟨c,hc⟩:∃c,bt r 0=c:=⟨_,rfl⟩;rw[hc] at hb hsx HV;have Hsx:=za hsx;have T1:=za t1;have T2:=za t2;have T3:=za t3;clear hc hsx t1 t2 t3 hb256;go_enter func84,ntmps84;go_wp2_with fail;refine wp_loop_rounds 4 ?_;rw[rounds_succ];go_wp2_with (go_at_call 126;refine (zfA _ _ rfl hs _).mono ?_;rintro e w' ⟨rfl,rfl⟩;rw[T1.o])
 . rename_i h1
   refine zWR (v:=zaw 2 ⟨#[45,62]⟩ a 0) (by simp[results,results84,go_sem,zaw]) rfl ⟨?_,(zWQ _ _).alloc (zMK _) _⟩;simp only[beq_iff_eq] at h1;rw[HV.o,zM2 ⟨h1.1,by simp[h1.2]⟩,zi9 (h1.2.trans T1.o.symm)]
 rename_i h1
 rw[rounds_succ];go_wp2_with (go_at_call 126;refine (zfA _ _ rfl hs _).mono ?_;rintro e w' ⟨rfl,rfl⟩;rw[T2.o])
 . rename_i h2
   refine zWR (v:=zaw 2 ⟨#[60,62]⟩ a 0) (by simp[results,results84,go_sem,zaw]) rfl ⟨?_,(zWQ _ _).alloc (zMK _) _⟩;simp only[beq_iff_eq] at h2;rw[HV.o,zM2 ⟨h2.1,by simp[h2.2]⟩,zi9 (h2.2.trans T2.o.symm)]
 rename_i h2
 rw[rounds_succ];go_wp2_with (go_at_call 126;refine (zfA _ _ rfl hs _).mono ?_;rintro e w' ⟨rfl,rfl⟩;rw[T3.o])
 . rename_i h3
   refine zWR (v:=zaw 2 ⟨#[60,61]⟩ a 0) (by simp[results,results84,go_sem,zaw]) rfl ⟨?_,(zWQ _ _).alloc (zMK _) _⟩;simp only[beq_iff_eq] at h3;rw[HV.o,zM2 ⟨h3.1,by simp[h3.2]⟩,zi9 (h3.2.trans T3.o.symm)]
 rename_i h3
 have HN:Hid (¬(2<=r.size/\((r.extract 0 2).toList==[45,62]||(r.extract 0 2).toList==[60,62]||(r.extract 0 2).toList==[60,61])=true)):=by
  rintro⟨g1,g2⟩;simp only[Bool.or_eq_true] at g2;rcases g2 with (g2|g2)|g2
  . rw[g2] at h1;simp[g1] at h1
  . rw[g2] at h2;simp[g1] at h2
  rw[g2] at h3;simp[g1] at h3
 have hv:=HV.o;rw[zM1 HN.o] at hv;have HV2:=za hv;clear h1 h2 h3 hv HV HN;rw[rounds_succ];go_wp2_with (go_at_call 127;refine (Tryz.strings_IndexByte _ _ _).mono ?_;rintro e w' ⟨rfl,rfl⟩)
 . rename_i h5
   have h6:zfe c=true:=(by rw[<- Hsx.o];exact decide_eq_true h5);refine zWR (v:=zaw 2 (r.extract 0 1) a 0) (by simp[results,results84,go_sem,zaw]) rfl ⟨by rw[HV2.o,zM2 h6],(zWQ _ _).alloc (zMK _) _⟩
 rename_i h5
 have h6:¬zfe c=true:=by rw[<- Hsx.o];intro h7;exact absurd (of_decide_eq_true h7) (by first|exact h5|exact Int.not_le.2 h5)
 refine zWR (v:=zaw 0 ⟨#[]⟩ a 0) (by simp[results,results84,go_sem,zaw]) rfl ⟨by rw[HV2.o,zM1 h6],(zWQ _ _).alloc (zMK _) _⟩
end
end Go.Proofs.YtenadialhccdiaaGreatDoor
