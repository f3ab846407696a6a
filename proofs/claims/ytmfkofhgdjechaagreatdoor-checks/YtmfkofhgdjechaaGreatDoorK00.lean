/- Part 1 of the proof. -/
import Derived.BigQuiet
import Derived.BigRegion
import Derived.Deep.DeepMust
import Derived.Deep.QuietTactic
import Derived.Deep.RegionLaw
import Derived.Deep.RegionWith
import Derived.RegionTactic
import Derived.Test.YtmfkofhgdjechaaGreatDoorProg
import Derived.WalkKit
import Derived.WalkLawsBesides
set_option maxRecDepth 100000
set_option maxHeartbeats 8000000
namespace Go.Proofs.YtmfkofhgdjechaaGreatDoor
open Go.Proofs.Tryz
theorem bw {α : Type _} (a b c : List α) : a ++ b ++ c = a ++ (b ++ c) := List.append_assoc a b c
theorem ec {α : Type _} {a b : List α} : a ++ b = [] ↔ a = [] ∧ b = [] := List.append_eq_nil_iff
theorem dE {α : Type _} {l : List α} {i : Nat} (h : i < l.length) : l.drop i = l[i]'h :: l.drop (i + 1) := List.drop_eq_getElem_cons h
theorem bc {α : Type _} {β : Type _} {f : β → α → β} {b : β} {l m : List α} : (l ++ m).foldl f b = m.foldl f (l.foldl f b) := List.foldl_append
theorem e9 {α : Type _} {a b : List α} {i : Nat} (h : i < a.length) : (a ++ b)[i]? = a[i]? := List.getElem?_append_left h
theorem e8 {α : Type _} {a b : List α} {i : Nat} (h : a.length ≤ i) : (a ++ b)[i]? = b[i - a.length]? := List.getElem?_append_right h
theorem av {α : Type _} {l : List α} {i : Nat} (h : i < l.length) : l[i]? = some (l[i]'h) := List.getElem?_eq_getElem h
theorem aB {α : Type _} {l : List α} {i : Nat} {a : α} : l[i]? = some a ↔ ∃ h : i < l.length, l[i]'h = a := List.getElem?_eq_some_iff
theorem L8 {α : Type _} (a : α) (l : List α) (i : Nat) (h : i + 1 < (a :: l).length) : (a :: l)[i + 1]'h = l[i]'(Nat.lt_of_succ_lt_succ h) := List.getElem_cons_succ a l i h
theorem L7 {α : Type _} (a : α) (l : List α) (h : 0 < (a :: l).length) : (a :: l)[0]'h = a := List.getElem_cons_zero a l h
theorem L9 {α : Type _} {l : List α} {i : Nat} (h : i < l.toArray.size) : l.toArray[i]'h = l[i]'(by simpa using h) := List.getElem_toArray h
theorem aP {α : Type _} {a b : List α} : (a ++ b).length = a.length + b.length := List.length_append
theorem bJ {α : Type _} {a : α} {l : List α} : (a :: l).length = l.length + 1 := List.length_cons
theorem cw {α : Type _} : ([] : List α).length = 0 := List.length_nil
theorem bj {α : Type _} {a : α} {s t : List α} : a ∈ s ++ t ↔ a ∈ s ∨ a ∈ t := List.mem_append
theorem cC {α : Type _} {a b : α} {l : List α} : a ∈ b :: l ↔ a = b ∨ a ∈ l := List.mem_cons
theorem cS {α : Type _} {a : α} (y : α) {l : List α} (h : a ∈ l) : a ∈ y :: l := List.mem_cons_of_mem y h
theorem ce {α : Type _} {a : α} {l : List α} : a ∈ a :: l := List.mem_cons_self
theorem ed {α : Type _} {β : Type _} {f : α → List β} {b : β} {l : List α} : b ∈ l.flatMap f ↔ ∃ a, a ∈ l ∧ b ∈ f a := List.mem_flatMap
theorem aM {α : Type _} {l : List α} {i : Nat} {a : α} (h : l[i]? = some a) : a ∈ l := List.mem_of_getElem? h
theorem cu {α : Type _} {a b : α} : a ∈ [b] ↔ a = b := List.mem_singleton
theorem K7 {α : Type _} (l : List α) (i : Nat) (a : α) : l.toArray.setIfInBounds i a = (l.set i a).toArray := List.setIfInBounds_toArray l i a
theorem Ma {α : Type _} {l : List α} {a b : α} {n : Nat} : (a :: l).set (n + 1) b = a :: l.set n b := List.set_cons_succ
theorem Mb {α : Type _} {l : List α} {a b : α} : (a :: l).set 0 b = b :: l := List.set_cons_zero
theorem de {α : Type _} {i : Nat} {l : List α} (h : l.length ≤ i) : l.take i = l := List.take_of_length_le h
theorem cI {α : Type _} {i : Nat} {a : α} {l : List α} : (a :: l).take (i + 1) = a :: l.take i := List.take_succ_cons
theorem an (n : Nat) : n ≤ n := Nat.le_refl n
theorem aJ {n m k : Nat} (h : n ≤ m) (i : m ≤ k) : n ≤ k := Nat.le_trans h i
theorem dD {n m k : Nat} (h : n < m) (i : m ≤ k) : n < k := Nat.lt_of_lt_of_le h i
theorem cf (n : Nat) : n < n + 1 := Nat.lt_succ_self n
theorem aE (n : Nat) : 0 ≤ n := Nat.zero_le n
theorem ao {a b : Prop} (h : a) : a ∨ b := Or.inl h
theorem ap {a b : Prop} (h : b) : a ∨ b := Or.inr h
theorem au (w : World) (o : Obj) : (w.alloc o).heap.size = w.heap.size + 1 := World.size_alloc w o
theorem bf {α : Type _} [BEq α] [LawfulBEq α] {a b : α} : (a == b) = false ↔ a ≠ b := beq_eq_false_iff_ne
theorem ae {c : Prop} {h : Decidable c} (n : ¬c) {α : Sort _} {t e : α} : ite c t e = e := if_neg n
theorem ag {c : Prop} {h : Decidable c} (n : c) {α : Sort _} {t e : α} : ite c t e = t := if_pos n
section
open Go.RowKit
abbrev Xw:Type:=World
abbrev Xv:Type:=Value
abbrev Xb:Type:=ByteArray
abbrev Xs:Type:=Nat->Addr
abbrev Xl:Type:=List ByteArray
abbrev Xm:Type:=List Value
abbrev Xn:Type:=List Nat
abbrev Xa:Type:=Array Value
abbrev Xo:Type:=Option Nat
abbrev Xu:Type:=List UInt8
abbrev Xp:Type:=Option Addr
abbrev Xy:Type:=TypeId
abbrev Xk:Type:=List Bool
abbrev Xh:Type:=Nat->Bool
abbrev Xj:Type:=Nat->Prop
def aa (p:Prop):Prop:=p
theorem aa.out {p:Prop}(h:aa p):p:=h
theorem aa.o {p:Prop}(h:aa p):p:=h
abbrev xD (b o:Nat):Addr:=⟨b,o,none⟩
abbrev xP (b:Nat):Value:=.pointer (some ⟨b,0,none⟩)
abbrev xS (b n c:Nat):Value:=.slice (some ⟨b,0,none⟩) n c
abbrev xK (f:FuncId) (a:Xa) (w:Xw) (Q:Ending->World->Prop):Prop:=Calls prog f a w Q
abbrev xI (n:Int):Value:=.int .i64 n
abbrev xC (w:Xw) (b o:Nat) (v:Xv):Prop:=w.cell? ⟨b,o,none⟩=some v
abbrev xH (w:Xw) (b:Nat) (c:Xa) (t:Xy):Prop:=w.heap[b]?=some (.cells c t (0,0))
abbrev xB (w d:Xw):Prop:=Go.RowKit.Below w.heap.size w d
variable {S S':Xj} {a b c w d:Xw}
structure Fr (S:Xj) (w d:Xw):Prop where
 os:d.os=w.os
 tape:d.tape=w.tape
 output:d.output=w.output
 size:w.heap.size<=d.heap.size
 block:∀k,k<w.heap.size->¬S k->d.heap[k]?=w.heap[k]?
theorem Fr.refl (S:Xj)(w:Xw):Fr S w w:=⟨rfl,rfl,rfl,an _,λ_ _ _=>rfl⟩
theorem Fr.mono (h:Fr S w d)(f:∀k,k<w.heap.size->S k->S' k):Fr S' w d :=
 ⟨h.os,h.tape,h.output,h.size,λk e g=>h.block k e (λi=>g (f k e i))⟩
theorem Fr.dr (h:Fr S a b)(k:Fr S' b c)(g:∀i,i<a.heap.size->S' i->S i):Fr S a c :=
 ⟨k.os.trans h.os,k.tape.trans h.tape,k.output.trans h.output,aJ h.size k.size,
  λi e f=>(k.block i (dD e h.size) (λj=>f (g i e j))).trans (h.block i e f)⟩
theorem Fr.trans (h:Fr S a b)(k:Fr S b c):Fr S a c:=h.dr k (λ_ _ h=>h)
theorem Fr.drew (h:Fr S a w):Fr S a w.drew:=⟨h.os,h.tape,h.output,h.size,h.block⟩
theorem Fr.alloc (h:Fr S a w)(o:Obj):Fr S a (w.alloc o) :=
 h.trans ⟨rfl,rfl,rfl,by simp,λk e _=>Below.heap_alloc _ _ _ e⟩
theorem Fr.setCell (h:Fr S a w){p:Addr}(hp:S p.block∨a.heap.size<=p.block)(u:Xv):Fr S a (w.setCell p u) :=
 ⟨h.os,h.tape,h.output,aJ h.size (by simp[World.setCell]),λk g f=>by
   rw[Below.heap_setCell _ _ _ _ (λe=>by rcases hp with hp|hp;exact f (e▸hp);omega)];exact h.block k g f⟩
theorem Fr.below (h:Fr S w d){B:Nat}(g:B<=w.heap.size)(e:∀k,S k->B<=k):Below B w d :=
 ⟨h.os,h.tape,h.output,h.size,λk i=>h.block k (by omega) (λf=>by have:=e k f;omega)⟩
theorem Fr.dp (h:xB w d):Fr S w d :=
 ⟨h.os,h.tape,h.output,h.size,λk e _=>h.block k e⟩
end
section
open Go.RowKit
variable {a:Nat} {w:Xw}
structure Rd where
 aA:Value
 src:ByteArray
 tk:Int
 ta:Int
 tt:Int
 ts:ByteArray
 tn:Int
 op:Int
 er:Int
 at':Int
 nm:ByteArray
 na:Int
 vs:Value
 xs:Value
 qs:Value
def Rd.obj (R:Rd):Obj:=.cells #[R.aA,.string R.src,xI R.tk,xI R.ta,xI R.tt,.string R.ts,xI R.tn,xI R.op,xI R.er,xI R.at',.string R.nm,xI R.na,R.vs,R.xs,R.qs] 272 (0,0)
def Rd.at (w:Xw)(a:Nat)(R:Rd):Prop:=w.heap[a]?=some R.obj
theorem Rd.at.cells {R:Rd}(h:R.at w a) :
 w.cell? (xD a 0)=some R.aA/\w.cell? (xD a 1)=some (.string R.src)/\w.cell? (xD a 2)=some (xI R.tk)/\w.cell? (xD a 3)=some (xI R.ta) /\
 w.cell? (xD a 4)=some (xI R.tt)/\w.cell? (xD a 5)=some (.string R.ts)/\w.cell? (xD a 6)=some (xI R.tn)/\w.cell? (xD a 7)=some (xI R.op) /\
 w.cell? (xD a 8)=some (xI R.er)/\w.cell? (xD a 9)=some (xI R.at')/\w.cell? (xD a 10)=some (.string R.nm)/\w.cell? (xD a 11)=some (xI R.na) /\
 w.cell? (xD a 12)=some R.vs/\w.cell? (xD a 13)=some R.xs/\w.cell? (xD a 14)=some R.qs:=by
 unfold Rd.at at h;simp[World.cell?,h,Rd.obj]
theorem Rd.at.frozen {R:Rd}(h:R.at w a)(i:Nat):w.frozen? (xD a i)=false:=by unfold Rd.at at h;simp[World.frozen?,h,Rd.obj]
theorem Rd.at.lt {R:Rd}(h:R.at w a):a<w.heap.size:=by
 unfold Rd.at at h;rcases Nat.lt_or_ge a w.heap.size with h1|h1
 . exact h1
 rw[Array.getElem?_eq_none h1] at h;cases h
end
section
open Go.RowKit
variable {b:Nat} {S:Xj} {e:Xy} {W a w d:Xw}
theorem Fr.aY (h:Fr (·=b) a w)(i:Nat)(u:Xv):Fr (·=b) a (w.setCell (xD b i) u):=h.setCell (ao rfl) u
theorem zw (h:Below w.drew.heap.size w.drew d):xB w d:=⟨h.os,h.tape,h.output,h.size,h.block⟩
theorem Fr.gA {f:Xw}(h:Fr S a w)(c:xB w f):Fr S a f :=
 h.trans ⟨c.os,c.tape,c.output,c.size,λk g _=>c.block k g⟩
theorem Fr.aO (h:Fr S a w)(c:a.heap.size<=b)(i:Nat)(u:Xv):Fr S a (w.setCell (xD b i) u):=h.setCell (ap c) u
theorem zh (w:Xw)(b i:Nat)(v:Xv){c:Xa}{f:Nat×Nat}(h:w.heap[b]?=some (.cells c e f)):(w.setCell (xD b i) v).heap[b]?=some (.cells (c.setIfInBounds i v) e f):=by simp[World.setCell,Array.getElem?_modify,h]
theorem mD (c:xB W d):(∀b o,b<W.heap.size->d.cell? (xD b o)=W.cell? (xD b o))/\(∀b o,b<W.heap.size->d.frozen? (xD b o)=W.frozen? ⟨b,o,none⟩) :=
 ⟨λb o h=>c.cell (p:=(xD b o)) h,λb o h=>c.frozen (p:=(xD b o)) h⟩
theorem sw (h:Fr (·=b) W d):(∀k o,k<W.heap.size->¬k=b->d.cell? (xD k o)=W.cell? (xD k o))/\(∀k o,k<W.heap.size->¬k=b->d.frozen? (xD k o)=W.frozen? ⟨k,o,none⟩) :=
 ⟨λk _ c f=>World.cell?_of_block (w:=W) (h.block k c f),λk _ c f=>World.frozen?_of_block (w:=W) (h.block k c f)⟩
theorem zc (w:Xw)(o:Obj):(w.alloc o).heap[w.heap.size]?=some o:=by show (w.heap.push o)[w.heap.size]?=some o;simp
theorem zn {P:Program}{c:Code}{Q:Exit->Act->World->Prop}{a:Act}(f:World->Prop)(h:f W)(k:∀g,f g->Code.wp P c Q a g):Code.wp P c Q a W:=k W h
theorem zr {k i:Nat}{v:Xv}{o:Option Obj}(h:¬k=b)(c:w.heap[k]?=o):(w.setCell (xD b i) v).heap[k]?=o:=(Below.heap_setCell _ _ _ _ h).trans c
theorem kB {j k l m:Xv}(h:xH w b #[j,k,l,m] e)(c f g i:Xv):((((w.setCell (xD b 0) c).setCell (xD b 1) f).setCell (xD b 2) g).setCell (xD b 3) i).heap[b]?=some (.cells #[c,f,g,i] e (0,0)) :=
 zh _ _ _ _ (zh _ _ _ _ (zh _ _ _ _ (zh _ _ _ _ h)))
theorem za {p:Prop}(h:p):aa p:=h
end
section
variable {s:Xb} {i:Nat} {p:Xh}
def bt (s:Xb)(i:Nat):Nat:=if h:i<s.size then s[i].toNat else 0
theorem kb (h:i<s.size):s[i].toNat=bt s i:=by unfold bt;rw[dif_pos h]
def cM (c:Nat):Bool:=c==32||c==10
def gv (c:Nat):Bool:=decide (97<=c)&&decide (c<=122)
def zT (c:Nat):Bool:=decide (48<=c)&&decide (c<=57)
def b6 (c:Nat):Bool:=gv c||zT c||c==95
def ia (p:Xh)(s:Xb):Nat->Nat->Nat
 | 0,i=>i
 | f+1,i=>if i<s.size/\p (bt s i)=true then ia p s f (i+1) else i
def zQ (p:Xh)(s:Xb)(i:Nat):Nat:=ia p s (s.size-i) i
theorem kJ (h:i<s.size)(b:p (bt s i)=true):zQ p s i=zQ p s (i+1):=by
 unfold zQ;obtain⟨m,a⟩:∃m,s.size-i=m+1:=⟨s.size-i-1,by omega⟩;rw[a,show s.size-(i+1)=m by omega]
 show (if i<s.size/\p (bt s i)=true then ia p s m (i+1) else i)=_;rw[ag ⟨h,b⟩]
theorem nY (h:s.size<=i):zQ p s i=i:=by unfold zQ;rw[show s.size-i=0 by omega];rfl
theorem nW (a:p (bt s i)=false):zQ p s i=i:=by
 unfold zQ;cases b:s.size-i with
 | zero=>rfl
 | succ m => show (if i<s.size/\p (bt s i)=true then ia p s m (i+1) else i)=_;rw[ae (by rw[a];simp)]
theorem x9 (p:Xh)(s:Xb):∀f i,i<=ia p s f i/\(i<=s.size->ia p s f i<=s.size):=by
 intro f;induction f with
 | zero=>intro i;exact⟨an _,λh=>h⟩
 | succ f a =>
   intro i
   show i<=(if i<s.size/\p (bt s i)=true then ia p s f (i+1) else i)/\(i<=s.size->(if i<s.size/\p (bt s i)=true then ia p s f (i+1) else i)<=s.size);split
   . rename_i h
     have:=a (i+1);exact⟨by omega,λ_=>this.2 (by omega)⟩
   exact⟨an _,λh=>h⟩
theorem ll (p:Xh)(s:Xb)(i:Nat):i<=zQ p s i:=(x9 p s _ i).1
theorem jl (p:Xh)(s:Xb)(i:Nat)(h:i<=s.size):zQ p s i<=s.size:=(x9 p s _ i).2 h
structure Tk where
 k:Nat
 a:Nat
 t:Nat
 s:ByteArray
 n:Nat
def j5:List (List UInt8):=[[110,111,100,101],[118,97,114],[105,110,116],[98,111,111,108],[111,110],[110,111,116],[97,110,100],[111,114],[120,111,114],[105,102],[116,104,101,110],[101,108,115,101],[109,101,114,103,101],[119,104,101,110],[119,104,101,110,111,116],[102,98,121],[116,114,117,101],[102,97,108,115,101]]
def ep (s:Xb):Bool:=j5.any λl=>s.toList==l
def eM (s:Xb)(a:Nat):Tk :=
 let b:=zQ b6 s a
 let x:=s.extract a b
 ⟨if ep x then 5 else if b-a > 12 then 1 else 2,a,b,x,0⟩
def dR (s:Xb):Nat->Nat->Bool×Nat->Bool×Nat
 | 0,_,x=>x
 | f+1,i,x=>if i<s.size/\zT (bt s i)=true then
    dR s f (i+1) (if x.2 > (9223372036854775807-(bt s i-48)) / 10 then (false,x.2) else (x.1,x.2*10+(bt s i-48))) else x
def fc (s:Xb)(a:Nat):Tk :=
 let x:=dR s (s.size-a) a (true,0)
 ⟨if x.1 then 3 else 1,a,zQ zT s a,⟨#[48]⟩,x.2⟩
def hs (c:Nat):Bool:=[40,41,123,125,58,59,44,61,60,43,45,42,47,37].contains c
def dT (s:Xb)(a:Nat):Tk :=
 if a+2<=s.size/\((s.extract a (a+2)).toList==[45,62]||(s.extract a (a+2)).toList==[60,62]||(s.extract a (a+2)).toList==[60,61])=true then ⟨4,a,a+2,s.extract a (a+2),0⟩
 else if hs (bt s a) then ⟨4,a,a+1,s.extract a (a+1),0⟩
 else ⟨1,a,a,⟨#[]⟩,0⟩
def zZ (s:Xb)(b:Nat):Tk :=
 let a:=zQ cM s b
 if a=s.size then ⟨0,a,a,⟨#[]⟩,0⟩
 else if gv (bt s a) then eM s a
 else if zT (bt s a) then fc s a
 else dT s a
end
section
open Go.RowKit
theorem qp (c:Int)(w:Xw):xK 253 #[.int .u8 c] w λe a=>e=.returned (.bool (decide (97<=c)&&decide (c<=122)))/\a=w:=by
 go_enter func253,ntmps253;go_wp2;all_goals go_ret
 . exact⟨by rename_i h;simp[h],rfl⟩
 exact⟨by rename_i h;simp;omega,rfl⟩
theorem qo (c:Int)(w:Xw):xK 254 #[.int .u8 c] w λe a=>e=.returned (.bool (decide (48<=c)&&decide (c<=57)))/\a=w:=by
 go_enter func254,ntmps254;go_wp2;all_goals go_ret
 . exact⟨by rename_i h;simp[h],rfl⟩
 exact⟨by rename_i h;simp;omega,rfl⟩
theorem Cs (s:Xb):ep s=(s.toList==[110,111,100,101]||(s.toList==[118,97,114]||(s.toList==[105,110,116]||(s.toList==[98,111,111,108]||(s.toList==[111,110]||(s.toList==[110,111,116]||(s.toList==[97,110,100]||(s.toList==[111,114]||(s.toList==[120,111,114]||(s.toList==[105,102]||(s.toList==[116,104,101,110]||(s.toList==[101,108,115,101]||(s.toList==[109,101,114,103,101]||(s.toList==[119,104,101,110]||(s.toList==[119,104,101,110,111,116]||(s.toList==[102,98,121]||(s.toList==[116,114,117,101]||s.toList==[102,97,108,115,101]))))))))))))))))):=by simp[ep,j5]
theorem tR (s:Xb)(w:Xw):xK 281 #[.string s] w λe a=>e=.returned (.bool (ep s))/\a=w:=by
 rw[Cs];go_enter func281,ntmps281;go_wp2;all_goals go_ret
 all_goals first|(refine⟨?_,rfl⟩;simp[*];done)|(exfalso;simp_all;done)
end
section
open Go.RowKit
variable {s:Xb} {a k:Nat}
theorem vc (h:zQ b6 s a=k)(b:ep (s.extract a k)=true):eM s a=⟨5,a,k,s.extract a k,0⟩:=by unfold eM;simp[h,b]
theorem uo (h:zQ b6 s a=k)(b:ep (s.extract a k)=false)(c:12<(k:Int)-a):eM s a=⟨1,a,k,s.extract a k,0⟩:=by unfold eM;simp[h,b];omega
theorem uu (h:zQ b6 s a=k)(b:ep (s.extract a k)=false)(c:(k:Int)-a<=12):eM s a=⟨2,a,k,s.extract a k,0⟩:=by unfold eM;simp[h,b];omega
theorem DH (s:Xb)(a:Nat)(w:Xw)(x:s.size<=1200)(q:a<=s.size):xK 255 #[.string s,xI a] w λe n=>e=.returned (.agg #[.int .i64 (eM s a).k,xI a,.int .i64 (eM s a).t,.string (eM s a).s,xI 0])/\xB w n:=by
 go_enter func255,ntmps255;go_wp2;go_loop [5] (λi=>∃k:Nat,a<=k/\k<=s.size/\i=xI k/\aa (zQ b6 s k=zQ b6 s a)) (λi=>s.size-(intOf i).toNat)
 case atStart=>exact⟨a,an _,q,rfl,rfl⟩
 case round =>
  obtain⟨k,t,u,rfl,g⟩:=hrel;by_cases l:k<s.size
  . have r:=kb l;obtain⟨c,m⟩:∃c,bt s k=c:=⟨_,rfl⟩;rw[m] at r;have o:aa (bt s k=c):=m;clear m;have d:(c<48/\b6 c=false)∨(48<=c/\c<=57/\b6 c=true)∨(57<c/\c<95/\b6 c=false)∨(c=95/\b6 c=true)∨(c=96/\b6 c=false)∨(97<=c/\c<=122/\b6 c=true)∨(122<c/\b6 c=false):=by
     unfold b6 gv zT;rcases Nat.lt_or_ge c 48 with h|h
     . left;simp;omega
     rcases Nat.lt_or_ge 57 c with h'|h'
     . rcases Nat.lt_or_ge c 95 with h2|h2
       . right;right;left;simp;omega
       rcases Nat.lt_or_ge c 97 with h3|h3
       . rcases Nat.lt_or_ge c 96 with h4|h4
         . right;right;right;left;simp;omega
         right;right;right;right;left;simp;omega
       rcases Nat.lt_or_ge 122 c with h4|h4
       . right;right;right;right;right;right;simp;omega
       right;right;right;right;right;left;simp;omega
     right;left;simp;omega
    rcases d with ⟨f,h2⟩|⟨f,j,h2⟩|⟨f,j,h2⟩|⟨f,h2⟩|⟨f,h2⟩|⟨f,j,h2⟩|⟨f,h2⟩;case inr.inl|inr.inr.inr.inl|inr.inr.inr.inr.inr.inl =>
     have b:aa (zQ b6 s (k+1)=zQ b6 s a):=(kJ l (by rw[o.o];exact h2)).symm.trans g.o;clear h2 g;first|subst f|skip
     go_wp2;go_round
     case rel=>exact⟨k+1,by omega,by omega,by go_num,b⟩
     case measure=>simp[intOf];omega
    all_goals
     have p:((c:Int)==95)=false:=bf.2 (by omega);have b:aa (zQ b6 s a=k):=g.o.symm.trans (nW (by rw[o.o];exact h2));clear h2 g;first|subst f|skip
     go_wp2_with (go_at_call 281;refine (tR _ _).mono ?_;rintro e n ⟨rfl,rfl⟩)
     . refine bodyPost_ret (v:=.agg #[xI 5,xI a,xI k,.string (s.extract a k),xI 0]) (by simp[results,results255,go_sem]) rfl ⟨?_,?_⟩
       . rw[vc b.o (by assumption)];rfl
       exact ((Below.refl _ _).alloc (an _) _).alloc (by simp) _
     . refine bodyPost_ret (v:=.agg #[xI 1,xI a,xI k,.string (s.extract a k),xI 0]) (by simp[results,results255,go_sem]) rfl ⟨?_,?_⟩
       . rw[uo b.o (by assumption) (by assumption)];rfl
       exact ((Below.refl _ _).alloc (an _) _).alloc (by simp) _
     refine bodyPost_ret (v:=.agg #[xI 2,xI a,xI k,.string (s.extract a k),xI 0]) (by simp[results,results255,go_sem]) rfl ⟨?_,?_⟩
     . rw[uu b.o (by assumption) (by assumption)];rfl
     exact ((Below.refl _ _).alloc (an _) _).alloc (by simp) _
  have b:aa (zQ b6 s a=k):=g.o.symm.trans (nY (by omega));clear g;go_wp2_with (go_at_call 281;refine (tR _ _).mono ?_;rintro e n ⟨rfl,rfl⟩)
  . refine bodyPost_ret (v:=.agg #[xI 5,xI a,xI k,.string (s.extract a k),xI 0]) (by simp[results,results255,go_sem]) rfl ⟨?_,?_⟩
    . rw[vc b.o (by assumption)];rfl
    exact ((Below.refl _ _).alloc (an _) _).alloc (by simp) _
  . refine bodyPost_ret (v:=.agg #[xI 1,xI a,xI k,.string (s.extract a k),xI 0]) (by simp[results,results255,go_sem]) rfl ⟨?_,?_⟩
    . rw[uo b.o (by assumption) (by assumption)];rfl
    exact ((Below.refl _ _).alloc (an _) _).alloc (by simp) _
  refine bodyPost_ret (v:=.agg #[xI 2,xI a,xI k,.string (s.extract a k),xI 0]) (by simp[results,results255,go_sem]) rfl ⟨?_,?_⟩
  . rw[uu b.o (by assumption) (by assumption)];rfl
  exact ((Below.refl _ _).alloc (an _) _).alloc (by simp) _
end
section
open Go.RowKit
variable {s:Xb} {i:Nat}
def lU (x:Bool×Nat)(d:Nat):Bool×Nat:=if x.2 > (9223372036854775807-d) / 10 then (false,x.2) else (x.1,x.2*10+d)
theorem CT (x:Bool×Nat)(h:i<s.size)(b:zT (bt s i)=true):dR s (s.size-i) i x=dR s (s.size-(i+1)) (i+1) (lU x (bt s i-48)):=by
 obtain⟨m,a⟩:∃m,s.size-i=m+1:=⟨s.size-i-1,by omega⟩;rw[a,show s.size-(i+1)=m by omega]
 show (if i<s.size/\zT (bt s i)=true then _ else x)=_;rw[ag ⟨h,b⟩];rfl
theorem uz (x:Bool×Nat)(h:s.size<=i∨zT (bt s i)=false):dR s (s.size-i) i x=x:=by
 cases c:s.size-i with
 | zero=>rfl
 | succ m => show (if i<s.size/\zT (bt s i)=true then _ else x)=_;rw[ae (by rintro⟨b,a⟩;rcases h with h|h;omega;rw[h] at a;cases a)]
theorem uM {a k:Nat}{x:Bool×Nat}(b:zQ zT s a=k)(c:dR s (s.size-a) a (true,0)=x):fc s a=⟨if x.1 then 3 else 1,a,k,⟨#[48]⟩,x.2⟩:=by unfold fc;simp only[b,c]
def qd (b:Bool):Int:=if b then 3 else 1
theorem CK (s:Xb)(a:Nat)(w:Xw)(F:s.size<=1200)(u:a<=s.size):xK 256 #[.string s,xI a] w λe C=>e=.returned (.agg #[.int .i64 (fc s a).k,xI a,.int .i64 (fc s a).t,.string (fc s a).s,.int .i64 (fc s a).n])/\xB w C:=by
 go_enter func256,ntmps256;go_wp2;go_loop [5,6,7,8] (λi n B _=>∃(k:Nat) (x:Bool×Nat),a<=k/\k<=s.size/\x.2<=9223372036854775807/\i=xI k/\n=.int .u64 x.2/\B=xI (qd x.1)/\aa (zQ zT s k=zQ zT s a)/\aa (dR s (s.size-k) k x=dR s (s.size-a) a (true,0))) (λi _ _ _=>s.size-(intOf i).toNat)
 case atStart=>exact⟨a,(true,0),an _,u,by decide,rfl,rfl,rfl,rfl,rfl⟩
 case round =>
  obtain⟨k,⟨d,b⟩,z,E,t,rfl,rfl,rfl,l,j⟩:=hrel;simp only at t;by_cases g:k<s.size
  . have y:=kb g;obtain⟨c,p⟩:∃c,bt s k=c:=⟨_,rfl⟩;rw[p] at y;have m:aa (bt s k=c):=p;clear p;by_cases h1:48<=c/\c<=57
    . obtain⟨h1,D⟩:=h1;have h:aa (zQ zT s (k+1)=zQ zT s a):=(kJ g (by rw[m.o];simp[zT];omega)).symm.trans l.o;have f:aa (dR s (s.size-(k+1)) (k+1) (lU (d,b) (c-48))=dR s (s.size-a) a (true,0)):=(by have:=(CT (d,b) g (by rw[m.o];simp[zT];omega)).symm.trans j.o;rw[m.o] at this;exact this);clear l j;by_cases A:(9223372036854775807-((c:Int)-48)) / 10<b
      . have o:aa (lU (d,b) (c-48)=(false,b)):=(by unfold aa lU;rw[ag (by simp only;omega)]);go_wp2_with fail;go_round
        case rel=>exact⟨k+1,(false,b),by omega,by omega,t,by go_num,rfl,rfl,h,by rw[o.o] at f;exact f⟩
        case measure=>simp[intOf];omega
      have o:aa (lU (d,b) (c-48)=(d,b*10+(c-48))):=(by unfold aa lU;rw[ae (by simp only;omega)]);have r:(b:Int)*10+(c-48)<=9223372036854775807:=(by omega);go_wp2_with fail;go_round
      case rel=>exact⟨k+1,(d,b*10+(c-48)),by omega,by omega,by simp only;omega,by go_num,by congr 1;simp only;omega,rfl,h,by rw[o.o] at f;exact f⟩
      case measure=>simp[intOf];omega
    have h:aa (zQ zT s a=k):=l.o.symm.trans (nW (by rw[m.o];simp[zT];omega));have f:aa (dR s (s.size-a) a (true,0)=(d,b)):=j.o.symm.trans (uz _ (ap (by rw[m.o];simp[zT];omega)));clear l j;have q:c<48∨57<c:=(by omega);clear h1;rcases q with h1|h1
    all_goals
     go_wp2_with fail;refine bodyPost_ret (v:=.agg #[xI (qd d),xI a,xI k,.string ⟨#[48]⟩,xI b]) (by simp[results,results256,go_sem]) rfl ⟨?_,?_⟩
     . rw[uM h.o f.o];cases d <;> rfl
     exact ((Below.refl _ _).alloc (an _) _)
  have h:aa (zQ zT s a=k):=l.o.symm.trans (nY (by omega));have f:aa (dR s (s.size-a) a (true,0)=(d,b)):=j.o.symm.trans (uz _ (ao (by omega)));clear l j;go_wp2_with fail;refine bodyPost_ret (v:=.agg #[xI (qd d),xI a,xI k,.string ⟨#[48]⟩,xI b]) (by simp[results,results256,go_sem]) rfl ⟨?_,?_⟩
  . rw[uM h.o f.o];cases d <;> rfl
  exact ((Below.refl _ _).alloc (an _) _)
end
section
open Go.RowKit
variable {s:Xb} {a c:Nat}
theorem pW (s:Xb)(a b:Nat)(e:Int)(d:e=b)(f:a<=b)(g:b<=s.size)(w:Xw):(Instr.slice 9 (.string s) (some (xI a)) (some (xI e)) none).run prog w=.ok (.string (s.extract a b)) w:=by subst d;rw[run_slice_string _ _ _ _ _ _ _ underlying9 (by omega) (by omega) (by omega)];rfl
theorem DG (h:a+2<=s.size)(b:((s.extract a (a+2)).toList==[45,62]||(s.extract a (a+2)).toList==[60,62]||(s.extract a (a+2)).toList==[60,61])=true):dT s a=⟨4,a,a+2,s.extract a (a+2),0⟩:=by unfold dT;rw[ag ⟨h,b⟩]
theorem C2 (d:bt s a=c)(h:¬(a+2<=s.size/\((s.extract a (a+2)).toList==[45,62]||(s.extract a (a+2)).toList==[60,62]||(s.extract a (a+2)).toList==[60,61])=true))(b:hs c=true):dT s a=⟨4,a,a+1,s.extract a (a+1),0⟩:=by unfold dT;rw[ae h,d,ag b]
theorem Cm (d:bt s a=c)(h:¬(a+2<=s.size/\((s.extract a (a+2)).toList==[45,62]||(s.extract a (a+2)).toList==[60,62]||(s.extract a (a+2)).toList==[60,61])=true))(b:hs c=false):dT s a=⟨1,a,a,⟨#[]⟩,0⟩:=by unfold dT;rw[ae h,d,ae (by rw[b];simp)]
def lC (s:Xb)(a:Nat)(w:Xw):Prop:=xK 257 #[.string s,xI a] w λe b=>e=.returned (.agg #[.int .i64 (dT s a).k,xI a,.int .i64 (dT s a).t,.string (dT s a).s,xI 0])/\xB w b
theorem Cn (s:Xb)(a:Nat)(w:Xw)(j:s.size<=1200)(d:a+2<=s.size)(b:((s.extract a (a+2)).toList==[45,62]||(s.extract a (a+2)).toList==[60,62]||(s.extract a (a+2)).toList==[60,61])=true):lC s a w:=by
 unfold lC;rw[DG d b];have h:=pW s a (a+2) ((a:Int)+2) (by omega) (by omega) d;generalize i:(s.extract a (a+2))=y at *;clear i;cases e:(y.toList==[45,62]) <;> cases f:(y.toList==[60,62]) <;> cases g:(y.toList==[60,61]);case false.false.false=>rw[e,f,g] at b;cases b
 all_goals
  clear b;go_enter func257,ntmps257;go_wp2;refine bodyPost_ret (v:=.agg #[xI 4,xI a,xI ((a:Int)+2),.string y,xI 0]) (by simp[results,results257,go_sem]) rfl ⟨?_,?_⟩
  . rfl
  exact ((Below.refl _ _).alloc (an _) _)
theorem De (s:Xb)(a c:Nat)(w:Xw)(r:s.size<=1200)(n:a<s.size)(d:bt s a=c)(f:¬(a+2<=s.size/\((s.extract a (a+2)).toList==[45,62]||(s.extract a (a+2)).toList==[60,62]||(s.extract a (a+2)).toList==[60,61])=true))(e:hs c=true):lC s a w:=by
 unfold lC;rw[C2 d f e];have o:=kb n;rw[d] at o;clear d;have p:=pW s a (a+1) ((a:Int)+1) (by omega) (by omega) (by omega);have b:c=40∨c=41∨c=123∨c=125∨c=58∨c=59∨c=44∨c=61∨c=60∨c=43∨c=45∨c=42∨c=47∨c=37:=by simpa [hs] using e
 clear e;by_cases m:a+2<=s.size
 . have i:=pW s a (a+2) ((a:Int)+2) (by omega) (by omega) m;have g:((s.extract a (a+2)).toList==[45,62])=false/\((s.extract a (a+2)).toList==[60,62])=false/\((s.extract a (a+2)).toList==[60,61])=false:=by cases j:((s.extract a (a+2)).toList==[45,62]) <;> cases k:((s.extract a (a+2)).toList==[60,62]) <;> cases l:((s.extract a (a+2)).toList==[60,61]) <;> simp_all
   clear f;generalize q:(s.extract a (a+2))=y at *;clear q;obtain⟨j,k,l⟩:=g;rcases b with h|h|h|h|h|h|h|h|h|h|h|h|h|h
   all_goals
    subst h;go_enter func257,ntmps257;go_wp2;refine bodyPost_ret (v:=.agg #[xI 4,xI a,xI ((a:Int)+1),.string (s.extract a (a+1)),xI 0]) (by simp[results,results257,go_sem]) rfl ⟨?_,?_⟩
    . rfl
    exact ((Below.refl _ _).alloc (an _) _)
 clear f;rcases b with h|h|h|h|h|h|h|h|h|h|h|h|h|h
 all_goals
  subst h;go_enter func257,ntmps257;go_wp2;refine bodyPost_ret (v:=.agg #[xI 4,xI a,xI ((a:Int)+1),.string (s.extract a (a+1)),xI 0]) (by simp[results,results257,go_sem]) rfl ⟨?_,?_⟩
  . rfl
  exact ((Below.refl _ _).alloc (an _) _)
theorem Dc (s:Xb)(a c:Nat)(w:Xw)(H:s.size<=1200)(r:a<s.size)(b:bt s a=c)(f:¬(a+2<=s.size/\((s.extract a (a+2)).toList==[45,62]||(s.extract a (a+2)).toList==[60,62]||(s.extract a (a+2)).toList==[60,61])=true))(d:hs c=false):lC s a w:=by
 unfold lC;rw[Cm b f d];have t:=kb r;rw[b] at t;clear b;have e:((c:Int)==40)=false/\((c:Int)==41)=false/\((c:Int)==123)=false/\((c:Int)==125)=false/\((c:Int)==58)=false/\((c:Int)==59)=false/\((c:Int)==44)=false/\((c:Int)==61)=false/\((c:Int)==60)=false/\((c:Int)==43)=false/\((c:Int)==45)=false/\((c:Int)==42)=false/\((c:Int)==47)=false/\((c:Int)==37)=false:=by
  have:¬c=40/\¬c=41/\¬c=123/\¬c=125/\¬c=58/\¬c=59/\¬c=44/\¬c=61/\¬c=60/\¬c=43/\¬c=45/\¬c=42/\¬c=47/\¬c=37:=by simpa [hs] using d
  simp only[bf];omega
 clear d;obtain⟨x,z,A,B,C,D,E,F,G,l,m,n,o,p⟩:=e;by_cases q:a+2<=s.size
 . have h:=pW s a (a+2) ((a:Int)+2) (by omega) (by omega) q;have g:((s.extract a (a+2)).toList==[45,62])=false/\((s.extract a (a+2)).toList==[60,62])=false/\((s.extract a (a+2)).toList==[60,61])=false:=by cases i:((s.extract a (a+2)).toList==[45,62]) <;> cases j:((s.extract a (a+2)).toList==[60,62]) <;> cases k:((s.extract a (a+2)).toList==[60,61]) <;> simp_all
   clear f;generalize u:(s.extract a (a+2))=y at *;clear u;obtain⟨i,j,k⟩:=g;go_enter func257,ntmps257;go_wp2;refine bodyPost_ret (v:=.agg #[xI 1,xI a,xI a,.string ⟨#[]⟩,xI 0]) (by simp[results,results257,go_sem]) rfl ⟨?_,?_⟩
   . rfl
   exact ((Below.refl _ _).alloc (an _) _)
 clear f;go_enter func257,ntmps257;go_wp2;refine bodyPost_ret (v:=.agg #[xI 1,xI a,xI a,.string ⟨#[]⟩,xI 0]) (by simp[results,results257,go_sem]) rfl ⟨?_,?_⟩
 . rfl
 exact ((Below.refl _ _).alloc (an _) _)
theorem C4 (s:Xb)(a:Nat)(w:Xw)(b:s.size<=1200)(d:a<s.size):lC s a w:=by
 by_cases h:a+2<=s.size/\((s.extract a (a+2)).toList==[45,62]||(s.extract a (a+2)).toList==[60,62]||(s.extract a (a+2)).toList==[60,61])=true
 . exact Cn s a w b h.1 h.2
 cases e:hs (bt s a) with
 | true=>exact De s a _ w b d rfl h e
 | false=>exact Dc s a _ w b d rfl h e
end
section
open Go.RowKit
variable {s:Xb} {a p:Nat}
def Tk.val (t:Tk):Value:=.agg #[xI t.k,xI t.a,xI t.t,.string t.s,xI t.n]
theorem uq (s:Xb)(a:Nat):(dT s a).a=a/\(dT s a).n=0:=by unfold dT;split;exact⟨rfl,rfl⟩;split <;> exact⟨rfl,rfl⟩
theorem Du (h:zQ cM s p=a)(b:a=s.size):zZ s p=⟨0,a,a,⟨#[]⟩,0⟩:=by unfold zZ;simp only[h];rw[ag b]
theorem Df (h:zQ cM s p=a)(b:¬a=s.size)(c:gv (bt s a)=true):zZ s p=eM s a:=by unfold zZ;simp only[h];rw[ae b,ag c]
theorem Dt (h:zQ cM s p=a)(b:¬a=s.size)(c:gv (bt s a)=false)(d:zT (bt s a)=true):zZ s p=fc s a:=by unfold zZ;simp only[h];rw[ae b,ae (by rw[c];simp),ag d]
theorem CA (h:zQ cM s p=a)(b:¬a=s.size)(c:gv (bt s a)=false)(d:zT (bt s a)=false):zZ s p=dT s a:=by unfold zZ;simp only[h];rw[ae b,ae (by rw[c];simp),ae (by rw[d];simp)]
theorem DS (s:Xb)(p:Nat)(w:Xw)(t:s.size<=1200)(B:p<=s.size):xK 205 #[.string s,xI p] w λe m=>e=.returned (zZ s p).val/\xB w m:=by
 go_enter func205,ntmps205;go_wp2_with fail;go_loop [1] (λi=>∃k:Nat,p<=k/\k<=s.size/\i=xI k/\aa (zQ cM s k=zQ cM s p)) (λi=>s.size-(intOf i).toNat)
 case atStart=>exact⟨p,an _,B,rfl,rfl⟩
 case round =>
  obtain⟨k,A,u,rfl,n⟩:=hrel;by_cases l:k<s.size
  . have z:=kb l;obtain⟨c,q⟩:∃c,bt s k=c:=⟨_,rfl⟩;rw[q] at z;have j:aa (bt s k=c):=q;clear q;by_cases h1:c=32∨c=10
    . have f:aa (zQ cM s (k+1)=zQ cM s p):=(kJ l (by rw[j.o];simp[cM];omega)).symm.trans n.o;clear n;rcases h1 with h1|h1
      all_goals
       subst h1;go_wp2_with fail;go_round
       case rel=>exact⟨k+1,by omega,by omega,by go_num,f⟩
       case measure=>simp[intOf];omega
    have f:aa (zQ cM s p=k):=n.o.symm.trans (nW (by rw[j.o];simp[cM];omega));have C:((c:Int)==32)=false:=bf.2 (by omega);have D:((c:Int)==10)=false:=bf.2 (by omega);have y:((k:Int)==(s.size:Int))=false:=bf.2 (by omega);clear n h1;have r:(97<=c/\c<=122)∨(48<=c/\c<=57)∨(¬(97<=c/\c<=122)/\¬(48<=c/\c<=57)):=(by omega);rcases r with h|h|h
    . have d1:(decide (97<=(c:Int))&&decide ((c:Int)<=122))=true:=(by simp;omega);have d2:(decide (48<=(c:Int))&&decide ((c:Int)<=57))=false:=(by simp;omega);have g:aa (zZ s p=eM s k):=Df f.o (by omega) (by rw[j.o];simp[gv];omega);clear h;go_wp2_with (first|(go_at_call 253;refine (qp _ _).mono ?_;rintro e m ⟨rfl,rfl⟩)|(go_at_call 254;refine (qo _ _).mono ?_;rintro e m ⟨rfl,rfl⟩));refine ((DH s k _ t u)).mono ?_;rintro e x ⟨rfl,b⟩;obtain⟨d,o⟩:=mD b;go_wp2_with fail;refine bodyPost_ret (v:=.agg #[.int .i64 (eM s k).k,xI k,.int .i64 (eM s k).t,.string (eM s k).s,xI 0]) (by simp[results,results205,go_sem,d]) rfl ⟨?_,?_⟩
      . rw[g.o];rfl
      exact ((((((((Below.refl _ _).alloc (an _) _).trans (b.mono (by simp)))).setCell (an _) _).setCell (an _) _).setCell (an _) _).setCell (an _) _).setCell (an _) _
    . have d1:(decide (97<=(c:Int))&&decide ((c:Int)<=122))=false:=(by simp;omega);have d2:(decide (48<=(c:Int))&&decide ((c:Int)<=57))=true:=(by simp;omega);have g:aa (zZ s p=fc s k):=Dt f.o (by omega) (by rw[j.o];simp[gv];omega) (by rw[j.o];simp[zT];omega);clear h;go_wp2_with (first|(go_at_call 253;refine (qp _ _).mono ?_;rintro e m ⟨rfl,rfl⟩)|(go_at_call 254;refine (qo _ _).mono ?_;rintro e m ⟨rfl,rfl⟩));refine ((CK s k _ t u)).mono ?_;rintro e x ⟨rfl,b⟩;obtain⟨d,o⟩:=mD b;go_wp2_with fail;refine bodyPost_ret (v:=.agg #[.int .i64 (fc s k).k,xI k,.int .i64 (fc s k).t,.string (fc s k).s,.int .i64 (fc s k).n]) (by simp[results,results205,go_sem,d]) rfl ⟨?_,?_⟩
      . rw[g.o];rfl
      exact ((((((((Below.refl _ _).alloc (an _) _).trans (b.mono (by simp)))).setCell (an _) _).setCell (an _) _).setCell (an _) _).setCell (an _) _).setCell (an _) _
    have d1:(decide (97<=(c:Int))&&decide ((c:Int)<=122))=false:=(by simp;omega);have d2:(decide (48<=(c:Int))&&decide ((c:Int)<=57))=false:=(by simp;omega);have g:aa (zZ s p=dT s k):=CA f.o (by omega) (by rw[j.o];simp[gv];omega) (by rw[j.o];simp[zT];omega);clear h;go_wp2_with (first|(go_at_call 253;refine (qp _ _).mono ?_;rintro e m ⟨rfl,rfl⟩)|(go_at_call 254;refine (qo _ _).mono ?_;rintro e m ⟨rfl,rfl⟩));refine ((C4 s k _ t l)).mono ?_;rintro e x ⟨rfl,b⟩;obtain⟨d,o⟩:=mD b;go_wp2_with fail;refine bodyPost_ret (v:=.agg #[.int .i64 (dT s k).k,xI k,.int .i64 (dT s k).t,.string (dT s k).s,xI 0]) (by simp[results,results205,go_sem,d]) rfl ⟨?_,?_⟩
    . rw[g.o];unfold Tk.val;rw[(uq s k).1,(uq s k).2];rfl
    exact ((((((((Below.refl _ _).alloc (an _) _).trans (b.mono (by simp)))).setCell (an _) _).setCell (an _) _).setCell (an _) _).setCell (an _) _).setCell (an _) _
  have f:aa (zQ cM s p=k):=n.o.symm.trans (nY (by omega));have y:((k:Int)==(s.size:Int))=true:=beq_iff_eq.2 (by omega);have g:aa (zZ s p=⟨0,k,k,⟨#[]⟩,0⟩):=Du f.o (by omega);clear n;go_wp2_with fail;refine bodyPost_ret (v:=.agg #[xI 0,xI k,xI k,.string ⟨#[]⟩,xI 0]) (by simp[results,results205,go_sem]) rfl ⟨?_,?_⟩
  . rw[g.o];rfl
  exact ((Below.refl _ _).alloc (an _) _)
end
section
structure Ex where
 op:ByteArray
 a:Nat
 nm:Nat
 ah:List Nat
 s:ByteArray
 n:Nat
structure St where
 src:ByteArray
 t:Tk
 op:Nat
 er:Nat
 at':Nat
 L:List Ex
def St.bad (a:St):St:={ a with t:=⟨1,a.t.a,a.t.t,⟨#[]⟩,0⟩ }
def St.fail (b:St)(e a:Nat):St:=if b.er=0 then { b with er:=e,at':=a,t:=⟨1,b.t.a,b.t.t,⟨#[]⟩,0⟩ } else { b with t:=⟨1,b.t.a,b.t.t,⟨#[]⟩,0⟩ }
def St.ad (a:St):St:=if a.er=0 then { a with t:=zZ a.src a.t.t } else a
def St.is (a:St)(k:Nat)(l:Xu):Bool:=a.t.k==k&&a.t.s.toList==l
def St.ac (a:St)(k:Nat)(l:Xu):St:=if a.is k l=true then a.ad else a.fail 2 a.t.a
def St.name (a:St):St:=if a.t.k=2 then a.ad else a.fail 2 a.t.a
def St.enter (a:St):St:=if 16<a.op+1 then ({ a with op:=a.op+1 }:St).fail 3 a.t.a else ({ a with op:=a.op+1 }:St).ad
def St.aI (a:St):St:={ a with op:=a.op-1 }
def St.add (a:St)(e:Ex):St:={ a with L:=a.L++[e] }
structure St.Ok (st:St):Prop where
 src:st.src.size<=1200
 tt:st.t.t<=st.src.size
 ta:st.t.a<=st.t.t
 tn:st.t.n<=9223372036854775807
 op:st.op<=100
 er:st.er<=11
 at':st.at'<=1200
 tk:st.t.k<=5
theorem Kc (s:Xb):∀f i (x:Bool×Nat),x.2<=9223372036854775807->(dR s f i x).2<=9223372036854775807:=by
 intro f;induction f with
 | zero=>intro i x h;exact h
 | succ f c =>
   intro i x h
   show (if i<s.size/\zT (bt s i)=true then _ else x).2<=_;split
   . apply c
     rename_i a
     have b:bt s i-48<=9:=(by have:=a.2;simp[zT] at this;omega);split
     . exact h
     show x.2*10+(bt s i-48)<=_;omega
   exact h
theorem zV (s:Xb)(p:Nat)(k:p<=s.size):p<=(zZ s p).a/\(zZ s p).a<=(zZ s p).t/\(zZ s p).t<=s.size/\(zZ s p).n<=9223372036854775807/\(zZ s p).k<=5/\(2<=(zZ s p).k->(zZ s p).a<(zZ s p).t):=by
 have b:=ll cM s p;have d:=jl cM s p k;unfold zZ;simp only;generalize zQ cM s p=a at *;split
 . refine⟨b,an _,d,by simp,by simp,λh=>?_⟩;simp only at h;omega
 rename_i j
 have c:a<s.size:=by omega
 split
 . rename_i i
   have f:a+1<=zQ b6 s a:=(by rw[kJ c (by simp[b6,i])];exact ll _ _ _);have e:=jl b6 s a d;unfold eM;simp only;refine⟨b,by omega,e,by simp,?_,λ_=>by omega⟩;split;omega;split <;> omega
 split
 . rename_i g
   have f:a+1<=zQ zT s a:=(by rw[kJ c g];exact ll _ _ _);have e:=jl zT s a d;unfold fc;simp only;refine⟨b,by omega,e,Kc _ _ _ _ (by simp),?_,λ_=>by omega⟩;split <;> omega
 unfold dT;split
 . rename_i h;exact⟨b,by simp only;omega,h.1,by simp,by simp,λ_=>by simp only;omega⟩
 split
 . exact⟨b,by simp only;omega,by simp only;omega,by simp,by simp,λ_=>by simp only;omega⟩
 exact⟨b,an _,d,by simp,by simp,λh=>by simp only at h;omega⟩
theorem St.Ok.fail {g:St}(h:g.Ok){e a:Nat}(l:e<=11)(k:a<=1200):(g.fail e a).Ok:=by
 have b:=h.src;have c:=h.tt;have d:=h.ta;have m:=h.tn;have f:=h.op;have i:=h.er;have j:=h.at';have n:=h.tk;unfold St.fail;split
 . exact⟨b,c,d,by simp,f,l,k,by simp⟩
 exact⟨b,c,d,by simp,f,i,j,by simp⟩
theorem St.Ok.ad {a:St}(h:a.Ok):a.ad.Ok:=by
 unfold St.ad;split
 . obtain⟨f,b,c,d,e,g⟩:=zV a.src a.t.t h.tt;exact⟨h.src,c,b,d,h.op,h.er,h.at',e⟩
 exact h
theorem St.Ok.bR {a:St}(h:a.Ok):a.t.a<=1200:=aJ h.ta (aJ h.tt h.src)
theorem St.Ok.opened {a:St}(h:a.Ok)(o:a.op<100):({ a with op:=a.op+1 }:St).Ok:=⟨h.src,h.tt,h.ta,h.tn,by simp only;omega,h.er,h.at',h.tk⟩
theorem St.Ok.enter {a:St}(h:a.Ok)(o:a.op<100):a.enter.Ok:=by
 unfold St.enter;split
 . exact (h.opened o).fail (by omega) h.bR
 exact (h.opened o).ad
theorem St.Ok.aI {a:St}(h:a.Ok):a.aI.Ok:=⟨h.src,h.tt,h.ta,h.tn,by unfold St.aI;simp only;have:=h.op;omega,h.er,h.at',h.tk⟩
theorem St.Ok.add {a:St}(h:a.Ok)(e:Ex):(a.add e).Ok:=⟨h.src,h.tt,h.ta,h.tn,h.op,h.er,h.at',h.tk⟩
end
section
open Go.RowKit
variable {c:Nat} {st:St} {w d:Xw}
structure Fx where
 aA:Value
 nm:ByteArray
 na:Int
 vs:Value
 qs:Value
def St.rd (F:Fx)(a:Xv)(st:St):Rd:=⟨F.aA,st.src,st.t.k,st.t.a,st.t.t,st.t.s,st.t.n,st.op,st.er,st.at',F.nm,F.na,F.vs,a,F.qs⟩
structure Rw where
 v:Value
 ah:List Value
def zs (w:Xw)(c:Nat)(F:Fx)(a:Rw)(st:St):Prop:=(st.rd F a.v).at w c
theorem zs.cells {F:Fx}{a:Rw}(h:zs w c F a st) :
 (xC w c 0 F.aA)/\xC w c 1 (.string st.src)/\xC w c 2 (xI st.t.k)/\xC w c 3 (xI st.t.a) /\
 (xC w c 4 (xI st.t.t))/\xC w c 5 (.string st.t.s)/\xC w c 6 (xI st.t.n)/\xC w c 7 (xI st.op) /\
 (xC w c 8 (xI st.er))/\xC w c 9 (xI st.at')/\xC w c 10 (.string F.nm)/\xC w c 11 (xI F.na) /\
 (xC w c 12 F.vs)/\xC w c 13 a.v/\xC w c 14 F.qs:=Rd.at.cells h
theorem zs.frozen {F:Fx}{a:Rw}(h:zs w c F a st)(i:Nat):w.frozen? (xD c i)=false:=Rd.at.frozen h i
theorem zs.lt {F:Fx}{a:Rw}(h:zs w c F a st):c<w.heap.size:=Rd.at.lt h
theorem zs.kept {F:Fx}{a:Rw}(h:zs w c F a st)(b:d.heap[c]?=w.heap[c]?):zs d c F a st:=by unfold zs Rd.at at *;rw[b,h]
theorem zs.alloc {F:Fx}{a:Rw}(h:zs w c F a st)(o:Obj):zs (w.alloc o) c F a st:=h.kept (Below.heap_alloc _ _ _ h.lt)
theorem zs.drew {F:Fx}{a:Rw}(h:zs w c F a st):zs w.drew c F a st:=h
theorem zs.below {F:Fx}{a:Rw}(h:zs w c F a st)(b:xB w d):zs d c F a st:=h.kept (b.block c h.lt)
theorem zs.aU {F:Fx}{a:Rw}(h:zs w c F a st){b:Nat}(e:c≠b)(i:Nat)(v:Xv):zs (w.setCell (xD b i) v) c F a st:=h.kept (Below.heap_setCell _ _ _ _ e)
theorem zs.hd {F:Fx}{a:Rw}(h:zs w c F a st)(t:Tk):zs (((((w.setCell (xD c 2) (xI t.k)).setCell (xD c 3) (xI t.a)).setCell (xD c 4) (xI t.t)).setCell (xD c 5) (.string t.s)).setCell (xD c 6) (xI t.n)) c F a { st with t:=t }:=by have b:xH w c #[F.aA,.string st.src,xI st.t.k,xI st.t.a,xI st.t.t,.string st.t.s,xI st.t.n,xI st.op,xI st.er,xI st.at',.string F.nm,xI F.na,F.vs,a.v,F.qs] 272:=h;have e:xH (w.setCell (xD c 2) (xI t.k)) c #[F.aA,.string st.src,xI t.k,xI st.t.a,xI st.t.t,.string st.t.s,xI st.t.n,xI st.op,xI st.er,xI st.at',.string F.nm,xI F.na,F.vs,a.v,F.qs] 272:=zh _ _ _ _ b;have f:((w.setCell (xD c 2) (xI t.k)).setCell (xD c 3) (xI t.a)).heap[c]?=some (.cells #[F.aA,.string st.src,xI t.k,xI t.a,xI st.t.t,.string st.t.s,xI st.t.n,xI st.op,xI st.er,xI st.at',.string F.nm,xI F.na,F.vs,a.v,F.qs] 272 (0,0)):=zh _ _ _ _ e;have g:(((w.setCell (xD c 2) (xI t.k)).setCell (xD c 3) (xI t.a)).setCell (xD c 4) (xI t.t)).heap[c]?=some (.cells #[F.aA,.string st.src,xI t.k,xI t.a,xI t.t,.string st.t.s,xI st.t.n,xI st.op,xI st.er,xI st.at',.string F.nm,xI F.na,F.vs,a.v,F.qs] 272 (0,0)):=zh _ _ _ _ f;have i:((((w.setCell (xD c 2) (xI t.k)).setCell (xD c 3) (xI t.a)).setCell (xD c 4) (xI t.t)).setCell (xD c 5) (.string t.s)).heap[c]?=some (.cells #[F.aA,.string st.src,xI t.k,xI t.a,xI t.t,.string t.s,xI st.t.n,xI st.op,xI st.er,xI st.at',.string F.nm,xI F.na,F.vs,a.v,F.qs] 272 (0,0)):=zh _ _ _ _ g;have j:(((((w.setCell (xD c 2) (xI t.k)).setCell (xD c 3) (xI t.a)).setCell (xD c 4) (xI t.t)).setCell (xD c 5) (.string t.s)).setCell (xD c 6) (xI t.n)).heap[c]?=some (.cells #[F.aA,.string st.src,xI t.k,xI t.a,xI t.t,.string t.s,xI t.n,xI st.op,xI st.er,xI st.at',.string F.nm,xI F.na,F.vs,a.v,F.qs] 272 (0,0)):=zh _ _ _ _ i;exact j
theorem zs.qj {F:Fx}{b:Rw}(h:zs w c F b st)(e a:Nat):zs ((w.setCell (xD c 8) (xI e)).setCell (xD c 9) (xI a)) c F b { st with er:=e,at':=a }:=by have f:xH w c #[F.aA,.string st.src,xI st.t.k,xI st.t.a,xI st.t.t,.string st.t.s,xI st.t.n,xI st.op,xI st.er,xI st.at',.string F.nm,xI F.na,F.vs,b.v,F.qs] 272:=h;have g:xH (w.setCell (xD c 8) (xI e)) c #[F.aA,.string st.src,xI st.t.k,xI st.t.a,xI st.t.t,.string st.t.s,xI st.t.n,xI st.op,xI e,xI st.at',.string F.nm,xI F.na,F.vs,b.v,F.qs] 272:=zh _ _ _ _ f;have i:((w.setCell (xD c 8) (xI e)).setCell (xD c 9) (xI a)).heap[c]?=some (.cells #[F.aA,.string st.src,xI st.t.k,xI st.t.a,xI st.t.t,.string st.t.s,xI st.t.n,xI st.op,xI e,xI a,.string F.nm,xI F.na,F.vs,b.v,F.qs] 272 (0,0)):=zh _ _ _ _ g;exact i
theorem zs.mU {F:Fx}{a:Rw}(h:zs w c F a st)(o:Nat):zs (w.setCell (xD c 7) (xI o)) c F a { st with op:=o }:=by have b:xH w c #[F.aA,.string st.src,xI st.t.k,xI st.t.a,xI st.t.t,.string st.t.s,xI st.t.n,xI st.op,xI st.er,xI st.at',.string F.nm,xI F.na,F.vs,a.v,F.qs] 272:=h;have e:xH (w.setCell (xD c 7) (xI o)) c #[F.aA,.string st.src,xI st.t.k,xI st.t.a,xI st.t.t,.string st.t.s,xI st.t.n,xI o,xI st.er,xI st.at',.string F.nm,xI F.na,F.vs,a.v,F.qs] 272:=zh _ _ _ _ b;exact e
theorem zs.tC {F:Fx}{a:Rw}(h:zs w c F a st)(v:Xv)(l:Xm):zs (w.setCell (xD c 13) (v)) c F ⟨v,l⟩ st:=by have b:xH w c #[F.aA,.string st.src,xI st.t.k,xI st.t.a,xI st.t.t,.string st.t.s,xI st.t.n,xI st.op,xI st.er,xI st.at',.string F.nm,xI F.na,F.vs,a.v,F.qs] 272:=h;have e:xH (w.setCell (xD c 13) (v)) c #[F.aA,.string st.src,xI st.t.k,xI st.t.a,xI st.t.t,.string st.t.s,xI st.t.n,xI st.op,xI st.er,xI st.at',.string F.nm,xI F.na,F.vs,v,F.qs] 272:=zh _ _ _ _ b;exact e
theorem zs.ty {F:Fx}{a:Rw}(h:zs w c F a st)(v:Nat):zs (w.setCell (xD c 11) (xI v)) c { F with na:=v } a st:=by have b:xH w c #[F.aA,.string st.src,xI st.t.k,xI st.t.a,xI st.t.t,.string st.t.s,xI st.t.n,xI st.op,xI st.er,xI st.at',.string F.nm,xI F.na,F.vs,a.v,F.qs] 272:=h;have e:xH (w.setCell (xD c 11) (xI v)) c #[F.aA,.string st.src,xI st.t.k,xI st.t.a,xI st.t.t,.string st.t.s,xI st.t.n,xI st.op,xI st.er,xI st.at',.string F.nm,xI v,F.vs,a.v,F.qs] 272:=zh _ _ _ _ b;exact e
theorem zs.tz {F:Fx}{a:Rw}(h:zs w c F a st)(v:Xb):zs (w.setCell (xD c 10) (.string v)) c { F with nm:=v } a st:=by have b:xH w c #[F.aA,.string st.src,xI st.t.k,xI st.t.a,xI st.t.t,.string st.t.s,xI st.t.n,xI st.op,xI st.er,xI st.at',.string F.nm,xI F.na,F.vs,a.v,F.qs] 272:=h;have e:xH (w.setCell (xD c 10) (.string v)) c #[F.aA,.string st.src,xI st.t.k,xI st.t.a,xI st.t.t,.string st.t.s,xI st.t.n,xI st.op,xI st.er,xI st.at',.string v,xI F.na,F.vs,a.v,F.qs] 272:=zh _ _ _ _ b;exact e
theorem zs.tB {F:Fx}{a:Rw}(h:zs w c F a st)(v:Xv):zs (w.setCell (xD c 12) (v)) c { F with vs:=v } a st:=by have b:xH w c #[F.aA,.string st.src,xI st.t.k,xI st.t.a,xI st.t.t,.string st.t.s,xI st.t.n,xI st.op,xI st.er,xI st.at',.string F.nm,xI F.na,F.vs,a.v,F.qs] 272:=h;have e:xH (w.setCell (xD c 12) (v)) c #[F.aA,.string st.src,xI st.t.k,xI st.t.a,xI st.t.t,.string st.t.s,xI st.t.n,xI st.op,xI st.er,xI st.at',.string F.nm,xI F.na,v,a.v,F.qs] 272:=zh _ _ _ _ b;exact e
theorem zs.tA {F:Fx}{a:Rw}(h:zs w c F a st)(v:Xv):zs (w.setCell (xD c 14) (v)) c { F with qs:=v } a st:=by have b:xH w c #[F.aA,.string st.src,xI st.t.k,xI st.t.a,xI st.t.t,.string st.t.s,xI st.t.n,xI st.op,xI st.er,xI st.at',.string F.nm,xI F.na,F.vs,a.v,F.qs] 272:=h;have e:xH (w.setCell (xD c 14) (v)) c #[F.aA,.string st.src,xI st.t.k,xI st.t.a,xI st.t.t,.string st.t.s,xI st.t.n,xI st.op,xI st.er,xI st.at',.string F.nm,xI F.na,F.vs,a.v,v] 272:=zh _ _ _ _ b;exact e
theorem zs.BD {F:Fx}{a:Rw}(h:zs w c F a st)(v:Xv):zs (w.setCell (xD c 0) (v)) c { F with aA:=v } a st:=by have b:xH w c #[F.aA,.string st.src,xI st.t.k,xI st.t.a,xI st.t.t,.string st.t.s,xI st.t.n,xI st.op,xI st.er,xI st.at',.string F.nm,xI F.na,F.vs,a.v,F.qs] 272:=h;have e:xH (w.setCell (xD c 0) (v)) c #[v,.string st.src,xI st.t.k,xI st.t.a,xI st.t.t,.string st.t.s,xI st.t.n,xI st.op,xI st.er,xI st.at',.string F.nm,xI F.na,F.vs,a.v,F.qs] 272:=zh _ _ _ _ b;exact e
theorem DW (c:Nat)(F:Fx)(m:Rw)(st:St)(k:Nat)(s:Xb)(w:Xw)(f:zs w c F m st):xK 210 #[xP c,xI k,.string s] w λe d=>e=.returned (.bool (st.is k s.toList))/\d=w:=by
 obtain⟨n,o,p,q,r,t,u,v,x,y,g,h,i,j,l⟩:=f.cells;clear f;by_cases a:st.t.k=k
 . have b:((st.t.k:Int)==(k:Int))=true:=beq_iff_eq.2 (by omega);have H:aa (st.is k s.toList=(st.t.s.toList==s.toList)):=by unfold aa St.is;simp[a]
   clear a;go_enter func210,ntmps210;go_wp2;go_ret;exact⟨by rw[H.o];simp,rfl⟩
 have b:((st.t.k:Int)==(k:Int))=false:=bf.2 (by omega);have H:aa (st.is k s.toList=false):=by unfold aa St.is;simp[a]
 clear a;go_enter func210,ntmps210;go_wp2;go_ret;exact⟨by rw[H.o];rfl,rfl⟩
theorem DO (c:Nat)(F:Fx)(g:Rw)(st:St)(e a:Nat)(w:Xw)(b:zs w c F g st):xK 206 #[xP c,xI e,xI a] w λk d=>k=.returned (.tuple #[])/\zs d c F g (st.fail e a)/\Fr (·=c) w d:=by
 have C:=b.frozen;obtain⟨q,r,s,u,v,x,y,z,A,B,l,m,n,o,p⟩:=b.cells;by_cases f:st.er=0
 . have j:((st.er:Int)==0)=true:=beq_iff_eq.2 (by omega);have h:aa (st.fail e a={ st with er:=e,at':=a,t:=⟨1,st.t.a,st.t.t,⟨#[]⟩,0⟩ }):=by unfold aa St.fail;rw[ag f]
   have i:aa (zs w c F g st):=b;clear f b;go_enter func206,ntmps206;go_wp2;go_region;go_end0;refine⟨rfl,?_,?_⟩
   . rw[h.o];exact ((i.o.qj e a).hd ⟨1,st.t.a,st.t.t,⟨#[]⟩,0⟩).drew
   exact ((((((((Fr.refl _ w).aY _ _).aY _ _).aY _ _).aY _ _).aY _ _).aY _ _).aY _ _).drew
 have j:((st.er:Int)==0)=false:=bf.2 (by omega);have h:aa (st.fail e a={ st with t:=⟨1,st.t.a,st.t.t,⟨#[]⟩,0⟩ }):=by unfold aa St.fail;rw[ae f]
 have i:aa (zs w c F g st):=b;clear f b;go_enter func206,ntmps206;go_wp2;go_region;go_end0;refine⟨rfl,?_,?_⟩
 . rw[h.o];exact (i.o.hd ⟨1,st.t.a,st.t.t,⟨#[]⟩,0⟩).drew
 exact ((((((Fr.refl _ w).aY _ _).aY _ _).aY _ _).aY _ _).aY _ _).drew
theorem dH (c:Nat)(F:Fx)(g:Rw)(st:St)(w:Xw)(l:st.Ok)(f:zs w c F g st):xK 147 #[xP c] w λr d=>r=.returned (.tuple #[])/\zs d c F g st.ad/\Fr (·=c) w d:=by
 have ak:=f.frozen;have H:=f.lt;obtain⟨U,V,W,X,Y,Z,h6,h7,h8,h9,z,A,B,C,D⟩:=f.cells;by_cases i:st.er=0
 . have m:((st.er:Int)==0)=true:=beq_iff_eq.2 (by omega);have j:aa (st.ad={ st with t:=zZ st.src st.t.t }):=by unfold aa St.ad;rw[ag i]
   have h:aa (zs w c F g st):=f;have o:aa st.Ok:=l;have n:c≠w.heap.size:=(by omega);clear i f l;go_enter func147,ntmps147;go_wp2_with fail;go_region_with (go_at_call 205;refine (DS _ _ _ o.o.src o.o.tt).mono ?_;rintro e q ⟨rfl,a⟩;replace a:=zw a;have b:aa (zs q c F g st):=(by first|exact h.o.below a|exact (h.o.alloc _).below a);have k:aa (Fr (·=c) w q):=(by first|exact (Fr.refl _ _).gA a|exact ((Fr.refl _ _).alloc _).gA a);obtain⟨I,J,K,L,M,N,O,P,Q,R,s,u,v,x,y⟩:=b.o.cells;have S:=b.o.frozen;have p:=b.o.lt;obtain⟨E,G⟩:=mD a;simp only[Tk.val])
   all_goals go_wp2_with fail
   all_goals go_end0
   all_goals generalize zZ st.src st.t.t=T at *
   all_goals refine⟨rfl,?_,?_⟩
   all_goals first|(rw[j.o];(try with_reducible refine zs.alloc ?_ _);with_reducible refine zs.hd (st:=st) ?_ T;(repeat (with_reducible refine zs.aU ?_ n _ _));with_reducible exact b.o)|((repeat (first|with_reducible refine Fr.aY ?_ _ _|with_reducible refine Fr.alloc ?_ _|with_reducible refine Fr.aO ?_ (an _) _ _));with_reducible exact k.o)
 have m:((st.er:Int)==0)=false:=bf.2 (by omega);have j:aa (st.ad=st):=by unfold aa St.ad;rw[ae i]
 have h:aa (zs w c F g st):=f;clear i f l;go_enter func147,ntmps147;go_wp2_with fail;go_end0;exact⟨rfl,by rw[j.o];exact h.o,Fr.refl _ _⟩
end
section
open Go.RowKit
variable {b:Nat} {w:Xw}
theorem tW {fn:Func}{p:Tmp}(h:fn.results=#[.cell p 270]){a:Xa}(o:a[p]?.getD undef=xP b){d e f g i:Xv}(c:w.heap[b]?=some (.cells #[d,e,f,g,i] 270 (0,0))):(results fn a).run prog w=.ok (.agg #[d,e,f,g,i]) w:=by
 have j:w.cell? (xD b 0)=some d:=by simp[World.cell?,c]
 have k:w.cell? (xD b 1)=some e:=by simp[World.cell?,c]
 have l:w.cell? (xD b 2)=some f:=by simp[World.cell?,c]
 have m:w.cell? (xD b 3)=some g:=by simp[World.cell?,c]
 have n:w.cell? (xD b 4)=some i:=by simp[World.cell?,c]
 simp[results,h,o,go_sem,j,k,l,m,n]
theorem qt {e:Xy}{i j k l m:Xv}(h:xH w b #[i,j,k,l,m] e)(a c d f g:Xv):(((((w.setCell (xD b 0) a).setCell (xD b 1) c).setCell (xD b 2) d).setCell (xD b 3) f).setCell (xD b 4) g).heap[b]?=some (.cells #[a,c,d,f,g] e (0,0)) :=
 zh _ _ _ _ (zh _ _ _ _ (zh _ _ _ _ (zh _ _ _ _ (zh _ _ _ _ h))))
theorem vk (a:Nat)(F:Fx)(f:Rw)(c:St)(d:Int)(k:Nat)(h:d=k)(s:Xb)(l:Xu)(i:s.toList=l)(w:Xw)(g:zs w a F f c):xK 210 #[xP a,xI d,.string s] w λe j=>e=.returned (.bool (c.is k l))/\j=w:=by subst h i;exact DW a F f c k s w g
theorem lB (c:Nat)(F:Fx)(f:Rw)(d:St)(g:Int)(e a:Nat)(k:g=e)(w:Xw)(j:zs w c F f d):xK 206 #[xP c,xI g,xI a] w λi h=>i=.returned (.tuple #[])/\zs h c F f (d.fail e a)/\Fr (·=c) w h:=by subst k;exact DO c F f d e a w j
theorem cO (f:Nat)(F:Fx)(i:Rw)(a:St)(o:Int)(k:Nat)(v:o=k)(s:Xb)(l:Xu)(x:s.toList=l)(w:Xw)(r:a.Ok)(j:zs w f F i a):xK 207 #[xP f,xI o,.string s] w λz m=>z=.returned (.tuple #[])/\zs m f F i (a.ac k l)/\Fr (·=f) w m:=by
 have u:=vk f F i a o k v s l x w j;have q:=za u;obtain⟨H,I,J,K,L,M,N,O,P,Q,A,B,C,D,E⟩:=j.cells;have p:aa (zs w f F i a):=j;have y:aa a.Ok:=r;clear u v x j r;cases t:a.is k l with
 | true => have n:aa (a.ac k l=a.ad):=(by unfold aa St.ac;rw[ag t]);go_enter func207,ntmps207;go_wp2_with (first|(go_at_call 210;refine q.o.mono ?_;rintro e m ⟨rfl,rfl⟩)|(go_at_call 147;refine (dH f F i a _ y.o p.o).mono ?_;rintro e G ⟨rfl,d,c⟩;have h:=za d;have g:=za c;clear d c));exact bodyPost_ret (results_none rfl _ _ _) rfl ⟨rfl,by rw[n.o];exact h.o,g.o⟩
 | false => have n:aa (a.ac k l=a.fail 2 a.t.a):=(by unfold aa St.ac;rw[ae (by rw[t];simp)]);go_enter func207,ntmps207;go_wp2_with (first|(go_at_call 210;refine q.o.mono ?_;rintro e m ⟨rfl,rfl⟩)|(go_at_call 206;refine (lB f F i a _ 2 a.t.a rfl _ p.o).mono ?_;rintro e G ⟨rfl,d,c⟩;have h:=za d;have g:=za c;clear d c));go_end0;exact⟨rfl,by rw[n.o];exact h.o,g.o⟩
theorem lA (f:Nat)(F:Fx)(k:Rw)(a:St)(w:Xw)(q:a.Ok)(n:a.op<100)(l:zs w f F k a):xK 282 #[xP f] w λu s=>u=.returned (.tuple #[])/\zs s f F k a.enter/\Fr (·=f) w s:=by
 obtain⟨C,D,E,G,H,I,J,K,L,M,v,x,y,z,A⟩:=l.cells;have N:=l.frozen;have i:=l.mU (a.op+1);have j:=q.opened n;have p:((a.op+1:Nat):Int)=(a.op:Int)+1:=by omega
 rw[p] at i;have o:aa (zs (w.setCell (xD f 7) (xI ((a.op:Int)+1))) f F k { a with op:=a.op+1 }):=i;have t:=za j;clear l q i j p;by_cases r:16<a.op+1
 . have m:aa (a.enter=({ a with op:=a.op+1 }:St).fail 3 a.t.a):=by unfold aa St.enter;rw[ag r]
   go_enter func282,ntmps282;go_wp2_with (go_at_call 206;refine (lB f F k { a with op:=a.op+1 } _ 3 a.t.a rfl _ o.o).mono ?_;rintro e B ⟨rfl,d,c⟩;have h:=za d;have g:=za c;clear d c);exact bodyPost_ret (results_none rfl _ _ _) rfl ⟨rfl,by rw[m.o];exact h.o,((Fr.refl _ w).aY _ _).trans g.o⟩
 have m:aa (a.enter=({ a with op:=a.op+1 }:St).ad):=by unfold aa St.enter;rw[ae r]
 go_enter func282,ntmps282;go_wp2_with (go_at_call 147;refine (dH f F k { a with op:=a.op+1 } _ t.o o.o).mono ?_;rintro e B ⟨rfl,d,c⟩;have h:=za d;have g:=za c;clear d c);go_end0;exact⟨rfl,by rw[m.o];exact h.o,((Fr.refl _ w).aY _ _).trans g.o⟩
theorem e0 (g:Nat)(F:Fx)(l:Rw)(a:St)(w:Xw)(s:a.Ok)(i:zs w g F l a):xK 208 #[xP g] w λx t=>x=.returned (.agg #[xI a.t.k,xI a.t.a,xI a.t.t,.string a.t.s,xI a.t.n])/\zs t g F l a.name/\Fr (·=g) w t:=by
 obtain⟨G,H,I,J,K,L,M,N,O,P,y,z,A,B,C⟩:=i.cells;have D:=i.lt;have k:¬w.heap.size=g:=by omega
 have Q:¬w.heap.size+1=g:=by omega
 have r:=za i;have u:=za s;clear i s;by_cases j:a.t.k=2
 . have m:aa (a.name=a.ad):=by unfold aa St.name;rw[ag j]
   have n:((a.t.k:Int) != 2)=false:=(by simp;omega);clear j;go_enter func208,ntmps208;go_wp2_with (go_at_call 147;refine (dH g F l a _ u.o ((r.o.alloc _).alloc _)).mono ?_;rintro e E ⟨rfl,f,c⟩;have h:=za f;have d:=za c;obtain⟨o,p⟩:=sw c;have q:=c.size;clear f c);refine bodyPost_ret (v:=.agg #[xI a.t.k,xI a.t.a,xI a.t.t,.string a.t.s,xI a.t.n]) (tW rfl rfl (qt ((d.o.block _ (by simp;omega) k).trans ((Below.heap_alloc _ _ _ (by simp)).trans (zc _ _))) _ _ _ _ _)) rfl ⟨rfl,?_,?_⟩
   . rw[m.o]
     (repeat (with_reducible refine zs.aU ?_ (Ne.symm k) _ _));exact h.o
   (repeat (with_reducible refine Fr.aO ?_ (an _) _ _));exact (((Fr.refl _ w).alloc _).alloc _).trans d.o
 have m:aa (a.name=a.fail 2 a.t.a):=by unfold aa St.name;rw[ae j]
 have n:((a.t.k:Int) != 2)=true:=by simp;omega
 clear j;go_enter func208,ntmps208;go_wp2_with (go_at_call 206;refine (lB g F l a _ 2 a.t.a rfl _ ((r.o.alloc _).alloc _)).mono ?_;rintro e E ⟨rfl,f,c⟩;have h:=za f;have d:=za c;obtain⟨o,p⟩:=sw c;have q:=c.size;clear f c);refine bodyPost_ret (v:=.agg #[xI a.t.k,xI a.t.a,xI a.t.t,.string a.t.s,xI a.t.n]) (tW rfl rfl (qt ((d.o.block _ (by simp;omega) k).trans ((Below.heap_alloc _ _ _ (by simp)).trans (zc _ _))) _ _ _ _ _)) rfl ⟨rfl,?_,?_⟩
 . rw[m.o]
   (repeat (with_reducible refine zs.aU ?_ (Ne.symm k) _ _));exact h.o
 (repeat (with_reducible refine Fr.aO ?_ (an _) _ _));exact (((Fr.refl _ w).alloc _).alloc _).trans d.o
end
section
open Go.RowKit
variable {a:Act} {K:Act->World->Prop} {Q:Exit->Act->World->Prop} {p:Xm} {l n d:Nat} {o:Oper} {e:Xy} {v:Xv} {w:Xw}
theorem zR {b:Nat}(h:w.ownsRow l e d v n p)(k:b<=l):w.ownsRow b e d v n p:=by
 obtain⟨j,i⟩:=h;refine⟨j,?_⟩;rcases i with i|⟨g,c,f,q,m,r⟩
 . exact ao i
 exact ap ⟨g,c,f,q,aJ k m,r⟩
theorem zi {w':Xw}(h:w.ownsRow l e d v n p)(t:∀k,l<=k->k<w.heap.size->v.ownBlock=some k->w'.heap[k]?=w.heap[k]?):w'.ownsRow l e d v n p:=by
 obtain⟨s,f⟩:=h;refine⟨s,?_⟩;rcases f with f|⟨g,b,c,q,m,i,r⟩
 . exact ao f
 refine ap ⟨g,b,c,q,m,?_,r⟩;have j:g<w.heap.size:=by
  rcases Nat.lt_or_ge g w.heap.size with h|h
  . exact h
  rw[Array.getElem?_eq_none h] at i;cases i
 rw[t g m j (by rw[q];rfl),i]
theorem zN {W:Xw}{b:Nat}{c:Xa}{f:Nat×Nat}{g:Xm}(h:W.heap[b]?=some (.cells c e f))(k:c.toList=g):∀(j:Nat) (u:Xv),g[j]?=some u->W.cell? (((xD b 0):Addr).add j)=some u:=by
 intro j u m;subst k;have i:((xD b 0):Addr).add j=⟨b,j,none⟩:=by cases j <;> simp[Addr.add]
 rw[i];simp[World.cell?,h];simpa using m
theorem zM (h:w.ownsRow l e d v n p)(f:0<n):∃g b,v=xS g n b/\l<=g:=by
 rcases h.2 with ⟨_,h⟩|⟨g,b,_,h,c,_⟩
 . omega
 exact⟨g,b,h,c⟩
theorem zD {e:Nat}(h:w.ownsRow l e d v n p)(o:Obj):(w.alloc o).ownsRow l e d v n p:=zi h (λk _ b _=>Below.heap_alloc w o k b)
section
variable {P:Program} (w:Xw)
theorem G6 (l:Nat)(t L e:Xy)(i:TypeInfo)(z:Xv)(d bytes:Nat)(O:P.underlying t=some (.slice e))(M:P.info? e=some i)(T:i.zero=some z)
 (q:i.size=d) (G:i.bytes=bytes) (J:z.cells.size=d) (I:0<d)
 (v:Xv) (n:Nat) (p:Xm) (f:w.ownsRow l e d v n p)
 (a:Addr) (m c:Nat) (b:Xm) (N:b.length=m*d) (h:∀j u,b[j]?=some u->w.cell? (a.add j)=some u) (S:∀u∈b,u.oneCell'=true)
 (F:n+m<=maxLen) (r:(n+m)*bytes<=140737488355328) (s:l<=w.heap.size) :
 ∃E y,(Builtin.append_ #[t,t] L #[v,.slice (some a) m c]).run P w=.ok E y/\y.ownsRow l e d E (n+m) (p++b)/\w.grownBy y v.ownBlock /\
  ∀k,E.ownBlock=some k->v.ownBlock=some k∨w.heap.size<=k:=by
 rcases f.2 with ⟨rfl,rfl⟩|⟨g,A,U,rfl,V,hg,Y,W,X,R⟩
 . have Z:p=[]:=List.eq_nil_of_length_eq_zero (by simpa using f.1);subst Z;obtain⟨E,y,H,B,x,_⟩:=run_append_own (P:=P) w w.heap.size t L e i z d bytes O M T q G J I _ 0 [] (World.ownsRow_nil w _ e d) a m c b N h S F r (an _);exact⟨E,y,H,zR B s,x,λk C=>ap (B.lt k C).1⟩
 by_cases D:n+m<=A
 . obtain⟨y,H,B,x⟩:=run_append_fits (P:=P) w l t L e i d O M q g n A p f a m c b N h S D;exact⟨_,y,H,B,x,λk C=>ao C⟩
 obtain⟨E,y,H,B,x⟩:=run_append_arg_grows (P:=P) w t L e i z d bytes O M T q G J I (xD g 0) n A p f.1 (f.cells (g:=g) rfl) a m c b N h (by omega) F r;exact⟨E,y,H,zR B s,⟨x.os,x.tape,x.output,x.size,λk C _=>x.block k C (by simp)⟩,λk C=>ap (B.lt k C).1⟩
theorem rA (s x:Operand)(t:Xy)
 (O:o.op=.call { callee:=.builtin .append,args:=#[s,x],argTypes:=#[t,t] })
 (l:Nat) (e:Xy) (i:TypeInfo) (z:Xv) (d bytes:Nat) (T:P.underlying t=some (.slice e)) (M:P.info? e=some i) (V:i.zero=some z)
 (r:i.size=d) (E:i.bytes=bytes) (G:z.cells.size=d) (F:0<d)
 (v:Xv) (n:Nat) (p:Xm) (S:a.eval s=v) (y:w.ownsRow l e d v n p)
 (C:Addr) (m c:Nat) (b:Xm) (U:a.eval x=.slice (some C) m c) (N:b.length=m*d) (q:∀j u,b[j]?=some u->w.cell? (C.add j)=some u) (H:∀u∈b,u.oneCell'=true)
 (D:n+m<=maxLen) (f:(n+m)*bytes<=140737488355328) (g:l<=w.heap.size)
 (h:∀A B,B.ownsRow l e d A (n+m) (p++b)->w.grownBy B v.ownBlock->(∀k,A.ownBlock=some k->v.ownBlock=some k∨w.heap.size<=k)->K (a.put o.dst A) B):o.wp P a w K Q:=by
 obtain⟨A,B,R,I,J,L⟩:=G6 (P:=P) w l t o.type e i z d bytes T M V r E G F v n p y C m c b N q H D f g;unfold Oper.wp execOp;simp only[O,resolve,invoke,builtin,Sem.run_bind,Sem.run_pure,Result.andThen_ok,List.map_toArray,List.map_cons,List.map_nil,S,U,R];exact h A B I J L
theorem zJ {A:Array Oper}{E:Prop}
 (L:o.guard=none) (s x:Operand) (t:Xy) (O:o.op=.call { callee:=.builtin .append,args:=#[s,x],argTypes:=#[t,t] })
 (l:Nat) (e:Xy) (i:TypeInfo) (z:Xv) (d bytes:Nat) (S:P.underlying t=some (.slice e)) (M:P.info? e=some i) (V:i.zero=some z)
 (r:i.size=d) (D:i.bytes=bytes) (G:z.cells.size=d) (F:0<d)
 (v:Xv) (n:Nat) (p:Xm) (R:a.eval s=v) (y:w.ownsRow l e d v n p)
 (B:Addr) (m c:Nat) (b:Xm) (U:a.eval x=.slice (some B) m c) (N:b.length=m*d) (q:∀j u,b[j]?=some u->w.cell? (B.add j)=some u) (J:∀u∈b,u.oneCell'=true)
 (C:n+m<=maxLen) (f:(n+m)*bytes<=140737488355328) (g:l<=w.heap.size)
 (h:∀H I,I.ownsRow l e d H (n+m) (p++b)->w.grownBy I v.ownBlock->(∀k,H.ownBlock=some k->v.ownBlock=some k∨w.heap.size<=k)->K (a.put o.dst H) I) :
 if Region.wanted o (yielded A a.tmps)=true then Oper.wp P o a w K Q else E:=by
 have T:Region.wanted o (yielded A a.tmps)=true:=by simp[Region.wanted,L]
 rw[ag T];exact rA w s x t O l e i z d bytes S M V r D G F v n p R y B m c b U N q J C f g h
end
end
end Go.Proofs.YtmfkofhgdjechaaGreatDoor
