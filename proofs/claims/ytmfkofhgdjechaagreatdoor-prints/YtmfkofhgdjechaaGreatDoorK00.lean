/- Part 1 of the proof: Base BaseR Base2 Mdl RefA RefB RefC RefD RefE. -/
import Derived.BigQuiet
import Derived.BigRegion
import Derived.Deep.QuietTactic
import Derived.RegionTactic
import Derived.Test.YtmfkofhgdjechaaGreatDoorProg
import Derived.WalkKit
import Derived.WalkLawsBesides
set_option maxRecDepth 100000
set_option maxHeartbeats 8000000
namespace Go.Proofs.YtmfkofhgdjechaaGreatDoor
open Go.Proofs.Tryz
theorem zsc {α : Type _} {l : List α} {i : Nat} (h : i < l.length) : l[i]? = some (l[i]'h) := List.getElem?_eq_getElem h
theorem zr7 {α : Type _} (a : α) (l : List α) (i : Nat) (h : i + 1 < (a :: l).length) : (a :: l)[i + 1]'h = l[i]'(Nat.lt_of_succ_lt_succ h) := List.getElem_cons_succ a l i h
theorem zr6 {α : Type _} (a : α) (l : List α) (h : 0 < (a :: l).length) : (a :: l)[0]'h = a := List.getElem_cons_zero a l h
theorem zr8 {α : Type _} {l : List α} {i : Nat} (h : i < l.toArray.size) : l.toArray[i]'h = l[i]'(by simpa using h) := List.getElem_toArray h
theorem zr5 {α : Type _} (l : List α) (i : Nat) (a : α) : l.toArray.setIfInBounds i a = (l.set i a).toArray := List.setIfInBounds_toArray l i a
theorem zr9 {α : Type _} {l : List α} {a b : α} {n : Nat} : (a :: l).set (n + 1) b = a :: l.set n b := List.set_cons_succ
theorem zsa {α : Type _} {l : List α} {a b : α} : (a :: l).set 0 b = b :: l := List.set_cons_zero
theorem zsb (w : World) (o : Obj) : (w.alloc o).heap.size = w.heap.size + 1 := World.size_alloc w o
section
open Go.RowKit
def Hid (p:Prop):Prop:=p
theorem Hid.out {p:Prop}(h:Hid p):p:=h
theorem Hid.o {p:Prop}(h:Hid p):p:=h
abbrev xD (b o:Nat):Addr:=⟨b,o,none⟩
abbrev xP (b:Nat):Value:=.pointer (some ⟨b,0,none⟩)
abbrev xS (b n c:Nat):Value:=.slice (some ⟨b,0,none⟩) n c
abbrev xK (f:FuncId) (a:Array Value) (w:World) (Q:Ending->World->Prop):Prop:=Calls prog f a w Q
abbrev xI (n:Int):Value:=.int .i64 n
abbrev xC (w:World) (b o:Nat) (v:Value):Prop:=w.cell? ⟨b,o,none⟩=some v
abbrev xH (w:World) (b:Nat) (c:Array Value) (t:TypeId):Prop:=w.heap[b]?=some (.cells c t (0,0))
abbrev xB (w w':World):Prop:=Go.RowKit.Below w.heap.size w w'
variable {S S':Nat->Prop} {a b c w w':World}
structure Fr (S:Nat->Prop) (w w':World):Prop where
 os:w'.os=w.os
 tape:w'.tape=w.tape
 output:w'.output=w.output
 size:w.heap.size<=w'.heap.size
 block:∀k,k<w.heap.size->¬S k->w'.heap[k]?=w.heap[k]?
theorem Fr.refl (S:Nat->Prop)(w:World):Fr S w w:=⟨rfl,rfl,rfl,Nat.le_refl _,λ_ _ _=>rfl⟩
theorem Fr.mono (h:Fr S w w')(hS:∀k,k<w.heap.size->S k->S' k):Fr S' w w' :=
 ⟨h.os,h.tape,h.output,h.size,λk hk hn=>h.block k hk (λhs=>hn (hS k hk hs))⟩
theorem Fr.trans' (h:Fr S a b)(k:Fr S' b c)(hS:∀i,i<a.heap.size->S' i->S i):Fr S a c :=
 ⟨k.os.trans h.os,k.tape.trans h.tape,k.output.trans h.output,Nat.le_trans h.size k.size,
  λi hi hn=>(k.block i (Nat.lt_of_lt_of_le hi h.size) (λhs=>hn (hS i hi hs))).trans (h.block i hi hn)⟩
theorem Fr.trans (h:Fr S a b)(k:Fr S b c):Fr S a c:=h.trans' k (λ_ _ h=>h)
theorem Fr.drew (h:Fr S a w):Fr S a w.drew:=⟨h.os,h.tape,h.output,h.size,h.block⟩
theorem Fr.alloc (h:Fr S a w)(o:Obj):Fr S a (w.alloc o) :=
 h.trans ⟨rfl,rfl,rfl,by simp,λk hk _=>Below.heap_alloc _ _ _ hk⟩
theorem Fr.setCell (h:Fr S a w){p:Addr}(hp:S p.block∨a.heap.size<=p.block)(u:Value):Fr S a (w.setCell p u) :=
 ⟨h.os,h.tape,h.output,Nat.le_trans h.size (by simp[World.setCell]),λk hk hn=>by
   rw[Below.heap_setCell _ _ _ _ (λe=>by rcases hp with hp|hp;exact hn (e▸hp);omega)];exact h.block k hk hn⟩
theorem Fr.below (h:Fr S w w'){B:Nat}(hB:B<=w.heap.size)(hS:∀k,S k->B<=k):Below B w w' :=
 ⟨h.os,h.tape,h.output,h.size,λk hk=>h.block k (by omega) (λhs=>by have:=hS k hs;omega)⟩
theorem Fr.of_below (h:xB w w'):Fr S w w' :=
 ⟨h.os,h.tape,h.output,h.size,λk hk _=>h.block k hk⟩
end
section
open Go.RowKit
variable {rb:Nat} {w:World}
structure Rd where
 nodes:Value
 src:ByteArray
 tk:Int
 ta:Int
 tt:Int
 ts:ByteArray
 tn:Int
 op:Int
 er:Int
 at':Int
 nm:ByteArray
 na:Int
 vs:Value
 xs:Value
 qs:Value
def Rd.obj (R:Rd):Obj:=.cells #[R.nodes,.string R.src,xI R.tk,xI R.ta,xI R.tt,.string R.ts,xI R.tn,xI R.op,xI R.er,xI R.at',.string R.nm,xI R.na,R.vs,R.xs,R.qs] 272 (0,0)
def Rd.at (w:World)(rb:Nat)(R:Rd):Prop:=w.heap[rb]?=some R.obj
theorem Rd.at.cells {R:Rd}(h:R.at w rb) :
 w.cell? (xD rb 0)=some R.nodes/\w.cell? (xD rb 1)=some (.string R.src)/\w.cell? (xD rb 2)=some (xI R.tk)/\w.cell? (xD rb 3)=some (xI R.ta) /\
 w.cell? (xD rb 4)=some (xI R.tt)/\w.cell? (xD rb 5)=some (.string R.ts)/\w.cell? (xD rb 6)=some (xI R.tn)/\w.cell? (xD rb 7)=some (xI R.op) /\
 w.cell? (xD rb 8)=some (xI R.er)/\w.cell? (xD rb 9)=some (xI R.at')/\w.cell? (xD rb 10)=some (.string R.nm)/\w.cell? (xD rb 11)=some (xI R.na) /\
 w.cell? (xD rb 12)=some R.vs/\w.cell? (xD rb 13)=some R.xs/\w.cell? (xD rb 14)=some R.qs:=by
 unfold Rd.at at h;simp[World.cell?,h,Rd.obj]
theorem Rd.at.frozen {R:Rd}(h:R.at w rb)(i:Nat):w.frozen? (xD rb i)=false:=by unfold Rd.at at h;simp[World.frozen?,h,Rd.obj]
theorem Rd.at.lt {R:Rd}(h:R.at w rb):rb<w.heap.size:=by
 unfold Rd.at at h;rcases Nat.lt_or_ge rb w.heap.size with h1|h1
 . exact h1
 . rw[Array.getElem?_eq_none h1] at h;cases h
end
section
open Go.RowKit
variable {b:Nat} {S:Nat->Prop} {e:TypeId} {W a w w1:World}
theorem Fr.set1 (h:Fr (·=b) a w)(i:Nat)(u:Value):Fr (·=b) a (w.setCell (xD b i) u):=h.setCell (Or.inl rfl) u
theorem zw (h:Below w.drew.heap.size w.drew w1):xB w w1:=⟨h.os,h.tape,h.output,h.size,h.block⟩
theorem Fr.belowed {w':World}(h:Fr S a w)(hb:xB w w'):Fr S a w' :=
 h.trans ⟨hb.os,hb.tape,hb.output,hb.size,λk hk _=>hb.block k hk⟩
theorem Fr.setNew (h:Fr S a w)(hb:a.heap.size<=b)(i:Nat)(u:Value):Fr S a (w.setCell (xD b i) u):=h.setCell (Or.inr hb) u
theorem zh (w:World)(b i:Nat)(v:Value){c:Array Value}{f:Nat×Nat}(h:w.heap[b]?=some (.cells c e f)):(w.setCell (xD b i) v).heap[b]?=some (.cells (c.setIfInBounds i v) e f):=by simp[World.setCell,Array.getElem?_modify,h]
theorem zoV (hb:xB W w1):(∀b o,b<W.heap.size->w1.cell? (xD b o)=W.cell? (xD b o))/\(∀b o,b<W.heap.size->w1.frozen? (xD b o)=W.frozen? ⟨b,o,none⟩) :=
 ⟨λb o h=>hb.cell (p:=(xD b o)) h,λb o h=>hb.frozen (p:=(xD b o)) h⟩
theorem zrw (h:Fr (·=b) W w1):(∀k o,k<W.heap.size->¬k=b->w1.cell? (xD k o)=W.cell? (xD k o))/\(∀k o,k<W.heap.size->¬k=b->w1.frozen? (xD k o)=W.frozen? ⟨k,o,none⟩) :=
 ⟨λk _ hk hn=>World.cell?_of_block (w:=W) (h.block k hk hn),λk _ hk hn=>World.frozen?_of_block (w:=W) (h.block k hk hn)⟩
theorem zc (w:World)(o:Obj):(w.alloc o).heap[w.heap.size]?=some o:=by show (w.heap.push o)[w.heap.size]?=some o;simp
theorem zn {P:Program}{c:Code}{Q:Exit->Act->World->Prop}{a:Act}(Facts:World->Prop)(h:Facts W)(k:∀w9,Facts w9->Code.wp P c Q a w9):Code.wp P c Q a W:=k W h
theorem zr {k i:Nat}{v:Value}{o:Option Obj}(h:¬k=b)(hh:w.heap[k]?=o):(w.setCell (xD b i) v).heap[k]?=o:=(Below.heap_setCell _ _ _ _ h).trans hh
theorem zb7 {u0 u1 u2 u3:Value}(h:xH w b #[u0,u1,u2,u3] e)(v0 v1 v2 v3:Value):((((w.setCell (xD b 0) v0).setCell (xD b 1) v1).setCell (xD b 2) v2).setCell (xD b 3) v3).heap[b]?=some (.cells #[v0,v1,v2,v3] e (0,0)) :=
 zh _ _ _ _ (zh _ _ _ _ (zh _ _ _ _ (zh _ _ _ _ h)))
theorem za {p:Prop}(h:p):Hid p:=h
end
section
variable {s:ByteArray} {i:Nat} {p:Nat->Bool}
def bt (s:ByteArray)(i:Nat):Nat:=if h:i<s.size then s[i].toNat else 0
theorem ziM (h:i<s.size):s[i].toNat=bt s i:=by unfold bt;rw[dif_pos h]
def zbY (c:Nat):Bool:=c==32||c==10
def zeM (c:Nat):Bool:=decide (97<=c)&&decide (c<=122)
def zT (c:Nat):Bool:=decide (48<=c)&&decide (c<=57)
def inW (c:Nat):Bool:=zeM c||zT c||c==95
def zc0 (p:Nat->Bool)(s:ByteArray):Nat->Nat->Nat
 | 0,i=>i
 | f+1,i=>if i<s.size/\p (bt s i)=true then zc0 p s f (i+1) else i
def zQ (p:Nat->Bool)(s:ByteArray)(i:Nat):Nat:=zc0 p s (s.size-i) i
theorem zd1 (h:i<s.size)(hp:p (bt s i)=true):zQ p s i=zQ p s (i+1):=by
 unfold zQ;obtain⟨m,hm⟩:∃m,s.size-i=m+1:=⟨s.size-i-1,by omega⟩;rw[hm,show s.size-(i+1)=m by omega]
 show (if i<s.size/\p (bt s i)=true then zc0 p s m (i+1) else i)=_;rw[if_pos ⟨h,hp⟩]
theorem zjm (h:s.size<=i):zQ p s i=i:=by unfold zQ;rw[show s.size-i=0 by omega];rfl
theorem zif (hp:p (bt s i)=false):zQ p s i=i:=by
 unfold zQ;cases hm:s.size-i with
 | zero=>rfl
 | succ m => show (if i<s.size/\p (bt s i)=true then zc0 p s m (i+1) else i)=_;rw[if_neg (by rw[hp];simp)]
theorem zjv (p:Nat->Bool)(s:ByteArray):∀f i,i<=zc0 p s f i/\(i<=s.size->zc0 p s f i<=s.size):=by
 intro f;induction f with
 | zero=>intro i;exact⟨Nat.le_refl _,λh=>h⟩
 | succ f ih =>
   intro i
   show i<=(if i<s.size/\p (bt s i)=true then zc0 p s f (i+1) else i)/\(i<=s.size->(if i<s.size/\p (bt s i)=true then zc0 p s f (i+1) else i)<=s.size);split
   . rename_i h
     have:=ih (i+1);exact⟨by omega,λ_=>this.2 (by omega)⟩
   . exact⟨Nat.le_refl _,λh=>h⟩
theorem zdB (p:Nat->Bool)(s:ByteArray)(i:Nat):i<=zQ p s i:=(zjv p s _ i).1
theorem zcr (p:Nat->Bool)(s:ByteArray)(i:Nat)(h:i<=s.size):zQ p s i<=s.size:=(zjv p s _ i).2 h
structure Tk where
 k:Nat
 a:Nat
 t:Nat
 s:ByteArray
 n:Nat
def zdX:List (List UInt8):=[[110,111,100,101],[118,97,114],[105,110,116],[98,111,111,108],[111,110],[110,111,116],[97,110,100],[111,114],[120,111,114],[105,102],[116,104,101,110],[101,108,115,101],[109,101,114,103,101],[119,104,101,110],[119,104,101,110,111,116],[102,98,121],[116,114,117,101],[102,97,108,115,101]]
def zcW (s:ByteArray):Bool:=zdX.any λl=>s.toList==l
def zfg (s:ByteArray)(a:Nat):Tk :=
 let tz:=zQ inW s a
 let x:=s.extract a tz
 ⟨if zcW x then 5 else if tz-a > 12 then 1 else 2,a,tz,x,0⟩
def zdt (s:ByteArray):Nat->Nat->Bool×Nat->Bool×Nat
 | 0,_,x=>x
 | f+1,i,x=>if i<s.size/\zT (bt s i)=true then
    zdt s f (i+1) (if x.2 > (9223372036854775807-(bt s i-48)) / 10 then (false,x.2) else (x.1,x.2*10+(bt s i-48))) else x
def zgc (s:ByteArray)(a:Nat):Tk :=
 let x:=zdt s (s.size-a) a (true,0)
 ⟨if x.1 then 3 else 1,a,zQ zT s a,⟨#[48]⟩,x.2⟩
def zfe (c:Nat):Bool:=[40,41,123,125,58,59,44,61,60,43,45,42,47,37].contains c
def zfh (s:ByteArray)(a:Nat):Tk :=
 if a+2<=s.size/\((s.extract a (a+2)).toList==[45,62]||(s.extract a (a+2)).toList==[60,62]||(s.extract a (a+2)).toList==[60,61])=true then ⟨4,a,a+2,s.extract a (a+2),0⟩
 else if zfe (bt s a) then ⟨4,a,a+1,s.extract a (a+1),0⟩
 else ⟨1,a,a,⟨#[]⟩,0⟩
def zZ (s:ByteArray)(at':Nat):Tk :=
 let a:=zQ zbY s at'
 if a=s.size then ⟨0,a,a,⟨#[]⟩,0⟩
 else if zeM (bt s a) then zfg s a
 else if zT (bt s a) then zgc s a
 else zfh s a
end
section
open Go.RowKit
theorem zAF (c:Int)(w:World):xK 253 #[.int .u8 c] w λe w'=>e=.returned (.bool (decide (97<=c)&&decide (c<=122)))/\w'=w:=by
 go_enter func253,ntmps253;go_wp2;all_goals go_ret
 . exact⟨by rename_i h;simp[h],rfl⟩
 . exact⟨by rename_i h;simp;omega,rfl⟩
theorem zAA (c:Int)(w:World):xK 254 #[.int .u8 c] w λe w'=>e=.returned (.bool (decide (48<=c)&&decide (c<=57)))/\w'=w:=by
 go_enter func254,ntmps254;go_wp2;all_goals go_ret
 . exact⟨by rename_i h;simp[h],rfl⟩
 . exact⟨by rename_i h;simp;omega,rfl⟩
theorem zDB (s:ByteArray):zcW s=(s.toList==[110,111,100,101]||(s.toList==[118,97,114]||(s.toList==[105,110,116]||(s.toList==[98,111,111,108]||(s.toList==[111,110]||(s.toList==[110,111,116]||(s.toList==[97,110,100]||(s.toList==[111,114]||(s.toList==[120,111,114]||(s.toList==[105,102]||(s.toList==[116,104,101,110]||(s.toList==[101,108,115,101]||(s.toList==[109,101,114,103,101]||(s.toList==[119,104,101,110]||(s.toList==[119,104,101,110,111,116]||(s.toList==[102,98,121]||(s.toList==[116,114,117,101]||s.toList==[102,97,108,115,101]))))))))))))))))):=by simp[zcW,zdX]
theorem zA0 (s:ByteArray)(w:World):xK 281 #[.string s] w λe w'=>e=.returned (.bool (zcW s))/\w'=w:=by
 rw[zDB];go_enter func281,ntmps281;go_wp2;all_goals go_ret
 all_goals first|(refine⟨?_,rfl⟩;simp[*];done)|(exfalso;simp_all;done)
end
section
open Go.RowKit
variable {s:ByteArray} {a k:Nat}
theorem zDf (h:zQ inW s a=k)(hk:zcW (s.extract a k)=true):zfg s a=⟨5,a,k,s.extract a k,0⟩:=by unfold zfg;simp[h,hk]
theorem zBI (h:zQ inW s a=k)(hk:zcW (s.extract a k)=false)(hl:12<(k:Int)-a):zfg s a=⟨1,a,k,s.extract a k,0⟩:=by unfold zfg;simp[h,hk];omega
theorem zBP (h:zQ inW s a=k)(hk:zcW (s.extract a k)=false)(hl:(k:Int)-a<=12):zfg s a=⟨2,a,k,s.extract a k,0⟩:=by unfold zfg;simp[h,hk];omega
theorem zFi (s:ByteArray)(a:Nat)(w:World)(hs:s.size<=1200)(ha:a<=s.size):xK 255 #[.string s,xI a] w λe w'=>e=.returned (.agg #[.int .i64 (zfg s a).k,xI a,.int .i64 (zfg s a).t,.string (zfg s a).s,xI 0])/\xB w w':=by
 go_enter func255,ntmps255;go_wp2;go_loop [5] (λi=>∃k:Nat,a<=k/\k<=s.size/\i=xI k/\Hid (zQ inW s k=zQ inW s a)) (λi=>s.size-(intOf i).toNat)
 case atStart=>exact⟨a,Nat.le_refl _,ha,rfl,rfl⟩
 case round =>
  obtain⟨k,hk0,hk,rfl,HS⟩:=hrel;by_cases hlt:k<s.size
  . have hb:=ziM hlt;obtain⟨c,hc⟩:∃c,bt s k=c:=⟨_,rfl⟩;rw[hc] at hb;have Hc:Hid (bt s k=c):=hc;clear hc;have hcases:(c<48/\inW c=false)∨(48<=c/\c<=57/\inW c=true)∨(57<c/\c<95/\inW c=false)∨(c=95/\inW c=true)∨(c=96/\inW c=false)∨(97<=c/\c<=122/\inW c=true)∨(122<c/\inW c=false):=by
     unfold inW zeM zT;rcases Nat.lt_or_ge c 48 with h|h
     . left;simp;omega
     . rcases Nat.lt_or_ge 57 c with h'|h'
       . rcases Nat.lt_or_ge c 95 with h2|h2
         . right;right;left;simp;omega
         . rcases Nat.lt_or_ge c 97 with h3|h3
           . rcases Nat.lt_or_ge c 96 with h4|h4
             . right;right;right;left;simp;omega
             . right;right;right;right;left;simp;omega
           . rcases Nat.lt_or_ge 122 c with h4|h4
             . right;right;right;right;right;right;simp;omega
             . right;right;right;right;right;left;simp;omega
       . right;left;simp;omega
    rcases hcases with ⟨h1,h2⟩|⟨h1,h1',h2⟩|⟨h1,h1',h2⟩|⟨h1,h2⟩|⟨h1,h2⟩|⟨h1,h1',h2⟩|⟨h1,h2⟩;case inr.inl|inr.inr.inr.inl|inr.inr.inr.inr.inr.inl =>
     have H2:Hid (zQ inW s (k+1)=zQ inW s a):=(zd1 hlt (by rw[Hc.o];exact h2)).symm.trans HS.o;clear h2 HS;first|subst h1|skip
     go_wp2;go_round
     case rel=>exact⟨k+1,by omega,by omega,by go_num,H2⟩
     case measure=>simp[intOf];omega
    all_goals
     have h95:((c:Int)==95)=false:=beq_eq_false_iff_ne.2 (by omega);have H2:Hid (zQ inW s a=k):=HS.o.symm.trans (zif (by rw[Hc.o];exact h2));clear h2 HS;first|subst h1|skip
     go_wp2_with (go_at_call 281;refine (zA0 _ _).mono ?_;rintro e w' ⟨rfl,rfl⟩)
     . refine bodyPost_ret (v:=.agg #[xI 5,xI a,xI k,.string (s.extract a k),xI 0]) (by simp[results,results255,go_sem]) rfl ⟨?_,?_⟩
       . rw[zDf H2.o (by assumption)];rfl
       . exact ((Below.refl _ _).alloc (Nat.le_refl _) _).alloc (by simp) _
     . refine bodyPost_ret (v:=.agg #[xI 1,xI a,xI k,.string (s.extract a k),xI 0]) (by simp[results,results255,go_sem]) rfl ⟨?_,?_⟩
       . rw[zBI H2.o (by assumption) (by assumption)];rfl
       . exact ((Below.refl _ _).alloc (Nat.le_refl _) _).alloc (by simp) _
     . refine bodyPost_ret (v:=.agg #[xI 2,xI a,xI k,.string (s.extract a k),xI 0]) (by simp[results,results255,go_sem]) rfl ⟨?_,?_⟩
       . rw[zBP H2.o (by assumption) (by assumption)];rfl
       . exact ((Below.refl _ _).alloc (Nat.le_refl _) _).alloc (by simp) _
  . have H2:Hid (zQ inW s a=k):=HS.o.symm.trans (zjm (by omega));clear HS;go_wp2_with (go_at_call 281;refine (zA0 _ _).mono ?_;rintro e w' ⟨rfl,rfl⟩)
    . refine bodyPost_ret (v:=.agg #[xI 5,xI a,xI k,.string (s.extract a k),xI 0]) (by simp[results,results255,go_sem]) rfl ⟨?_,?_⟩
      . rw[zDf H2.o (by assumption)];rfl
      . exact ((Below.refl _ _).alloc (Nat.le_refl _) _).alloc (by simp) _
    . refine bodyPost_ret (v:=.agg #[xI 1,xI a,xI k,.string (s.extract a k),xI 0]) (by simp[results,results255,go_sem]) rfl ⟨?_,?_⟩
      . rw[zBI H2.o (by assumption) (by assumption)];rfl
      . exact ((Below.refl _ _).alloc (Nat.le_refl _) _).alloc (by simp) _
    . refine bodyPost_ret (v:=.agg #[xI 2,xI a,xI k,.string (s.extract a k),xI 0]) (by simp[results,results255,go_sem]) rfl ⟨?_,?_⟩
      . rw[zBP H2.o (by assumption) (by assumption)];rfl
      . exact ((Below.refl _ _).alloc (Nat.le_refl _) _).alloc (by simp) _
end
section
open Go.RowKit
variable {s:ByteArray} {i:Nat}
def zBA (x:Bool×Nat)(d:Nat):Bool×Nat:=if x.2 > (9223372036854775807-d) / 10 then (false,x.2) else (x.1,x.2*10+d)
theorem zEC (x:Bool×Nat)(h:i<s.size)(hp:zT (bt s i)=true):zdt s (s.size-i) i x=zdt s (s.size-(i+1)) (i+1) (zBA x (bt s i-48)):=by
 obtain⟨m,hm⟩:∃m,s.size-i=m+1:=⟨s.size-i-1,by omega⟩;rw[hm,show s.size-(i+1)=m by omega]
 show (if i<s.size/\zT (bt s i)=true then _ else x)=_;rw[if_pos ⟨h,hp⟩];rfl
theorem zBW (x:Bool×Nat)(h:s.size<=i∨zT (bt s i)=false):zdt s (s.size-i) i x=x:=by
 cases hm:s.size-i with
 | zero=>rfl
 | succ m => show (if i<s.size/\zT (bt s i)=true then _ else x)=_;rw[if_neg (by rintro⟨h1,h2⟩;rcases h with h|h;omega;rw[h] at h2;cases h2)]
theorem zC7 {a k:Nat}{x:Bool×Nat}(h1:zQ zT s a=k)(h2:zdt s (s.size-a) a (true,0)=x):zgc s a=⟨if x.1 then 3 else 1,a,k,⟨#[48]⟩,x.2⟩:=by unfold zgc;simp only[h1,h2]
def kOf (b:Bool):Int:=if b then 3 else 1
theorem zDz (s:ByteArray)(a:Nat)(w:World)(hs:s.size<=1200)(ha:a<=s.size):xK 256 #[.string s,xI a] w λe w'=>e=.returned (.agg #[.int .i64 (zgc s a).k,xI a,.int .i64 (zgc s a).t,.string (zgc s a).s,.int .i64 (zgc s a).n])/\xB w w':=by
 go_enter func256,ntmps256;go_wp2;go_loop [5,6,7,8] (λi n kd _=>∃(k:Nat) (x:Bool×Nat),a<=k/\k<=s.size/\x.2<=9223372036854775807/\i=xI k/\n=.int .u64 x.2/\kd=xI (kOf x.1)/\Hid (zQ zT s k=zQ zT s a)/\Hid (zdt s (s.size-k) k x=zdt s (s.size-a) a (true,0))) (λi _ _ _=>s.size-(intOf i).toNat)
 case atStart=>exact⟨a,(true,0),Nat.le_refl _,ha,by decide,rfl,rfl,rfl,rfl,rfl⟩
 case round =>
  obtain⟨k,⟨xb,xn⟩,hk0,hk,hx,rfl,rfl,rfl,HS,HN⟩:=hrel;simp only at hx;by_cases hlt:k<s.size
  . have hb:=ziM hlt;obtain⟨c,hc⟩:∃c,bt s k=c:=⟨_,rfl⟩;rw[hc] at hb;have Hc:Hid (bt s k=c):=hc;clear hc;by_cases h1:48<=c/\c<=57
    . obtain⟨h1,h2⟩:=h1;have H2:Hid (zQ zT s (k+1)=zQ zT s a):=(zd1 hlt (by rw[Hc.o];simp[zT];omega)).symm.trans HS.o;have H3:Hid (zdt s (s.size-(k+1)) (k+1) (zBA (xb,xn) (c-48))=zdt s (s.size-a) a (true,0)):=(by have:=(zEC (xb,xn) hlt (by rw[Hc.o];simp[zT];omega)).symm.trans HN.o;rw[Hc.o] at this;exact this);clear HS HN;by_cases hov:(9223372036854775807-((c:Int)-48)) / 10<xn
      . have H4:Hid (zBA (xb,xn) (c-48)=(false,xn)):=(by unfold Hid zBA;rw[if_pos (by simp only;omega)]);go_wp2_with fail;go_round
        case rel=>exact⟨k+1,(false,xn),by omega,by omega,hx,by go_num,rfl,rfl,H2,by rw[H4.o] at H3;exact H3⟩
        case measure=>simp[intOf];omega
      . have H4:Hid (zBA (xb,xn) (c-48)=(xb,xn*10+(c-48))):=(by unfold Hid zBA;rw[if_neg (by simp only;omega)]);have hov':(xn:Int)*10+(c-48)<=9223372036854775807:=(by omega);go_wp2_with fail;go_round
        case rel=>exact⟨k+1,(xb,xn*10+(c-48)),by omega,by omega,by simp only;omega,by go_num,by congr 1;simp only;omega,rfl,H2,by rw[H4.o] at H3;exact H3⟩
        case measure=>simp[intOf];omega
    . have H2:Hid (zQ zT s a=k):=HS.o.symm.trans (zif (by rw[Hc.o];simp[zT];omega));have H3:Hid (zdt s (s.size-a) a (true,0)=(xb,xn)):=HN.o.symm.trans (zBW _ (Or.inr (by rw[Hc.o];simp[zT];omega)));clear HS HN;have hcs:c<48∨57<c:=(by omega);clear h1;rcases hcs with h1|h1
      all_goals
       go_wp2_with fail;refine bodyPost_ret (v:=.agg #[xI (kOf xb),xI a,xI k,.string ⟨#[48]⟩,xI xn]) (by simp[results,results256,go_sem]) rfl ⟨?_,?_⟩
       . rw[zC7 H2.o H3.o];cases xb <;> rfl
       . exact ((Below.refl _ _).alloc (Nat.le_refl _) _)
  . have H2:Hid (zQ zT s a=k):=HS.o.symm.trans (zjm (by omega));have H3:Hid (zdt s (s.size-a) a (true,0)=(xb,xn)):=HN.o.symm.trans (zBW _ (Or.inl (by omega)));clear HS HN;go_wp2_with fail;refine bodyPost_ret (v:=.agg #[xI (kOf xb),xI a,xI k,.string ⟨#[48]⟩,xI xn]) (by simp[results,results256,go_sem]) rfl ⟨?_,?_⟩
    . rw[zC7 H2.o H3.o];cases xb <;> rfl
    . exact ((Below.refl _ _).alloc (Nat.le_refl _) _)
end
section
open Go.RowKit
variable {s:ByteArray} {a c:Nat}
theorem zzS (s:ByteArray)(a b:Nat)(bi:Int)(hbi:bi=b)(h1:a<=b)(h2:b<=s.size)(w:World):(Instr.slice 9 (.string s) (some (xI a)) (some (xI bi)) none).run prog w=.ok (.string (s.extract a b)) w:=by subst hbi;rw[run_slice_string _ _ _ _ _ _ _ underlying9 (by omega) (by omega) (by omega)];rfl
theorem zFg (h:a+2<=s.size)(h2:((s.extract a (a+2)).toList==[45,62]||(s.extract a (a+2)).toList==[60,62]||(s.extract a (a+2)).toList==[60,61])=true):zfh s a=⟨4,a,a+2,s.extract a (a+2),0⟩:=by unfold zfh;rw[if_pos ⟨h,h2⟩]
theorem zEV (hc:bt s a=c)(h:¬(a+2<=s.size/\((s.extract a (a+2)).toList==[45,62]||(s.extract a (a+2)).toList==[60,62]||(s.extract a (a+2)).toList==[60,61])=true))(h2:zfe c=true):zfh s a=⟨4,a,a+1,s.extract a (a+1),0⟩:=by unfold zfh;rw[if_neg h,hc,if_pos h2]
theorem zD3 (hc:bt s a=c)(h:¬(a+2<=s.size/\((s.extract a (a+2)).toList==[45,62]||(s.extract a (a+2)).toList==[60,62]||(s.extract a (a+2)).toList==[60,61])=true))(h2:zfe c=false):zfh s a=⟨1,a,a,⟨#[]⟩,0⟩:=by unfold zfh;rw[if_neg h,hc,if_neg (by rw[h2];simp)]
def zzi (s:ByteArray)(a:Nat)(w:World):Prop:=xK 257 #[.string s,xI a] w λe w'=>e=.returned (.agg #[.int .i64 (zfh s a).k,xI a,.int .i64 (zfh s a).t,.string (zfh s a).s,xI 0])/\xB w w'
theorem zD4 (s:ByteArray)(a:Nat)(w:World)(hs:s.size<=1200)(h2:a+2<=s.size)(hx:((s.extract a (a+2)).toList==[45,62]||(s.extract a (a+2)).toList==[60,62]||(s.extract a (a+2)).toList==[60,61])=true):zzi s a w:=by
 unfold zzi;rw[zFg h2 hx];have hsl:=zzS s a (a+2) ((a:Int)+2) (by omega) (by omega) h2;generalize hy:(s.extract a (a+2))=y at *;clear hy;cases e1:(y.toList==[45,62]) <;> cases e2:(y.toList==[60,62]) <;> cases e3:(y.toList==[60,61]);case false.false.false=>rw[e1,e2,e3] at hx;cases hx
 all_goals
  clear hx;go_enter func257,ntmps257;go_wp2;refine bodyPost_ret (v:=.agg #[xI 4,xI a,xI ((a:Int)+2),.string y,xI 0]) (by simp[results,results257,go_sem]) rfl ⟨?_,?_⟩
  . rfl
  . exact ((Below.refl _ _).alloc (Nat.le_refl _) _)
theorem zEt (s:ByteArray)(a c:Nat)(w:World)(hs:s.size<=1200)(ha:a<s.size)(hc:bt s a=c)(hx:¬(a+2<=s.size/\((s.extract a (a+2)).toList==[45,62]||(s.extract a (a+2)).toList==[60,62]||(s.extract a (a+2)).toList==[60,61])=true))(hg:zfe c=true):zzi s a w:=by
 unfold zzi;rw[zEV hc hx hg];have hb:=ziM ha;rw[hc] at hb;clear hc;have hsl:=zzS s a (a+1) ((a:Int)+1) (by omega) (by omega) (by omega);have hgs:c=40∨c=41∨c=123∨c=125∨c=58∨c=59∨c=44∨c=61∨c=60∨c=43∨c=45∨c=42∨c=47∨c=37:=by simpa [zfe] using hg
 clear hg;by_cases h2:a+2<=s.size
 . have hsl2:=zzS s a (a+2) ((a:Int)+2) (by omega) (by omega) h2;have hx':((s.extract a (a+2)).toList==[45,62])=false/\((s.extract a (a+2)).toList==[60,62])=false/\((s.extract a (a+2)).toList==[60,61])=false:=by cases e1:((s.extract a (a+2)).toList==[45,62]) <;> cases e2:((s.extract a (a+2)).toList==[60,62]) <;> cases e3:((s.extract a (a+2)).toList==[60,61]) <;> simp_all
   clear hx;generalize hy:(s.extract a (a+2))=y at *;clear hy;obtain⟨e1,e2,e3⟩:=hx';rcases hgs with h|h|h|h|h|h|h|h|h|h|h|h|h|h
   all_goals
    subst h;go_enter func257,ntmps257;go_wp2;refine bodyPost_ret (v:=.agg #[xI 4,xI a,xI ((a:Int)+1),.string (s.extract a (a+1)),xI 0]) (by simp[results,results257,go_sem]) rfl ⟨?_,?_⟩
    . rfl
    . exact ((Below.refl _ _).alloc (Nat.le_refl _) _)
 . clear hx;rcases hgs with h|h|h|h|h|h|h|h|h|h|h|h|h|h
   all_goals
    subst h;go_enter func257,ntmps257;go_wp2;refine bodyPost_ret (v:=.agg #[xI 4,xI a,xI ((a:Int)+1),.string (s.extract a (a+1)),xI 0]) (by simp[results,results257,go_sem]) rfl ⟨?_,?_⟩
    . rfl
    . exact ((Below.refl _ _).alloc (Nat.le_refl _) _)
theorem zEn (s:ByteArray)(a c:Nat)(w:World)(hs:s.size<=1200)(ha:a<s.size)(hc:bt s a=c)(hx:¬(a+2<=s.size/\((s.extract a (a+2)).toList==[45,62]||(s.extract a (a+2)).toList==[60,62]||(s.extract a (a+2)).toList==[60,61])=true))(hg:zfe c=false):zzi s a w:=by
 unfold zzi;rw[zD3 hc hx hg];have hb:=ziM ha;rw[hc] at hb;clear hc;have hgs:((c:Int)==40)=false/\((c:Int)==41)=false/\((c:Int)==123)=false/\((c:Int)==125)=false/\((c:Int)==58)=false/\((c:Int)==59)=false/\((c:Int)==44)=false/\((c:Int)==61)=false/\((c:Int)==60)=false/\((c:Int)==43)=false/\((c:Int)==45)=false/\((c:Int)==42)=false/\((c:Int)==47)=false/\((c:Int)==37)=false:=by
  have:¬c=40/\¬c=41/\¬c=123/\¬c=125/\¬c=58/\¬c=59/\¬c=44/\¬c=61/\¬c=60/\¬c=43/\¬c=45/\¬c=42/\¬c=47/\¬c=37:=by simpa [zfe] using hg
  simp only[beq_eq_false_iff_ne];omega
 clear hg;obtain⟨g1,g2,g3,g4,g5,g6,g7,g8,g9,g10,g11,g12,g13,g14⟩:=hgs;by_cases h2:a+2<=s.size
 . have hsl2:=zzS s a (a+2) ((a:Int)+2) (by omega) (by omega) h2;have hx':((s.extract a (a+2)).toList==[45,62])=false/\((s.extract a (a+2)).toList==[60,62])=false/\((s.extract a (a+2)).toList==[60,61])=false:=by cases e1:((s.extract a (a+2)).toList==[45,62]) <;> cases e2:((s.extract a (a+2)).toList==[60,62]) <;> cases e3:((s.extract a (a+2)).toList==[60,61]) <;> simp_all
   clear hx;generalize hy:(s.extract a (a+2))=y at *;clear hy;obtain⟨e1,e2,e3⟩:=hx';go_enter func257,ntmps257;go_wp2;refine bodyPost_ret (v:=.agg #[xI 1,xI a,xI a,.string ⟨#[]⟩,xI 0]) (by simp[results,results257,go_sem]) rfl ⟨?_,?_⟩
   . rfl
   . exact ((Below.refl _ _).alloc (Nat.le_refl _) _)
 . clear hx;go_enter func257,ntmps257;go_wp2;refine bodyPost_ret (v:=.agg #[xI 1,xI a,xI a,.string ⟨#[]⟩,xI 0]) (by simp[results,results257,go_sem]) rfl ⟨?_,?_⟩
   . rfl
   . exact ((Below.refl _ _).alloc (Nat.le_refl _) _)
theorem zEY (s:ByteArray)(a:Nat)(w:World)(hs:s.size<=1200)(ha:a<s.size):zzi s a w:=by
 by_cases h:a+2<=s.size/\((s.extract a (a+2)).toList==[45,62]||(s.extract a (a+2)).toList==[60,62]||(s.extract a (a+2)).toList==[60,61])=true
 . exact zD4 s a w hs h.1 h.2
 . cases hg:zfe (bt s a) with
   | true=>exact zEt s a _ w hs ha rfl h hg
   | false=>exact zEn s a _ w hs ha rfl h hg
end
section
open Go.RowKit
variable {s:ByteArray} {a p:Nat}
def Tk.val (t:Tk):Value:=.agg #[xI t.k,xI t.a,xI t.t,.string t.s,xI t.n]
theorem zBK (s:ByteArray)(a:Nat):(zfh s a).a=a/\(zfh s a).n=0:=by unfold zfh;split;exact⟨rfl,rfl⟩;split <;> exact⟨rfl,rfl⟩
theorem zFI (h:zQ zbY s p=a)(h1:a=s.size):zZ s p=⟨0,a,a,⟨#[]⟩,0⟩:=by unfold zZ;simp only[h];rw[if_pos h1]
theorem zEw (h:zQ zbY s p=a)(h1:¬a=s.size)(h2:zeM (bt s a)=true):zZ s p=zfg s a:=by unfold zZ;simp only[h];rw[if_neg h1,if_pos h2]
theorem zFG (h:zQ zbY s p=a)(h1:¬a=s.size)(h2:zeM (bt s a)=false)(h3:zT (bt s a)=true):zZ s p=zgc s a:=by unfold zZ;simp only[h];rw[if_neg h1,if_neg (by rw[h2];simp),if_pos h3]
theorem zDS (h:zQ zbY s p=a)(h1:¬a=s.size)(h2:zeM (bt s a)=false)(h3:zT (bt s a)=false):zZ s p=zfh s a:=by unfold zZ;simp only[h];rw[if_neg h1,if_neg (by rw[h2];simp),if_neg (by rw[h3];simp)]
theorem zFz (s:ByteArray)(p:Nat)(w:World)(hs:s.size<=1200)(hp:p<=s.size):xK 205 #[.string s,xI p] w λe w'=>e=.returned (zZ s p).val/\xB w w':=by
 go_enter func205,ntmps205;go_wp2_with fail;go_loop [1] (λi=>∃k:Nat,p<=k/\k<=s.size/\i=xI k/\Hid (zQ zbY s k=zQ zbY s p)) (λi=>s.size-(intOf i).toNat)
 case atStart=>exact⟨p,Nat.le_refl _,hp,rfl,rfl⟩
 case round =>
  obtain⟨k,hk0,hk,rfl,HS⟩:=hrel;by_cases hlt:k<s.size
  . have hb:=ziM hlt;obtain⟨c,hc⟩:∃c,bt s k=c:=⟨_,rfl⟩;rw[hc] at hb;have Hc:Hid (bt s k=c):=hc;clear hc;by_cases h1:c=32∨c=10
    . have H2:Hid (zQ zbY s (k+1)=zQ zbY s p):=(zd1 hlt (by rw[Hc.o];simp[zbY];omega)).symm.trans HS.o;clear HS;rcases h1 with h1|h1
      all_goals
       subst h1;go_wp2_with fail;go_round
       case rel=>exact⟨k+1,by omega,by omega,by go_num,H2⟩
       case measure=>simp[intOf];omega
    . have H2:Hid (zQ zbY s p=k):=HS.o.symm.trans (zif (by rw[Hc.o];simp[zbY];omega));have b1:((c:Int)==32)=false:=beq_eq_false_iff_ne.2 (by omega);have b2:((c:Int)==10)=false:=beq_eq_false_iff_ne.2 (by omega);have b3:((k:Int)==(s.size:Int))=false:=beq_eq_false_iff_ne.2 (by omega);clear HS h1;have hcs:(97<=c/\c<=122)∨(48<=c/\c<=57)∨(¬(97<=c/\c<=122)/\¬(48<=c/\c<=57)):=(by omega);rcases hcs with h|h|h
      . have d1:(decide (97<=(c:Int))&&decide ((c:Int)<=122))=true:=(by simp;omega);have d2:(decide (48<=(c:Int))&&decide ((c:Int)<=57))=false:=(by simp;omega);have H3:Hid (zZ s p=zfg s k):=zEw H2.o (by omega) (by rw[Hc.o];simp[zeM];omega);clear h;go_wp2_with (first|(go_at_call 253;refine (zAF _ _).mono ?_;rintro e w' ⟨rfl,rfl⟩)|(go_at_call 254;refine (zAA _ _).mono ?_;rintro e w' ⟨rfl,rfl⟩));refine ((zFi s k _ hs hk)).mono ?_;rintro e w1 ⟨rfl,hb1⟩;obtain⟨hc1,hf1⟩:=zoV hb1;go_wp2_with fail;refine bodyPost_ret (v:=.agg #[.int .i64 (zfg s k).k,xI k,.int .i64 (zfg s k).t,.string (zfg s k).s,xI 0]) (by simp[results,results205,go_sem,hc1]) rfl ⟨?_,?_⟩
        . rw[H3.o];rfl
        . exact ((((((((Below.refl _ _).alloc (Nat.le_refl _) _).trans (hb1.mono (by simp)))).setCell (Nat.le_refl _) _).setCell (Nat.le_refl _) _).setCell (Nat.le_refl _) _).setCell (Nat.le_refl _) _).setCell (Nat.le_refl _) _
      . have d1:(decide (97<=(c:Int))&&decide ((c:Int)<=122))=false:=(by simp;omega);have d2:(decide (48<=(c:Int))&&decide ((c:Int)<=57))=true:=(by simp;omega);have H3:Hid (zZ s p=zgc s k):=zFG H2.o (by omega) (by rw[Hc.o];simp[zeM];omega) (by rw[Hc.o];simp[zT];omega);clear h;go_wp2_with (first|(go_at_call 253;refine (zAF _ _).mono ?_;rintro e w' ⟨rfl,rfl⟩)|(go_at_call 254;refine (zAA _ _).mono ?_;rintro e w' ⟨rfl,rfl⟩));refine ((zDz s k _ hs hk)).mono ?_;rintro e w1 ⟨rfl,hb1⟩;obtain⟨hc1,hf1⟩:=zoV hb1;go_wp2_with fail;refine bodyPost_ret (v:=.agg #[.int .i64 (zgc s k).k,xI k,.int .i64 (zgc s k).t,.string (zgc s k).s,.int .i64 (zgc s k).n]) (by simp[results,results205,go_sem,hc1]) rfl ⟨?_,?_⟩
        . rw[H3.o];rfl
        . exact ((((((((Below.refl _ _).alloc (Nat.le_refl _) _).trans (hb1.mono (by simp)))).setCell (Nat.le_refl _) _).setCell (Nat.le_refl _) _).setCell (Nat.le_refl _) _).setCell (Nat.le_refl _) _).setCell (Nat.le_refl _) _
      . have d1:(decide (97<=(c:Int))&&decide ((c:Int)<=122))=false:=(by simp;omega);have d2:(decide (48<=(c:Int))&&decide ((c:Int)<=57))=false:=(by simp;omega);have H3:Hid (zZ s p=zfh s k):=zDS H2.o (by omega) (by rw[Hc.o];simp[zeM];omega) (by rw[Hc.o];simp[zT];omega);clear h;go_wp2_with (first|(go_at_call 253;refine (zAF _ _).mono ?_;rintro e w' ⟨rfl,rfl⟩)|(go_at_call 254;refine (zAA _ _).mono ?_;rintro e w' ⟨rfl,rfl⟩));refine ((zEY s k _ hs hlt)).mono ?_;rintro e w1 ⟨rfl,hb1⟩;obtain⟨hc1,hf1⟩:=zoV hb1;go_wp2_with fail;refine bodyPost_ret (v:=.agg #[.int .i64 (zfh s k).k,xI k,.int .i64 (zfh s k).t,.string (zfh s k).s,xI 0]) (by simp[results,results205,go_sem,hc1]) rfl ⟨?_,?_⟩
        . rw[H3.o];unfold Tk.val;rw[(zBK s k).1,(zBK s k).2];rfl
        . exact ((((((((Below.refl _ _).alloc (Nat.le_refl _) _).trans (hb1.mono (by simp)))).setCell (Nat.le_refl _) _).setCell (Nat.le_refl _) _).setCell (Nat.le_refl _) _).setCell (Nat.le_refl _) _).setCell (Nat.le_refl _) _
  . have H2:Hid (zQ zbY s p=k):=HS.o.symm.trans (zjm (by omega));have b3:((k:Int)==(s.size:Int))=true:=beq_iff_eq.2 (by omega);have H3:Hid (zZ s p=⟨0,k,k,⟨#[]⟩,0⟩):=zFI H2.o (by omega);clear HS;go_wp2_with fail;refine bodyPost_ret (v:=.agg #[xI 0,xI k,xI k,.string ⟨#[]⟩,xI 0]) (by simp[results,results205,go_sem]) rfl ⟨?_,?_⟩
    . rw[H3.o];rfl
    . exact ((Below.refl _ _).alloc (Nat.le_refl _) _)
end
end Go.Proofs.YtmfkofhgdjechaaGreatDoor
