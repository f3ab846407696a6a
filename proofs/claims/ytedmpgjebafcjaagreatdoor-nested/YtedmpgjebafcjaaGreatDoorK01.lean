/- Part 2 of the proof: CodP MdlT Blk CodC. -/
import Derived.Deep.DeepMust
import Derived.Deep.RegionWith
import Derived.Lib.AtoiErrMem
import Derived.Lib.ParseIntB
import Derived.Test.YtedmpgjebafcjaaGreatDoorShelf
import Derived.Test.YtedmpgjebafcjaaGreatDoorK00
set_option maxRecDepth 100000
set_option maxHeartbeats 8000000
namespace Go.Proofs.YtedmpgjebafcjaaGreatDoor
section
open Go.RowKit
def ck (t:Tk):Nat:=if t.k=0 then 1 else if t.k=1 then 0 else if t.k=2 then 3 else if t.k=3 then 4 else 2
def cs (src:ByteArray) (t:Tk):ByteArray:=if t.k=3 then src.extract t.a t.t else if 2<=t.k then t.s else ⟨#[]⟩
def cn (t:Tk):Nat:=if t.k=3 then t.n else 0
def zcY:List ByteArray:=[⟨#[]⟩,⟨#[116,114,117,101]⟩,⟨#[102,97,108,115,101]⟩,⟨#[]⟩,⟨#[]⟩,⟨#[105,102]⟩,⟨#[109,101,114,103,101]⟩,⟨#[119,104,101,110]⟩,⟨#[119,104,101,110,111,116]⟩,⟨#[102,98,121]⟩,⟨#[45]⟩,⟨#[110,111,116]⟩,⟨#[97,110,100]⟩,⟨#[111,114]⟩,⟨#[120,111,114]⟩,⟨#[61]⟩,⟨#[60,62]⟩,⟨#[60]⟩,⟨#[60,61]⟩,⟨#[43]⟩,⟨#[45]⟩,⟨#[42]⟩,⟨#[47]⟩,⟨#[37]⟩]
def sen (S:Nat->Addr) (e:Nat):Value:=.iface 293 (.pointer (some (S e)))
structure Gl (S:Nat->Addr) (w:World):Prop where
 long:w.cell? ⟨2,0,none⟩=some (sen S 1)
 syn:w.cell? ⟨3,0,none⟩=some (sen S 2)
 deep:w.cell? ⟨4,0,none⟩=some (sen S 3)
 name:w.cell? ⟨5,0,none⟩=some (sen S 4)
 type:w.cell? ⟨6,0,none⟩=some (sen S 5)
 clock:w.cell? ⟨7,0,none⟩=some (sen S 6)
 define:w.cell? ⟨8,0,none⟩=some (sen S 7)
 cause:w.cell? ⟨9,0,none⟩=some (sen S 8)
 limit:w.cell? ⟨10,0,none⟩=some (sen S 9)
 image:w.cell? ⟨11,0,none⟩=some (sen S 10)
 input:w.cell? ⟨0,0,none⟩=some (sen S 11)
 range:w.cell? ⟨15,0,none⟩=some (sen S 12)
 words:∀i s,zcY[i]?=some s->w.cell? ⟨17,i,none⟩=some (.string s)
 size:21<=w.heap.size
theorem Gl.of {S:Nat->Addr} {w w':World} (h:Gl S w) {T:Nat->Prop} (hf:Fr T w w') (hT:∀k,T k->21<=k):Gl S w':=by
 have hc:∀k o,k<21->w'.cell? ⟨k,o,none⟩=w.cell? ⟨k,o,none⟩:=λk o hk =>
  World.cell?_of_block (w:=w) (hf.block k (Nat.lt_of_lt_of_le hk h.size) (λht=>by have:=hT k ht;omega))
 exact ⟨(hc _ _ (by decide)).trans h.long,(hc _ _ (by decide)).trans h.syn,(hc _ _ (by decide)).trans h.deep,(hc _ _ (by decide)).trans h.name,(hc _ _ (by decide)).trans h.type,(hc _ _ (by decide)).trans h.clock,(hc _ _ (by decide)).trans h.define,(hc _ _ (by decide)).trans h.cause,(hc _ _ (by decide)).trans h.limit,(hc _ _ (by decide)).trans h.image,(hc _ _ (by decide)).trans h.input,(hc _ _ (by decide)).trans h.range,
  λi s hs=>(hc _ _ (by decide)).trans (h.words i s hs),Nat.le_trans h.size hf.size⟩
def za2 (S:Nat->Addr) (er a:Nat):Value:=if er=0 then .nilIface else .iface 74 (.agg #[sen S er,.int .i64 a])
def zgL (S:Nat->Addr) (st:St):Obj:=.cells #[.string st.src,.int .i64 (ck st.t),.string (cs st.src st.t),.int .i64 st.t.a,.int .i64 (cn st.t),.int .i64 st.op,za2 S st.er st.at'] 147 (0,0)
structure Tx (src:ByteArray) (t:Tk):Prop where
 text:t.k=2∨4<=t.k->t.s=src.extract t.a t.t
 kw:t.k=5->zcW t.s=true
 sg:t.k=4->zcW t.s=false
theorem zl7 (src:ByteArray) (a t:Nat):Tx src ⟨1,a,t,⟨#[]⟩,0⟩:=⟨λh=>by rcases h with h|h <;> simp at h,λh=>by simp at h,λh=>by simp at h⟩
theorem zoS {s:ByteArray} (h:(s.toList==[45,62]||s.toList==[60,62]||s.toList==[60,61])=true):zcW s=false:=by
 simp only [Bool.or_eq_true,beq_iff_eq] at h
 unfold zcW
 rcases h with (h|h)|h <;> (rw [h];decide)
theorem zon {s:ByteArray} (h:s.toList.length<=1):zcW s=false:=by
 unfold zcW
 generalize s.toList=l at h
 match l,h with
 | [],_=>decide
 | [x],_=>simp [zdX]
theorem zd7 (s:ByteArray):s.toList.length=s.size:=by
 rw [ByteArray.toList_eq]
 exact Array.length_toList
theorem zkH (src:ByteArray) (p:Nat):Tx src (zZ src p):=by
 unfold zZ
 simp only
 split
 · exact ⟨λh=>by simp at h,λh=>by simp at h,λh=>by simp at h⟩
 · split
   · unfold zfg
     simp only
     refine ⟨λ_=>rfl,λh=>?_,λh=>?_⟩
     · simp only at h ⊢
       split at h
       · assumption
       · split at h <;> simp at h
     · simp only at h
       split at h
       · simp at h
       · split at h <;> simp at h
   · split
     · unfold zgc
       simp only
       refine ⟨λh=>?_,λh=>?_,λh=>?_⟩ <;> (simp only at h;split at h <;> simp at h)
     · unfold zfh
       split
       · rename_i h1
         exact ⟨λ_=>rfl,λh=>by simp at h,λ_=>zoS h1.2⟩
       · split
         · refine ⟨λ_=>rfl,λh=>by simp at h,λ_=>zon ?_⟩
           rw [zd7,ByteArray.size_extract]
           omega
         · exact ⟨λh=>by simp at h,λh=>by simp at h,λh=>by simp at h⟩
theorem zrl {src:ByteArray} {t:Tk} (h:Tx src t):cs src t=if 2<=t.k then src.extract t.a t.t else ⟨#[]⟩:=by
 unfold cs
 split
 · rename_i h1;rw [if_pos (by omega)]
 · split
   · rename_i h1 h2
     exact h.text (by omega)
   · rfl
def St.atB (st:St) (l:List UInt8):Bool:=(st.t.k==4||st.t.k==5)&&st.t.s.toList==l
theorem zqP {st:St} (hk:st.t.k<=5) (l:List UInt8):(ck st.t==2&&(cs st.src st.t).toList==l)=st.atB l:=by
 unfold St.atB ck cs
 rcases Nat.lt_or_ge st.t.k 4 with h|h
 · have:st.t.k=0∨st.t.k=1∨st.t.k=2∨st.t.k=3:=by omega
   rcases this with h|h|h|h <;> simp [h]
 · have:st.t.k=4∨st.t.k=5:=by omega
   rcases this with h|h <;> simp [h]
theorem zo2 {s:ByteArray} {l:List UInt8} (h:s.toList=l):zcW s=zdX.any λx=>l==x:=by subst h;rfl
theorem zaB {st:St} (hT:Tx st.src st.t) {l:List UInt8} (hl:(zdX.any λx=>l==x)=false):st.atB l=st.is 4 l:=by
 unfold St.atB St.is
 by_cases h5:st.t.k=5
 · have h:=hT.kw h5
   by_cases hs:st.t.s.toList=l
   · rw [zo2 hs,hl] at h;cases h
   · simp [h5,hs]
 · have:(st.t.k==5)=false:=by simp [h5]
   rw [this,Bool.or_false]
theorem zar {st:St} (hT:Tx st.src st.t) {l:List UInt8} (hl:(zdX.any λx=>l==x)=true):st.atB l=st.is 5 l:=by
 unfold St.atB St.is
 by_cases h4:st.t.k=4
 · have h:=hT.sg h4
   by_cases hs:st.t.s.toList=l
   · rw [zo2 hs,hl] at h;cases h
   · simp [h4,hs]
 · have:(st.t.k==4)=false:=by simp [h4]
   rw [this,Bool.false_or]
structure PL (S:Nat->Addr) (w:World) (pb:Nat) (st:St):Prop where
 tx:Tx st.src st.t
 heap:w.heap[pb]?=some (zgL S st)
 gl:Gl S w
 pb:21<=pb
theorem PL.cells {S:Nat->Addr} {w:World} {pb:Nat} {st:St} (h:PL S w pb st) :
 w.cell? ⟨pb,0,none⟩=some (.string st.src)/\w.cell? ⟨pb,1,none⟩=some (.int .i64 (ck st.t))/\w.cell? ⟨pb,2,none⟩=some (.string (cs st.src st.t))/\w.cell? ⟨pb,3,none⟩=some (.int .i64 st.t.a) /\
 w.cell? ⟨pb,4,none⟩=some (.int .i64 (cn st.t))/\w.cell? ⟨pb,5,none⟩=some (.int .i64 st.op)/\w.cell? ⟨pb,6,none⟩=some (za2 S st.er st.at'):=by
 have:=h.heap
 simp [World.cell?,this,zgL]
theorem PL.frozen {S:Nat->Addr} {w:World} {pb:Nat} {st:St} (h:PL S w pb st) (i:Nat):w.frozen? ⟨pb,i,none⟩=false:=by
 have:=h.heap
 simp [World.frozen?,this,zgL]
theorem PL.lt {S:Nat->Addr} {w:World} {pb:Nat} {st:St} (h:PL S w pb st):pb<w.heap.size:=by
 have h':=h.heap
 rcases Nat.lt_or_ge pb w.heap.size with h1|h1
 · exact h1
 · rw [Array.getElem?_eq_none h1] at h';cases h'
theorem PL.drew {S:Nat->Addr} {w:World} {pb:Nat} {st:St} (h:PL S w pb st):PL S w.drew pb st:=⟨h.tx,h.heap,h.gl.of (Fr.refl (·=pb) w).drew (λ_ hk=>hk▸h.pb),h.pb⟩
theorem PL.fr {S:Nat->Addr} {w w':World} {pb:Nat} {st:St} (h:PL S w pb st) {T:Nat->Prop} (hf:Fr T w w') (hT:∀k,T k->pb<k):PL S w' pb st :=
 ⟨h.tx,(hf.block pb h.lt (λht=>by have:=hT _ ht;omega)).trans h.heap,h.gl.of hf (λk hk=>by have:=hT k hk;have:=h.pb;omega),h.pb⟩
theorem PL.alloc {S:Nat->Addr} {w:World} {pb:Nat} {st:St} (h:PL S w pb st) (o:Obj):PL S (w.alloc o) pb st :=
 h.fr (T:=λ_=>False) ((Fr.refl _ w).alloc o) (λ_ hk=>hk.elim)
theorem PL.below {S:Nat->Addr} {w w':World} {pb:Nat} {st:St} (h:PL S w pb st) (hb:Below w.heap.size w w'):PL S w' pb st :=
 h.fr (T:=λ_=>False) (Fr.of_below hb) (λ_ hk=>hk.elim)
theorem PL.setOther {S:Nat->Addr} {w:World} {pb:Nat} {st:St} (h:PL S w pb st) {b:Nat} (hb:pb<b) (i:Nat) (u:Value):PL S (w.setCell ⟨b,i,none⟩ u) pb st :=
 h.fr (T:=(·=b)) ((Fr.refl _ w).set1 i u) (λ_ hk=>hk▸hb)
theorem PL.setTok {S:Nat->Addr} {w:World} {pb:Nat} {st:St} (h:PL S w pb st) (t:Tk) (ht:Tx st.src t):PL S (((((w.setCell ⟨pb,1,none⟩ (.int .i64 (ck t))).setCell ⟨pb,2,none⟩ (.string (cs st.src t))).setCell ⟨pb,3,none⟩ (.int .i64 t.a)).setCell ⟨pb,4,none⟩ (.int .i64 (cn t)))) pb { st with t:=t }:=by
 have h0:w.heap[pb]?=some (.cells #[.string st.src,.int .i64 (ck st.t),.string (cs st.src st.t),.int .i64 st.t.a,.int .i64 (cn st.t),.int .i64 st.op,za2 S st.er st.at'] 147 (0,0)):=h.heap
 have h1:(w.setCell ⟨pb,1,none⟩ (.int .i64 (ck t))).heap[pb]?=some (.cells #[.string st.src,.int .i64 (ck t),.string (cs st.src st.t),.int .i64 st.t.a,.int .i64 (cn st.t),.int .i64 st.op,za2 S st.er st.at'] 147 (0,0)):=zh _ _ _ _ h0
 have h2:((w.setCell ⟨pb,1,none⟩ (.int .i64 (ck t))).setCell ⟨pb,2,none⟩ (.string (cs st.src t))).heap[pb]?=some (.cells #[.string st.src,.int .i64 (ck t),.string (cs st.src t),.int .i64 st.t.a,.int .i64 (cn st.t),.int .i64 st.op,za2 S st.er st.at'] 147 (0,0)):=zh _ _ _ _ h1
 have h3:(((w.setCell ⟨pb,1,none⟩ (.int .i64 (ck t))).setCell ⟨pb,2,none⟩ (.string (cs st.src t))).setCell ⟨pb,3,none⟩ (.int .i64 t.a)).heap[pb]?=some (.cells #[.string st.src,.int .i64 (ck t),.string (cs st.src t),.int .i64 t.a,.int .i64 (cn st.t),.int .i64 st.op,za2 S st.er st.at'] 147 (0,0)):=zh _ _ _ _ h2
 have h4:((((w.setCell ⟨pb,1,none⟩ (.int .i64 (ck t))).setCell ⟨pb,2,none⟩ (.string (cs st.src t))).setCell ⟨pb,3,none⟩ (.int .i64 t.a)).setCell ⟨pb,4,none⟩ (.int .i64 (cn t))).heap[pb]?=some (.cells #[.string st.src,.int .i64 (ck t),.string (cs st.src t),.int .i64 t.a,.int .i64 (cn t),.int .i64 st.op,za2 S st.er st.at'] 147 (0,0)):=zh _ _ _ _ h3
 exact ⟨ht,h4,h.gl.of (T:=(·=pb)) (((((Fr.refl _ w).set1 _ _).set1 _ _).set1 _ _).set1 _ _) (λ_ hk=>hk▸h.pb),h.pb⟩
theorem PL.setErr {S:Nat->Addr} {w:World} {pb:Nat} {st:St} (h:PL S w pb st) (e a:Nat):PL S ((w.setCell ⟨pb,6,none⟩ (za2 S e a))) pb { st with er:=e,at':=a }:=by
 have h0:w.heap[pb]?=some (.cells #[.string st.src,.int .i64 (ck st.t),.string (cs st.src st.t),.int .i64 st.t.a,.int .i64 (cn st.t),.int .i64 st.op,za2 S st.er st.at'] 147 (0,0)):=h.heap
 have h1:(w.setCell ⟨pb,6,none⟩ (za2 S e a)).heap[pb]?=some (.cells #[.string st.src,.int .i64 (ck st.t),.string (cs st.src st.t),.int .i64 st.t.a,.int .i64 (cn st.t),.int .i64 st.op,za2 S e a] 147 (0,0)):=zh _ _ _ _ h0
 exact ⟨h.tx,h1,h.gl.of (T:=(·=pb)) ((Fr.refl _ w).set1 _ _) (λ_ hk=>hk▸h.pb),h.pb⟩
theorem PL.setOp {S:Nat->Addr} {w:World} {pb:Nat} {st:St} (h:PL S w pb st) (o:Nat):PL S ((w.setCell ⟨pb,5,none⟩ (.int .i64 (o:Nat)))) pb { st with op:=o }:=by
 have h0:w.heap[pb]?=some (.cells #[.string st.src,.int .i64 (ck st.t),.string (cs st.src st.t),.int .i64 st.t.a,.int .i64 (cn st.t),.int .i64 st.op,za2 S st.er st.at'] 147 (0,0)):=h.heap
 have h1:(w.setCell ⟨pb,5,none⟩ (.int .i64 (o:Nat))).heap[pb]?=some (.cells #[.string st.src,.int .i64 (ck st.t),.string (cs st.src st.t),.int .i64 st.t.a,.int .i64 (cn st.t),.int .i64 o,za2 S st.er st.at'] 147 (0,0)):=zh _ _ _ _ h0
 exact ⟨h.tx,h1,h.gl.of (T:=(·=pb)) ((Fr.refl _ w).set1 _ _) (λ_ hk=>hk▸h.pb),h.pb⟩
end
section
theorem zbN (s:ByteArray) (a:Nat) (ha:a<=s.size):(s.extract a s.size).size=s.size-a:=by rw [ByteArray.size_extract];omega
theorem zfd (s:ByteArray) (a i:Nat) (ha:a<=s.size):bt (s.extract a s.size) i=bt s (a+i):=by
 unfold bt
 by_cases h:i<s.size-a
 · rw [dif_pos (by rw [zbN s a ha];exact h),dif_pos (by omega)]
   congr 1
   rw [ByteArray.getElem_extract]
 · rw [dif_neg (by rw [zbN s a ha];exact h),dif_neg (by omega)]
theorem zlm (p:Nat->Bool) (s:ByteArray) (a:Nat) (ha:a<=s.size):∀f i,zc0 p (s.extract a s.size) f i+a=zc0 p s f (a+i):=by
 intro f
 induction f with
 | zero=>intro i;show i+a=a+i;omega
 | succ f ih =>
   intro i
   show (if i<(s.extract a s.size).size/\p (bt (s.extract a s.size) i)=true then zc0 p (s.extract a s.size) f (i+1) else i)+a=(if a+i<s.size/\p (bt s (a+i))=true then zc0 p s f (a+i+1) else a+i)
   rw [zbN s a ha,zfd s a i ha]
   by_cases h:i<s.size-a/\p (bt s (a+i))=true
   · rw [if_pos h,if_pos ⟨by omega,h.2⟩,ih (i+1)];rfl
   · rw [if_neg h,if_neg (λh2=>h ⟨by omega,h2.2⟩)];omega
theorem zf3 (p:Nat->Bool) (s:ByteArray) (a:Nat) (ha:a<=s.size):zQ p (s.extract a s.size) 0+a=zQ p s a:=by
 unfold zQ
 rw [zbN s a ha]
 have:=zlm p s a ha (s.size-a-0) 0
 simpa using this
theorem zcL (s:ByteArray) (a n:Nat) (h:a+n<=s.size):(s.extract a s.size).extract 0 n=s.extract a (a+n):=by
 rw [ByteArray.extract_extract]
 congr 1
 omega
def zdm:List UInt8->Bool×Nat->Bool×Nat
 | [],x=>x
 | c::r,x=>zdm r (if x.2 > (9223372036854775807-(c.toNat-48)) / 10 then (false,x.2) else (x.1,x.2*10+(c.toNat-48)))
theorem zlP:∀(l:List UInt8) (n:Nat),(zdm l (false,n)).1=false:=by
 intro l
 induction l with
 | nil=>intro n;rfl
 | cons c r ih =>
   intro n
   show (zdm r (if n > (9223372036854775807-(c.toNat-48)) / 10 then (false,n) else (false,n*10+(c.toNat-48)))).1=false
   split <;> exact ih _
def zfi (l:List UInt8):Prop:=∀c∈l,48<=c.toNat/\c.toNat<=57
theorem znD (M:Nat):∀(l:List UInt8) (acc:Nat),zfi l->Lib.parseUintM M acc l=.range∨∃u,Lib.parseUintM M acc l=.ok u/\acc<=u:=by
 intro l
 induction l with
 | nil=>intro acc _;exact Or.inr ⟨acc,rfl,Nat.le_refl _⟩
 | cons c r ih =>
   intro acc h
   have hc:=h c (by simp)
   have hr:zfi r:=λx hx=>h x (by simp [hx])
   have e2:Lib.parseUintM M acc (c::r)=if 1844674407370955162<=acc then .range else if M<acc*10+(c.toNat-48) then .range else Lib.parseUintM M (acc*10+(c.toNat-48)) r:=by rw [Lib.parseUintM,if_pos hc]
   rw [e2]
   split
   · exact Or.inl rfl
   · split
     · exact Or.inl rfl
     · rcases ih (acc*10+(c.toNat-48)) hr with h1|⟨u,h1,h2⟩
       · exact Or.inl h1
       · exact Or.inr ⟨u,h1,by omega⟩
theorem zqR:∀(l:List UInt8) (acc:Nat),zfi l->acc<=9223372036854775807 ->
 ((zdm l (true,acc)).1=true->Lib.parseUintM 18446744073709551615 acc l=.ok (zdm l (true,acc)).2/\(zdm l (true,acc)).2<=9223372036854775807) /\
 ((zdm l (true,acc)).1=false->Lib.parseUintM 18446744073709551615 acc l=.range∨∃u,Lib.parseUintM 18446744073709551615 acc l=.ok u/\9223372036854775807<u):=by
 intro l
 induction l with
 | nil=>intro acc _ ha;exact ⟨λ_=>⟨rfl,ha⟩,λh=>by cases h⟩
 | cons c r ih =>
   intro acc h ha
   have hc:=h c (by simp)
   have hr:zfi r:=λx hx=>h x (by simp [hx])
   have e1:zdm (c::r) (true,acc)=zdm r (if acc > (9223372036854775807-(c.toNat-48)) / 10 then (false,acc) else (true,acc*10+(c.toNat-48))):=rfl
   have e2:Lib.parseUintM 18446744073709551615 acc (c::r)=if 1844674407370955162<=acc then .range else if 18446744073709551615<acc*10+(c.toNat-48) then .range else Lib.parseUintM 18446744073709551615 (acc*10+(c.toNat-48)) r:=by
    rw [Lib.parseUintM,if_pos hc]
   rw [e1,e2]
   by_cases hov:acc > (9223372036854775807-(c.toNat-48)) / 10
   · rw [if_pos hov]
     refine ⟨λh1=>?_,λ_=>?_⟩
     · rw [zlP] at h1;cases h1
     · split
       · exact Or.inl rfl
       · split
         · exact Or.inl rfl
         · rcases znD 18446744073709551615 r (acc*10+(c.toNat-48)) hr with h1|⟨u,h1,h2⟩
           · exact Or.inl h1
           · exact Or.inr ⟨u,h1,by omega⟩
   · rw [if_neg hov]
     have hb:acc*10+(c.toNat-48)<=9223372036854775807:=by omega
     rw [if_neg (by omega),if_neg (by omega)]
     exact ih _ hr hb
theorem zqC (l:List UInt8) (h:zfi l) (hne:l≠[]):Lib.parseIntB 64 l=if (zdm l (true,0)).1=true then .ok ((zdm l (true,0)).2:Int) else .range:=by
 obtain ⟨c,r,rfl⟩:=List.exists_cons_of_ne_nil hne
 have hc:=h c (by simp)
 have hp:=zqR (c::r) 0 h (by omega)
 have hu:Lib.parseUintB 64 (if c.toNat=43∨c.toNat=45 then r else c::r)=Lib.parseUintM 18446744073709551615 0 (c::r):=by
  rw [if_neg (by omega)]
  unfold Lib.parseUintB
  rw [if_neg (by simp)]
 unfold Lib.parseIntB
 simp only
 rw [hu]
 cases hb:(zdm (c::r) (true,0)).1 with
 | true =>
   obtain ⟨h1,h2⟩:=hp.1 hb
   rw [h1]
   simp only
   rw [if_neg (by omega),if_neg (by omega),if_neg (by omega)];simp
 | false =>
   rw [if_neg (by simp)]
   rcases hp.2 hb with h1|⟨u,h1,h2⟩
   · rw [h1]
   · rw [h1]
     simp only
     rw [if_pos ⟨by omega,by omega⟩]
def zcS (s:ByteArray) (i e:Nat):List UInt8:=(s.extract i e).data.toList
theorem zga (s:ByteArray) (i e:Nat) (hi:i<e) (he:e<=s.size):zcS s i e=s[i]'(by omega)::zcS s (i+1) e:=by
 unfold zcS
 have hz:s.data.size=s.size:=rfl
 rw [ByteArray.data_extract,ByteArray.data_extract,Array.toList_extract,Array.toList_extract,List.extract_eq_take_drop,List.extract_eq_take_drop]
 rw [List.drop_eq_getElem_cons (by rw [Array.length_toList,hz];omega),show e-i=(e-(i+1))+1 by omega,List.take_succ_cons]
 rfl
theorem zfX (s:ByteArray) (i:Nat):zcS s i i=[]:=by
 unfold zcS
 rw [ByteArray.data_extract,Array.toList_extract,List.extract_eq_take_drop]
 simp
theorem zms (s:ByteArray):∀(f i:Nat) (x:Bool×Nat),f=s.size-i->zdt s f i x=zdm (zcS s i (zQ zT s i)) x/\zfi (zcS s i (zQ zT s i)):=by
 intro f
 induction f with
 | zero =>
   intro i x hf
   rw [zjm (by omega),zfX]
   exact ⟨rfl,λc hc=>by cases hc⟩
 | succ f ih =>
   intro i x hf
   have hi:i<s.size:=by omega
   by_cases hd:zT (bt s i)=true
   · have hsp:=zd1 hi hd
     have hle:i+1<=zQ zT s i:=by rw [hsp];exact zdB _ _ _
     have hle2:zQ zT s i<=s.size:=zcr _ _ _ (by omega)
     have hb:=ziM hi
     have hc:=zga s i _ hle hle2
     obtain ⟨h1,h2⟩:=ih (i+1) (if x.2 > (9223372036854775807-(bt s i-48)) / 10 then (false,x.2) else (x.1,x.2*10+(bt s i-48))) (by omega)
     rw [<- hsp] at h1 h2
     rw [hc]
     refine ⟨?_,?_⟩
     · show (if i<s.size/\zT (bt s i)=true then _ else x)=zdm (zcS s (i+1) (zQ zT s i)) (if x.2 > (9223372036854775807-((s[i]).toNat-48)) / 10 then (false,x.2) else (x.1,x.2*10+((s[i]).toNat-48)))
       rw [if_pos ⟨hi,hd⟩,hb,h1]
     · intro c hc
       rcases List.mem_cons.1 hc with h|h
       · subst h
         rw [hb]
         simp [zT] at hd
         exact hd
       · exact h2 c h
   · have hd':zT (bt s i)=false:=by simpa using hd
     rw [zif hd',zfX]
     refine ⟨?_,λc hc=>by cases hc⟩
     show (if i<s.size/\zT (bt s i)=true then _ else x)=x
     rw [if_neg (λh=>hd h.2)]
theorem zn1 (s:ByteArray) (a:Nat) (ha:a<s.size) (hd:zT (bt s a)=true):Lib.parseIntB 64 (s.extract a (zQ zT s a)).data.toList=if (zdt s (s.size-a) a (true,0)).1=true then .ok ((zdt s (s.size-a) a (true,0)).2:Int) else .range:=by
 obtain ⟨h1,h2⟩:=zms s (s.size-a) a (true,0) rfl
 have hle:a+1<=zQ zT s a:=by rw [zd1 ha hd];exact zdB _ _ _
 have hle2:zQ zT s a<=s.size:=zcr _ _ _ (by omega)
 rw [h1]
 refine zqC _ h2 ?_
 show zcS s a (zQ zT s a)≠[]
 rw [zga s a _ hle hle2]
 simp
end
section
open Go.RowKit
theorem ze {w:World} {b:Nat} {o:Obj} (h:w.heap[b]?=some o):b<w.heap.size:=by
 rcases Nat.lt_or_ge b w.heap.size with h1|h1
 · exact h1
 · rw [Array.getElem?_eq_none h1] at h;cases h
theorem zu {w:World} {b:Nat} {e:TypeId} {v0:Value} (h:w.heap[b]?=some (.cells #[v0] e (0,0))):w.cell? ⟨b,0,none⟩=some v0/\(∀i,w.frozen? ⟨b,i,none⟩=false)/\b<w.heap.size :=
 ⟨by simp [World.cell?,h],λi=>by simp [World.frozen?,h],ze h⟩
theorem zp {w:World} {b:Nat} {e:TypeId} {v0 v1:Value} (h:w.heap[b]?=some (.cells #[v0,v1] e (0,0))):w.cell? ⟨b,0,none⟩=some v0/\w.cell? ⟨b,1,none⟩=some v1/\(∀i,w.frozen? ⟨b,i,none⟩=false)/\b<w.heap.size :=
 ⟨by simp [World.cell?,h],by simp [World.cell?,h],λi=>by simp [World.frozen?,h],ze h⟩
theorem zL {w:World} {b:Nat} {e:TypeId} {v0 v1 v2:Value} (h:w.heap[b]?=some (.cells #[v0,v1,v2] e (0,0))):w.cell? ⟨b,0,none⟩=some v0/\w.cell? ⟨b,1,none⟩=some v1/\w.cell? ⟨b,2,none⟩=some v2/\(∀i,w.frozen? ⟨b,i,none⟩=false)/\b<w.heap.size :=
 ⟨by simp [World.cell?,h],by simp [World.cell?,h],by simp [World.cell?,h],λi=>by simp [World.frozen?,h],ze h⟩
theorem zU {w:World} {b:Nat} {e:TypeId} {v0 v1 v2 v3:Value} (h:w.heap[b]?=some (.cells #[v0,v1,v2,v3] e (0,0))):w.cell? ⟨b,0,none⟩=some v0/\w.cell? ⟨b,1,none⟩=some v1/\w.cell? ⟨b,2,none⟩=some v2/\w.cell? ⟨b,3,none⟩=some v3/\(∀i,w.frozen? ⟨b,i,none⟩=false)/\b<w.heap.size :=
 ⟨by simp [World.cell?,h],by simp [World.cell?,h],by simp [World.cell?,h],by simp [World.cell?,h],λi=>by simp [World.frozen?,h],ze h⟩
theorem zcf {w:World} {b:Nat} {e:TypeId} {v0 v1 v2 v3 v4:Value} (h:w.heap[b]?=some (.cells #[v0,v1,v2,v3,v4] e (0,0))):w.cell? ⟨b,0,none⟩=some v0/\w.cell? ⟨b,1,none⟩=some v1/\w.cell? ⟨b,2,none⟩=some v2/\w.cell? ⟨b,3,none⟩=some v3/\w.cell? ⟨b,4,none⟩=some v4/\(∀i,w.frozen? ⟨b,i,none⟩=false)/\b<w.heap.size :=
 ⟨by simp [World.cell?,h],by simp [World.cell?,h],by simp [World.cell?,h],by simp [World.cell?,h],by simp [World.cell?,h],λi=>by simp [World.frozen?,h],ze h⟩
theorem zt {w:World} {b:Nat} {e:TypeId} {v0 v1 v2 v3 v4 v5:Value} (h:w.heap[b]?=some (.cells #[v0,v1,v2,v3,v4,v5] e (0,0))):w.cell? ⟨b,0,none⟩=some v0/\w.cell? ⟨b,1,none⟩=some v1/\w.cell? ⟨b,2,none⟩=some v2/\w.cell? ⟨b,3,none⟩=some v3/\w.cell? ⟨b,4,none⟩=some v4/\w.cell? ⟨b,5,none⟩=some v5/\(∀i,w.frozen? ⟨b,i,none⟩=false)/\b<w.heap.size :=
 ⟨by simp [World.cell?,h],by simp [World.cell?,h],by simp [World.cell?,h],by simp [World.cell?,h],by simp [World.cell?,h],by simp [World.cell?,h],λi=>by simp [World.frozen?,h],ze h⟩
theorem zbZ {w:World} {b:Nat} {e:TypeId} {v0 v1 v2 v3 v4 v5 v6:Value} (h:w.heap[b]?=some (.cells #[v0,v1,v2,v3,v4,v5,v6] e (0,0))):w.cell? ⟨b,0,none⟩=some v0/\w.cell? ⟨b,1,none⟩=some v1/\w.cell? ⟨b,2,none⟩=some v2/\w.cell? ⟨b,3,none⟩=some v3/\w.cell? ⟨b,4,none⟩=some v4/\w.cell? ⟨b,5,none⟩=some v5/\w.cell? ⟨b,6,none⟩=some v6/\(∀i,w.frozen? ⟨b,i,none⟩=false)/\b<w.heap.size :=
 ⟨by simp [World.cell?,h],by simp [World.cell?,h],by simp [World.cell?,h],by simp [World.cell?,h],by simp [World.cell?,h],by simp [World.cell?,h],by simp [World.cell?,h],λi=>by simp [World.frozen?,h],ze h⟩
theorem zoo {w w2:World} {e:TypeId} (h:w2=w∨∃t,w2=Lib.bytesWorld w e t):Below w.heap.size w w2:=by
 rcases h with rfl|⟨t,rfl⟩
 · exact Below.refl _ _
 · exact Lib.bytesWorld_below _ _ _
theorem zeu {w w2:World} {o:Obj} (h:Below (w.alloc o).heap.size (w.alloc o) w2):Below w.heap.size w w2 :=
 ⟨h.os,h.tape,h.output,Nat.le_trans (by simp) h.size,λk hk=>(h.block k (by simp;omega)).trans (Below.heap_alloc _ _ _ hk)⟩
theorem zb6 {fn:Func} {p:Tmp} (h:fn.results=#[.cell p 144]) {tmps:Array Value} {b:Nat} {w:World} (hp:tmps[p]?.getD undef=.pointer (some ⟨b,0,none⟩)) {v0 v1 v2 v3:Value} (hh:w.heap[b]?=some (.cells #[v0,v1,v2,v3] 144 (0,0))):(results fn tmps).run Tryz.prog w=.ok (.agg #[v0,v1,v2,v3]) w:=by
 obtain ⟨c0,c1,c2,c3,_⟩:=zU hh
 simp [results,h,hp,go_sem,c0,c1,c2,c3]
def zlt (r:ByteArray) (a:Nat):Value :=
 if (zdt r (r.size-0) 0 (true,0)).1=true then zaw 4 (r.extract 0 (zQ zT r 0)) a (zdt r (r.size-0) 0 (true,0)).2 else zaw 0 ⟨#[]⟩ a 0
theorem zl0 (S:Nat->Addr) (r:ByteArray) (hs:r.size<=1200) (h0:0<r.size) (hd:zT (bt r 0)=true) (a:Nat) (w:World) (hG:Gl S w) :
 Calls Tryz.prog 90 #[.string r,.int .i64 a] w λe w'=>e=.returned (zlt r a)/\Below w.heap.size w w':=by
 have h1:=zcr zT r 0 (Nat.zero_le _)
 have hP:=zn1 r 0 h0 hd
 have HV:Hid (zlt r a=if (zdt r (r.size-0) 0 (true,0)).1=true then zaw 4 (r.extract 0 (zQ zT r 0)) a (zdt r (r.size-0) 0 (true,0)).2 else zaw 0 ⟨#[]⟩ a 0):=rfl
 obtain ⟨n,hn⟩:∃n,zQ zT r 0=n:=⟨_,rfl⟩
 generalize zdt r (r.size-0) 0 (true,0)=x at *
 rw [hn] at h1 hP HV
 have Hn:=za hn
 have hrg:w.cell? ⟨15,0,none⟩=some (.iface 293 (.pointer (some (S 12)))):=hG.range
 have hgz:=hG.size
 have hg17:15<w.heap.size:=Nat.lt_of_lt_of_le (by decide) hgz
 have hsz:(r.extract 0 n).size<=281474976710656:=by rw [ByteArray.size_extract];omega
 clear hn hG hd
 cases hx:x.1 with
 | true =>
   rw [hx,if_pos rfl] at hP HV
   have HPi:=za (Tryz.strconv_ParseInt_10_at64_ok (r.extract 0 n) (by omega) x.2 hP (w.alloc (.cells #[.int .i64 0,.string ⟨#[]⟩,.int .i64 0,.int .i64 0] 144)))
   clear hP hx hsz
   go_enter Tryz.func90,Tryz.ntmps90
   go_wp2_with (first|(go_at_call 127;refine HPi.out.mono ?_;rintro e w2 ⟨rfl,hw2⟩;have hb2:=zoo hw2;have hh2:=(hb2.block w.heap.size (Nat.lt_of_lt_of_eq (Nat.lt_succ_self _) (by simp))).trans (zc w _);obtain ⟨d0,d1,d2,d3,df,dz⟩:=zU hh2;have Hh2:=za hh2;have Hb2:=za hb2;clear hb2 hh2 hw2)|(go_at_call 85;refine (zdv _ zT zg0 zcp r hs _).mono ?_;rintro e w' ⟨rfl,rfl⟩;rw [Hn.out]))
   refine bodyPost_ret (v:=zaw 4 (r.extract 0 n) a x.2) (zb6 rfl rfl (zb7 Hh2.out _ _ _ _)) rfl ⟨by rw [HV.out],?_⟩
   exact (((((zeu Hb2.out).setCell (Nat.le_refl _) _).setCell (Nat.le_refl _) _).setCell (Nat.le_refl _) _).setCell (Nat.le_refl _) _)
 | false =>
   rw [hx,if_neg (by simp)] at hP HV
   have HPi:=za (Tryz.strconv_ParseInt_10_at64_range (r.extract 0 n) hsz hP (.iface 293 (.pointer (some (S 12)))) (w.alloc (.cells #[.int .i64 0,.string ⟨#[]⟩,.int .i64 0,.int .i64 0] 144)) ((World.cell?_alloc_lt _ _ _ hg17).trans hrg) (Or.inr ⟨_,_,rfl⟩))
   clear hP hx hsz
   go_enter Tryz.func90,Tryz.ntmps90
   go_wp2_with (first|(go_at_call 127;refine HPi.out.mono ?_;rintro e w2 ⟨N,rfl,_,_,hb2⟩;have hh2:=(hb2.block w.heap.size (Nat.lt_of_lt_of_eq (Nat.lt_succ_self _) (by simp))).trans (zc w _);obtain ⟨d0,d1,d2,d3,df,dz⟩:=zU hh2;have Hh2:=za hh2;have Hb2:=za hb2;clear hb2 hh2)|(go_at_call 85;refine (zdv _ zT zg0 zcp r hs _).mono ?_;rintro e w' ⟨rfl,rfl⟩;rw [Hn.out]))
   refine bodyPost_ret (v:=zaw 0 ⟨#[]⟩ a 0) (zb6 rfl rfl (zb7 Hh2.out _ _ _ _)) rfl ⟨by rw [HV.out],?_⟩
   exact (((((zeu Hb2.out).setCell (Nat.le_refl _) _).setCell (Nat.le_refl _) _).setCell (Nat.le_refl _) _).setCell (Nat.le_refl _) _)
def ziQ (r:ByteArray) (a:Nat):Value :=
 if 2<=r.size/\((r.extract 0 2).toList==[45,62]||(r.extract 0 2).toList==[60,62]||(r.extract 0 2).toList==[60,61])=true then zaw 2 (r.extract 0 2) a 0
 else if zfe (bt r 0) then zaw 2 (r.extract 0 1) a 0 else zaw 0 ⟨#[]⟩ a 0
theorem zfA (s t:ByteArray) (ht:t.size=2) (hs:s.size<=1200) (w:World):Calls Tryz.prog 128 #[.string s,.string t] w λe w'=>e=.returned (.bool (decide (2<=s.size)&&(s.extract 0 2).toList==t.toList))/\w=w':=by
 go_enter Tryz.func128,Tryz.ntmps128
 go_wp2
 all_goals go_ret
 · rename_i h
   have:decide (2<=s.size)=true:=by simp;omega
   rw [this]
   exact ⟨rfl,rfl⟩
 · rename_i h
   have:decide (2<=s.size)=false:=by simp;omega
   rw [this]
   exact ⟨rfl,rfl⟩
theorem zpy:∀n,n<256->decide ((0:Int)<=Lib.indexByte [40,41,123,125,58,59,44,61,60,43,45,42,47,37] n.toUInt8)=zfe n:=by decide +kernel
theorem zi9 {s t:ByteArray} (h:s.toList=t.toList):s=t:=by
 rw [ByteArray.toList_eq,ByteArray.toList_eq] at h
 exact ByteArray.ext (Array.toList_inj.1 h)
theorem ix3 (s0 s1 s2:ByteArray) (w:World):(Instr.index 243 (.agg #[.string s0,.string s1,.string s2]) (.int .i64 0)).run Tryz.prog w=.ok (.string s0) w/\(Instr.index 243 (.agg #[.string s0,.string s1,.string s2]) (.int .i64 1)).run Tryz.prog w=.ok (.string s1) w/\(Instr.index 243 (.agg #[.string s0,.string s1,.string s2]) (.int .i64 2)).run Tryz.prog w=.ok (.string s2) w:=⟨by kernel_rfl,by kernel_rfl,by kernel_rfl⟩
theorem zrm (r:ByteArray) (i:Nat):bt r i<256:=by
 unfold bt
 split
 · exact UInt8.toNat_lt _
 · decide
theorem znT (r:ByteArray) (hs:r.size<=1200) (h0:0<r.size) (a:Nat) (w:World) :
 Calls Tryz.prog 91 #[.string r,.int .i64 a] w λe w'=>e=.returned (ziQ r a)/\Below w.heap.size w w':=by
 have hx0:=λw=>(ix3 ⟨#[45,62]⟩ ⟨#[60,62]⟩ ⟨#[60,61]⟩ w).1
 have hx1:=λw=>(ix3 ⟨#[45,62]⟩ ⟨#[60,62]⟩ ⟨#[60,61]⟩ w).2.1
 have hx2:=λw=>(ix3 ⟨#[45,62]⟩ ⟨#[60,62]⟩ ⟨#[60,61]⟩ w).2.2
 have hb:=ziM h0
 have hb256:=zrm r 0
 have hsx:=zpy (bt r 0) hb256
 have t1:(⟨#[45,62]⟩:ByteArray).toList=[45,62]:=by decide +kernel
 have t2:(⟨#[60,62]⟩:ByteArray).toList=[60,62]:=by decide +kernel
 have t3:(⟨#[60,61]⟩:ByteArray).toList=[60,61]:=by decide +kernel
 have HV:Hid (ziQ r a=if 2<=r.size/\((r.extract 0 2).toList==[45,62]||(r.extract 0 2).toList==[60,62]||(r.extract 0 2).toList==[60,61])=true then zaw 2 (r.extract 0 2) a 0 else if zfe (bt r 0) then zaw 2 (r.extract 0 1) a 0 else zaw 0 ⟨#[]⟩ a 0):=rfl
 obtain ⟨c,hc⟩:∃c,bt r 0=c:=⟨_,rfl⟩
 rw [hc] at hb hsx HV
 have Hsx:=za hsx
 have T1:=za t1
 have T2:=za t2
 have T3:=za t3
 clear hc hsx t1 t2 t3 hb256
 go_enter Tryz.func91,Tryz.ntmps91
 go_wp2_with fail
 refine wp_loop_rounds 4 ?_
 rw [rounds_succ]
 go_wp2_with (go_at_call 128;refine (zfA _ _ rfl hs _).mono ?_;rintro e w' ⟨rfl,rfl⟩;rw [T1.out])
 · rename_i h1
   refine bodyPost_ret (v:=zaw 2 ⟨#[45,62]⟩ a 0) (by simp [results,Tryz.results91,go_sem,zaw]) rfl ⟨?_,(Below.refl _ _).alloc (Nat.le_refl _) _⟩
   simp only [beq_iff_eq] at h1
   rw [HV.out,if_pos ⟨h1.1,by simp [h1.2]⟩,zi9 (h1.2.trans T1.out.symm)]
 · rename_i h1
   rw [rounds_succ]
   go_wp2_with (go_at_call 128;refine (zfA _ _ rfl hs _).mono ?_;rintro e w' ⟨rfl,rfl⟩;rw [T2.out])
   · rename_i h2
     refine bodyPost_ret (v:=zaw 2 ⟨#[60,62]⟩ a 0) (by simp [results,Tryz.results91,go_sem,zaw]) rfl ⟨?_,(Below.refl _ _).alloc (Nat.le_refl _) _⟩
     simp only [beq_iff_eq] at h2
     rw [HV.out,if_pos ⟨h2.1,by simp [h2.2]⟩,zi9 (h2.2.trans T2.out.symm)]
   · rename_i h2
     rw [rounds_succ]
     go_wp2_with (go_at_call 128;refine (zfA _ _ rfl hs _).mono ?_;rintro e w' ⟨rfl,rfl⟩;rw [T3.out])
     · rename_i h3
       refine bodyPost_ret (v:=zaw 2 ⟨#[60,61]⟩ a 0) (by simp [results,Tryz.results91,go_sem,zaw]) rfl ⟨?_,(Below.refl _ _).alloc (Nat.le_refl _) _⟩
       simp only [beq_iff_eq] at h3
       rw [HV.out,if_pos ⟨h3.1,by simp [h3.2]⟩,zi9 (h3.2.trans T3.out.symm)]
     · rename_i h3
       have HN:Hid (¬(2<=r.size/\((r.extract 0 2).toList==[45,62]||(r.extract 0 2).toList==[60,62]||(r.extract 0 2).toList==[60,61])=true)):=by
        rintro ⟨g1,g2⟩
        simp only [Bool.or_eq_true] at g2
        rcases g2 with (g2|g2)|g2
        · rw [g2] at h1;simp [g1] at h1
        · rw [g2] at h2;simp [g1] at h2
        · rw [g2] at h3;simp [g1] at h3
       have hv:=HV.out
       rw [if_neg HN.out] at hv
       have HV2:=za hv
       clear h1 h2 h3 hv HV HN
       rw [rounds_succ]
       go_wp2_with (go_at_call 129;refine (Tryz.strings_IndexByte _ _ _).mono ?_;rintro e w' ⟨rfl,rfl⟩)
       · rename_i h5
         have h6:zfe c=true:=by rw [<- Hsx.out];exact decide_eq_true h5
         refine bodyPost_ret (v:=zaw 2 (r.extract 0 1) a 0) (by simp [results,Tryz.results91,go_sem,zaw]) rfl ⟨by rw [HV2.out,if_pos h6],(Below.refl _ _).alloc (Nat.le_refl _) _⟩
       · rename_i h5
         have h6:¬zfe c=true:=by rw [<- Hsx.out];intro h7;exact absurd (of_decide_eq_true h7) (by first|exact h5|exact Int.not_le.2 h5)
         refine bodyPost_ret (v:=zaw 0 ⟨#[]⟩ a 0) (by simp [results,Tryz.results91,go_sem,zaw]) rfl ⟨by rw [HV2.out,if_neg h6],(Below.refl _ _).alloc (Nat.le_refl _) _⟩
end
end Go.Proofs.YtedmpgjebafcjaaGreatDoor
