/- Part 16 of the proof: CodB CodP MdlT CodC. -/
import Derived.Lib.AtoiErrMem
import Derived.Lib.ParseIntB
import Derived.Test.YtmfkofhgdjechaaGreatDoorShelf
import Derived.Test.YtmfkofhgdjechaaGreatDoorK14
set_option maxRecDepth 100000
set_option maxHeartbeats 8000000
namespace Go.Proofs.YtmfkofhgdjechaaGreatDoor
open Go.Proofs.Tryz
section
open Go.RowKit
theorem zdv (f:FuncId)(p:Nat->Bool)(hcf:∀(args:Array Value) (w:World),(callFunc f args).run prog w=.ok (.enter f args) w)(hf:∀(c:Nat) (w:World),xK f #[.int .u8 c] w λe w'=>e=.returned (.bool (p c))/\w=w')(s:ByteArray)(hs:s.size<=1200)(w:World) :
 xK 66 #[.string s,.func (.func f) #[] #[]] w λe w'=>e=.returned (xI (zQ p s 0:Nat))/\w=w':=by
 have Hf:Hid (∀(c:Nat) (w:World),xK f #[.int .u8 c] w λe w'=>e=.returned (.bool (p c))/\w=w'):=hf;go_enter func66,ntmps66;go_wp2;go_loop [8] (λi=>∃k:Nat,k<=s.size/\i=xI k/\Hid (zQ p s k=zQ p s 0)) (λi=>s.size-(intOf i).toNat)
 case atStart=>exact⟨0,Nat.zero_le _,rfl,rfl⟩
 case round =>
  obtain⟨k,hk,rfl,HS⟩:=hrel;by_cases hlt:k<s.size
  . have hb:=ziM hlt;obtain⟨c,hc⟩:∃c,bt s k=c:=⟨_,rfl⟩;rw[hc] at hb;cases Hp:p c with
    | true =>
      have H2:Hid (zQ p s (k+1)=zQ p s 0):=(zd1 hlt (by rw[hc];exact Hp)).symm.trans HS.o;go_wp2_with (with_reducible refine (Hf.o c _).mono ?_;rintro e w' ⟨rfl,rfl⟩;rw[Hp]);go_round
      case rel=>exact⟨k+1,by omega,by go_num,H2⟩
      case measure=>simp[intOf];omega
    | false => have H2:Hid (zQ p s 0=k):=HS.o.symm.trans (zif (by rw[hc];exact Hp));go_wp2_with (with_reducible refine (Hf.o c _).mono ?_;rintro e w' ⟨rfl,rfl⟩;rw[Hp]);go_ret;exact⟨by rw[H2.o];rfl,rfl⟩
  . have H2:Hid (zQ p s 0=k):=HS.o.symm.trans (zjm (by omega));have Hk2:Hid (k=s.size):=by show k=s.size;omega
    go_wp2;go_ret;exact⟨by rw[H2.o,Hk2.o];rfl,rfl⟩
theorem zlA (args:Array Value)(w:World):(callFunc 67 args).run prog w=.ok (.enter 67 args) w:=by kernel_rfl
theorem zfM (args:Array Value)(w:World):(callFunc 129 args).run prog w=.ok (.enter 129 args) w:=by kernel_rfl
theorem zg0 (args:Array Value)(w:World):(callFunc 70 args).run prog w=.ok (.enter 70 args) w:=by kernel_rfl
def zaw (k:Nat)(s:ByteArray)(a n:Nat):Value:=.agg #[xI k,.string s,xI a,xI n]
def zhy (s:ByteArray)(a:Nat):Value :=
 let x:=s.extract 0 (zQ inW s 0)
 if zcW x then zaw 2 x a 0 else if x.size<=12 then zaw 3 x a 0 else zaw 0 ⟨#[]⟩ a 0
theorem znH (s:ByteArray)(hs:s.size<=1200)(a:Nat)(w:World) :
 xK 69 #[.string s,xI a] w λe w'=>e=.returned (zhy s a)/\xB w w':=by
 have h1:=zcr inW s 0 (Nat.zero_le _);obtain⟨n,hn⟩:∃n,zQ inW s 0=n:=⟨_,rfl⟩;have Hn:=za hn;rw[hn] at h1;have HT:Hid (zhy s a=if zcW (s.extract 0 n) then zaw 2 (s.extract 0 n) a 0 else if n<=12 then zaw 3 (s.extract 0 n) a 0 else zaw 0 ⟨#[]⟩ a 0):=by unfold Hid zhy;simp only[Hn.o,ByteArray.size_extract];rw[show min n s.size-0=n by omega]
 cases hk:zcW (s.extract 0 n) with
 | true => rw[hk,if_pos rfl] at HT;have Hk:=za hk;go_enter func69,ntmps69;go_wp2_with (first|(go_at_call 66;refine (zdv _ inW zfM zfy s hs _).mono ?_;rintro e w' ⟨rfl,rfl⟩;rw[Hn.o])|(go_at_call 130;refine (zd4 _ _).mono ?_;rintro e w' ⟨rfl,rfl⟩;rw[Hk.o]));refine bodyPost_ret (v:=zaw 2 (s.extract 0 n) a 0) (by simp[results,results69,go_sem,zaw]) rfl ⟨by rw[HT.o],(Below.refl _ _).alloc (Nat.le_refl _) _⟩
 | false =>
   rw[hk,if_neg (by simp)] at HT;have Hk:=za hk;by_cases hn:n<=12
   . rw[if_pos hn] at HT;go_enter func69,ntmps69;go_wp2_with (first|(go_at_call 66;refine (zdv _ inW zfM zfy s hs _).mono ?_;rintro e w' ⟨rfl,rfl⟩;rw[Hn.o])|(go_at_call 130;refine (zd4 _ _).mono ?_;rintro e w' ⟨rfl,rfl⟩;rw[Hk.o]));refine bodyPost_ret (v:=zaw 3 (s.extract 0 n) a 0) (by simp[results,results69,go_sem,zaw]) rfl ⟨by rw[HT.o],(Below.refl _ _).alloc (Nat.le_refl _) _⟩
   . rw[if_neg hn] at HT;go_enter func69,ntmps69;go_wp2_with (first|(go_at_call 66;refine (zdv _ inW zfM zfy s hs _).mono ?_;rintro e w' ⟨rfl,rfl⟩;rw[Hn.o])|(go_at_call 130;refine (zd4 _ _).mono ?_;rintro e w' ⟨rfl,rfl⟩;rw[Hk.o]));refine bodyPost_ret (v:=zaw 0 ⟨#[]⟩ a 0) (by simp[results,results69,go_sem,zaw]) rfl ⟨by rw[HT.o],(Below.refl _ _).alloc (Nat.le_refl _) _⟩
end
section
open Go.RowKit
variable {s:ByteArray} {l:List UInt8} {pb:Nat} {S:Nat->Addr} {T:Nat->Prop} {st:St} {w w':World}
def ck (t:Tk):Nat:=if t.k=0 then 1 else if t.k=1 then 0 else if t.k=2 then 3 else if t.k=3 then 4 else 2
def cs (src:ByteArray)(t:Tk):ByteArray:=if t.k=3 then src.extract t.a t.t else if 2<=t.k then t.s else ⟨#[]⟩
def cn (t:Tk):Nat:=if t.k=3 then t.n else 0
def zcY:List ByteArray:=[⟨#[]⟩,⟨#[116,114,117,101]⟩,⟨#[102,97,108,115,101]⟩,⟨#[]⟩,⟨#[]⟩,⟨#[105,102]⟩,⟨#[109,101,114,103,101]⟩,⟨#[119,104,101,110]⟩,⟨#[119,104,101,110,111,116]⟩,⟨#[102,98,121]⟩,⟨#[45]⟩,⟨#[110,111,116]⟩,⟨#[97,110,100]⟩,⟨#[111,114]⟩,⟨#[120,111,114]⟩,⟨#[61]⟩,⟨#[60,62]⟩,⟨#[60]⟩,⟨#[60,61]⟩,⟨#[43]⟩,⟨#[45]⟩,⟨#[42]⟩,⟨#[47]⟩,⟨#[37]⟩]
def sen (S:Nat->Addr)(e:Nat):Value:=.iface 399 (.pointer (some (S e)))
structure Gl (S:Nat->Addr) (w:World):Prop where
 long:xC w 0 0 (sen S 1)
 syn:xC w 8 0 (sen S 2)
 deep:xC w 9 0 (sen S 3)
 name:xC w 1 0 (sen S 4)
 type:xC w 2 0 (sen S 5)
 clock:xC w 3 0 (sen S 6)
 define:xC w 4 0 (sen S 7)
 cause:xC w 5 0 (sen S 8)
 limit:xC w 6 0 (sen S 9)
 image:xC w 10 0 (sen S 10)
 input:xC w 12 0 (sen S 11)
 range:xC w 16 0 (sen S 12)
 words:∀i s,zcY[i]?=some s->xC w 13 i (.string s)
 size:21<=w.heap.size
theorem Gl.of (h:Gl S w)(hf:Fr T w w')(hT:∀k,T k->21<=k):Gl S w':=by
 have hc:∀k o,k<21->w'.cell? (xD k o)=w.cell? ⟨k,o,none⟩:=λk o hk =>
  World.cell?_of_block (w:=w) (hf.block k (Nat.lt_of_lt_of_le hk h.size) (λht=>by have:=hT k ht;omega))
 exact⟨(hc _ _ (by decide)).trans h.long,(hc _ _ (by decide)).trans h.syn,(hc _ _ (by decide)).trans h.deep,(hc _ _ (by decide)).trans h.name,(hc _ _ (by decide)).trans h.type,(hc _ _ (by decide)).trans h.clock,(hc _ _ (by decide)).trans h.define,(hc _ _ (by decide)).trans h.cause,(hc _ _ (by decide)).trans h.limit,(hc _ _ (by decide)).trans h.image,(hc _ _ (by decide)).trans h.input,(hc _ _ (by decide)).trans h.range,
  λi s hs=>(hc _ _ (by decide)).trans (h.words i s hs),Nat.le_trans h.size hf.size⟩
def za2 (S:Nat->Addr)(er a:Nat):Value:=if er=0 then .nilIface else .iface 58 (.agg #[sen S er,xI a])
def zgL (S:Nat->Addr)(st:St):Obj:=.cells #[.string st.src,xI (ck st.t),.string (cs st.src st.t),xI st.t.a,xI (cn st.t),xI st.op,za2 S st.er st.at'] 69 (0,0)
structure Tx (src:ByteArray) (t:Tk):Prop where
 text:t.k=2∨4<=t.k->t.s=src.extract t.a t.t
 kw:t.k=5->zcW t.s=true
 sg:t.k=4->zcW t.s=false
theorem zl7 (src:ByteArray)(a t:Nat):Tx src ⟨1,a,t,⟨#[]⟩,0⟩:=⟨λh=>by rcases h with h|h <;> simp at h,λh=>by simp at h,λh=>by simp at h⟩
theorem zoS (h:(s.toList==[45,62]||s.toList==[60,62]||s.toList==[60,61])=true):zcW s=false:=by simp only[Bool.or_eq_true,beq_iff_eq] at h;unfold zcW;rcases h with (h|h)|h <;> (rw[h];decide)
theorem zon (h:s.toList.length<=1):zcW s=false:=by
 unfold zcW;generalize s.toList=l at h
 match l,h with
 | [],_=>decide
 | [x],_=>simp[zdX]
theorem zd7 (s:ByteArray):s.toList.length=s.size:=by rw[ByteArray.toList_eq];exact Array.length_toList
theorem zkH (src:ByteArray)(p:Nat):Tx src (zZ src p):=by
 unfold zZ;simp only;split
 . exact⟨λh=>by simp at h,λh=>by simp at h,λh=>by simp at h⟩
 . split
   . unfold zfg;simp only;refine⟨λ_=>rfl,λh=>?_,λh=>?_⟩
     . simp only at h ⊢;split at h
       . assumption
       . split at h <;> simp at h
     . simp only at h;split at h
       . simp at h
       . split at h <;> simp at h
   . split
     . unfold zgc;simp only;refine⟨λh=>?_,λh=>?_,λh=>?_⟩ <;> (simp only at h;split at h <;> simp at h)
     . unfold zfh;split
       . rename_i h1
         exact⟨λ_=>rfl,λh=>by simp at h,λ_=>zoS h1.2⟩
       . split
         . refine⟨λ_=>rfl,λh=>by simp at h,λ_=>zon ?_⟩;rw[zd7,ByteArray.size_extract];omega
         . exact⟨λh=>by simp at h,λh=>by simp at h,λh=>by simp at h⟩
theorem zrl {src:ByteArray}{t:Tk}(h:Tx src t):cs src t=if 2<=t.k then src.extract t.a t.t else ⟨#[]⟩:=by
 unfold cs;split
 . rename_i h1;rw[if_pos (by omega)]
 . split
   . rename_i h1 h2
     exact h.text (by omega)
   . rfl
def St.atB (st:St)(l:List UInt8):Bool:=(st.t.k==4||st.t.k==5)&&st.t.s.toList==l
theorem zqP (hk:st.t.k<=5)(l:List UInt8):(ck st.t==2&&(cs st.src st.t).toList==l)=st.atB l:=by
 unfold St.atB ck cs;rcases Nat.lt_or_ge st.t.k 4 with h|h
 . have:st.t.k=0∨st.t.k=1∨st.t.k=2∨st.t.k=3:=by omega
   rcases this with h|h|h|h <;> simp[h]
 . have:st.t.k=4∨st.t.k=5:=by omega
   rcases this with h|h <;> simp[h]
theorem zo2 (h:s.toList=l):zcW s=zdX.any λx=>l==x:=by subst h;rfl
theorem zaB (hT:Tx st.src st.t)(hl:(zdX.any λx=>l==x)=false):st.atB l=st.is 4 l:=by
 unfold St.atB St.is;by_cases h5:st.t.k=5
 . have h:=hT.kw h5;by_cases hs:st.t.s.toList=l
   . rw[zo2 hs,hl] at h;cases h
   . simp[h5,hs]
 . have:(st.t.k==5)=false:=by simp[h5]
   rw[this,Bool.or_false]
theorem zar (hT:Tx st.src st.t)(hl:(zdX.any λx=>l==x)=true):st.atB l=st.is 5 l:=by
 unfold St.atB St.is;by_cases h4:st.t.k=4
 . have h:=hT.sg h4;by_cases hs:st.t.s.toList=l
   . rw[zo2 hs,hl] at h;cases h
   . simp[h4,hs]
 . have:(st.t.k==4)=false:=by simp[h4]
   rw[this,Bool.false_or]
structure PL (S:Nat->Addr) (w:World) (pb:Nat) (st:St):Prop where
 tx:Tx st.src st.t
 heap:w.heap[pb]?=some (zgL S st)
 gl:Gl S w
 pb:21<=pb
theorem PL.cells (h:PL S w pb st) :
 w.cell? (xD pb 0)=some (.string st.src)/\w.cell? (xD pb 1)=some (xI (ck st.t))/\w.cell? (xD pb 2)=some (.string (cs st.src st.t))/\w.cell? (xD pb 3)=some (xI st.t.a) /\
 w.cell? (xD pb 4)=some (xI (cn st.t))/\w.cell? (xD pb 5)=some (xI st.op)/\w.cell? (xD pb 6)=some (za2 S st.er st.at'):=by
 have:=h.heap;simp[World.cell?,this,zgL]
theorem PL.frozen (h:PL S w pb st)(i:Nat):w.frozen? (xD pb i)=false:=by have:=h.heap;simp[World.frozen?,this,zgL]
theorem PL.lt (h:PL S w pb st):pb<w.heap.size:=by
 have h':=h.heap;rcases Nat.lt_or_ge pb w.heap.size with h1|h1
 . exact h1
 . rw[Array.getElem?_eq_none h1] at h';cases h'
theorem PL.drew (h:PL S w pb st):PL S w.drew pb st:=⟨h.tx,h.heap,h.gl.of (Fr.refl (·=pb) w).drew (λ_ hk=>hk▸h.pb),h.pb⟩
theorem PL.fr (h:PL S w pb st)(hf:Fr T w w')(hT:∀k,T k->pb<k):PL S w' pb st :=
 ⟨h.tx,(hf.block pb h.lt (λht=>by have:=hT _ ht;omega)).trans h.heap,h.gl.of hf (λk hk=>by have:=hT k hk;have:=h.pb;omega),h.pb⟩
theorem PL.alloc (h:PL S w pb st)(o:Obj):PL S (w.alloc o) pb st :=
 h.fr (T:=λ_=>False) ((Fr.refl _ w).alloc o) (λ_ hk=>hk.elim)
theorem PL.below (h:PL S w pb st)(hb:xB w w'):PL S w' pb st :=
 h.fr (T:=λ_=>False) (Fr.of_below hb) (λ_ hk=>hk.elim)
theorem PL.setOther (h:PL S w pb st){b:Nat}(hb:pb<b)(i:Nat)(u:Value):PL S (w.setCell (xD b i) u) pb st :=
 h.fr (T:=(·=b)) ((Fr.refl _ w).set1 i u) (λ_ hk=>hk▸hb)
theorem PL.setTok (h:PL S w pb st)(t:Tk)(ht:Tx st.src t):PL S (((((w.setCell (xD pb 1) (xI (ck t))).setCell (xD pb 2) (.string (cs st.src t))).setCell (xD pb 3) (xI t.a)).setCell (xD pb 4) (xI (cn t)))) pb { st with t:=t }:=by have h0:xH w pb #[.string st.src,xI (ck st.t),.string (cs st.src st.t),xI st.t.a,xI (cn st.t),xI st.op,za2 S st.er st.at'] 69:=h.heap;have h1:(w.setCell (xD pb 1) (xI (ck t))).heap[pb]?=some (.cells #[.string st.src,xI (ck t),.string (cs st.src st.t),xI st.t.a,xI (cn st.t),xI st.op,za2 S st.er st.at'] 69 (0,0)):=zh _ _ _ _ h0;have h2:((w.setCell (xD pb 1) (xI (ck t))).setCell (xD pb 2) (.string (cs st.src t))).heap[pb]?=some (.cells #[.string st.src,xI (ck t),.string (cs st.src t),xI st.t.a,xI (cn st.t),xI st.op,za2 S st.er st.at'] 69 (0,0)):=zh _ _ _ _ h1;have h3:(((w.setCell (xD pb 1) (xI (ck t))).setCell (xD pb 2) (.string (cs st.src t))).setCell (xD pb 3) (xI t.a)).heap[pb]?=some (.cells #[.string st.src,xI (ck t),.string (cs st.src t),xI t.a,xI (cn st.t),xI st.op,za2 S st.er st.at'] 69 (0,0)):=zh _ _ _ _ h2;have h4:((((w.setCell (xD pb 1) (xI (ck t))).setCell (xD pb 2) (.string (cs st.src t))).setCell (xD pb 3) (xI t.a)).setCell (xD pb 4) (xI (cn t))).heap[pb]?=some (.cells #[.string st.src,xI (ck t),.string (cs st.src t),xI t.a,xI (cn t),xI st.op,za2 S st.er st.at'] 69 (0,0)):=zh _ _ _ _ h3;exact⟨ht,h4,h.gl.of (T:=(·=pb)) (((((Fr.refl _ w).set1 _ _).set1 _ _).set1 _ _).set1 _ _) (λ_ hk=>hk▸h.pb),h.pb⟩
theorem PL.setErr (h:PL S w pb st)(e a:Nat):PL S ((w.setCell (xD pb 6) (za2 S e a))) pb { st with er:=e,at':=a }:=by have h0:xH w pb #[.string st.src,xI (ck st.t),.string (cs st.src st.t),xI st.t.a,xI (cn st.t),xI st.op,za2 S st.er st.at'] 69:=h.heap;have h1:xH (w.setCell (xD pb 6) (za2 S e a)) pb #[.string st.src,xI (ck st.t),.string (cs st.src st.t),xI st.t.a,xI (cn st.t),xI st.op,za2 S e a] 69:=zh _ _ _ _ h0;exact⟨h.tx,h1,h.gl.of (T:=(·=pb)) ((Fr.refl _ w).set1 _ _) (λ_ hk=>hk▸h.pb),h.pb⟩
theorem PL.setOp (h:PL S w pb st)(o:Nat):PL S ((w.setCell (xD pb 5) (xI (o:Nat)))) pb { st with op:=o }:=by have h0:xH w pb #[.string st.src,xI (ck st.t),.string (cs st.src st.t),xI st.t.a,xI (cn st.t),xI st.op,za2 S st.er st.at'] 69:=h.heap;have h1:(w.setCell (xD pb 5) (xI (o:Nat))).heap[pb]?=some (.cells #[.string st.src,xI (ck st.t),.string (cs st.src st.t),xI st.t.a,xI (cn st.t),xI o,za2 S st.er st.at'] 69 (0,0)):=zh _ _ _ _ h0;exact⟨h.tx,h1,h.gl.of (T:=(·=pb)) ((Fr.refl _ w).set1 _ _) (λ_ hk=>hk▸h.pb),h.pb⟩
end
section
theorem zbN (s:ByteArray)(a:Nat)(ha:a<=s.size):(s.extract a s.size).size=s.size-a:=by rw[ByteArray.size_extract];omega
theorem zfd (s:ByteArray)(a i:Nat)(ha:a<=s.size):bt (s.extract a s.size) i=bt s (a+i):=by
 unfold bt;by_cases h:i<s.size-a
 . rw[dif_pos (by rw[zbN s a ha];exact h),dif_pos (by omega)];congr 1;rw[ByteArray.getElem_extract]
 . rw[dif_neg (by rw[zbN s a ha];exact h),dif_neg (by omega)]
theorem zlm (p:Nat->Bool)(s:ByteArray)(a:Nat)(ha:a<=s.size):∀f i,zc0 p (s.extract a s.size) f i+a=zc0 p s f (a+i):=by
 intro f;induction f with
 | zero=>intro i;show i+a=a+i;omega
 | succ f ih =>
   intro i
   show (if i<(s.extract a s.size).size/\p (bt (s.extract a s.size) i)=true then zc0 p (s.extract a s.size) f (i+1) else i)+a=(if a+i<s.size/\p (bt s (a+i))=true then zc0 p s f (a+i+1) else a+i);rw[zbN s a ha,zfd s a i ha];by_cases h:i<s.size-a/\p (bt s (a+i))=true
   . rw[if_pos h,if_pos ⟨by omega,h.2⟩,ih (i+1)];rfl
   . rw[if_neg h,if_neg (λh2=>h ⟨by omega,h2.2⟩)];omega
theorem zf3 (p:Nat->Bool)(s:ByteArray)(a:Nat)(ha:a<=s.size):zQ p (s.extract a s.size) 0+a=zQ p s a:=by unfold zQ;rw[zbN s a ha];have:=zlm p s a ha (s.size-a-0) 0;simpa using this
theorem zcL (s:ByteArray)(a n:Nat)(h:a+n<=s.size):(s.extract a s.size).extract 0 n=s.extract a (a+n):=by rw[ByteArray.extract_extract];congr 1;omega
def zdm:List UInt8->Bool×Nat->Bool×Nat
 | [],x=>x
 | c::r,x=>zdm r (if x.2 > (9223372036854775807-(c.toNat-48)) / 10 then (false,x.2) else (x.1,x.2*10+(c.toNat-48)))
theorem zlP:∀(l:List UInt8) (n:Nat),(zdm l (false,n)).1=false:=by
 intro l;induction l with
 | nil=>intro n;rfl
 | cons c r ih =>
   intro n
   show (zdm r (if n > (9223372036854775807-(c.toNat-48)) / 10 then (false,n) else (false,n*10+(c.toNat-48)))).1=false;split <;> exact ih _
def zfi (l:List UInt8):Prop:=∀c∈l,48<=c.toNat/\c.toNat<=57
theorem znD (M:Nat):∀(l:List UInt8) (acc:Nat),zfi l->Lib.parseUintM M acc l=.range∨∃u,Lib.parseUintM M acc l=.ok u/\acc<=u:=by
 intro l;induction l with
 | nil=>intro acc _;exact Or.inr ⟨acc,rfl,Nat.le_refl _⟩
 | cons c r ih =>
   intro acc h;have hc:=h c (by simp);have hr:zfi r:=λx hx=>h x (by simp[hx]);have e2:Lib.parseUintM M acc (c::r)=if 1844674407370955162<=acc then .range else if M<acc*10+(c.toNat-48) then .range else Lib.parseUintM M (acc*10+(c.toNat-48)) r:=(by rw[Lib.parseUintM,if_pos hc]);rw[e2];split
   . exact Or.inl rfl
   . split
     . exact Or.inl rfl
     . rcases ih (acc*10+(c.toNat-48)) hr with h1|⟨u,h1,h2⟩
       . exact Or.inl h1
       . exact Or.inr ⟨u,h1,by omega⟩
theorem zqR:∀(l:List UInt8) (acc:Nat),zfi l->acc<=9223372036854775807 ->
 ((zdm l (true,acc)).1=true->Lib.parseUintM 18446744073709551615 acc l=.ok (zdm l (true,acc)).2/\(zdm l (true,acc)).2<=9223372036854775807) /\
 ((zdm l (true,acc)).1=false->Lib.parseUintM 18446744073709551615 acc l=.range∨∃u,Lib.parseUintM 18446744073709551615 acc l=.ok u/\9223372036854775807<u):=by
 intro l;induction l with
 | nil=>intro acc _ ha;exact⟨λ_=>⟨rfl,ha⟩,λh=>by cases h⟩
 | cons c r ih =>
   intro acc h ha;have hc:=h c (by simp);have hr:zfi r:=λx hx=>h x (by simp[hx]);have e1:zdm (c::r) (true,acc)=zdm r (if acc > (9223372036854775807-(c.toNat-48)) / 10 then (false,acc) else (true,acc*10+(c.toNat-48))):=rfl;have e2:Lib.parseUintM 18446744073709551615 acc (c::r)=if 1844674407370955162<=acc then .range else if 18446744073709551615<acc*10+(c.toNat-48) then .range else Lib.parseUintM 18446744073709551615 (acc*10+(c.toNat-48)) r:=(by rw[Lib.parseUintM,if_pos hc]);rw[e1,e2];by_cases hov:acc > (9223372036854775807-(c.toNat-48)) / 10
   . rw[if_pos hov];refine⟨λh1=>?_,λ_=>?_⟩
     . rw[zlP] at h1;cases h1
     . split
       . exact Or.inl rfl
       . split
         . exact Or.inl rfl
         . rcases znD 18446744073709551615 r (acc*10+(c.toNat-48)) hr with h1|⟨u,h1,h2⟩
           . exact Or.inl h1
           . exact Or.inr ⟨u,h1,by omega⟩
   . rw[if_neg hov];have hb:acc*10+(c.toNat-48)<=9223372036854775807:=(by omega);rw[if_neg (by omega),if_neg (by omega)];exact ih _ hr hb
theorem zqC (l:List UInt8)(h:zfi l)(hne:l≠[]):Lib.parseIntB 64 l=if (zdm l (true,0)).1=true then .ok ((zdm l (true,0)).2:Int) else .range:=by
 obtain⟨c,r,rfl⟩:=List.exists_cons_of_ne_nil hne;have hc:=h c (by simp);have hp:=zqR (c::r) 0 h (by omega);have hu:Lib.parseUintB 64 (if c.toNat=43∨c.toNat=45 then r else c::r)=Lib.parseUintM 18446744073709551615 0 (c::r):=by rw[if_neg (by omega)];unfold Lib.parseUintB;rw[if_neg (by simp)]
 unfold Lib.parseIntB;simp only;rw[hu];cases hb:(zdm (c::r) (true,0)).1 with
 | true => obtain⟨h1,h2⟩:=hp.1 hb;rw[h1];simp only;rw[if_neg (by omega),if_neg (by omega),if_neg (by omega)];simp
 | false =>
   rw[if_neg (by simp)];rcases hp.2 hb with h1|⟨u,h1,h2⟩
   . rw[h1]
   . rw[h1];simp only;rw[if_pos ⟨by omega,by omega⟩]
def zcS (s:ByteArray)(i e:Nat):List UInt8:=(s.extract i e).data.toList
theorem zga (s:ByteArray)(i e:Nat)(hi:i<e)(he:e<=s.size):zcS s i e=s[i]'(by omega)::zcS s (i+1) e:=by unfold zcS;have hz:s.data.size=s.size:=rfl;rw[ByteArray.data_extract,ByteArray.data_extract,Array.toList_extract,Array.toList_extract,List.extract_eq_take_drop,List.extract_eq_take_drop];rw[List.drop_eq_getElem_cons (by rw[Array.length_toList,hz];omega),show e-i=(e-(i+1))+1 by omega,List.take_succ_cons];rfl
theorem zfX (s:ByteArray)(i:Nat):zcS s i i=[]:=by unfold zcS;rw[ByteArray.data_extract,Array.toList_extract,List.extract_eq_take_drop];simp
theorem zms (s:ByteArray):∀(f i:Nat) (x:Bool×Nat),f=s.size-i->zdt s f i x=zdm (zcS s i (zQ zT s i)) x/\zfi (zcS s i (zQ zT s i)):=by
 intro f;induction f with
 | zero => intro i x hf;rw[zjm (by omega),zfX];exact⟨rfl,λc hc=>by cases hc⟩
 | succ f ih =>
   intro i x hf;have hi:i<s.size:=(by omega);by_cases hd:zT (bt s i)=true
   . have hsp:=zd1 hi hd;have hle:i+1<=zQ zT s i:=(by rw[hsp];exact zdB _ _ _);have hle2:zQ zT s i<=s.size:=zcr _ _ _ (by omega);have hb:=ziM hi;have hc:=zga s i _ hle hle2;obtain⟨h1,h2⟩:=ih (i+1) (if x.2 > (9223372036854775807-(bt s i-48)) / 10 then (false,x.2) else (x.1,x.2*10+(bt s i-48))) (by omega);rw[<- hsp] at h1 h2;rw[hc];refine⟨?_,?_⟩
     . show (if i<s.size/\zT (bt s i)=true then _ else x)=zdm (zcS s (i+1) (zQ zT s i)) (if x.2 > (9223372036854775807-((s[i]).toNat-48)) / 10 then (false,x.2) else (x.1,x.2*10+((s[i]).toNat-48)));rw[if_pos ⟨hi,hd⟩,hb,h1]
     . intro c hc;rcases List.mem_cons.1 hc with h|h
       . subst h;rw[hb];simp[zT] at hd;exact hd
       . exact h2 c h
   . have hd':zT (bt s i)=false:=(by simpa using hd);rw[zif hd',zfX];refine⟨?_,λc hc=>by cases hc⟩
     show (if i<s.size/\zT (bt s i)=true then _ else x)=x;rw[if_neg (λh=>hd h.2)]
theorem zn1 (s:ByteArray)(a:Nat)(ha:a<s.size)(hd:zT (bt s a)=true):Lib.parseIntB 64 (s.extract a (zQ zT s a)).data.toList=if (zdt s (s.size-a) a (true,0)).1=true then .ok ((zdt s (s.size-a) a (true,0)).2:Int) else .range:=by
 obtain⟨h1,h2⟩:=zms s (s.size-a) a (true,0) rfl;have hle:a+1<=zQ zT s a:=by rw[zd1 ha hd];exact zdB _ _ _
 have hle2:zQ zT s a<=s.size:=zcr _ _ _ (by omega);rw[h1];refine zqC _ h2 ?_
 show zcS s a (zQ zT s a)≠[];rw[zga s a _ hle hle2];simp
end
section
open Go.RowKit
variable {w w2:World}
theorem zoo {e:TypeId}(h:w2=w∨∃t,w2=Lib.bytesWorld w e t):xB w w2:=by
 rcases h with rfl|⟨t,rfl⟩
 . exact Below.refl _ _
 . exact Lib.bytesWorld_below _ _ _
theorem zeu {o:Obj}(h:Below (w.alloc o).heap.size (w.alloc o) w2):xB w w2 :=
 ⟨h.os,h.tape,h.output,Nat.le_trans (by simp) h.size,λk hk=>(h.block k (by simp;omega)).trans (Below.heap_alloc _ _ _ hk)⟩
theorem zb6 {fn:Func}{p:Tmp}(h:fn.results=#[.cell p 66]){tmps:Array Value}{b:Nat}(hp:tmps[p]?.getD undef=xP b){v0 v1 v2 v3:Value}(hh:xH w b #[v0,v1,v2,v3] 66):(results fn tmps).run prog w=.ok (.agg #[v0,v1,v2,v3]) w:=by obtain⟨c0,c1,c2,c3,_⟩:=zU hh;simp[results,h,hp,go_sem,c0,c1,c2,c3]
def zlt (r:ByteArray)(a:Nat):Value :=
 if (zdt r (r.size-0) 0 (true,0)).1=true then zaw 4 (r.extract 0 (zQ zT r 0)) a (zdt r (r.size-0) 0 (true,0)).2 else zaw 0 ⟨#[]⟩ a 0
theorem zl0 (S:Nat->Addr)(r:ByteArray)(hs:r.size<=1200)(h0:0<r.size)(hd:zT (bt r 0)=true)(a:Nat)(w:World)(hG:Gl S w) :
 xK 71 #[.string r,xI a] w λe w'=>e=.returned (zlt r a)/\xB w w':=by
 have h1:=zcr zT r 0 (Nat.zero_le _);have hP:=zn1 r 0 h0 hd;have HV:Hid (zlt r a=if (zdt r (r.size-0) 0 (true,0)).1=true then zaw 4 (r.extract 0 (zQ zT r 0)) a (zdt r (r.size-0) 0 (true,0)).2 else zaw 0 ⟨#[]⟩ a 0):=rfl;obtain⟨n,Hn⟩:∃n,zQ zT r 0=n:=⟨_,rfl⟩;generalize zdt r (r.size-0) 0 (true,0)=x at *;rw[Hn] at h1 hP HV;have hrg:w.cell? (xD 16 0)=some (.iface 399 (.pointer (some (S 12)))):=hG.range;have hgz:=hG.size;have hg17:16<w.heap.size:=Nat.lt_of_lt_of_le (by decide) hgz;have hsz:(r.extract 0 n).size<=281474976710656:=by rw[ByteArray.size_extract];omega
 cases hx:x.1 with
 | true => rw[hx,if_pos rfl] at hP HV;have HPi:=za (Tryz.strconv_ParseInt_10_at64_ok (r.extract 0 n) (by omega) x.2 hP (w.alloc (.cells #[xI 0,.string ⟨#[]⟩,xI 0,xI 0] 66)));go_enter func71,ntmps71;go_wp2_with (first|(go_at_call 131;refine HPi.o.mono ?_;rintro e w2 ⟨rfl,hw2⟩;have Hb2:=zoo hw2;have Hh2:=(Hb2.block w.heap.size (Nat.lt_of_lt_of_eq (Nat.lt_succ_self _) (by simp))).trans (zc w _);obtain⟨d0,d1,d2,d3,df,dz⟩:=zU Hh2)|(go_at_call 66;refine (zdv _ zT zg0 zcp r hs _).mono ?_;rintro e w' ⟨rfl,rfl⟩;rw[Hn]));refine bodyPost_ret (v:=zaw 4 (r.extract 0 n) a x.2) (zb6 rfl rfl (zb7 Hh2 _ _ _ _)) rfl ⟨by rw[HV.o],?_⟩;exact (((((zeu Hb2).setCell (Nat.le_refl _) _).setCell (Nat.le_refl _) _).setCell (Nat.le_refl _) _).setCell (Nat.le_refl _) _)
 | false => rw[hx,if_neg (by simp)] at hP HV;have HPi:=za (Tryz.strconv_ParseInt_10_at64_range (r.extract 0 n) hsz hP (.iface 399 (.pointer (some (S 12)))) (w.alloc (.cells #[xI 0,.string ⟨#[]⟩,xI 0,xI 0] 66)) ((World.cell?_alloc_lt _ _ _ hg17).trans hrg) (Or.inr ⟨_,_,rfl⟩));go_enter func71,ntmps71;go_wp2_with (first|(go_at_call 131;refine HPi.o.mono ?_;rintro e w2 ⟨N,rfl,_,_,Hb2⟩;have Hh2:=(Hb2.block w.heap.size (Nat.lt_of_lt_of_eq (Nat.lt_succ_self _) (by simp))).trans (zc w _);obtain⟨d0,d1,d2,d3,df,dz⟩:=zU Hh2)|(go_at_call 66;refine (zdv _ zT zg0 zcp r hs _).mono ?_;rintro e w' ⟨rfl,rfl⟩;rw[Hn]));refine bodyPost_ret (v:=zaw 0 ⟨#[]⟩ a 0) (zb6 rfl rfl (zb7 Hh2 _ _ _ _)) rfl ⟨by rw[HV.o],?_⟩;exact (((((zeu Hb2).setCell (Nat.le_refl _) _).setCell (Nat.le_refl _) _).setCell (Nat.le_refl _) _).setCell (Nat.le_refl _) _)
def ziQ (r:ByteArray)(a:Nat):Value :=
 if 2<=r.size/\((r.extract 0 2).toList==[45,62]||(r.extract 0 2).toList==[60,62]||(r.extract 0 2).toList==[60,61])=true then zaw 2 (r.extract 0 2) a 0
 else if zfe (bt r 0) then zaw 2 (r.extract 0 1) a 0 else zaw 0 ⟨#[]⟩ a 0
theorem zfA (s t:ByteArray)(ht:t.size=2)(hs:s.size<=1200)(w:World):xK 132 #[.string s,.string t] w λe w'=>e=.returned (.bool (decide (2<=s.size)&&(s.extract 0 2).toList==t.toList))/\w=w':=by
 go_enter func132,ntmps132;go_wp2;all_goals go_ret
 . rename_i h
   have:decide (2<=s.size)=true:=by simp;omega
   rw[this];exact⟨rfl,rfl⟩
 . rename_i h
   have:decide (2<=s.size)=false:=by simp;omega
   rw[this];exact⟨rfl,rfl⟩
theorem zpy:∀n,n<256->decide ((0:Int)<=Lib.indexByte [40,41,123,125,58,59,44,61,60,43,45,42,47,37] n.toUInt8)=zfe n:=by decide +kernel
theorem zi9 {s t:ByteArray}(h:s.toList=t.toList):s=t:=by rw[ByteArray.toList_eq,ByteArray.toList_eq] at h;exact ByteArray.ext (Array.toList_inj.1 h)
theorem ix3 (s0 s1 s2:ByteArray)(w:World):(Instr.index 257 (.agg #[.string s0,.string s1,.string s2]) (xI 0)).run prog w=.ok (.string s0) w/\(Instr.index 257 (.agg #[.string s0,.string s1,.string s2]) (xI 1)).run prog w=.ok (.string s1) w/\(Instr.index 257 (.agg #[.string s0,.string s1,.string s2]) (xI 2)).run prog w=.ok (.string s2) w:=⟨by kernel_rfl,by kernel_rfl,by kernel_rfl⟩
theorem zrm (r:ByteArray)(i:Nat):bt r i<256:=by
 unfold bt;split
 . exact UInt8.toNat_lt _
 . decide
theorem znT (r:ByteArray)(hs:r.size<=1200)(h0:0<r.size)(a:Nat)(w:World) :
 xK 72 #[.string r,xI a] w λe w'=>e=.returned (ziQ r a)/\xB w w':=by
 have hx0:=λw=>(ix3 ⟨#[45,62]⟩ ⟨#[60,62]⟩ ⟨#[60,61]⟩ w).1;have hx1:=λw=>(ix3 ⟨#[45,62]⟩ ⟨#[60,62]⟩ ⟨#[60,61]⟩ w).2.1;have hx2:=λw=>(ix3 ⟨#[45,62]⟩ ⟨#[60,62]⟩ ⟨#[60,61]⟩ w).2.2;have hb:=ziM h0;have hb256:=zrm r 0;have hsx:=zpy (bt r 0) hb256;have t1:(⟨#[45,62]⟩:ByteArray).toList=[45,62]:=by decide +kernel
 have t2:(⟨#[60,62]⟩:ByteArray).toList=[60,62]:=by decide +kernel
 have t3:(⟨#[60,61]⟩:ByteArray).toList=[60,61]:=by decide +kernel
 have HV:Hid (ziQ r a=if 2<=r.size/\((r.extract 0 2).toList==[45,62]||(r.extract 0 2).toList==[60,62]||(r.extract 0 2).toList==[60,61])=true then zaw 2 (r.extract 0 2) a 0 else if zfe (bt r 0) then zaw 2 (r.extract 0 1) a 0 else zaw 0 ⟨#[]⟩ a 0):=rfl;obtain⟨c,hc⟩:∃c,bt r 0=c:=⟨_,rfl⟩;rw[hc] at hb hsx HV;have Hsx:=za hsx;have T1:=za t1;have T2:=za t2;have T3:=za t3;clear hc hsx t1 t2 t3 hb256;go_enter func72,ntmps72;go_wp2_with fail;refine wp_loop_rounds 4 ?_;rw[rounds_succ];go_wp2_with (go_at_call 132;refine (zfA _ _ rfl hs _).mono ?_;rintro e w' ⟨rfl,rfl⟩;rw[T1.o])
 . rename_i h1
   refine bodyPost_ret (v:=zaw 2 ⟨#[45,62]⟩ a 0) (by simp[results,results72,go_sem,zaw]) rfl ⟨?_,(Below.refl _ _).alloc (Nat.le_refl _) _⟩;simp only[beq_iff_eq] at h1;rw[HV.o,if_pos ⟨h1.1,by simp[h1.2]⟩,zi9 (h1.2.trans T1.o.symm)]
 . rename_i h1
   rw[rounds_succ];go_wp2_with (go_at_call 132;refine (zfA _ _ rfl hs _).mono ?_;rintro e w' ⟨rfl,rfl⟩;rw[T2.o])
   . rename_i h2
     refine bodyPost_ret (v:=zaw 2 ⟨#[60,62]⟩ a 0) (by simp[results,results72,go_sem,zaw]) rfl ⟨?_,(Below.refl _ _).alloc (Nat.le_refl _) _⟩;simp only[beq_iff_eq] at h2;rw[HV.o,if_pos ⟨h2.1,by simp[h2.2]⟩,zi9 (h2.2.trans T2.o.symm)]
   . rename_i h2
     rw[rounds_succ];go_wp2_with (go_at_call 132;refine (zfA _ _ rfl hs _).mono ?_;rintro e w' ⟨rfl,rfl⟩;rw[T3.o])
     . rename_i h3
       refine bodyPost_ret (v:=zaw 2 ⟨#[60,61]⟩ a 0) (by simp[results,results72,go_sem,zaw]) rfl ⟨?_,(Below.refl _ _).alloc (Nat.le_refl _) _⟩;simp only[beq_iff_eq] at h3;rw[HV.o,if_pos ⟨h3.1,by simp[h3.2]⟩,zi9 (h3.2.trans T3.o.symm)]
     . rename_i h3
       have HN:Hid (¬(2<=r.size/\((r.extract 0 2).toList==[45,62]||(r.extract 0 2).toList==[60,62]||(r.extract 0 2).toList==[60,61])=true)):=by
        rintro⟨g1,g2⟩;simp only[Bool.or_eq_true] at g2;rcases g2 with (g2|g2)|g2
        . rw[g2] at h1;simp[g1] at h1
        . rw[g2] at h2;simp[g1] at h2
        . rw[g2] at h3;simp[g1] at h3
       have hv:=HV.o;rw[if_neg HN.o] at hv;have HV2:=za hv;clear h1 h2 h3 hv HV HN;rw[rounds_succ];go_wp2_with (go_at_call 133;refine (Tryz.strings_IndexByte _ _ _).mono ?_;rintro e w' ⟨rfl,rfl⟩)
       . rename_i h5
         have h6:zfe c=true:=(by rw[<- Hsx.o];exact decide_eq_true h5);refine bodyPost_ret (v:=zaw 2 (r.extract 0 1) a 0) (by simp[results,results72,go_sem,zaw]) rfl ⟨by rw[HV2.o,if_pos h6],(Below.refl _ _).alloc (Nat.le_refl _) _⟩
       . rename_i h5
         have h6:¬zfe c=true:=(by rw[<- Hsx.o];intro h7;exact absurd (of_decide_eq_true h7) (by first|exact h5|exact Int.not_le.2 h5));refine bodyPost_ret (v:=zaw 0 ⟨#[]⟩ a 0) (by simp[results,results72,go_sem,zaw]) rfl ⟨by rw[HV2.o,if_neg h6],(Below.refl _ _).alloc (Nat.le_refl _) _⟩
end
end Go.Proofs.YtmfkofhgdjechaaGreatDoor
