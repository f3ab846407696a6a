/- Part 2 of the proof: MdlR RefF RefG App. -/
import Derived.Deep.DeepMust
import Derived.Deep.RegionLaw
import Derived.Deep.RegionWith
import Derived.Test.YtmfkofhgdjechaaGreatDoorK00
set_option maxRecDepth 100000
set_option maxHeartbeats 8000000
namespace Go.Proofs.YtmfkofhgdjechaaGreatDoor
open Go.Proofs.Tryz
section
structure Ex where
 op:ByteArray
 a:Nat
 nm:Nat
 ins:List Nat
 s:ByteArray
 n:Nat
structure St where
 src:ByteArray
 t:Tk
 op:Nat
 er:Nat
 at':Nat
 L:List Ex
def St.bad (st:St):St:={ st with t:=⟨1,st.t.a,st.t.t,⟨#[]⟩,0⟩ }
def St.fail (st:St)(e a:Nat):St:=if st.er=0 then { st with er:=e,at':=a,t:=⟨1,st.t.a,st.t.t,⟨#[]⟩,0⟩ } else { st with t:=⟨1,st.t.a,st.t.t,⟨#[]⟩,0⟩ }
def St.step (st:St):St:=if st.er=0 then { st with t:=zZ st.src st.t.t } else st
def St.is (st:St)(k:Nat)(l:List UInt8):Bool:=st.t.k==k&&st.t.s.toList==l
def St.must (st:St)(k:Nat)(l:List UInt8):St:=if st.is k l=true then st.step else st.fail 2 st.t.a
def St.name (st:St):St:=if st.t.k=2 then st.step else st.fail 2 st.t.a
def St.enter (st:St):St:=if 16<st.op+1 then ({ st with op:=st.op+1 }:St).fail 3 st.t.a else ({ st with op:=st.op+1 }:St).step
def St.leave (st:St):St:={ st with op:=st.op-1 }
def St.add (st:St)(e:Ex):St:={ st with L:=st.L++[e] }
structure St.Ok (st:St):Prop where
 src:st.src.size<=1200
 tt:st.t.t<=st.src.size
 ta:st.t.a<=st.t.t
 tn:st.t.n<=9223372036854775807
 op:st.op<=100
 er:st.er<=11
 at':st.at'<=1200
 tk:st.t.k<=5
theorem zpH (s:ByteArray):∀f i (x:Bool×Nat),x.2<=9223372036854775807->(zdt s f i x).2<=9223372036854775807:=by
 intro f;induction f with
 | zero=>intro i x h;exact h
 | succ f ih =>
   intro i x h
   show (if i<s.size/\zT (bt s i)=true then _ else x).2<=_;split
   . apply ih
     rename_i hd
     have hd2:bt s i-48<=9:=(by have:=hd.2;simp[zT] at this;omega);split
     . exact h
     . show x.2*10+(bt s i-48)<=_;omega
   . exact h
theorem zV (s:ByteArray)(p:Nat)(hp:p<=s.size):p<=(zZ s p).a/\(zZ s p).a<=(zZ s p).t/\(zZ s p).t<=s.size/\(zZ s p).n<=9223372036854775807/\(zZ s p).k<=5/\(2<=(zZ s p).k->(zZ s p).a<(zZ s p).t):=by
 have h1:=zdB zbY s p;have h2:=zcr zbY s p hp;unfold zZ;simp only;generalize zQ zbY s p=a at *;split
 . refine⟨h1,Nat.le_refl _,h2,by simp,by simp,λh=>?_⟩;simp only at h;omega
 . rename_i hne
   have hlt:a<s.size:=(by omega);split
   . rename_i hl
     have h3:a+1<=zQ inW s a:=(by rw[zd1 hlt (by simp[inW,hl])];exact zdB _ _ _);have h4:=zcr inW s a h2;unfold zfg;simp only;refine⟨h1,by omega,h4,by simp,?_,λ_=>by omega⟩;split;omega;split <;> omega
   . split
     . rename_i hd
       have h3:a+1<=zQ zT s a:=(by rw[zd1 hlt hd];exact zdB _ _ _);have h4:=zcr zT s a h2;unfold zgc;simp only;refine⟨h1,by omega,h4,zpH _ _ _ _ (by simp),?_,λ_=>by omega⟩;split <;> omega
     . unfold zfh;split
       . rename_i h;exact⟨h1,by simp only;omega,h.1,by simp,by simp,λ_=>by simp only;omega⟩
       . split
         . exact⟨h1,by simp only;omega,by simp only;omega,by simp,by simp,λ_=>by simp only;omega⟩
         . exact⟨h1,Nat.le_refl _,h2,by simp,by simp,λh=>by simp only at h;omega⟩
theorem St.Ok.fail {st:St}(h:st.Ok){e a:Nat}(he:e<=11)(ha:a<=1200):(st.fail e a).Ok:=by
 have h0:=h.src;have h1:=h.tt;have h2:=h.ta;have h3:=h.tn;have h4:=h.op;have h5:=h.er;have h6:=h.at';have h7:=h.tk;unfold St.fail;split
 . exact⟨h0,h1,h2,by simp,h4,he,ha,by simp⟩
 . exact⟨h0,h1,h2,by simp,h4,h5,h6,by simp⟩
theorem St.Ok.step {st:St}(h:st.Ok):st.step.Ok:=by
 unfold St.step;split
 . obtain⟨h1,h2,h3,h4,h5,h6⟩:=zV st.src st.t.t h.tt;exact⟨h.src,h3,h2,h4,h.op,h.er,h.at',h5⟩
 . exact h
theorem St.Ok.ta_le {st:St}(h:st.Ok):st.t.a<=1200:=Nat.le_trans h.ta (Nat.le_trans h.tt h.src)
theorem St.Ok.must {st:St}(h:st.Ok)(k:Nat)(l:List UInt8):(st.must k l).Ok:=by
 unfold St.must;split
 . exact h.step
 . exact h.fail (by omega) h.ta_le
theorem St.Ok.name {st:St}(h:st.Ok):st.name.Ok:=by
 unfold St.name;split
 . exact h.step
 . exact h.fail (by omega) h.ta_le
theorem St.Ok.opened {st:St}(h:st.Ok)(o:st.op<100):({ st with op:=st.op+1 }:St).Ok:=⟨h.src,h.tt,h.ta,h.tn,by simp only;omega,h.er,h.at',h.tk⟩
theorem St.Ok.enter {st:St}(h:st.Ok)(o:st.op<100):st.enter.Ok:=by
 unfold St.enter;split
 . exact (h.opened o).fail (by omega) h.ta_le
 . exact (h.opened o).step
theorem St.Ok.leave {st:St}(h:st.Ok):st.leave.Ok:=⟨h.src,h.tt,h.ta,h.tn,by unfold St.leave;simp only;have:=h.op;omega,h.er,h.at',h.tk⟩
theorem St.Ok.add {st:St}(h:st.Ok)(e:Ex):(st.add e).Ok:=⟨h.src,h.tt,h.ta,h.tn,h.op,h.er,h.at',h.tk⟩
end
section
open Go.RowKit
variable {rb:Nat} {st:St} {w w':World}
structure Fx where
 nodes:Value
 nm:ByteArray
 na:Int
 vs:Value
 qs:Value
def St.rd (F:Fx)(xs:Value)(st:St):Rd:=⟨F.nodes,st.src,st.t.k,st.t.a,st.t.t,st.t.s,st.t.n,st.op,st.er,st.at',F.nm,F.na,F.vs,xs,F.qs⟩
structure Rw where
 v:Value
 ins:List Value
def zs (w:World)(rb:Nat)(F:Fx)(xs:Rw)(st:St):Prop:=(st.rd F xs.v).at w rb
theorem zs.cells {F:Fx}{xs:Rw}(h:zs w rb F xs st) :
 (xC w rb 0 F.nodes)/\xC w rb 1 (.string st.src)/\xC w rb 2 (xI st.t.k)/\xC w rb 3 (xI st.t.a) /\
 (xC w rb 4 (xI st.t.t))/\xC w rb 5 (.string st.t.s)/\xC w rb 6 (xI st.t.n)/\xC w rb 7 (xI st.op) /\
 (xC w rb 8 (xI st.er))/\xC w rb 9 (xI st.at')/\xC w rb 10 (.string F.nm)/\xC w rb 11 (xI F.na) /\
 (xC w rb 12 F.vs)/\xC w rb 13 xs.v/\xC w rb 14 F.qs:=Rd.at.cells h
theorem zs.frozen {F:Fx}{xs:Rw}(h:zs w rb F xs st)(i:Nat):w.frozen? (xD rb i)=false:=Rd.at.frozen h i
theorem zs.lt {F:Fx}{xs:Rw}(h:zs w rb F xs st):rb<w.heap.size:=Rd.at.lt h
theorem zs.kept {F:Fx}{xs:Rw}(h:zs w rb F xs st)(hb:w'.heap[rb]?=w.heap[rb]?):zs w' rb F xs st:=by unfold zs Rd.at at *;rw[hb,h]
theorem zs.alloc {F:Fx}{xs:Rw}(h:zs w rb F xs st)(o:Obj):zs (w.alloc o) rb F xs st:=h.kept (Below.heap_alloc _ _ _ h.lt)
theorem zs.drew {F:Fx}{xs:Rw}(h:zs w rb F xs st):zs w.drew rb F xs st:=h
theorem zs.below {F:Fx}{xs:Rw}(h:zs w rb F xs st)(hb:xB w w'):zs w' rb F xs st:=h.kept (hb.block rb h.lt)
theorem zs.setOther {F:Fx}{xs:Rw}(h:zs w rb F xs st){b:Nat}(hb:rb≠b)(i:Nat)(v:Value):zs (w.setCell (xD b i) v) rb F xs st:=h.kept (Below.heap_setCell _ _ _ _ hb)
theorem zs.setTok {F:Fx}{xs:Rw}(h:zs w rb F xs st)(t:Tk):zs (((((w.setCell (xD rb 2) (xI t.k)).setCell (xD rb 3) (xI t.a)).setCell (xD rb 4) (xI t.t)).setCell (xD rb 5) (.string t.s)).setCell (xD rb 6) (xI t.n)) rb F xs { st with t:=t }:=by have h0:xH w rb #[F.nodes,.string st.src,xI st.t.k,xI st.t.a,xI st.t.t,.string st.t.s,xI st.t.n,xI st.op,xI st.er,xI st.at',.string F.nm,xI F.na,F.vs,xs.v,F.qs] 272:=h;have h1:xH (w.setCell (xD rb 2) (xI t.k)) rb #[F.nodes,.string st.src,xI t.k,xI st.t.a,xI st.t.t,.string st.t.s,xI st.t.n,xI st.op,xI st.er,xI st.at',.string F.nm,xI F.na,F.vs,xs.v,F.qs] 272:=zh _ _ _ _ h0;have h2:((w.setCell (xD rb 2) (xI t.k)).setCell (xD rb 3) (xI t.a)).heap[rb]?=some (.cells #[F.nodes,.string st.src,xI t.k,xI t.a,xI st.t.t,.string st.t.s,xI st.t.n,xI st.op,xI st.er,xI st.at',.string F.nm,xI F.na,F.vs,xs.v,F.qs] 272 (0,0)):=zh _ _ _ _ h1;have h3:(((w.setCell (xD rb 2) (xI t.k)).setCell (xD rb 3) (xI t.a)).setCell (xD rb 4) (xI t.t)).heap[rb]?=some (.cells #[F.nodes,.string st.src,xI t.k,xI t.a,xI t.t,.string st.t.s,xI st.t.n,xI st.op,xI st.er,xI st.at',.string F.nm,xI F.na,F.vs,xs.v,F.qs] 272 (0,0)):=zh _ _ _ _ h2;have h4:((((w.setCell (xD rb 2) (xI t.k)).setCell (xD rb 3) (xI t.a)).setCell (xD rb 4) (xI t.t)).setCell (xD rb 5) (.string t.s)).heap[rb]?=some (.cells #[F.nodes,.string st.src,xI t.k,xI t.a,xI t.t,.string t.s,xI st.t.n,xI st.op,xI st.er,xI st.at',.string F.nm,xI F.na,F.vs,xs.v,F.qs] 272 (0,0)):=zh _ _ _ _ h3;have h5:(((((w.setCell (xD rb 2) (xI t.k)).setCell (xD rb 3) (xI t.a)).setCell (xD rb 4) (xI t.t)).setCell (xD rb 5) (.string t.s)).setCell (xD rb 6) (xI t.n)).heap[rb]?=some (.cells #[F.nodes,.string st.src,xI t.k,xI t.a,xI t.t,.string t.s,xI t.n,xI st.op,xI st.er,xI st.at',.string F.nm,xI F.na,F.vs,xs.v,F.qs] 272 (0,0)):=zh _ _ _ _ h4;exact h5
theorem zs.setErr {F:Fx}{xs:Rw}(h:zs w rb F xs st)(e a:Nat):zs ((w.setCell (xD rb 8) (xI e)).setCell (xD rb 9) (xI a)) rb F xs { st with er:=e,at':=a }:=by have h0:xH w rb #[F.nodes,.string st.src,xI st.t.k,xI st.t.a,xI st.t.t,.string st.t.s,xI st.t.n,xI st.op,xI st.er,xI st.at',.string F.nm,xI F.na,F.vs,xs.v,F.qs] 272:=h;have h1:xH (w.setCell (xD rb 8) (xI e)) rb #[F.nodes,.string st.src,xI st.t.k,xI st.t.a,xI st.t.t,.string st.t.s,xI st.t.n,xI st.op,xI e,xI st.at',.string F.nm,xI F.na,F.vs,xs.v,F.qs] 272:=zh _ _ _ _ h0;have h2:((w.setCell (xD rb 8) (xI e)).setCell (xD rb 9) (xI a)).heap[rb]?=some (.cells #[F.nodes,.string st.src,xI st.t.k,xI st.t.a,xI st.t.t,.string st.t.s,xI st.t.n,xI st.op,xI e,xI a,.string F.nm,xI F.na,F.vs,xs.v,F.qs] 272 (0,0)):=zh _ _ _ _ h1;exact h2
theorem zs.setOp {F:Fx}{xs:Rw}(h:zs w rb F xs st)(o:Nat):zs (w.setCell (xD rb 7) (xI o)) rb F xs { st with op:=o }:=by have h0:xH w rb #[F.nodes,.string st.src,xI st.t.k,xI st.t.a,xI st.t.t,.string st.t.s,xI st.t.n,xI st.op,xI st.er,xI st.at',.string F.nm,xI F.na,F.vs,xs.v,F.qs] 272:=h;have h1:xH (w.setCell (xD rb 7) (xI o)) rb #[F.nodes,.string st.src,xI st.t.k,xI st.t.a,xI st.t.t,.string st.t.s,xI st.t.n,xI o,xI st.er,xI st.at',.string F.nm,xI F.na,F.vs,xs.v,F.qs] 272:=zh _ _ _ _ h0;exact h1
theorem zs.setXs {F:Fx}{xs:Rw}(h:zs w rb F xs st)(v:Value)(l:List Value):zs (w.setCell (xD rb 13) (v)) rb F ⟨v,l⟩ st:=by have h0:xH w rb #[F.nodes,.string st.src,xI st.t.k,xI st.t.a,xI st.t.t,.string st.t.s,xI st.t.n,xI st.op,xI st.er,xI st.at',.string F.nm,xI F.na,F.vs,xs.v,F.qs] 272:=h;have h1:xH (w.setCell (xD rb 13) (v)) rb #[F.nodes,.string st.src,xI st.t.k,xI st.t.a,xI st.t.t,.string st.t.s,xI st.t.n,xI st.op,xI st.er,xI st.at',.string F.nm,xI F.na,F.vs,v,F.qs] 272:=zh _ _ _ _ h0;exact h1
theorem zs.setNat {F:Fx}{xs:Rw}(h:zs w rb F xs st)(v:Nat):zs (w.setCell (xD rb 11) (xI v)) rb { F with na:=v } xs st:=by have h0:xH w rb #[F.nodes,.string st.src,xI st.t.k,xI st.t.a,xI st.t.t,.string st.t.s,xI st.t.n,xI st.op,xI st.er,xI st.at',.string F.nm,xI F.na,F.vs,xs.v,F.qs] 272:=h;have h1:xH (w.setCell (xD rb 11) (xI v)) rb #[F.nodes,.string st.src,xI st.t.k,xI st.t.a,xI st.t.t,.string st.t.s,xI st.t.n,xI st.op,xI st.er,xI st.at',.string F.nm,xI v,F.vs,xs.v,F.qs] 272:=zh _ _ _ _ h0;exact h1
theorem zs.setNm {F:Fx}{xs:Rw}(h:zs w rb F xs st)(v:ByteArray):zs (w.setCell (xD rb 10) (.string v)) rb { F with nm:=v } xs st:=by have h0:xH w rb #[F.nodes,.string st.src,xI st.t.k,xI st.t.a,xI st.t.t,.string st.t.s,xI st.t.n,xI st.op,xI st.er,xI st.at',.string F.nm,xI F.na,F.vs,xs.v,F.qs] 272:=h;have h1:xH (w.setCell (xD rb 10) (.string v)) rb #[F.nodes,.string st.src,xI st.t.k,xI st.t.a,xI st.t.t,.string st.t.s,xI st.t.n,xI st.op,xI st.er,xI st.at',.string v,xI F.na,F.vs,xs.v,F.qs] 272:=zh _ _ _ _ h0;exact h1
theorem zs.setVs {F:Fx}{xs:Rw}(h:zs w rb F xs st)(v:Value):zs (w.setCell (xD rb 12) (v)) rb { F with vs:=v } xs st:=by have h0:xH w rb #[F.nodes,.string st.src,xI st.t.k,xI st.t.a,xI st.t.t,.string st.t.s,xI st.t.n,xI st.op,xI st.er,xI st.at',.string F.nm,xI F.na,F.vs,xs.v,F.qs] 272:=h;have h1:xH (w.setCell (xD rb 12) (v)) rb #[F.nodes,.string st.src,xI st.t.k,xI st.t.a,xI st.t.t,.string st.t.s,xI st.t.n,xI st.op,xI st.er,xI st.at',.string F.nm,xI F.na,v,xs.v,F.qs] 272:=zh _ _ _ _ h0;exact h1
theorem zs.setQs {F:Fx}{xs:Rw}(h:zs w rb F xs st)(v:Value):zs (w.setCell (xD rb 14) (v)) rb { F with qs:=v } xs st:=by have h0:xH w rb #[F.nodes,.string st.src,xI st.t.k,xI st.t.a,xI st.t.t,.string st.t.s,xI st.t.n,xI st.op,xI st.er,xI st.at',.string F.nm,xI F.na,F.vs,xs.v,F.qs] 272:=h;have h1:xH (w.setCell (xD rb 14) (v)) rb #[F.nodes,.string st.src,xI st.t.k,xI st.t.a,xI st.t.t,.string st.t.s,xI st.t.n,xI st.op,xI st.er,xI st.at',.string F.nm,xI F.na,F.vs,xs.v,v] 272:=zh _ _ _ _ h0;exact h1
theorem zs.setNodes {F:Fx}{xs:Rw}(h:zs w rb F xs st)(v:Value):zs (w.setCell (xD rb 0) (v)) rb { F with nodes:=v } xs st:=by have h0:xH w rb #[F.nodes,.string st.src,xI st.t.k,xI st.t.a,xI st.t.t,.string st.t.s,xI st.t.n,xI st.op,xI st.er,xI st.at',.string F.nm,xI F.na,F.vs,xs.v,F.qs] 272:=h;have h1:xH (w.setCell (xD rb 0) (v)) rb #[v,.string st.src,xI st.t.k,xI st.t.a,xI st.t.t,.string st.t.s,xI st.t.n,xI st.op,xI st.er,xI st.at',.string F.nm,xI F.na,F.vs,xs.v,F.qs] 272:=zh _ _ _ _ h0;exact h1
theorem zGB (rb:Nat)(F:Fx)(xs:Rw)(st:St)(k:Nat)(s:ByteArray)(w:World)(hR:zs w rb F xs st):xK 210 #[xP rb,xI k,.string s] w λe w'=>e=.returned (.bool (st.is k s.toList))/\w'=w:=by
 obtain⟨h0,h1,h2,h3,h4,h5,h6,h7,h8,h9,h10,h11,h12,h13,h14⟩:=hR.cells;clear hR;by_cases hk:st.t.k=k
 . have hk':((st.t.k:Int)==(k:Int))=true:=beq_iff_eq.2 (by omega);have H:Hid (st.is k s.toList=(st.t.s.toList==s.toList)):=by unfold Hid St.is;simp[hk]
   clear hk;go_enter func210,ntmps210;go_wp2;go_ret;exact⟨by rw[H.o];simp,rfl⟩
 . have hk':((st.t.k:Int)==(k:Int))=false:=beq_eq_false_iff_ne.2 (by omega);have H:Hid (st.is k s.toList=false):=by unfold Hid St.is;simp[hk]
   clear hk;go_enter func210,ntmps210;go_wp2;go_ret;exact⟨by rw[H.o];rfl,rfl⟩
theorem zFu (rb:Nat)(F:Fx)(xs:Rw)(st:St)(e a:Nat)(w:World)(hR:zs w rb F xs st):xK 206 #[xP rb,xI e,xI a] w λe' w'=>e'=.returned (.tuple #[])/\zs w' rb F xs (st.fail e a)/\Fr (·=rb) w w':=by
 have hf:=hR.frozen;obtain⟨h0,h1,h2,h3,h4,h5,h6,h7,h8,h9,h10,h11,h12,h13,h14⟩:=hR.cells;by_cases he:st.er=0
 . have he':((st.er:Int)==0)=true:=beq_iff_eq.2 (by omega);have HE:Hid (st.fail e a={ st with er:=e,at':=a,t:=⟨1,st.t.a,st.t.t,⟨#[]⟩,0⟩ }):=by unfold Hid St.fail;rw[if_pos he]
   have HR:Hid (zs w rb F xs st):=hR;clear he hR;go_enter func206,ntmps206;go_wp2;go_region;go_end0;refine⟨rfl,?_,?_⟩
   . rw[HE.o];exact ((HR.o.setErr e a).setTok ⟨1,st.t.a,st.t.t,⟨#[]⟩,0⟩).drew
   . exact ((((((((Fr.refl _ w).set1 _ _).set1 _ _).set1 _ _).set1 _ _).set1 _ _).set1 _ _).set1 _ _).drew
 . have he':((st.er:Int)==0)=false:=beq_eq_false_iff_ne.2 (by omega);have HE:Hid (st.fail e a={ st with t:=⟨1,st.t.a,st.t.t,⟨#[]⟩,0⟩ }):=by unfold Hid St.fail;rw[if_neg he]
   have HR:Hid (zs w rb F xs st):=hR;clear he hR;go_enter func206,ntmps206;go_wp2;go_region;go_end0;refine⟨rfl,?_,?_⟩
   . rw[HE.o];exact (HR.o.setTok ⟨1,st.t.a,st.t.t,⟨#[]⟩,0⟩).drew
   . exact ((((((Fr.refl _ w).set1 _ _).set1 _ _).set1 _ _).set1 _ _).set1 _ _).drew
theorem zyg (rb:Nat)(F:Fx)(xs:Rw)(st:St)(w:World)(hO:st.Ok)(hR:zs w rb F xs st):xK 147 #[xP rb] w λe' w'=>e'=.returned (.tuple #[])/\zs w' rb F xs st.step/\Fr (·=rb) w w':=by
 have hf:=hR.frozen;have hlt:=hR.lt;obtain⟨h0,h1,h2,h3,h4,h5,h6,h7,h8,h9,h10,h11,h12,h13,h14⟩:=hR.cells;by_cases he:st.er=0
 . have he':((st.er:Int)==0)=true:=beq_iff_eq.2 (by omega);have HE:Hid (st.step={ st with t:=zZ st.src st.t.t }):=by unfold Hid St.step;rw[if_pos he]
   have HR:Hid (zs w rb F xs st):=hR;have HO:Hid st.Ok:=hO;have hne:rb≠w.heap.size:=(by omega);clear he hR hO;go_enter func147,ntmps147;go_wp2_with fail;go_region_with (go_at_call 205;refine (zFz _ _ _ HO.o.src HO.o.tt).mono ?_;rintro e w1 ⟨rfl,hb1⟩;replace hb1:=zw hb1;have HL1:Hid (zs w1 rb F xs st):=(by first|exact HR.o.below hb1|exact (HR.o.alloc _).below hb1);have HF1:Hid (Fr (·=rb) w w1):=(by first|exact (Fr.refl _ _).belowed hb1|exact ((Fr.refl _ _).alloc _).belowed hb1);obtain⟨g0,g1,g2,g3,g4,g5,g6,g7,g8,g9,g10,g11,g12,g13,g14⟩:=HL1.o.cells;have gf:=HL1.o.frozen;have hlt1:=HL1.o.lt;obtain⟨hc1,hf1⟩:=zoV hb1;simp only[Tk.val])
   all_goals go_wp2_with fail
   all_goals go_end0
   all_goals generalize zZ st.src st.t.t=T at *
   all_goals refine⟨rfl,?_,?_⟩
   all_goals first|(rw[HE.o];(try with_reducible refine zs.alloc ?_ _);with_reducible refine zs.setTok (st:=st) ?_ T;(repeat (with_reducible refine zs.setOther ?_ hne _ _));with_reducible exact HL1.o)|((repeat (first|with_reducible refine Fr.set1 ?_ _ _|with_reducible refine Fr.alloc ?_ _|with_reducible refine Fr.setNew ?_ (Nat.le_refl _) _ _));with_reducible exact HF1.o)
 . have he':((st.er:Int)==0)=false:=beq_eq_false_iff_ne.2 (by omega);have HE:Hid (st.step=st):=by unfold Hid St.step;rw[if_neg he]
   have HR:Hid (zs w rb F xs st):=hR;clear he hR hO;go_enter func147,ntmps147;go_wp2_with fail;go_end0;exact⟨rfl,by rw[HE.o];exact HR.o,Fr.refl _ _⟩
end
section
open Go.RowKit
variable {b:Nat} {w:World}
theorem zAV {fn:Func}{p:Tmp}(h:fn.results=#[.cell p 270]){tmps:Array Value}(hp:tmps[p]?.getD undef=xP b){v0 v1 v2 v3 v4:Value}(hh:w.heap[b]?=some (.cells #[v0,v1,v2,v3,v4] 270 (0,0))):(results fn tmps).run prog w=.ok (.agg #[v0,v1,v2,v3,v4]) w:=by
 have c0:w.cell? (xD b 0)=some v0:=by simp[World.cell?,hh]
 have c1:w.cell? (xD b 1)=some v1:=by simp[World.cell?,hh]
 have c2:w.cell? (xD b 2)=some v2:=by simp[World.cell?,hh]
 have c3:w.cell? (xD b 3)=some v3:=by simp[World.cell?,hh]
 have c4:w.cell? (xD b 4)=some v4:=by simp[World.cell?,hh]
 simp[results,h,hp,go_sem,c0,c1,c2,c3,c4]
theorem zAq {e:TypeId}{u0 u1 u2 u3 u4:Value}(h:xH w b #[u0,u1,u2,u3,u4] e)(v0 v1 v2 v3 v4:Value):(((((w.setCell (xD b 0) v0).setCell (xD b 1) v1).setCell (xD b 2) v2).setCell (xD b 3) v3).setCell (xD b 4) v4).heap[b]?=some (.cells #[v0,v1,v2,v3,v4] e (0,0)) :=
 zh _ _ _ _ (zh _ _ _ _ (zh _ _ _ _ (zh _ _ _ _ (zh _ _ _ _ h))))
theorem zDq (rb:Nat)(F:Fx)(xs:Rw)(st:St)(ki:Int)(k:Nat)(hk:ki=k)(s:ByteArray)(l:List UInt8)(hl:s.toList=l)(w:World)(hR:zs w rb F xs st):xK 210 #[xP rb,xI ki,.string s] w λe w'=>e=.returned (.bool (st.is k l))/\w'=w:=by subst hk hl;exact zGB rb F xs st k s w hR
theorem zzb (rb:Nat)(F:Fx)(xs:Rw)(st:St)(ei:Int)(e a:Nat)(he:ei=e)(w:World)(hR:zs w rb F xs st):xK 206 #[xP rb,xI ei,xI a] w λe' w'=>e'=.returned (.tuple #[])/\zs w' rb F xs (st.fail e a)/\Fr (·=rb) w w':=by subst he;exact zFu rb F xs st e a w hR
theorem zyc (rb:Nat)(F:Fx)(xs:Rw)(st:St)(ki:Int)(k:Nat)(hk:ki=k)(s:ByteArray)(l:List UInt8)(hl:s.toList=l)(w:World)(hO:st.Ok)(hR:zs w rb F xs st):xK 207 #[xP rb,xI ki,.string s] w λe' w'=>e'=.returned (.tuple #[])/\zs w' rb F xs (st.must k l)/\Fr (·=rb) w w':=by
 have hi:=zDq rb F xs st ki k hk s l hl w hR;have Hi:=za hi;obtain⟨h0,h1,h2,h3,h4,h5,h6,h7,h8,h9,h10,h11,h12,h13,h14⟩:=hR.cells;have HR:Hid (zs w rb F xs st):=hR;have HO:Hid st.Ok:=hO;clear hi hk hl hR hO;cases hb:st.is k l with
 | true => have HE:Hid (st.must k l=st.step):=(by unfold Hid St.must;rw[if_pos hb]);go_enter func207,ntmps207;go_wp2_with (first|(go_at_call 210;refine Hi.o.mono ?_;rintro e w' ⟨rfl,rfl⟩)|(go_at_call 147;refine (zyg rb F xs st _ HO.o HR.o).mono ?_;rintro e w1 ⟨rfl,hL1,hF1⟩;have HL1:=za hL1;have HF1:=za hF1;clear hL1 hF1));exact bodyPost_ret (results_none rfl _ _ _) rfl ⟨rfl,by rw[HE.o];exact HL1.o,HF1.o⟩
 | false => have HE:Hid (st.must k l=st.fail 2 st.t.a):=(by unfold Hid St.must;rw[if_neg (by rw[hb];simp)]);go_enter func207,ntmps207;go_wp2_with (first|(go_at_call 210;refine Hi.o.mono ?_;rintro e w' ⟨rfl,rfl⟩)|(go_at_call 206;refine (zzb rb F xs st _ 2 st.t.a rfl _ HR.o).mono ?_;rintro e w1 ⟨rfl,hL1,hF1⟩;have HL1:=za hL1;have HF1:=za hF1;clear hL1 hF1));go_end0;exact⟨rfl,by rw[HE.o];exact HL1.o,HF1.o⟩
theorem zy9 (rb:Nat)(F:Fx)(xs:Rw)(st:St)(w:World)(hO:st.Ok)(hop:st.op<100)(hR:zs w rb F xs st):xK 282 #[xP rb] w λe' w'=>e'=.returned (.tuple #[])/\zs w' rb F xs st.enter/\Fr (·=rb) w w':=by
 obtain⟨h0,h1,h2,h3,h4,h5,h6,h7,h8,h9,h10,h11,h12,h13,h14⟩:=hR.cells;have hf:=hR.frozen;have hR2:=hR.setOp (st.op+1);have hO2:=hO.opened hop;have ec:((st.op+1:Nat):Int)=(st.op:Int)+1:=by omega
 rw[ec] at hR2;have HR:Hid (zs (w.setCell (xD rb 7) (xI ((st.op:Int)+1))) rb F xs { st with op:=st.op+1 }):=hR2;have HO:=za hO2;clear hR hO hR2 hO2 ec;by_cases hb:16<st.op+1
 . have HE:Hid (st.enter=({ st with op:=st.op+1 }:St).fail 3 st.t.a):=by unfold Hid St.enter;rw[if_pos hb]
   go_enter func282,ntmps282;go_wp2_with (go_at_call 206;refine (zzb rb F xs { st with op:=st.op+1 } _ 3 st.t.a rfl _ HR.o).mono ?_;rintro e w1 ⟨rfl,hL1,hF1⟩;have HL1:=za hL1;have HF1:=za hF1;clear hL1 hF1);exact bodyPost_ret (results_none rfl _ _ _) rfl ⟨rfl,by rw[HE.o];exact HL1.o,((Fr.refl _ w).set1 _ _).trans HF1.o⟩
 . have HE:Hid (st.enter=({ st with op:=st.op+1 }:St).step):=by unfold Hid St.enter;rw[if_neg hb]
   go_enter func282,ntmps282;go_wp2_with (go_at_call 147;refine (zyg rb F xs { st with op:=st.op+1 } _ HO.o HR.o).mono ?_;rintro e w1 ⟨rfl,hL1,hF1⟩;have HL1:=za hL1;have HF1:=za hF1;clear hL1 hF1);go_end0;exact⟨rfl,by rw[HE.o];exact HL1.o,((Fr.refl _ w).set1 _ _).trans HF1.o⟩
theorem zyr (rb:Nat)(F:Fx)(xs:Rw)(st:St)(w:World)(hO:st.Ok)(hR:zs w rb F xs st):xK 208 #[xP rb] w λe' w'=>e'=.returned (.agg #[xI st.t.k,xI st.t.a,xI st.t.t,.string st.t.s,xI st.t.n])/\zs w' rb F xs st.name/\Fr (·=rb) w w':=by
 obtain⟨h0,h1,h2,h3,h4,h5,h6,h7,h8,h9,h10,h11,h12,h13,h14⟩:=hR.cells;have hlt:=hR.lt;have n1:¬w.heap.size=rb:=by omega
 have n2:¬w.heap.size+1=rb:=by omega
 have HR:=za hR;have HO:=za hO;clear hR hO;by_cases hb:st.t.k=2
 . have HE:Hid (st.name=st.step):=by unfold Hid St.name;rw[if_pos hb]
   have hb':((st.t.k:Int) != 2)=false:=(by simp;omega);clear hb;go_enter func208,ntmps208;go_wp2_with (go_at_call 147;refine (zyg rb F xs st _ HO.o ((HR.o.alloc _).alloc _)).mono ?_;rintro e w1 ⟨rfl,hL1,hF1⟩;have HL1:=za hL1;have HF1:=za hF1;obtain⟨hc1,hf1⟩:=zrw hF1;have hz1:=hF1.size;clear hL1 hF1);refine bodyPost_ret (v:=.agg #[xI st.t.k,xI st.t.a,xI st.t.t,.string st.t.s,xI st.t.n]) (zAV rfl rfl (zAq ((HF1.o.block _ (by simp;omega) n1).trans ((Below.heap_alloc _ _ _ (by simp)).trans (zc _ _))) _ _ _ _ _)) rfl ⟨rfl,?_,?_⟩
   . rw[HE.o]
     (repeat (with_reducible refine zs.setOther ?_ (Ne.symm n1) _ _));exact HL1.o
   . (repeat (with_reducible refine Fr.setNew ?_ (Nat.le_refl _) _ _));exact (((Fr.refl _ w).alloc _).alloc _).trans HF1.o
 . have HE:Hid (st.name=st.fail 2 st.t.a):=by unfold Hid St.name;rw[if_neg hb]
   have hb':((st.t.k:Int) != 2)=true:=(by simp;omega);clear hb;go_enter func208,ntmps208;go_wp2_with (go_at_call 206;refine (zzb rb F xs st _ 2 st.t.a rfl _ ((HR.o.alloc _).alloc _)).mono ?_;rintro e w1 ⟨rfl,hL1,hF1⟩;have HL1:=za hL1;have HF1:=za hF1;obtain⟨hc1,hf1⟩:=zrw hF1;have hz1:=hF1.size;clear hL1 hF1);refine bodyPost_ret (v:=.agg #[xI st.t.k,xI st.t.a,xI st.t.t,.string st.t.s,xI st.t.n]) (zAV rfl rfl (zAq ((HF1.o.block _ (by simp;omega) n1).trans ((Below.heap_alloc _ _ _ (by simp)).trans (zc _ _))) _ _ _ _ _)) rfl ⟨rfl,?_,?_⟩
   . rw[HE.o]
     (repeat (with_reducible refine zs.setOther ?_ (Ne.symm n1) _ _));exact HL1.o
   . (repeat (with_reducible refine Fr.setNew ?_ (Nat.le_refl _) _ _));exact (((Fr.refl _ w).alloc _).alloc _).trans HF1.o
end
section
open Go.RowKit
variable {a:Act} {K:Act->World->Prop} {Q:Exit->Act->World->Prop} {xs:List Value} {base n size:Nat} {o:Oper} {e:TypeId} {v:Value} {w:World}
theorem zR {base':Nat}(h:w.ownsRow base e size v n xs)(hb:base'<=base):w.ownsRow base' e size v n xs:=by
 obtain⟨h1,h2⟩:=h;refine⟨h1,?_⟩;rcases h2 with h2|⟨g,cap,cur,hv,hg,r⟩
 . exact Or.inl h2
 . exact Or.inr ⟨g,cap,cur,hv,Nat.le_trans hb hg,r⟩
theorem zi {w':World}(h:w.ownsRow base e size v n xs)(hk:∀k,base<=k->k<w.heap.size->v.ownBlock=some k->w'.heap[k]?=w.heap[k]?):w'.ownsRow base e size v n xs:=by
 obtain⟨h1,h2⟩:=h;refine⟨h1,?_⟩;rcases h2 with h2|⟨g,cap,cur,hv,hg,hh,r⟩
 . exact Or.inl h2
 . refine Or.inr ⟨g,cap,cur,hv,hg,?_,r⟩;have hlt:g<w.heap.size:=by
    rcases Nat.lt_or_ge g w.heap.size with h|h
    . exact h
    . rw[Array.getElem?_eq_none h] at hh;cases hh
   rw[hk g hg hlt (by rw[hv];rfl),hh]
theorem zN {W:World}{b:Nat}{c:Array Value}{f:Nat×Nat}{news:List Value}(h:W.heap[b]?=some (.cells c e f))(hc:c.toList=news):∀(j:Nat) (u:Value),news[j]?=some u->W.cell? (((xD b 0):Addr).add j)=some u:=by
 intro j u hj;subst hc;have e0:((xD b 0):Addr).add j=⟨b,j,none⟩:=by cases j <;> simp[Addr.add]
 rw[e0];simp[World.cell?,h];simpa using hj
theorem zM (h:w.ownsRow base e size v n xs)(hn:0<n):∃g cap,v=xS g n cap/\base<=g:=by
 rcases h.2 with ⟨_,h⟩|⟨g,cap,_,h,hb,_⟩
 . omega
 . exact⟨g,cap,h,hb⟩
theorem zD {e:Nat}(h:w.ownsRow base e size v n xs)(o:Obj):(w.alloc o).ownsRow base e size v n xs:=zi h (λk _ hk _=>Below.heap_alloc w o k hk)
section
variable {P:Program} (w:World)
theorem zha (base:Nat)(t ty e:TypeId)(i:TypeInfo)(z:Value)(size bytes:Nat)(ht:P.underlying t=some (.slice e))(hi:P.info? e=some i)(hz:i.zero=some z)
 (hsize:i.size=size) (hby:i.bytes=bytes) (hzs:z.cells.size=size) (hsz:0<size)
 (v:Value) (n:Nat) (xs:List Value) (hown:w.ownsRow base e size v n xs)
 (a:Addr) (m c:Nat) (news:List Value) (hl:news.length=m*size) (hnews:∀j u,news[j]?=some u->w.cell? (a.add j)=some u) (h1:∀u∈news,u.oneCell'=true)
 (h63:n+m<=maxLen) (hbytes:(n+m)*bytes<=140737488355328) (hbase:base<=w.heap.size) :
 ∃v' w',(Builtin.append_ #[t,t] ty #[v,.slice (some a) m c]).run P w=.ok v' w'/\w'.ownsRow base e size v' (n+m) (xs++news)/\w.grownBy w' v.ownBlock /\
  ∀k,v'.ownBlock=some k->v.ownBlock=some k∨w.heap.size<=k:=by
 rcases hown.2 with ⟨rfl,rfl⟩|⟨g,cap,cur,rfl,hbg,hg,hnc,hcm,hcs,htake⟩
 . have hx:xs=[]:=List.eq_nil_of_length_eq_zero (by simpa using hown.1);subst hx;obtain⟨v',w',hr,h2,h3,_⟩:=run_append_own (P:=P) w w.heap.size t ty e i z size bytes ht hi hz hsize hby hzs hsz _ 0 [] (World.ownsRow_nil w _ e size) a m c news hl hnews h1 h63 hbytes (Nat.le_refl _);exact⟨v',w',hr,zR h2 hbase,h3,λk hk=>Or.inr (h2.lt k hk).1⟩
 . by_cases hroom:n+m<=cap
   . obtain⟨w',hr,h2,h3⟩:=run_append_fits (P:=P) w base t ty e i size ht hi hsize g n cap xs hown a m c news hl hnews h1 hroom;exact⟨_,w',hr,h2,h3,λk hk=>Or.inl hk⟩
   . obtain⟨v',w',hr,h2,h3⟩:=run_append_arg_grows (P:=P) w t ty e i z size bytes ht hi hz hsize hby hzs hsz (xD g 0) n cap xs hown.1 (hown.cells (g:=g) rfl) a m c news hl hnews (by omega) h63 hbytes;exact⟨v',w',hr,zR h2 hbase,⟨h3.os,h3.tape,h3.output,h3.size,λk hk _=>h3.block k hk (by simp)⟩,λk hk=>Or.inr (h2.lt k hk).1⟩
theorem zfG (s x:Operand)(t:TypeId)
 (ho:o.op=.call { callee:=.builtin .append,args:=#[s,x],argTypes:=#[t,t] })
 (base:Nat) (e:TypeId) (i:TypeInfo) (z:Value) (size bytes:Nat) (ht:P.underlying t=some (.slice e)) (hi:P.info? e=some i) (hz:i.zero=some z)
 (hsize:i.size=size) (hby:i.bytes=bytes) (hzs:z.cells.size=size) (hsz:0<size)
 (v:Value) (n:Nat) (xs:List Value) (hs:a.eval s=v) (hown:w.ownsRow base e size v n xs)
 (ad:Addr) (m c:Nat) (news:List Value) (hx:a.eval x=.slice (some ad) m c) (hl:news.length=m*size) (hnews:∀j u,news[j]?=some u->w.cell? (ad.add j)=some u) (h1:∀u∈news,u.oneCell'=true)
 (h63:n+m<=maxLen) (hbytes:(n+m)*bytes<=140737488355328) (hbase:base<=w.heap.size)
 (h:∀v' w',w'.ownsRow base e size v' (n+m) (xs++news)->w.grownBy w' v.ownBlock->(∀k,v'.ownBlock=some k->v.ownBlock=some k∨w.heap.size<=k)->K (a.put o.dst v') w'):o.wp P a w K Q:=by
 obtain⟨v',w',hr,h2,h3,h4⟩:=zha (P:=P) w base t o.type e i z size bytes ht hi hz hsize hby hzs hsz v n xs hown ad m c news hl hnews h1 h63 hbytes hbase;unfold Oper.wp execOp;simp only[ho,resolve,invoke,builtin,Sem.run_bind,Sem.run_pure,Result.andThen_ok,List.map_toArray,List.map_cons,List.map_nil,hs,hx,hr];exact h v' w' h2 h3 h4
theorem zJ {ops:Array Oper}{E:Prop}
 (hg:o.guard=none) (s x:Operand) (t:TypeId) (ho:o.op=.call { callee:=.builtin .append,args:=#[s,x],argTypes:=#[t,t] })
 (base:Nat) (e:TypeId) (i:TypeInfo) (z:Value) (size bytes:Nat) (ht:P.underlying t=some (.slice e)) (hi:P.info? e=some i) (hz:i.zero=some z)
 (hsize:i.size=size) (hby:i.bytes=bytes) (hzs:z.cells.size=size) (hsz:0<size)
 (v:Value) (n:Nat) (xs:List Value) (hs:a.eval s=v) (hown:w.ownsRow base e size v n xs)
 (ad:Addr) (m c:Nat) (news:List Value) (hx:a.eval x=.slice (some ad) m c) (hl:news.length=m*size) (hnews:∀j u,news[j]?=some u->w.cell? (ad.add j)=some u) (h1:∀u∈news,u.oneCell'=true)
 (h63:n+m<=maxLen) (hbytes:(n+m)*bytes<=140737488355328) (hbase:base<=w.heap.size)
 (h:∀v' w',w'.ownsRow base e size v' (n+m) (xs++news)->w.grownBy w' v.ownBlock->(∀k,v'.ownBlock=some k->v.ownBlock=some k∨w.heap.size<=k)->K (a.put o.dst v') w') :
 if Region.wanted o (yielded ops a.tmps)=true then Oper.wp P o a w K Q else E:=by
 have hw:Region.wanted o (yielded ops a.tmps)=true:=by simp[Region.wanted,hg]
 rw[if_pos hw];exact zfG w s x t ho base e i z size bytes ht hi hz hsize hby hzs hsz v n xs hs hown ad m c news hx hl hnews h1 h63 hbytes hbase h
end
end
end Go.Proofs.YtmfkofhgdjechaaGreatDoor
