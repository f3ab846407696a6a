/- Ordered holds: for every input the law returns true, and what was handed in reads behind the call as it read before; the package-level variables hold at the beginning what the program's own text lays into them (the card ties that). -/
import Derived.Deep.Strs
import Derived.JoinedOf
import Derived.LaidHandle
import Derived.LaidLaws
import Derived.LaidMore
import Derived.OpenShut
import Derived.ProofKit
import Derived.SevenTiedAt
import Derived.Stop.Joined
import Derived.Test.YtedmpgjebafcjaaGreatDoorCards
import Derived.Test.YtedmpgjebafcjaaGreatDoorRows
import Derived.Test.YtedmpgjebafcjaaGreatDoorTie
import Derived.Test.YtedmpgjebafcjaaGreatDoorK49
set_option maxRecDepth 100000
set_option maxHeartbeats 8000000
namespace Go.Proofs.YtedmpgjebafcjaaGreatDoor
section
open Go.RowKit
theorem zmf {P:Program} {f:FuncId} {s s':ByteArray} {w:World} {Q:Ending->World->Prop} (h:s=s') (H:Calls P f #[.string s'] w Q):Calls P f #[.string s] w Q:=by subst h;exact H
def hdO:ByteArray:=⟨#[110,111,100,101,32,110,40,97,58,32,105,110,116,41,32,45,62,32,40,121,58,32,105,110,116,41,32,118,97,114,32,112,58,32,105,110,116,59,32,113,58,32,105,110,116,59,32,114,58,32,105,110,116,59,32,123]⟩
def eqO:Nat->ByteArray
 | 0=>⟨#[121,32,61,32,112,32,43,32,113,59]⟩
 | 1=>⟨#[112,32,61,32,113,32,42,32,50,32,45,32,97,59]⟩
 | 2=>⟨#[113,32,61,32,40,51,32,102,98,121,32,112,41,32,43,32,114,59]⟩
 | _=>⟨#[114,32,61,32,105,102,32,97,32,60,32,48,32,116,104,101,110,32,45,97,32,101,108,115,101,32,97,59]⟩
def zsl:ByteArray:=⟨#[125]⟩
def zsd:List Bool->Nat->Nat->Option Nat
 | [],_,_=>none
 | true::l,n,i=>zsd l n (i+1)
 | false::_,0,i=>some i
 | false::l,n+1,i=>zsd l n (i+1)
def zse (u:List Bool) (n:Nat) (s:ByteArray):List Bool×ByteArray:=match zsd u n 0 with
 | some i=>(u.set i true,s++eqO i)
 | none=>(u,s)
def zsf:Nat->Nat->List Bool->ByteArray->ByteArray
 | 0,_,_,s=>s
 | k+1,o,u,s=>zsf k (o / (k+1)) (zse u (o % (k+1)) s).1 (zse u (o % (k+1)) s).2
def txO (a b c d:Nat):ByteArray :=
 let r4:=zse [false,false,false,false] a hdO
 let r3:=zse r4.1 b r4.2
 let r2:=zse r3.1 c r3.2
 (zse r2.1 d r2.2).2++zsl
theorem zs8 (o:Nat):zsf 4 o [false,false,false,false] hdO++zsl=txO (o % 4) (o / 4 % 3) (o / 4 / 3 % 2) (o / 4 / 3 / 2 % 1):=rfl
def c2:Cd:=⟨[false],1,6,[3],3,[(0,1),(2,5),(1,0),(0,0),(14,0),(1,0),(7,0),(1,0),(5,0),(2,4),(3,0),(1,4),(16,0),(2,3),(1,3),(0,2),(18,0),(1,0),(17,0),(2,2),(1,2),(1,3),(16,0),(2,1),(1,5),(1,2),(4,0)]⟩
theorem zs9:zd9 c2.slots c2.cells.length 0 c2.row=some 0:=by decide +kernel
theorem zsU:zlZ 20 100 6 (txO 0 0 0 0) c2=true:=by decide +kernel
theorem zsO:zlZ 20 100 6 (txO 0 0 1 0) c2=true:=by decide +kernel
theorem zsM:zlZ 20 100 6 (txO 0 1 0 0) c2=true:=by decide +kernel
theorem zsY:zlZ 20 100 6 (txO 0 1 1 0) c2=true:=by decide +kernel
theorem zs0:zlZ 20 100 6 (txO 0 2 0 0) c2=true:=by decide +kernel
theorem zsP:zlZ 20 100 6 (txO 0 2 1 0) c2=true:=by decide +kernel
theorem zsK:zlZ 20 100 6 (txO 1 0 0 0) c2=true:=by decide +kernel
theorem zsT:zlZ 20 100 6 (txO 1 0 1 0) c2=true:=by decide +kernel
theorem zsV:zlZ 20 100 6 (txO 1 1 0 0) c2=true:=by decide +kernel
theorem zs1:zlZ 20 100 6 (txO 1 1 1 0) c2=true:=by decide +kernel
theorem zsQ:zlZ 20 100 6 (txO 1 2 0 0) c2=true:=by decide +kernel
theorem zs6:zlZ 20 100 6 (txO 1 2 1 0) c2=true:=by decide +kernel
theorem zs3:zlZ 20 100 6 (txO 2 0 0 0) c2=true:=by decide +kernel
theorem zsS:zlZ 20 100 6 (txO 2 0 1 0) c2=true:=by decide +kernel
theorem zsX:zlZ 20 100 6 (txO 2 1 0 0) c2=true:=by decide +kernel
theorem zs5:zlZ 20 100 6 (txO 2 1 1 0) c2=true:=by decide +kernel
theorem zs2:zlZ 20 100 6 (txO 2 2 0 0) c2=true:=by decide +kernel
theorem zsW:zlZ 20 100 6 (txO 2 2 1 0) c2=true:=by decide +kernel
theorem zsI:zlZ 20 100 6 (txO 3 0 0 0) c2=true:=by decide +kernel
theorem zs4:zlZ 20 100 6 (txO 3 0 1 0) c2=true:=by decide +kernel
theorem zsN:zlZ 20 100 6 (txO 3 1 0 0) c2=true:=by decide +kernel
theorem zsZ:zlZ 20 100 6 (txO 3 1 1 0) c2=true:=by decide +kernel
theorem zsR:zlZ 20 100 6 (txO 3 2 0 0) c2=true:=by decide +kernel
theorem zsJ:zlZ 20 100 6 (txO 3 2 1 0) c2=true:=by decide +kernel
theorem zsF {s:ByteArray} (h:zlZ 20 100 6 s c2=true):zlL s c2:=by
 obtain⟨K,h1,h2⟩:=zpq h
 exact zpN (by decide) (by decide) h1 h2 ⟨by decide,by decide,by decide,by decide,by decide⟩ zs9
theorem zs7 (a b c d:Nat) (ha:a<4) (hb:b<3) (hc:c<2) (hd:d<1):zlL (txO a b c d) c2:=by
 obtain rfl:d=0:=by omega
 apply zsF
 rcases a with _|_|_|_|a
 · rcases b with _|_|_|b
   · rcases c with _|_|c
     · exact zsU
     · exact zsO
     · omega
   · rcases c with _|_|c
     · exact zsM
     · exact zsY
     · omega
   · rcases c with _|_|c
     · exact zs0
     · exact zsP
     · omega
   · omega
 · rcases b with _|_|_|b
   · rcases c with _|_|c
     · exact zsK
     · exact zsT
     · omega
   · rcases c with _|_|c
     · exact zsV
     · exact zs1
     · omega
   · rcases c with _|_|c
     · exact zsQ
     · exact zs6
     · omega
   · omega
 · rcases b with _|_|_|b
   · rcases c with _|_|c
     · exact zs3
     · exact zsS
     · omega
   · rcases c with _|_|c
     · exact zsX
     · exact zs5
     · omega
   · rcases c with _|_|c
     · exact zs2
     · exact zsW
     · omega
   · omega
 · rcases b with _|_|_|b
   · rcases c with _|_|c
     · exact zsI
     · exact zs4
     · omega
   · rcases c with _|_|c
     · exact zsN
     · exact zsZ
     · omega
   · rcases c with _|_|c
     · exact zsR
     · exact zsJ
     · omega
   · omega
 · omega
theorem zsr (o:Nat):zlL (zsf 4 o [false,false,false,false] hdO++zsl) c2:=by
 rw[zs8]
 exact zs7 _ _ _ _ (Nat.mod_lt _ (by decide)) (Nat.mod_lt _ (by decide)) (Nat.mod_lt _ (by decide)) (Nat.mod_lt _ (by decide))
def rO (a:Int):Int:=pk (tru (decide (a<0))) (wrap64 (-a)) a
def qO (P a:Int):Int:=wrap64 (P+rO a)
def pO (P a:Int):Int:=wrap64 (wrap64 (qO P a*2)-a)
theorem zsG (P a:Int):(zbm c2 [P] [a]).cells=[pO P a]/\zcX c2 (zbm c2 [P] [a])=[wrap64 (pO P a+qO P a)]:=⟨by kernel_rfl,by kernel_rfl⟩
theorem zsC {a:Int} (h:a<0):rO a=wrap64 (-a):=by unfold rO;rw[decide_eq_true h];rfl
theorem zsE {a:Int} (h:¬a<0):rO a=a:=by unfold rO;rw[decide_eq_false h];rfl
theorem zta (S:Nat->Addr) (m:Ma) (sv:Value) (c:Cd) (cells slots:List Int) (w:World) (v:Value) (g:Nat) (l:List Int) (y:Int) (hG:Gl S w) (h:MM w m sv c cells slots) (hl:Nm w v g l) (hg2:l≠[]->g≠m.b2) (hr:zdE c.bools l=none) (hfit:zd9 c.slots c.cells.length 0 c.row=some 0) (h1:c.outs=1) (hy:zcX c (zbm c cells l)=[y]) :
 Calls Tryz.prog 11 #[.pointer (some ⟨m.M,0,none⟩),v] w (λe w'=>∃sv',e=.returned (.tuple #[.int .i64 y,.bool true])/\MM w' m sv' c (zbm c cells l).cells (zbm c cells l).slots/\Fr (λj=>m.N<=j) w w'):=by
 have HSt:=za (zp7 S m sv c cells slots w v g l hG h hl hg2 hr hfit)
 rw[h1,hy] at HSt
 clear hG h hl hg2 hr hfit h1 hy
 generalize zbm c cells l=R at *
 go_enter Tryz.func11,Tryz.ntmps11
 go_wp2_with (go_at_call 8;refine HSt.out.mono ?_;rintro e w1 ⟨ob,sv',rfl,q1,q2,q3,q4⟩;have q5:w1.heap[ob]?=some (.cells #[.int .i64 y] 2 (0,0)):=q2;obtain⟨o0,of,oz⟩:=zu q5;have Q3:=za q3;have Q4:=za q4;clear q2 q3 q4 q5)
 refine bodyPost_ret (v:=.tuple #[.int .i64 y,.bool true]) (by simp[results,Tryz.results11,go_sem]) rfl ⟨sv',rfl,Q3.out,Q4.out⟩
def zsk:Obj:=.cells #[.string (eqO 0),.string (eqO 1),.string (eqO 2),.string (eqO 3)] 36 (0,0)
def zsg (u:List Bool):Obj:=.cells (u.map Value.bool).toArray 37 (0,0)
theorem zso {w:World} {b:Nat} {u:List Bool} (h:w.heap[b]?=some (zsg u)) {i:Nat} {x:Bool} (hx:u[i]?=some x):w.cell? ⟨b,i,none⟩=some (.bool x):=by
 simp[World.cell?,h,zsg,hx]
theorem zsj {w:World} {b:Nat} {u:List Bool} (h:w.heap[b]?=some (zsg u)) (i:Nat):w.frozen? ⟨b,i,none⟩=false:=by
 simp[World.frozen?,h,zsg]
theorem zsu {w:World} {b:Nat} {u:List Bool} (h:w.heap[b]?=some (zsg u)) (i:Nat):(w.setCell ⟨b,i,none⟩ (.bool true)).heap[b]?=some (zsg (u.set i true)):=by
 rw[zh w b i _ h]
 simp[zsg,List.map_set]
theorem zsq {w:World} {b:Nat} (h:w.heap[b]?=some zsk) {i:Nat} (hi:i<4):w.cell? ⟨b,i,none⟩=some (.string (eqO i)):=by
 rcases i with _|_|_|_|i
 · simp[World.cell?,h,zsk]
 · simp[World.cell?,h,zsk]
 · simp[World.cell?,h,zsk]
 · simp[World.cell?,h,zsk]
 · omega
theorem zsA (i:Nat):(eqO i).size<=28:=by
 rcases i with _|_|_|i
 · decide
 · decide
 · decide
 · show (eqO 3).size<=28;decide
theorem zst {kk n i:Nat} {u:List Bool} {t:ByteArray} (hk:0<kk) (hf:zsd u (n % kk) 0=some i):zsf kk n u t=zsf (kk-1) (n / kk) (u.set i true) (t++eqO i):=by
 obtain⟨p,rfl⟩:∃p,kk=p+1:=⟨kk-1,by omega⟩
 show zsf p (n / (p+1)) (zse u (n % (p+1)) t).1 (zse u (n % (p+1)) t).2=_
 unfold zse
 rw[hf]
 rfl
theorem zsy {kk n:Nat} {u:List Bool} {t:ByteArray} (hk:0<kk) (hf:zsd u (n % kk) 0=none):zsf kk n u t=zsf (kk-1) (n / kk) u t:=by
 obtain⟨p,rfl⟩:∃p,kk=p+1:=⟨kk-1,by omega⟩
 show zsf p (n / (p+1)) (zse u (n % (p+1)) t).1 (zse u (n % (p+1)) t).2=_
 unfold zse
 rw[hf]
 rfl
theorem zsx {n kk:Nat} (hn:n<=9223372036854775807):wrap64 ((n:Int) / (kk:Int))=((n / kk:Nat):Int):=by
 rw[<- Int.natCast_ediv]
 have:=Nat.le_trans (Nat.div_le_self n kk) hn
 generalize n / kk=d at *
 unfold wrap64
 omega
theorem zsi (w:World) (a:Int) (t:TypeId):Nm (w.alloc (.cells #[.int .i64 a] t)) (.slice (some ⟨w.heap.size,0,none⟩) 1 1) w.heap.size [a]:=by
 refine⟨some ⟨w.heap.size,0,none⟩,1,rfl,Nat.le_refl _,by decide,λ_=>⟨0,rfl,λj x hj=>?_⟩⟩
 obtain⟨c0,_,_⟩:=zu (zc w (.cells #[.int .i64 a] t))
 rcases j with _|j
 · simp at hj;subst hj;exact c0
 · simp at hj
theorem zsH (a:Int):zdE c2.bools [a]=none:=rfl
theorem zsD (S:Nat->Addr) (m:Ma) (sv:Value) (P a:Int) (slots:List Int) (w:World) (v:Value) (g:Nat) (hG:Gl S w) (h:MM w m sv c2 [P] slots) (hl:Nm w v g [a]) (hg2:g≠m.b2) :
 Calls Tryz.prog 11 #[.pointer (some ⟨m.M,0,none⟩),v] w (λe w'=>∃sv' slots',e=.returned (.tuple #[.int .i64 (wrap64 (pO P a+qO P a)),.bool true])/\MM w' m sv' c2 [pO P a] slots'/\Fr (λj=>m.N<=j) w w'):=by
 have hs:=zta S m sv c2 [P] slots w v g [a] _ hG h hl (λ_=>hg2) (zsH a) zs9 rfl (zsG P a).2
 have he:=(zsG P a).1
 obtain⟨R,hR⟩:∃R,zbm c2 [P] [a]=R:=⟨_,rfl⟩
 rw[hR] at hs he
 refine hs.mono ?_
 rintro e w' ⟨sv',rfl,q3,q4⟩
 rw[he] at q3
 exact⟨sv',R.slots,rfl,q3,q4⟩
theorem zsn {u:List Bool} {n i:Nat} {x:Bool} (h:u[i]?=some x):zsd (u.drop i) n i=match x,n with
 | true,n=>zsd (u.drop (i+1)) n (i+1)
 | false,0=>some i
 | false,n+1=>zsd (u.drop (i+1)) n (i+1):=by
 have hlt:=(List.getElem?_eq_some_iff.1 h).1
 have he:=(List.getElem?_eq_some_iff.1 h).2
 rw[List.drop_eq_getElem_cons hlt,he]
 cases x <;> cases n <;> rfl
theorem zsL (S:Nat->Addr) (o:Int) (v2:Value) (ins:List Int) (w:World) (ho:-9223372036854775808<=o/\o<=9223372036854775807) (hG:Gl S w) (hop:zbt w) (hS:zbW w) (h2:Ar w w.heap.size v2 ins) :
 Calls Tryz.prog 5 #[.int .i64 o,v2] w (λe w'=>e=.returned (.bool true)/\Below w.heap.size w w'):=by
 obtain⟨a2,cp2,rfl,hl2,hc2⟩:=h2.ex
 have H2:=za h2
 have HG:=za hG
 have Hop:=za hop
 have HS:=za hS
 have Hw2:=za h2.wf
 have h21:=hG.size
 obtain⟨ho1,ho2⟩:=ho
 clear h2 hc2 hG hop hS
 go_enter Tryz.func5,Tryz.ntmps5
 have hwa:o<0->IntKind.i64.wrap (o+1)=o+1:=λh=>by rw[IntKind.wrap_i64];omega
 have hwb:o<0->IntKind.i64.wrap (-(o+1))=-(o+1):=λh=>by rw[IntKind.wrap_i64];omega
 by_cases hneg:o<0
 · obtain⟨n0,hn0⟩:∃n:Nat,-(o+1)=(n:Int):=⟨(-(o+1)).toNat,by omega⟩
   have hwa:=hwa hneg
   have hwb:=hwb hneg
   have hb0:n0<=9223372036854775807:=by omega
   rw[hn0] at hwb
   go_upto_region 7 with fail
   go_loopg [0,6,8] 5 (λj x s k wr=>∃(kk n:Nat) (u:List Bool) (t:ByteArray),j=kk+1/\kk<=4/\n<=9223372036854775807/\x=.int .i64 n/\s=.string t/\k=.int .i64 kk/\Hid (u.length=4)/\t.size+kk*28<=200/\Hid (zsf kk n u t=zsf 4 n0 [false,false,false,false] hdO)/\Hid (wr.heap[w.heap.size]?=some zsk)/\Hid (wr.heap[w.heap.size+1]?=some (zsg u))/\Hid (Below w.heap.size w wr))
   case atStart =>
    refine⟨4,n0,[false,false,false,false],hdO,rfl,Nat.le_refl _,hb0,rfl,rfl,rfl,rfl,by decide,rfl,?_,?_,?_⟩
    · exact (al2 w _ _).1
    · exact (al2 w _ _).2
    · exact zaD w _ _
   case round =>
    obtain⟨kk,n,u,t,rfl,hk4,hn,rfl,rfl,rfl,Hu,hts,HR,He,HU,HB⟩:=hrel
    have hzr:=HB.out.size
    rcases Nat.eq_zero_or_pos kk with hq|hq
    · subst hq
      have ht:t=zsf 4 n0 [false,false,false,false] hdO:=HR.out
      have HT:=za ht
      have HMa:=za (zkS S (t++zsl) c2 (ht▸zsr n0) wr (HG.out.of (T:=λ_=>False) (Fr.of_below HB.out) (λ_ e=>e.elim)) (Hop.out.old (zm HB.out (Nat.le_refl _)) h21) (HS.out.old (zm HB.out (Nat.le_refl _)) h21))
      clear ht HR HT He HU Hu
      have hz0:¬(0:Int)<((0:Nat):Int):=by decide
      go_wp2_with (go_at_call 6;refine zmf (s':=t++zsl) rfl ?_;refine HMa.out.mono ?_;rintro e w1 ⟨m,sv,rfl,hM,hN,hB⟩;have hz1:=hB.size;have HBz:=za hzr;have HM:=za hM;have HB1:=za (HB.out.trans (hB.mono hzr));clear hM hB)
      clear HMa HB hzr
      obtain⟨wp,rfl⟩:∃wp,wp=wr:=⟨_,rfl⟩
      have hN2:w.heap.size<=m.N:=Nat.le_trans HBz.out hN
      go_loopg [12,13] (ins.length+1) (λj p i wi=>∃(k:Nat) (P:Int) (sv':Value) (slots:List Int),k+j=ins.length+1/\k<=ins.length/\i=.int .i64 k/\p=.int .i64 P/\Hid (MM wi m sv' c2 [P] slots)/\Hid (Below w.heap.size w wi))
      case atStart=>exact⟨0,3,sv,_,by omega,Nat.zero_le _,rfl,rfl,HM.out,HB1.out⟩
      case round =>
       obtain⟨k,P,sv',slots,hk,hkl,rfl,rfl,HMr,HBr⟩:=hrel
       have hzr:=HBr.out.size
       have Hx2:=za (H2.out.fr (zm HBr.out (Nat.le_refl _)))
       clear HM HB1
       by_cases hlt:k<ins.length
       · obtain⟨a,hxa⟩:∃x,ins[k]?=some x:=⟨_,zsc hlt⟩
         obtain⟨_,_,ev1,_,hcell1⟩:=Hx2.out.ex
         cases ev1
         obtain⟨g1,o1,rfl,hg1,hcl1⟩:=hcell1 (by intro e;rw[e] at hxa;simp at hxa)
         have hc1:=hcl1 k a hxa
         have hG2:Gl S wr:=HG.out.of (T:=λ_=>False) (Fr.of_below HBr.out) (λ_ e=>e.elim)
         have HGb:=za (λo:Obj=>hG2.of (T:=λ_=>False) ((Fr.refl _ wr).alloc o) (λ_ e=>e.elim))
         have hb2:wr.heap.size≠m.b2:=by have:=HMr.out.mc.mem.lt.2.2.1;omega
         have HOne:=za (λo:Obj=>λhn=>zsD S m sv' P a slots (wr.alloc o) (.slice (some ⟨wr.heap.size,0,none⟩) 1 1) wr.heap.size (HGb.out o) (HMr.out.keep (zq wr o)) hn hb2)
         clear hcl1 hcell1 hxa hG2
         by_cases ha:a<0
         · have eq:qO P a=wrap64 (P+wrap64 (-a)):=by unfold qO;rw[zsC ha]
           have ep:pO P a=wrap64 (wrap64 (wrap64 (P+wrap64 (-a))*2)-a):=by unfold pO;rw[eq]
           rw[eq,ep] at HOne
           clear eq ep
           go_wp2_with (go_at_call 11;refine (HOne.out _ (zsi wr a _)).mono ?_;rintro e w2 ⟨sv2,sl2,rfl,q3,q4⟩;have Q3:=za q3;have Q4:=za (HBr.out.trans ((((Fr.refl (λj=>m.N<=j) wr).alloc _).trans q4).below (B:=w.heap.size) hzr (λj e=>Nat.le_trans hN2 e)));clear q3 q4)
           go_roundg (gk-1)
           case measure=>omega
           exact⟨k+1,_,sv2,sl2,by omega,by omega,by go_num,rfl,Q3.out,Q4.out⟩
         · have eq:qO P a=wrap64 (P+a):=by unfold qO;rw[zsE ha]
           have ep:pO P a=wrap64 (wrap64 (wrap64 (P+a)*2)-a):=by unfold pO;rw[eq]
           rw[eq,ep] at HOne
           clear eq ep
           go_wp2_with (go_at_call 11;refine (HOne.out _ (zsi wr a _)).mono ?_;rintro e w2 ⟨sv2,sl2,rfl,q3,q4⟩;have Q3:=za q3;have Q4:=za (HBr.out.trans ((((Fr.refl (λj=>m.N<=j) wr).alloc _).trans q4).below (B:=w.heap.size) hzr (λj e=>Nat.le_trans hN2 e)));clear q3 q4)
           go_roundg (gk-1)
           case measure=>omega
           exact⟨k+1,_,sv2,sl2,by omega,by omega,by go_num,rfl,Q3.out,Q4.out⟩
       · go_wp2_with fail
         go_ret
         exact⟨rfl,HBr.out⟩
    · have hq0:¬kk=0:=by omega
      have hq1:¬(kk:Int)=0:=by omega
      have hmod:n % kk<kk:=Nat.mod_lt _ hq
      have hdiv:n / kk<=9223372036854775807:=Nat.le_trans (Nat.div_le_self _ _) hn
      have HDw:=za (zsx (kk:=kk) hn)
      go_upto_region 12 with fail
      obtain⟨wo,rfl⟩:∃wo,wo=wr:=⟨_,rfl⟩
      go_loopg [6,9,10] 5 (λj s a i wi=>∃(ii aa:Nat),ii+j=5/\ii<=4/\aa<=4/\s=.string t/\a=.int .i64 aa/\i=.int .i64 ii/\wi=wo/\Hid (zsd (u.drop ii) aa ii=zsd u (n % kk) 0))
      case atStart=>exact⟨0,n % kk,rfl,Nat.zero_le _,by omega,rfl,by rw[Int.natCast_emod],rfl,rfl,rfl⟩
      case round =>
       obtain⟨ii,aa,hii,hi4,ha4,rfl,rfl,rfl,rfl,HF⟩:=hrel
       by_cases hlt:ii<4
       · obtain⟨x,hx⟩:∃x,u[ii]?=some x:=⟨_,zsc (by have:=Hu.out;omega)⟩
         have hcu:=zso HU.out hx
         have hfu:=zsj HU.out
         have hce:=zsq He.out hlt
         have hi0:(0:Int)<=(ii:Int):=by omega
         have hi5:(ii:Int)<4:=by omega
         have HFd:=za (zsn (n:=aa) hx)
         cases x with
         | true =>
           go_wp2_with fail
           go_roundg (gk-1)
           case measure=>omega
           exact⟨ii+1,aa,by omega,by omega,ha4,rfl,rfl,by go_num,rfl,HFd.out.symm.trans HF.out⟩
         | false =>
           rcases Nat.eq_zero_or_pos aa with hz|hz
           · subst hz
             have hes:=zsA ii
             go_wp2_with fail
             go_roundg kk
             case measure=>omega
             have hff:zsd u (n % kk) 0=some ii:=HF.out.symm.trans HFd.out
             refine⟨kk-1,n / kk,u.set ii true,t++eqO ii,by omega,by omega,hdiv,by rw[HDw.out],rfl,by go_num,?_,?_,(zst hq hff).symm.trans HR.out,zr (by omega) He.out,zsu HU.out ii,zC HB.out (by omega) _⟩
             · show (u.set ii true).length=4;rw[List.length_set];exact Hu.out
             · rw[ByteArray.size_append];omega
           · have hz0:¬(aa:Int)=0:=by omega
             go_wp2_with fail
             go_roundg (gk-1)
             case measure=>omega
             obtain⟨a',rfl⟩:∃a',aa=a'+1:=⟨aa-1,by omega⟩
             exact⟨ii+1,a',by omega,by omega,by omega,rfl,by go_num,by go_num,rfl,HFd.out.symm.trans HF.out⟩
       · go_wp2_with fail
         go_roundg kk
         case measure=>omega
         have hff:zsd u (n % kk) 0=none:=by
          rw[<- HF.out,List.drop_eq_nil_of_le (by have:=Hu.out;omega)];rfl
         exact⟨kk-1,n / kk,u,t,by omega,by omega,hdiv,by rw[HDw.out],rfl,by go_num,Hu.out,by omega,(zsy hq hff).symm.trans HR.out,He.out,HU.out,HB.out⟩
 · obtain⟨n0,rfl⟩:∃n:Nat,o=(n:Int):=⟨o.toNat,by omega⟩
   have hb0:n0<=9223372036854775807:=by omega
   clear hwa hwb
   go_upto_region 7 with fail
   go_loopg [0,6,8] 5 (λj x s k wr=>∃(kk n:Nat) (u:List Bool) (t:ByteArray),j=kk+1/\kk<=4/\n<=9223372036854775807/\x=.int .i64 n/\s=.string t/\k=.int .i64 kk/\Hid (u.length=4)/\t.size+kk*28<=200/\Hid (zsf kk n u t=zsf 4 n0 [false,false,false,false] hdO)/\Hid (wr.heap[w.heap.size]?=some zsk)/\Hid (wr.heap[w.heap.size+1]?=some (zsg u))/\Hid (Below w.heap.size w wr))
   case atStart =>
    refine⟨4,n0,[false,false,false,false],hdO,rfl,Nat.le_refl _,hb0,rfl,rfl,rfl,rfl,by decide,rfl,?_,?_,?_⟩
    · exact (al2 w _ _).1
    · exact (al2 w _ _).2
    · exact zaD w _ _
   case round =>
    obtain⟨kk,n,u,t,rfl,hk4,hn,rfl,rfl,rfl,Hu,hts,HR,He,HU,HB⟩:=hrel
    have hzr:=HB.out.size
    rcases Nat.eq_zero_or_pos kk with hq|hq
    · subst hq
      have ht:t=zsf 4 n0 [false,false,false,false] hdO:=HR.out
      have HT:=za ht
      have HMa:=za (zkS S (t++zsl) c2 (ht▸zsr n0) wr (HG.out.of (T:=λ_=>False) (Fr.of_below HB.out) (λ_ e=>e.elim)) (Hop.out.old (zm HB.out (Nat.le_refl _)) h21) (HS.out.old (zm HB.out (Nat.le_refl _)) h21))
      clear ht HR HT He HU Hu
      have hz0:¬(0:Int)<((0:Nat):Int):=by decide
      go_wp2_with (go_at_call 6;refine zmf (s':=t++zsl) rfl ?_;refine HMa.out.mono ?_;rintro e w1 ⟨m,sv,rfl,hM,hN,hB⟩;have hz1:=hB.size;have HBz:=za hzr;have HM:=za hM;have HB1:=za (HB.out.trans (hB.mono hzr));clear hM hB)
      clear HMa HB hzr
      obtain⟨wp,rfl⟩:∃wp,wp=wr:=⟨_,rfl⟩
      have hN2:w.heap.size<=m.N:=Nat.le_trans HBz.out hN
      go_loopg [12,13] (ins.length+1) (λj p i wi=>∃(k:Nat) (P:Int) (sv':Value) (slots:List Int),k+j=ins.length+1/\k<=ins.length/\i=.int .i64 k/\p=.int .i64 P/\Hid (MM wi m sv' c2 [P] slots)/\Hid (Below w.heap.size w wi))
      case atStart=>exact⟨0,3,sv,_,by omega,Nat.zero_le _,rfl,rfl,HM.out,HB1.out⟩
      case round =>
       obtain⟨k,P,sv',slots,hk,hkl,rfl,rfl,HMr,HBr⟩:=hrel
       have hzr:=HBr.out.size
       have Hx2:=za (H2.out.fr (zm HBr.out (Nat.le_refl _)))
       clear HM HB1
       by_cases hlt:k<ins.length
       · obtain⟨a,hxa⟩:∃x,ins[k]?=some x:=⟨_,zsc hlt⟩
         obtain⟨_,_,ev1,_,hcell1⟩:=Hx2.out.ex
         cases ev1
         obtain⟨g1,o1,rfl,hg1,hcl1⟩:=hcell1 (by intro e;rw[e] at hxa;simp at hxa)
         have hc1:=hcl1 k a hxa
         have hG2:Gl S wr:=HG.out.of (T:=λ_=>False) (Fr.of_below HBr.out) (λ_ e=>e.elim)
         have HGb:=za (λo:Obj=>hG2.of (T:=λ_=>False) ((Fr.refl _ wr).alloc o) (λ_ e=>e.elim))
         have hb2:wr.heap.size≠m.b2:=by have:=HMr.out.mc.mem.lt.2.2.1;omega
         have HOne:=za (λo:Obj=>λhn=>zsD S m sv' P a slots (wr.alloc o) (.slice (some ⟨wr.heap.size,0,none⟩) 1 1) wr.heap.size (HGb.out o) (HMr.out.keep (zq wr o)) hn hb2)
         clear hcl1 hcell1 hxa hG2
         by_cases ha:a<0
         · have eq:qO P a=wrap64 (P+wrap64 (-a)):=by unfold qO;rw[zsC ha]
           have ep:pO P a=wrap64 (wrap64 (wrap64 (P+wrap64 (-a))*2)-a):=by unfold pO;rw[eq]
           rw[eq,ep] at HOne
           clear eq ep
           go_wp2_with (go_at_call 11;refine (HOne.out _ (zsi wr a _)).mono ?_;rintro e w2 ⟨sv2,sl2,rfl,q3,q4⟩;have Q3:=za q3;have Q4:=za (HBr.out.trans ((((Fr.refl (λj=>m.N<=j) wr).alloc _).trans q4).below (B:=w.heap.size) hzr (λj e=>Nat.le_trans hN2 e)));clear q3 q4)
           go_roundg (gk-1)
           case measure=>omega
           exact⟨k+1,_,sv2,sl2,by omega,by omega,by go_num,rfl,Q3.out,Q4.out⟩
         · have eq:qO P a=wrap64 (P+a):=by unfold qO;rw[zsE ha]
           have ep:pO P a=wrap64 (wrap64 (wrap64 (P+a)*2)-a):=by unfold pO;rw[eq]
           rw[eq,ep] at HOne
           clear eq ep
           go_wp2_with (go_at_call 11;refine (HOne.out _ (zsi wr a _)).mono ?_;rintro e w2 ⟨sv2,sl2,rfl,q3,q4⟩;have Q3:=za q3;have Q4:=za (HBr.out.trans ((((Fr.refl (λj=>m.N<=j) wr).alloc _).trans q4).below (B:=w.heap.size) hzr (λj e=>Nat.le_trans hN2 e)));clear q3 q4)
           go_roundg (gk-1)
           case measure=>omega
           exact⟨k+1,_,sv2,sl2,by omega,by omega,by go_num,rfl,Q3.out,Q4.out⟩
       · go_wp2_with fail
         go_ret
         exact⟨rfl,HBr.out⟩
    · have hq0:¬kk=0:=by omega
      have hq1:¬(kk:Int)=0:=by omega
      have hmod:n % kk<kk:=Nat.mod_lt _ hq
      have hdiv:n / kk<=9223372036854775807:=Nat.le_trans (Nat.div_le_self _ _) hn
      have HDw:=za (zsx (kk:=kk) hn)
      go_upto_region 12 with fail
      obtain⟨wo,rfl⟩:∃wo,wo=wr:=⟨_,rfl⟩
      go_loopg [6,9,10] 5 (λj s a i wi=>∃(ii aa:Nat),ii+j=5/\ii<=4/\aa<=4/\s=.string t/\a=.int .i64 aa/\i=.int .i64 ii/\wi=wo/\Hid (zsd (u.drop ii) aa ii=zsd u (n % kk) 0))
      case atStart=>exact⟨0,n % kk,rfl,Nat.zero_le _,by omega,rfl,by rw[Int.natCast_emod],rfl,rfl,rfl⟩
      case round =>
       obtain⟨ii,aa,hii,hi4,ha4,rfl,rfl,rfl,rfl,HF⟩:=hrel
       by_cases hlt:ii<4
       · obtain⟨x,hx⟩:∃x,u[ii]?=some x:=⟨_,zsc (by have:=Hu.out;omega)⟩
         have hcu:=zso HU.out hx
         have hfu:=zsj HU.out
         have hce:=zsq He.out hlt
         have hi0:(0:Int)<=(ii:Int):=by omega
         have hi5:(ii:Int)<4:=by omega
         have HFd:=za (zsn (n:=aa) hx)
         cases x with
         | true =>
           go_wp2_with fail
           go_roundg (gk-1)
           case measure=>omega
           exact⟨ii+1,aa,by omega,by omega,ha4,rfl,rfl,by go_num,rfl,HFd.out.symm.trans HF.out⟩
         | false =>
           rcases Nat.eq_zero_or_pos aa with hz|hz
           · subst hz
             have hes:=zsA ii
             go_wp2_with fail
             go_roundg kk
             case measure=>omega
             have hff:zsd u (n % kk) 0=some ii:=HF.out.symm.trans HFd.out
             refine⟨kk-1,n / kk,u.set ii true,t++eqO ii,by omega,by omega,hdiv,by rw[HDw.out],rfl,by go_num,?_,?_,(zst hq hff).symm.trans HR.out,zr (by omega) He.out,zsu HU.out ii,zC HB.out (by omega) _⟩
             · show (u.set ii true).length=4;rw[List.length_set];exact Hu.out
             · rw[ByteArray.size_append];omega
           · have hz0:¬(aa:Int)=0:=by omega
             go_wp2_with fail
             go_roundg (gk-1)
             case measure=>omega
             obtain⟨a',rfl⟩:∃a',aa=a'+1:=⟨aa-1,by omega⟩
             exact⟨ii+1,a',by omega,by omega,by omega,rfl,by go_num,by go_num,rfl,HFd.out.symm.trans HF.out⟩
       · go_wp2_with fail
         go_roundg kk
         case measure=>omega
         have hff:zsd u (n % kk) 0=none:=by
          rw[<- HF.out,List.drop_eq_nil_of_le (by have:=Hu.out;omega)];rfl
         exact⟨kk-1,n / kk,u,t,by omega,by omega,hdiv,by rw[HDw.out],rfl,by go_num,Hu.out,by omega,(zsy hq hff).symm.trans HR.out,He.out,HU.out,HB.out⟩
end
section
open Go.ChangeShapes Go.WideShapes Go.ChangeAt Go.RowKit
theorem zhU {P:Program} {w:World}:∀{l:List (String×DataW Unit)} {ps:List MemPlace},DataW.LaidVars P w l ps->∀{k:Nat} {n:String} {d:DataW Unit},l[k]?=some (n,d)->∃g t cs fuel p,P.globalNamed n=some g/\(P.globals[g]?).map (·.type)=some t/\w.var? P n=some cs/\DataW.trod (λ_=>()) P w 0 (λ_=>true) false fuel t cs.toList=some (d,p)/\∀x∈MemPlace.row ⟨g,0,none⟩ cs.size,x∈ps:=by
 intro l
 induction l with
 | nil=>intro ps _ k n d hk;simp at hk
 | cons x l ih =>
   obtain⟨n0,d0⟩:=x
   rintro ps ⟨g,t,cs,fuel,p,q,h1,h2,h3,h4,h5,h6⟩ k n d hk
   cases k with
   | zero =>
     simp at hk
     obtain⟨rfl,rfl⟩:=hk
     exact⟨g,t,cs,fuel,p,h1,h2,h3,h4,λx hx=>by rw[h6];simp[hx]⟩
   | succ k =>
     obtain⟨g',t',cs',fuel',p',e1,e2,e3,e4,e5⟩:=ih h5 (k:=k) (by simpa using hk)
     exact⟨g',t',cs',fuel',p',e1,e2,e3,e4,λx hx=>by rw[h6];simp[e5 x hx]⟩
theorem Tryz.star: "*"++ "errors.errorString"= "*errors.errorString":=by decide
theorem Tryz.rowErr (u:TypeId) (h:Tryz.prog.typeName? 3 u=some "*errors.errorString"):u=293 :=
 typeName_ptr_named (nm:= "errors.errorString") (by rw[Tryz.star];kernel_rfl) (by kernel_rfl) (by decide) u (by rw[Tryz.star];exact h)
theorem Tryz.cellsErr:Tryz.prog.cellsOf 295=1:=by kernel_rfl
theorem Tryz.cellsStr:Tryz.prog.cellsOf 9=1:=by kernel_rfl
theorem zcl {W:World} {l:List (String×DataW Unit)} (h:laidMet Tryz.prog l W) {k g:Nat} {n:String} {text:List UInt8} (hk:l[k]?=some (n,.iface "*errors.errorString" (.ptr (.agg [.lit (.string text)])))) (hg:Tryz.prog.globalNamed n=some g) (ht:(Tryz.prog.globals[g]?).map (·.type)=some 43) :
 ∃a,W.cell? ⟨g,0,none⟩=some (.iface 293 (.pointer (some a))):=by
 obtain⟨ps,hL,_,hrows⟩:=h
 obtain⟨g',t,cs,fuel,p,e1,e2,e3,e4,e5⟩:=zhU hL hk
 obtain rfl:=Option.some.inj (hg.symm.trans e1)
 obtain rfl:=Option.some.inj (ht.symm.trans e2)
 obtain⟨l0⟩:=cs
 have ok:∀u v,l0=[.iface u v]->Value.okWide Tryz.prog W .any 0 u v:=λu v e=>by
  subst e
  exact (hrows g 0 (e5 _ (by simp[MemPlace.row]))).2 u v (by simpa using World.var?_cell e1 e3 0)
 obtain⟨a,s,rfl,_⟩:=errorString_of_trod Tryz.underlying43 Tryz.rowErr Tryz.underlying293 Tryz.underlying295 rfl rfl Tryz.underlying9 Tryz.cellsErr Tryz.cellsStr e4 ok
 exact⟨a,by simpa using World.var?_cell e1 e3 0⟩
theorem zjE {W:World} {l:List (String×DataW Unit)} (h:laidMet Tryz.prog l W) {k g n:Nat} {t e:TypeId} {nm:String} {ds:List (DataW Unit)} (hk:l[k]?=some (nm,.agg ds)) (hg:Tryz.prog.globalNamed nm=some g) (ht:(Tryz.prog.globals[g]?).map (·.type)=some t) (hu:Tryz.prog.underlying t=some (.array n e)) (hc:Tryz.prog.cellsOf e=1) (hct:Tryz.prog.cellsOf t=n) :
 ∀i,i<n->∃v f x,W.cell? ⟨g,i,none⟩=some v/\DataW.trod (λ_=>()) Tryz.prog W 0 (λ_=>true) false f e [v]=some x/\ds[i]?=some x.1:=by
 obtain⟨ps,hL,_,hrows⟩:=h
 obtain⟨g',t',cs,fuel,p,e1,e2,e3,e4,e5⟩:=zhU hL hk
 obtain rfl:=Option.some.inj (hg.symm.trans e1)
 obtain rfl:=Option.some.inj (ht.symm.trans e2)
 obtain⟨xs,m,_,hx,hl,hn,hel⟩:=DataW.trod_array hu e4
 intro i hi
 have h1:=hel i hi
 rw[hc] at h1
 obtain⟨x,hx1⟩:∃x,xs[i]?=some x:=⟨_,zsc (by omega)⟩
 rw[hx1] at h1
 have hds:ds=xs.map (·.1):=by
  have:=congrArg Prod.fst hx
  simpa using this
 simp only[Nat.mul_one] at h1
 rcases hd:cs.toList.drop i with _|⟨v,r⟩
 · have:=List.drop_eq_nil_iff.1 hd
   rw[hct] at hl
   omega
 · rw[hd] at h1
   refine⟨v,m,x,?_,by simpa using h1,by rw[hds,List.getElem?_map,hx1];rfl⟩
   have hv:cs[i]?=some v:=by
    have:cs.toList[i]?=some v:=by
     have:=congrArg (λl=>l[0]?) hd
     simpa [List.getElem?_drop] using this
    simpa using this
   rw[World.var?_cell e1 e3 i]
   exact hv
theorem zpE {W:World} {l:List (String×DataW Unit)} (h:laidMet Tryz.prog l W) {k g n:Nat} {t e:TypeId} {f0 f1 f2:Field} {nm:String} {ds:List (DataW Unit)} (hk:l[k]?=some (nm,.agg ds)) (hg:Tryz.prog.globalNamed nm=some g) (ht:(Tryz.prog.globals[g]?).map (·.type)=some t) (hu:Tryz.prog.underlying t=some (.array n e)) (hs:Tryz.prog.underlying e=some (.struct #[f0,f1,f2])) (h0:f0.offset=0) (h1:f1.offset=1) (h2:f2.offset=2) (u0:Tryz.prog.underlying f0.type=some (.int .i64)) (u1:Tryz.prog.underlying f1.type=some (.int .i64)) (u2:Tryz.prog.underlying f2.type=some (.int .i64)) (c0:Tryz.prog.cellsOf f0.type=1) (c1:Tryz.prog.cellsOf f1.type=1) (c2:Tryz.prog.cellsOf f2.type=1) (hc:Tryz.prog.cellsOf e=3) :
 ∀i,i<n->∃a b c:Int,W.cell? ⟨g,i*3,none⟩=some (.int .i64 a)/\W.cell? ⟨g,i*3+1,none⟩=some (.int .i64 b)/\W.cell? ⟨g,i*3+2,none⟩=some (.int .i64 c)/\ds[i]?=some (.agg [.lit (.int .i64 a),.lit (.int .i64 b),.lit (.int .i64 c)]):=by
 obtain⟨ps,hL,_,hrows⟩:=h
 obtain⟨g',t',cs,fuel,p,e1,e2,e3,e4,e5⟩:=zhU hL hk
 obtain rfl:=Option.some.inj (hg.symm.trans e1)
 obtain rfl:=Option.some.inj (ht.symm.trans e2)
 obtain⟨xs,m,_,hx,hl,hn,hel⟩:=DataW.trod_array hu e4
 intro i hi
 have hi1:=hel i hi
 rw[hc] at hi1
 obtain⟨x,hx1⟩:∃x,xs[i]?=some x:=⟨_,zsc (by omega)⟩
 rw[hx1] at hi1
 have hds:ds=xs.map (·.1):=by
  have:=congrArg Prod.fst hx
  simpa using this
 obtain⟨y0,y1,y2,m2,rfl,hl3,t0,t1,t2⟩:=Deep.trod_struct3 hs hi1
 rw[h0,c0] at t0
 rw[h1,c1] at t1
 rw[h2,c2] at t2
 obtain⟨a,q0,rfl,_⟩:=DataW.trod_int u0 t0
 obtain⟨b,q1,rfl,_⟩:=DataW.trod_int u1 t1
 obtain⟨c,q2,rfl,_⟩:=DataW.trod_int u2 t2
 have key:∀j v,j<3->(((cs.toList.drop (i*3)).take 3).drop j).take 1=[v]->W.cell? ⟨g,i*3+j,none⟩=some v:=by
  intro j v hj hv
  rw[World.var?_cell e1 e3 (i*3+j)]
  have:=congrArg (λl=>l[0]?) hv
  simp only[List.getElem?_take,List.getElem?_drop] at this
  have h3:cs.toList[i*3+j]?=some v:=by simpa [hj] using this
  simpa using h3
 refine⟨a,b,c,by simpa using key 0 _ (by decide) q0,key 1 _ (by decide) q1,key 2 _ (by decide) q2,?_⟩
 rw[hds,List.getElem?_map,hx1]
 rfl
def zmy:List (String×DataW Unit):=[("cadence/tree.words",Rows.laid_cadence_tree_words),("math/bits.deBruijn32tab",Rows.laid_math_bits_deBruijn32tab),("math/bits.deBruijn64tab",Rows.laid_math_bits_deBruijn64tab),("internal/strconv.uint64pow10",Rows.laid_internal_strconv_uint64pow10),("strconv.ErrRange",Rows.laid_strconv_ErrRange),("strconv.ErrSyntax",Rows.laid_strconv_ErrSyntax),("cadence/fault.Long",Rows.laid_cadence_fault_Long),("cadence/fault.Syntax",Rows.laid_cadence_fault_Syntax),("cadence/fault.Deep",Rows.laid_cadence_fault_Deep),("cadence/fault.Name",Rows.laid_cadence_fault_Name),("cadence/fault.Type",Rows.laid_cadence_fault_Type),("cadence/fault.Clock",Rows.laid_cadence_fault_Clock),("cadence/fault.Define",Rows.laid_cadence_fault_Define),("cadence/fault.Cause",Rows.laid_cadence_fault_Cause),("cadence/fault.Limit",Rows.laid_cadence_fault_Limit),("cadence/fault.Image",Rows.laid_cadence_fault_Image),("cadence/fault.Input",Rows.laid_cadence_fault_Input),("cadence/code.shapes",Rows.laid_cadence_code_shapes),("cadence/compile.operators",Rows.laid_cadence_compile_operators)]
theorem zig {W:World} (h:laidMetH Tryz.prog Rows.sampledRow.laid W):laidMet Tryz.prog zmy W:=by
 have h':laidMet Tryz.prog zmy W/\handlesMet Tryz.prog [("errors.errorType",Rows.laid_errors_errorType)] W:=h
 exact h'.1
theorem Tryz.gLong:Tryz.prog.globalNamed "cadence/fault.Long"=some 2:=by kernel_rfl
theorem Tryz.tLong:(Tryz.prog.globals[2]?).map (·.type)=some 43:=by kernel_rfl
theorem Tryz.gSyntax:Tryz.prog.globalNamed "cadence/fault.Syntax"=some 3:=by kernel_rfl
theorem Tryz.tSyntax:(Tryz.prog.globals[3]?).map (·.type)=some 43:=by kernel_rfl
theorem Tryz.gDeep:Tryz.prog.globalNamed "cadence/fault.Deep"=some 4:=by kernel_rfl
theorem Tryz.tDeep:(Tryz.prog.globals[4]?).map (·.type)=some 43:=by kernel_rfl
theorem Tryz.gName:Tryz.prog.globalNamed "cadence/fault.Name"=some 5:=by kernel_rfl
theorem Tryz.tName:(Tryz.prog.globals[5]?).map (·.type)=some 43:=by kernel_rfl
theorem Tryz.gType:Tryz.prog.globalNamed "cadence/fault.Type"=some 6:=by kernel_rfl
theorem Tryz.tType:(Tryz.prog.globals[6]?).map (·.type)=some 43:=by kernel_rfl
theorem Tryz.gClock:Tryz.prog.globalNamed "cadence/fault.Clock"=some 7:=by kernel_rfl
theorem Tryz.tClock:(Tryz.prog.globals[7]?).map (·.type)=some 43:=by kernel_rfl
theorem Tryz.gDefine:Tryz.prog.globalNamed "cadence/fault.Define"=some 8:=by kernel_rfl
theorem Tryz.tDefine:(Tryz.prog.globals[8]?).map (·.type)=some 43:=by kernel_rfl
theorem Tryz.gCause:Tryz.prog.globalNamed "cadence/fault.Cause"=some 9:=by kernel_rfl
theorem Tryz.tCause:(Tryz.prog.globals[9]?).map (·.type)=some 43:=by kernel_rfl
theorem Tryz.gLimit:Tryz.prog.globalNamed "cadence/fault.Limit"=some 10:=by kernel_rfl
theorem Tryz.tLimit:(Tryz.prog.globals[10]?).map (·.type)=some 43:=by kernel_rfl
theorem Tryz.gImage:Tryz.prog.globalNamed "cadence/fault.Image"=some 11:=by kernel_rfl
theorem Tryz.tImage:(Tryz.prog.globals[11]?).map (·.type)=some 43:=by kernel_rfl
theorem Tryz.gInput:Tryz.prog.globalNamed "cadence/fault.Input"=some 0:=by kernel_rfl
theorem Tryz.tInput:(Tryz.prog.globals[0]?).map (·.type)=some 43:=by kernel_rfl
theorem Tryz.gErrRange:Tryz.prog.globalNamed "strconv.ErrRange"=some 15:=by kernel_rfl
theorem Tryz.tErrRange:(Tryz.prog.globals[15]?).map (·.type)=some 43:=by kernel_rfl
theorem Tryz.gWords:Tryz.prog.globalNamed "cadence/tree.words"=some 17:=by kernel_rfl
theorem Tryz.tWords:(Tryz.prog.globals[17]?).map (·.type)=some 306:=by kernel_rfl
theorem Tryz.cWords:Tryz.prog.cellsOf 306=24:=by kernel_rfl
theorem Tryz.gShapes:Tryz.prog.globalNamed "cadence/code.shapes"=some 12:=by kernel_rfl
theorem Tryz.tShapes:(Tryz.prog.globals[12]?).map (·.type)=some 158:=by kernel_rfl
theorem Tryz.gOpers:Tryz.prog.globalNamed "cadence/compile.operators"=some 13:=by kernel_rfl
theorem Tryz.tOpers:(Tryz.prog.globals[13]?).map (·.type)=some 264:=by kernel_rfl
theorem Tryz.cOpers:Tryz.prog.cellsOf 264=24:=by kernel_rfl
theorem Tryz.cellsOp:Tryz.prog.cellsOf 68=1:=by kernel_rfl
theorem Tryz.cellsShape:Tryz.prog.cellsOf 157=3:=by kernel_rfl
theorem zm4:∀(i:Nat) (s:ByteArray),zcY[i]?=some s->(match (Rows.laid_cadence_tree_words:DataW Unit) with|.agg ds=>ds[i]?=(some (DataW.lit (.string s.data.toList)):Option (DataW Unit))|_=>False):=by
 intro i s h
 have hi:=(List.getElem?_eq_some_iff.1 h).1
 have:zcY.length=24:=rfl
 have hi':i<24:=by omega
 have:i=0∨i=1∨i=2∨i=3∨i=4∨i=5∨i=6∨i=7∨i=8∨i=9∨i=10∨i=11∨i=12∨i=13∨i=14∨i=15∨i=16∨i=17∨i=18∨i=19∨i=20∨i=21∨i=22∨i=23:=by omega
 rcases this with rfl|rfl|rfl|rfl|rfl|rfl|rfl|rfl|rfl|rfl|rfl|rfl|rfl|rfl|rfl|rfl|rfl|rfl|rfl|rfl|rfl|rfl|rfl|rfl <;> (cases h;rfl)
theorem zoe {W:World} (h0:laidMetH Tryz.prog Rows.sampledRow.laid W) (hz:21<=W.heap.size):(∃S,Gl S W)/\zbt W/\zbW W:=by
 have h:=zig h0
 obtain⟨a1,e1⟩:=zcl h (k:=6) rfl Tryz.gLong Tryz.tLong
 obtain⟨a2,e2⟩:=zcl h (k:=7) rfl Tryz.gSyntax Tryz.tSyntax
 obtain⟨a3,e3⟩:=zcl h (k:=8) rfl Tryz.gDeep Tryz.tDeep
 obtain⟨a4,e4⟩:=zcl h (k:=9) rfl Tryz.gName Tryz.tName
 obtain⟨a5,e5⟩:=zcl h (k:=10) rfl Tryz.gType Tryz.tType
 obtain⟨a6,e6⟩:=zcl h (k:=11) rfl Tryz.gClock Tryz.tClock
 obtain⟨a7,e7⟩:=zcl h (k:=12) rfl Tryz.gDefine Tryz.tDefine
 obtain⟨a8,e8⟩:=zcl h (k:=13) rfl Tryz.gCause Tryz.tCause
 obtain⟨a9,e9⟩:=zcl h (k:=14) rfl Tryz.gLimit Tryz.tLimit
 obtain⟨a10,e10⟩:=zcl h (k:=15) rfl Tryz.gImage Tryz.tImage
 obtain⟨a11,e11⟩:=zcl h (k:=16) rfl Tryz.gInput Tryz.tInput
 obtain⟨a12,e12⟩:=zcl h (k:=4) rfl Tryz.gErrRange Tryz.tErrRange
 have hw:=zjE h (k:=0) rfl Tryz.gWords Tryz.tWords Tryz.underlying306 Tryz.cellsStr Tryz.cWords
 have ho:=zjE h (k:=18) rfl Tryz.gOpers Tryz.tOpers Tryz.underlying264 Tryz.cellsOp Tryz.cOpers
 have hs:=zpE h (k:=17) rfl Tryz.gShapes Tryz.tShapes Tryz.underlying158 Tryz.underlying157 rfl rfl rfl (by kernel_rfl) (by kernel_rfl) (by kernel_rfl) (by kernel_rfl) (by kernel_rfl) (by kernel_rfl) Tryz.cellsShape
 refine⟨⟨λk=>match k with|1=>a1|2=>a2|3=>a3|4=>a4|5=>a5|6=>a6|7=>a7|8=>a8|9=>a9|10=>a10|11=>a11|_=>a12,e1,e2,e3,e4,e5,e6,e7,e8,e9,e10,e11,e12,λi s hi=>?_,hz⟩,λk h1 h2=>?_,?_⟩
 · have hlt:i<24:=by have:=(List.getElem?_eq_some_iff.1 hi).1;have e:zcY.length=24:=rfl;omega
   obtain⟨v,f,x,q1,q2,q3⟩:=hw i hlt
   obtain⟨s',r1,rfl,_⟩:=DataW.trod_string Tryz.underlying9 q2
   cases r1
   rw[q1]
   have h2:=zm4 i s hi
   have h3:(some (DataW.lit (.string s'.data.toList)):Option (DataW Unit))=some (.lit (.string s.data.toList)):=q3.symm.trans h2
   have h4:s'.data.toList=s.data.toList:=by
    have:=Option.some.inj h3
    injection this with this
    injection this
   obtain⟨⟨d1⟩⟩:=s'
   obtain⟨⟨d2⟩⟩:=s
   simp only at h4
   rw[h4]
 · obtain⟨v,f,x,q1,q2,q3⟩:=ho k (by omega)
   obtain⟨s',r1,rfl,_⟩:=DataW.trod_int Tryz.underlying68 q2
   cases r1
   rw[q1]
   have:k=5∨k=10∨k=11∨k=12∨k=13∨k=14∨k=15∨k=16∨k=17∨k=18∨k=19∨k=20∨k=21∨k=22∨k=23:=by omega
   rcases this with rfl|rfl|rfl|rfl|rfl|rfl|rfl|rfl|rfl|rfl|rfl|rfl|rfl|rfl|rfl <;> (have q4:=Option.some.inj q3;injection q4 with q4;injection q4 with _ q5;subst q5;rfl)
 · have key:∀k s,zY[k]?=some s->∃a b c:Int,W.cell? ⟨12,k*3,none⟩=some (.int .i64 a)/\W.cell? ⟨12,k*3+1,none⟩=some (.int .i64 b)/\W.cell? ⟨12,k*3+2,none⟩=some (.int .i64 c)/\a=(s.1:Nat)/\b=(s.2.1:Nat)/\c=(s.2.2:Nat):=by
    intro k s hk
    have h20:=zeB hk
    obtain⟨a,b,c,q1,q2,q3,q4⟩:=hs k (by omega)
    refine⟨a,b,c,q1,q2,q3,?_⟩
    clear q1 q2 q3 hs ho hw
    have:k=0∨k=1∨k=2∨k=3∨k=4∨k=5∨k=6∨k=7∨k=8∨k=9∨k=10∨k=11∨k=12∨k=13∨k=14∨k=15∨k=16∨k=17∨k=18∨k=19∨k=20:=by omega
    rcases this with rfl|rfl|rfl|rfl|rfl|rfl|rfl|rfl|rfl|rfl|rfl|rfl|rfl|rfl|rfl|rfl|rfl|rfl|rfl|rfl|rfl <;> (cases hk;have q5:=Option.some.inj q4;injection q5 with q5;injection q5 with q6 q7;injection q7 with q8 q9;injection q9 with q10 _;injection q6 with q6;injection q6 with _ q6;injection q8 with q8;injection q8 with _ q8;injection q10 with q10;injection q10 with _ q10;subst q6 q8 q10;exact⟨rfl,rfl,rfl⟩)
   refine⟨λk s hk=>?_,λk s hk=>?_,λk s hk=>?_⟩
   · obtain⟨a,b,c,q1,q2,q3,rfl,rfl,rfl⟩:=key k s hk;exact q1
   · obtain⟨a,b,c,q1,q2,q3,rfl,rfl,rfl⟩:=key k s hk;exact q2
   · obtain⟨a,b,c,q1,q2,q3,rfl,rfl,rfl⟩:=key k s hk;exact q3
theorem Tryz.own:ownKnob Tryz.prog.godebug=none:=by kernel_rfl
theorem Tryz.laidOut:laidOutB Tryz.prog=true:=by kernel_rfl
theorem Tryz.cells64:Tryz.prog.cellsOf 2=1:=by kernel_rfl
theorem znF (os:Go.Os) (args:Array Value):laidMetH Tryz.prog Rows.sampledRow.laid ((World.doorLaid Tryz.prog 314 os).forCall (λ_ _=>0) ⟨#[],args,[]⟩).memory :=
 laidMetH_of_parts (laidMet_of_run' 8 (by kernel_rfl) (by kernel_rfl)) (by kernel_rfl)
theorem zqu {n:Int} (h:(Lit.int .i64 n).wf=true):-9223372036854775808<=n/\n<=9223372036854775807:=bounds_i64 h
theorem zo3 {H:Type} {enc:TypeId×Value->H} {W:World} {a:Option Addr} {len cap fuel:Nat} {x:DataW H×List MemPlace} {sp:Nat->Bool} {held:Bool} (hf:DataW.trod enc Tryz.prog W 0 sp held fuel 22 (Value.slice a len cap).cells.toList=some x) (hlt:∀p∈x.2,p.block<W.heap.size):∃l,Ar W W.heap.size (.slice a len cap) l:=by
 rcases open_ints Tryz.underlying22 Tryz.underlying2 Tryz.cells64 hf with ⟨hcs,hx⟩|⟨a',len',cap',zs,hcs,_,hl,hm,hz,hx,hcell,hwz⟩
 · simp[Value.cells] at hcs
   obtain⟨rfl,rfl,rfl⟩:=hcs
   exact⟨[],⟨none,0,rfl,by decide,λh=>absurd rfl h⟩,λx hx=>by cases hx⟩
 · simp[Value.cells] at hcs
   obtain⟨rfl,rfl,rfl⟩:=hcs
   have hml:maxLen<=9223372036854775807:=by decide
   have hzl:len<=zs.length:=by rw[hz];split <;> omega
   have htl:(zs.take len).length=len:=by rw[List.length_take];omega
   refine⟨zs.take len,⟨some a',cap,by rw[htl],by rw[htl];omega,λhne=>?_⟩,λy hy=>zqu (hwz y (List.mem_of_mem_take hy))⟩
   have h0:0<zs.length:=by
    rcases zs with _|⟨z,zs⟩
    · simp at hne
    · simp
   obtain⟨b,off,spot⟩:=a'
   have hspot:spot=none:=by simpa [Addr.add] using World.cell?_spot (hcell 0 h0)
   subst hspot
   refine⟨b,off,rfl,hlt (.cell b off) (by rw[hx];exact MemPlace.mem_row.2 ⟨0,h0,by simp⟩),λj y hj=>?_⟩
   rw[List.getElem?_take] at hj
   split at hj
   · have hjl:=(List.getElem?_eq_some_iff.1 hj).1
     have:=hcell j hjl
     rw[List.getD_eq_getElem?_getD,hj] at this
     rw[add_plain] at this
     exact this
   · cases hj
end
section
theorem Tryz.mapsR:(mapsRowed Tryz.prog)=true:=by kernel_rfl
theorem Tryz.heard:(Tryz.prog.stopsHeard)=true:=by kernel_rfl
theorem Tryz.enter:(Tryz.prog.mayEnter)=true:=by kernel_rfl
abbrev rOd:=Rows.orderedRow
abbrev sOd:=Rows.orderedSpec
theorem zth:((rOd.lifted==Tryz.prog.liftsFinal))=true:=by kernel_rfl
theorem ztm:((Tryz.prog.make==some rOd.make))=true:=by kernel_rfl
theorem ztg:((rOd.plainKeys==Tryz.prog.plainKeys))=true:=by kernel_rfl
theorem ztz:((rOd.inPlace==Tryz.prog.inPlace 5))=true:=by kernel_rfl
theorem zts:((rOd.unfollowed==Tryz.prog.unfollowed 5))=true:=by kernel_rfl
theorem ztc:((rOd.recurses==Tryz.prog.recurses 5))=true:=by kernel_rfl
theorem ztt:((rOd.named==Tryz.prog.varsNamed 5))=true:=by kernel_rfl
theorem ztw:(rOd.wf (OpenSpec.ofChange sOd))=true:=by kernel_rfl
theorem ztx:(Tryz.f5.params.all (Tryz.prog.readableRec ·))=true:=by kernel_rfl
theorem ztv:(namedTie Tryz.prog rOd.named sOd.vars)=true:=by kernel_rfl
theorem ztC:((rOd.stops==[]))=true:=by kernel_rfl
theorem zty:((Tryz.prog.stops==[]))=true:=by kernel_rfl
theorem ztB:((rOd.knobs==[]))=true:=by kernel_rfl
theorem ztA:((Tryz.prog.stopKnobs==[]))=true:=by kernel_rfl
theorem ztq:((rOd.maps==(Tryz.f5.params.toList++sOd.plain.varTypes Tryz.prog).any (Tryz.prog.mapsRec ·)))=true:=by kernel_rfl
theorem ztb:((rOd.ifaces==(Tryz.f5.params.toList++sOd.plain.varTypes Tryz.prog).any (Tryz.prog.ifacesRec ·)))=true:=by kernel_rfl
theorem zti:((rOd.mapsOut==Tryz.prog.mapsAmong Tryz.f5.resultTypes.toList))=true:=by kernel_rfl
theorem ztl:((rOd.loops==(Tryz.f5.params.toList++sOd.plain.varTypes Tryz.prog).any (Tryz.prog.loopsFrom ·)))=true:=by kernel_rfl
theorem ztk:((rOd.wideKeys==(Tryz.f5.params.toList++sOd.plain.varTypes Tryz.prog++Tryz.f5.resultTypes.toList).any (Tryz.prog.wideKeysFrom ·)))=true:=by kernel_rfl
theorem ztd:(sOd.vars.all (Tryz.prog.varReadable ·))=true:=by kernel_rfl
theorem zto:(Tryz.f5.resultTypes.all (λt=>Tryz.prog.readableRec t&&decide (t<Tryz.prog.types.size)))=true:=by kernel_rfl
theorem ztf:((rOd.ifacesOut==Tryz.f5.resultTypes.toList.any (Tryz.prog.ifacesRec ·)))=true:=by kernel_rfl
theorem ztu:((rOd.loopsOut==Tryz.f5.resultTypes.toList.any (Tryz.prog.loopsFrom ·)))=true:=by kernel_rfl
theorem ztr:(rOd.shortTexts.isNone)=true:=by kernel_rfl
theorem ztp:((rOd.kinds==(if rOd.domain.isEmpty then [] else Tryz.f5.params.toList.map λt=>match Tryz.prog.underlying t with|some (.int k)=>some k|_=>none)))=true:=by kernel_rfl
theorem ztn:((rOd.pinned==rOd.pinnedBy))=true:=by kernel_rfl
theorem ztj:((rOd.veiled==(Tryz.f5.params.toList++sOd.plain.varTypes Tryz.prog++Tryz.f5.resultTypes.toList).any (Tryz.prog.veiledRec ·)))=true:=by kernel_rfl
theorem zte:(rOd.veiledFits Tryz.prog Tryz.f5.params.toList (Tryz.f5.params.toList++sOd.plain.varTypes Tryz.prog++Tryz.f5.resultTypes.toList))=true:=by kernel_rfl
end
section
open Go.ChangeShapes Go.WideShapes Go.ChangeAt Go.RowKit
theorem Tryz.gTab:Tryz.prog.globalNamed "math/bits.deBruijn64tab"=some 20:=by kernel_rfl
theorem Tryz.tTab:(Tryz.prog.globals[20]?).map (·.type)=some 314:=by kernel_rfl
theorem Tryz.cTab:Tryz.prog.cellsOf 314=64:=by kernel_rfl
theorem Tryz.cellsU8:Tryz.prog.cellsOf 5=1:=by kernel_rfl
theorem zp6 {W:World} (h0:laidMetH Tryz.prog Rows.sampledRow.laid W):21<=W.heap.size:=by
 obtain⟨v,_,_,h1,_⟩:=zjE (zig h0) (k:=2) rfl Tryz.gTab Tryz.tTab Tryz.underlying314 Tryz.cellsU8 Tryz.cTab 0 (by decide)
 exact World.block_lt_of_cell? W ⟨20,0,none⟩ h1
theorem zsm (os:Go.Os) (started:os.Started) (H:Type) (enc:TypeId×Value->H) :
 ReturnsInHanded {} Tryz.checked os 5 .any (λw args=>(Rows.orderedSpec.pre enc Tryz.prog Tryz.f5 [] false w args/\laidMetH Tryz.prog Rows.orderedRow.laid w)/\sizedMet enc Tryz.prog Tryz.f5 (OpenSpec.ofChange Rows.orderedSpec) false w args)
  (Rows.orderedSpec.post enc Tryz.prog Tryz.f5 false true false false):=by
 refine returnsInHanded_of_change_and (C:=Tryz.checked) (X:=λw _=>laidMetH Tryz.prog Rows.orderedRow.laid w) (λ_ _ _ hh h=>h.of_heap hh) Tryz.own started (by kernel_rfl) Tryz.func5
  (ChangeSpec.witness_shaped (enc:=enc) (C:=Tryz.checked) (os:=os) (X:=λw _=>laidMetH Tryz.prog Rows.orderedRow.laid w) false (World.doorLaid Tryz.prog 314 os) #[.int .i64 0,.slice none 0 0] 8 rfl (World.shaped_of_RefB (by kernel_rfl) (by kernel_rfl)) (by kernel_rfl) (by kernel_rfl) (by kernel_rfl) (znF os _)) ?_
 intro W base args ds gs before hval0 hW _ _ hL _
 have hval:∀(j:Nat) t v,Tryz.f5.params[j]?=some t->args[j]?=some v->Value.okWide Tryz.prog W .any base t v:=hval0
 have hW':=hW
 obtain⟨p,q,hA0,hV,rfl,_,_⟩:=hW
 have hA:DataW.TrodAll enc Tryz.prog W 0 (λ_=>true) true Tryz.f5.params.toList args.toList ds p:=hA0
 rw[Tryz.params5] at hA hval
 obtain⟨v0,v1,d0,d1,p0,p1,rfl,rfl,rfl,h0,h1⟩:=trodAll_two hA
 obtain⟨rfl,rfl⟩:=trodVars_none hV
 obtain⟨n,rfl,rfl,rfl,hwf⟩:=open_int Tryz.underlying3 (hval 0 3 v0 rfl rfl) h0
 obtain⟨a1,len1,cap1,rfl⟩:=okWide_slice Tryz.underlying22 (hval 1 22 v1 rfl rfl)
 clear hA0 hval0
 simp only[List.append_nil] at hW'
 have hlt:∀x∈([]:List MemPlace)++p1,x.block<W.heap.size:=λx hx=>by simpa using hW'.lt x (by simpa using hx)
 have hargs0:∀(W':World),DataW.Trod enc Tryz.prog W' 0 (λb=>decide (b<W.heap.size)) true 3 (.int .i64 n) (.lit (.int .i64 n)) []:=λW'=>shut_int Tryz.underlying3 hwf
 have hargs1:∀(W':World),Below W.heap.size W W'->DataW.Trod enc Tryz.prog W' 0 (λb=>decide (b<W.heap.size)) true 22 (.slice a1 len1 cap1) d1 p1 :=
  λW' hn=>Below.trod Tryz.laidOut (by kernel_rfl) (of_decide_eq_true (by kernel_rfl)) h1 hn (λx hx=>hlt x (by simp[hx]))
 obtain⟨f1,hf1⟩:=h1
 obtain⟨l1,hA1⟩:=zo3 hf1 (λx hx=>hlt x (by simp[hx]))
 have hz:21<=W.heap.size:=zp6 hL
 obtain⟨⟨S,hG⟩,hop,hS⟩:=zoe hL hz
 refine (zsL S n _ l1 W (bounds_i64 hwf) hG hop hS hA1).mono λe W' ⟨he,hnx⟩=>?_
 subst he
 refine⟨_,rfl,_,_,_,[],(([]:List MemPlace)++p1),[],hW',?_,?_,rfl,hnx.frame _,λh=>by cases h⟩
 · exact trodAll_mk1 (shut_bool Tryz.underlying4 true)
 · exact trodAll_mk2 (hargs0 _) (hargs1 _ hnx)
theorem zae {a b:Bool} (h1:a=true) (h2:b=true):(a&&b)=true:=by rw[h1,h2];rfl
theorem Tryz.main:Tryz.prog.mainIs=some (true,"85ebeb2ff86fcff32053cbf37fc533cace43c5bf82507a6d735a71fa134da4dc".toList):=by kernel_rfl
theorem Tryz.looked:true=Tryz.prog.looks []:=by kernel_rfl
theorem Tryz.noStand:Tryz.prog.wantsStandIn 22=false:=by kernel_rfl
theorem zsp:joinedFacts Tryz.prog 5 Tryz.f5 Rows.orderedSpec Rows.orderedRow=true:=by
 unfold joinedFacts
 exact (zae (zae (zae (zae (zae (zae (zae (zae (zae (zae (zae (zae (zae (zae (zae (zae (zae (zae (zae (zae (zae (zae (zae (zae (zae (zae (zae (zae (zae (zae (zae ztw Tryz.laidOut) Tryz.mapsR) ztx) ztv) ztC) zty) ztB) ztA) ztz) zts) ztc) ztt) ztq) ztb) zti) ztl) ztk) ztd) zto) ztf) ztu) ztg) ztr) Tryz.heard) Tryz.enter) zth) ztm) ztp) ztn) ztj) zte)
theorem zsw:Tryz.f5.isInstance Tryz.prog Rows.orderedRow.origin Rows.orderedRow.targs:=of_decide_eq_true (by kernel_rfl)
theorem zsv:Tryz.f5.isWrapper Tryz.prog Rows.orderedRow.wrapper Rows.orderedRow.mainSum:=by unfold Func.isWrapper;first|(rw[if_pos (by decide +kernel)];kernel_rfl)|(rw[if_neg (by decide +kernel)];exact⟨rfl,rfl⟩)
theorem zsh:Tryz.prog.funcNamed "cadence/cadencekeep.Ordered"=some 5:=by kernel_rfl
theorem zsz:Rows.OrderedSaid :=
 OpenClaim.holds_of_wide (p:=Tryz.pinned) (s:=Rows.orderedSpec) (c:=Rows.orderedRow) 5 Tryz.f5 rfl rfl rfl rfl rfl rfl rfl ⟨rfl,rfl,rfl,rfl,rfl⟩ rfl rfl rfl rfl rfl zsh Tryz.func5 zsp zsw zsv
  (λos started H enc _=>zsm os started H enc)
theorem zsB:Rows.orderedRow.wfByText (OpenSpec.ofChange Rows.orderedSpec)=true:=by kernel_rfl
theorem Tryz.noStandI:Tryz.prog.wantsStandIn 3=false:=by kernel_rfl
theorem zss:false=Rows.orderedRow.goesBy Tryz.prog:=by kernel_rfl
theorem ordered_holds:Rows.OrderedCardSaid :=
 Claim7.holds_tied_plain_at .later [] [.data,.data,.data,.data,.handle,.sentinel,.sentinel,.sentinel,.sentinel,.sentinel,.sentinel,.sentinel,.sentinel,.sentinel,.sentinel,.sentinel,.sentinel,.sentinel,.data,.data] true (true,"85ebeb2ff86fcff32053cbf37fc533cace43c5bf82507a6d735a71fa134da4dc") true
  zsz (λ_ h=>by cases h) zsB (λ_ h=>by cases h) ordered_row_tie rfl ⟨rfl,rfl⟩ Tryz.main rfl
  (λf fn hf hfn=>by
    obtain rfl:f=5:=Option.some.inj (zsh.symm.trans hf) |>.symm
    obtain rfl:fn=Tryz.f5:=(Option.some.inj (Tryz.func5.symm.trans hfn)).symm
    exact⟨Tryz.looked,λj t ht=>by
     rw[Tryz.params5] at ht
     rcases j with _|_|j
     · have h3:t=3:=by simpa using ht.symm
       subst h3
       exact Tryz.noStandI
     · have h3:t=22:=by simpa using ht.symm
       subst h3
       exact Tryz.noStand
     · simp at ht⟩)
  zss
end
end Go.Proofs.YtedmpgjebafcjaaGreatDoor
