/- Part 46 of the proof: KnA Road KnB UpK AnyA LdA. -/
import Derived.Deep.Strs
import Derived.LaidHandle
import Derived.LaidLaws
import Derived.OpenShut
import Derived.ProofKit
import Derived.Test.YtbicmofihhjgbaaGreatDoorRows
import Derived.Test.YtbicmofihhjgbaaGreatDoorK44
set_option maxRecDepth 100000
set_option maxHeartbeats 8000000
namespace Go.Proofs.YtbicmofihhjgbaaGreatDoor
open Go.Proofs.Tryz
section
open Go.RowKit
theorem Kn.bel {S:Nat->Addr}{w W:World}(h:Kn S w)(hB:xB w W):Kn S W:=by refine⟨h.gl.of (T:=λ_=>False) (Fr.of_below hB) (λ_ e=>e.elim),?_⟩;have h3:=h.tab;unfold Lib.TabIs World.var? at h3 ⊢;rw[Tryz.gPow] at h3 ⊢;simp only[Option.bind_some] at h3 ⊢;rw[hB.block _ (by have:=h.gl.size;omega)];exact h3
structure zwf (src:ByteArray) (ns:List Nod):Prop where
 size:src.size<=1200
 er:(zgo (lev 17).ex (lev 18).ex 1300 src).1.er=0
 few:(zgo (lev 17).ex (lev 18).ex 1300 src).2.length<=6
 nods:ziP (zgo (lev 17).ex (lev 18).ex 1300 src).2=some ns
 wf:∀n∈ns,zeJ n
 tms:∀n∈ns,n.terms.length<=1000000
theorem zv5 (S:Nat->Addr)(src:ByteArray)(ns:List Nod)(h:zwf src ns)(w:World)(hG:Gl S w) :
 xK 28 #[.string src] w (λe w'=>∃gb,e=.returned (.tuple #[xP gb,.nilIface])/\PT w' w'.heap.size ns (xP gb)/\xB w w'):=by
 obtain⟨r17,r18,e17,e18,hX,hK,g17,g18⟩:=zk1;obtain⟨h1,h2,h3,h4,h5,h6⟩:=h;rw[<- e17,<- e18] at h2 h3 h4;obtain⟨R,hR⟩:∃R,R=zgo r17 r18 1300 src:=⟨_,rfl⟩;have hrd:=zni hX hK g17 g18 S 1300 (by decide) (by decide) src w hG h1 (R:=R) hR.symm;rw[<- hR] at h2 h3 h4;refine hrd.mono ?_;rintro e w' ⟨_,hok,hB⟩;obtain⟨a,rfl,hPG⟩:=hok h2;obtain⟨ns',hns,hPT⟩:=zpt hPG h3;have:=znV hns h4;subst this;obtain⟨gb,gv,xs,e0,rest⟩:=hPT;cases e0;exact⟨gb,rfl,⟨gb,gv,xs,rfl,rest⟩,hB⟩
theorem zv0 (S:Nat->Addr)(src:ByteArray)(ns:List Nod)(h:zwf src ns)(kd p:Nat)(H7:zbc ns=some (kd,p))(hk1:1<=kd)(hk2:kd<=11)(w:World)(HG:Gl S w)(hE:Sn S w)(hT:ErT w) :
 xK 10 #[.string src] w (λe w'=>e=.returned (.tuple #[xI kd,xI p])/\xB w w'):=by
 have HRr:=za (zv5 S src ns h w HG);have hch:xK 26 #[.string src] w (λe w'=>∃gb,e=.returned (.tuple #[xP gb,zvh S (zrz kd) kd p])/\xB w w'):=by
  have H5:=za h.wf;have H6:=za h.tms;unfold zvh zeQ;go_enter func26,ntmps26
  go_wp2_with (first
   | (go_at_call 38;revert HP1;intro HP1;refine (zjO S w1.heap.size ns H5.o H6.o gb w1 (HG.of (T:=λ_=>False) (Fr.of_below HB1.o) (λ_ e=>e.elim)) HP1.o (Nat.le_refl _)).mono ?_;rw[H7];rintro e w2 ⟨rfl,hB⟩;unfold zq3 zbp zeQ;have hz2:=hB.size;have HB2:=za hB)
   | (go_at_call 28;refine HRr.o.mono ?_;rintro e w1 ⟨gb,rfl,hP,hB⟩;have hz1:=hB.size;have HP1:=za hP;have HB1:=za hB))
  refine bodyPost_ret (v:=.tuple #[xP gb,_]) (by simp[results,results26,go_sem]) rfl ⟨gb,rfl,HB1.o.trans (HB2.o.mono hz1)⟩
 have HCh:=za hch;have HAn:=za (λW (hB:xB w W)=>zvk S (zrz kd) kd p W hk1 hk2 (HG.of (T:=λ_=>False) (Fr.of_below hB) (λ_ e=>e.elim)) (λi j i1 i2 j1 j2 W' hB'=>hE i j i1 i2 j1 j2 W' (hB.trans (hB'.mono hB.size))) ((World.cell?_of_block (w:=w) (a:=(xD 7 0)) (hB.block _ (World.block_lt_of_cell? w (xD 7 0) hT))).trans hT));unfold zvh zeQ at HCh HAn;go_enter func10,ntmps10
 go_wp2_with (first
  | (go_at_call 27;refine (HAn.o _ HB1.o).mono ?_;rintro e w2 ⟨rfl,hB⟩;have HB2:=za hB)
  | (go_at_call 26;refine HCh.o.mono ?_;rintro e w1 ⟨gb,rfl,hB⟩;have HB1:=za hB))
 exact bodyPost_ret (v:=.tuple #[xI kd,xI p]) (by simp[results,results10,go_sem]) rfl ⟨rfl,HB1.o.trans (HB2.o.mono HB1.o.size)⟩
theorem zwJ (S:Nat->Addr)(src:ByteArray)(ns:List Nod)(h:zwf src ns)(hn:∀n∈ns,∀q∈n.eqs,nmB q.r=true/\szT q.r<=1000000)(hlen:∀n∈ns,(zu4 n).length<=1000000)(hby:(zu3 ns).length<=100000000)(w:World)(hK:Kn S w) :
 xK 11 #[.string src] w (λe w'=>e=.returned (.tuple #[.string ⟨(zu3 ns).toArray⟩,xI 0,xI 0])/\xB w w'):=by
 have HRr:=za (zv5 S src ns h w hK.gl);have HTx:=za (λW gb (hB:xB w W) (hP:PT W W.heap.size ns (xP gb))=>zwO S W.heap.size ns gb W (hK.bel hB) hP (Nat.le_refl _) (by have:=hK.gl.size;have:=hB.size;omega) h.wf (λn hn' q hq=>zwI S q.r ((h.wf n hn').eqs q hq).2.2.1 (hn n hn' q hq).1 (hn n hn' q hq).2) hlen hby);obtain⟨T,hT⟩:∃T,(zu3 ns).toArray=T:=⟨_,rfl⟩;rw[hT] at HTx ⊢;go_enter func11,ntmps11
 go_wp2_with (first
  | (go_at_call 29;revert HP1;intro HP1;refine (HTx.o _ _ HB1.o HP1.o).mono ?_;rintro e w2 ⟨rfl,hB⟩;have HB2:=za hB)
  | (go_at_call 28;refine HRr.o.mono ?_;rintro e w1 ⟨gb,rfl,hP,hB⟩;have hz1:=hB.size;have HP1:=za hP;have HB1:=za hB))
 exact bodyPost_ret (v:=.tuple #[.string ⟨T⟩,xI 0,xI 0]) (by simp[results,results11,go_sem]) rfl ⟨rfl,HB1.o.trans (HB2.o.mono hz1)⟩
def zkM (a b:Cd):Bool:=decide (a.bools=b.bools)&&decide (a.outs=b.outs)&&decide (a.slots=b.slots)&&decide (a.cells=b.cells)&&decide (a.depth=b.depth)&&decide (a.row=b.row)
theorem znp {a b:Cd}(h:zkM a b=true):a=b:=by obtain⟨a1,a2,a3,a4,a5,a6⟩:=a;obtain⟨b1,b2,b3,b4,b5,b6⟩:=b;simp only[zkM,Bool.and_eq_true,decide_eq_true_eq] at h;obtain⟨⟨⟨⟨⟨rfl,rfl⟩,rfl⟩,rfl⟩,rfl⟩,rfl⟩:=h;rfl
def zoX (fu gas f:Nat)(src:ByteArray):Option Cd:=(zju fu gas f src).bind λK=>zcR (zcw (zcx K))
def zlZ (fu gas f:Nat)(src:ByteArray)(c:Cd):Bool:=match zoX fu gas f src with
 | none=>false
 | some d=>zkM d c
theorem zpq {fu gas f:Nat}{src:ByteArray}{c:Cd}(h:zlZ fu gas f src c=true):∃K,zju fu gas f src=some K/\zcR (zcw (zcx K))=some c:=by
 unfold zlZ at h;split at h
 . cases h
 . rename_i d hr
   have:=znp h;subst this;unfold zoX at hr;cases hf:zju fu gas f src with
   | none=>rw[hf] at hr;cases hr
   | some K=>rw[hf] at hr;exact⟨K,rfl,hr⟩
def zw0:ByteArray:=⟨#[110,111,100,101,32,110,40,97,58,32,105,110,116,41,32,45,62,32,40,115,58,32,105,110,116,41,32,123,32,115,32,61,32,115,32,43,32,97,59,32,125]⟩
def zwK:ByteArray:=⟨#[110,111,100,101,32,110,40,97,58,105,110,116,41,45,62,40,115,58,105,110,116,41,123,115,61,48,48,55,32,102,98,121,45,97,59,125]⟩
def zxx:ByteArray:=⟨#[110,111,100,101,32,110,32,40,32,97,32,58,32,105,110,116,32,41,32,45,62,32,40,32,115,32,58,32,105,110,116,32,41,32,123,32,115,32,61,32,40,32,55,32,102,98,121,32,40,32,45,32,97,32,41,32,41,32,59,32,125,10]⟩
def zwh:ByteArray:=⟨#[110,111,100,101,32,110,40,97,58,32,105,110,116,41,32,45,62,32,40,115,58,32,105,110,116,41,32,123,32,115,32,61,32,97,32,43,32,40,53,32,102,98,121,32,115,41,59,32,125]⟩
def rdF (src:ByteArray)(P:List Nod->Bool):Bool :=
 let R:=zgo (lev 17).ex (lev 18).ex 1300 src
 decide (src.size<=1200)&&decide (R.1.er=0)&&decide (R.2.length<=6) &&
  match ziP R.2 with
  | none=>false
  | some ns=>ns.all zjC&&(ns.all λn=>decide (n.terms.length<=1000000))&&P ns
theorem zw5 {src:ByteArray}{P:List Nod->Bool}(h:rdF src P=true):∃ns,zwf src ns/\P ns=true:=by
 unfold rdF at h;simp only[Bool.and_eq_true,decide_eq_true_eq] at h;obtain⟨⟨⟨h1,h2⟩,h3⟩,h4⟩:=h;split at h4
 . cases h4
 . rename_i ns hns
   simp only[Bool.and_eq_true,List.all_eq_true,decide_eq_true_eq] at h4;obtain⟨⟨h5,h6⟩,h7⟩:=h4;exact⟨ns,⟨h1,h2,h3,hns,λn hn=>zhT (h5 n hn),h6⟩,h7⟩
theorem zxS:rdF zw0 (λns=>decide (zbc ns=some (8,5)))=true:=by decide +kernel
theorem zxG:rdF zwK (λns=>(ns.all λn=>decide ((zu4 n).length<=1000000)&&n.eqs.all λq=>nmB q.r&&decide (szT q.r<=1000000))&&decide (zu3 ns=zxx.data.toList))=true:=by decide +kernel
def cK:Cd:=⟨[false],1,3,[5],2,[(0,1),(2,2),(1,0),(3,0),(16,0),(2,1),(1,2),(1,1),(4,0)]⟩
theorem zxD:zlZ 20 100 6 zwh cK=true:=by decide +kernel
theorem zwV:zd9 cK.slots cK.cells.length 0 cK.row=some 0:=by decide +kernel
theorem zxT:zlL zwh cK:=by obtain⟨K,h1,h2⟩:=zpq zxD;exact zpN (by decide) (by decide) h1 h2 ⟨by decide,by decide,by decide,by decide,by decide⟩ zwV
theorem zws:(zbm cK [5] [1]).cells=[6]/\zcX cK (zbm cK [5] [1])=[6]:=⟨by kernel_rfl,by kernel_rfl⟩
theorem zxA:(zbm cK [6] [2]).cells=[8]/\zcX cK (zbm cK [6] [2])=[8]:=⟨by kernel_rfl,by kernel_rfl⟩
theorem zwD (w:World)(x:Int):Nm (w.alloc (.cells #[xI x] 2)) (xS w.heap.size 1 1) w.heap.size [x]:=by
 refine⟨_,1,rfl,Nat.le_refl _,by decide,λ_=>⟨0,rfl,λj y hj=>?_⟩⟩
 match j,hj with
 | 0,hj => cases hj;exact (zu (zc w _)).1
theorem MFr.bel {m:Ma}{w w':World}{sv sv':Value}{c:Cd}{cells slots:List Int}{N:Nat}(h:MFr m.mb m.b1 m.b2 w sv w' sv')(hM:MM w m sv c cells slots)(hN:N<=m.N)(hw:N<=w.heap.size):Below N w w':=by
 refine h.fr.below hw (λk hk=>?_);rcases hk with rfl|rfl|rfl|hk
 . exact Nat.le_trans hN hM.mc.n0
 . exact Nat.le_trans hN hM.mc.n1
 . exact Nat.le_trans hN hM.mc.n2
 . exact Nat.le_trans hN (hM.mc.mem.own.lt k hk).1
theorem zwN (S:Nat->Addr)(w:World)(hK:Kn S w)(hE:Sn S w)(hT:ErT w)(hop:zbt w)(hS:zbW w) :
 xK 12 #[] w (λe w'=>e=.returned (.bool true)/\xB w w'):=by
 obtain⟨nsA,hA,hcA⟩:=zw5 zxS;obtain⟨nsB,hB,hcB⟩:=zw5 zxG;simp only[Bool.and_eq_true,List.all_eq_true,decide_eq_true_eq] at hcA hcB;obtain⟨hB1,hB2⟩:=hcB;have HC:=za (zv0 S zw0 nsA hA 8 5 hcA (by decide) (by decide) w hK.gl hE hT);have HP:=za (λW (hb:xB w W)=>zwJ S zwK nsB hB (λn hn q hq=>(hB1 n hn).2 q hq) (λn hn=>(hB1 n hn).1) (by rw[hB2];decide) W (hK.bel hb));rw[hB2] at HP;have HM:=za (λW (hb:xB w W)=>zkS S zwh cK zxT W (hK.bel hb).gl (hop.old (zm hb (Nat.le_refl _)) hK.gl.size) (hS.old (zm hb (Nat.le_refl _)) hK.gl.size));have HG:Hid (∀W,xB w W->Gl S W):=λW hb=>(hK.bel hb).gl;unfold zw0 at HC;unfold zwK zxx at HP;unfold zwh at HM;go_enter func12,ntmps12
 go_upto_region 6 with (first
  | (go_at_call 14;revert HB2;intro HB2;refine (HM.o _ HB2.o).mono ?_;rintro e w3 ⟨m,sv,rfl,HM3,hN,hB3⟩;have HB3:=za (HB2.o.trans (hB3.mono HB2.o.size));have hNm:w.heap.size<=m.N:=Nat.le_trans HB2.o.size hN)
  | (go_at_call 11;refine (HP.o _ HB1.o).mono ?_;rintro e w2 ⟨rfl,hb⟩;have HB2:=za (HB1.o.trans (hb.mono HB1.o.size)))
  | (go_at_call 10;refine HC.o.mono ?_;rintro e w1 ⟨rfl,hb⟩;have HB1:=za hb))
 have HS1:=za (λ(W:World) (hb:xB w W) (HM3:MM W m sv cK [5] (List.replicate cK.slots 0))=>(zul S m sv cK [5] (List.replicate cK.slots 0) (W.alloc (.cells #[xI 1] 2)) (xS W.heap.size 1 1) W.heap.size [1] 6 (HG.o _ (hb.alloc hb.size _)) (HM3.keep ((Below.refl _ W).alloc (Nat.le_refl _) _)) (zwD W 1) (λ_ e=>by have:=ze HM3.mc.mem.sl;omega) (by decide) zwV rfl zws.2));rw[zws.1] at HS1;have HS2:=za (λ(W:World) (sv:Value) (slots:List Int) (hb:xB w W) (HM3:MM W m sv cK [6] slots)=>(zul S m sv cK [6] slots (W.alloc (.cells #[xI 2] 2)) (xS W.heap.size 1 1) W.heap.size [2] 8 (HG.o _ (hb.alloc hb.size _)) (HM3.keep ((Below.refl _ W).alloc (Nat.le_refl _) _)) (zwD W 2) (λ_ e=>by have:=ze HM3.mc.mem.sl;omega) (by decide) zwV rfl zxA.2))
 go_wp2_with (first
  | (go_at_call 17;revert HM4;intro HM4;refine (HS2.o _ _ _ HB4.o HM4.o).mono ?_;rintro e w5 ⟨sv5,rfl,hM5,hF5⟩;have HB5:=za ((HB4.o.alloc HB4.o.size _).trans (hF5.bel (HM4.o.keep ((Below.refl _ _).alloc (Nat.le_refl _) _)) hNm (HB4.o.alloc HB4.o.size _).size)))
  | (go_at_call 17;refine (HS1.o _ HB3.o HM3).mono ?_;rintro e w4 ⟨sv4,rfl,hM4,hF4⟩;have HM4:=za hM4;have HB4:=za ((HB3.o.alloc HB3.o.size _).trans (hF4.bel (HM3.keep ((Below.refl _ _).alloc (Nat.le_refl _) _)) hNm (HB3.o.alloc HB3.o.size _).size))))
 go_ret;exact⟨rfl,HB5.o⟩
end
section
open Go.RowKit
variable {c:Cd}
theorem zvI (l:List Nat)(s:Ir)(h:(zG l s).2.er=none):s.er=none:=by
 by_cases hs:s.er=none
 . exact hs
 . rw[(zg9 l s).1 hs] at h;exact h
theorem zvf (l:List Nat)(s:Ir)(h:s.at'<=l.length):(zG l s).2.at'<=l.length:=by
 unfold zG;split
 . split
   . exact h
   . simp only;omega
 . exact h
theorem zwk (l:List Nat)(bd:Nat)(s:Ir)(h:(zad l bd s).2.er=none):s.er=none:=zvI l s (zhR _ _ h).1
theorem zvj (l:List Nat)(bd:Nat)(s:Ir)(h:s.at'<=l.length):(zad l bd s).2.at'<=l.length:=by show (zbU _ _).at'<=_;rw[zks];exact zvf l s h
theorem zvY (l:List Nat):∀(n:Nat) (s:Ir),(zc2 l n s).2.er=none->s.er=none
 | 0,_,h=>h
 | n+1,s,h=>zvI l s (zvY l n _ h)
theorem zvK (l:List Nat):∀(n:Nat) (s:Ir),s.at'<=l.length->(zc2 l n s).2.at'<=l.length
 | 0,_,h=>h
 | n+1,s,h=>zvK l n _ (zvf l s h)
theorem zvC (l:List Nat):∀(n:Nat) (s:Ir),s.at'<=l.length->(zbb l n s).2.at'<=l.length
 | 0,_,h=>h
 | n+1,s,h=>zvC l n _ (zvj l 2 s h)
theorem zv7 (l:List Nat)(s:Ir)(h:s.at'<=l.length):(zcK l s).2.at'<=l.length:=by unfold zcK;exact zvK l 8 s h
theorem zxh (l:List Nat)(s:Ir)(h:(zcK l s).2.er=none):s.er=none:=by unfold zcK at h;exact zvY l 8 s h
theorem zvJ (l:List Nat):∀(n:Nat) (s:Ir),(zcy l n s).2.er=none->s.er=none
 | 0,_,h=>h
 | n+1,s,h=>zxh l s (zvJ l n _ h)
theorem zvR (l:List Nat):∀(n:Nat) (s:Ir),s.at'<=l.length->(zcy l n s).2.at'<=l.length
 | 0,_,h=>h
 | n+1,s,h=>zvR l n _ (zv7 l s h)
theorem zvA (l:List Nat):∀(n:Nat) (s:Ir),(zcy l n s).1.length=n
 | 0,_=>rfl
 | n+1,s=>by show (_::_).length=_;rw[List.length_cons,zvA l n]
theorem zw7 (l:List Nat)(ns nc:Nat)(s:Ir)(h:(zcV l ns nc s).2.er=none):(zad l 21 s).2.er=none:=by
 unfold zcV at h;by_cases ho:(zad l 21 s).2.er=none
 . exact ho
 . simp only[if_neg ho] at h;exact absurd h ho
theorem zv8 (l:List Nat)(ns nc:Nat)(s:Ir):(zcV l ns nc s).2=(zad l 21 s).2∨(zcV l ns nc s).2=(zcK l (zad l 21 s).2).2∨(zcV l ns nc s).2=(zad l ns (zad l 21 s).2).2∨(zcV l ns nc s).2=(zad l nc (zad l 21 s).2).2:=by
 unfold zcV;generalize zad l 21 s=o;simp only;by_cases h0:o.2.er=none
 . rw[if_pos h0];by_cases h1:(zY.getD o.1 (0,0,0)).1=1
   . rw[if_pos h1];exact Or.inr (Or.inl rfl)
   . rw[if_neg h1];by_cases h2:(zY.getD o.1 (0,0,0)).1=2
     . rw[if_pos h2];exact Or.inr (Or.inr (Or.inl rfl))
     . rw[if_neg h2];by_cases h3:(zY.getD o.1 (0,0,0)).1=3
       . rw[if_pos h3];exact Or.inr (Or.inr (Or.inr rfl))
       . rw[if_neg h3];exact Or.inl rfl
 . rw[if_neg h0];exact Or.inl rfl
theorem zxm (l:List Nat)(ns nc:Nat)(s:Ir)(h:s.at'<=l.length):(zcV l ns nc s).2.at'<=l.length:=by
 have h1:=zvj l 21 s h;rcases zv8 l ns nc s with e|e|e|e
 . rw[e];exact h1
 . rw[e];exact zv7 l _ h1
 . rw[e];exact zvj l ns _ h1
 . rw[e];exact zvj l nc _ h1
theorem zwQ (l:List Nat)(ns nc:Nat)(s:Ir)(h:(zcV l ns nc s).2.er=none)(sh:Nat×Nat×Nat)(hsh:zY[(zcV l ns nc s).1.1]?=some sh) :
 (sh.1=2->0<=(zcV l ns nc s).1.2/\(zcV l ns nc s).1.2.toNat<ns)/\(sh.1=3->0<=(zcV l ns nc s).1.2/\(zcV l ns nc s).1.2.toNat<nc):=by
 have ho:=zw7 l ns nc s h;unfold zcV at h hsh ⊢;simp only[if_pos ho] at h hsh ⊢;have key:∀k:Nat,zY[k]?=some sh->zY.getD k (0,0,0)=sh:=λk e=>by rw[List.getD_eq_getElem?_getD,e];rfl
 by_cases c1:(zY.getD (zad l 21 s).1 (0,0,0)).1=1
 . rw[if_pos c1] at hsh ⊢;have:=key _ hsh;rw[this] at c1;exact⟨λe=>by omega,λe=>by omega⟩
 . rw[if_neg c1] at h hsh ⊢;by_cases c2:(zY.getD (zad l 21 s).1 (0,0,0)).1=2
   . rw[if_pos c2] at h hsh ⊢;have hk:=key _ hsh;rw[hk] at c2;have:=zh5 h;exact⟨λ_=>⟨by simp,by simpa using this⟩,λe=>by omega⟩
   . rw[if_neg c2] at h hsh ⊢;by_cases c3:(zY.getD (zad l 21 s).1 (0,0,0)).1=3
     . rw[if_pos c3] at h hsh ⊢;have hk:=key _ hsh;rw[hk] at c3;have:=zh5 h;exact⟨λe=>by omega,λ_=>⟨by simp,by simpa using this⟩⟩
     . rw[if_neg c3] at h hsh ⊢;have hk:=key _ hsh;rw[hk] at c2 c3;exact⟨λe=>absurd e c2,λe=>absurd e c3⟩
theorem zvz (ns nc:Nat)(i:Nat×Int):∀(l:List (Nat×Int)) (h h':Nat),zd9 ns nc h l=some h'->zd9 ns nc h (l++[i])=zgT ns nc h' i
 | [],h,h',e=>by
   cases e
   show (match zgT ns nc h i with|none=>none|some h'=>zd9 ns nc h' [])=_;cases zgT ns nc h i <;> rfl
 | j::l,h,h',e=>by
   show (match zgT ns nc h j with|none=>none|some h'=>zd9 ns nc h' (l++[i]))=_;have e':(match zgT ns nc h j with|none=>none|some h'=>zd9 ns nc h' l)=some h':=e;cases hj:zgT ns nc h j with
   | none=>rw[hj] at e';cases e'
   | some g=>rw[hj] at e';exact zvz ns nc i l g h' e'
structure RwK (l:List Nat) (ns nc:Nat) (x:Rw'):Prop where
 i:RwI x
 le:x.s.at'<=l.length
 fit:x.s.er=none->zd9 ns nc 0 x.row=some x.dp.toNat
 few:x.s.er=none->x.row.length<=x.s.at'
theorem zwL {k:Nat}(h:k<21):∃sh,zY[k]?=some sh:=⟨_,zsc (show k<zY.length from h)⟩
theorem zxl (l:List Nat)(ns nc:Nat)(x:Rw')(h:RwK l ns nc x)(hs:x.s.er=none):RwK l ns nc (zc3 l ns nc x):=by
 obtain⟨sh,hsh⟩:=zwL (zpb l ns nc x.s);have e:zY.getD (zcV l ns nc x.s).1.1 (0,0,0)=sh:=by rw[List.getD_eq_getElem?_getD,hsh];rfl
 have hat:(zc3 l ns nc x).s.at'=(zcV l ns nc x.s).2.at':=zks _ _;refine⟨znc l ns nc x h.i hs sh hsh,by rw[hat];exact zxm l ns nc x.s h.le,λhn=>?_,λhn=>?_⟩
 . obtain⟨h1,h2⟩:=zhR _ _ hn;obtain⟨q2,q3⟩:=zwQ l ns nc x.s h1 sh hsh;have h0:=h.i.ok hs
   show zd9 ns nc 0 (x.row++[(zcV l ns nc x.s).1])=some (x.dp-(zY.getD (zcV l ns nc x.s).1.1 (0,0,0)).2.1+(zY.getD (zcV l ns nc x.s).1.1 (0,0,0)).2.2:Int).toNat;rw[zvz ns nc _ _ _ _ (h.fit hs)];simp only[e,decide_eq_true_eq] at h2;unfold zgT;rw[hsh,e];simp only;rw[if_pos ⟨by omega,q2,q3⟩];congr 1;omega
 . have h1:=(zhR _ _ hn).1;have:=znd l ns nc x.s hs h1;have hf:=h.few hs;rw[hat]
   show (x.row++[_]).length<=_;rw[List.length_append,List.length_singleton];omega
theorem zvN (l:List Nat)(ns nc:Nat):∀(f:Nat) (x:Rw'),RwK l ns nc x->zjl l x<f->(zdw l ns nc f x).s.er=none->RwK l ns nc (zdw l ns nc f x)/\goW l (zdw l ns nc f x)=false
 | 0,x,_,hp,_=>by omega
 | f+1,x,hk,hp,hn=>by
   by_cases hg:goW l x=true
   . have hs:x.s.er=none:=(by unfold goW at hg;simp at hg;exact hg.1);have hk':=zxl l ns nc x hk hs;have hpt:=zmw l ns nc x hs hk'.le;have e:zdw l ns nc (f+1) x=zdw l ns nc f (zc3 l ns nc x):=(by rw[zdw,if_pos hg]);rw[e] at hn ⊢;exact zvN l ns nc f _ hk' (by omega) hn
   . have hg':goW l x=false:=(by simpa using hg);rw[zih l ns nc _ x hg'] at hn ⊢;exact⟨hk,hg'⟩
theorem zxg (l:List Nat)(ns nc f:Nat)(x:Rw')(h:(zdw l ns nc f x).s.er=none):x.s.er=none:=by
 by_cases hg:goW l x=true
 . unfold goW at hg;simp at hg;exact hg.1
 . rw[zih l ns nc f x (by simpa using hg)] at h;exact h
theorem zwR (l:List Nat)(s:Ir)(h:s.at'<=l.length):(ziO l s).at'<=l.length:=by
 unfold ziO;have:∀(ms:List Nat) (s:Ir),s.at'<=l.length->(ms.foldl (λs m=>zbU ((zG l s).1==m) (zG l s).2) s).at'<=l.length:=by
  intro ms;induction ms with
  | nil=>intro s h;exact h
  | cons m ms ih=>intro s h;exact ih _ (by rw[zks];exact zvf l s h)
 exact this _ _ h
theorem zwZ (l:List Nat)(s:Ir)(h:s.at'<=l.length):(zdL l s).2.at'<=l.length:=by unfold zdL;simp only;exact zvR l _ _ (zvj l 61 _ (by rw[zks];exact zvf l _ (zvf l _ (zvC l _ _ (zvf l _ h)))))
theorem zwX (l:List Nat)(s:Ir)(hl:∀x∈l,x<256)(h:(zdL l s).2.er=none):(zdL l s).1.bools.length+(zdL l s).1.outs<=(zdL l s).1.slots/\(zdL l s).1.slots<=255/\(zdL l s).1.cells.length<=255:=by
 unfold zdL at *;simp only at *;have h1:=zvJ l _ _ h;have h2:=zwk l 61 _ h1;have h3:=(zhR _ _ h2).2;have h4:=zh5 h1;refine⟨of_decide_eq_true h3,?_,?_⟩
 . have:=zcI l (zG l (zbb l (zG l s).1 (zG l s).2).2).2 hl;omega
 . rw[zvA];omega
theorem zxs {b:List Nat}(hb:∀x∈b,x<256)(hl:b.length<=1048576)(h:cdM b=some c):zlx c/\zd9 c.slots c.cells.length 0 c.row=some 0:=by
 unfold cdM at h;simp only at h;split at h
 . rename_i hr
   have hc:=Option.some.inj h;have h0:(ziO b ⟨0,none⟩).at'<=b.length:=zwR b _ (Nat.zero_le _);have hle:(zdL b (ziO b ⟨0,none⟩)).2.at'<=b.length:=zwZ b _ h0;have hh:=zwX b (ziO b ⟨0,none⟩) hb;generalize zdL b (ziO b ⟨0,none⟩)=H at *
   obtain⟨hk,hg⟩:=zvN b H.1.slots H.1.cells.length (b.length+2) ⟨H.2,0,0,[]⟩
    ⟨⟨(by decide:(-3:Int)<=0),(by decide:(0:Int)<=((0:Nat):Int)),λ_=>(by decide:(0:Int)<=0),Nat.le_refl 0⟩,hle,λ_=>rfl,λ_=>Nat.zero_le _⟩ (by unfold zjl;split <;> omega) hr
   have he0:H.2.er=none:=zxg _ _ _ _ _ hr;obtain⟨R,hR⟩:∃R,zdw b H.1.slots H.1.cells.length (b.length+2) ⟨H.2,0,0,[]⟩=R:=⟨_,rfl⟩;rw[hR] at hr hk hg hc;have hd:R.dp=0:=(by have h1:=hk.i.ok hr;unfold goW at hg;simp[hr] at hg;omega);have hrow:=hk.few hr;have hmx:=hk.i.mx;have hat:=hk.le;have hfit:=hk.fit hr;rw[hd] at hfit;obtain⟨k1,k2,k3⟩:=hh he0;subst hc;refine⟨⟨k1,k2,k3,?_,?_⟩,hfit⟩
   . show R.mx<=3145728;omega
   . show R.row.length<=1048576;omega
 . cases h
theorem zwn {l:List Nat}(hl:∀x∈l,x<256)(h:zcR l=some c):zlx c/\zd9 c.slots c.cells.length 0 c.row=some 0:=by
 unfold zcR at h;obtain⟨b,h1,h2⟩:=Option.bind_eq_some_iff.1 h;unfold zdN at h1;split at h1
 . cases h1
 . rename_i h3
   split at h1
   . have e:=Option.some.inj h1;have hb:∀x∈b,x<256:=λx hx=>hl x (List.mem_of_mem_take (e▸hx));have hlb:b.length<=1048576:=(by rw[<- e,List.length_take];omega);exact zxs hb hlb h2
   . cases h1
end
section
open Go.RowKit
theorem zwu {c:Cd}{ins cells:List Int}{a:Nat}(hok:zlx c)(hfit:zd9 c.slots c.cells.length 0 c.row=some 0):∀j,(plS c ins a cells j).1.length=j*c.outs
 | 0=>by simp[plS]
 | j+1=>by
   have hu:(zve c.bools (inN c.bools.length ins (a+j))).length=c.bools.length:=by
    unfold zve;split
    . rw[zvm,zvn]
    . rw[zvn]
   rw[plS];simp only[List.length_append];rw[zwu hok hfit j,zvu hok hfit hu,Nat.succ_mul]
theorem zxd (w:World)(k:Nat)(hk:k<=1000):Nm (w.alloc (.cells (zbX k) 2)) (xS w.heap.size k k) w.heap.size (List.replicate k 0):=by
 have hb:=zc w (.cells (zbX k) 2);refine⟨_,k,by rw[List.length_replicate],by rw[List.length_replicate];exact Nat.le_refl _,by unfold maxLen;omega,λ_=>⟨0,rfl,λj y hj=>?_⟩⟩;have hy:y=0:=List.eq_of_mem_replicate (List.mem_of_getElem? hj);have hjk:j<k:=by have:=(List.getElem?_eq_some_iff.1 hj).1;simpa using this
 subst hy;have:=zN hb rfl j (xI 0) (by simp[zbX,zK,hjk]);rw[show ((xD w.heap.size 0):Addr).add j=(xD w.heap.size j) from by cases j <;> simp[Addr.add]] at this;rw[Nat.zero_add];exact this
theorem zwY (S:Nat->Addr)(w:World)(hK:Kn S w)(hSn:SnK S w w.heap.size)(hop:zbt w)(hS:zbW w)(ia:Option Addr)(ic g:Nat)(l:List Nat)(hy:By w (.slice ia l.length ic) g l)(hg:g<w.heap.size)(v:Value)(ins:List Int)(hA:Ar w w.heap.size v ins) :
 xK 8 #[.slice ia l.length ic,v] w (λe w'=>e=.returned (.bool true)/\xB w w'):=by
 obtain⟨va,vc,rfl,_,_⟩:=hA.ex;have h21:=hK.gl.size;have HKn:=za (zwN S w hK hSn.sn hSn.ert hop hS);cases hU:zcR l with
 | none =>
   have HLo:=za (λW (hb:xB w W)=>zwc S ia ic g l hU W (hK.bel hb).gl (hS.old (zm hb (Nat.le_refl _)) h21) (hSn.old (zm hb (Nat.le_refl _))).sn (hSn.old (zm hb (Nat.le_refl _))).ert (hy.of (hb.block _ hg)) (Nat.lt_of_lt_of_le hg hb.size));clear hK hSn hop hS hA hy hU;go_enter func8,ntmps8
   go_wp2_with (first
    | (go_at_call 25;refine (HLo.o _ HB1.o).mono ?_;rintro e w2 ⟨rfl,hb⟩;have HB2:=za (HB1.o.trans (hb.mono HB1.o.size));clear hb)
    | (go_at_call 12;refine HKn.o.mono ?_;rintro e w1 ⟨rfl,hb⟩;have HB1:=za hb;clear hb))
   go_ret;exact⟨rfl,HB2.o⟩
 | some c =>
   obtain⟨hok,hfit⟩:=zwn hy.lt hU;have HLo:=za (λW (hb:xB w W)=>zpJ S ia ic g l c hok hU W (hK.bel hb).gl (hS.old (zm hb (Nat.le_refl _)) h21) (hy.of (hb.block _ hg)) (Nat.lt_of_lt_of_le hg hb.size));have HRdy:Hid (∀W m sv slots,xB w W->MM W m sv c c.cells slots->w.heap.size<=m.N->Rdy S W w.heap.size m sv c c.cells slots):=λW m sv slots hb HM hN=>⟨(hK.bel hb).gl,hSn.old (zm hb (Nat.le_refl _)),HM,Nat.le_trans hN HM.mc.n0,Nat.le_trans hN HM.mc.n1,Nat.le_trans hN HM.mc.n2,λj e=>Nat.le_trans hN (HM.mc.mem.own.lt j e).1,hb.size⟩;have HPl:Hid (∀W m sv cells slots,Rdy S W w.heap.size m sv c cells slots->Old w.heap.size w W->xK 19 #[xP m.M,.slice va ins.length vc,xI 0,xI 4] W (zww S w.heap.size m sv c W (plS c ins 0 cells 4))):=λW m sv cells slots hR ho=>zwr S w.heap.size m sv c cells slots W _ ins 0 4 hR hok hfit (hA.fr ho) (by decide) (by decide);have hkk:c.bools.length<=255:=(by have:=hok.outsB;have:=hok.slotsB;omega);have hoo:c.outs<=255:=(by have:=hok.outsB;have:=hok.slotsB;omega);have HLen:=za (zwu (ins:=ins) (cells:=c.cells) (a:=0) hok hfit 4);obtain⟨kk,hkk'⟩:∃kk,c.bools.length=kk:=⟨_,rfl⟩;have HKK:=za hkk';rw[hkk'] at hkk;obtain⟨oo,hoo'⟩:∃oo,c.outs=oo:=⟨_,rfl⟩;have HOO:=za hoo';rw[hoo'] at hoo HLen;obtain⟨Q,HQ⟩:∃Q,plS c ins 0 c.cells 4=Q:=⟨_,rfl⟩;rw[HQ] at HLen;have hw1:IntKind.i64.wrap ((kk:Int)+1)=((kk+1:Nat):Int):=(by rw[IntKind.wrap_i64];omega);have hw2:IntKind.i64.wrap (4*(oo:Int))=((4*oo:Nat):Int):=(by rw[IntKind.wrap_i64];omega);have hmk:∀W:World,(Instr.makeSlice 32 (xI ((kk:Int)+1)) (xI ((kk:Int)+1))).run prog W=.ok (xS W.heap.size (kk+1) (kk+1)) (W.alloc (.cells (zbX (kk+1)) 2)):=λW=>by have h:=zhd (kk+1) (kk+1) (Nat.le_refl _) (by omega) W;rw[show ((kk+1:Nat):Int)=(kk:Int)+1 from by omega] at h;exact h
   clear hK hSn hop hS hA hy hU hkk' hoo';go_enter func8,ntmps8
   go_upto_region 9 with (first
    | (go_at_call 25;refine (HLo.o _ HB1.o).mono ?_;rintro e w2 ⟨m,sv,rfl,HM,hN,hb⟩;have hmN:w.heap.size<=m.N:=Nat.le_trans HB1.o.size hN;have HB2:=za (HB1.o.trans (hb.mono HB1.o.size));clear hb hN)
    | (go_at_call 12;refine HKn.o.mono ?_;rintro e w1 ⟨rfl,hb⟩;have HB1:=za hb;clear hb))
   have HI:=za (zvB m sv c c.cells _ w2 HM);have HU:=za (zwa m sv c c.cells _ w2 HM);rw[HKK.o] at HI;rw[HOO.o] at HU;have HR2:=za (HRdy.o _ _ _ _ HB2.o HM hmN);have HP2:=za (HPl.o _ _ _ _ _ HR2.o (zm HB2.o (Nat.le_refl _)));rw[HQ] at HP2;clear HLo HKn HB1;have i1:¬((kk:Int)<0):=(by omega);have i2:¬((kk:Int) > 1000):=(by omega);have i3:¬((oo:Int)<0):=(by omega);have i4:¬((oo:Int) > 1000):=(by omega);have i5:¬(1000<(kk:Int)):=(by omega);have i6:¬(1000<(oo:Int)):=(by omega)
   go_upto_region 14 with (first
    | (go_at_call 19;refine HP2.o.mono ?_;rintro e w3 ⟨ov,sv3,slots3,rfl,hO3,HR3,HF3,HD3⟩;have HO3:=za hO3;clear hO3)
    | (go_at_call 24;refine HU.o.mono ?_;rintro e wx ⟨rfl,rfl⟩)
    | (go_at_call 20;refine HI.o.mono ?_;rintro e wx ⟨rfl,rfl⟩))
   have hz3:=HF3.fr.size;rw[HLen.o] at HO3;obtain⟨x3,c3,rfl⟩:=zB HO3.o;obtain⟨wa,ewa⟩:∃wa,wa=w3.alloc (.cells (zbX (kk+1)) 2):=⟨_,rfl⟩;have hBa:xB w3 wa:=ewa▸(Below.refl _ w3).alloc (Nat.le_refl _) _;have hRa:=HR3.keep hBa;have HNo:=za (zvx S m sv3 c Q.2 slots3 wa (xS w3.heap.size (kk+1) (kk+1)) w3.heap.size (List.replicate (kk+1) 0) hRa.gl hRa.sn.sn hRa.sn.ert hRa.mm (ewa▸zxd w3 (kk+1) (by omega)) (by unfold zdE;rw[List.length_replicate,HKK.o,if_neg (by omega)];rfl));have htw:w3.alloc (.cells (zbX (kk+1)) 2)=wa:=ewa.symm;have HBa:=za hBa;have HB3:=HB2.o.trans ((HF3.bel HM hmN HB2.o.size));clear ewa hBa hRa HP2 HI HU i1 i2 i3 i4 i5 i6;go_wp2_with (go_at_call 21;refine HNo.o.mono ?_);rintro e w4 ⟨rfl,hB4⟩;have HB34:=za (HBa.o.trans (hB4.mono HBa.o.size));have hz4:=HB34.o.size;have HR4:=za (HR3.keep HB34.o);have HRs:=za (zw1 m sv3 c Q.2 slots3 w4 HR4.o.mm);clear hB4 htw HNo HBa;go_wp2_with (go_at_call 22;refine HRs.o.mono ?_);rintro e w5 ⟨rfl,hM5,HF5⟩;have hF5':MFr m.mb m.b1 m.b2 w4 sv3 w5 sv3:=MFr.ofFr HF5 (λk e=>Or.inr (Or.inl e));have HR5:=za (HR4.o.on hM5 hF5');have HB4:=za (HB3.trans (HB34.o.mono HB3.size));have HB5:=za (HB4.o.trans (hF5'.bel HR4.o.mm hmN HB4.o.size));have hz5:=HF5.size;have HP5:=za (HPl.o _ _ _ _ _ HR5.o (zm HB5.o (Nat.le_refl _)));rw[HQ] at HP5;clear hM5 hF5' HRs;go_wp2_with (go_at_call 19;refine HP5.o.mono ?_);rintro e w6 ⟨ov6,sv6,slots6,rfl,hO6,hR6,hF6,hD6⟩;have hz6:=hF6.fr.size;have HB6:=za (HB5.o.trans (hF6.bel HR5.o.mm hmN HB5.o.size));rw[HLen.o] at hO6;obtain⟨x6,c6,rfl⟩:=zB hO6;have hk3:w6.ownsRow w2.heap.size 2 1 (.slice x3 (4*oo) c3) (4*oo) (zK Q.1):=zi HO3.o (λj hj1 hj2 e=>by
    have hl:=HR2.o.lts;refine (hF6.fr.block j (by omega) (λhs=>?_)).trans ((HF5.block j (by omega) (λe'=>by have:=hl.2.1;omega)).trans (HB34.o.block j hj2));rcases hs with rfl|rfl|rfl|hs
    . have:=hl.1;omega
    . have:=hl.2.1;omega
    . have:=hl.2.2.1;omega
    . exact HD3 j e hs)
   obtain⟨g3,hN3,_⟩:=zvs (l:=Q.1) (by rw[HLen.o];exact hk3);obtain⟨g6,hN6,_⟩:=zvs (l:=Q.1) (by rw[HLen.o];exact hO6);have HSm:=za (zxn _ _ g3 g6 Q.1 w6 hN3 hN6 (by rw[HLen.o];omega));clear hk3 hO6 hR6 hF6 hD6 hN3 hN6 HP5;go_wp2_with (go_at_call 23;refine HSm.o.mono ?_;rintro e w7 ⟨rfl,hB7⟩;have HB7:=za (HB6.o.trans (hB7.mono HB6.o.size));clear hB7);go_ret;exact⟨rfl,HB7.o⟩
end
section
open Go.ChangeShapes Go.WideShapes Go.ChangeAt Go.RowKit
variable {ds:List (DataW Unit)} {l:List (String×DataW Unit)} {g k n:Nat} {nm:String} {e t:TypeId} {W:World}
theorem zhU {P:Program}{w:World}:∀{l:List (String×DataW Unit)} {ps:List MemPlace},DataW.LaidVars P w l ps->∀{k:Nat} {n:String} {d:DataW Unit},l[k]?=some (n,d)->∃g t cs fuel p,P.globalNamed n=some g/\(P.globals[g]?).map (·.type)=some t/\w.var? P n=some cs/\DataW.trod (λ_=>()) P w 0 (λ_=>true) false fuel t cs.toList=some (d,p)/\∀x∈MemPlace.row (xD g 0) cs.size,x∈ps:=by
 intro l;induction l with
 | nil=>intro ps _ k n d hk;simp at hk
 | cons x l ih =>
   obtain⟨n0,d0⟩:=x;rintro ps ⟨g,t,cs,fuel,p,q,h1,h2,h3,h4,h5,h6⟩ k n d hk;cases k with
   | zero => simp at hk;obtain⟨rfl,rfl⟩:=hk;exact⟨g,t,cs,fuel,p,h1,h2,h3,h4,λx hx=>by rw[h6];simp[hx]⟩
   | succ k => obtain⟨g',t',cs',fuel',p',e1,e2,e3,e4,e5⟩:=ih h5 (k:=k) (by simpa using hk);exact⟨g',t',cs',fuel',p',e1,e2,e3,e4,λx hx=>by rw[h6];simp[e5 x hx]⟩
theorem Tryz.star: "*"++ "errors.errorString"= "*errors.errorString":=by decide
theorem Tryz.rowErr (u:TypeId)(h:prog.typeName? 3 u=some "*errors.errorString"):u=324 :=
 typeName_ptr_named (nm:= "errors.errorString") (by rw[Tryz.star];kernel_rfl) (by kernel_rfl) (by decide) u (by rw[Tryz.star];exact h)
theorem Tryz.cellsErr:prog.cellsOf 326=1:=by kernel_rfl
theorem Tryz.cellsStr:prog.cellsOf 9=1:=by kernel_rfl
theorem zcl (h:laidMet prog l W){n:String}{text:List UInt8}(hk:l[k]?=some (n,.iface "*errors.errorString" (.ptr (.agg [.lit (.string text)]))))(hg:prog.globalNamed n=some g)(ht:(prog.globals[g]?).map (·.type)=some 53) :
 ∃a,W.cell? (xD g 0)=some (.iface 324 (.pointer (some a))):=by
 obtain⟨ps,hL,_,hrows⟩:=h;obtain⟨g',t,cs,fuel,p,e1,e2,e3,e4,e5⟩:=zhU hL hk;obtain rfl:=Option.some.inj (hg.symm.trans e1);obtain rfl:=Option.some.inj (ht.symm.trans e2);obtain⟨l0⟩:=cs;have ok:∀u v,l0=[.iface u v]->Value.okWide prog W .any 0 u v:=λu v e=>by subst e;exact (hrows g 0 (e5 _ (by simp[MemPlace.row]))).2 u v (by simpa using World.var?_cell e1 e3 0)
 obtain⟨a,s,rfl,_⟩:=errorString_of_trod underlying53 Tryz.rowErr underlying324 underlying326 rfl rfl underlying9 Tryz.cellsErr Tryz.cellsStr e4 ok;exact⟨a,by simpa using World.var?_cell e1 e3 0⟩
theorem zjE (h:laidMet prog l W)(hk:l[k]?=some (nm,.agg ds))(hg:prog.globalNamed nm=some g)(ht:(prog.globals[g]?).map (·.type)=some t)(hu:prog.underlying t=some (.array n e))(hc:prog.cellsOf e=1)(hct:prog.cellsOf t=n) :
 ∀i,i<n->∃v f x,W.cell? (xD g i)=some v/\DataW.trod (λ_=>()) prog W 0 (λ_=>true) false f e [v]=some x/\ds[i]?=some x.1:=by
 obtain⟨ps,hL,_,hrows⟩:=h;obtain⟨g',t',cs,fuel,p,e1,e2,e3,e4,e5⟩:=zhU hL hk;obtain rfl:=Option.some.inj (hg.symm.trans e1);obtain rfl:=Option.some.inj (ht.symm.trans e2);obtain⟨xs,m,_,hx,hl,hn,hel⟩:=DataW.trod_array hu e4;intro i hi;have h1:=hel i hi;rw[hc] at h1;obtain⟨x,hx1⟩:∃x,xs[i]?=some x:=⟨_,zsc (by omega)⟩;rw[hx1] at h1;have hds:ds=xs.map (·.1):=by have:=congrArg Prod.fst hx;simpa using this
 simp only[Nat.mul_one] at h1;rcases hd:cs.toList.drop i with _|⟨v,r⟩
 . have:=List.drop_eq_nil_iff.1 hd;rw[hct] at hl;omega
 . rw[hd] at h1;refine⟨v,m,x,?_,by simpa using h1,by rw[hds,List.getElem?_map,hx1];rfl⟩;have hv:cs[i]?=some v:=by
    have:cs.toList[i]?=some v:=by have:=congrArg (λl=>l[0]?) hd;simpa [List.getElem?_drop] using this
    simpa using this
   rw[World.var?_cell e1 e3 i];exact hv
theorem zpE (h:laidMet prog l W){f0 f1 f2:Field}(hk:l[k]?=some (nm,.agg ds))(hg:prog.globalNamed nm=some g)(ht:(prog.globals[g]?).map (·.type)=some t)(hu:prog.underlying t=some (.array n e))(hs:prog.underlying e=some (.struct #[f0,f1,f2]))(h0:f0.offset=0)(h1:f1.offset=1)(h2:f2.offset=2)(u0:prog.underlying f0.type=some (.int .i64))(u1:prog.underlying f1.type=some (.int .i64))(u2:prog.underlying f2.type=some (.int .i64))(c0:prog.cellsOf f0.type=1)(c1:prog.cellsOf f1.type=1)(c2:prog.cellsOf f2.type=1)(hc:prog.cellsOf e=3) :
 ∀i,i<n->∃a b c:Int,W.cell? (xD g (i*3))=some (xI a)/\W.cell? (xD g (i*3+1))=some (xI b)/\W.cell? (xD g (i*3+2))=some (xI c)/\ds[i]?=some (.agg [.lit (.int .i64 a),.lit (.int .i64 b),.lit (.int .i64 c)]):=by
 obtain⟨ps,hL,_,hrows⟩:=h;obtain⟨g',t',cs,fuel,p,e1,e2,e3,e4,e5⟩:=zhU hL hk;obtain rfl:=Option.some.inj (hg.symm.trans e1);obtain rfl:=Option.some.inj (ht.symm.trans e2);obtain⟨xs,m,_,hx,hl,hn,hel⟩:=DataW.trod_array hu e4;intro i hi;have hi1:=hel i hi;rw[hc] at hi1;obtain⟨x,hx1⟩:∃x,xs[i]?=some x:=⟨_,zsc (by omega)⟩;rw[hx1] at hi1;have hds:ds=xs.map (·.1):=by have:=congrArg Prod.fst hx;simpa using this
 obtain⟨y0,y1,y2,m2,rfl,hl3,t0,t1,t2⟩:=Deep.trod_struct3 hs hi1;rw[h0,c0] at t0;rw[h1,c1] at t1;rw[h2,c2] at t2;obtain⟨a,q0,rfl,_⟩:=DataW.trod_int u0 t0;obtain⟨b,q1,rfl,_⟩:=DataW.trod_int u1 t1;obtain⟨c,q2,rfl,_⟩:=DataW.trod_int u2 t2;have key:∀j v,j<3->(((cs.toList.drop (i*3)).take 3).drop j).take 1=[v]->W.cell? (xD g (i*3+j))=some v:=by
  intro j v hj hv;rw[World.var?_cell e1 e3 (i*3+j)];have:=congrArg (λl=>l[0]?) hv;simp only[List.getElem?_take,List.getElem?_drop] at this;have h3:cs.toList[i*3+j]?=some v:=by simpa [hj] using this
  simpa using h3
 refine⟨a,b,c,by simpa using key 0 _ (by decide) q0,key 1 _ (by decide) q1,key 2 _ (by decide) q2,?_⟩;rw[hds,List.getElem?_map,hx1];rfl
end
end Go.Proofs.YtbicmofihhjgbaaGreatDoor
