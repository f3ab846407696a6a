/- Part 42 of the proof: PlC CanA CanB CanM CanC. -/
import Derived.Lib.ItoaNum
import Derived.Shelf.Strings.Builder1
import Derived.Test.YtbicmofihhjgbaaGreatDoorK40
set_option maxRecDepth 100000
set_option maxHeartbeats 8000000
namespace Go.Proofs.YtbicmofihhjgbaaGreatDoor
open Go.Proofs.Tryz
section
open Go.RowKit
theorem zvp (a b:List Int):zK (a++b)=zK a++zK b:=by simp[zK]
theorem zwH {w:World}{B g n cp sz:Nat}{e:TypeId}{xs:List Value}(h:w.ownsRow B e sz (xS g n cp) n xs)(i:Nat):w.frozen? (xD g i)=false:=by
 rcases h.2 with ⟨e,_⟩|⟨g',cap,cur,e,_,hb,_⟩
 . cases e
 . cases e;exact Lib.frozen_of_heap hb i
theorem zvu {c:Cd}{cells l:List Int}(hok:zlx c)(hfit:zd9 c.slots c.cells.length 0 c.row=some 0)(hl:l.length=c.bools.length):(zcX c (zbm c cells l)).length=c.outs:=by
 have hs:(zdY c.slots l).length=c.slots:=by have:=hok.outsB;simp[zdY];omega
 have:=(zkI c.row 0 0 ⟨cells,zdY c.slots l,[]⟩ hfit rfl).2.2;refine zoy (R:=zbm c cells l) ?_ hok.outsB;unfold zbm;rw[this];exact hs
def zww (S:Nat->Addr)(N:Nat)(m:Ma)(sv:Value)(c:Cd)(w:World)(Q:List Int×List Int)(e:Ending)(w':World):Prop :=
 ∃ov sv' slots',e=.returned ov/\w'.ownsRow w.heap.size 2 1 ov Q.1.length (zK Q.1)/\Rdy S w' N m sv' c Q.2 slots'/\MFr m.mb m.b1 m.b2 w sv w' sv'/\(∀j,ov.ownBlock=some j->¬sv'.ownBlock=some j)
theorem zwr (S:Nat->Addr)(N:Nat)(m:Ma)(sv:Value)(c:Cd)(cells slots:List Int)(w:World)(v:Value)(ins:List Int)(a b:Nat)(h:Rdy S w N m sv c cells slots)(hok:zlx c)(hfit:zd9 c.slots c.cells.length 0 c.row=some 0)(HAr:Ar w N v ins)(hab:a<=b)(hb8:b<=8) :
 xK 19 #[xP m.M,v,xI a,xI b] w (zww S N m sv c w (plS c ins a cells (b-a))):=by
 obtain⟨i0,hi,hi0,hi1,hi2⟩:=info_parts Tryz.infoI64;obtain⟨aa,ca,rfl,hl63,_⟩:=HAr.ex;have HIn:=za (zvB m sv c cells slots w h.mm);have HR0:=za h;have hkk:c.bools.length<=255:=by have:=hok.outsB;have:=hok.slotsB;omega
 have hoo:c.outs<=255:=by have:=hok.outsB;have:=hok.slotsB;omega
 obtain⟨kk,hkk'⟩:∃kk,c.bools.length=kk:=⟨_,rfl⟩;rw[hkk'] at HIn hkk;have HKK:=za hkk';obtain⟨il,HIL⟩:∃il,ins.length=il:=⟨_,rfl⟩;rw[HIL] at hl63 ⊢;clear h hkk';go_enter func19,ntmps19;go_upto_region 4 with (go_at_call 20;refine HIn.o.mono ?_;rintro e w1 ⟨rfl,rfl⟩);go_loopg [9,11] (b-a+1) (λj ov nv wr=>∃(i:Nat) (xo:Option Addr) (co LO:Nat) (sv1:Value) (slots1:List Int),i+j=b-a+1/\i<=b-a/\nv=xI ((a+i:Nat):Int)/\ov=.slice xo LO co/\Hid (LO=(plS c ins a cells i).1.length)/\Hid (wr.ownsRow w.heap.size 2 1 (.slice xo LO co) LO (zK (plS c ins a cells i).1))/\Hid (Rdy S wr N m sv1 c (plS c ins a cells i).2 slots1)/\Hid (MFr m.mb m.b1 m.b2 w sv wr sv1)/\Hid (∀j,(Value.slice xo LO co).ownBlock=some j->¬sv1.ownBlock=some j));case atStart=>exact⟨0,none,0,0,sv,slots,by omega,Nat.zero_le _,rfl,rfl,rfl,World.ownsRow_nil _ _ _ _,HR0,MFr.refl _ _ _ _ _,za (λj e=>by simp[Value.ownBlock] at e)⟩
 case round =>
  obtain⟨i,xo,co,LO,sv1,slots1,hij,hib,rfl,rfl,HLO,HO,HR,HF,HD⟩:=hrel;obtain⟨PP,HP⟩:∃P,plS c ins a cells i=P:=⟨_,rfl⟩;rw[HP] at HLO HO HR;obtain⟨n,HN⟩:∃n,a+i=n:=⟨_,rfl⟩;have hn8:n<=8:=by omega
  have hLO8:LO<=255*8:=by
   have e:∀i,i<=8->(plS c ins a cells i).1.length<=255*i/\(plS c ins a cells i).2.length=c.cells.length:=by
    intro i;induction i with
    | zero=>intro _;exact⟨Nat.zero_le _,HR0.o.mm.mc.lc⟩
    | succ i ih =>
      intro hi;obtain⟨h1,h2⟩:=ih (by omega);have hu:(zve c.bools (inN c.bools.length ins (a+i))).length=c.bools.length:=by
       unfold zve;split
       . rw[zvm,zvn]
       . rw[zvn]
      have h3:=zvu (cells:=(plS c ins a cells i).2) hok hfit hu;refine⟨?_,?_⟩
      . rw[plS];simp only[List.length_append];omega
      . rw[plS];have:=(zkI c.row 0 0 ⟨(plS c ins a cells i).2,zdY c.slots (zve c.bools (inN c.bools.length ins (a+i))),[]⟩ hfit rfl).2.1;exact this.trans h2
   have:=(e i (by omega)).1;rw[HP] at this;have:=HLO.o;omega
  rw[HN];have hlt1:∀x:Nat,((a+i:Nat):Int)<(b:Int)↔n<b:=λ_=>by omega
  clear hlt1;obtain⟨wo,HWo⟩:∃wo,wo=wr:=⟨_,rfl⟩;obtain⟨go,ego⟩:∃go,go=gk:=⟨_,rfl⟩;by_cases hlt:n<b
  . have hlt':(n:Int)<(b:Int):=by omega
    go_upto_region 8 with fail;have hw1:IntKind.i64.wrap ((n:Int)*(kk:Int))=((n*kk:Nat):Int):=(by have:n*kk<=8*255:=Nat.mul_le_mul hn8 hkk;rw[IntKind.wrap_i64];have e:((n*kk:Nat):Int)=(n:Int)*(kk:Int):=Int.natCast_mul n kk;omega);obtain⟨nk,HNK⟩:∃nk,n*kk=nk:=⟨_,rfl⟩;have hnk8:nk<=8*255:=(by rw[<- HNK];exact Nat.mul_le_mul hn8 hkk);rw[HNK] at hw1;obtain⟨IL,HILe⟩:∃IL,inN kk ins n=IL:=⟨_,rfl⟩;have HILl:=za (show IL.length=kk by rw[<- HILe,zvn]);rw[<- HWo];rw[<- HWo] at HO HR HF;go_loopg [12,13] (kk+1) (λj iv qv wq=>∃(q:Nat) (xi:Option Addr) (ci:Nat),q+j=kk+1/\q<=kk/\qv=xI q/\iv=.slice xi q ci/\Hid (wq.ownsRow wo.heap.size 2 1 (.slice xi q ci) q (zK (IL.take q)))/\Hid (xB wo wq));case atStart=>exact⟨0,none,0,by omega,Nat.zero_le _,rfl,rfl,World.ownsRow_nil _ _ _ _,Below.refl _ _⟩
    case round =>
     obtain⟨q,xi,ci,hqj,hqk,rfl,rfl,HOi,HBi⟩:=hrel;have hzi:=HBi.o.size;by_cases hq:q<kk
     . have hq':(q:Int)<(kk:Int):=(by omega);have hw2:IntKind.i64.wrap ((nk:Int)+(q:Int))=((nk+q:Nat):Int):=(by rw[IntKind.wrap_i64];omega);have mx:q+1<=maxLen:=(by unfold maxLen;omega);have by':(q+1)*8<=140737488355328:=(by omega);by_cases hin:nk+q<il
       . have hin':((nk+q:Nat):Int)<(il:Int):=(by omega);obtain⟨x,hx⟩:∃x,ins[nk+q]?=some x:=⟨_,zsc (by have:=HIL;omega)⟩;have HX:=za hx;have hoN:Old N w wr:=λj hj=>((zm HBi.o (Nat.le_refl _)) j (by have:=HR.o.sz;omega)).trans ((HF.o.old HR0.o.sz HR0.o.n0 HR0.o.n1 HR0.o.n2 HR0.o.ns) j hj);obtain⟨_,_,ev1,_,hcell1⟩:=(HAr.fr hoN).ex;cases ev1;obtain⟨g1,o1,rfl,hg1,hcl1⟩:=hcell1 (by intro e;rw[e] at hx;simp at hx);have hc1:=hcl1 (nk+q) x hx;have hgz:g1<wr.heap.size:=(by have:=HR.o.sz;omega);clear hcl1 hcell1 hx hoN;go_wp2_with (at_builtin;refine ztO _ rfl (.tmp 47) (.tmp 49) rfl wo.heap.size xi ci q _ (x) rfl HOi.o rfl mx by' (by omega) ?_;intro g9 cap9 w9 h9 f9;have HF9:=za f9;have Hown9:=za h9;clear h9 f9);go_roundg (gk-1);case measure=>omega
         refine⟨q+1,_,_,by omega,by omega,by go_num,rfl,?_,?_⟩
         . have e1:zK (IL.take q)++[xI (x)]=zK (IL.take (q+1)):=(by rw[<- HILe,zvL hq,zvp,HNK,List.getD_eq_getElem?_getD,HX.o];rfl);refine za ?_;rw[<- e1];exact Hown9.o
         . exact za (HBi.o.trans ((((Fr.refl _ wr).alloc _).trans' HF9.o (λi _ e=>e)).below (B:=wo.heap.size) (by omega) (λk e=>(HOi.o.lt _ e).1)))
       . have hin':¬(((nk+q:Nat):Int)<(il:Int)):=(by omega);have HX:Hid (ins[nk+q]?=none):=List.getElem?_eq_none (by have:=HIL;omega);go_wp2_with (at_builtin;refine ztO _ rfl (.tmp 47) (.tmp 49) rfl wo.heap.size xi ci q _ (0) rfl HOi.o rfl mx by' (by omega) ?_;intro g9 cap9 w9 h9 f9;have HF9:=za f9;have Hown9:=za h9;clear h9 f9);go_roundg (gk-1);case measure=>omega
         refine⟨q+1,_,_,by omega,by omega,by go_num,rfl,?_,?_⟩
         . have e1:zK (IL.take q)++[xI (0)]=zK (IL.take (q+1)):=(by rw[<- HILe,zvL hq,zvp,HNK,List.getD_eq_getElem?_getD,HX.o];rfl);refine za ?_;rw[<- e1];exact Hown9.o
         . exact za (HBi.o.trans ((((Fr.refl _ wr).alloc _).trans' HF9.o (λi _ e=>e)).below (B:=wo.heap.size) (by omega) (λk e=>(HOi.o.lt _ e).1)))
     . have hq':¬((q:Int)<(kk:Int)):=(by omega);obtain rfl:kk=q:=(by omega);rw[List.take_of_length_le (by rw[HILl.o];exact Nat.le_refl _)] at HOi;clear hq hqj hqk;by_cases hrf:(zdE c.bools IL).isSome=true
       . have HUse:Hid (zve c.bools (inN c.bools.length ins n)=zu8 IL):=(by show zve _ _=_;rw[HKK.o,HILe];unfold zve;rw[if_pos hrf]);have HLL:(zu8 IL).length=c.bools.length:=(by rw[zvm,HILl.o,HKK.o]);have HRF:zdE c.bools (zu8 IL)=none:=zxj (by rw[HILl.o,HKK.o]);have hk0:0<kk:=by
          rcases Nat.eq_zero_or_pos kk with e|e
          . exfalso;have h1:IL=[]:=List.eq_nil_of_length_eq_zero (by rw[HILl.o,e]);have h2:c.bools=[]:=List.eq_nil_of_length_eq_zero (by rw[HKK.o,e]);rw[h1,h2] at hrf;simp[zdE,zeK] at hrf
          . exact e
         obtain⟨gr,cr,er,_⟩:=zM HOi.o hk0;cases er;have HRi:=za (HR.o.keep HBi.o);obtain⟨gi,hNm,hgi⟩:=zvs (l:=IL) (w:=wr) (B:=wo.heap.size) (v:=(xS gr kk ci)) (by rw[HILl.o];exact HOi.o);have HStN:=za (zvx S m sv1 c PP.2 slots1 wr (xS gr kk ci) gi IL HRi.o.gl HRi.o.sn.sn HRi.o.sn.ert HRi.o.mm hNm hrf);have HWf:=za (show ∀x∈IL,-9223372036854775808<=x/\x<=9223372036854775807 by rw[<- HILe];exact zxz HAr.wf);clear hNm hgi hrf;go_upto_region 17 with (go_at_call 21;refine HStN.o.mono ?_;rintro e w3 ⟨rfl,HB3⟩);have HO3:=za (zi HOi.o (λj _ hj _=>HB3.block j hj));have HBw3:=za (HBi.o.trans (HB3.mono hzi));clear HStN HRi;go_loopg [17] (kk+1) (λj qv wt=>∃q:Nat,q+j=kk+1/\q<=kk/\qv=xI q/\Hid (wt.ownsRow wo.heap.size 2 1 (xS gr kk ci) kk (zK (zvl IL q)))/\Hid (xB wo wt));case atStart=>exact⟨0,by omega,Nat.zero_le _,rfl,za (by simpa [zvl,zu8] using HO3.o),HBw3⟩
         case round =>
          obtain⟨q,hqj,hqk,rfl,HOt,HBt⟩:=hrel;have hzt:=HBt.o.size;by_cases hq:q<kk
          . have hq'':(q:Int)<(kk:Int):=(by omega);obtain⟨x,hx⟩:∃x,IL[q]?=some x:=⟨_,zsc (by rw[HILl.o];exact hq)⟩;have hxc:xC wr gr q (xI x):=zhv HOt.o (j:=q) (u:=(xI x)) (by simp[zK,zxb hx]);have hxf:wr.frozen? (xD gr q)=false:=zwH HOt.o q;have hgr:=HOt.o.lt gr rfl;have HTr:=za (zjr x (HWf.o x (List.mem_of_getElem? hx)) wr);have HBt2:=za (zcm (odd x) wr);have HX:=za hx;have hgrz:=hgr.2;clear hx
            go_wp2_with (first
             | (go_at_call 16;refine HTr.o.mono ?_;rintro e wz ⟨rfl,rfl⟩)
             | (go_at_call 18;refine HBt2.o.mono ?_;rintro e wz ⟨rfl,rfl⟩))
            go_roundg (gk-1);case measure=>omega
            refine⟨q+1,by omega,by omega,by go_num,?_,?_⟩
            . refine za ?_;have e1:zK (zvl IL (q+1))=(zK (zvl IL q)).set q (xI (zbV (odd x))):=(by rw[<- zxi HX.o];simp[zK,List.map_set]);rw[e1];exact zw8 HOt.o _
            . exact za (HBt.o.setCell (p:=(xD gr q)) hgr.1 _)
          . have hq'':¬((q:Int)<(kk:Int)):=(by omega);obtain rfl:kk=q:=(by omega);have HOX:Hid (wr.ownsRow wo.heap.size 2 1 (xS gr kk ci) (zu8 IL).length (zK (zu8 IL))):=(by have h1:=HOt.o;have e1:zvl IL kk=zu8 IL:=(by unfold zvl;rw[List.take_of_length_le (by rw[HILl.o];exact Nat.le_refl _),List.drop_eq_nil_of_le (by rw[HILl.o];exact Nat.le_refl _),List.append_nil]);rw[e1] at h1;have e2:(zu8 IL).length=kk:=(by rw[zvm,HILl.o]);rw[e2];exact h1);have HBX:=HBt;clear HOt HOi HO3 hq hqj hqk;have HRx:=za (HR.o.keep HBX.o);obtain⟨gi,hNm,hgi⟩:=zvs (l:=(zu8 IL)) HOX.o;have HSt:=za (zug S m sv1 c PP.2 slots1 wr (xS gr kk ci) gi (zu8 IL) HRx.o.gl HRx.o.mm hNm (λhne e=>by have:=(hgi hne).1;have:=HR.o.lts.2.2.1;omega) HRF hfit);obtain⟨R,HRR⟩:∃R,zbm c PP.2 (zu8 IL)=R:=⟨_,rfl⟩;have HRo:=za (zvu (cells:=PP.2) hok hfit HLL);rw[HRR] at HSt HRo;clear hNm hgi;go_upto_region 23 with (go_at_call 21;refine HSt.o.mono ?_;rintro e w5 ⟨ob,sv2,rfl,q1,Q2,Q3,Q4⟩;have hz5:=Q4.fr.size);have HO5:Hid (w5.ownsRow w.heap.size 2 1 (.slice xo LO co) LO (zK PP.1)):=zi HO.o (λj _ hj e=>(Q4.fr.block j (by have:=HBX.o.size;omega) (λhs=>by
             have h1:=(HO.o.lt j e).1;have h2:=HR0.o.lts;rcases hs with rfl|rfl|rfl|hs
             . omega
             . omega
             . omega
             . exact HD.o j e hs)).trans (HBX.o.block j hj))
            have mx:LO+c.outs<=maxLen:=(by unfold maxLen;omega);have by':(LO+c.outs)*8<=140737488355328:=(by omega);have HlenO:Hid ((zK (zcX c R)).length=c.outs*1):=(by show _=_;rw[zbS,HRo.o];omega);go_wp2_with (at_builtin;refine zbz _ rfl (.tmp 82) (.tmp 83) 32 rfl w.heap.size 2 i0 _ 1 8 underlying32 hi hi0 hi1 hi2 rfl (by decide) _ LO (zK PP.1) rfl HO5.o (xD ob 0) c.outs c.outs (zK (zcX c R)) rfl HlenO.o (zN Q2 rfl) zfs mx by' (by have:=HR0.o.sz;have:=HF.o.fr.size;have:=HBX.o.size;omega) ?_;intro v9 w9 hown9 hgrow9 Hnew9;obtain⟨x9,c9,rfl⟩:=zbP hown9;have Hown9:=za hown9;have HF9:=za (Fr.of_grown hgrow9);clear hown9 hgrow9);go_roundg (go-1);case measure=>omega
            have hR5:Rdy S w5 N m sv2 c R.cells R.slots:=HRx.o.on Q3 Q4;have hsv2:∀j,(Value.slice xo LO co).ownBlock=some j->¬sv2.ownBlock=some j:=λj e e2=>by
             rcases Q4.new j e2 with e3|e3
             . exact HD.o j e e3
             . have:=(HO.o.lt j e).2;have:=HBX.o.size;omega
            have hb:=HR0.o.lts;have hMlt:=ze HR0.o.mm.blk;have hR9:Rdy S w9 N m sv2 c R.cells R.slots:=hR5.row (B:=w.heap.size) HF9.o (λj e=>⟨(HO.o.lt j e).1,hsv2 j e⟩) HR0.o.mm.mc.mem.hB hMlt hb.1 hb.2.1 hb.2.2.1 HR0.o.sz;have hPs:plS c ins a cells (i+1)=(PP.1++zcX c R,R.cells):=(by rw[plS,HP,HN,HUse.o,HRR]);refine⟨i+1,x9,c9,LO+c.outs,sv2,R.slots,by have:=HN;omega,by have:=HN;omega,by have hn9:=HN;go_num,rfl,?_,?_,?_,?_,?_⟩
            . refine za ?_;rw[hPs,List.length_append,<- HLO.o,HRo.o]
            . refine za ?_;rw[hPs,zvp];exact Hown9.o
            . refine za ?_;rw[hPs];exact hR9
            . have f1:MFr m.mb m.b1 m.b2 w sv wr sv1:=HF.o.trans (MFr.ofFr (T:=λ_=>False) (Fr.of_below HBX.o) (λ_ e=>e.elim));have f2:=f1.trans Q4;refine za ⟨f2.fr.trans' HF9.o (λj hj e=>?_),λj e=>?_⟩
              . have:=(HO.o.lt j e).1;omega
              . exact f2.new j e
            . refine za (λj e e2=>?_);rcases Hnew9 j e with e3|e3
              . exact hsv2 j e3 e2
              . have:=(hR5.mm.mc.mem.own.lt j e2).2;omega
       . have HUse:Hid (zve c.bools (inN c.bools.length ins n)=IL):=(by show zve _ _=_;rw[HKK.o,HILe];unfold zve;rw[if_neg hrf]);have HLL:IL.length=c.bools.length:=(by rw[HILl.o,HKK.o]);have HRF:zdE c.bools IL=none:=by
          cases hc:zdE c.bools IL with
          | none=>rfl
          | some y=>rw[hc] at hrf;exact absurd rfl hrf
         have HOX:Hid (wr.ownsRow wo.heap.size 2 1 (.slice xi kk ci) IL.length (zK IL)):=(by show wr.ownsRow _ _ _ _ _ _;rw[HILl.o];exact HOi.o);have HBX:=HBi;clear hrf;have HRx:=za (HR.o.keep HBX.o);obtain⟨gi,hNm,hgi⟩:=zvs (l:=IL) HOX.o;have HSt:=za (zug S m sv1 c PP.2 slots1 wr (.slice xi kk ci) gi IL HRx.o.gl HRx.o.mm hNm (λhne e=>by have:=(hgi hne).1;have:=HR.o.lts.2.2.1;omega) HRF hfit);obtain⟨R,HRR⟩:∃R,zbm c PP.2 IL=R:=⟨_,rfl⟩;have HRo:=za (zvu (cells:=PP.2) hok hfit HLL);rw[HRR] at HSt HRo;clear hNm hgi;go_upto_region 23 with (go_at_call 21;refine HSt.o.mono ?_;rintro e w5 ⟨ob,sv2,rfl,q1,Q2,Q3,Q4⟩;have hz5:=Q4.fr.size);have HO5:Hid (w5.ownsRow w.heap.size 2 1 (.slice xo LO co) LO (zK PP.1)):=zi HO.o (λj _ hj e=>(Q4.fr.block j (by have:=HBX.o.size;omega) (λhs=>by
          have h1:=(HO.o.lt j e).1;have h2:=HR0.o.lts;rcases hs with rfl|rfl|rfl|hs
          . omega
          . omega
          . omega
          . exact HD.o j e hs)).trans (HBX.o.block j hj))
         have mx:LO+c.outs<=maxLen:=(by unfold maxLen;omega);have by':(LO+c.outs)*8<=140737488355328:=(by omega);have HlenO:Hid ((zK (zcX c R)).length=c.outs*1):=(by show _=_;rw[zbS,HRo.o];omega);go_wp2_with (at_builtin;refine zbz _ rfl (.tmp 82) (.tmp 83) 32 rfl w.heap.size 2 i0 _ 1 8 underlying32 hi hi0 hi1 hi2 rfl (by decide) _ LO (zK PP.1) rfl HO5.o (xD ob 0) c.outs c.outs (zK (zcX c R)) rfl HlenO.o (zN Q2 rfl) zfs mx by' (by have:=HR0.o.sz;have:=HF.o.fr.size;have:=HBX.o.size;omega) ?_;intro v9 w9 hown9 hgrow9 Hnew9;obtain⟨x9,c9,rfl⟩:=zbP hown9;have Hown9:=za hown9;have HF9:=za (Fr.of_grown hgrow9);clear hown9 hgrow9);go_roundg (go-1);case measure=>omega
         have hR5:Rdy S w5 N m sv2 c R.cells R.slots:=HRx.o.on Q3 Q4;have hsv2:∀j,(Value.slice xo LO co).ownBlock=some j->¬sv2.ownBlock=some j:=λj e e2=>by
          rcases Q4.new j e2 with e3|e3
          . exact HD.o j e e3
          . have:=(HO.o.lt j e).2;have:=HBX.o.size;omega
         have hb:=HR0.o.lts;have hMlt:=ze HR0.o.mm.blk;have hR9:Rdy S w9 N m sv2 c R.cells R.slots:=hR5.row (B:=w.heap.size) HF9.o (λj e=>⟨(HO.o.lt j e).1,hsv2 j e⟩) HR0.o.mm.mc.mem.hB hMlt hb.1 hb.2.1 hb.2.2.1 HR0.o.sz;have hPs:plS c ins a cells (i+1)=(PP.1++zcX c R,R.cells):=(by rw[plS,HP,HN,HUse.o,HRR]);refine⟨i+1,x9,c9,LO+c.outs,sv2,R.slots,by have:=HN;omega,by have:=HN;omega,by have hn9:=HN;go_num,rfl,?_,?_,?_,?_,?_⟩
         . refine za ?_;rw[hPs,List.length_append,<- HLO.o,HRo.o]
         . refine za ?_;rw[hPs,zvp];exact Hown9.o
         . refine za ?_;rw[hPs];exact hR9
         . have f1:MFr m.mb m.b1 m.b2 w sv wr sv1:=HF.o.trans (MFr.ofFr (T:=λ_=>False) (Fr.of_below HBX.o) (λ_ e=>e.elim));have f2:=f1.trans Q4;refine za ⟨f2.fr.trans' HF9.o (λj hj e=>?_),λj e=>?_⟩
           . have:=(HO.o.lt j e).1;omega
           . exact f2.new j e
         . refine za (λj e e2=>?_);rcases Hnew9 j e with e3|e3
           . exact hsv2 j e3 e2
           . have:=(hR5.mm.mc.mem.own.lt j e2).2;omega
  . have hlt':¬((n:Int)<(b:Int)):=by omega
    have ei:i=b-a:=(by have:=HN;omega);go_wp2_with fail;go_ret;subst ei;refine⟨.slice xo LO co,sv1,slots1,rfl,?_,?_,HF.o,HD.o⟩
    . rw[HP,<- HLO.o];exact HO.o
    . rw[HP];exact HR.o
end
section
open Go.RowKit
variable {ts:List ByteArray} {B lb:Nat} {tv tv':Value} {w w':World}
theorem Tryz.infoStr:(prog.info? 9).map (λi=>(i.zero,i.size,i.bytes))=some (some (.string ⟨#[]⟩),1,16):=by kernel_rfl
theorem zxa (lb B:Nat)(tv:Value)(n:Nat)(xs:List Value)(g k c:Nat)(news:List Value)(w:World)(Hb:xH w lb #[tv] 93)(hown:w.ownsRow B 9 1 tv n xs)(hlB:lb<B)(hBw:B<=w.heap.size)(hl:news.length=k)(Hn:∀j u,news[j]?=some u->w.cell? (((xD g 0):Addr).add j)=some u)(H1:∀u∈news,u.oneCell'=true)(hk:n+k<=1000000) :
 xK 89 #[xP lb,xS g k c] w (λe w'=>e=.returned (.tuple #[])/\∃v',w'.heap[lb]?=some (.cells #[v'] 93 (0,0))/\w'.ownsRow B 9 1 v' (n+k) (xs++news)/\Fr (λj=>j=lb∨tv.ownBlock=some j) w w'/\(∀j,v'.ownBlock=some j->tv.ownBlock=some j∨w.heap.size<=j)):=by
 obtain⟨h0,hf,hz⟩:=zu Hb;obtain⟨i0,hi,hi0,hi1,hi2⟩:=info_parts Tryz.infoStr;have mx:n+k<=maxLen:=by unfold maxLen;omega
 have by':(n+k)*16<=140737488355328:=by omega
 have Hown:=za hown;clear hown;go_enter func89,ntmps89;go_wp2_with (at_builtin;refine zbz _ rfl (.tmp 8) (.tmp 9) 91 rfl B 9 i0 _ 1 16 underlying91 hi hi0 hi1 hi2 rfl (by decide) tv n xs rfl Hown.o (xD g 0) k c news rfl (by omega) Hn H1 mx by' hBw ?_;intro v' w9 hown hgrow Hnew9;obtain⟨x9,cp9,rfl⟩:=zbP hown;have HF9:=Fr.of_grown hgrow;have Hb9:=(HF9.block lb hz (λh=>by have:=(Hown.o.lt _ h).1;omega)).trans Hb;obtain⟨m0,mf,mz⟩:=zu Hb9;have Hown9:=za hown;clear hown hgrow);go_end0;refine⟨rfl,_,zh _ _ _ _ Hb9,zi Hown9.o (λj H1 _ _=>zr (by omega) rfl),?_,Hnew9⟩;exact ((HF9.mono (λ_ _ h=>Or.inr h):Fr (λj=>j=lb∨tv.ownBlock=some j) w w9)).setCell (Or.inl (Or.inl rfl)) _
structure Ln (lb B:Nat) (w:World) (tv:Value) (ts:List ByteArray):Prop where
 blk:w.heap[lb]?=some (.cells #[tv] 93 (0,0))
 own:w.ownsRow B 9 1 tv ts.length (ts.map .string)
structure LFr (lb:Nat) (w:World) (tv:Value) (w':World) (tv':Value):Prop where
 fr:Fr (λj=>j=lb∨tv.ownBlock=some j) w w'
 new:∀j,tv'.ownBlock=some j->tv.ownBlock=some j∨w.heap.size<=j
theorem LFr.refl (lb:Nat)(w:World)(tv:Value):LFr lb w tv w tv:=⟨Fr.refl _ w,λ_ h=>Or.inl h⟩
theorem LFr.trans {w1 w2:World}{tv1 tv2:Value}(h:LFr lb w tv w1 tv1)(k:LFr lb w1 tv1 w2 tv2):LFr lb w tv w2 tv2:=by
 have hz:=h.fr.size;refine⟨h.fr.trans' k.fr (λi hi hs=>?_),λj hj=>?_⟩
 . rcases hs with hs|hs
   . exact Or.inl hs
   . rcases h.new i hs with h'|h'
     . exact Or.inr h'
     . omega
 . rcases k.new j hj with h'|h'
   . exact h.new j h'
   . right;omega
theorem LFr.alloc (h:LFr lb w tv w' tv')(o:Obj):LFr lb w tv (w'.alloc o) tv':=⟨h.fr.alloc o,h.new⟩
theorem LFr.undrew (h:LFr lb w.drew tv w' tv'):LFr lb w tv w' tv':=⟨h.fr.undrew,h.new⟩
def zwt (lb B:Nat)(w:World)(tv:Value)(ts:List ByteArray)(e:Ending)(w':World):Prop :=
 e=.returned (.tuple #[])/\∃tv',Ln lb B w' tv' ts/\LFr lb w tv w' tv'
theorem Ln.alloc (h:Ln lb B w tv ts)(o:Obj):Ln lb B (w.alloc o) tv ts :=
 ⟨(Below.heap_alloc _ _ _ (ze h.blk)).trans h.blk,zD h.own o⟩
theorem Ln.drew (h:Ln lb B w tv ts):Ln lb B w.drew tv ts:=⟨h.blk,h.own⟩
theorem LFr.kept (h:LFr lb w tv w' tv')(_hl:Ln lb B w tv ts){b:Nat}{c:Array Value}{e:TypeId}{f:Nat×Nat}(hb:w.heap[b]?=some (.cells c e f))(hne:¬b=lb)(ht:¬tv.ownBlock=some b):w'.heap[b]?=some (.cells c e f) :=
 (h.fr.block b (ze hb) (λhs=>by rcases hs with hs|hs;exact hne hs;exact ht hs)).trans hb
theorem zxo {us:List ByteArray}:∀u∈us.map Value.string,u.oneCell'=true:=by intro u hu;obtain⟨s,_,rfl⟩:=List.mem_map.1 hu;rfl
theorem zvy (lb B:Nat)(w:World)(tv:Value)(ts us:List ByteArray)(g k c:Nat)(f:Nat×Nat)(h:Ln lb B w tv ts)(hlB:lb<B)(hBw:B<=w.heap.size)(hg:w.heap[g]?=some (.cells (us.map Value.string).toArray 9 f))(hk:us.length=k)(hm:ts.length+us.length<=1000000) :
 xK 89 #[xP lb,xS g k c] w (zwt lb B w tv (ts++us)):=by
 refine (zxa lb B tv ts.length _ g k c (us.map .string) w h.blk h.own hlB hBw (by simpa using hk) (zN hg rfl) zxo (by omega)).mono ?_;rintro e w' ⟨rfl,v',k1,k2,k3,k4⟩;refine⟨rfl,v',⟨k1,?_⟩,k3,k4⟩;rw[List.length_append,List.map_append,hk];exact k2
end
section
open Go.RowKit
def zwe (b:Bool):ByteArray:=if b then ⟨#[98,111,111,108]⟩ else ⟨#[105,110,116]⟩
theorem zw6 (w:World)(o1 o2:Obj):((w.alloc o1).alloc o2).drew.heap[w.heap.size+1]?=some o2:=by have h:=zc (w.alloc o1) o2;rw[zsb] at h;exact h
theorem zwy {lb:Nat}{w w':World}{tv tv':Value}{o1 o2:Obj}(h:LFr lb ((w.alloc o1).alloc o2).drew tv w' tv'):LFr lb w tv w' tv':=(((LFr.refl lb w tv).alloc o1).alloc o2).trans h.undrew
theorem zvP:zH 156:=λ_ _=>by kernel_rfl
theorem zwo:zH 89:=λ_ _=>by kernel_rfl
theorem zvV (lb B:Nat)(w:World)(tv:Value)(ts:List ByteArray)(nm ck:ByteArray)(a sg pl ca:Nat)(ty:Nat)(b:Bool)(hty:ty=if b then 1 else 0)(H:Ln lb B w tv ts)(hlB:lb<B)(hBw:B<=w.heap.size)(hm:ts.length+3<=1000000) :
 xK 92 #[xP lb,.agg #[.string nm,xI a,xI ty,xI sg,xI pl,.string ck,xI ca]] w (zwt lb B w tv (ts++[nm,⟨#[58]⟩,zwe b])):=by
 subst hty;go_enter func92,ntmps92;have HD:∀o1 o2,Hid (Ln lb B ((w.alloc o1).alloc o2).drew tv ts):=λo1 o2=>((H.alloc o1).alloc o2).drew;cases b with
 | true =>
   go_upto_region 1 with fail;go_region_law (first|(refine zbL rfl 156 (.tmp 9) 129 rfl zvP (xI 1) rfl (zfm _) ?_;rintro e w2 ⟨rfl,rfl⟩;refine⟨_,rfl,?_⟩)|(refine zde rfl 89 (.tmp 4) (.tmp 11) 175 91 rfl zwo (xP lb) (xS (w.heap.size+1) 3 3) rfl rfl (zvy lb B _ tv ts [nm,⟨#[58]⟩,zwe true] (w.heap.size+1) 3 3 (0,0) (HD _ _).out hlB (by simp;omega) (zw6 w _ _) rfl (by simpa using hm)) ?_;rintro e w' ⟨rfl,tv2,HL2,hf2⟩;refine⟨_,rfl,?_⟩;have HF2:=za (zwy hf2);clear hf2));all_goals go_wp2_with fail
   all_goals go_end0
   all_goals exact⟨rfl,_,HL2,HF2.o⟩
 | false =>
   go_upto_region 1 with fail;go_region_law (first|(refine zbL rfl 156 (.tmp 9) 129 rfl zvP (xI 0) rfl (zhC _) ?_;rintro e w2 ⟨rfl,rfl⟩;refine⟨_,rfl,?_⟩)|(refine zde rfl 89 (.tmp 4) (.tmp 11) 175 91 rfl zwo (xP lb) (xS (w.heap.size+1) 3 3) rfl rfl (zvy lb B _ tv ts [nm,⟨#[58]⟩,zwe false] (w.heap.size+1) 3 3 (0,0) (HD _ _).out hlB (by simp;omega) (zw6 w _ _) rfl (by simpa using hm)) ?_;rintro e w' ⟨rfl,tv2,HL2,hf2⟩;refine⟨_,rfl,?_⟩;have HF2:=za (zwy hf2);clear hf2));all_goals go_wp2_with fail
   all_goals go_end0
   all_goals exact⟨rfl,_,HL2,HF2.o⟩
end
section
def lpW:ByteArray:=⟨#[40]⟩
def rpW:ByteArray:=⟨#[41]⟩
def coW:ByteArray:=⟨#[44]⟩
def zu6:Bool->List (List ByteArray)->List ByteArray
 | _,[]=>[]
 | b,x::l=>(if b then [coW] else [])++(x++zu6 true l)
def zu5 (l:List (List ByteArray)):List ByteArray:=[lpW]++(zu6 false l++[rpW])
def zvi (k:Nat)(l:List ByteArray):List ByteArray:=if k=4 then [lpW]++(l++[rpW]) else l
def opW (k:Nat)(s:ByteArray)(ks:List Nat)(l:List (List ByteArray)):List ByteArray :=
 if k=5 then [⟨#[105,102]⟩]++(l.getD 0 []++([⟨#[116,104,101,110]⟩]++(l.getD 1 []++([⟨#[101,108,115,101]⟩]++l.getD 2 []))))
 else if k=6 then [⟨#[109,101,114,103,101]⟩,s]++(zvi (ks.getD 0 0) (l.getD 0 [])++zvi (ks.getD 1 0) (l.getD 1 []))
 else if k=7∨k=8 then l.getD 0 []++[wd k,s]
 else if k=10∨k=11 then [wd k]++l.getD 0 []
 else l.getD 0 []++([wd k]++l.getD 1 [])
def zwd (n:Nat):ByteArray:=⟨(Lib.itoa (n:Int)).toArray⟩
def exW (k:Nat)(s:ByteArray)(n:Nat)(ks:List Nat)(l:List (List ByteArray)):List ByteArray :=
 if k=0 then [zwd n]
 else if k=1∨k=2 then [wd k]
 else if k=3 then [s]
 else if k=4 then [s]++zu5 l
 else [lpW]++(opW k s ks l++[rpW])
mutual
def exT:Tm->List ByteArray
 | .mk k _ s _ n ts=>exW k s n (ts.map Tm.k) (exL ts)
def exL:List Tm->List (List ByteArray)
 | []=>[]
 | t::l=>exT t::exL l
end
theorem zvt:∀ts:List Tm,exL ts=ts.map exT
 | []=>rfl
 | t::l=>by rw[exL,zvt l];rfl
theorem zv4 (ts:List Tm):(exL ts).length=ts.length:=by rw[zvt,List.length_map]
theorem zwx {l:List (List ByteArray)}{k:Nat}{x:List ByteArray}(h:l[k]?=some x)(b:Bool):zu6 b (l.take (k+1))=zu6 b (l.take k)++((if b=true∨0<k then [coW] else [])++x):=by
 induction l generalizing k b with
 | nil=>simp at h
 | cons y l ih =>
   cases k with
   | zero=>simp at h;subst h;simp[zu6]
   | succ k => simp at h;rw[List.take_succ_cons,List.take_succ_cons,zu6,zu6,ih h true];simp[List.append_assoc]
def zu7 (v:Vr):List ByteArray:=[v.nm,⟨#[58]⟩,if v.bl then ⟨#[98,111,111,108]⟩ else ⟨#[105,110,116]⟩]
def onW (v:Vr):List ByteArray:=if zaA v=1 then [⟨#[111,110]⟩,v.ck] else if zaA v=2 then [⟨#[111,110]⟩,⟨#[110,111,116]⟩,v.ck] else []
def zu9 (v:Vr):List ByteArray:=zu7 v++(onW v++[⟨#[59]⟩])
def zvd (q:Qn):List ByteArray:=(if q.ns.length=1 then q.ns else zu5 (q.ns.map (λs=>[s])))++([⟨#[61]⟩]++(exT q.r++[⟨#[59]⟩]))
def zu4 (n:Nod):List ByteArray :=
 [⟨#[110,111,100,101]⟩,n.nm]++(zu5 ((n.vars.take n.ins).map zu7)++([⟨#[45,62]⟩]++(zu5 (((n.vars.drop n.ins).take n.outs).map zu7)++((if 0<(n.vars.drop (n.ins+n.outs)).length then [⟨#[118,97,114]⟩] else [])++((n.vars.drop (n.ins+n.outs)).flatMap zu9++([⟨#[123]⟩]++(n.eqs.flatMap zvd++[⟨#[125]⟩])))))))
def zvg (n:Nod):List UInt8:=([32]:List UInt8).intercalate ((zu4 n).map (·.data.toList))++[10]
def zu3 (ns:List Nod):List UInt8:=ns.flatMap zvg
end
section
open Go.RowKit
variable {ts:List ByteArray} {B lb:Nat} {tv0:Value} {W w0:World}
structure LnI (lb B:Nat) (w0:World) (tv0:Value) (W:World) (ts:List ByteArray):Prop where
 lt:lb<B
 le:B<=w0.heap.size
 lo:∀j,tv0.ownBlock=some j->B<=j/\j<w0.heap.size
 ln:∃tv,Ln lb B W tv ts/\LFr lb w0 tv0 W tv
theorem LnI.start {tv:Value}(h:Ln lb B W tv ts)(h1:lb<B)(h2:B<=W.heap.size):LnI lb B W tv W ts :=
 ⟨h1,h2,λj e=>h.own.lt j e,tv,h,LFr.refl _ _ _⟩
theorem LnI.size (h:LnI lb B w0 tv0 W ts):w0.heap.size<=W.heap.size:=by obtain⟨tv,_,h2⟩:=h.ln;exact h2.fr.size
theorem LnI.alloc (h:LnI lb B w0 tv0 W ts)(o:Obj):LnI lb B w0 tv0 (W.alloc o) ts:=by obtain⟨tv,h1,h2⟩:=h.ln;exact⟨h.lt,h.le,h.lo,tv,h1.alloc o,h2.alloc o⟩
theorem LnI.drew (h:LnI lb B w0 tv0 W ts):LnI lb B w0 tv0 W.drew ts:=by obtain⟨tv,h1,h2⟩:=h.ln;exact⟨h.lt,h.le,h.lo,tv,h1.drew,⟨h2.fr.os,h2.fr.tape,h2.fr.output,h2.fr.size,h2.fr.block⟩,h2.new⟩
theorem LnI.old (h:LnI lb B w0 tv0 W ts){N:Nat}(hN:N<=lb):Old N w0 W:=by
 obtain⟨tv,_,h2⟩:=h.ln;have:=h.lt;have:=h.le;refine h2.fr.old (by omega) ?_;rintro k (rfl|hk)
 . exact hN
 . have:=(h.lo k hk).1;omega
theorem LnI.kept (h:LnI lb B w0 tv0 W ts){b:Nat}{o:Obj}(hb:w0.heap[b]?=some o)(hne:¬b=lb)(ht:¬tv0.ownBlock=some b):W.heap[b]?=some o:=by obtain⟨tv,_,h2⟩:=h.ln;exact (h2.fr.block b (by have:=Array.getElem?_eq_some_iff.1 hb;exact this.1) (λhs=>by rcases hs with hs|hs;exact hne hs;exact ht hs)).trans hb
def zu1 (lb B:Nat)(w0:World)(tv0:Value)(ts:List ByteArray)(e:Ending)(w':World):Prop:=e=.returned (.tuple #[])/\LnI lb B w0 tv0 w' ts
theorem zu0 (h:LnI lb B w0 tv0 W ts)(us:List ByteArray)(k:Nat)(hk:us.length=k)(hm:(ts++us).length<=1000000)(o:Obj)(ho:o=.cells (us.map Value.string).toArray 9 (0,0)) :
 xK 89 #[xP lb,xS W.heap.size k k] (W.alloc o) (zu1 lb B w0 tv0 (ts++us)):=by
 obtain⟨tv,h1,h2⟩:=h.ln;have:=h.lt;have:=h.le;have hz:=h2.fr.size;subst ho;refine (zvy lb B _ tv ts us W.heap.size k k (0,0) (h1.alloc _) h.lt (by rw[zsb];omega) (zc W _) hk (by simpa using hm)).mono ?_;rintro e w' ⟨rfl,tv',k1,k2⟩;exact⟨rfl,h.lt,h.le,h.lo,tv',k1,(h2.alloc _).trans k2⟩
theorem zu2 (h:LnI lb B w0 tv0 W ts)(us:List ByteArray)(k:Nat)(hk:us.length=k)(hm:(ts++us).length<=1000000)(o:Obj)(ho:o=.cells (us.map Value.string).toArray 9 (0,0)) :
 xK 89 #[xP lb,xS W.heap.size k k] (W.alloc o).drew (zu1 lb B w0 tv0 (ts++us)):=by
 obtain⟨tv,h1,h2⟩:=h.ln;have:=h.lt;have:=h.le;have hz:=h2.fr.size;subst ho;refine (zvy lb B _ tv ts us W.heap.size k k (0,0) (h1.alloc _).drew h.lt (by show B<=(W.alloc _).heap.size;rw[zsb];omega) (zc W _) hk (by simpa using hm)).mono ?_;rintro e w' ⟨rfl,tv',k1,k2⟩;exact⟨rfl,h.lt,h.le,h.lo,tv',k1,(h2.alloc _).trans k2.undrew⟩
theorem zvq (F:FuncId)(caps:Array Value)(hF:zH F)(us:List (List ByteArray))
 (hw:∀(i:Nat) (u:List ByteArray),us[i]?=some u->∀(W:World) (ts:List ByteArray),LnI lb B w0 tv0 W ts->(ts++u).length<=1000000->xK F (#[xI i]++caps) W (zu1 lb B w0 tv0 (ts++u)))
 (W:World) (ts:List ByteArray) (h:LnI lb B w0 tv0 W ts) (hm:(ts++zu5 us).length<=1000000) (hl:us.length<=1000000) :
 xK 90 #[xP lb,xI us.length,.func (.func F) #[] caps] W (zu1 lb B w0 tv0 (ts++zu5 us)):=by
 have hcf:∀(args:Array Value) (w:World),(callFunc F args).run prog w=.ok (.enter F args) w:=hF;have H:=za h;have Hw:=za hw;have hlen:∀k,(zu6 false (us.take k)).length<=(zu6 false us).length:=by
  intro k;have e:∀(l:List (List ByteArray)) (b:Bool) (k:Nat),(zu6 b (l.take k)).length<=(zu6 b l).length:=by
   intro l;induction l with
   | nil=>intro b k;simp
   | cons x l ih =>
     intro b k;cases k with
     | zero=>simp[zu6]
     | succ k=>rw[List.take_succ_cons,zu6,zu6];simp only[List.length_append];have:=ih true k;omega
  exact e us false k
 have hm':ts.length+(zu6 false us).length+2<=1000000:=by unfold zu5 at hm;simp only[List.length_append,List.length_cons,List.length_nil] at hm;omega
 clear h hw hm;have Hlen:=za hlen;clear hlen;go_enter func90,ntmps90;go_wp2_with (go_at_call 89;refine (zu0 H.o [lpW] 1 rfl (by simp only[List.length_append,List.length_cons,List.length_nil];omega) _ rfl).mono ?_;rintro e w1 ⟨rfl,h1⟩;have H1:=za h1;clear h1);go_loopg [11] (us.length+1) (λj i wr=>∃k:Nat,k+j=us.length+1/\k<=us.length/\i=xI k/\Hid (LnI lb B w0 tv0 wr (ts++[lpW]++zu6 false (us.take k))));case atStart=>exact⟨0,by omega,Nat.zero_le _,rfl,za (by simpa [zu6] using H1.o)⟩
 case round =>
  obtain⟨k,hkj,hk,rfl,HI⟩:=hrel;have hLk:=Hlen.o k;by_cases hlt:k<us.length
  . obtain⟨u,hu⟩:∃u,us[k]?=some u:=⟨_,zsc hlt⟩;have HS:=za (zwx hu false);have hLs:=Hlen.o (k+1);have HC:=za (Hw.o k u hu);have e1:(zu6 false (us.take (k+1))).length=(zu6 false (us.take k)).length+((if 0<k then 1 else 0)+u.length):=by rw[HS.o];simp only[List.length_append];split <;> split <;> simp_all
    clear hu;by_cases h0:k=0
    . have hu2:ts.length+1+(zu6 false (us.take k)).length+u.length<=1000000:=(by rw[if_neg (by omega)] at e1;omega);have h0':¬((0:Int)<(k:Int)):=(by omega);have H0:=za h0;clear e1 hLs hLk h0;go_wp2_with fail;with_reducible refine (HC.o _ _ HI.o (by simp only[List.length_append,List.length_cons,List.length_nil];omega)).mono ?_
      rintro e w2 ⟨rfl,h2⟩;have H2:=za h2;clear h2;go_wp2_with fail;go_roundg (gk-1);case measure=>omega
      refine⟨k+1,by omega,by omega,by go_num,za ?_⟩;have:=H2.o;rw[HS.o];simpa [List.append_assoc,zu6,H0.o] using this
    . have h0':0<k:=(by omega);have hu2:ts.length+1+(zu6 false (us.take k)).length+1+u.length<=1000000:=(by simp[h0'] at e1;omega);clear e1 hLs hLk;go_wp2_with (go_at_call 89;refine (zu0 HI.o [coW] 1 rfl (by simp only[List.length_append,List.length_cons,List.length_nil];omega) _ rfl).mono ?_;rintro e w2 ⟨rfl,h2⟩;have H2:=za h2;clear h2);with_reducible refine (HC.o _ _ H2.o (by simp only[List.length_append,List.length_cons,List.length_nil];omega)).mono ?_
      rintro e w3 ⟨rfl,h3⟩;have H3:=za h3;clear h3;go_wp2_with fail;go_roundg (gk-1);case measure=>omega
      refine⟨k+1,by omega,by omega,by go_num,za ?_⟩;have:=H3.o;rw[HS.o];simpa [List.append_assoc,h0'] using this
  . have ek:k=us.length:=by omega
    subst ek;rw[List.take_length] at HI;go_wp2_with (go_at_call 89;refine (zu0 HI.o [rpW] 1 rfl (by simp only[List.length_append,List.length_cons,List.length_nil];omega) _ rfl).mono ?_;rintro e w2 ⟨rfl,h2⟩;have H2:=za h2;clear h2);first|go_end0|refine bodyPost_ret (results_none rfl _ _ _) rfl ?_
    exact⟨rfl,by simpa [zu5,List.append_assoc] using H2.o⟩
end
end Go.Proofs.YtbicmofihhjgbaaGreatDoor
