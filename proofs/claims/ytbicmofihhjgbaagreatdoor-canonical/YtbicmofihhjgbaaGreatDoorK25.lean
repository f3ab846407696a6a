/- Part 26 of the proof. -/
import Derived.Deep.Strs
import Derived.LaidHandle
import Derived.LaidLaws
import Derived.OpenShut
import Derived.ProofKit
import Derived.Test.YtbicmofihhjgbaaGreatDoorRows
import Derived.Test.YtbicmofihhjgbaaGreatDoorK24
set_option maxRecDepth 100000
set_option maxHeartbeats 8000000
namespace Go.Proofs.YtbicmofihhjgbaaGreatDoor
open Go.Proofs.Tryz
section
open Go.RowKit
variable {n:Nod}
attribute [local go_sem ↓] Go.wp_at_zero Go.wp_at_succ
theorem zkU {α β γ:Type}(f:γ->β->γ)(g:α->List β):∀(l:List α) (s:γ),(l.flatMap g).foldl f s=l.foldl (λs a=>(g a).foldl f s) s:=by
 intro l;induction l with
 | nil=>intro s;rfl
 | cons a l ih=>intro s;rw[List.flatMap_cons,zMP,List.foldl_cons,ih]
theorem znh:∀(l:Xn) (s:Nat),l.foldl (·+·) s=s+zed l:=by
 intro l;induction l with
 | nil=>intro s;rfl
 | cons a l ih=>intro s;unfold zed;rw[List.foldl_cons,List.foldl_cons,ih,ih (0+a)];omega
theorem zmV (m:List (ByteArray×Nat))(hm:∀s,zbi s m<=61):∀(l:List Tm) (s:Nat),s+62*l.length<=4611686018427387904->l.foldl (zbf m) (s:Int)=((s+zed (l.map (za9 m)):Nat):Int):=by
 intro l;induction l with
 | nil=>intro s _;rfl
 | cons t l ih =>
   intro s hs;rw[zMR] at hs;have h1:za9 m t<=62:=by
    unfold za9;have:=hm t.s;split
    . omega
    split <;> omega
   have h2:zbf m (s:Int) t=((s+za9 m t:Nat):Int):=by
    unfold zbf;split
    . unfold wrap64;omega
    rename_i h
    unfold za9;rw[zM1 (by omega),zM1 (by omega)];rfl
   rw[List.foldl_cons,h2,ih _ (by omega),List.map_cons];unfold zed;rw[List.foldl_cons,znh _ (0+za9 m t)];unfold zed;omega
theorem znm (n:Nod)(m:List (ByteArray×Nat)):zcg n m<=61:=Nat.min_le_right _ _
theorem zkg {N:Nat}{nb:Nat}{vs ev:Xv}{xs:Xm}(b:Nat)(m:List (ByteArray×Nat))(hm:∀s,zbi s m<=61)(hsz:n.terms.length<=1000000)(w:Xw)(h:NT w N n nb vs ev xs)(hc:zdf w b m)(hN:N<=w.heap.size) :
 xK 139 #[xP nb,.map (some b)] w (λe w'=>e=.returned (xI (zcg n m:Nat))/\xB w w'):=by
 have hmf:∀(fn:Go.Fn) (first cap:Xa) (w:Xw),(Instr.makeFunc fn first cap).run prog w=.ok (.func fn first cap) w:=λ_ _ _ _=>rfl;have hcz:=hc.lt;have HW:=za (λo1 o2 (h1:o1=Obj.cells #[.map (some b)] 242 (0,0)) (h2:o2=Obj.cells #[xI 0] 3 (0,0))=>zfN (zm7 N n (w.heap.size+1) w.heap.size b m hm (by omega)) nb vs ev xs 0 ((w.alloc o1).alloc o2) (h.old (zfr hN o1 o2)) (by rw[zsb,zsb];omega) (λk e=>by subst e;rw[zsb,zsb];omega) ⟨by rw[(zd8 w o1 o2).2,h2],by rw[(zd8 w o1 o2).1,h1],hc.keep (zaD w o1 o2),by omega,by omega⟩);have hf:n.eqs.foldl (λs q=>(zaV za5 q.r).foldl (λs t=>zbf m s t) s) (0:Int)=((zed (n.terms.map (za9 m)):Nat):Int):=by rw[<- zkU (zbf m) (λq=>zaV za5 q.r) n.eqs 0];have:=zmV m hm n.terms 0 (by omega);rw[Nat.zero_add] at this;exact this
 rw[hf] at HW;have HM:Hid (zcg n m=min (zed (n.terms.map (za9 m))) 61):=rfl;generalize zed (n.terms.map (za9 m))=tot at HW HM;go_enter func139,ntmps139;go_wp2_with (go_at_call 122;refine (HW.o _ _ rfl rfl).mono ?_;rintro e w1 ⟨rfl,hI,HF⟩;obtain⟨a0,af,az⟩:=zu hI.x1);all_goals go_ret
 all_goals rw[HM.o]
 all_goals refine⟨?_,zbR (zaD w _ _) HF (by omega)⟩
 all_goals first|(refine congrArg Ending.returned ?_;refine congrArg (Value.int IntKind.i64) ?_;first|omega|(split <;> omega))|trace_state
theorem zmM {ns:List Nod}{k:Nat}(h:ns[k]?=some n)(m:List (ByteArray×Nat))(last:Nat):zfW (ns.drop k) m last=zfW (ns.drop (k+1)) ((n.nm,zcg n m)::m) (zcg n m):=by obtain⟨h1,h2⟩:=zMJ.1 h;rw[zMT h1,zfW,h2]
theorem zqt:zH 71:=λ_ _=>by kernel_rfl
theorem ziJ (S:Xs)(kd lb bb sb:Nat)(nmv askv:Xv)(N:Nat)(ns:List Nod)(Hsz:∀n∈ns,n.terms.length<=1000000)(pv:Xv)(st:Xo)(w:Xw)(HR:RpI S kd lb bb sb nmv askv st w)(hP:PT w N ns pv)(hN:N<=w.heap.size)(_l1:N<=lb)(_l2:N<=bb) :
 xK 71 #[pv,zam lb bb sb] w (λe w'=>e=.returned (.tuple #[])/\RpI S kd lb bb sb nmv askv ((zeZ ns).foldl rep st) w'/\Fr (RT lb bb) w w'):=by
 obtain⟨gb,gv,xs,rfl,hgb,hblk,HL⟩:=hP;obtain⟨xg,cpg,rfl⟩:=zB HL.own;have hmm:=@run_makeMap prog;have hfew:=HL.few;obtain⟨g0,gf,gz⟩:=zu hblk;unfold zam;go_enter func71,ntmps71;go_wp2_with fail;go_loopg [14,5] (ns.length+1) (λj i x wr=>∃(k last:Nat) (m:List (ByteArray×Nat)),k+j=ns.length+1/\k<=ns.length/\i=xI k/\x=xI last/\last<=61/\Hid (∀s,zbi s m<=61)/\Hid (zfW ns [] 0=zfW (ns.drop k) m last)/\Hid (zdf wr w.heap.size m)/\Hid (xB w wr));case atStart=>exact⟨0,0,[],by omega,zMN _,rfl,rfl,by omega,λs=>by simp[zbi],rfl,⟨[],⟨#[],0,zc w _,rfl⟩,λs=>rfl⟩,zq w _⟩
 case round =>
  obtain⟨k,last,m,hkj,hk,rfl,rfl,hla,Hm,HD,HC,HB⟩:=hrel;have hO:=zm HB.o hN;by_cases hlt:k<ns.length
  . obtain⟨n,hn⟩:∃n,ns[k]?=some n:=⟨_,zsc hlt⟩;have hL2:=HL.old hO;obtain⟨v,hv,hnp⟩:=hL2.at' k n hn;obtain⟨g',rfl,hcell⟩:=zbE hL2.own hv;obtain⟨nb,vs,qv,ys,rfl,hnt⟩:=hnp;have hgN:=HL.lo g' rfl;obtain⟨m0,m1,m2,m3,m4,m5,mf,mz⟩:=zt hnt.blk;have hzr:=HB.o.size;have HCo:=za (zkg w.heap.size m Hm.o (Hsz n (zML hn)) wr hnt HC.o (by omega));have HT:=za (zmM hn m last);rw[<- HD.o] at HT;have h61:=znm n m;have Hm2:Hid (∀s,zbi s ((n.nm,zcg n m)::m)<=61):=by
     intro s;rw[zbi];split
     . exact h61
     exact Hm.o s
    generalize zcg n m=cm at HCo HT h61 Hm2;go_wp2_with (go_at_call 139;refine HCo.o.mono ?_;rintro e w1 ⟨rfl,hB1⟩;obtain⟨w2,hr2,HC2,hF2⟩:=zqN (HC.o.keep hB1) n.nm cm;have r0:=zd hB1 m0 mz;have HB2:=za (zbR (HB.o.trans (hB1.mono hzr)) hF2 (zMK _)));go_roundg (gk-1);case measure=>omega
    exact⟨k+1,cm,_,by omega,by omega,by go_num,rfl,h61,Hm2.o,HT.o,HC2,HB2.o⟩
  have ek:k=ns.length:=by omega
  subst ek;rw[List.drop_length,zfW] at HD;have HR2:=za (HR.keep HB.o);by_cases h60:60<last
  . have HT:Hid ((zeZ ns).foldl rep st=rep st 0):=by unfold Hid zeZ;rw[HD.o,zM2 h60];rfl
    have h60':(60:Int)<(last:Int):=(by omega);have HTell:=za (zaa S kd lb bb sb nmv askv st 0 wr HR2.o);go_wp2_with (go_at_call 140;refine HTell.o.mono ?_;rintro e w2 ⟨rfl,HRt,HFt⟩);first|go_end0|refine bodyPost_ret (results_none rfl _ _ _) rfl ?_
    rw[HT.o];exact⟨rfl,HRt,(zy HB.o).trans HFt⟩
  have HT:Hid ((zeZ ns).foldl rep st=st):=by unfold Hid zeZ;rw[HD.o,zM1 h60];rfl
  have h60':¬(60:Int)<(last:Int):=by omega
  go_wp2_with fail;first|go_end0|refine bodyPost_ret (results_none rfl _ _ _) rfl ?_
  rw[HT.o];exact⟨rfl,HR2.o,zy HB.o⟩
end
section
open Go.RowKit
variable {ns:List Nod} {N:Nat}
attribute [local go_sem ↓] Go.wp_at_zero Go.wp_at_succ
theorem zpT:zH 118:=λ_ _=>by kernel_rfl
theorem zj2:zH 66:=λ_ _=>by kernel_rfl
theorem zkf:zH 67:=λ_ _=>by kernel_rfl
theorem zjo:zH 68:=λ_ _=>by kernel_rfl
theorem zgu:zH 69:=λ_ _=>by kernel_rfl
theorem ziX:zH 70:=λ_ _=>by kernel_rfl
theorem zd2 (S:Xs)(kd:Nat)(nm:Xb)(f:FuncId)(hf:zH f)(L:Sc->List Nat)(ns:List Nod)(gb ab:Nat)(t:Xy)(w:Xw)
 (hA:∀c∈scs ns,∀lb bb sb nmv askv,N<=lb->N<=bb->zoD S kd lb bb sb nmv askv N f L c) (hP:PT w N ns (xP gb)) (hN:N<=w.heap.size) (hab:xH w ab #[.func (.func f) #[] #[]] t) :
 xK 72 #[.agg #[.string nm,sen S kd,.func (.func 118) #[] #[xP ab]],xP gb] w (λe w'=>e=.returned (zbp S kd (zO ((scs ns).flatMap L)))/\xB w w'):=by
 have hz:=ze hab;refine zkt S kd nm 118 zpT #[xP ab] gb _ w (λW hB hR=>?_);exact zoq S kd _ _ _ _ _ N f hf L ns (λc hc=>hA c hc _ _ _ _ _ (by omega) (by omega)) _ ab t none W hR (hP.old (zm hB hN)) (by have:=hB.size;omega) (by omega) (by omega) ((hB.block _ hz).trans hab) (by omega) (by omega)
theorem zoN (S:Xs)(kd:Nat)(nm:Xb)(ns:List Nod)(gb:Nat)(w:Xw)(hsz:∀n∈ns,n.terms.length<=1000000)(hP:PT w N ns (xP gb))(hN:N<=w.heap.size) :
 xK 72 #[.agg #[.string nm,sen S kd,.func (.func 71) #[] #[]],xP gb] w (λe w'=>e=.returned (zbp S kd (zO (zeZ ns)))/\xB w w'):=by
 refine zkt S kd nm 71 zqt #[] gb _ w (λW hB hR=>?_);exact ziJ S kd _ _ _ _ _ N ns hsz _ none W hR (hP.old (zm hB hN)) (by have:=hB.size;omega) (by omega) (by omega)
def zrz:Nat->ByteArray
 | 4=>⟨#[110,97,109,101,115]⟩
 | 5=>⟨#[116,121,112,101,115]⟩
 | 6=>⟨#[99,108,111,99,107,115]⟩
 | 7=>⟨#[100,101,102,105,110,105,116,105,111,110,115]⟩
 | 8=>⟨#[99,97,117,115,101,115]⟩
 | 9=>⟨#[109,101,109,111,114,121]⟩
 | _=>⟨#[]⟩
def zq3 (S:Xs):Option (Nat×Nat)->Value
 | none=>.nilIface
 | some (kd,p)=>zeQ (zrz kd) (zbp S kd (some p))
def zfq (ns:List Nod):Nat->List Nat
 | 0=>(scs ns).flatMap Sc.namesL
 | 1=>(scs ns).flatMap Sc.typesL
 | 2=>(scs ns).flatMap Sc.clocksL
 | 3=>(scs ns).flatMap Sc.definesL
 | 4=>(scs ns).flatMap Sc.causesL
 | 5=>zeZ ns
 | _=>[]
theorem zrb (h:∀n∈ns,zeJ n)(h6:ns.length<=6):∀c∈scs ns,zbr c:=by
 intro c hc;unfold scs at hc;obtain⟨i,hi,h1⟩:=List.mem_filterMap.1 hc;cases h2:ns[i]? with
 | none=>rw[h2] at h1;cases h1
 | some n => rw[h2] at h1;cases h1;refine⟨λm hm=>h m (List.mem_of_mem_take hm),h n (zML h2),?_⟩;rw[List.length_take];omega
structure PrI (S:Xs) (N:Nat) (ns:List Nod) (gb:Nat) (w W:Xw):Prop where
 pt:PT W N ns (xP gb)
 row:W.heap[w.heap.size+1+1+1+1+1]?=some (.cells #[.string ⟨#[110,97,109,101,115]⟩,sen S 4,.func (.func 118) #[] #[xP w.heap.size],.string ⟨#[116,121,112,101,115]⟩,sen S 5,.func (.func 118) #[] #[xP (w.heap.size+1)],.string ⟨#[99,108,111,99,107,115]⟩,sen S 6,.func (.func 118) #[] #[xP (w.heap.size+1+1)],.string ⟨#[100,101,102,105,110,105,116,105,111,110,115]⟩,sen S 7,.func (.func 118) #[] #[xP (w.heap.size+1+1+1)],.string ⟨#[99,97,117,115,101,115]⟩,sen S 8,.func (.func 118) #[] #[xP (w.heap.size+1+1+1+1)],.string ⟨#[109,101,109,111,114,121]⟩,sen S 9,.func (.func 71) #[] #[]] 153 (0,0))
 b0:∃t,W.heap[w.heap.size]?=some (.cells #[.func (.func 66) #[] #[]] t (0,0))
 b1:∃t,W.heap[w.heap.size+1]?=some (.cells #[.func (.func 67) #[] #[]] t (0,0))
 b2:∃t,W.heap[w.heap.size+1+1]?=some (.cells #[.func (.func 68) #[] #[]] t (0,0))
 b3:∃t,W.heap[w.heap.size+1+1+1]?=some (.cells #[.func (.func 69) #[] #[]] t (0,0))
 b4:∃t,W.heap[w.heap.size+1+1+1+1]?=some (.cells #[.func (.func 70) #[] #[]] t (0,0))
 bel:xB w W
theorem PrI.keep {S:Xs}{gb:Nat}{w W W':Xw}(h:PrI S N ns gb w W)(hN:N<=w.heap.size)(hB:xB W W'):PrI S N ns gb w W' where
 pt:=h.pt.old (zm hB (zMO hN h.bel.size))
 row:=(hB.block _ (ze h.row)).trans h.row
 b0:=by obtain⟨t,ht⟩:=h.b0;exact⟨t,(hB.block _ (ze ht)).trans ht⟩
 b1:=by obtain⟨t,ht⟩:=h.b1;exact⟨t,(hB.block _ (ze ht)).trans ht⟩
 b2:=by obtain⟨t,ht⟩:=h.b2;exact⟨t,(hB.block _ (ze ht)).trans ht⟩
 b3:=by obtain⟨t,ht⟩:=h.b3;exact⟨t,(hB.block _ (ze ht)).trans ht⟩
 b4:=by obtain⟨t,ht⟩:=h.b4;exact⟨t,(hB.block _ (ze ht)).trans ht⟩
 bel:=h.bel.trans (hB.mono h.bel.size)
theorem zo9 (w:Xw)(o1 o2 o3 o4 o5 o6:Obj):xB w ((((((w.alloc o1).alloc o2).alloc o3).alloc o4).alloc o5).alloc o6):=zg2 (zcz _ _ _ _)
theorem al6 (w:Xw)(o1 o2 o3 o4 o5 o6:Obj) :
 let W:=(((((w.alloc o1).alloc o2).alloc o3).alloc o4).alloc o5).alloc o6
 W.heap[w.heap.size]?=some o1/\W.heap[w.heap.size+1]?=some o2/\W.heap[w.heap.size+1+1]?=some o3/\W.heap[w.heap.size+1+1+1]?=some o4/\W.heap[w.heap.size+1+1+1+1]?=some o5/\W.heap[w.heap.size+1+1+1+1+1]?=some o6:=by
 have h (w:Xw) (o:Obj) (k:Nat):(w.alloc o).heap[k]?=if k=w.heap.size then some o else w.heap[k]?:=by show (w.heap.push o)[k]?=_;rw[Array.getElem?_push]
 intro W;refine⟨?_,?_,?_,?_,?_,?_⟩;all_goals simp only[W,h,zsb]
 all_goals repeat (first|rw[zM2 trivial]|rw[zM2 rfl]|rw[zM1 (by omega)])
theorem zdS {L:Sc->List Nat}(h:zO ((scs ns).flatMap L)=none):∀c∈scs ns,L c=[]:=by intro c hc;have:=zlT h;rw[List.flatMap_eq_nil_iff] at this;exact this c hc
theorem zjO (S:Xs)(N:Nat)(ns:List Nod)(hw:∀n∈ns,zeJ n)(Hsz:∀n∈ns,n.terms.length<=1000000)(gb:Nat)(w:Xw)(hG:Gl S w)(HP:PT w N ns (xP gb))(hN:N<=w.heap.size) :
 xK 38 #[xP gb] w (λe w'=>e=.returned (zq3 S (zbc ns))/\xB w w'):=by
 have h6:ns.length<=6:=by obtain⟨_,_,_,_,_,_,h⟩:=HP;exact h.few
 have Hok:=zrb hw h6;have g0:=hG.name;have g1:=hG.type;have g2:=hG.clock;have g3:=hG.define;have g4:=hG.cause;have g5:=hG.limit;have hgz:=hG.size;clear hG hw h6;have hsf:∀(a:Addr) (m:Mode) (fn:Go.Fn) (first cap:Xa) (w:Xw),(store a (.func fn first cap) m).run prog w=stored prog w a (.func fn first cap) m:=λa m _ _ _ w=>run_store prog w a _ m rfl;unfold sen at *;go_enter func38,ntmps38;go_upto_region 1 with fail
 go_region_held3 (λw'=>w'.cell? (xD 1 0)=some (.iface 324 (.pointer (some (S 4))))/\w'.cell? (xD 2 0)=some (.iface 324 (.pointer (some (S 5))))/\w'.cell? (xD 3 0)=some (.iface 324 (.pointer (some (S 6))))/\w'.cell? (xD 4 0)=some (.iface 324 (.pointer (some (S 7))))/\w'.cell? (xD 5 0)=some (.iface 324 (.pointer (some (S 8))))/\w'.cell? (xD 6 0)=some (.iface 324 (.pointer (some (S 9)))))
  (first|(with_reducible (refine⟨?_,?_,?_,?_,?_,?_⟩ <;> repeat (first|assumption|refine zg ?_|refine zj _ ?_|refine zk (by omega) ?_)))|go_keep)
  (first|(go_at_call 65;refine (zjA _ _).mono ?_;rintro e w' ⟨rfl,t,rfl⟩))
 go_upto_region 2 with fail;refine zn (λW=>PrI S N ns gb w W) ⟨HP.old (zm (zo (zo9 w _ _ _ _ _ _)) hN),(al6 w _ _ _ _ _ _).2.2.2.2.2,⟨_,(al6 w _ _ _ _ _ _).1⟩,⟨_,(al6 w _ _ _ _ _ _).2.1⟩,⟨_,(al6 w _ _ _ _ _ _).2.2.1⟩,⟨_,(al6 w _ _ _ _ _ _).2.2.2.1⟩,⟨_,(al6 w _ _ _ _ _ _).2.2.2.2.1⟩,zo (zo9 w _ _ _ _ _ _)⟩ ?_;intro W hW;have HW:=za hW;clear hW g0 g1 g2 g3 g4 g5;go_wp2_with fail;go_loopg [27] 7 (λj i wr=>∃k:Nat,k+j=7/\k<=6/\i=xI k/\Hid (PrI S N ns gb w wr)/\Hid (∀j,j<k->zO (zfq ns j)=none));case atStart=>exact⟨0,by omega,by omega,rfl,HW.o,λj hj=>by omega⟩
 case round =>
  clear HW;obtain⟨k,hkj,hk,rfl,HI,HN⟩:=hrel;have hzr:=HI.o.bel.size;have hk':k=0∨k=1∨k=2∨k=3∨k=4∨k=5∨k=6:=by omega
  rcases hk' with rfl|rfl|rfl|rfl|rfl|rfl|rfl;have c0:wr.cell? (xD (w.heap.size+1+1+1+1+1) 0)=some (.string ⟨#[110,97,109,101,115]⟩):=by simp[World.cell?,HI.o.row,sen]
  have c1:wr.cell? (xD (w.heap.size+1+1+1+1+1) 1)=some (.iface 324 (.pointer (some (S 4)))):=by simp[World.cell?,HI.o.row,sen]
  have c2:wr.cell? (xD (w.heap.size+1+1+1+1+1) 2)=some (.func (.func 118) #[] #[xP w.heap.size]):=by simp[World.cell?,HI.o.row,sen]
  have hI2:=HI.o.keep hN (zq wr (.cells #[.string ⟨#[110,97,109,101,115]⟩,sen S 4,.func (.func 118) #[] #[xP w.heap.size]] 153));obtain⟨tb,htb⟩:=hI2.b0;have HR:=za (zd2 S 4 ⟨#[110,97,109,101,115]⟩ 66 zj2 Sc.namesL ns gb (w.heap.size) tb (wr.alloc (.cells #[.string ⟨#[110,97,109,101,115]⟩,sen S 4,.func (.func 118) #[] #[xP w.heap.size]] 153)) (λc hc lb bb sb nmv askv l1 l2 ev nv st W hR h hN=>ziZ S 4 lb bb sb nmv askv N c (Hok c hc).few (λq hq=>((Hok c hc).nd.eqs q hq).1) ev nv st W hR h hN l1 l2) hI2.pt (zMO hN hI2.bel.size) htb);clear htb hI2;have hrz:=ze HI.o.row;obtain⟨pl,hl⟩:∃pl,zO ((scs ns).flatMap Sc.namesL)=pl:=⟨_,rfl⟩;rw[hl] at HR;have HN2:Hid (pl=none->∀j,j<1->zO (zfq ns j)=none):=by
   intro e j hj;by_cases e1:j=0
   . subst e1;exact hl.trans e
   exact HN.o j (by omega)
  have HE:Hid (∀p,pl=some p->zbc ns=some (4,p)):=by intro p e;rw[e] at hl;unfold zbc;rw[hl]
  clear hl;rotate_left;have n0:zO ((scs ns).flatMap Sc.namesL)=none:=HN.o 0 (by omega);have c0:wr.cell? (xD (w.heap.size+1+1+1+1+1) 3)=some (.string ⟨#[116,121,112,101,115]⟩):=by simp[World.cell?,HI.o.row,sen]
  have c1:wr.cell? (xD (w.heap.size+1+1+1+1+1) 4)=some (.iface 324 (.pointer (some (S 5)))):=by simp[World.cell?,HI.o.row,sen]
  have c2:wr.cell? (xD (w.heap.size+1+1+1+1+1) 5)=some (.func (.func 118) #[] #[xP (w.heap.size+1)]):=by simp[World.cell?,HI.o.row,sen]
  have Hnm:Hid (∀c∈scs ns,zfw c):=λc hc=>zex (Hok c hc) (zdS n0 c hc);have hI2:=HI.o.keep hN (zq wr (.cells #[.string ⟨#[116,121,112,101,115]⟩,sen S 5,.func (.func 118) #[] #[xP (w.heap.size+1)]] 153));obtain⟨tb,htb⟩:=hI2.b1;have HR:=za (zd2 S 5 ⟨#[116,121,112,101,115]⟩ 67 zkf Sc.typesL ns gb (w.heap.size+1) tb (wr.alloc (.cells #[.string ⟨#[116,121,112,101,115]⟩,sen S 5,.func (.func 118) #[] #[xP (w.heap.size+1)]] 153)) (λc hc lb bb sb nmv askv l1 l2 ev nv st W hR h hN=>zjH S 5 lb bb sb nmv askv N c (Hok c hc) (Hnm.o c hc) ev nv st W hR h hN l1 l2) hI2.pt (zMO hN hI2.bel.size) htb);clear htb hI2;have hrz:=ze HI.o.row;obtain⟨pl,hl⟩:∃pl,zO ((scs ns).flatMap Sc.typesL)=pl:=⟨_,rfl⟩;rw[hl] at HR;have HN2:Hid (pl=none->∀j,j<2->zO (zfq ns j)=none):=by
   intro e j hj;by_cases e1:j=1
   . subst e1;exact hl.trans e
   exact HN.o j (by omega)
  have HE:Hid (∀p,pl=some p->zbc ns=some (5,p)):=by intro p e;rw[e] at hl;unfold zbc;rw[n0,hl]
  clear hl n0 Hnm;rotate_left;have n0:zO ((scs ns).flatMap Sc.namesL)=none:=HN.o 0 (by omega);have n1:zO ((scs ns).flatMap Sc.typesL)=none:=HN.o 1 (by omega);have c0:wr.cell? (xD (w.heap.size+1+1+1+1+1) 6)=some (.string ⟨#[99,108,111,99,107,115]⟩):=by simp[World.cell?,HI.o.row,sen]
  have c1:wr.cell? (xD (w.heap.size+1+1+1+1+1) 7)=some (.iface 324 (.pointer (some (S 6)))):=by simp[World.cell?,HI.o.row,sen]
  have c2:wr.cell? (xD (w.heap.size+1+1+1+1+1) 8)=some (.func (.func 118) #[] #[xP (w.heap.size+1+1)]):=by simp[World.cell?,HI.o.row,sen]
  have Hnm:Hid (∀c∈scs ns,zfw c):=λc hc=>zex (Hok c hc) (zdS n0 c hc);have hI2:=HI.o.keep hN (zq wr (.cells #[.string ⟨#[99,108,111,99,107,115]⟩,sen S 6,.func (.func 118) #[] #[xP (w.heap.size+1+1)]] 153));obtain⟨tb,htb⟩:=hI2.b2;have HR:=za (zd2 S 6 ⟨#[99,108,111,99,107,115]⟩ 68 zjo Sc.clocksL ns gb (w.heap.size+1+1) tb (wr.alloc (.cells #[.string ⟨#[99,108,111,99,107,115]⟩,sen S 6,.func (.func 118) #[] #[xP (w.heap.size+1+1)]] 153)) (λc hc lb bb sb nmv askv l1 l2 ev nv st W hR h hN=>ziv S 6 lb bb sb nmv askv N c (Hok c hc) ev nv st W hR h hN l1 l2) hI2.pt (zMO hN hI2.bel.size) htb);clear htb hI2;have hrz:=ze HI.o.row;obtain⟨pl,hl⟩:∃pl,zO ((scs ns).flatMap Sc.clocksL)=pl:=⟨_,rfl⟩;rw[hl] at HR;have HN2:Hid (pl=none->∀j,j<3->zO (zfq ns j)=none):=by
   intro e j hj;by_cases e1:j=2
   . subst e1;exact hl.trans e
   exact HN.o j (by omega)
  have HE:Hid (∀p,pl=some p->zbc ns=some (6,p)):=by intro p e;rw[e] at hl;unfold zbc;rw[n0,n1,hl]
  clear hl n0 n1 Hnm;rotate_left;have n0:zO ((scs ns).flatMap Sc.namesL)=none:=HN.o 0 (by omega);have n1:zO ((scs ns).flatMap Sc.typesL)=none:=HN.o 1 (by omega);have n2:zO ((scs ns).flatMap Sc.clocksL)=none:=HN.o 2 (by omega);have c0:wr.cell? (xD (w.heap.size+1+1+1+1+1) 9)=some (.string ⟨#[100,101,102,105,110,105,116,105,111,110,115]⟩):=by simp[World.cell?,HI.o.row,sen]
  have c1:wr.cell? (xD (w.heap.size+1+1+1+1+1) 10)=some (.iface 324 (.pointer (some (S 7)))):=by simp[World.cell?,HI.o.row,sen]
  have c2:wr.cell? (xD (w.heap.size+1+1+1+1+1) 11)=some (.func (.func 118) #[] #[xP (w.heap.size+1+1+1)]):=by simp[World.cell?,HI.o.row,sen]
  have Hnm:Hid (∀c∈scs ns,zfw c):=λc hc=>zex (Hok c hc) (zdS n0 c hc);have hI2:=HI.o.keep hN (zq wr (.cells #[.string ⟨#[100,101,102,105,110,105,116,105,111,110,115]⟩,sen S 7,.func (.func 118) #[] #[xP (w.heap.size+1+1+1)]] 153));obtain⟨tb,htb⟩:=hI2.b3;have HR:=za (zd2 S 7 ⟨#[100,101,102,105,110,105,116,105,111,110,115]⟩ 69 zgu Sc.definesL ns gb (w.heap.size+1+1+1) tb (wr.alloc (.cells #[.string ⟨#[100,101,102,105,110,105,116,105,111,110,115]⟩,sen S 7,.func (.func 118) #[] #[xP (w.heap.size+1+1+1)]] 153)) (λc hc lb bb sb nmv askv l1 l2 ev nv st W hR h hN=>zgb S 7 lb bb sb nmv askv N c (Hok c hc) (Hnm.o c hc) ev nv st W hR h hN l1 l2) hI2.pt (zMO hN hI2.bel.size) htb);clear htb hI2;have hrz:=ze HI.o.row;obtain⟨pl,hl⟩:∃pl,zO ((scs ns).flatMap Sc.definesL)=pl:=⟨_,rfl⟩;rw[hl] at HR;have HN2:Hid (pl=none->∀j,j<4->zO (zfq ns j)=none):=by
   intro e j hj;by_cases e1:j=3
   . subst e1;exact hl.trans e
   exact HN.o j (by omega)
  have HE:Hid (∀p,pl=some p->zbc ns=some (7,p)):=by intro p e;rw[e] at hl;unfold zbc;rw[n0,n1,n2,hl]
  clear hl n0 n1 n2 Hnm;rotate_left;have n0:zO ((scs ns).flatMap Sc.namesL)=none:=HN.o 0 (by omega);have n1:zO ((scs ns).flatMap Sc.typesL)=none:=HN.o 1 (by omega);have n2:zO ((scs ns).flatMap Sc.clocksL)=none:=HN.o 2 (by omega);have n3:zO ((scs ns).flatMap Sc.definesL)=none:=HN.o 3 (by omega);have c0:wr.cell? (xD (w.heap.size+1+1+1+1+1) 12)=some (.string ⟨#[99,97,117,115,101,115]⟩):=by simp[World.cell?,HI.o.row,sen]
  have c1:wr.cell? (xD (w.heap.size+1+1+1+1+1) 13)=some (.iface 324 (.pointer (some (S 8)))):=by simp[World.cell?,HI.o.row,sen]
  have c2:wr.cell? (xD (w.heap.size+1+1+1+1+1) 14)=some (.func (.func 118) #[] #[xP (w.heap.size+1+1+1+1)]):=by simp[World.cell?,HI.o.row,sen]
  have Hnm:Hid (∀c∈scs ns,zfw c):=λc hc=>zex (Hok c hc) (zdS n0 c hc);have hI2:=HI.o.keep hN (zq wr (.cells #[.string ⟨#[99,97,117,115,101,115]⟩,sen S 8,.func (.func 118) #[] #[xP (w.heap.size+1+1+1+1)]] 153));obtain⟨tb,htb⟩:=hI2.b4;have HR:=za (zd2 S 8 ⟨#[99,97,117,115,101,115]⟩ 70 ziX Sc.causesL ns gb (w.heap.size+1+1+1+1) tb (wr.alloc (.cells #[.string ⟨#[99,97,117,115,101,115]⟩,sen S 8,.func (.func 118) #[] #[xP (w.heap.size+1+1+1+1)]] 153)) (λc hc lb bb sb nmv askv l1 l2 ev nv st W hR h hN=>ziB S 8 lb bb sb nmv askv N c (Hok c hc) ev nv st W hR h hN l1 l2) hI2.pt (zMO hN hI2.bel.size) htb);clear htb hI2;have hrz:=ze HI.o.row;obtain⟨pl,hl⟩:∃pl,zO ((scs ns).flatMap Sc.causesL)=pl:=⟨_,rfl⟩;rw[hl] at HR;have HN2:Hid (pl=none->∀j,j<5->zO (zfq ns j)=none):=by
   intro e j hj;by_cases e1:j=4
   . subst e1;exact hl.trans e
   exact HN.o j (by omega)
  have HE:Hid (∀p,pl=some p->zbc ns=some (8,p)):=by intro p e;rw[e] at hl;unfold zbc;rw[n0,n1,n2,n3,hl]
  clear hl n0 n1 n2 n3 Hnm;rotate_left;have n0:zO ((scs ns).flatMap Sc.namesL)=none:=HN.o 0 (by omega);have n1:zO ((scs ns).flatMap Sc.typesL)=none:=HN.o 1 (by omega);have n2:zO ((scs ns).flatMap Sc.clocksL)=none:=HN.o 2 (by omega);have n3:zO ((scs ns).flatMap Sc.definesL)=none:=HN.o 3 (by omega);have n4:zO ((scs ns).flatMap Sc.causesL)=none:=HN.o 4 (by omega);have c0:wr.cell? (xD (w.heap.size+1+1+1+1+1) 15)=some (.string ⟨#[109,101,109,111,114,121]⟩):=by simp[World.cell?,HI.o.row,sen]
  have c1:wr.cell? (xD (w.heap.size+1+1+1+1+1) 16)=some (.iface 324 (.pointer (some (S 9)))):=by simp[World.cell?,HI.o.row,sen]
  have c2:wr.cell? (xD (w.heap.size+1+1+1+1+1) 17)=some (.func (.func 71) #[] #[]):=by simp[World.cell?,HI.o.row,sen]
  have Hnm:Hid (∀c∈scs ns,zfw c):=λc hc=>zex (Hok c hc) (zdS n0 c hc);have hI2:=HI.o.keep hN (zq wr (.cells #[.string ⟨#[109,101,109,111,114,121]⟩,sen S 9,.func (.func 71) #[] #[]] 153));have HR:=za (zoN S 9 ⟨#[109,101,109,111,114,121]⟩ ns gb (wr.alloc (.cells #[.string ⟨#[109,101,109,111,114,121]⟩,sen S 9,.func (.func 71) #[] #[]] 153)) Hsz hI2.pt (zMO hN hI2.bel.size));clear hI2;have hrz:=ze HI.o.row;obtain⟨pl,hl⟩:∃pl,zO (zeZ ns)=pl:=⟨_,rfl⟩;rw[hl] at HR;have HN2:Hid (pl=none->∀j,j<6->zO (zfq ns j)=none):=by
   intro e j hj;by_cases e1:j=5
   . subst e1;exact hl.trans e
   exact HN.o j (by omega)
  have HE:Hid (∀p,pl=some p->zbc ns=some (9,p)):=by intro p e;rw[e] at hl;unfold zbc;rw[n0,n1,n2,n3,n4,hl]
  clear hl n0 n1 n2 n3 n4 Hnm;rotate_left
  . have n0:zO ((scs ns).flatMap Sc.namesL)=none:=HN.o 0 (by omega);have n1:zO ((scs ns).flatMap Sc.typesL)=none:=HN.o 1 (by omega);have n2:zO ((scs ns).flatMap Sc.clocksL)=none:=HN.o 2 (by omega);have n3:zO ((scs ns).flatMap Sc.definesL)=none:=HN.o 3 (by omega);have n4:zO ((scs ns).flatMap Sc.causesL)=none:=HN.o 4 (by omega);have n5:zO (zeZ ns)=none:=HN.o 5 (by omega);have HE:Hid (zbc ns=none):=by unfold Hid zbc;rw[n0,n1,n2,n3,n4,n5]
    clear n0 n1 n2 n3 n4 n5;go_wp2_with fail;go_ret;rw[HE.o];exact⟨rfl,HI.o.bel⟩
  all_goals
   cases pl with
   | none =>
     have HN3:=za (HN2.o rfl);clear HN2 HE;unfold zbp sen at HR;go_wp2_with (go_at_call 72;refine HR.o.mono ?_;rintro e w2 ⟨rfl,hB2⟩;have HB2:=za (zE hB2);clear hB2);go_roundg (gk-1);case measure=>omega
     refine⟨_,?_,?_,?_,HI.o.keep hN HB2.o,HN3.o⟩
     . omega
     . omega
     go_num
   | some p =>
     have HE2:=za (HE.o p rfl);clear HN2 HE;unfold zbp sen at HR
     go_wp2_with (first
      | (go_at_call 41;refine (zdo _ _ _ _).mono ?_;rintro e w3 ⟨rfl,rfl⟩)
      | (go_at_call 72;refine HR.o.mono ?_;rintro e w2 ⟨rfl,hB2⟩;have x0:=zd hB2 (zL (zc wr _)).1 (by simp);have HB2:=za (zE hB2);clear hB2))
     go_ret;rw[HE2.o];exact⟨rfl,HI.o.bel.trans (HB2.o.mono hzr)⟩
end
section
open Go.RowKit
theorem zFs {ns:List Nod}{k p:Nat}(h:zbc ns=some (k,p)):4<=k/\k<=9:=by
 unfold zbc at h;repeat (split at h;· cases h;omega)
 cases h
def zAD (o:Option (Nat×Nat)):Nat×Nat:=o.getD (0,0)
theorem zAX (S:Xs)(src:Xb)(k p:Nat)(hk1:1<=k)(hk2:k<=11)(w:Xw)(hG:Gl S w)(hE:Sn S w)(hT:ErT w)(hR:xK 28 #[.string src] w (λe w'=>e=.returned (.tuple #[.pointer none,zvh S zfv k p])/\xB w w')) :
 xK 10 #[.string src] w (λe w'=>e=.returned (.tuple #[xI k,xI p])/\xB w w'):=by
 have HR:=za hR;have HAn:=za (λW (hB:xB w W)=>zvk S zfv k p W hk1 hk2 (hG.of (T:=λ_=>False) (Fr.of_below hB) (λ_ e=>e.elim)) (λi j i1 i2 j1 j2 W' hB'=>hE i j i1 i2 j1 j2 W' (hB.trans (hB'.mono hB.size))) ((World.cell?_of_block (w:=w) (a:=(xD 7 0)) (hB.block _ (World.block_lt_of_cell? w (xD 7 0) hT))).trans hT));unfold zvh zeQ at HR HAn;clear hR hG hE hT;have hch:xK 26 #[.string src] w (λe w'=>e=.returned (.tuple #[.pointer none,zvh S zfv k p])/\xB w w'):=by unfold zvh zeQ;clear HAn;go_enter func26,ntmps26;go_wp2_with (go_at_call 28;refine HR.o.mono ?_;rintro e w1 ⟨rfl,hB⟩;have HB1:=za hB);exact bodyPost_ret (v:=.tuple #[.pointer none,_]) (by simp[results,results26,go_sem]) rfl ⟨rfl,HB1.o⟩
 have HCh:=za hch;unfold zvh zeQ at HCh;clear hch HR;go_enter func10,ntmps10
 go_wp2_with (first
  | (go_at_call 27;refine (HAn.o _ HB1.o).mono ?_;rintro e w2 ⟨rfl,hB⟩;have HB2:=za hB)
  | (go_at_call 26;refine HCh.o.mono ?_;rintro e w1 ⟨rfl,hB⟩;have HB1:=za hB))
 exact bodyPost_ret (v:=.tuple #[xI k,xI p]) (by simp[results,results10,go_sem]) rfl ⟨rfl,HB1.o.trans (HB2.o.mono HB1.o.size)⟩
theorem zCK (S:Xs)(src:Xb)(ns:List Nod)(H5:∀n∈ns,zeJ n)(H6:∀n∈ns,n.terms.length<=1000000)(w:Xw)(HG:Gl S w)(hE:Sn S w)(hT:ErT w)
 (hR:xK 28 #[.string src] w (λe w'=>∃gb,e=.returned (.tuple #[xP gb,.nilIface])/\PT w' w'.heap.size ns (xP gb)/\xB w w')) :
 xK 10 #[.string src] w (λe w'=>e=.returned (.tuple #[.int .i64 (zAD (zbc ns)).1,.int .i64 (zAD (zbc ns)).2])/\xB w w'):=by
 have HRr:=za hR;have HPg:=za (λW gb (hB:xB w W) (hP:PT W W.heap.size ns (xP gb))=>zjO S W.heap.size ns H5 H6 gb W (HG.of (T:=λ_=>False) (Fr.of_below hB) (λ_ e=>e.elim)) hP (zMK _));clear hR;cases hc:zbc ns with
 | none =>
   rw[hc] at HPg;rw[show zq3 S none=.nilIface from rfl] at HPg;clear hE hT HG H5 H6 hc;unfold zAD;simp only[Option.getD_none];have hch:xK 26 #[.string src] w (λe w'=>∃gb,e=.returned (.tuple #[xP gb,.nilIface])/\xB w w'):=by
    go_enter func26,ntmps26
    go_wp2_with (first
     | (go_at_call 38;revert HP1;intro HP1;refine (HPg.o _ _ HB1.o HP1.o).mono ?_;rintro e w2 ⟨rfl,hB⟩;have hz2:=hB.size;have HB2:=za hB)
     | (go_at_call 28;refine HRr.o.mono ?_;rintro e w1 ⟨gb,rfl,hP,hB⟩;have hz1:=hB.size;have HP1:=za hP;have HB1:=za hB))
    exact bodyPost_ret (v:=.tuple #[xP gb,_]) (by simp[results,results26,go_sem]) rfl ⟨gb,rfl,HB1.o.trans (HB2.o.mono hz1)⟩
   have HCh:=za hch;clear hch HRr HPg;go_enter func10,ntmps10
   go_wp2_with (first
    | (go_at_call 27;refine (zmA _).mono ?_;rintro e w2 ⟨rfl,rfl⟩)
    | (go_at_call 26;refine HCh.o.mono ?_;rintro e w1 ⟨gb,rfl,hB⟩;have HB1:=za hB))
   exact bodyPost_ret (v:=.tuple #[xI 0,xI 0]) (by simp[results,results10,go_sem]) rfl ⟨rfl,HB1.o⟩
 | some x =>
   obtain⟨kd,p⟩:=x;obtain⟨hk1,hk2⟩:=zFs hc;have HAn:=za (λW (hB:xB w W)=>zvk S (zrz kd) kd p W (by omega) (by omega) (HG.of (T:=λ_=>False) (Fr.of_below hB) (λ_ e=>e.elim)) (λi j i1 i2 j1 j2 W' hB'=>hE i j i1 i2 j1 j2 W' (hB.trans (hB'.mono hB.size))) ((World.cell?_of_block (w:=w) (a:=(xD 7 0)) (hB.block _ (World.block_lt_of_cell? w (xD 7 0) hT))).trans hT));rw[hc] at HPg;rw[show zq3 S (some (kd,p))=zvh S (zrz kd) kd p from rfl] at HPg;clear hE hT HG H5 H6 hc;obtain⟨nm,hnm⟩:∃nm,zrz kd=nm:=⟨_,rfl⟩;unfold zvh zeQ at HAn HPg;rw[hnm] at HPg HAn;unfold zAD;simp only[Option.getD_some];have hch:xK 26 #[.string src] w (λe w'=>∃gb,e=.returned (.tuple #[xP gb,zvh S nm kd p])/\xB w w'):=by
    unfold zvh zeQ;clear HAn;go_enter func26,ntmps26
    go_wp2_with (first
     | (go_at_call 38;revert HP1;intro HP1;refine (HPg.o _ _ HB1.o HP1.o).mono ?_;rintro e w2 ⟨rfl,hB⟩;have hz2:=hB.size;have HB2:=za hB)
     | (go_at_call 28;refine HRr.o.mono ?_;rintro e w1 ⟨gb,rfl,hP,hB⟩;have hz1:=hB.size;have HP1:=za hP;have HB1:=za hB))
    exact bodyPost_ret (v:=.tuple #[xP gb,_]) (by simp[results,results26,go_sem]) rfl ⟨gb,rfl,HB1.o.trans (HB2.o.mono hz1)⟩
   have HCh:=za hch;unfold zvh zeQ at HCh;clear hch HRr HPg;go_enter func10,ntmps10
   go_wp2_with (first
    | (go_at_call 27;refine (HAn.o _ HB1.o).mono ?_;rintro e w2 ⟨rfl,hB⟩;have HB2:=za hB)
    | (go_at_call 26;refine HCh.o.mono ?_;rintro e w1 ⟨gb,rfl,hB⟩;have HB1:=za hB))
   exact bodyPost_ret (v:=.tuple #[xI kd,xI p]) (by simp[results,results10,go_sem]) rfl ⟨rfl,HB1.o.trans (HB2.o.mono HB1.o.size)⟩
def zAN (src:Xb)(k p:Nat):Prop :=
 (1200<src.size/\k=1/\p=0)∨(src.size<=1200/\∃R,zgo (lev 17).ex (lev 18).ex 1300 src=R/\((R.1.er≠0/\k=R.1.er/\p=R.1.at')∨(R.1.er=0/\∃ns,ze5 R.2 ns/\k=(zAD (zbc ns)).1/\p=(zAD (zbc ns)).2)))
theorem zFJ {r17 r18:Fn}(g17:zv 17 r17)(g18:zv 18 r18){s:Xb}(hs:s.size<=1200):(zgo r17 r18 1300 s).1.er<=11:=by
 obtain⟨g,hg⟩:∃g,g=1300:=⟨_,rfl⟩;have hal:=zBj g17 g18 g (by omega) s (zmc hs);have h:=zmW g17 g18 (f:=g) (nodes:=[]) (zmc hs) rfl;rw[<- hg];rw[hal.1.er];have key:∀(f:Nat) (x:St×List Nd),Inv 0 x.1->x.1.op=0->Inv 0 (zyS r17 r18 g f x).1:=by
  intro f;induction f with
  | zero=>intro x h _;exact h
  | succ f ih =>
    intro x h ho;unfold zyS;split
    . have:=zmW g17 g18 (f:=g) (nodes:=x.2) h ho;exact ih _ this.1 this.2.1
    exact h
 exact (key g _ h.1 h.2.1).ok.er
theorem zBd (S:Xs)(src:Xb)(k p:Nat)(h:zAN src k p)(w:Xw)(hG:Gl S w)(hE:Sn S w)(hT:ErT w) :
 xK 10 #[.string src] w (λe w'=>e=.returned (.tuple #[xI k,xI p])/\xB w w'):=by
 obtain⟨r17,r18,e17,e18,hX,hK,g17,g18⟩:=zk1;unfold zAN at h;rw[<- e17,<- e18] at h;rcases h with ⟨h1,rfl,rfl⟩|⟨h1,R,hR,⟨h2,rfl,rfl⟩|⟨h2,ns,h3,rfl,rfl⟩⟩
 . exact zAX S src 1 0 (by omega) (by omega) w hG hE hT (zzF hX hK g17 g18 S src 1 0 (zM3 ⟨h1,rfl,rfl⟩) w hG)
 . have her:=zFJ g17 g18 h1;rw[hR] at her;exact zAX S src _ _ (by omega) her w hG hE hT (zzF hX hK g17 g18 S src _ _ (zM4 ⟨h1,by rw[hR];exact h2,by rw[hR],by rw[hR]⟩) w hG)
 obtain⟨f1,f2,ns',f3,f4,f5⟩:=zAc e17 e18 g17 g18 h1 hR h2;have:=zCJ h3 f3;subst this;exact zCK S src ns f4 (λn hn=>zMO (f5 n hn) (by decide)) w hG hE hT (zBy hX hK g17 g18 S src R hR h1 h2 f2 ns f3 w hG)
end
section
open Go.RowKit
variable {L:List Ex}
def zft {α β:Type}(f:α->Option β):List α->Option (List β)
 | []=>some []
 | a::l=>match f a with
   | none=>none
   | some b=>match zft f l with
     | none=>none
     | some m=>some (b::m)
theorem zma {α β:Type}{f:α->Option β}:∀{l:List α} {m:List β},zft f l=some m->m.length=l.length/\∀(i:Nat) (a:α) (b:β),l[i]?=some a->m[i]?=some b->f a=some b:=by
 intro l;induction l with
 | nil=>intro m h;cases h;exact⟨rfl,λi a b h=>by simp at h⟩
 | cons a l ih =>
   intro m h;unfold zft at h;split at h
   . cases h
   rename_i b hb
   split at h
   . cases h
   rename_i m' hm
   cases h;obtain⟨h1,h2⟩:=ih hm;refine⟨by simp[h1],λi x y hx hy=>?_⟩;cases i with
   | zero=>simp at hx hy;subst hx hy;exact hb
   | succ i=>exact h2 i x y (by simpa using hx) (by simpa using hy)
def ziR (L:List Ex):Nat->Nat->Option Tm
 | 0,_=>none
 | f+1,x=>match L[x]? with
   | none=>none
   | some ex=>match zft (ziR L f) ex.ins with
     | none=>none
     | some ts=>some (.mk (zag ex.op.toList ex.n) ex.a ex.s ex.nm (zbF ex.op.toList ex.n) ts)
theorem znM:∀{f x:Nat} {t:Tm},ziR L f x=some t->zeA L x t:=by
 intro f;induction f with
 | zero=>intro x t h;cases h
 | succ f ih =>
   intro x t h;unfold ziR at h;split at h
   . cases h
   rename_i ex hx
   split at h
   . cases h
   rename_i ts hts
   cases h;obtain⟨h1,h2⟩:=zma hts;exact zeA.mk x ex ts hx h1 (λi y t hy ht=>ih (h2 i y t hy ht))
theorem zeA.one {x:Nat}{t t':Tm}(h:zeA L x t)(h':zeA L x t'):t=t':=by
 induction h generalizing t' with
 | mk x ex ts hx hl hr ih =>
   cases h' with
   | mk _ ex' ts' hx' hl' hr' =>
     rw[hx] at hx';cases hx';have:ts=ts':=by
      apply List.ext_getElem?;intro i;by_cases hi:i<ts.length
      . have e1:=zsc hi;have e2:=zsc (show i<ts'.length by omega);have e3:=zsc (show i<ex.ins.length by omega);rw[e1,e2,ih i _ _ e3 e1 (hr' i _ _ e3 e2)]
      rw[List.getElem?_eq_none (by omega),List.getElem?_eq_none (by omega)]
     rw[this]
def qnF (L:List Ex)(q:Eqn):Option Qn:=match ziR L 40 q.ex with
 | none=>none
 | some t=>some ⟨q.ns,q.ps,q.a,t⟩
def zqQ (d:Nd):Option Nod:=match zft (qnF d.exs) d.eqs with
 | none=>none
 | some l=>some ⟨d.nm,d.a,d.vars,d.ins,d.outs,l⟩
def ziP (l:List Nd):Option (List Nod):=zft zqQ l
theorem zpX:∀{l:List Eqn} {qs m:List Qn},zge L l qs->zft (qnF L) l=some m->qs=m:=by
 intro l;induction l with
 | nil=>rintro qs m rfl h;cases h;rfl
 | cons q l ih =>
   rintro qs m ⟨q',l',rfl,hq,hl⟩ h;unfold zft at h;split at h
   . cases h
   rename_i b hb
   split at h
   . cases h
   rename_i m' hm
   cases h;rw[ih hl hm];unfold qnF at hb;split at hb
   . cases hb
   rename_i t ht
   cases hb;obtain⟨a1,a2,a3,a4⟩:=hq;obtain⟨c1,c2,c3,c4⟩:=q';simp only at a1 a2 a3 a4;subst a1 a2 a3;rw[a4.one (znM ht)]
theorem znV:∀{l:List Nd} {ns m:List Nod},ze5 l ns->ziP l=some m->ns=m:=by
 intro l;induction l with
 | nil=>rintro ns m rfl h;cases h;rfl
 | cons d l ih =>
   rintro ns m ⟨n,l',rfl,hn,hl⟩ h;unfold ziP zft at h;split at h
   . cases h
   rename_i b hb
   split at h
   . cases h
   rename_i m' hm
   cases h;rw[ih hl hm];unfold zqQ at hb;split at hb
   . cases hb
   rename_i qs hq
   cases hb;obtain⟨b1,b2,b3,b4,b5,b6⟩:=hn;obtain⟨c1,c2,c3,c4,c5,c6⟩:=n;simp only at b1 b2 b3 b4 b5 b6;subst b1 b2 b3 b4 b5;rw[zpX b6 hq]
end
section
open Go.RowKit
def noT:ByteArray:=⟨#[]⟩
def zCy (src T:Xb)(k p:Nat):Prop :=
 (1200<src.size/\T=noT/\k=1/\p=0)∨(src.size<=1200/\∃R,zgo (lev 17).ex (lev 18).ex 1300 src=R/\((R.1.er≠0/\T=noT/\k=R.1.er/\p=R.1.at')∨(R.1.er=0/\∃ns,ze5 R.2 ns/\T=⟨(zu3 ns).toArray⟩/\k=0/\p=0)))
structure zSO (ds:List Nd) (ns:List Nod):Prop where
 of:ze5 ds ns
 rd:∀n∈ns,RdN n
 wf:∀n∈ns,zeJ n
 sz:∀n∈ns,∀q∈n.eqs,szT q.r<=1201
 nm:∀n∈ns,∀q∈n.eqs,nmB q.r=true
 one:1<=ns.length
 few:ns.length<=6
 tms:∀n∈ns,n.terms.length<=1201
 io:∀n∈ns,n.ins=(n.vars.filter (·.inn)).length/\n.outs=(n.vars.filter (·.out)).length
theorem zOl:∀{l:List Nd} {ns:List Nod},ze5 l ns->∀n∈ns,∃d∈l,zo6 d n:=by
 intro l;induction l with
 | nil=>rintro ns rfl n h;cases h
 | cons d l ih =>
   rintro ns ⟨n0,l',rfl,hn,hl⟩ n h;rcases zNa.1 h with rfl|h
   . exact⟨d,zMS ..,hn⟩
   obtain⟨d2,h1,h2⟩:=ih hl n h;exact⟨d2,zMX _ h1,h2⟩
theorem zOK {r17 r18:Fn}{g:Nat}:∀(f:Nat) (x:St×List Nd),1<=x.2.length->1<=(zdZ r17 r18 g f x).2.length
 | 0,_,h=>h
 | f+1,x,h=>by
   unfold zdZ;split
   . exact zOK f _ (by simp)
   exact h
theorem zRq (r17 r18:Fn)(g:Nat)(s:Xb):1<=(zgo r17 r18 g s).2.length:=by unfold zgo;exact zOK g _ (by simp)
section
variable {r17 r18:Fn} {src:Xb}
theorem zRw (e17:r17=(lev 17).ex)(e18:r18=(lev 18).ex)(g17:zv 17 r17)(g18:zv 18 r18)(hs:src.size<=1200):(zgo r17 r18 1300 src).1.er=0∨(zgo r17 r18 1300 src).1.er=2∨(zgo r17 r18 1300 src).1.er=3:=by obtain⟨g,hg⟩:∃g,g=1300:=⟨_,rfl⟩;rw[<- hg];exact (zQr g17 g18 (by rw[e17];exact (zOe 17).1) (by rw[e18];exact (zOe 18).1) g src (zmc hs)).1.er
theorem zPQ (e17:r17=(lev 17).ex)(e18:r18=(lev 18).ex)(g17:zv 17 r17)(g18:zv 18 r18)(hs:src.size<=1200)(he:(zgo r17 r18 1300 src).1.er=0):∃ns,zSO (zgo r17 r18 1300 src).2 ns:=by
 obtain⟨g,hg⟩:∃g,g=1300:=⟨_,rfl⟩;rw[<- hg] at he ⊢;have hz:=(zQr g17 g18 (by rw[e17];exact (zOe 17).1) (by rw[e18];exact (zOe 18).1) g src (zmc hs)).2 he;have h1:=zRq r17 r18 g src;obtain⟨R,hR⟩:∃R,zgo r17 r18 g src=R:=⟨_,rfl⟩;rw[hR] at he hz h1 ⊢;obtain⟨f1,f2,ns,f3,f4,f5⟩:=zAc e17 e18 g17 g18 hs hR he;clear hR hg e17 e18 g17 g18;have hl:=f3.len;have sz:∀n∈ns,∀q∈n.eqs,szT q.r<=1201:=λn hn q hq=>by obtain⟨d,hd,hnd⟩:=zOl f3 n hn;have:=zz5 hnd (f1 d hd).1;have h2:vz q.r<=vzQ n.eqs:=zQl (List.mem_map.2 ⟨q,hq,rfl⟩);rw[zRQ];omega
 refine⟨ns,f3,λn hn=>?_,f4,sz,λn hn q hq=>?_,by omega,by omega,f5,λn hn=>?_⟩
 . obtain⟨d,hd,hnd⟩:=zOl f3 n hn;exact zSK hnd (hz d hd) (f1 d hd).1 (f4 n hn)
 . obtain⟨d,hd,hnd⟩:=zOl f3 n hn;obtain⟨e,_,he'⟩:=zPH hnd.eqs q hq;exact zFQ (f1 d hd).1.s.exs he'.r
 obtain⟨d,hd,hnd⟩:=zOl f3 n hn;rw[hnd.ins,hnd.outs,hnd.vars];exact⟨rfl,rfl⟩
end
theorem zQZ:∀{ds:List Nd} {ns' ns:List Nod},zNX ds ns->ze5 ds ns'->(∀n∈ns,n.ins=(n.vars.filter (·.inn)).length/\n.outs=(n.vars.filter (·.out)).length)->zPp ns' ns:=by intro ds ns' ns h hn hio;have hl:=hn.len;refine⟨hl.trans h.1,λi n' n h1 h2=>?_⟩;have hil:=(zMJ.1 h1).1;have h3:=zsc (show i<ds.length by omega);obtain⟨m,h4,h5⟩:=zCD hn i _ h3;rw[h1] at h4;cases h4;obtain⟨a,b⟩:=hio n (zML h2);exact zSo a b (h.2 i _ n h3 h2) h5
theorem zRO {ns:List Nod}(h:∀n∈ns,zeJ n):∀n∈ns,zOg n:=λn hn q hq=>((h n hn).eqs q hq).1.symm
theorem zPz (ns:List Nod):(zAD (zbc ns)).1=zNF ns:=by unfold zAD zNF;cases zbc ns <;> rfl
def zQE (src:Xb):Prop :=
 (∃k p,1<=k/\k<=3/\zAN src k p/\zCy src noT k p) ∨
 ∃e a T,e<=11/\zAN src e a/\zCy src T 0 0/\((∃g p,(g=1∨g=3)/\zCy T noT g p/\zAN T g p)∨∃b,zCy T T 0 0/\zAN T e b)
theorem zQ6 (src:Xb):zQE src:=by
 obtain⟨r17,r18,e17,e18,hX,hK,g17,g18⟩:=zk1;clear hX hK;unfold zQE zAN zCy;rw[<- e17,<- e18];by_cases hs:src.size<=1200
 . obtain⟨R,hR⟩:∃R,zgo r17 r18 1300 src=R:=⟨_,rfl⟩;by_cases he:R.1.er=0
   . right;obtain⟨ns,hA⟩:=zPQ e17 e18 g17 g18 hs (by rw[hR];exact he);rw[hR] at hA;obtain⟨T,hT⟩:∃T:Xb,T=⟨(zu3 ns).toArray⟩:=⟨_,rfl⟩;refine⟨zNF ns,(zAD (zbc ns)).2,T,?_,.inr ⟨hs,R,hR,.inr ⟨he,ns,hA.of,(zPz ns).symm,rfl⟩⟩,.inr ⟨hs,R,hR,.inr ⟨he,ns,hA.of,hT,rfl,rfl⟩⟩,?_⟩
     . rw[zOF];repeat' split
       all_goals omega
     by_cases hz:T.size<=1200
     . obtain⟨d,hd⟩:∃d,d=17:=⟨_,rfl⟩;have hc:=zQS (d:=d) (g:=1300) hd (by omega) hA.one hA.few hA.rd (by rw[<- hT];exact zmc hz);have d17:r17=(lev d).ex:=(by rw[hd];exact e17);have d18:r18=(lev (d+1)).ex:=(by rw[e18];rw[hd]);rw[<- d17,<- d18,<- hT] at hc;obtain⟨Q,hQ⟩:∃Q,zgo r17 r18 1300 T=Q:=⟨_,rfl⟩;rw[hQ] at hc;rcases hc with hc|⟨hc,hE⟩
       . left;exact⟨3,Q.1.at',.inr rfl,.inr ⟨hz,Q,hQ,.inl ⟨by omega,rfl,hc.symm,rfl⟩⟩,.inr ⟨hz,Q,hQ,.inl ⟨by omega,hc.symm,rfl⟩⟩⟩
       right;obtain⟨ms,hM⟩:=zPQ e17 e18 g17 g18 hz (by rw[hQ];exact hc);rw[hQ] at hM;have hsm:=zQZ hE hM.of hA.io;refine⟨(zAD (zbc ms)).2,.inr ⟨hz,Q,hQ,.inr ⟨hc,ms,hM.of,by rw[zQH hsm];exact hT,rfl,rfl⟩⟩,.inr ⟨hz,Q,hQ,.inr ⟨hc,ms,hM.of,?_,rfl⟩⟩⟩;rw[zPz,zRn hsm (zRO hA.wf) (zRO hM.wf)]
     left;exact⟨1,0,.inl rfl,.inl ⟨by omega,rfl,rfl,rfl⟩,.inl ⟨by omega,rfl,rfl⟩⟩
   left;have h3:=zRw e17 e18 g17 g18 hs;rw[hR] at h3;exact⟨R.1.er,R.1.at',by omega,by omega,.inr ⟨hs,R,hR,.inl ⟨he,rfl,rfl⟩⟩,.inr ⟨hs,R,hR,.inl ⟨he,rfl,rfl,rfl⟩⟩⟩
 left;exact⟨1,0,by omega,by omega,.inl ⟨by omega,rfl,rfl⟩,.inl ⟨by omega,rfl,rfl,rfl⟩⟩
theorem zOG (S:Xs)(src T:Xb)(k p:Nat)(h:zCy src T k p)(w:Xw)(hKn:Kn S w)(hE:Sn S w)(hT:ErT w) :
 xK 11 #[.string src] w (λe w'=>e=.returned (.tuple #[.string T,xI k,xI p])/\xB w w'):=by
 obtain⟨r17,r18,e17,e18,hX,hK,g17,g18⟩:=zk1;unfold zCy noT at h;rw[<- e17,<- e18] at h;rcases h with ⟨h1,rfl,rfl,rfl⟩|⟨h1,R,hR,⟨h2,rfl,rfl,rfl⟩|⟨h2,ns,h3,rfl,rfl,rfl⟩⟩
 . exact zA1 S src 1 0 (by omega) (by omega) w hKn.gl hE hT (zzF hX hK g17 g18 S src 1 0 (zM3 ⟨h1,rfl,rfl⟩) w hKn.gl)
 . have her:=zFJ g17 g18 h1;rw[hR] at her;exact zA1 S src _ _ (by omega) her w hKn.gl hE hT (zzF hX hK g17 g18 S src _ _ (zM4 ⟨h1,by rw[hR];exact h2,by rw[hR],by rw[hR]⟩) w hKn.gl)
 obtain⟨ms,hA⟩:=zPQ e17 e18 g17 g18 h1 (by rw[hR];exact h2);rw[hR] at hA;have:=zCJ h3 hA.of;subst this;have hl:∀n∈ns,(zvg n).length<=1300000000:=λn hn=>zRC (hA.rd n hn) (hA.sz n hn);have ht:=zR1 hl;have h6:=hA.few;refine zAY S src ns hA.wf (λn hn=>⟨λv _=>zwp v,λq hq=>?_⟩) (λn hn=>zMO (zPi (hA.rd n hn) (hA.sz n hn)) (by decide)) (by omega) w hKn (zBy hX hK g17 g18 S src R hR h1 h2 (by have:=h3.len;omega) ns h3 w hKn.gl);obtain⟨a1,a2,a3,_⟩:=(hA.wf n hn).eqs q hq;exact zvX q a1 a2 (zwI S q.r a3 (hA.nm n hn q hq) (by have:=hA.sz n hn q hq;omega))
end
section
open Go.RowKit
variable {src:Xb} {P:List Nod->Bool}
def rdG (src:Xb)(P:List Nod->Bool):Bool :=
 let R:=zgo (lev 17).ex (lev 18).ex 1300 src
 decide (src.size<=1200)&&decide (R.1.er=0) &&
  match ziP R.2 with
  | none=>false
  | some ns=>P ns
theorem zEq (h:rdG src P=true):src.size<=1200/\(zgo (lev 17).ex (lev 18).ex 1300 src).1.er=0/\∃ns,ziP (zgo (lev 17).ex (lev 18).ex 1300 src).2=some ns/\P ns=true:=by
 unfold rdG at h;simp only[Bool.and_eq_true,decide_eq_true_eq] at h;obtain⟨⟨h1,h2⟩,h4⟩:=h;split at h4
 . cases h4
 rename_i ns hns
 exact⟨h1,h2,ns,hns,h4⟩
theorem zC2 {o:Option (Nat×Nat)}(h:rdG src P=true)(hP:∀ns,P ns=true->zbc ns=o):zAN src (zAD o).1 (zAD o).2:=by
 obtain⟨r17,r18,e17,e18,hX,hK,g17,g18⟩:=zk1;obtain⟨h1,h2,ms,h3,h4⟩:=zEq h;clear h;unfold zAN;rw[<- e17,<- e18] at h2 h3 ⊢;obtain⟨R,hR⟩:∃R,zgo r17 r18 1300 src=R:=⟨_,rfl⟩;rw[hR] at h2 h3;obtain⟨_,_,ns,f3,_,_⟩:=zAc e17 e18 g17 g18 h1 hR h2;have:=znV f3 h3;subst this;have hc:=hP _ h4;refine zM4 ⟨h1,R,hR,zM4 ⟨h2,ns,f3,?_,?_⟩⟩
 . rw[hc]
 rw[hc]
end
section
open Go.RowKit
variable {W w:Xw}
def zRD:ByteArray:=⟨#[110,111,100,101,32,110,40,97,58,32,105,110,116,41,32,45,62,32,40,115,58,32,105,110,116,41,32,123,32,115,32,61,32,115,32,43,32,97,59,32,125]⟩
def zRy:ByteArray:=⟨#[110,111,100,101,32,110,40,97,58,105,110,116,41,45,62,40,115,58,105,110,116,41,123,115,61,48,48,55,32,102,98,121,45,97,59,125]⟩
def zRM:ByteArray:=⟨#[110,111,100,101,32,110,32,40,32,97,32,58,32,105,110,116,32,41,32,45,62,32,40,32,115,32,58,32,105,110,116,32,41,32,123,32,115,32,61,32,40,32,55,32,102,98,121,32,40,32,45,32,97,32,41,32,41,32,59,32,125,10]⟩
set_option maxRecDepth 1000000 in
theorem fixCE:rdG zRD (λns=>decide (zbc ns=some (8,5)))=true:=by decide +kernel
set_option maxRecDepth 1000000 in
theorem fixPF:rdG zRy (λns=>decide (zu3 ns=zRM.data.toList))=true:=by decide +kernel
theorem zSL {src T:Xb}(h:rdG src (λns=>decide (zu3 ns=T.data.toList))=true):zCy src T 0 0:=by obtain⟨r17,r18,e17,e18,_,_,g17,g18⟩:=zk1;obtain⟨h1,h2,ms,h3,h4⟩:=zEq h;clear h;unfold zCy;rw[<- e17,<- e18] at h2 h3 ⊢;obtain⟨R,hR⟩:∃R,zgo r17 r18 1300 src=R:=⟨_,rfl⟩;rw[hR] at h2 h3;obtain⟨_,_,ns,f3,_,_⟩:=zAc e17 e18 g17 g18 h1 hR h2;have:=znV f3 h3;subst this;exact zM4 ⟨h1,R,hR,zM4 ⟨h2,ns,f3,by rw[of_decide_eq_true h4],rfl,rfl⟩⟩
theorem Sn.on {S:Xs}(h:Sn S w)(hB:xB w W):Sn S W:=λi j i1 i2 j1 j2 W' hB'=>h i j i1 i2 j1 j2 W' (hB.trans (hB'.mono hB.size))
theorem ErT.on (h:ErT w)(hB:xB w W):ErT W:=(World.cell?_of_block (w:=w) (a:=(xD 7 0)) (hB.block _ (World.block_lt_of_cell? w (xD 7 0) h))).trans h
theorem zQW (S:Xs)(w:Xw)(hK:Kn S w)(hE:Sn S w)(hT:ErT w) :
 xK 9 #[] w (λe w'=>e=.returned (.bool true)/\xB w w'):=by
 have HC:=za (zBd S zRD 8 5 (zC2 (o:=some (8,5)) fixCE (λns h=>of_decide_eq_true h)) w hK.gl hE hT);have HP:=za (λW (hb:xB w W)=>zOG S zRy zRM 0 0 (zSL fixPF) W (hK.bl hb) (hE.on hb) (hT.on hb));unfold zRD at HC;unfold zRy zRM at HP;clear hK hE hT;go_enter func9,ntmps9
 go_wp2_with (first
  | (go_at_call 11;revert HB1;intro HB1;refine (HP.o _ HB1.o).mono ?_;rintro e w3 ⟨rfl,hb⟩;have HB2:=za (HB1.o.trans (hb.mono HB1.o.size)))
  | (go_at_call 10;refine HC.o.mono ?_;rintro e w1 ⟨rfl,hb⟩;have HB1:=za hb))
 go_ret;exact⟨rfl,HB2.o⟩
theorem zO5 (S:Xs)(w:Xw)(hK:Kn S w)(hE:Sn S w)(hT:ErT w)(src:Xb) :
 xK 3 #[.string src] w (λe w'=>e=.returned (.bool true)/\xB w w'):=by
 have HR:=za (zQW S w hK hE hT);have HC:=za (λsrc k p (h:zAN src k p) W (hb:xB w W)=>zBd S src k p h W (hK.bl hb).gl (hE.on hb) (hT.on hb));have HP:=za (λsrc T k p (h:zCy src T k p) W (hb:xB w W)=>zOG S src T k p h W (hK.bl hb) (hE.on hb) (hT.on hb));clear hK hE hT;have h:=zQ6 src;unfold zQE noT at h;rcases h with ⟨k,p,h1,h2,h3,h4⟩|⟨e,a,T,he,h3,h4,⟨g,p,hg,h5,h6⟩|⟨b,h5,h6⟩⟩
 . have H3:=za (HC.o _ _ _ h3);have H4:=za (HP.o _ _ _ _ h4);clear HC HP h3 h4;have hk:k=1∨k=2∨k=3:=by omega
   clear h1 h2;rcases hk with rfl|rfl|rfl
   all_goals
    go_enter func3,ntmps3
    go_wp2_with (first
     | (go_at_call 11;revert HB2;intro HB2;refine (H4.o _ HB2.o).mono ?_;rintro e w3 ⟨rfl,hb⟩;have HB3:=za (HB2.o.trans (hb.mono HB2.o.size)))
     | (go_at_call 10;revert HB1;intro HB1;refine (H3.o _ HB1.o).mono ?_;rintro e w2 ⟨rfl,hb⟩;have HB2:=za (HB1.o.trans (hb.mono HB1.o.size)))
     | (go_at_call 9;refine HR.o.mono ?_;rintro e w1 ⟨rfl,hb⟩;have HB1:=za hb))
    go_ret;exact⟨rfl,HB3.o⟩
 . have H3:=za (HC.o _ _ _ h3);have H4:=za (HP.o _ _ _ _ h4);have H5:=za (HP.o _ _ _ _ h5);have H6:=za (HC.o _ _ _ h6);clear HC HP h3 h4 h5 h6;rcases hg with rfl|rfl
   all_goals
    go_enter func3,ntmps3
    go_wp2_with (first
     | (go_at_call 10;revert HB4;intro HB4;refine (H6.o _ HB4.o).mono ?_;rintro e w5 ⟨rfl,hb⟩;have HB5:=za (HB4.o.trans (hb.mono HB4.o.size)))
     | (go_at_call 11;revert HB3;intro HB3;refine (H5.o _ HB3.o).mono ?_;rintro e w4 ⟨rfl,hb⟩;have HB4:=za (HB3.o.trans (hb.mono HB3.o.size)))
     | (go_at_call 11;revert HB2;intro HB2;refine (H4.o _ HB2.o).mono ?_;rintro e w3 ⟨rfl,hb⟩;have HB3:=za (HB2.o.trans (hb.mono HB2.o.size)))
     | (go_at_call 10;revert HB1;intro HB1;refine (H3.o _ HB1.o).mono ?_;rintro e w2 ⟨rfl,hb⟩;have HB2:=za (HB1.o.trans (hb.mono HB1.o.size)))
     | (go_at_call 9;refine HR.o.mono ?_;rintro e w1 ⟨rfl,hb⟩;have HB1:=za hb))
    go_ret;exact⟨rfl,HB5.o⟩
 have H3:=za (HC.o _ _ _ h3);have H4:=za (HP.o _ _ _ _ h4);have H5:=za (HP.o _ _ _ _ h5);have H6:=za (HC.o _ _ _ h6);clear HC HP h3 h4 h5 h6;go_enter func3,ntmps3
 go_wp2_with (first
  | (go_at_call 10;revert HB4;intro HB4;refine (H6.o _ HB4.o).mono ?_;rintro e w5 ⟨rfl,hb⟩;have HB5:=za (HB4.o.trans (hb.mono HB4.o.size)))
  | (go_at_call 11;revert HB3;intro HB3;refine (H5.o _ HB3.o).mono ?_;rintro e w4 ⟨rfl,hb⟩;have HB4:=za (HB3.o.trans (hb.mono HB3.o.size)))
  | (go_at_call 11;revert HB2;intro HB2;refine (H4.o _ HB2.o).mono ?_;rintro e w3 ⟨rfl,hb⟩;have HB3:=za (HB2.o.trans (hb.mono HB2.o.size)))
  | (go_at_call 10;revert HB1;intro HB1;refine (H3.o _ HB1.o).mono ?_;rintro e w2 ⟨rfl,hb⟩;have HB2:=za (HB1.o.trans (hb.mono HB1.o.size)))
  | (go_at_call 9;refine HR.o.mono ?_;rintro e w1 ⟨rfl,hb⟩;have HB1:=za hb))
 go_ret;exact⟨rfl,HB5.o⟩
end
section
open Go.ChangeShapes Go.WideShapes Go.ChangeAt Go.RowKit
variable {l:List (String×DataW Unit)} {g k:Nat} {W:Xw}
theorem zhU {P:Program}{w:Xw}:∀{l:List (String×DataW Unit)} {ps:List MemPlace},DataW.LaidVars P w l ps->∀{k:Nat} {n:String} {d:DataW Unit},l[k]?=some (n,d)->∃g t cs fuel p,P.globalNamed n=some g/\(P.globals[g]?).map (·.type)=some t/\w.var? P n=some cs/\DataW.trod (λ_=>()) P w 0 (λ_=>true) false fuel t cs.toList=some (d,p)/\∀x∈MemPlace.row (xD g 0) cs.size,x∈ps:=by
 intro l;induction l with
 | nil=>intro ps _ k n d hk;simp at hk
 | cons x l ih =>
   obtain⟨n0,d0⟩:=x;rintro ps ⟨g,t,cs,fuel,p,q,h1,h2,h3,h4,h5,h6⟩ k n d hk;cases k with
   | zero => simp at hk;obtain⟨rfl,rfl⟩:=hk;exact⟨g,t,cs,fuel,p,h1,h2,h3,h4,λx hx=>by rw[h6];simp[hx]⟩
   | succ k => obtain⟨g',t',cs',fuel',p',e1,e2,e3,e4,e5⟩:=ih h5 (k:=k) (by simpa using hk);exact⟨g',t',cs',fuel',p',e1,e2,e3,e4,λx hx=>by rw[h6];simp[e5 x hx]⟩
theorem Tryz.star: "*"++ "errors.errorString"= "*errors.errorString":=by decide
theorem Tryz.rowErr (u:Xy)(h:prog.typeName? 3 u=some "*errors.errorString"):u=324 :=
 typeName_ptr_named (nm:= "errors.errorString") (by rw[Tryz.star];kernel_rfl) (by kernel_rfl) (by decide) u (by rw[Tryz.star];exact h)
theorem Tryz.cellsErr:prog.cellsOf 326=1:=by kernel_rfl
theorem Tryz.cellsStr:prog.cellsOf 9=1:=by kernel_rfl
theorem zcl (h:laidMet prog l W){n:String}{text:Xu}(hk:l[k]?=some (n,.iface "*errors.errorString" (.ptr (.agg [.lit (.string text)]))))(hg:prog.globalNamed n=some g)(ht:(prog.globals[g]?).map (·.type)=some 53) :
 ∃a,W.cell? (xD g 0)=some (.iface 324 (.pointer (some a))):=by
 obtain⟨ps,hL,_,hrows⟩:=h;obtain⟨g',t,cs,fuel,p,e1,e2,e3,e4,e5⟩:=zhU hL hk;obtain rfl:=Option.some.inj (hg.symm.trans e1);obtain rfl:=Option.some.inj (ht.symm.trans e2);obtain⟨l0⟩:=cs;have ok:∀u v,l0=[.iface u v]->Value.okWide prog W .any 0 u v:=λu v e=>by subst e;exact (hrows g 0 (e5 _ (by simp[MemPlace.row]))).2 u v (by simpa using World.var?_cell e1 e3 0)
 obtain⟨a,s,rfl,_⟩:=errorString_of_trod underlying53 Tryz.rowErr underlying324 underlying326 rfl rfl underlying9 Tryz.cellsErr Tryz.cellsStr e4 ok;exact⟨a,by simpa using World.var?_cell e1 e3 0⟩
theorem zjE (h:laidMet prog l W){n:Nat}{t e:Xy}{nm:String}{ds:List (DataW Unit)}(hk:l[k]?=some (nm,.agg ds))(hg:prog.globalNamed nm=some g)(ht:(prog.globals[g]?).map (·.type)=some t)(hu:prog.underlying t=some (.array n e))(hc:prog.cellsOf e=1)(hct:prog.cellsOf t=n) :
 ∀i,i<n->∃v f x,W.cell? (xD g i)=some v/\DataW.trod (λ_=>()) prog W 0 (λ_=>true) false f e [v]=some x/\ds[i]?=some x.1:=by
 obtain⟨ps,hL,_,hrows⟩:=h;obtain⟨g',t',cs,fuel,p,e1,e2,e3,e4,e5⟩:=zhU hL hk;obtain rfl:=Option.some.inj (hg.symm.trans e1);obtain rfl:=Option.some.inj (ht.symm.trans e2);obtain⟨xs,m,_,hx,hl,hn,hel⟩:=DataW.trod_array hu e4;intro i hi;have h1:=hel i hi;rw[hc] at h1;obtain⟨x,hx1⟩:∃x,xs[i]?=some x:=⟨_,zsc (by omega)⟩;rw[hx1] at h1;have hds:ds=xs.map (·.1):=by have:=congrArg Prod.fst hx;simpa using this
 simp only[Nat.mul_one] at h1;rcases hd:cs.toList.drop i with _|⟨v,r⟩
 . have:=List.drop_eq_nil_iff.1 hd;rw[hct] at hl;omega
 rw[hd] at h1;refine⟨v,m,x,?_,by simpa using h1,by rw[hds,List.getElem?_map,hx1];rfl⟩;have hv:cs[i]?=some v:=by
  have:cs.toList[i]?=some v:=by have:=congrArg (λl=>l[0]?) hd;simpa [List.getElem?_drop] using this
  simpa using this
 rw[World.var?_cell e1 e3 i];exact hv
end
end Go.Proofs.YtbicmofihhjgbaaGreatDoor
