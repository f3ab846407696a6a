/- Part 35 of the proof: MemA MemB ChkP. -/
import Derived.Test.YtbicmofihhjgbaaGreatDoorK33
set_option maxRecDepth 100000
set_option maxHeartbeats 8000000
namespace Go.Proofs.YtbicmofihhjgbaaGreatDoor
open Go.Proofs.Tryz
open Go.RowKit
section
variable {s:Int} {m:List (ByteArray×Nat)} {b cnb mbx:Nat} {w w':World}
attribute [local go_sem ↓] Go.wp_at_zero Go.wp_at_succ
def zdf (w:World)(b:Nat)(m:List (ByteArray×Nat)):Prop :=
 ∃l:List (ByteArray×Value),zbn w b Value.string l/\∀s,(zaT s l).getD (xI 0)=xI (zbi s m:Nat)
theorem zdf.of' (h:zdf w b m)(hb:w'.heap[b]?=w.heap[b]?):zdf w' b m:=by obtain⟨l,h1,h2⟩:=h;exact⟨l,h1.of hb,h2⟩
theorem zdf.lt (h:zdf w b m):b<w.heap.size:=by obtain⟨l,h1,_⟩:=h;exact h1.lt
theorem zdf.keep (h:zdf w b m)(hB:xB w w'):zdf w' b m:=h.of' (hB.block _ h.lt)
theorem Tryz.zeroI (w:World):(zeroValue 3).run prog w=.ok (xI 0) w:=by kernel_rfl
theorem zkF (h:zdf w b m)(s:ByteArray) :
 (Instr.lookup 242 (.map (some b)) (.string s) false).run prog w=.ok (xI (zbi s m:Nat)) w:=by
 obtain⟨l,h1,h2⟩:=h;refine (zgI Tryz.keyStr underlying242 Tryz.zeroI h1 s false).trans ?_;rw[<- h2 s];rfl
theorem zqN (h:zdf w b m)(s:ByteArray)(n:Nat) :
 ∃w',(Instr.mapUpdate 242 (.map (some b)) (.string s) (xI (n:Int))).run prog w=.ok () w'/\zdf w' b ((s,n)::m)/\Fr (·=b) w w':=by
 obtain⟨l,h1,h2⟩:=h;obtain⟨w',r,mm,f⟩:=zgh Tryz.keyStr underlying242 h1 s (xI (n:Int));refine⟨w',r,⟨_,mm,λs'=>?_⟩,f⟩;rw[zgD,zbi];by_cases e:s=s'
 . rw[if_pos e,if_pos e];rfl
 . rw[if_neg e,if_neg e];exact h2 s'
def zbf (m:List (ByteArray×Nat))(s:Int)(t:Tm):Int:=if t.k=9∨t.k=4 then wrap64 (s+(za9 m t:Nat)) else s
structure CnI (cnb mbx b:Nat) (m:List (ByteArray×Nat)) (s:Int) (w:World):Prop where
 x1:w.heap[cnb]?=some (.cells #[xI s] 3 (0,0))
 x2:w.heap[mbx]?=some (.cells #[.map (some b)] 242 (0,0))
 cm:zdf w b m
 d1:¬mbx=cnb
 d2:¬b=cnb
theorem CnI.keep (h:CnI cnb mbx b m s w)(hB:xB w w'):CnI cnb mbx b m s w' :=
 ⟨(hB.block _ (ze h.x1)).trans h.x1,(hB.block _ (ze h.x2)).trans h.x2,h.cm.keep hB,h.d1,h.d2⟩
theorem CnI.put (h:CnI cnb mbx b m s w)(s':Int):CnI cnb mbx b m s' (w.setCell (xD cnb 0) (xI s')) :=
 ⟨zhY h.x1 _,zr h.d1 h.x2,h.cm.of' (zr h.d2 rfl),h.d1,h.d2⟩
theorem zqq:zH 181:=λ_ _=>by kernel_rfl
theorem zm7 (N:Nat)(n:Nod)(cnb mbx b:Nat)(m:List (ByteArray×Nat))(hm:∀s,zbi s m<=61)(hcn:N<=cnb) :
 zjB N (·=cnb) 181 #[xP cnb,xP mbx] (λ_=>True) n (λs _ t=>zbf m s t) (CnI cnb mbx b m) where
 enters:=zqq
 hT:=λ_ e=>e▸hcn
 keep:=λs w w' h hB=>h.keep hB
 sub:=λ_ _ _ _=>trivial
 root:=λ_ _=>trivial
 call:=by
  intro q lv rv t v s w _ hE hT _ hN HI0 _;obtain⟨bt,args,vs,rfl,hb',hblk,_⟩:=hT.ptr;obtain⟨xl,cl,rfl⟩:=zB hE.own;obtain⟨rb,_,_,rfl,_⟩:=hE.tt.ptr;have HI:=za (λo=>HI0.keep (zq w o));obtain⟨m0,m1,m2,m3,m4,m5,mf,mz⟩:=zt hblk;obtain⟨a0,af,az⟩:=zu HI0.x1;obtain⟨p0,pf,pz⟩:=zu HI0.x2;have hd:=HI0.d1;have hbc:¬bt=cnb:=by omega
  have hlk:=λo=>zkF (HI0.keep (zq w o)).cm t.s;have h61:=hm t.s;clear hT hblk hE hm
  show Calls prog _ #[.agg #[.slice xl q.ns.length cl,xI q.a,xP rb],xP bt,xP cnb,xP mbx] w _;by_cases h9:t.k=9
  . have HS:Hid (zbf m s t=wrap64 (s+1)):=by unfold Hid zbf za9;rw[if_pos (Or.inl h9),if_pos h9];rfl
    have m0':w.cell? (xD bt 0)=some (xI 9):=(by rw[m0,h9];rfl);clear h9 m0;go_enter func181,ntmps181;go_wp2_with fail;go_ret;rw[HS.o];exact⟨rfl,(HI0.put _).keep (zq _ _),(Fr.set1 (Fr.refl _ w) _ _).alloc _⟩
  . by_cases h4:t.k=4
    . have HS:Hid (zbf m s t=wrap64 (s+(1+(zbi t.s m:Nat)))):=(by unfold Hid zbf za9;rw[if_pos (Or.inr h4),if_neg h9,if_pos h4];rfl);have m0':w.cell? (xD bt 0)=some (xI 4):=(by rw[m0,h4];rfl);have hw1:wrap64 (1+(zbi t.s m:Int))=1+(zbi t.s m:Int):=(by unfold wrap64;omega);clear h9 h4 m0;go_enter func181,ntmps181;go_upto_region 5 with fail;refine zn (λW=>CnI cnb mbx b m s W/\xB w W) ⟨HI.o _,zq w _⟩ ?_;rintro W ⟨HIW,HBW⟩;clear a0 af az p0 pf pz hlk;obtain⟨a0,af,az⟩:=zu HIW.x1;obtain⟨p0,pf,pz⟩:=zu HIW.x2;have r2:=zd HBW m2 mz;have hlk:(Instr.lookup 242 (.map (some b)) (.string t.s) false).run prog W.drew=.ok (xI (zbi t.s m:Nat)) W.drew:=zkF (w:=W.drew) (HIW.cm.of' (w':=W.drew) rfl) t.s;clear m0' m1 m2 m3 m4 m5 mf;go_region;go_wp2_with fail;go_ret;rw[HS.o];exact⟨rfl,(HIW.put _).keep (zo (Below.refl _ _)),(Fr.set1 (zy HBW) _ _).trans (zy (zo (Below.refl _ _)))⟩
    . have HS:Hid (zbf m s t=s):=(by unfold Hid zbf;rw[if_neg (by omega)]);have h9':¬(t.k:Int)=9:=(by omega);have h4':¬(t.k:Int)=4:=(by omega);clear h9 h4;go_enter func181,ntmps181;go_wp2_with fail;go_ret;rw[HS.o];exact⟨rfl,HI.o _,zy (zq w _)⟩
end
section
variable {n:Nod}
attribute [local go_sem ↓] Go.wp_at_zero Go.wp_at_succ
def Nod.terms (n:Nod):List Tm:=n.eqs.flatMap λq=>zaV za5 q.r
theorem zkU {α β γ:Type}(f:γ->β->γ)(g:α->List β):∀(l:List α) (s:γ),(l.flatMap g).foldl f s=l.foldl (λs a=>(g a).foldl f s) s:=by
 intro l;induction l with
 | nil=>intro s;rfl
 | cons a l ih=>intro s;rw[List.flatMap_cons,List.foldl_append,List.foldl_cons,ih]
theorem znh:∀(l:List Nat) (s:Nat),l.foldl (·+·) s=s+zed l:=by
 intro l;induction l with
 | nil=>intro s;rfl
 | cons a l ih=>intro s;unfold zed;rw[List.foldl_cons,List.foldl_cons,ih,ih (0+a)];omega
theorem zmV (m:List (ByteArray×Nat))(hm:∀s,zbi s m<=61):∀(l:List Tm) (s:Nat),s+62*l.length<=4611686018427387904->l.foldl (zbf m) (s:Int)=((s+zed (l.map (za9 m)):Nat):Int):=by
 intro l;induction l with
 | nil=>intro s _;rfl
 | cons t l ih =>
   intro s hs;rw[List.length_cons] at hs;have h1:za9 m t<=62:=by
    unfold za9;have:=hm t.s;split
    . omega
    . split <;> omega
   have h2:zbf m (s:Int) t=((s+za9 m t:Nat):Int):=by
    unfold zbf;split
    . unfold wrap64;omega
    . rename_i h
      unfold za9;rw[if_neg (by omega),if_neg (by omega)];rfl
   rw[List.foldl_cons,h2,ih _ (by omega),List.map_cons];unfold zed;rw[List.foldl_cons,znh _ (0+za9 m t)];unfold zed;omega
theorem znm (n:Nod)(m:List (ByteArray×Nat)):zcg n m<=61:=Nat.min_le_right _ _
theorem zkg {N:Nat}{nb:Nat}{vs ev:Value}{xs:List Value}(b:Nat)(m:List (ByteArray×Nat))(hm:∀s,zbi s m<=61)(hsz:n.terms.length<=1000000)(w:World)(h:NT w N n nb vs ev xs)(hc:zdf w b m)(hN:N<=w.heap.size) :
 xK 139 #[xP nb,.map (some b)] w (λe w'=>e=.returned (xI (zcg n m:Nat))/\xB w w'):=by
 have hmf:∀(fn:Go.Fn) (first cap:Array Value) (w:World),(Instr.makeFunc fn first cap).run prog w=.ok (.func fn first cap) w:=λ_ _ _ _=>rfl;have hcz:=hc.lt;have HW:=za (λo1 o2 (h1:o1=Obj.cells #[.map (some b)] 242 (0,0)) (h2:o2=Obj.cells #[xI 0] 3 (0,0))=>zfN (zm7 N n (w.heap.size+1) w.heap.size b m hm (by omega)) nb vs ev xs 0 ((w.alloc o1).alloc o2) (h.old (zfr hN o1 o2)) (by rw[zsb,zsb];omega) (λk e=>by subst e;rw[zsb,zsb];omega) ⟨by rw[(zd8 w o1 o2).2,h2],by rw[(zd8 w o1 o2).1,h1],hc.keep (zaD w o1 o2),by omega,by omega⟩);have hf:n.eqs.foldl (λs q=>(zaV za5 q.r).foldl (λs t=>zbf m s t) s) (0:Int)=((zed (n.terms.map (za9 m)):Nat):Int):=by rw[<- zkU (zbf m) (λq=>zaV za5 q.r) n.eqs 0];have:=zmV m hm n.terms 0 (by omega);rw[Nat.zero_add] at this;exact this
 rw[hf] at HW;have HM:Hid (zcg n m=min (zed (n.terms.map (za9 m))) 61):=rfl;generalize zed (n.terms.map (za9 m))=tot at HW HM;go_enter func139,ntmps139;go_wp2_with (go_at_call 122;refine (HW.o _ _ rfl rfl).mono ?_;rintro e w1 ⟨rfl,hI,HF⟩;obtain⟨a0,af,az⟩:=zu hI.x1);all_goals go_ret
 all_goals rw[HM.o]
 all_goals refine⟨?_,zbR (zaD w _ _) HF (by omega)⟩
 all_goals first|(refine congrArg Ending.returned ?_;refine congrArg (Value.int IntKind.i64) ?_;first|omega|(split <;> omega))|trace_state
theorem zmM {ns:List Nod}{k:Nat}(h:ns[k]?=some n)(m:List (ByteArray×Nat))(last:Nat):zfW (ns.drop k) m last=zfW (ns.drop (k+1)) ((n.nm,zcg n m)::m) (zcg n m):=by obtain⟨h1,h2⟩:=List.getElem?_eq_some_iff.1 h;rw[List.drop_eq_getElem_cons h1,zfW,h2]
theorem zqt:zH 71:=λ_ _=>by kernel_rfl
theorem ziJ (S:Nat->Addr)(kd lb bb sb:Nat)(nmv askv:Value)(N:Nat)(ns:List Nod)(Hsz:∀n∈ns,n.terms.length<=1000000)(pv:Value)(st:Option Nat)(w:World)(HR:RpI S kd lb bb sb nmv askv st w)(hP:PT w N ns pv)(hN:N<=w.heap.size)(_l1:N<=lb)(_l2:N<=bb) :
 xK 71 #[pv,zam lb bb sb] w (λe w'=>e=.returned (.tuple #[])/\RpI S kd lb bb sb nmv askv ((zeZ ns).foldl rep st) w'/\Fr (RT lb bb) w w'):=by
 obtain⟨gb,gv,xs,rfl,hgb,hblk,HL⟩:=hP;obtain⟨xg,cpg,rfl⟩:=zB HL.own;have hmm:=@run_makeMap prog;have hfew:=HL.few;obtain⟨g0,gf,gz⟩:=zu hblk;unfold zam;go_enter func71,ntmps71;go_wp2_with fail;go_loopg [14,5] (ns.length+1) (λj i x wr=>∃(k last:Nat) (m:List (ByteArray×Nat)),k+j=ns.length+1/\k<=ns.length/\i=xI k/\x=xI last/\last<=61/\Hid (∀s,zbi s m<=61)/\Hid (zfW ns [] 0=zfW (ns.drop k) m last)/\Hid (zdf wr w.heap.size m)/\Hid (xB w wr));case atStart=>exact⟨0,0,[],by omega,Nat.zero_le _,rfl,rfl,by omega,λs=>by simp[zbi],rfl,⟨[],⟨#[],0,zc w _,rfl⟩,λs=>rfl⟩,zq w _⟩
 case round =>
  obtain⟨k,last,m,hkj,hk,rfl,rfl,hla,Hm,HD,HC,HB⟩:=hrel;have hO:=zm HB.o hN;by_cases hlt:k<ns.length
  . obtain⟨n,hn⟩:∃n,ns[k]?=some n:=⟨_,zsc hlt⟩;have hL2:=HL.old hO;obtain⟨v,hv,hnp⟩:=hL2.at' k n hn;obtain⟨g',rfl,hcell⟩:=zbE hL2.own hv;obtain⟨nb,vs,qv,ys,rfl,hnt⟩:=hnp;have hgN:=HL.lo g' rfl;obtain⟨m0,m1,m2,m3,m4,m5,mf,mz⟩:=zt hnt.blk;have hzr:=HB.o.size;have HCo:=za (zkg w.heap.size m Hm.o (Hsz n (List.mem_of_getElem? hn)) wr hnt HC.o (by omega));have HT:=za (zmM hn m last);rw[<- HD.o] at HT;have h61:=znm n m;have Hm2:Hid (∀s,zbi s ((n.nm,zcg n m)::m)<=61):=by
     intro s;rw[zbi];split
     . exact h61
     . exact Hm.o s
    generalize zcg n m=cm at HCo HT h61 Hm2;go_wp2_with (go_at_call 139;refine HCo.o.mono ?_;rintro e w1 ⟨rfl,hB1⟩;obtain⟨w2,hr2,HC2,hF2⟩:=zqN (HC.o.keep hB1) n.nm cm;have r0:=zd hB1 m0 mz;have HB2:=za (zbR (HB.o.trans (hB1.mono hzr)) hF2 (Nat.le_refl _)));go_roundg (gk-1);case measure=>omega
    exact⟨k+1,cm,_,by omega,by omega,by go_num,rfl,h61,Hm2.o,HT.o,HC2,HB2.o⟩
  . have ek:k=ns.length:=by omega
    subst ek;rw[List.drop_length,zfW] at HD;have HR2:=za (HR.keep HB.o);by_cases h60:60<last
    . have HT:Hid ((zeZ ns).foldl rep st=rep st 0):=(by unfold Hid zeZ;rw[HD.o,if_pos h60];rfl);have h60':(60:Int)<(last:Int):=(by omega);have HTell:=za (zaa S kd lb bb sb nmv askv st 0 wr HR2.o);go_wp2_with (go_at_call 140;refine HTell.o.mono ?_;rintro e w2 ⟨rfl,HRt,HFt⟩);first|go_end0|refine bodyPost_ret (results_none rfl _ _ _) rfl ?_
      rw[HT.o];exact⟨rfl,HRt,(zy HB.o).trans HFt⟩
    . have HT:Hid ((zeZ ns).foldl rep st=st):=(by unfold Hid zeZ;rw[HD.o,if_neg h60];rfl);have h60':¬(60:Int)<(last:Int):=(by omega);go_wp2_with fail;first|go_end0|refine bodyPost_ret (results_none rfl _ _ _) rfl ?_
      rw[HT.o];exact⟨rfl,HR2.o,zy HB.o⟩
end
section
variable {ns:List Nod} {N:Nat}
attribute [local go_sem ↓] Go.wp_at_zero Go.wp_at_succ
theorem zpT:zH 118:=λ_ _=>by kernel_rfl
theorem zj2:zH 66:=λ_ _=>by kernel_rfl
theorem zkf:zH 67:=λ_ _=>by kernel_rfl
theorem zjo:zH 68:=λ_ _=>by kernel_rfl
theorem zgu:zH 69:=λ_ _=>by kernel_rfl
theorem ziX:zH 70:=λ_ _=>by kernel_rfl
theorem zd2 (S:Nat->Addr)(kd:Nat)(nm:ByteArray)(f:FuncId)(hf:zH f)(L:Sc->List Nat)(ns:List Nod)(gb ab:Nat)(t:TypeId)(w:World)
 (hA:∀c∈scs ns,∀lb bb sb nmv askv,N<=lb->N<=bb->zoD S kd lb bb sb nmv askv N f L c) (hP:PT w N ns (xP gb)) (hN:N<=w.heap.size) (hab:xH w ab #[.func (.func f) #[] #[]] t) :
 xK 72 #[.agg #[.string nm,sen S kd,.func (.func 118) #[] #[xP ab]],xP gb] w (λe w'=>e=.returned (zbp S kd (zO ((scs ns).flatMap L)))/\xB w w'):=by
 have hz:=ze hab;refine zkt S kd nm 118 zpT #[xP ab] gb _ w (λW hB hR=>?_);exact zoq S kd _ _ _ _ _ N f hf L ns (λc hc=>hA c hc _ _ _ _ _ (by omega) (by omega)) _ ab t none W hR (hP.old (zm hB hN)) (by have:=hB.size;omega) (by omega) (by omega) ((hB.block _ hz).trans hab) (by omega) (by omega)
theorem zoN (S:Nat->Addr)(kd:Nat)(nm:ByteArray)(ns:List Nod)(gb:Nat)(w:World)(hsz:∀n∈ns,n.terms.length<=1000000)(hP:PT w N ns (xP gb))(hN:N<=w.heap.size) :
 xK 72 #[.agg #[.string nm,sen S kd,.func (.func 71) #[] #[]],xP gb] w (λe w'=>e=.returned (zbp S kd (zO (zeZ ns)))/\xB w w'):=by
 refine zkt S kd nm 71 zqt #[] gb _ w (λW hB hR=>?_);exact ziJ S kd _ _ _ _ _ N ns hsz _ none W hR (hP.old (zm hB hN)) (by have:=hB.size;omega) (by omega) (by omega)
def zrz:Nat->ByteArray
 | 4=>⟨#[110,97,109,101,115]⟩
 | 5=>⟨#[116,121,112,101,115]⟩
 | 6=>⟨#[99,108,111,99,107,115]⟩
 | 7=>⟨#[100,101,102,105,110,105,116,105,111,110,115]⟩
 | 8=>⟨#[99,97,117,115,101,115]⟩
 | 9=>⟨#[109,101,109,111,114,121]⟩
 | _=>⟨#[]⟩
def zq3 (S:Nat->Addr):Option (Nat×Nat)->Value
 | none=>.nilIface
 | some (kd,p)=>zeQ (zrz kd) (zbp S kd (some p))
def zfq (ns:List Nod):Nat->List Nat
 | 0=>(scs ns).flatMap Sc.namesL
 | 1=>(scs ns).flatMap Sc.typesL
 | 2=>(scs ns).flatMap Sc.clocksL
 | 3=>(scs ns).flatMap Sc.definesL
 | 4=>(scs ns).flatMap Sc.causesL
 | 5=>zeZ ns
 | _=>[]
theorem zrb (h:∀n∈ns,zeJ n)(h6:ns.length<=6):∀c∈scs ns,zbr c:=by
 intro c hc;unfold scs at hc;obtain⟨i,hi,h1⟩:=List.mem_filterMap.1 hc;cases h2:ns[i]? with
 | none=>rw[h2] at h1;cases h1
 | some n => rw[h2] at h1;cases h1;refine⟨λm hm=>h m (List.mem_of_mem_take hm),h n (List.mem_of_getElem? h2),?_⟩;rw[List.length_take];omega
structure PrI (S:Nat->Addr) (N:Nat) (ns:List Nod) (gb:Nat) (w W:World):Prop where
 pt:PT W N ns (xP gb)
 row:W.heap[w.heap.size+1+1+1+1+1]?=some (.cells #[.string ⟨#[110,97,109,101,115]⟩,sen S 4,.func (.func 118) #[] #[xP w.heap.size],.string ⟨#[116,121,112,101,115]⟩,sen S 5,.func (.func 118) #[] #[xP (w.heap.size+1)],.string ⟨#[99,108,111,99,107,115]⟩,sen S 6,.func (.func 118) #[] #[xP (w.heap.size+1+1)],.string ⟨#[100,101,102,105,110,105,116,105,111,110,115]⟩,sen S 7,.func (.func 118) #[] #[xP (w.heap.size+1+1+1)],.string ⟨#[99,97,117,115,101,115]⟩,sen S 8,.func (.func 118) #[] #[xP (w.heap.size+1+1+1+1)],.string ⟨#[109,101,109,111,114,121]⟩,sen S 9,.func (.func 71) #[] #[]] 153 (0,0))
 b0:∃t,W.heap[w.heap.size]?=some (.cells #[.func (.func 66) #[] #[]] t (0,0))
 b1:∃t,W.heap[w.heap.size+1]?=some (.cells #[.func (.func 67) #[] #[]] t (0,0))
 b2:∃t,W.heap[w.heap.size+1+1]?=some (.cells #[.func (.func 68) #[] #[]] t (0,0))
 b3:∃t,W.heap[w.heap.size+1+1+1]?=some (.cells #[.func (.func 69) #[] #[]] t (0,0))
 b4:∃t,W.heap[w.heap.size+1+1+1+1]?=some (.cells #[.func (.func 70) #[] #[]] t (0,0))
 bel:xB w W
theorem PrI.keep {S:Nat->Addr}{gb:Nat}{w W W':World}(h:PrI S N ns gb w W)(hN:N<=w.heap.size)(hB:xB W W'):PrI S N ns gb w W' where
 pt:=h.pt.old (zm hB (Nat.le_trans hN h.bel.size))
 row:=(hB.block _ (ze h.row)).trans h.row
 b0:=by obtain⟨t,ht⟩:=h.b0;exact⟨t,(hB.block _ (ze ht)).trans ht⟩
 b1:=by obtain⟨t,ht⟩:=h.b1;exact⟨t,(hB.block _ (ze ht)).trans ht⟩
 b2:=by obtain⟨t,ht⟩:=h.b2;exact⟨t,(hB.block _ (ze ht)).trans ht⟩
 b3:=by obtain⟨t,ht⟩:=h.b3;exact⟨t,(hB.block _ (ze ht)).trans ht⟩
 b4:=by obtain⟨t,ht⟩:=h.b4;exact⟨t,(hB.block _ (ze ht)).trans ht⟩
 bel:=h.bel.trans (hB.mono h.bel.size)
theorem zo9 (w:World)(o1 o2 o3 o4 o5 o6:Obj):xB w ((((((w.alloc o1).alloc o2).alloc o3).alloc o4).alloc o5).alloc o6):=zg2 (zcz _ _ _ _)
theorem al6 (w:World)(o1 o2 o3 o4 o5 o6:Obj) :
 let W:=(((((w.alloc o1).alloc o2).alloc o3).alloc o4).alloc o5).alloc o6
 W.heap[w.heap.size]?=some o1/\W.heap[w.heap.size+1]?=some o2/\W.heap[w.heap.size+1+1]?=some o3/\W.heap[w.heap.size+1+1+1]?=some o4/\W.heap[w.heap.size+1+1+1+1]?=some o5/\W.heap[w.heap.size+1+1+1+1+1]?=some o6:=by
 have h (w:World) (o:Obj) (k:Nat):(w.alloc o).heap[k]?=if k=w.heap.size then some o else w.heap[k]?:=by show (w.heap.push o)[k]?=_;rw[Array.getElem?_push]
 intro W;refine⟨?_,?_,?_,?_,?_,?_⟩;all_goals simp only[W,h,zsb]
 all_goals repeat (first|rw[if_pos trivial]|rw[if_pos rfl]|rw[if_neg (by omega)])
theorem zdS {L:Sc->List Nat}(h:zO ((scs ns).flatMap L)=none):∀c∈scs ns,L c=[]:=by intro c hc;have:=zlT h;rw[List.flatMap_eq_nil_iff] at this;exact this c hc
theorem zjO (S:Nat->Addr)(N:Nat)(ns:List Nod)(hw:∀n∈ns,zeJ n)(Hsz:∀n∈ns,n.terms.length<=1000000)(gb:Nat)(w:World)(hG:Gl S w)(HP:PT w N ns (xP gb))(hN:N<=w.heap.size) :
 xK 38 #[xP gb] w (λe w'=>e=.returned (zq3 S (zbc ns))/\xB w w'):=by
 have h6:ns.length<=6:=by obtain⟨_,_,_,_,_,_,h⟩:=HP;exact h.few
 have Hok:=zrb hw h6;have g0:=hG.name;have g1:=hG.type;have g2:=hG.clock;have g3:=hG.define;have g4:=hG.cause;have g5:=hG.limit;have hgz:=hG.size;clear hG hw h6;have hsf:∀(a:Addr) (m:Mode) (fn:Go.Fn) (first cap:Array Value) (w:World),(store a (.func fn first cap) m).run prog w=stored prog w a (.func fn first cap) m:=λa m _ _ _ w=>run_store prog w a _ m rfl;unfold sen at *;go_enter func38,ntmps38;go_upto_region 1 with fail
 go_region_held3 (λw'=>w'.cell? (xD 1 0)=some (.iface 324 (.pointer (some (S 4))))/\w'.cell? (xD 2 0)=some (.iface 324 (.pointer (some (S 5))))/\w'.cell? (xD 3 0)=some (.iface 324 (.pointer (some (S 6))))/\w'.cell? (xD 4 0)=some (.iface 324 (.pointer (some (S 7))))/\w'.cell? (xD 5 0)=some (.iface 324 (.pointer (some (S 8))))/\w'.cell? (xD 6 0)=some (.iface 324 (.pointer (some (S 9)))))
  (first|(with_reducible (refine⟨?_,?_,?_,?_,?_,?_⟩ <;> repeat (first|assumption|refine zg ?_|refine zj _ ?_|refine zk (by omega) ?_)))|go_keep)
  (first|(go_at_call 65;refine (zjA _ _).mono ?_;rintro e w' ⟨rfl,t,rfl⟩))
 go_upto_region 2 with fail;refine zn (λW=>PrI S N ns gb w W) ⟨HP.old (zm (zo (zo9 w _ _ _ _ _ _)) hN),(al6 w _ _ _ _ _ _).2.2.2.2.2,⟨_,(al6 w _ _ _ _ _ _).1⟩,⟨_,(al6 w _ _ _ _ _ _).2.1⟩,⟨_,(al6 w _ _ _ _ _ _).2.2.1⟩,⟨_,(al6 w _ _ _ _ _ _).2.2.2.1⟩,⟨_,(al6 w _ _ _ _ _ _).2.2.2.2.1⟩,zo (zo9 w _ _ _ _ _ _)⟩ ?_;intro W hW;have HW:=za hW;clear hW g0 g1 g2 g3 g4 g5;go_wp2_with fail;go_loopg [27] 7 (λj i wr=>∃k:Nat,k+j=7/\k<=6/\i=xI k/\Hid (PrI S N ns gb w wr)/\Hid (∀j,j<k->zO (zfq ns j)=none));case atStart=>exact⟨0,by omega,by omega,rfl,HW.o,λj hj=>by omega⟩
 case round =>
  clear HW;obtain⟨k,hkj,hk,rfl,HI,HN⟩:=hrel;have hzr:=HI.o.bel.size;have hk':k=0∨k=1∨k=2∨k=3∨k=4∨k=5∨k=6:=by omega
  rcases hk' with rfl|rfl|rfl|rfl|rfl|rfl|rfl;have c0:wr.cell? (xD (w.heap.size+1+1+1+1+1) 0)=some (.string ⟨#[110,97,109,101,115]⟩):=by simp[World.cell?,HI.o.row,sen]
  have c1:wr.cell? (xD (w.heap.size+1+1+1+1+1) 1)=some (.iface 324 (.pointer (some (S 4)))):=by simp[World.cell?,HI.o.row,sen]
  have c2:wr.cell? (xD (w.heap.size+1+1+1+1+1) 2)=some (.func (.func 118) #[] #[xP w.heap.size]):=by simp[World.cell?,HI.o.row,sen]
  have hI2:=HI.o.keep hN (zq wr (.cells #[.string ⟨#[110,97,109,101,115]⟩,sen S 4,.func (.func 118) #[] #[xP w.heap.size]] 153));obtain⟨tb,htb⟩:=hI2.b0;have HR:=za (zd2 S 4 ⟨#[110,97,109,101,115]⟩ 66 zj2 Sc.namesL ns gb (w.heap.size) tb (wr.alloc (.cells #[.string ⟨#[110,97,109,101,115]⟩,sen S 4,.func (.func 118) #[] #[xP w.heap.size]] 153)) (λc hc lb bb sb nmv askv l1 l2 ev nv st W hR h hN=>ziZ S 4 lb bb sb nmv askv N c (Hok c hc).few (λq hq=>((Hok c hc).nd.eqs q hq).1) ev nv st W hR h hN l1 l2) hI2.pt (Nat.le_trans hN hI2.bel.size) htb);clear htb hI2;have hrz:=ze HI.o.row;obtain⟨pl,hl⟩:∃pl,zO ((scs ns).flatMap Sc.namesL)=pl:=⟨_,rfl⟩;rw[hl] at HR;have HN2:Hid (pl=none->∀j,j<1->zO (zfq ns j)=none):=by
   intro e j hj;by_cases e1:j=0
   . subst e1;exact hl.trans e
   . exact HN.o j (by omega)
  have HE:Hid (∀p,pl=some p->zbc ns=some (4,p)):=by intro p e;rw[e] at hl;unfold zbc;rw[hl]
  clear hl;rotate_left;have n0:zO ((scs ns).flatMap Sc.namesL)=none:=HN.o 0 (by omega);have c0:wr.cell? (xD (w.heap.size+1+1+1+1+1) 3)=some (.string ⟨#[116,121,112,101,115]⟩):=by simp[World.cell?,HI.o.row,sen]
  have c1:wr.cell? (xD (w.heap.size+1+1+1+1+1) 4)=some (.iface 324 (.pointer (some (S 5)))):=by simp[World.cell?,HI.o.row,sen]
  have c2:wr.cell? (xD (w.heap.size+1+1+1+1+1) 5)=some (.func (.func 118) #[] #[xP (w.heap.size+1)]):=by simp[World.cell?,HI.o.row,sen]
  have Hnm:Hid (∀c∈scs ns,zfw c):=λc hc=>zex (Hok c hc) (zdS n0 c hc);have hI2:=HI.o.keep hN (zq wr (.cells #[.string ⟨#[116,121,112,101,115]⟩,sen S 5,.func (.func 118) #[] #[xP (w.heap.size+1)]] 153));obtain⟨tb,htb⟩:=hI2.b1;have HR:=za (zd2 S 5 ⟨#[116,121,112,101,115]⟩ 67 zkf Sc.typesL ns gb (w.heap.size+1) tb (wr.alloc (.cells #[.string ⟨#[116,121,112,101,115]⟩,sen S 5,.func (.func 118) #[] #[xP (w.heap.size+1)]] 153)) (λc hc lb bb sb nmv askv l1 l2 ev nv st W hR h hN=>zjH S 5 lb bb sb nmv askv N c (Hok c hc) (Hnm.o c hc) ev nv st W hR h hN l1 l2) hI2.pt (Nat.le_trans hN hI2.bel.size) htb);clear htb hI2;have hrz:=ze HI.o.row;obtain⟨pl,hl⟩:∃pl,zO ((scs ns).flatMap Sc.typesL)=pl:=⟨_,rfl⟩;rw[hl] at HR;have HN2:Hid (pl=none->∀j,j<2->zO (zfq ns j)=none):=by
   intro e j hj;by_cases e1:j=1
   . subst e1;exact hl.trans e
   . exact HN.o j (by omega)
  have HE:Hid (∀p,pl=some p->zbc ns=some (5,p)):=by intro p e;rw[e] at hl;unfold zbc;rw[n0,hl]
  clear hl n0 Hnm;rotate_left;have n0:zO ((scs ns).flatMap Sc.namesL)=none:=HN.o 0 (by omega);have n1:zO ((scs ns).flatMap Sc.typesL)=none:=HN.o 1 (by omega);have c0:wr.cell? (xD (w.heap.size+1+1+1+1+1) 6)=some (.string ⟨#[99,108,111,99,107,115]⟩):=by simp[World.cell?,HI.o.row,sen]
  have c1:wr.cell? (xD (w.heap.size+1+1+1+1+1) 7)=some (.iface 324 (.pointer (some (S 6)))):=by simp[World.cell?,HI.o.row,sen]
  have c2:wr.cell? (xD (w.heap.size+1+1+1+1+1) 8)=some (.func (.func 118) #[] #[xP (w.heap.size+1+1)]):=by simp[World.cell?,HI.o.row,sen]
  have Hnm:Hid (∀c∈scs ns,zfw c):=λc hc=>zex (Hok c hc) (zdS n0 c hc);have hI2:=HI.o.keep hN (zq wr (.cells #[.string ⟨#[99,108,111,99,107,115]⟩,sen S 6,.func (.func 118) #[] #[xP (w.heap.size+1+1)]] 153));obtain⟨tb,htb⟩:=hI2.b2;have HR:=za (zd2 S 6 ⟨#[99,108,111,99,107,115]⟩ 68 zjo Sc.clocksL ns gb (w.heap.size+1+1) tb (wr.alloc (.cells #[.string ⟨#[99,108,111,99,107,115]⟩,sen S 6,.func (.func 118) #[] #[xP (w.heap.size+1+1)]] 153)) (λc hc lb bb sb nmv askv l1 l2 ev nv st W hR h hN=>ziv S 6 lb bb sb nmv askv N c (Hok c hc) ev nv st W hR h hN l1 l2) hI2.pt (Nat.le_trans hN hI2.bel.size) htb);clear htb hI2;have hrz:=ze HI.o.row;obtain⟨pl,hl⟩:∃pl,zO ((scs ns).flatMap Sc.clocksL)=pl:=⟨_,rfl⟩;rw[hl] at HR;have HN2:Hid (pl=none->∀j,j<3->zO (zfq ns j)=none):=by
   intro e j hj;by_cases e1:j=2
   . subst e1;exact hl.trans e
   . exact HN.o j (by omega)
  have HE:Hid (∀p,pl=some p->zbc ns=some (6,p)):=by intro p e;rw[e] at hl;unfold zbc;rw[n0,n1,hl]
  clear hl n0 n1 Hnm;rotate_left;have n0:zO ((scs ns).flatMap Sc.namesL)=none:=HN.o 0 (by omega);have n1:zO ((scs ns).flatMap Sc.typesL)=none:=HN.o 1 (by omega);have n2:zO ((scs ns).flatMap Sc.clocksL)=none:=HN.o 2 (by omega);have c0:wr.cell? (xD (w.heap.size+1+1+1+1+1) 9)=some (.string ⟨#[100,101,102,105,110,105,116,105,111,110,115]⟩):=by simp[World.cell?,HI.o.row,sen]
  have c1:wr.cell? (xD (w.heap.size+1+1+1+1+1) 10)=some (.iface 324 (.pointer (some (S 7)))):=by simp[World.cell?,HI.o.row,sen]
  have c2:wr.cell? (xD (w.heap.size+1+1+1+1+1) 11)=some (.func (.func 118) #[] #[xP (w.heap.size+1+1+1)]):=by simp[World.cell?,HI.o.row,sen]
  have Hnm:Hid (∀c∈scs ns,zfw c):=λc hc=>zex (Hok c hc) (zdS n0 c hc);have hI2:=HI.o.keep hN (zq wr (.cells #[.string ⟨#[100,101,102,105,110,105,116,105,111,110,115]⟩,sen S 7,.func (.func 118) #[] #[xP (w.heap.size+1+1+1)]] 153));obtain⟨tb,htb⟩:=hI2.b3;have HR:=za (zd2 S 7 ⟨#[100,101,102,105,110,105,116,105,111,110,115]⟩ 69 zgu Sc.definesL ns gb (w.heap.size+1+1+1) tb (wr.alloc (.cells #[.string ⟨#[100,101,102,105,110,105,116,105,111,110,115]⟩,sen S 7,.func (.func 118) #[] #[xP (w.heap.size+1+1+1)]] 153)) (λc hc lb bb sb nmv askv l1 l2 ev nv st W hR h hN=>zgb S 7 lb bb sb nmv askv N c (Hok c hc) (Hnm.o c hc) ev nv st W hR h hN l1 l2) hI2.pt (Nat.le_trans hN hI2.bel.size) htb);clear htb hI2;have hrz:=ze HI.o.row;obtain⟨pl,hl⟩:∃pl,zO ((scs ns).flatMap Sc.definesL)=pl:=⟨_,rfl⟩;rw[hl] at HR;have HN2:Hid (pl=none->∀j,j<4->zO (zfq ns j)=none):=by
   intro e j hj;by_cases e1:j=3
   . subst e1;exact hl.trans e
   . exact HN.o j (by omega)
  have HE:Hid (∀p,pl=some p->zbc ns=some (7,p)):=by intro p e;rw[e] at hl;unfold zbc;rw[n0,n1,n2,hl]
  clear hl n0 n1 n2 Hnm;rotate_left;have n0:zO ((scs ns).flatMap Sc.namesL)=none:=HN.o 0 (by omega);have n1:zO ((scs ns).flatMap Sc.typesL)=none:=HN.o 1 (by omega);have n2:zO ((scs ns).flatMap Sc.clocksL)=none:=HN.o 2 (by omega);have n3:zO ((scs ns).flatMap Sc.definesL)=none:=HN.o 3 (by omega);have c0:wr.cell? (xD (w.heap.size+1+1+1+1+1) 12)=some (.string ⟨#[99,97,117,115,101,115]⟩):=by simp[World.cell?,HI.o.row,sen]
  have c1:wr.cell? (xD (w.heap.size+1+1+1+1+1) 13)=some (.iface 324 (.pointer (some (S 8)))):=by simp[World.cell?,HI.o.row,sen]
  have c2:wr.cell? (xD (w.heap.size+1+1+1+1+1) 14)=some (.func (.func 118) #[] #[xP (w.heap.size+1+1+1+1)]):=by simp[World.cell?,HI.o.row,sen]
  have Hnm:Hid (∀c∈scs ns,zfw c):=λc hc=>zex (Hok c hc) (zdS n0 c hc);have hI2:=HI.o.keep hN (zq wr (.cells #[.string ⟨#[99,97,117,115,101,115]⟩,sen S 8,.func (.func 118) #[] #[xP (w.heap.size+1+1+1+1)]] 153));obtain⟨tb,htb⟩:=hI2.b4;have HR:=za (zd2 S 8 ⟨#[99,97,117,115,101,115]⟩ 70 ziX Sc.causesL ns gb (w.heap.size+1+1+1+1) tb (wr.alloc (.cells #[.string ⟨#[99,97,117,115,101,115]⟩,sen S 8,.func (.func 118) #[] #[xP (w.heap.size+1+1+1+1)]] 153)) (λc hc lb bb sb nmv askv l1 l2 ev nv st W hR h hN=>ziB S 8 lb bb sb nmv askv N c (Hok c hc) ev nv st W hR h hN l1 l2) hI2.pt (Nat.le_trans hN hI2.bel.size) htb);clear htb hI2;have hrz:=ze HI.o.row;obtain⟨pl,hl⟩:∃pl,zO ((scs ns).flatMap Sc.causesL)=pl:=⟨_,rfl⟩;rw[hl] at HR;have HN2:Hid (pl=none->∀j,j<5->zO (zfq ns j)=none):=by
   intro e j hj;by_cases e1:j=4
   . subst e1;exact hl.trans e
   . exact HN.o j (by omega)
  have HE:Hid (∀p,pl=some p->zbc ns=some (8,p)):=by intro p e;rw[e] at hl;unfold zbc;rw[n0,n1,n2,n3,hl]
  clear hl n0 n1 n2 n3 Hnm;rotate_left;have n0:zO ((scs ns).flatMap Sc.namesL)=none:=HN.o 0 (by omega);have n1:zO ((scs ns).flatMap Sc.typesL)=none:=HN.o 1 (by omega);have n2:zO ((scs ns).flatMap Sc.clocksL)=none:=HN.o 2 (by omega);have n3:zO ((scs ns).flatMap Sc.definesL)=none:=HN.o 3 (by omega);have n4:zO ((scs ns).flatMap Sc.causesL)=none:=HN.o 4 (by omega);have c0:wr.cell? (xD (w.heap.size+1+1+1+1+1) 15)=some (.string ⟨#[109,101,109,111,114,121]⟩):=by simp[World.cell?,HI.o.row,sen]
  have c1:wr.cell? (xD (w.heap.size+1+1+1+1+1) 16)=some (.iface 324 (.pointer (some (S 9)))):=by simp[World.cell?,HI.o.row,sen]
  have c2:wr.cell? (xD (w.heap.size+1+1+1+1+1) 17)=some (.func (.func 71) #[] #[]):=by simp[World.cell?,HI.o.row,sen]
  have Hnm:Hid (∀c∈scs ns,zfw c):=λc hc=>zex (Hok c hc) (zdS n0 c hc);have hI2:=HI.o.keep hN (zq wr (.cells #[.string ⟨#[109,101,109,111,114,121]⟩,sen S 9,.func (.func 71) #[] #[]] 153));have HR:=za (zoN S 9 ⟨#[109,101,109,111,114,121]⟩ ns gb (wr.alloc (.cells #[.string ⟨#[109,101,109,111,114,121]⟩,sen S 9,.func (.func 71) #[] #[]] 153)) Hsz hI2.pt (Nat.le_trans hN hI2.bel.size));clear hI2;have hrz:=ze HI.o.row;obtain⟨pl,hl⟩:∃pl,zO (zeZ ns)=pl:=⟨_,rfl⟩;rw[hl] at HR;have HN2:Hid (pl=none->∀j,j<6->zO (zfq ns j)=none):=by
   intro e j hj;by_cases e1:j=5
   . subst e1;exact hl.trans e
   . exact HN.o j (by omega)
  have HE:Hid (∀p,pl=some p->zbc ns=some (9,p)):=by intro p e;rw[e] at hl;unfold zbc;rw[n0,n1,n2,n3,n4,hl]
  clear hl n0 n1 n2 n3 n4 Hnm;rotate_left
  . have n0:zO ((scs ns).flatMap Sc.namesL)=none:=HN.o 0 (by omega);have n1:zO ((scs ns).flatMap Sc.typesL)=none:=HN.o 1 (by omega);have n2:zO ((scs ns).flatMap Sc.clocksL)=none:=HN.o 2 (by omega);have n3:zO ((scs ns).flatMap Sc.definesL)=none:=HN.o 3 (by omega);have n4:zO ((scs ns).flatMap Sc.causesL)=none:=HN.o 4 (by omega);have n5:zO (zeZ ns)=none:=HN.o 5 (by omega);have HE:Hid (zbc ns=none):=by unfold Hid zbc;rw[n0,n1,n2,n3,n4,n5]
    clear n0 n1 n2 n3 n4 n5;go_wp2_with fail;go_ret;rw[HE.o];exact⟨rfl,HI.o.bel⟩
  all_goals
   cases pl with
   | none =>
     have HN3:=za (HN2.o rfl);clear HN2 HE;unfold zbp sen at HR;go_wp2_with (go_at_call 72;refine HR.o.mono ?_;rintro e w2 ⟨rfl,hB2⟩;have HB2:=za (zE hB2);clear hB2);go_roundg (gk-1);case measure=>omega
     refine⟨_,?_,?_,?_,HI.o.keep hN HB2.o,HN3.o⟩
     . omega
     . omega
     . go_num
   | some p =>
     have HE2:=za (HE.o p rfl);clear HN2 HE;unfold zbp sen at HR
     go_wp2_with (first
      | (go_at_call 41;refine (zdo _ _ _ _).mono ?_;rintro e w3 ⟨rfl,rfl⟩)
      | (go_at_call 72;refine HR.o.mono ?_;rintro e w2 ⟨rfl,hB2⟩;have x0:=zd hB2 (zL (zc wr _)).1 (by simp);have HB2:=za (zE hB2);clear hB2))
     go_ret;rw[HE2.o];exact⟨rfl,HI.o.bel.trans (HB2.o.mono hzr)⟩
end
end Go.Proofs.YtbicmofihhjgbaaGreatDoor
