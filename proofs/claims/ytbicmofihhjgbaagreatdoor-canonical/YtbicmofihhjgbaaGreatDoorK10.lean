/- Part 11 of the proof. -/
import Derived.Test.YtbicmofihhjgbaaGreatDoorK09
set_option maxRecDepth 100000
set_option maxHeartbeats 8000000
namespace Go.Proofs.YtbicmofihhjgbaaGreatDoor
open Go.Proofs.Tryz
section
variable {e:Ex} {atm part rx:Fn} {lv n:Nat} {st:St} {t:Tk}
def arE (e:Ex):Bool:=arB (zag e.op.toList e.n) e.ins.length
def ArL (L:List Ex):Prop:=∀e∈L,arE e=true
def ArK (M:Fn):Prop:=∀st,ArL st.L->ArL (M st).1.L
theorem ArL.add {L:List Ex}(h:ArL L)(he:arE e=true):ArL (L++[e]):=by
 intro x hx;rcases zMY.1 hx with hx|hx
 . exact h x hx
 rw[zMZ.1 hx];exact he
theorem St.add_L (st:St)(e:Ex):(st.add e).L=st.L++[e]∨(st.add e).L=st.L:=by unfold St.add;first|exact zM3 rfl|(split <;> first|exact zM3 rfl|exact zM4 rfl)
theorem St.leave_L (st:St):st.leave.L=st.L:=by unfold St.leave;first|rfl|(split <;> rfl)
theorem ArL.put (h:ArL st.L)(he:arE e=true):ArL (st.put e).1.L:=by
 show ArL (st.add e).L;rcases st.add_L e with h1|h1
 . rw[h1];exact h.add he
 rw[h1];exact h
theorem zGU:zag zlo.toList 0=10:=by decide +kernel
theorem zGM:zag zk5.toList 0=11:=by decide +kernel
theorem zEI:zag zef.toList 0=4:=by decide +kernel
theorem zGZ:zag sIf.toList 0=5:=by decide +kernel
theorem zF6:zag zep.toList 0=6:=by decide +kernel
theorem zGS:zag zgW.toList 0=9:=by decide +kernel
theorem zGT:zag zfR.toList 0=3:=by decide +kernel
theorem zGe:zag zcb.toList 1=1:=by decide +kernel
theorem zGf:zag zcb.toList 0=2:=by decide +kernel
theorem zGL (n:Nat):zag zcq.toList n=0:=by unfold zag;rw[zM2 (by decide +kernel)]
theorem zyF {k:Nat}{op:Xb}{l:Nat}(hk:zag op.toList n=k)(h:arB k l=true){a b:Nat}{ins:Xn}{s:Xb}(hl:ins.length=l):arE ⟨op,a,b,ins,s,n⟩=true:=by unfold arE;simp only[hk,hl];exact h
theorem zER (h:zco t n=true)(a b:Nat):arE ⟨t.s,t.a,0,[a,b],sE,0⟩=true:=by
 unfold zco at h;split at h
 . cases h
 split at h
 . rename_i h1;unfold arE;rcases h1 with h1|h1 <;> (simp only[h1];rfl)
 split at h
 . rename_i h1;unfold arE;simp only[h1];rfl
 split at h
 . rename_i h1;unfold arE;rcases h1 with h1|h1 <;> (simp only[h1];rfl)
 split at h
 . rename_i h1;unfold arE;rcases h1 with h1|h1|h1 <;> (simp only[h1];rfl)
 cases h
theorem zCt (hp:ArK part):∀(f:Nat) (x:St×Nat),ArL x.1.L->ArL (zdq lv part f x).1.L
 | 0,_,h=>h
 | f+1,x,h=>by
   unfold zdq;split
   . rename_i hc
     refine zCt hp f _ (ArL.put (hp _ (by rw[St.step_L];exact h)) (zER hc.2 _ _))
   exact h
theorem zAJ (hp:ArK part):ArK (zcT lv part):=λst h=>zCt hp 1300 _ (hp st h)
theorem zGb (h:zcn t=true)(a b:Nat):arE ⟨t.s,t.a,0,[a,b],sE,0⟩=true:=by unfold zcn at h;simp only[Bool.and_eq_true,Bool.or_eq_true,beq_iff_eq] at h;unfold arE;rcases h.2 with ((h1|h1)|h1)|h1 <;> (simp only[h1];rfl)
theorem zEO {sum:Fn}(hs:ArK sum):ArK (zdJ sum):=by
 intro st h;unfold zdJ;simp only;split
 . rename_i hc
   exact ArL.put (hs _ (by rw[St.step_L];exact hs st h)) (zGb hc.2 _ _)
 exact hs st h
theorem zEg {ru smp:Fn}(hr:ArK ru)(hs:ArK smp):ArK (zdn ru smp):=by
 intro st h;unfold zdn;split
 . refine ArL.put (by rw[St.leave_L];exact hr _ (by rw[St.enter_L];exact h)) ?_;split
   . exact zyF zGU (l:=1) rfl rfl
   exact zyF zGM (l:=1) rfl rfl
 exact hs st h
theorem zGk (h:zdi st=true)(a b x:Nat)(s:Xb):arE ⟨st.t.s,a,b,[x],s,0⟩=true:=by unfold zdi St.is at h;simp only[Bool.or_eq_true,Bool.and_eq_true,beq_iff_eq] at h;unfold arE;rcases h with h1|h1 <;> (simp only[h1.2];rfl)
theorem zAp:∀(f:Nat) (x:St×Nat),ArL x.1.L->ArL (zaY f x).1.L
 | 0,_,h=>h
 | f+1,x,h=>by
   unfold zaY;split
   . rename_i hc
     refine zAp f _ (ArL.put (by rw[St.name_L,St.step_L];exact h) (zGk hc.2 _ _ _ _))
   exact h
theorem zCY (ha:ArK atm):ArK (zfu atm):=λst h=>zAp 1300 _ (ha st h)
theorem zBV (hr:ArK rx):∀(f:Nat) (x:St×List Nat),ArL x.1.L->1<=x.2.length->ArL (zc1 rx f x).1.L/\1<=(zc1 rx f x).2.length
 | 0,_,h,h1=>⟨h,h1⟩
 | f+1,x,h,h1=>by
   unfold zc1;split
   . exact zBV hr f _ (hr _ (by rw[St.step_L];exact h)) (by simp)
   exact⟨h,h1⟩
theorem zCB (hr:ArK rx)(t:Tk):ArK (zao rx t):=by
 intro st h;unfold zao;split
 . simp only;have:=zBV hr 1300 ((rx st.enter).1,[(rx st.enter).2]) (hr _ (by rw[St.enter_L];exact h)) (by simp);refine ArL.put (by rw[St.leave_L,St.must_L];exact this.1) ?_;exact zyF zEI (by show decide (1<=_)=true;exact decide_eq_true this.2) rfl
 show ArL (st.fail 2 st.t.a).L;rw[St.fail_L];exact h
theorem zDL (hr:ArK rx):ArK (zdx rx):=by intro st h;unfold zdx;simp only;refine ArL.put ?_ (zyF zGZ (l:=3) rfl rfl);rw[St.leave_L];exact hr _ (by rw[St.must_L];exact hr _ (by rw[St.must_L];exact hr _ (by rw[St.enter_L];exact h)))
theorem zDk:ArK zjx:=λst h=>ArL.put (by rw[St.step_L];exact h) (zyF zGT (l:=0) rfl rfl)
theorem zCw (ha:ArK atm):ArK (zch atm):=by
 intro st h;unfold zch;split
 . exact ha st h
 exact zDk st h
theorem zEE (ha:ArK atm):ArK (zeE atm):=by intro st h;unfold zeE;simp only;refine ArL.put ?_ (zyF zF6 (l:=2) rfl rfl);rw[St.leave_L];exact zCw ha _ (zCw ha _ (by rw[St.name_L,St.enter_L];exact h))
theorem zD7 (hr:ArK rx):ArK (zfQ rx):=by
 intro st h
 show ArL (((rx st.enter).1.must 4 [41]).leave).L;rw[St.leave_L,St.must_L];exact hr _ (by rw[St.enter_L];exact h)
theorem zAx (op:Xb)(n:Nat)(h0:∀a:Nat,arE ⟨op,a,0,[],sE,n⟩=true):ArK (zdP op n):=λst h=>ArL.put (by rw[St.step_L];exact h) (h0 _)
theorem zES {ra:Fn}(hr:ArK rx)(ha:ArK ra):ArK (zap rx ra):=by
 intro st h;unfold zap;split
 . exact h
 split
 . exact zAx zcq _ (λ_=>zyF (zGL _) (l:=0) rfl rfl) st h
 split
 . split
   . exact zCB hr _ _ (by rw[St.step_L];exact h)
   exact zDk st h
 split
 . exact zD7 hr st h
 split
 . exact zAx zcb 1 (λ_=>zyF zGe (l:=0) rfl rfl) st h
 split
 . exact zAx zcb 0 (λ_=>zyF zGf (l:=0) rfl rfl) st h
 split
 . exact zDL hr st h
 split
 . exact zEE ha st h
 show ArL (st.fail 2 st.t.a).L;rw[St.fail_L];exact h
theorem zFk {eith:Fn}(hr:ArK rx)(he:ArK eith):ArK (zgk rx eith):=by
 intro st h;unfold zgk;simp only;split
 . refine ArL.put ?_ (zyF zGS (l:=2) rfl rfl);rw[St.leave_L];exact hr _ (by rw[St.enter_L];exact he st h)
 exact he st h
theorem zDb:∀d:Nat,ArK (lev d).ex/\ArK (lev d).un/\ArK (lev d).at'
 | 0=>⟨λ_ h=>h,λ_ h=>h,λ_ h=>h⟩
 | d+1=>by obtain⟨h1,h2,h3⟩:=zDb d;have ha:ArK (zap (lev d).ex (lev d).at'):=zES h1 h3;have hu:ArK (zdn (lev d).un (zfu (zap (lev d).ex (lev d).at'))):=zEg h2 (zCY ha);exact⟨zFk h1 (zAJ (zAJ (zEO (zAJ (zAJ hu))))),hu,ha⟩
end
section
variable {i o:Bool} {v0 vars:List Vr} {f:Nat} {st:St}
theorem zbu.back {a b:St}(h:zbu a b)(hb:b.er=0):a.er=0:=by
 by_cases ha:a.er=0
 . exact ha
 have:=(h ha).1;omega
theorem zzP (st:St)(a:Nat):(st.fail 2 a).er≠0:=by
 unfold St.fail;split
 . show (2:Nat)≠0;omega
 rename_i h;exact h
theorem zAI (h:(zx i o st vars).1.er=0):vars.length<16/\∃v:Vr,(zx i o st vars).2=vars++[v]/\v.inn=i/\v.out=o/\((i||o)=true->v.tm=false):=by
 unfold zx at h ⊢;by_cases hl:16<=vars.length
 . rw[zM2 hl] at h;exact absurd h (zzP st _)
 rw[zM1 hl] at h ⊢;refine⟨by omega,?_⟩;simp only;split
 . rename_i hc
   simp only[Bool.and_eq_true,Bool.not_eq_true'] at hc;exact⟨_,rfl,rfl,rfl,λh=>by rw[hc.1.2,hc.2] at h;cases h⟩
 exact⟨_,rfl,rfl,rfl,λ_=>rfl⟩
def zzt (i o:Bool)(vars vars':List Vr):Prop:=∃E:List Vr,vars'=vars++E/\(∀v∈E,v.inn=i/\v.out=o/\((i||o)=true->v.tm=false))/\vars'.length<=16
theorem zzt.one {v:Vr}(h:zzt i o v0 vars)(hi:v.inn=i)(ho:v.out=o/\((i||o)=true->v.tm=false))(hl:vars.length<16):zzt i o v0 (vars++[v]):=by
 obtain⟨E,rfl,hE,_⟩:=h;refine⟨E++[v],by rw[zMQ],λx hx=>?_,by rw[zMM,List.length_singleton];omega⟩;rcases zMY.1 hx with hx|hx
 . exact hE x hx
 rw[zMZ.1 hx];exact⟨hi,ho⟩
theorem zAk:∀(f:Nat) (x:St×List Vr),(zaG i f x).1.er=0->zzt i (!i) v0 x.2->v0.length<x.2.length->zzt i (!i) v0 (zaG i f x).2/\v0.length<(zaG i f x).2.length
 | 0,_,_,h,h1=>⟨h,h1⟩
 | f+1,x,he,h,h1=>by
   unfold zaG at he ⊢;split
   . rename_i hc
     rw[zM2 hc] at he;have h2:=(zzJ i f _).back he;obtain⟨hl,v,e,hi,ho⟩:=zAI h2;refine zAk f _ he ?_ ?_
     . rw[e];exact h.one hi ho hl
     rw[e,zMM,List.length_singleton];omega
   exact⟨h,h1⟩
theorem zA2 (h:(zab i st vars).1.er=0):zzt i (!i) vars (zab i st vars).2/\vars.length<(zab i st vars).2.length:=by
 unfold zab at h ⊢;simp only at h ⊢;have h1:=(zbu.must _ 4 [41]).back h;have h2:=(zzJ i 1300 _).back h1;obtain⟨hl,v,e,hi,ho⟩:=zAI h2;refine zAk 1300 _ h1 ?_ ?_
 . rw[e];exact zzt.one ⟨[],by simp,by simp,by omega⟩ hi ho hl
 rw[e,zMM,List.length_singleton];omega
theorem zAB:∀(f:Nat) (x:St×List Vr),(zbA f x).1.er=0->zzt false false v0 x.2->zzt false false v0 (zbA f x).2
 | 0,_,_,h=>h
 | f+1,x,he,h=>by
   unfold zbA at he ⊢;split
   . rename_i hc
     rw[zM2 hc] at he;have h2:(zaR x.1 x.2).1.er=0:=by
      by_cases h3:(zaR x.1 x.2).1.er=0
      . exact h3
      rw[zzY h3] at he;exact absurd he h3
     have h4:=(zbu.must _ 4 [59]).back h2;obtain⟨hl,v,e,hi,ho⟩:=zAI h4;refine zAB f _ he ?_
     show zzt false false v0 (zx false false x.1 x.2).2;rw[e];exact h.one hi ho hl
   exact h
theorem zDQ (hl:vars.length<=16)(h:(zaS f st vars).1.er=0):zzt false false vars (zaS f st vars).2:=by
 unfold zaS at h ⊢;have h0:zzt false false vars vars:=⟨[],by simp,by simp,hl⟩;split
 . rename_i hc
   rw[zM2 hc] at h;have h2:(zaR st.step vars).1.er=0:=by
    by_cases h3:(zaR st.step vars).1.er=0
    . exact h3
    rw[zzY h3] at h;exact absurd h h3
   have h4:=(zbu.must _ 4 [59]).back h2;obtain⟨hl',v,e,hi,ho⟩:=zAI h4;refine zAB f _ h ?_
   show zzt false false vars (zx false false st.step vars).2;rw[e];exact h0.one hi ho hl'
 exact h0
structure zDN (vars:List Vr):Prop where
 ins:1<=(vars.filter (·.inn)).length
 outs:1<=(vars.filter (·.out)).length
 io:(vars.filter (·.inn)).length+(vars.filter (·.out)).length<=vars.length
 few:vars.length<=16
 arr:∃A B C:List Vr,vars=A++B++C/\(∀v∈A,v.inn=true/\v.out=false/\v.tm=false)/\(∀v∈B,v.inn=false/\v.out=true/\v.tm=false)/\∀v∈C,v.inn=false/\v.out=false
theorem zzq {α:Type}{p:α->Bool}{E:List α}(h:∀v∈E,p v=true):E.filter p=E:=List.filter_eq_self.2 h
theorem zyD {α:Type}{p:α->Bool}{E:List α}(h:∀v∈E,p v=false):E.filter p=[]:=List.filter_eq_nil_iff.2 (λv hv=>by rw[h v hv];simp)
theorem zFZ (h:(zaS f (zaI st).1 (zaI st).2).1.er=0):zDN (zaS f (zaI st).1 (zaI st).2).2:=by
 have h1:=(zBR f (zaI st).1 (zaI st).2).back h;have h1':(zab false ((zab true (st.must 5 zW).name []).1.must 4 [45,62]) (zab true (st.must 5 zW).name []).2).1.er=0:=h1;obtain⟨⟨E2,e2,k2,l2⟩,n2⟩:=zA2 h1';have h3:=(zbu.must _ 4 [45,62]).back ((zzV false _ _).back h1');obtain⟨⟨E1,e1,k1,l1⟩,n1⟩:=zA2 h3;have eh:(zaI st).2=(zab false ((zab true (st.must 5 zW).name []).1.must 4 [45,62]) (zab true (st.must 5 zW).name []).2).2:=rfl;have lh:(zaI st).2.length<=16:=by rw[eh];exact l2
 obtain⟨E3,e3,k3,l3⟩:=zDQ lh h;rw[List.nil_append] at e1;have e2':(zaI st).2=E1++E2:=by rw[eh,e2,e1]
 have n2':E1.length<(zaI st).2.length:=by rw[eh];rw[e1] at n2;rw[e1];exact n2
 rw[e1] at n1;have e4:(zaS f (zaI st).1 (zaI st).2).2=E1++E2++E3:=e3.trans (congrArg (·++E3) e2');rw[e2',zMM] at n2';clear e3 e2 n2;have e3:=e4;have n2:=n2';have f1:∀E:List Vr,E=E1->E.filter (·.inn)=E1/\E.filter (·.out)=[]:=λE e=>by subst e;exact⟨zzq (λv hv=>(k1 v hv).1),zyD (λv hv=>(k1 v hv).2.1)⟩
 obtain⟨a1,b1⟩:=f1 E1 rfl;have a2:E2.filter (·.inn)=[]:=zyD (λv hv=>(k2 v hv).1);have b2:E2.filter (·.out)=E2:=zzq (λv hv=>(k2 v hv).2.1);have a3:E3.filter (·.inn)=[]:=zyD (λv hv=>(k3 v hv).1);have b3:E3.filter (·.out)=[]:=zyD (λv hv=>(k3 v hv).2.1);refine⟨?_,?_,?_,l3,E1,E2,E3,e3,λv hv=>⟨(k1 v hv).1,(k1 v hv).2.1,(k1 v hv).2.2 rfl⟩,λv hv=>⟨(k2 v hv).1,(k2 v hv).2.1,(k2 v hv).2.2 rfl⟩,λv hv=>⟨(k3 v hv).1,(k3 v hv).2.1⟩⟩
 . rw[e3,List.filter_append,List.filter_append,a1,a2,a3];simp only[List.append_nil];simp at n1;omega
 . rw[e3,List.filter_append,List.filter_append,b1,b2,b3];simp only[List.append_nil,List.nil_append];omega
 rw[e3,List.filter_append,List.filter_append,List.filter_append,List.filter_append,a1,a2,a3,b1,b2,b3];simp only[List.append_nil,List.nil_append,zMM];omega
def zzX (L:List Ex)(q:Eqn):Prop:=q.ns.length=q.ps.length/\1<=q.ns.length/\(2<=q.ns.length->∃ex:Ex,L[q.ex]?=some ex/\zag ex.op.toList ex.n=4)
theorem zzX.more {L:List Ex}{q:Eqn}(h:zzX L q)(E:List Ex):zzX (L++E) q:=by refine⟨h.1,h.2.1,λh2=>?_⟩;obtain⟨ex,e1,e2⟩:=h.2.2 h2;exact⟨ex,by rw[zM6 (zMJ.1 e1).1];exact e1,e2⟩
theorem zBe:∀(f:Nat) (x:Nms),x.ns.length=x.ps.length->2<=x.ns.length->(zbO f x).ns.length=(zbO f x).ps.length/\2<=(zbO f x).ns.length
 | 0,_,h,h1=>⟨h,h1⟩
 | f+1,x,h,h1=>by
   unfold zbO;split
   . exact zBe f x.more (by simp[Nms.more,h]) (by simp[Nms.more];omega)
   exact⟨h,h1⟩
theorem zE6 (st:St):(zaH st).ns.length=(zaH st).ps.length/\1<=(zaH st).ns.length/\(2<=(zaH st).ns.length->st.is 4 [40]=true):=by
 unfold zaH;split
 . rename_i h
   have:=zBe 1300 ⟨(st.step.name.must 4 [44]).name,[st.step.t.s,(st.step.name.must 4 [44]).t.s],[st.step.t.a,(st.step.name.must 4 [44]).t.a]⟩ rfl (by simp);exact⟨this.1,by have:=this.2;show 1<=(zbO 1300 _).ns.length;omega,λ_=>h⟩
 exact⟨rfl,by simp,λh=>by simp at h⟩
theorem zGu (st:St):(zaH st).st.L=st.L:=by
 have hn:∀(f:Nat) (x:Nms),(zbO f x).st.L=x.st.L:=by
  intro f;induction f with
  | zero=>intro x;rfl
  | succ f ih =>
    intro x;unfold zbO;split
    . rw[ih];show (x.st.step.name).L=_;rw[St.name_L,St.step_L]
    rfl
 unfold zaH;split
 . unfold zdH;simp only;rw[St.must_L,hn]
   show ((st.step.name.must 4 [44]).name).L=_;rw[St.name_L,St.must_L,St.name_L,St.step_L]
 show st.name.L=_;rw[St.name_L]
def Ext (M:Fn):Prop:=∀st,∃E,(M st).1.L=st.L++E
theorem zAZ {r17 r18:Fn}(a17:ArK r17)(a18:ArK r18)(x17:Ext r17)(x18:Ext r18){eqs:List Eqn}(h:ArL st.L)(he:∀q∈eqs,zzX st.L q)(hn:(zF r17 r18 st eqs).1.er=0) :
 ArL (zF r17 r18 st eqs).1.L/\(∀q∈(zF r17 r18 st eqs).2,zzX (zF r17 r18 st eqs).1.L q):=by
 have hL:(zF r17 r18 st eqs).1.L=(zck r17 r18 (st.is 4 [40]) ((zaH st).st.must 4 [61])).1.L:=St.must_L _ _ _;have hr:(zck r17 r18 (st.is 4 [40]) ((zaH st).st.must 4 [61])).1.er=0:=(zbu.must _ 4 [59]).back hn;have h0:((zaH st).st.must 4 [61]).L=st.L:=by rw[St.must_L,zGu]
 rw[hL];obtain⟨l1,l2,l3⟩:=zE6 st;cases hm:st.is 4 [40] with
 | false =>
   have e1:zck r17 r18 false ((zaH st).st.must 4 [61])=r18 ((zaH st).st.must 4 [61]):=rfl;rw[e1];refine⟨a18 _ (by rw[h0];exact h),λq hq=>?_⟩;obtain⟨E,hE⟩:=x18 ((zaH st).st.must 4 [61]);rw[hE,h0];rcases zMY.1 hq with hq|hq
   . exact (he q hq).more E
   rw[zMZ.1 hq];exact⟨l1,l2,λh2=>by have:=l3 h2;rw[hm] at this;cases this⟩
 | true =>
   rw[hm] at hr;have e1:∀s:St,zck r17 r18 true s=zao r17 s.t s.name:=λ_=>rfl;rw[e1] at hr ⊢;obtain⟨s,hs⟩:∃s,(zaH st).st.must 4 [61]=s:=⟨_,rfl⟩;have hq2:(zF r17 r18 st eqs).2=eqs++[⟨(zaH st).ns,(zaH st).ps,(zaH st).st.t.a,(zao r17 s.t s.name).2⟩]:=(by show eqs++[⟨_,_,_,(zck r17 r18 (st.is 4 [40]) ((zaH st).st.must 4 [61])).2⟩]=_;rw[hm,e1,hs]);rw[hs] at hr h0 ⊢;refine⟨zCB a17 s.t s.name (by rw[St.name_L,h0];exact h),?_⟩;rw[hq2];have hc:∃E ex,(zao r17 s.t s.name).1.L=st.L++E/\(zao r17 s.t s.name).1.L[(zao r17 s.t s.name).2]?=some ex/\zag ex.op.toList ex.n=4:=by
    by_cases hp:s.name.is 4 [40]=true
    . have e2:zao r17 s.t s.name=(((zbG r17 s.name.enter).1.must 4 [41]).leave).put ⟨zef,s.t.a,s.t.a,(zbG r17 s.name.enter).2,s.t.s,0⟩:=(by unfold zao;rw[zM2 hp]);have ea:∃E,(zbG r17 s.name.enter).1.L=st.L++E:=by
       have key:∀(f:Nat) (x:St×List Nat),(∃E,x.1.L=st.L++E)->∃E,(zc1 r17 f x).1.L=st.L++E:=by
        intro f;induction f with
        | zero=>intro x h;exact h
        | succ f ih =>
          intro x hx;unfold zc1;split
          . refine ih _ ?_;obtain⟨E,hE⟩:=hx;obtain⟨E',hE'⟩:=x17 x.1.step;exact⟨E++E',by show (r17 x.1.step).1.L=_;rw[hE',St.step_L,hE,zMQ]⟩
          exact hx
       refine key 1300 _ ?_;obtain⟨E,hE⟩:=x17 s.name.enter;exact⟨E,by show (r17 s.name.enter).1.L=_;rw[hE,St.enter_L,St.name_L,h0]⟩
      obtain⟨E,hE⟩:=ea;have eL:(((zbG r17 s.name.enter).1.must 4 [41]).leave).L=st.L++E:=(by rw[St.leave_L,St.must_L,hE]);rw[e2];refine⟨E++[⟨zef,s.t.a,s.t.a,(zbG r17 s.name.enter).2,s.t.s,0⟩],⟨zef,s.t.a,s.t.a,(zbG r17 s.name.enter).2,s.t.s,0⟩,?_,?_,zEI⟩
      . show (((zbG r17 s.name.enter).1.must 4 [41]).leave).L++[_]=_;rw[eL,zMQ]
      show ((((zbG r17 s.name.enter).1.must 4 [41]).leave).L++[_])[(((zbG r17 s.name.enter).1.must 4 [41]).leave).L.length]?=_;rw[zM5 (zMK _),Nat.sub_self];rfl
    exfalso;have e2:zao r17 s.t s.name=(s.name.fail 2 s.name.t.a,0):=(by unfold zao;rw[zM1 hp]);rw[e2] at hr;exact zzP _ _ hr
   obtain⟨E,ex,c1,c2,c3⟩:=hc;intro q hq;rcases zMY.1 hq with hq|hq
   . rw[c1];exact (he q hq).more E
   rw[zMZ.1 hq];exact⟨l1,l2,λ_=>⟨ex,c2,c3⟩⟩
end
section
variable {atm part r17 r18 rx:Fn} {lv:Nat}
def PrK (M:Fn):Prop:=∀(L0:List Ex) (st:St),L0 <+: st.L->L0 <+: (M st).1.L
theorem zy7 {L0:List Ex}{st:St}{e:Ex}(h:L0 <+: st.L):L0 <+: (st.put e).1.L:=h.trans (List.prefix_append st.L [e])
theorem zCp (hp:PrK part)(L0:List Ex):∀(f:Nat) (x:St×Nat),L0 <+: x.1.L->L0 <+: (zdq lv part f x).1.L
 | 0,_,h=>h
 | f+1,x,h=>by
   unfold zdq;split
   . exact zCp hp L0 f _ (zy7 (hp _ _ (by rw[St.step_L];exact h)))
   exact h
theorem zAQ (hp:PrK part):PrK (zcT lv part):=λL0 st h=>zCp hp L0 1300 _ (hp L0 st h)
theorem zFn {sum:Fn}(hs:PrK sum):PrK (zdJ sum):=by
 intro L0 st h;unfold zdJ;simp only;split
 . exact zy7 (hs _ _ (by rw[St.step_L];exact hs _ st h))
 exact hs _ st h
theorem zEr {ru smp:Fn}(hr:PrK ru)(hs:PrK smp):PrK (zdn ru smp):=by
 intro L0 st h;unfold zdn;split
 . exact zy7 (by rw[St.leave_L];exact hr _ _ (by rw[St.enter_L];exact h))
 exact hs _ st h
theorem zAu (L0:List Ex):∀(f:Nat) (x:St×Nat),L0 <+: x.1.L->L0 <+: (zaY f x).1.L
 | 0,_,h=>h
 | f+1,x,h=>by
   unfold zaY;split
   . exact zAu L0 f _ (zy7 (by rw[St.name_L,St.step_L];exact h))
   exact h
theorem zCR (ha:PrK atm):PrK (zfu atm):=λL0 st h=>zAu L0 1300 _ (ha L0 st h)
theorem zBL (hr:PrK rx)(L0:List Ex):∀(f:Nat) (x:St×List Nat),L0 <+: x.1.L->L0 <+: (zc1 rx f x).1.L
 | 0,_,h=>h
 | f+1,x,h=>by
   unfold zc1;split
   . exact zBL hr L0 f _ (hr _ _ (by rw[St.step_L];exact h))
   exact h
theorem zFe (hr:PrK rx)(t:Tk):PrK (zao rx t):=by
 intro L0 st h;unfold zao;split
 . simp only;exact zy7 (by rw[St.leave_L,St.must_L];exact zBL hr L0 1300 _ (hr _ _ (by rw[St.enter_L];exact h)))
 show L0 <+: (st.fail 2 st.t.a).L;rw[St.fail_L];exact h
theorem zDx (hr:PrK rx):PrK (zdx rx):=by intro L0 st h;unfold zdx;simp only;refine zy7 ?_;rw[St.leave_L];exact hr _ _ (by rw[St.must_L];exact hr _ _ (by rw[St.must_L];exact hr _ _ (by rw[St.enter_L];exact h)))
theorem zDj:PrK zjx:=λ_ st h=>zy7 (by rw[St.step_L];exact h)
theorem zCd (ha:PrK atm):PrK (zch atm):=by
 intro L0 st h;unfold zch;split
 . exact ha _ st h
 exact zDj _ st h
theorem zEy (ha:PrK atm):PrK (zeE atm):=by intro L0 st h;unfold zeE;simp only;refine zy7 ?_;rw[St.leave_L];exact zCd ha _ _ (zCd ha _ _ (by rw[St.name_L,St.enter_L];exact h))
theorem zD9 (hr:PrK rx):PrK (zfQ rx):=by
 intro L0 st h
 show L0 <+: (((rx st.enter).1.must 4 [41]).leave).L;rw[St.leave_L,St.must_L];exact hr _ _ (by rw[St.enter_L];exact h)
theorem zAt (op:Xb)(n:Nat):PrK (zdP op n):=λ_ st h=>zy7 (by rw[St.step_L];exact h)
theorem zEX {ra:Fn}(hr:PrK rx)(ha:PrK ra):PrK (zap rx ra):=by
 intro L0 st h;unfold zap;split
 . exact h
 split
 . exact zAt zcq _ _ st h
 split
 . split
   . exact zFe hr _ _ _ (by rw[St.step_L];exact h)
   exact zDj _ st h
 split
 . exact zD9 hr _ st h
 split
 . exact zAt zcb 1 _ st h
 split
 . exact zAt zcb 0 _ st h
 split
 . exact zDx hr _ st h
 split
 . exact zEy ha _ st h
 show L0 <+: (st.fail 2 st.t.a).L;rw[St.fail_L];exact h
theorem zEN {eith:Fn}(hr:PrK rx)(he:PrK eith):PrK (zgk rx eith):=by
 intro L0 st h;unfold zgk;simp only;split
 . refine zy7 ?_;rw[St.leave_L];exact hr _ _ (by rw[St.enter_L];exact he _ st h)
 exact he _ st h
theorem zDg:∀d:Nat,PrK (lev d).ex/\PrK (lev d).un/\PrK (lev d).at'
 | 0=>⟨λ_ _ h=>h,λ_ _ h=>h,λ_ _ h=>h⟩
 | d+1=>by obtain⟨h1,h2,h3⟩:=zDg d;have ha:PrK (zap (lev d).ex (lev d).at'):=zEX h1 h3;have hu:PrK (zdn (lev d).un (zfu (zap (lev d).ex (lev d).at'))):=zEr h2 (zCR ha);exact⟨zEN h1 (zAQ (zAQ (zFn (zAQ (zAQ hu))))),hu,ha⟩
theorem PrK.ext {M:Fn}(h:PrK M):Ext M:=λst=>by obtain⟨E,hE⟩:=h st.L st (List.prefix_refl _);exact⟨E,hE.symm⟩
structure zAr (nd:Nd):Prop where
 vars:zDN nd.vars
 ar:ArL nd.exs
 eqs:∀q∈nd.eqs,zzX nd.exs q
theorem zDe (a17:ArK r17)(a18:ArK r18)(x17:Ext r17)(x18:Ext r18)(g17:zv 17 r17)(g18:zv 18 r18):∀(f p:Nat) (x:St×List Eqn),Inv p x.1->x.1.op=0->ArL x.1.L->(∀q∈x.2,zzX x.1.L q)->(zb5 r17 r18 f x).1.er=0->ArL (zb5 r17 r18 f x).1.L/\∀q∈(zb5 r17 r18 f x).2,zzX (zb5 r17 r18 f x).1.L q
 | 0,_,_,_,_,h,he,_=>⟨h,he⟩
 | f+1,p,x,hI,ho,h,he,hn=>by
   by_cases hc:x.1.t.k=2∨x.1.is 4 [40]=true
   . have e:zb5 r17 r18 (f+1) x=zb5 r17 r18 f (zF r17 r18 x.1 x.2):=(by rw[zb5,zM2 hc]);rw[e] at hn ⊢;obtain⟨gF,gO⟩:=za1 g17 g18 (eqs:=x.2) hI ho;have hI':=gF.inv;have h1:(zF r17 r18 x.1 x.2).1.er=0:=by
      by_cases h2:(zF r17 r18 x.1 x.2).1.er=0
      . exact h2
      rw[zl3 hI' h2] at hn;exact absurd hn h2
     obtain⟨k1,k2⟩:=zAZ a17 a18 x17 x18 h he h1;exact zDe a17 a18 x17 x18 g17 g18 f _ _ hI' (by rw[gO];exact ho) k1 k2 hn
   have e:zb5 r17 r18 (f+1) x=x:=(by rw[zb5,zM1 hc]);rw[e];exact⟨h,he⟩
theorem zCu (a17:ArK r17)(a18:ArK r18)(x17:Ext r17)(x18:Ext r18)(g17:zv 17 r17)(g18:zv 18 r18)(f p:Nat)(st:St)(hI:Inv p st)(ho:st.op=0)(hn:(zax r17 r18 f st).1.er=0):zAr (zax r17 r18 f st).2:=by
 have i0:=Fwd.fresh hI;have gh:=zit i0;have gv:=zeP (f:=f) (vars:=(zaI st.fresh).2) gh.1.inv;have g1:=Fwd.must gv.1.inv 4 [123];have o1:((zaS f (zaI st.fresh).1 (zaI st.fresh).2).1.must 4 [123]).op=0:=by rw[St.must_op,gv.2.1,gh.2.1];exact ho
 have L1:((zaS f (zaI st.fresh).1 (zaI st.fresh).2).1.must 4 [123]).L=[]:=by rw[St.must_L,gv.2.2,gh.2.2];rfl
 obtain⟨V,hV⟩:∃V,zaS f (zaI st.fresh).1 (zaI st.fresh).2=V:=⟨_,rfl⟩;have hvo:V.1.er=0->zDN V.2:=by rw[<- hV];exact zFZ
 rw[hV] at g1 o1 L1;have e:zax r17 r18 f st=((zdr r17 r18 f V.1).1,⟨(st.fresh.must 5 zW).t.s,(st.fresh.must 5 zW).t.a,V.2,(zdr r17 r18 f V.1).1.L,(zdr r17 r18 f V.1).2⟩):=by unfold zax;simp only;rw[hV]
 rw[e] at hn ⊢;have h2:(zb5 r17 r18 f (zF r17 r18 (V.1.must 4 [123]) [])).1.er=0:=(zbu.must _ 4 [125]).back hn;obtain⟨gF,gO⟩:=za1 g17 g18 (eqs:=[]) g1.inv o1;have h3:(zF r17 r18 (V.1.must 4 [123]) []).1.er=0:=by
  by_cases h4:(zF r17 r18 (V.1.must 4 [123]) []).1.er=0
  . exact h4
  rw[zl3 gF.inv h4] at h2;exact absurd h2 h4
 have h5:V.1.er=0:=(zbu.must _ 4 [123]).back ((zbu.equation g18 g1.inv o1 []).back h3);obtain⟨k1,k2⟩:=zAZ a17 a18 x17 x18 (eqs:=[]) (by rw[L1];intro e he;cases he) (λq hq=>by cases hq) h3;obtain⟨m1,m2⟩:=zDe a17 a18 x17 x18 g17 g18 f _ _ gF.inv (by rw[gO];exact o1) k1 k2 h2;have eL:(zdr r17 r18 f V.1).1.L=(zb5 r17 r18 f (zF r17 r18 (V.1.must 4 [123]) [])).1.L:=St.must_L _ _ _;refine⟨hvo h5,?_,?_⟩
 . show ArL (zdr r17 r18 f V.1).1.L;rw[eL];exact m1
 intro q hq
 show zzX (zdr r17 r18 f V.1).1.L q;rw[eL];exact m2 q hq
theorem zzR (g17:zv 17 r17)(g18:zv 18 r18)(f p:Nat)(st:St)(hI:Inv p st)(ho:st.op=0):Inv 0 (zax r17 r18 f st).1/\(zax r17 r18 f st).1.op=0:=by
 have i0:=Fwd.fresh hI;have gh:=zit i0;have gv:=zeP (f:=f) (vars:=(zaI st.fresh).2) gh.1.inv;have g1:=Fwd.must gv.1.inv 4 [123];have o1:((zaS f (zaI st.fresh).1 (zaI st.fresh).2).1.must 4 [123]).op=0:=by rw[St.must_op,gv.2.1,gh.2.1];exact ho
 obtain⟨gF,gO⟩:=za1 g17 g18 (eqs:=[]) g1.inv o1;have gE:=zfZ g17 g18 f _ (zF r17 r18 ((zaS f (zaI st.fresh).1 (zaI st.fresh).2).1.must 4 [123]) []) gF.inv (by rw[gO];exact o1);have gM:=Fwd.must gE.1.inv 4 [125];exact⟨gM.inv,by show (St.must _ 4 [125]).op=0;rw[St.must_op];exact gE.2⟩
theorem zBM (a17:ArK r17)(a18:ArK r18)(x17:Ext r17)(x18:Ext r18)(g17:zv 17 r17)(g18:zv 18 r18)(g:Nat):∀(f p:Nat) (x:St×List Nd),Inv p x.1->x.1.op=0->(∀nd∈x.2,zAr nd)->(zdZ r17 r18 g f x).1.er=0->(∀nd∈(zdZ r17 r18 g f x).2,zAr nd)
 | 0,_,_,_,_,h,_=>h
 | f+1,p,x,hI,ho,h,hn=>by
   by_cases hc:x.1.is 5 zW=true/\x.2.length<6
   . have e:zdZ r17 r18 g (f+1) x=zdZ r17 r18 g f ((zax r17 r18 g x.1).1,x.2++[(zax r17 r18 g x.1).2]):=(by rw[zdZ,zM2 hc]);rw[e] at hn ⊢;obtain⟨i1,o1⟩:=zzR g17 g18 g p x.1 hI ho;have h1:(zax r17 r18 g x.1).1.er=0:=by
      by_cases h2:(zax r17 r18 g x.1).1.er=0
      . exact h2
      rw[zze i1 h2] at hn;exact absurd hn h2
     refine zBM a17 a18 x17 x18 g17 g18 g f 0 _ i1 o1 (λnd hnd=>?_) hn;rcases zMY.1 hnd with hnd|hnd
     . exact h nd hnd
     rw[zMZ.1 hnd];exact zCu a17 a18 x17 x18 g17 g18 g p x.1 hI ho h1
   have e:zdZ r17 r18 g (f+1) x=x:=(by rw[zdZ,zM1 hc]);rw[e];exact h
theorem zCh (a17:ArK r17)(a18:ArK r18)(x17:Ext r17)(x18:Ext r18)(g17:zv 17 r17)(g18:zv 18 r18)(g:Nat)(s:Xb)(hI:Inv 0 (⟨s,zZ s 0,0,0,0,[]⟩:St))(hn:(zgo r17 r18 g s).1.er=0):∀nd∈(zgo r17 r18 g s).2,zAr nd:=by
 have h1:(zdZ r17 r18 g g ((zax r17 r18 g ⟨s,zZ s 0,0,0,0,[]⟩).1,[(zax r17 r18 g ⟨s,zZ s 0,0,0,0,[]⟩).2])).1.er=0:=(zzQ _).back hn;obtain⟨i1,o1⟩:=zzR g17 g18 g 0 ⟨s,zZ s 0,0,0,0,[]⟩ hI rfl;have h2:(zax r17 r18 g ⟨s,zZ s 0,0,0,0,[]⟩).1.er=0:=by
  by_cases h3:(zax r17 r18 g ⟨s,zZ s 0,0,0,0,[]⟩).1.er=0
  . exact h3
  rw[zze i1 h3] at h1;exact absurd h1 h3
 refine zBM a17 a18 x17 x18 g17 g18 g g 0 _ i1 o1 (λnd hnd=>?_) h1;rw[zMZ.1 hnd];exact zCu a17 a18 x17 x18 g17 g18 g 0 _ hI rfl h2
end
section
open Go.RowKit
theorem zhv {w:Xw}{B:Nat}{g n cap:Nat}{e:Xy}{xs:Xm}(h:w.ownsRow B e 1 (xS g n cap) n xs){j:Nat}{u:Xv}(hj:xs[j]?=some u):xC w g j u:=by
 have:=h.cells (g:=g) rfl j u hj;have e0:((xD g 0):Addr).add j=⟨g,j,none⟩:=by cases j <;> simp[Addr.add]
 rwa [e0] at this
theorem zai {w:Xw}{b:Nat}{l:Xa}{e:Xy}(h:w.heap[b]?=some (.cells l e (0,0)))(k:Nat):w.frozen? (xD b k)=false:=by simp[World.frozen?,h]
end
end Go.Proofs.YtbicmofihhjgbaaGreatDoor
