/- Part 7. -/
import Derived.Deep.RegionHeld3
import Derived.Test.YtenadialhccdiaaGreatDoorK05
set_option maxRecDepth 100000
set_option maxHeartbeats 8000000
namespace Go.Proofs.YtenadialhccdiaaGreatDoor
open Go.Proofs.Tryz
section
variable {e:Ex} {atm part rx:Fn} {lv n:Nat} {st:St} {t:Tk}
def arE (e:Ex):Bool:=arB (zag e.op.toList e.n) e.ins.length
def ArL (L:List Ex):Prop:=∀e∈L,arE e=true
def ArK (M:Fn):Prop:=∀st,ArL st.L->ArL (M st).1.L
theorem ArL.add {L:List Ex}(h:ArL L)(he:arE e=true):ArL (L++[e]):=by
 intro x hx;rcases zMY.1 hx with hx|hx
 . exact h x hx
 rw[zMZ.1 hx];exact he
theorem St.add_L (st:St)(e:Ex):(st.add e).L=st.L++[e]∨(st.add e).L=st.L:=by unfold St.add;first|exact zM3 rfl|(split <;> first|exact zM3 rfl|exact zM4 rfl)
theorem St.leave_L (st:St):st.leave.L=st.L:=by unfold St.leave;first|rfl|(split <;> rfl)
theorem ArL.put (h:ArL st.L)(he:arE e=true):ArL (st.put e).1.L:=by
 show ArL (st.add e).L;rcases st.add_L e with h1|h1
 . rw[h1];exact h.add he
 rw[h1];exact h
theorem zGU:zag zlo.toList 0=10:=by decide +kernel
theorem zGM:zag zk5.toList 0=11:=by decide +kernel
theorem zEI:zag zef.toList 0=4:=by decide +kernel
theorem zGZ:zag sIf.toList 0=5:=by decide +kernel
theorem zF6:zag zep.toList 0=6:=by decide +kernel
theorem zGS:zag zgW.toList 0=9:=by decide +kernel
theorem zGT:zag zfR.toList 0=3:=by decide +kernel
theorem zGe:zag zcb.toList 1=1:=by decide +kernel
theorem zGf:zag zcb.toList 0=2:=by decide +kernel
theorem zGL (n:Nat):zag zcq.toList n=0:=by unfold zag;rw[zM2 (by decide +kernel)]
theorem zyF {k:Nat}{op:Xb}{l:Nat}(hk:zag op.toList n=k)(h:arB k l=true){a b:Nat}{ins:Xn}{s:Xb}(hl:ins.length=l):arE ⟨op,a,b,ins,s,n⟩=true:=by unfold arE;simp only[hk,hl];exact h
theorem zER (h:zco t n=true)(a b:Nat):arE ⟨t.s,t.a,0,[a,b],sE,0⟩=true:=by
 unfold zco at h;split at h
 . cases h
 split at h
 . rename_i h1;unfold arE;rcases h1 with h1|h1 <;> (simp only[h1];rfl)
 split at h
 . rename_i h1;unfold arE;simp only[h1];rfl
 split at h
 . rename_i h1;unfold arE;rcases h1 with h1|h1 <;> (simp only[h1];rfl)
 split at h
 . rename_i h1;unfold arE;rcases h1 with h1|h1|h1 <;> (simp only[h1];rfl)
 cases h
theorem zCt (hp:ArK part):∀(f:Nat) (x:St×Nat),ArL x.1.L->ArL (zdq lv part f x).1.L
 | 0,_,h=>h
 | f+1,x,h=>by
   unfold zdq;split
   . rename_i hc
     refine zCt hp f _ (ArL.put (hp _ (by rw[St.step_L];exact h)) (zER hc.2 _ _))
   exact h
theorem zAJ (hp:ArK part):ArK (zcT lv part):=λst h=>zCt hp 1300 _ (hp st h)
theorem zGb (h:zcn t=true)(a b:Nat):arE ⟨t.s,t.a,0,[a,b],sE,0⟩=true:=by unfold zcn at h;simp only[Bool.and_eq_true,Bool.or_eq_true,beq_iff_eq] at h;unfold arE;rcases h.2 with ((h1|h1)|h1)|h1 <;> (simp only[h1];rfl)
theorem zEO {sum:Fn}(hs:ArK sum):ArK (zdJ sum):=by
 intro st h;unfold zdJ;simp only;split
 . rename_i hc
   exact ArL.put (hs _ (by rw[St.step_L];exact hs st h)) (zGb hc.2 _ _)
 exact hs st h
theorem zEg {ru smp:Fn}(hr:ArK ru)(hs:ArK smp):ArK (zdn ru smp):=by
 intro st h;unfold zdn;split
 . refine ArL.put (by rw[St.leave_L];exact hr _ (by rw[St.enter_L];exact h)) ?_;split
   . exact zyF zGU (l:=1) rfl rfl
   exact zyF zGM (l:=1) rfl rfl
 exact hs st h
theorem zGk (h:zdi st=true)(a b x:Nat)(s:Xb):arE ⟨st.t.s,a,b,[x],s,0⟩=true:=by unfold zdi St.is at h;simp only[Bool.or_eq_true,Bool.and_eq_true,beq_iff_eq] at h;unfold arE;rcases h with h1|h1 <;> (simp only[h1.2];rfl)
theorem zAp:∀(f:Nat) (x:St×Nat),ArL x.1.L->ArL (zaY f x).1.L
 | 0,_,h=>h
 | f+1,x,h=>by
   unfold zaY;split
   . rename_i hc
     refine zAp f _ (ArL.put (by rw[St.name_L,St.step_L];exact h) (zGk hc.2 _ _ _ _))
   exact h
theorem zCY (ha:ArK atm):ArK (zfu atm):=λst h=>zAp 1300 _ (ha st h)
theorem zBV (hr:ArK rx):∀(f:Nat) (x:St×List Nat),ArL x.1.L->1<=x.2.length->ArL (zc1 rx f x).1.L/\1<=(zc1 rx f x).2.length
 | 0,_,h,h1=>⟨h,h1⟩
 | f+1,x,h,h1=>by
   unfold zc1;split
   . exact zBV hr f _ (hr _ (by rw[St.step_L];exact h)) (by simp)
   exact⟨h,h1⟩
theorem zCB (hr:ArK rx)(t:Tk):ArK (zao rx t):=by
 intro st h;unfold zao;split
 . simp only;have:=zBV hr 1300 ((rx st.enter).1,[(rx st.enter).2]) (hr _ (by rw[St.enter_L];exact h)) (by simp);refine ArL.put (by rw[St.leave_L,St.must_L];exact this.1) ?_;exact zyF zEI (by show decide (1<=_)=true;exact decide_eq_true this.2) rfl
 show ArL (st.fail 2 st.t.a).L;rw[St.fail_L];exact h
theorem zDL (hr:ArK rx):ArK (zdx rx):=by intro st h;unfold zdx;simp only;refine ArL.put ?_ (zyF zGZ (l:=3) rfl rfl);rw[St.leave_L];exact hr _ (by rw[St.must_L];exact hr _ (by rw[St.must_L];exact hr _ (by rw[St.enter_L];exact h)))
theorem zDk:ArK zjx:=λst h=>ArL.put (by rw[St.step_L];exact h) (zyF zGT (l:=0) rfl rfl)
theorem zCw (ha:ArK atm):ArK (zch atm):=by
 intro st h;unfold zch;split
 . exact ha st h
 exact zDk st h
theorem zEE (ha:ArK atm):ArK (zeE atm):=by intro st h;unfold zeE;simp only;refine ArL.put ?_ (zyF zF6 (l:=2) rfl rfl);rw[St.leave_L];exact zCw ha _ (zCw ha _ (by rw[St.name_L,St.enter_L];exact h))
theorem zD7 (hr:ArK rx):ArK (zfQ rx):=by
 intro st h
 show ArL (((rx st.enter).1.must 4 [41]).leave).L;rw[St.leave_L,St.must_L];exact hr _ (by rw[St.enter_L];exact h)
theorem zAx (op:Xb)(n:Nat)(h0:∀a:Nat,arE ⟨op,a,0,[],sE,n⟩=true):ArK (zdP op n):=λst h=>ArL.put (by rw[St.step_L];exact h) (h0 _)
theorem zES {ra:Fn}(hr:ArK rx)(ha:ArK ra):ArK (zap rx ra):=by
 intro st h;unfold zap;split
 . exact h
 split
 . exact zAx zcq _ (λ_=>zyF (zGL _) (l:=0) rfl rfl) st h
 split
 . split
   . exact zCB hr _ _ (by rw[St.step_L];exact h)
   exact zDk st h
 split
 . exact zD7 hr st h
 split
 . exact zAx zcb 1 (λ_=>zyF zGe (l:=0) rfl rfl) st h
 split
 . exact zAx zcb 0 (λ_=>zyF zGf (l:=0) rfl rfl) st h
 split
 . exact zDL hr st h
 split
 . exact zEE ha st h
 show ArL (st.fail 2 st.t.a).L;rw[St.fail_L];exact h
theorem zFk {eith:Fn}(hr:ArK rx)(he:ArK eith):ArK (zgk rx eith):=by
 intro st h;unfold zgk;simp only;split
 . refine ArL.put ?_ (zyF zGS (l:=2) rfl rfl);rw[St.leave_L];exact hr _ (by rw[St.enter_L];exact he st h)
 exact he st h
theorem zDb:∀d:Nat,ArK (lev d).ex/\ArK (lev d).un/\ArK (lev d).at'
 | 0=>⟨λ_ h=>h,λ_ h=>h,λ_ h=>h⟩
 | d+1=>by obtain⟨h1,h2,h3⟩:=zDb d;have ha:ArK (zap (lev d).ex (lev d).at'):=zES h1 h3;have hu:ArK (zdn (lev d).un (zfu (zap (lev d).ex (lev d).at'))):=zEg h2 (zCY ha);exact⟨zFk h1 (zAJ (zAJ (zEO (zAJ (zAJ hu))))),hu,ha⟩
end
section
variable {i o:Bool} {v0 vars:List Vr} {f:Nat} {st:St}
theorem zbu.back {a b:St}(h:zbu a b)(hb:b.er=0):a.er=0:=by
 by_cases ha:a.er=0
 . exact ha
 have:=(h ha).1;omega
theorem zzP (st:St)(a:Nat):(st.fail 2 a).er≠0:=by
 unfold St.fail;split
 . show (2:Nat)≠0;omega
 rename_i h;exact h
theorem zAI (h:(zx i o st vars).1.er=0):vars.length<16/\∃v:Vr,(zx i o st vars).2=vars++[v]/\v.inn=i/\v.out=o/\((i||o)=true->v.tm=false):=by
 unfold zx at h ⊢;by_cases hl:16<=vars.length
 . rw[zM2 hl] at h;exact absurd h (zzP st _)
 rw[zM1 hl] at h ⊢;refine⟨by omega,?_⟩;simp only;split
 . rename_i hc
   simp only[Bool.and_eq_true,Bool.not_eq_true'] at hc;exact⟨_,rfl,rfl,rfl,λh=>by rw[hc.1.2,hc.2] at h;cases h⟩
 exact⟨_,rfl,rfl,rfl,λ_=>rfl⟩
def zzt (i o:Bool)(vars vars':List Vr):Prop:=∃E:List Vr,vars'=vars++E/\(∀v∈E,v.inn=i/\v.out=o/\((i||o)=true->v.tm=false))/\vars'.length<=16
theorem zzt.one {v:Vr}(h:zzt i o v0 vars)(hi:v.inn=i)(ho:v.out=o/\((i||o)=true->v.tm=false))(hl:vars.length<16):zzt i o v0 (vars++[v]):=by
 obtain⟨E,rfl,hE,_⟩:=h;refine⟨E++[v],by rw[zMQ],λx hx=>?_,by rw[zMM,List.length_singleton];omega⟩;rcases zMY.1 hx with hx|hx
 . exact hE x hx
 rw[zMZ.1 hx];exact⟨hi,ho⟩
theorem zAk:∀(f:Nat) (x:St×List Vr),(zaG i f x).1.er=0->zzt i (!i) v0 x.2->v0.length<x.2.length->zzt i (!i) v0 (zaG i f x).2/\v0.length<(zaG i f x).2.length
 | 0,_,_,h,h1=>⟨h,h1⟩
 | f+1,x,he,h,h1=>by
   unfold zaG at he ⊢;split
   . rename_i hc
     rw[zM2 hc] at he;have h2:=(zzJ i f _).back he;obtain⟨hl,v,e,hi,ho⟩:=zAI h2;refine zAk f _ he ?_ ?_
     . rw[e];exact h.one hi ho hl
     rw[e,zMM,List.length_singleton];omega
   exact⟨h,h1⟩
theorem zA2 (h:(zab i st vars).1.er=0):zzt i (!i) vars (zab i st vars).2/\vars.length<(zab i st vars).2.length:=by
 unfold zab at h ⊢;simp only at h ⊢;have h1:=(zbu.must _ 4 [41]).back h;have h2:=(zzJ i 1300 _).back h1;obtain⟨hl,v,e,hi,ho⟩:=zAI h2;refine zAk 1300 _ h1 ?_ ?_
 . rw[e];exact zzt.one ⟨[],by simp,by simp,by omega⟩ hi ho hl
 rw[e,zMM,List.length_singleton];omega
theorem zAB:∀(f:Nat) (x:St×List Vr),(zbA f x).1.er=0->zzt false false v0 x.2->zzt false false v0 (zbA f x).2
 | 0,_,_,h=>h
 | f+1,x,he,h=>by
   unfold zbA at he ⊢;split
   . rename_i hc
     rw[zM2 hc] at he;have h2:(zaR x.1 x.2).1.er=0:=by
      by_cases h3:(zaR x.1 x.2).1.er=0
      . exact h3
      rw[zzY h3] at he;exact absurd he h3
     have h4:=(zbu.must _ 4 [59]).back h2;obtain⟨hl,v,e,hi,ho⟩:=zAI h4;refine zAB f _ he ?_
     show zzt false false v0 (zx false false x.1 x.2).2;rw[e];exact h.one hi ho hl
   exact h
theorem zDQ (hl:vars.length<=16)(h:(zaS f st vars).1.er=0):zzt false false vars (zaS f st vars).2:=by
 unfold zaS at h ⊢;have h0:zzt false false vars vars:=⟨[],by simp,by simp,hl⟩;split
 . rename_i hc
   rw[zM2 hc] at h;have h2:(zaR st.step vars).1.er=0:=by
    by_cases h3:(zaR st.step vars).1.er=0
    . exact h3
    rw[zzY h3] at h;exact absurd h h3
   have h4:=(zbu.must _ 4 [59]).back h2;obtain⟨hl',v,e,hi,ho⟩:=zAI h4;refine zAB f _ h ?_
   show zzt false false vars (zx false false st.step vars).2;rw[e];exact h0.one hi ho hl'
 exact h0
structure zDN (vars:List Vr):Prop where
 ins:1<=(vars.filter (·.inn)).length
 outs:1<=(vars.filter (·.out)).length
 io:(vars.filter (·.inn)).length+(vars.filter (·.out)).length<=vars.length
 few:vars.length<=16
 arr:∃A B C:List Vr,vars=A++B++C/\(∀v∈A,v.inn=true/\v.out=false/\v.tm=false)/\(∀v∈B,v.inn=false/\v.out=true/\v.tm=false)/\∀v∈C,v.inn=false/\v.out=false
theorem zzq {α:Type}{p:α->Bool}{E:List α}(h:∀v∈E,p v=true):E.filter p=E:=List.filter_eq_self.2 h
theorem zyD {α:Type}{p:α->Bool}{E:List α}(h:∀v∈E,p v=false):E.filter p=[]:=List.filter_eq_nil_iff.2 (λv hv=>by rw[h v hv];simp)
theorem zFZ (h:(zaS f (zaI st).1 (zaI st).2).1.er=0):zDN (zaS f (zaI st).1 (zaI st).2).2:=by
 have h1:=(zBR f (zaI st).1 (zaI st).2).back h;have h1':(zab false ((zab true (st.must 5 zW).name []).1.must 4 [45,62]) (zab true (st.must 5 zW).name []).2).1.er=0:=h1;obtain⟨⟨E2,e2,k2,l2⟩,n2⟩:=zA2 h1';have h3:=(zbu.must _ 4 [45,62]).back ((zzV false _ _).back h1');obtain⟨⟨E1,e1,k1,l1⟩,n1⟩:=zA2 h3;have eh:(zaI st).2=(zab false ((zab true (st.must 5 zW).name []).1.must 4 [45,62]) (zab true (st.must 5 zW).name []).2).2:=rfl;have lh:(zaI st).2.length<=16:=by rw[eh];exact l2
 obtain⟨E3,e3,k3,l3⟩:=zDQ lh h;rw[List.nil_append] at e1;have e2':(zaI st).2=E1++E2:=by rw[eh,e2,e1]
 have n2':E1.length<(zaI st).2.length:=by rw[eh];rw[e1] at n2;rw[e1];exact n2
 rw[e1] at n1;have e4:(zaS f (zaI st).1 (zaI st).2).2=E1++E2++E3:=e3.trans (congrArg (·++E3) e2');rw[e2',zMM] at n2';clear e3 e2 n2;have e3:=e4;have n2:=n2';have f1:∀E:List Vr,E=E1->E.filter (·.inn)=E1/\E.filter (·.out)=[]:=λE e=>by subst e;exact⟨zzq (λv hv=>(k1 v hv).1),zyD (λv hv=>(k1 v hv).2.1)⟩
 obtain⟨a1,b1⟩:=f1 E1 rfl;have a2:E2.filter (·.inn)=[]:=zyD (λv hv=>(k2 v hv).1);have b2:E2.filter (·.out)=E2:=zzq (λv hv=>(k2 v hv).2.1);have a3:E3.filter (·.inn)=[]:=zyD (λv hv=>(k3 v hv).1);have b3:E3.filter (·.out)=[]:=zyD (λv hv=>(k3 v hv).2.1);refine⟨?_,?_,?_,l3,E1,E2,E3,e3,λv hv=>⟨(k1 v hv).1,(k1 v hv).2.1,(k1 v hv).2.2 rfl⟩,λv hv=>⟨(k2 v hv).1,(k2 v hv).2.1,(k2 v hv).2.2 rfl⟩,λv hv=>⟨(k3 v hv).1,(k3 v hv).2.1⟩⟩
 . rw[e3,List.filter_append,List.filter_append,a1,a2,a3];simp only[List.append_nil];simp at n1;omega
 . rw[e3,List.filter_append,List.filter_append,b1,b2,b3];simp only[List.append_nil,List.nil_append];omega
 rw[e3,List.filter_append,List.filter_append,List.filter_append,List.filter_append,a1,a2,a3,b1,b2,b3];simp only[List.append_nil,List.nil_append,zMM];omega
def zzX (L:List Ex)(q:Eqn):Prop:=q.ns.length=q.ps.length/\1<=q.ns.length/\(2<=q.ns.length->∃ex:Ex,L[q.ex]?=some ex/\zag ex.op.toList ex.n=4)
theorem zzX.more {L:List Ex}{q:Eqn}(h:zzX L q)(E:List Ex):zzX (L++E) q:=by refine⟨h.1,h.2.1,λh2=>?_⟩;obtain⟨ex,e1,e2⟩:=h.2.2 h2;exact⟨ex,by rw[zM6 (zMJ.1 e1).1];exact e1,e2⟩
theorem zBe:∀(f:Nat) (x:Nms),x.ns.length=x.ps.length->2<=x.ns.length->(zbO f x).ns.length=(zbO f x).ps.length/\2<=(zbO f x).ns.length
 | 0,_,h,h1=>⟨h,h1⟩
 | f+1,x,h,h1=>by
   unfold zbO;split
   . exact zBe f x.more (by simp[Nms.more,h]) (by simp[Nms.more];omega)
   exact⟨h,h1⟩
theorem zE6 (st:St):(zaH st).ns.length=(zaH st).ps.length/\1<=(zaH st).ns.length/\(2<=(zaH st).ns.length->st.is 4 [40]=true):=by
 unfold zaH;split
 . rename_i h
   have:=zBe 1300 ⟨(st.step.name.must 4 [44]).name,[st.step.t.s,(st.step.name.must 4 [44]).t.s],[st.step.t.a,(st.step.name.must 4 [44]).t.a]⟩ rfl (by simp);exact⟨this.1,by have:=this.2;show 1<=(zbO 1300 _).ns.length;omega,λ_=>h⟩
 exact⟨rfl,by simp,λh=>by simp at h⟩
theorem zGu (st:St):(zaH st).st.L=st.L:=by
 have hn:∀(f:Nat) (x:Nms),(zbO f x).st.L=x.st.L:=by
  intro f;induction f with
  | zero=>intro x;rfl
  | succ f ih =>
    intro x;unfold zbO;split
    . rw[ih];show (x.st.step.name).L=_;rw[St.name_L,St.step_L]
    rfl
 unfold zaH;split
 . unfold zdH;simp only;rw[St.must_L,hn]
   show ((st.step.name.must 4 [44]).name).L=_;rw[St.name_L,St.must_L,St.name_L,St.step_L]
 show st.name.L=_;rw[St.name_L]
def Ext (M:Fn):Prop:=∀st,∃E,(M st).1.L=st.L++E
theorem zAZ {r17 r18:Fn}(a17:ArK r17)(a18:ArK r18)(x17:Ext r17)(x18:Ext r18){eqs:List Eqn}(h:ArL st.L)(he:∀q∈eqs,zzX st.L q)(hn:(zF r17 r18 st eqs).1.er=0) :
 ArL (zF r17 r18 st eqs).1.L/\(∀q∈(zF r17 r18 st eqs).2,zzX (zF r17 r18 st eqs).1.L q):=by
 have hL:(zF r17 r18 st eqs).1.L=(zck r17 r18 (st.is 4 [40]) ((zaH st).st.must 4 [61])).1.L:=St.must_L _ _ _;have hr:(zck r17 r18 (st.is 4 [40]) ((zaH st).st.must 4 [61])).1.er=0:=(zbu.must _ 4 [59]).back hn;have h0:((zaH st).st.must 4 [61]).L=st.L:=by rw[St.must_L,zGu]
 rw[hL];obtain⟨l1,l2,l3⟩:=zE6 st;cases hm:st.is 4 [40] with
 | false =>
   have e1:zck r17 r18 false ((zaH st).st.must 4 [61])=r18 ((zaH st).st.must 4 [61]):=rfl;rw[e1];refine⟨a18 _ (by rw[h0];exact h),λq hq=>?_⟩;obtain⟨E,hE⟩:=x18 ((zaH st).st.must 4 [61]);rw[hE,h0];rcases zMY.1 hq with hq|hq
   . exact (he q hq).more E
   rw[zMZ.1 hq];exact⟨l1,l2,λh2=>by have:=l3 h2;rw[hm] at this;cases this⟩
 | true =>
   rw[hm] at hr;have e1:∀s:St,zck r17 r18 true s=zao r17 s.t s.name:=λ_=>rfl;rw[e1] at hr ⊢;obtain⟨s,hs⟩:∃s,(zaH st).st.must 4 [61]=s:=⟨_,rfl⟩;have hq2:(zF r17 r18 st eqs).2=eqs++[⟨(zaH st).ns,(zaH st).ps,(zaH st).st.t.a,(zao r17 s.t s.name).2⟩]:=(by show eqs++[⟨_,_,_,(zck r17 r18 (st.is 4 [40]) ((zaH st).st.must 4 [61])).2⟩]=_;rw[hm,e1,hs]);rw[hs] at hr h0 ⊢;refine⟨zCB a17 s.t s.name (by rw[St.name_L,h0];exact h),?_⟩;rw[hq2];have hc:∃E ex,(zao r17 s.t s.name).1.L=st.L++E/\(zao r17 s.t s.name).1.L[(zao r17 s.t s.name).2]?=some ex/\zag ex.op.toList ex.n=4:=by
    by_cases hp:s.name.is 4 [40]=true
    . have e2:zao r17 s.t s.name=(((zbG r17 s.name.enter).1.must 4 [41]).leave).put ⟨zef,s.t.a,s.t.a,(zbG r17 s.name.enter).2,s.t.s,0⟩:=(by unfold zao;rw[zM2 hp]);have ea:∃E,(zbG r17 s.name.enter).1.L=st.L++E:=by
       have key:∀(f:Nat) (x:St×List Nat),(∃E,x.1.L=st.L++E)->∃E,(zc1 r17 f x).1.L=st.L++E:=by
        intro f;induction f with
        | zero=>intro x h;exact h
        | succ f ih =>
          intro x hx;unfold zc1;split
          . refine ih _ ?_;obtain⟨E,hE⟩:=hx;obtain⟨E',hE'⟩:=x17 x.1.step;exact⟨E++E',by show (r17 x.1.step).1.L=_;rw[hE',St.step_L,hE,zMQ]⟩
          exact hx
       refine key 1300 _ ?_;obtain⟨E,hE⟩:=x17 s.name.enter;exact⟨E,by show (r17 s.name.enter).1.L=_;rw[hE,St.enter_L,St.name_L,h0]⟩
      obtain⟨E,hE⟩:=ea;have eL:(((zbG r17 s.name.enter).1.must 4 [41]).leave).L=st.L++E:=(by rw[St.leave_L,St.must_L,hE]);rw[e2];refine⟨E++[⟨zef,s.t.a,s.t.a,(zbG r17 s.name.enter).2,s.t.s,0⟩],⟨zef,s.t.a,s.t.a,(zbG r17 s.name.enter).2,s.t.s,0⟩,?_,?_,zEI⟩
      . show (((zbG r17 s.name.enter).1.must 4 [41]).leave).L++[_]=_;rw[eL,zMQ]
      show ((((zbG r17 s.name.enter).1.must 4 [41]).leave).L++[_])[(((zbG r17 s.name.enter).1.must 4 [41]).leave).L.length]?=_;rw[zM5 (zMK _),Nat.sub_self];rfl
    exfalso;have e2:zao r17 s.t s.name=(s.name.fail 2 s.name.t.a,0):=(by unfold zao;rw[zM1 hp]);rw[e2] at hr;exact zzP _ _ hr
   obtain⟨E,ex,c1,c2,c3⟩:=hc;intro q hq;rcases zMY.1 hq with hq|hq
   . rw[c1];exact (he q hq).more E
   rw[zMZ.1 hq];exact⟨l1,l2,λ_=>⟨ex,c2,c3⟩⟩
end
section
variable {atm part r17 r18 rx:Fn} {lv:Nat}
def PrK (M:Fn):Prop:=∀(L0:List Ex) (st:St),L0 <+: st.L->L0 <+: (M st).1.L
theorem zy7 {L0:List Ex}{st:St}{e:Ex}(h:L0 <+: st.L):L0 <+: (st.put e).1.L:=h.trans (List.prefix_append st.L [e])
theorem zCp (hp:PrK part)(L0:List Ex):∀(f:Nat) (x:St×Nat),L0 <+: x.1.L->L0 <+: (zdq lv part f x).1.L
 | 0,_,h=>h
 | f+1,x,h=>by
   unfold zdq;split
   . exact zCp hp L0 f _ (zy7 (hp _ _ (by rw[St.step_L];exact h)))
   exact h
theorem zAQ (hp:PrK part):PrK (zcT lv part):=λL0 st h=>zCp hp L0 1300 _ (hp L0 st h)
theorem zFn {sum:Fn}(hs:PrK sum):PrK (zdJ sum):=by
 intro L0 st h;unfold zdJ;simp only;split
 . exact zy7 (hs _ _ (by rw[St.step_L];exact hs _ st h))
 exact hs _ st h
theorem zEr {ru smp:Fn}(hr:PrK ru)(hs:PrK smp):PrK (zdn ru smp):=by
 intro L0 st h;unfold zdn;split
 . exact zy7 (by rw[St.leave_L];exact hr _ _ (by rw[St.enter_L];exact h))
 exact hs _ st h
theorem zAu (L0:List Ex):∀(f:Nat) (x:St×Nat),L0 <+: x.1.L->L0 <+: (zaY f x).1.L
 | 0,_,h=>h
 | f+1,x,h=>by
   unfold zaY;split
   . exact zAu L0 f _ (zy7 (by rw[St.name_L,St.step_L];exact h))
   exact h
theorem zCR (ha:PrK atm):PrK (zfu atm):=λL0 st h=>zAu L0 1300 _ (ha L0 st h)
theorem zBL (hr:PrK rx)(L0:List Ex):∀(f:Nat) (x:St×List Nat),L0 <+: x.1.L->L0 <+: (zc1 rx f x).1.L
 | 0,_,h=>h
 | f+1,x,h=>by
   unfold zc1;split
   . exact zBL hr L0 f _ (hr _ _ (by rw[St.step_L];exact h))
   exact h
theorem zFe (hr:PrK rx)(t:Tk):PrK (zao rx t):=by
 intro L0 st h;unfold zao;split
 . simp only;exact zy7 (by rw[St.leave_L,St.must_L];exact zBL hr L0 1300 _ (hr _ _ (by rw[St.enter_L];exact h)))
 show L0 <+: (st.fail 2 st.t.a).L;rw[St.fail_L];exact h
theorem zDx (hr:PrK rx):PrK (zdx rx):=by intro L0 st h;unfold zdx;simp only;refine zy7 ?_;rw[St.leave_L];exact hr _ _ (by rw[St.must_L];exact hr _ _ (by rw[St.must_L];exact hr _ _ (by rw[St.enter_L];exact h)))
theorem zDj:PrK zjx:=λ_ st h=>zy7 (by rw[St.step_L];exact h)
theorem zCd (ha:PrK atm):PrK (zch atm):=by
 intro L0 st h;unfold zch;split
 . exact ha _ st h
 exact zDj _ st h
theorem zEy (ha:PrK atm):PrK (zeE atm):=by intro L0 st h;unfold zeE;simp only;refine zy7 ?_;rw[St.leave_L];exact zCd ha _ _ (zCd ha _ _ (by rw[St.name_L,St.enter_L];exact h))
theorem zD9 (hr:PrK rx):PrK (zfQ rx):=by
 intro L0 st h
 show L0 <+: (((rx st.enter).1.must 4 [41]).leave).L;rw[St.leave_L,St.must_L];exact hr _ _ (by rw[St.enter_L];exact h)
theorem zAt (op:Xb)(n:Nat):PrK (zdP op n):=λ_ st h=>zy7 (by rw[St.step_L];exact h)
theorem zEX {ra:Fn}(hr:PrK rx)(ha:PrK ra):PrK (zap rx ra):=by
 intro L0 st h;unfold zap;split
 . exact h
 split
 . exact zAt zcq _ _ st h
 split
 . split
   . exact zFe hr _ _ _ (by rw[St.step_L];exact h)
   exact zDj _ st h
 split
 . exact zD9 hr _ st h
 split
 . exact zAt zcb 1 _ st h
 split
 . exact zAt zcb 0 _ st h
 split
 . exact zDx hr _ st h
 split
 . exact zEy ha _ st h
 show L0 <+: (st.fail 2 st.t.a).L;rw[St.fail_L];exact h
theorem zEN {eith:Fn}(hr:PrK rx)(he:PrK eith):PrK (zgk rx eith):=by
 intro L0 st h;unfold zgk;simp only;split
 . refine zy7 ?_;rw[St.leave_L];exact hr _ _ (by rw[St.enter_L];exact he _ st h)
 exact he _ st h
theorem zDg:∀d:Nat,PrK (lev d).ex/\PrK (lev d).un/\PrK (lev d).at'
 | 0=>⟨λ_ _ h=>h,λ_ _ h=>h,λ_ _ h=>h⟩
 | d+1=>by obtain⟨h1,h2,h3⟩:=zDg d;have ha:PrK (zap (lev d).ex (lev d).at'):=zEX h1 h3;have hu:PrK (zdn (lev d).un (zfu (zap (lev d).ex (lev d).at'))):=zEr h2 (zCR ha);exact⟨zEN h1 (zAQ (zAQ (zFn (zAQ (zAQ hu))))),hu,ha⟩
theorem PrK.ext {M:Fn}(h:PrK M):Ext M:=λst=>by obtain⟨E,hE⟩:=h st.L st (List.prefix_refl _);exact⟨E,hE.symm⟩
structure zAr (nd:Nd):Prop where
 vars:zDN nd.vars
 ar:ArL nd.exs
 eqs:∀q∈nd.eqs,zzX nd.exs q
theorem zDe (a17:ArK r17)(a18:ArK r18)(x17:Ext r17)(x18:Ext r18)(g17:zv 17 r17)(g18:zv 18 r18):∀(f p:Nat) (x:St×List Eqn),Inv p x.1->x.1.op=0->ArL x.1.L->(∀q∈x.2,zzX x.1.L q)->(zb5 r17 r18 f x).1.er=0->ArL (zb5 r17 r18 f x).1.L/\∀q∈(zb5 r17 r18 f x).2,zzX (zb5 r17 r18 f x).1.L q
 | 0,_,_,_,_,h,he,_=>⟨h,he⟩
 | f+1,p,x,hI,ho,h,he,hn=>by
   by_cases hc:x.1.t.k=2∨x.1.is 4 [40]=true
   . have e:zb5 r17 r18 (f+1) x=zb5 r17 r18 f (zF r17 r18 x.1 x.2):=(by rw[zb5,zM2 hc]);rw[e] at hn ⊢;obtain⟨gF,gO⟩:=za1 g17 g18 (eqs:=x.2) hI ho;have hI':=gF.inv;have h1:(zF r17 r18 x.1 x.2).1.er=0:=by
      by_cases h2:(zF r17 r18 x.1 x.2).1.er=0
      . exact h2
      rw[zl3 hI' h2] at hn;exact absurd hn h2
     obtain⟨k1,k2⟩:=zAZ a17 a18 x17 x18 h he h1;exact zDe a17 a18 x17 x18 g17 g18 f _ _ hI' (by rw[gO];exact ho) k1 k2 hn
   have e:zb5 r17 r18 (f+1) x=x:=(by rw[zb5,zM1 hc]);rw[e];exact⟨h,he⟩
theorem zCu (a17:ArK r17)(a18:ArK r18)(x17:Ext r17)(x18:Ext r18)(g17:zv 17 r17)(g18:zv 18 r18)(f p:Nat)(st:St)(hI:Inv p st)(ho:st.op=0)(hn:(zax r17 r18 f st).1.er=0):zAr (zax r17 r18 f st).2:=by
 have i0:=Fwd.fresh hI;have gh:=zit i0;have gv:=zeP (f:=f) (vars:=(zaI st.fresh).2) gh.1.inv;have g1:=Fwd.must gv.1.inv 4 [123];have o1:((zaS f (zaI st.fresh).1 (zaI st.fresh).2).1.must 4 [123]).op=0:=by rw[St.must_op,gv.2.1,gh.2.1];exact ho
 have L1:((zaS f (zaI st.fresh).1 (zaI st.fresh).2).1.must 4 [123]).L=[]:=by rw[St.must_L,gv.2.2,gh.2.2];rfl
 obtain⟨V,hV⟩:∃V,zaS f (zaI st.fresh).1 (zaI st.fresh).2=V:=⟨_,rfl⟩;have hvo:V.1.er=0->zDN V.2:=by rw[<- hV];exact zFZ
 rw[hV] at g1 o1 L1;have e:zax r17 r18 f st=((zdr r17 r18 f V.1).1,⟨(st.fresh.must 5 zW).t.s,(st.fresh.must 5 zW).t.a,V.2,(zdr r17 r18 f V.1).1.L,(zdr r17 r18 f V.1).2⟩):=by unfold zax;simp only;rw[hV]
 rw[e] at hn ⊢;have h2:(zb5 r17 r18 f (zF r17 r18 (V.1.must 4 [123]) [])).1.er=0:=(zbu.must _ 4 [125]).back hn;obtain⟨gF,gO⟩:=za1 g17 g18 (eqs:=[]) g1.inv o1;have h3:(zF r17 r18 (V.1.must 4 [123]) []).1.er=0:=by
  by_cases h4:(zF r17 r18 (V.1.must 4 [123]) []).1.er=0
  . exact h4
  rw[zl3 gF.inv h4] at h2;exact absurd h2 h4
 have h5:V.1.er=0:=(zbu.must _ 4 [123]).back ((zbu.equation g18 g1.inv o1 []).back h3);obtain⟨k1,k2⟩:=zAZ a17 a18 x17 x18 (eqs:=[]) (by rw[L1];intro e he;cases he) (λq hq=>by cases hq) h3;obtain⟨m1,m2⟩:=zDe a17 a18 x17 x18 g17 g18 f _ _ gF.inv (by rw[gO];exact o1) k1 k2 h2;have eL:(zdr r17 r18 f V.1).1.L=(zb5 r17 r18 f (zF r17 r18 (V.1.must 4 [123]) [])).1.L:=St.must_L _ _ _;refine⟨hvo h5,?_,?_⟩
 . show ArL (zdr r17 r18 f V.1).1.L;rw[eL];exact m1
 intro q hq
 show zzX (zdr r17 r18 f V.1).1.L q;rw[eL];exact m2 q hq
theorem zzR (g17:zv 17 r17)(g18:zv 18 r18)(f p:Nat)(st:St)(hI:Inv p st)(ho:st.op=0):Inv 0 (zax r17 r18 f st).1/\(zax r17 r18 f st).1.op=0:=by
 have i0:=Fwd.fresh hI;have gh:=zit i0;have gv:=zeP (f:=f) (vars:=(zaI st.fresh).2) gh.1.inv;have g1:=Fwd.must gv.1.inv 4 [123];have o1:((zaS f (zaI st.fresh).1 (zaI st.fresh).2).1.must 4 [123]).op=0:=by rw[St.must_op,gv.2.1,gh.2.1];exact ho
 obtain⟨gF,gO⟩:=za1 g17 g18 (eqs:=[]) g1.inv o1;have gE:=zfZ g17 g18 f _ (zF r17 r18 ((zaS f (zaI st.fresh).1 (zaI st.fresh).2).1.must 4 [123]) []) gF.inv (by rw[gO];exact o1);have gM:=Fwd.must gE.1.inv 4 [125];exact⟨gM.inv,by show (St.must _ 4 [125]).op=0;rw[St.must_op];exact gE.2⟩
theorem zBM (a17:ArK r17)(a18:ArK r18)(x17:Ext r17)(x18:Ext r18)(g17:zv 17 r17)(g18:zv 18 r18)(g:Nat):∀(f p:Nat) (x:St×List Nd),Inv p x.1->x.1.op=0->(∀nd∈x.2,zAr nd)->(zdZ r17 r18 g f x).1.er=0->(∀nd∈(zdZ r17 r18 g f x).2,zAr nd)
 | 0,_,_,_,_,h,_=>h
 | f+1,p,x,hI,ho,h,hn=>by
   by_cases hc:x.1.is 5 zW=true/\x.2.length<6
   . have e:zdZ r17 r18 g (f+1) x=zdZ r17 r18 g f ((zax r17 r18 g x.1).1,x.2++[(zax r17 r18 g x.1).2]):=(by rw[zdZ,zM2 hc]);rw[e] at hn ⊢;obtain⟨i1,o1⟩:=zzR g17 g18 g p x.1 hI ho;have h1:(zax r17 r18 g x.1).1.er=0:=by
      by_cases h2:(zax r17 r18 g x.1).1.er=0
      . exact h2
      rw[zze i1 h2] at hn;exact absurd hn h2
     refine zBM a17 a18 x17 x18 g17 g18 g f 0 _ i1 o1 (λnd hnd=>?_) hn;rcases zMY.1 hnd with hnd|hnd
     . exact h nd hnd
     rw[zMZ.1 hnd];exact zCu a17 a18 x17 x18 g17 g18 g p x.1 hI ho h1
   have e:zdZ r17 r18 g (f+1) x=x:=(by rw[zdZ,zM1 hc]);rw[e];exact h
theorem zCh (a17:ArK r17)(a18:ArK r18)(x17:Ext r17)(x18:Ext r18)(g17:zv 17 r17)(g18:zv 18 r18)(g:Nat)(s:Xb)(hI:Inv 0 (⟨s,zZ s 0,0,0,0,[]⟩:St))(hn:(zgo r17 r18 g s).1.er=0):∀nd∈(zgo r17 r18 g s).2,zAr nd:=by
 have h1:(zdZ r17 r18 g g ((zax r17 r18 g ⟨s,zZ s 0,0,0,0,[]⟩).1,[(zax r17 r18 g ⟨s,zZ s 0,0,0,0,[]⟩).2])).1.er=0:=(zzQ _).back hn;obtain⟨i1,o1⟩:=zzR g17 g18 g 0 ⟨s,zZ s 0,0,0,0,[]⟩ hI rfl;have h2:(zax r17 r18 g ⟨s,zZ s 0,0,0,0,[]⟩).1.er=0:=by
  by_cases h3:(zax r17 r18 g ⟨s,zZ s 0,0,0,0,[]⟩).1.er=0
  . exact h3
  rw[zze i1 h3] at h1;exact absurd h1 h3
 refine zBM a17 a18 x17 x18 g17 g18 g g 0 _ i1 o1 (λnd hnd=>?_) h1;rw[zMZ.1 hnd];exact zCu a17 a18 x17 x18 g17 g18 g 0 _ hI rfl h2
end
section
open Go.RowKit
variable {cells slots st st':List Int} {xs:Xm} {B b1 b2 cap cb g mb n:Nat} {e:Xy} {sv sv':Xv} {w:Xw}
theorem Tryz.infoI64:(prog.info? 2).map (λi=>(i.zero,i.size,i.bytes))=some (some (xI 0),1,8):=by kernel_rfl
def zK (l:List Int):List Value:=l.map (.int .i64)
theorem zbS (l:List Int):(zK l).length=l.length:=by simp[zK]
structure MB (w:Xw) (mb cb b1 b2 B:Nat) (sv:Xv) (cells slots st:List Int):Prop where
 blk:xH w mb #[xP cb,xS b1 cells.length cells.length,xS b2 slots.length slots.length,sv] 114
 ce:w.heap[b1]?=some (.cells (zK cells).toArray 2 (0,0))
 sl:w.heap[b2]?=some (.cells (zK slots).toArray 2 (0,0))
 own:w.ownsRow B 2 1 sv st.length (zK st.reverse)
 ne1:mb≠b1
 ne2:mb≠b2
 ne3:b1≠b2
 sm:¬sv.ownBlock=some mb
 s1:¬sv.ownBlock=some b1
 s2:¬sv.ownBlock=some b2
 hB:B<=w.heap.size
structure MFr (mb b1 b2:Nat) (w:Xw) (sv:Xv) (w':Xw) (sv':Xv):Prop where
 fr:Fr (λj=>j=mb∨j=b1∨j=b2∨sv.ownBlock=some j) w w'
 new:∀j,sv'.ownBlock=some j->sv.ownBlock=some j∨w.heap.size<=j
theorem MFr.refl (mb b1 b2:Nat)(w:Xw)(sv:Xv):MFr mb b1 b2 w sv w sv:=⟨Fr.refl _ w,λ_ h=>zM3 h⟩
theorem MFr.trans {w1 w2:Xw}{s1 s2:Xv}(h:MFr mb b1 b2 w sv w1 s1)(k:MFr mb b1 b2 w1 s1 w2 s2):MFr mb b1 b2 w sv w2 s2:=by
 have hz:=h.fr.size;refine⟨h.fr.trans' k.fr (λi hi hs=>?_),λj hj=>?_⟩
 . rcases hs with hs|hs|hs|hs
   . exact zM3 hs
   . exact zM4 (zM3 hs)
   . exact zM4 (zM4 (zM3 hs))
   rcases h.new i hs with h'|h'
   . exact zM4 (zM4 (zM4 h'))
   omega
 rcases k.new j hj with h'|h'
 . exact h.new j h'
 right;omega
theorem zhv (h:w.ownsRow B e 1 (xS g n cap) n xs){j:Nat}{u:Xv}(hj:xs[j]?=some u):xC w g j u:=by
 have:=h.cells (g:=g) rfl j u hj;have e0:((xD g 0):Addr).add j=⟨g,j,none⟩:=by cases j <;> simp[Addr.add]
 rwa [e0] at this
theorem znx {v:Xv}(h:w.ownsRow B e 1 (xS g (n+1) cap) (n+1) (xs++[v])):w.ownsRow B e 1 (xS g n cap) n xs:=by
 obtain⟨h1,h2⟩:=h;have hx:xs.length=n:=by simpa using h1
 refine⟨by simpa using hx,?_⟩;rcases h2 with ⟨h2,_⟩|⟨g',cap',cur,hv,hg,hh,h3,h4,h5,h6⟩
 . cases h2
 cases hv;refine zM4 ⟨g,cap,cur,rfl,hg,hh,by omega,h4,h5,?_⟩;have:=congrArg (List.take n) h6;rw[List.take_take,List.take_append_of_le_length (by omega),zMU (by omega:xs.length<=n)] at this;simpa [Nat.min_eq_left (by omega:n<=(n+1)*1)] using this
theorem zp8 (h:w.ownsRow B e 1 (xS g n cap) n xs):n<=cap/\cap<=9223372036854775807:=by
 rcases h.2 with ⟨h2,_⟩|⟨g',cap',cur,hv,hg,hh,h3,h4,h5,h6⟩
 . cases h2
 cases hv;unfold maxLen at h4;exact⟨h3,by omega⟩
theorem MB.stack (h:MB w mb cb b1 b2 B sv cells slots st)(ho:w.ownsRow B 2 1 sv' st'.length (zK st'.reverse))(hn:∀j,sv'.ownBlock=some j->sv.ownBlock=some j∨(j≠mb/\j≠b1/\j≠b2)):MB (w.setCell (xD mb 3) sv') mb cb b1 b2 B sv' cells slots st':=by
 have hm:¬sv'.ownBlock=some mb:=λe=>by rcases hn _ e with e|e;exact h.sm e;exact e.1 rfl
 refine⟨zh _ _ _ _ h.blk,(zr (λe=>h.ne1 e.symm) rfl).trans h.ce,(zr (λe=>h.ne2 e.symm) rfl).trans h.sl,zi ho (λj _ _ e=>zr (λe'=>hm (e'▸e)) rfl),h.ne1,h.ne2,h.ne3,hm,λe=>?_,λe=>?_,by simpa [World.setCell] using h.hB⟩
 . rcases hn _ e with e|e
   . exact h.s1 e
   exact e.2.1 rfl
 rcases hn _ e with e|e
 . exact h.s2 e
 exact e.2.2 rfl
theorem za6 (mb cb b1 b2 B:Nat)(sv:Xv)(cells slots st:List Int)(v:Int)(w:Xw)(HM:MB w mb cb b1 b2 B sv cells slots (v::st))(hm:st.length+1<=9223372036854775807) :
 xK 74 #[xP mb] w (λe w'=>e=.returned (xI v)/\∃sv',MB w' mb cb b1 b2 B sv' cells slots st/\MFr mb b1 b2 w sv w' sv'):=by
 obtain⟨h0,h1,h2,h3,hf,hz⟩:=zU HM.blk;have HO:=HM.own;obtain⟨g,cap,hv,hg⟩:=zM HO (by simp);subst hv;simp only[zMR,List.reverse_cons,zK,List.map_append,List.map_cons,List.map_nil] at HO;have hc:xC w g st.length (xI v):=zhv HO (by simp);rw[zMR] at h3;have hcap:=(zp8 HO).1;go_enter func74,ntmps74;go_wp2_with fail;go_ret;refine⟨rfl,_,HM.stack (znx HO) (λj e=>zM3 e),?_,λj e=>zM3 e⟩;exact (Fr.refl _ w).setCell (zM3 (zM3 rfl)) _
theorem MB.fr {w':Xw}(h:MB w mb cb b1 b2 B sv cells slots st)(hk:∀k,k<w.heap.size->w'.heap[k]?=w.heap[k]?)(hz:w.heap.size<=w'.heap.size):MB w' mb cb b1 b2 B sv cells slots st :=
 ⟨(hk _ (ze h.blk)).trans h.blk,(hk _ (ze h.ce)).trans h.ce,(hk _ (ze h.sl)).trans h.sl,zi h.own (λk _ hk' _=>hk k hk'),h.ne1,h.ne2,h.ne3,h.sm,h.s1,h.s2,zMO h.hB hz⟩
theorem MB.alloc (h:MB w mb cb b1 b2 B sv cells slots st)(o:Obj):MB (w.alloc o) mb cb b1 b2 B sv cells slots st :=
 h.fr (λk hk=>zWP _ _ _ hk) (by simp)
theorem zfs {l:List Int}:∀u∈zK l,u.oneCell'=true:=by intro u hu;obtain⟨s,_,rfl⟩:=List.mem_map.1 hu;rfl
theorem MB.grown {w9:Xw}(h:MB w mb cb b1 b2 B sv cells slots st)(hF:Fr (λk=>sv.ownBlock=some k) w w9)(ho:w9.ownsRow B 2 1 sv' st'.length (zK st'.reverse))(hn:∀j,sv'.ownBlock=some j->sv.ownBlock=some j∨w.heap.size<=j):MB (w9.setCell (xD mb 3) sv') mb cb b1 b2 B sv' cells slots st':=by
 have l0:=ze h.blk;have l1:=ze h.ce;have l2:=ze h.sl;have hm:¬sv'.ownBlock=some mb:=λe=>by rcases hn _ e with e|e;exact h.sm e;omega
 refine⟨zh _ _ _ _ ((hF.block mb l0 h.sm).trans h.blk),(zr (λe=>h.ne1 e.symm) rfl).trans ((hF.block b1 l1 h.s1).trans h.ce),(zr (λe=>h.ne2 e.symm) rfl).trans ((hF.block b2 l2 h.s2).trans h.sl),zi ho (λj _ _ e=>zr (λe'=>hm (e'▸e)) rfl),h.ne1,h.ne2,h.ne3,hm,λe=>?_,λe=>?_,by simpa [World.setCell] using zMO h.hB hF.size⟩
 . rcases hn _ e with e|e
   . exact h.s1 e
   omega
 rcases hn _ e with e|e
 . exact h.s2 e
 omega
theorem zcH (mb cb b1 b2 B:Nat)(sv:Xv)(cells slots st:List Int)(v:Int)(w:Xw)(HM:MB w mb cb b1 b2 B sv cells slots st)(hm:st.length+1<=10000000) :
 xK 73 #[xP mb,xI v] w (λe w'=>e=.returned (.tuple #[])/\∃sv',MB w' mb cb b1 b2 B sv' cells slots (v::st)/\MFr mb b1 b2 w sv w' sv'):=by
 obtain⟨h0,h1,h2,h3,hf,hz⟩:=zU HM.blk;obtain⟨i0,hi,hi0,hi1,hi2⟩:=info_parts Tryz.infoI64;have mx:st.length+1<=maxLen:=by unfold maxLen;omega
 have by':(st.length+1)*8<=140737488355328:=by omega
 have HB:=HM.hB;go_enter func73,ntmps73;go_wp2_with (at_builtin;refine zbz _ rfl (.tmp 8) (.tmp 10) 22 rfl B 2 i0 _ 1 8 underlying22 hi hi0 hi1 hi2 rfl (by decide) sv st.length (zK st.reverse) rfl (HM.alloc _).own (xD w.heap.size 0) 1 1 (zK [v]) rfl rfl (zN (zc w _) rfl) zfs mx by' (by rw[zsb];exact Nat.le_succ_of_le HB) ?_;intro v' w9 Hown9 hgrow Hnew9;have HF9:=Fr.of_grown hgrow;have hb9:=(HF9.block mb (by rw[zsb];omega) (HM.sm)).trans (HM.alloc _).blk;obtain⟨m0,m1,m2,m3,mf,mz⟩:=zU hb9;obtain⟨x9,cp9,rfl⟩:=zbP Hown9;clear hgrow hb9);go_end0;refine⟨rfl,_,(HM.alloc _).grown HF9 (by simpa [zK] using Hown9) (λj e=>Hnew9 j e),?_,λj e=>?_⟩
 . refine Fr.setCell ?_ (zM3 (zM3 rfl)) _;exact ((Fr.refl _ w).alloc _).trans' HF9 (λi _ HM=>zM4 (zM4 (zM4 HM)))
 rcases Hnew9 j e with e|e
 . exact zM3 e
 right;rw[zsb] at e;omega
end
section
open Go.RowKit
def pk (a b c:Int):Int:=if a=0 then c else b
theorem zdy (a b c:Int)(w:Xw):xK 75 #[xI a,xI b,xI c] w (λe w'=>e=.returned (xI (pk a b c))/\w=w'):=by
 by_cases h:a=0
 . subst h;go_enter func75,ntmps75;go_wp2_with fail;go_ret;exact⟨rfl,rfl⟩
 have h':(a==0)=false:=by simpa using h
 have h'':(a != 0)=true:=by simpa using h
 rw[show pk a b c=b from zM1 h];clear h;go_enter func75,ntmps75;go_wp2_with fail;go_ret;exact⟨rfl,rfl⟩
def tru (b:Bool):Int:=if b then 1 else 0
theorem zdV (b:Bool)(w:Xw):xK 76 #[.bool b] w (λe w'=>e=.returned (xI (tru b))/\w=w'):=by
 cases b
 all_goals
  go_enter func76,ntmps76;go_wp2_with fail;go_ret;exact⟨rfl,rfl⟩
def opR (op:Nat)(a b:Int):Int :=
 if op=9 then bits .and .i64 a b else if op=10 then bits .or .i64 a b else if op=11 then bits .xor .i64 a b
 else if op=12 then tru (a==b) else if op=13 then tru (a != b) else if op=14 then tru (decide (a<b)) else if op=15 then tru (decide (a<=b))
 else if op=16 then wrap64 (a+b) else if op=17 then wrap64 (a-b) else if op=18 then wrap64 (a*b)
 else if b=0 then 0 else if op=19 then wrap64 (a.tdiv b) else a.tmod b
theorem zg4 (op:Nat)(h:op=19∨op=20)(a b:Int)(w:Xw):xK 122 #[.int .u8 op,xI a,xI b] w (λe w'=>e=.returned (xI (opR op a b))/\w=w'):=by
 by_cases hb:b=0
 . subst hb;have he:opR op a 0=0:=by rcases h with rfl|rfl <;> simp[opR]
   rw[he];clear h he;go_enter func122,ntmps122;go_wp2_with fail;go_ret;exact⟨rfl,rfl⟩
 have hb':(b==0)=false:=by simpa using hb
 rcases h with rfl|rfl
 . have HE:Hid (opR 19 a b=wrap64 (a.tdiv b)):=by unfold Hid;simp[opR,hb]
   go_enter func122,ntmps122;go_wp2_with fail;go_ret;exact⟨by rw[HE.o];rfl,rfl⟩
 have HE:Hid (opR 20 a b=a.tmod b):=by unfold Hid;simp[opR,hb]
 go_enter func122,ntmps122;go_wp2_with fail;go_ret;exact⟨by rw[HE.o];rfl,rfl⟩
theorem zpO (a b:Int)(w:Xw):xK 77 #[.int .u8 9,xI a,xI b] w (λe w'=>e=.returned (xI (opR 9 a b))/\w=w'):=by go_enter func77,ntmps77;go_wp2_with fail;go_ret;exact⟨rfl,rfl⟩
theorem zns (a b:Int)(w:Xw):xK 77 #[.int .u8 10,xI a,xI b] w (λe w'=>e=.returned (xI (opR 10 a b))/\w=w'):=by go_enter func77,ntmps77;go_wp2_with fail;go_ret;exact⟨rfl,rfl⟩
theorem zn0 (a b:Int)(w:Xw):xK 77 #[.int .u8 11,xI a,xI b] w (λe w'=>e=.returned (xI (opR 11 a b))/\w=w'):=by go_enter func77,ntmps77;go_wp2_with fail;go_ret;exact⟨rfl,rfl⟩
theorem zoQ (a b:Int)(w:Xw):xK 77 #[.int .u8 12,xI a,xI b] w (λe w'=>e=.returned (xI (opR 12 a b))/\w=w'):=by go_enter func77,ntmps77;go_wp2_with (go_at_call 76;refine (zdV _ _).mono ?_;rintro e w1 ⟨rfl,rfl⟩);go_ret;exact⟨rfl,rfl⟩
theorem zoc (a b:Int)(w:Xw):xK 77 #[.int .u8 13,xI a,xI b] w (λe w'=>e=.returned (xI (opR 13 a b))/\w=w'):=by go_enter func77,ntmps77;go_wp2_with (go_at_call 76;refine (zdV _ _).mono ?_;rintro e w1 ⟨rfl,rfl⟩);go_ret;exact⟨rfl,rfl⟩
theorem znv (a b:Int)(w:Xw):xK 77 #[.int .u8 14,xI a,xI b] w (λe w'=>e=.returned (xI (opR 14 a b))/\w=w'):=by go_enter func77,ntmps77;go_wp2_with (go_at_call 76;refine (zdV _ _).mono ?_;rintro e w1 ⟨rfl,rfl⟩);go_ret;exact⟨rfl,rfl⟩
theorem znO (a b:Int)(w:Xw):xK 77 #[.int .u8 15,xI a,xI b] w (λe w'=>e=.returned (xI (opR 15 a b))/\w=w'):=by go_enter func77,ntmps77;go_wp2_with (go_at_call 76;refine (zdV _ _).mono ?_;rintro e w1 ⟨rfl,rfl⟩);go_ret;exact⟨rfl,rfl⟩
theorem zoL (a b:Int)(w:Xw):xK 77 #[.int .u8 16,xI a,xI b] w (λe w'=>e=.returned (xI (opR 16 a b))/\w=w'):=by go_enter func77,ntmps77;go_wp2_with fail;go_ret;exact⟨rfl,rfl⟩
theorem znJ (a b:Int)(w:Xw):xK 77 #[.int .u8 17,xI a,xI b] w (λe w'=>e=.returned (xI (opR 17 a b))/\w=w'):=by go_enter func77,ntmps77;go_wp2_with fail;go_ret;exact⟨rfl,rfl⟩
theorem zoB (a b:Int)(w:Xw):xK 77 #[.int .u8 18,xI a,xI b] w (λe w'=>e=.returned (xI (opR 18 a b))/\w=w'):=by go_enter func77,ntmps77;go_wp2_with fail;go_ret;exact⟨rfl,rfl⟩
theorem zob (a b:Int)(w:Xw):xK 77 #[.int .u8 19,xI a,xI b] w (λe w'=>e=.returned (xI (opR 19 a b))/\w=w'):=by go_enter func77,ntmps77;go_wp2_with (go_at_call 122;refine (zg4 19 (by decide) a b _).mono ?_;rintro e w1 ⟨rfl,rfl⟩);go_ret;exact⟨rfl,rfl⟩
theorem zoi (a b:Int)(w:Xw):xK 77 #[.int .u8 20,xI a,xI b] w (λe w'=>e=.returned (xI (opR 20 a b))/\w=w'):=by go_enter func77,ntmps77;go_wp2_with (go_at_call 122;refine (zg4 20 (by decide) a b _).mono ?_;rintro e w1 ⟨rfl,rfl⟩);go_ret;exact⟨rfl,rfl⟩
theorem zlh (op:Nat)(h1:9<=op)(h2:op<=20)(a b:Int)(w:Xw):xK 77 #[.int .u8 op,xI a,xI b] w (λe w'=>e=.returned (xI (opR op a b))/\w=w'):=by
 match op,h1,h2 with
 | 9,_,_=>exact zpO a b w
 | 10,_,_=>exact zns a b w
 | 11,_,_=>exact zn0 a b w
 | 12,_,_=>exact zoQ a b w
 | 13,_,_=>exact zoc a b w
 | 14,_,_=>exact znv a b w
 | 15,_,_=>exact znO a b w
 | 16,_,_=>exact zoL a b w
 | 17,_,_=>exact znJ a b w
 | 18,_,_=>exact zoB a b w
 | 19,_,_=>exact zob a b w
 | 20,_,_=>exact zoi a b w
 | n+21,_,h=>omega
end
section
open Go.RowKit
variable {cells slots st:List Int} {B b b1 b2 cb mb:Nat} {o:Obj} {e:Xy} {sv sv':Xv} {w w':Xw}
theorem zbT {l:List Int}(h:w.heap[b]?=some (.cells (zK l).toArray e (0,0))){k:Nat}{v:Int}(hk:l[k]?=some v):w.cell? (xD b k)=some (xI v):=by simp[World.cell?,h,zK,hk]
theorem zai {l:Xa}(h:w.heap[b]?=some (.cells l e (0,0)))(k:Nat):w.frozen? (xD b k)=false:=by simp[World.frozen?,h]
def zcM (mb cb b1 b2 B:Nat)(w:Xw)(sv:Xv)(cells slots st:List Int)(e:Ending)(w':Xw):Prop :=
 e=.returned (.tuple #[])/\∃sv',MB w' mb cb b1 b2 B sv' cells slots st/\MFr mb b1 b2 w sv w' sv'
theorem MFr.ofAlloc (h:MFr mb b1 b2 (w.alloc o) sv w' sv'):MFr mb b1 b2 w sv w' sv' :=
 MFr.trans (⟨(Fr.refl _ w).alloc o,λ_ h=>zM3 h⟩:MFr mb b1 b2 w sv (w.alloc o) sv) h
theorem MFr.undrew (h:MFr mb b1 b2 w.drew sv w' sv'):MFr mb b1 b2 w sv w' sv':=⟨h.fr.undrew,h.new⟩
theorem MB.drew (h:MB w mb cb b1 b2 B sv cells slots st):MB w.drew mb cb b1 b2 B sv cells slots st:=h.fr (λ_ _=>rfl) (zMK _)
theorem zi5 (l:List Int)(k:Nat)(v:Int):(zK l).toArray.setIfInBounds k (xI v)=(zK (l.set k v)).toArray:=by simp[zK]
theorem MB.slot (h:MB w mb cb b1 b2 B sv cells slots st)(k:Nat)(v:Int):MB (w.setCell (xD b2 k) (xI v)) mb cb b1 b2 B sv cells (slots.set k v) st:=by
 refine⟨?_,(zr h.ne3 rfl).trans h.ce,?_,zi h.own (λj _ _ e=>zr (λe'=>h.s2 (e'▸e)) rfl),h.ne1,h.ne2,h.ne3,h.sm,h.s1,h.s2,by simpa [World.setCell] using h.hB⟩
 . rw[List.length_set];exact (zr h.ne2 rfl).trans h.blk
 rw[<- zi5];exact zh _ _ _ _ h.sl
theorem MB.cell (h:MB w mb cb b1 b2 B sv cells slots st)(k:Nat)(v:Int):MB (w.setCell (xD b1 k) (xI v)) mb cb b1 b2 B sv (cells.set k v) slots st:=by
 refine⟨?_,?_,(zr (λe=>h.ne3 e.symm) rfl).trans h.sl,zi h.own (λj _ _ e=>zr (λe'=>h.s1 (e'▸e)) rfl),h.ne1,h.ne2,h.ne3,h.sm,h.s1,h.s2,by simpa [World.setCell] using h.hB⟩
 . rw[List.length_set];exact (zr h.ne1 rfl).trans h.blk
 rw[<- zi5];exact zh _ _ _ _ h.ce
theorem MFr.slot (h:MFr mb b1 b2 w sv w' sv')(k:Nat)(v:Xv):MFr mb b1 b2 w sv (w'.setCell (xD b2 k) v) sv':=⟨h.fr.setCell (zM3 (zM4 (zM4 (zM3 rfl)))) v,h.new⟩
theorem MFr.cell (h:MFr mb b1 b2 w sv w' sv')(k:Nat)(v:Xv):MFr mb b1 b2 w sv (w'.setCell (xD b1 k) v) sv':=⟨h.fr.setCell (zM3 (zM4 (zM3 rfl))) v,h.new⟩
theorem MB.lt (h:MB w mb cb b1 b2 B sv cells slots st):mb<w.heap.size/\b1<w.heap.size/\b2<w.heap.size/\∀j,sv.ownBlock=some j->j<w.heap.size :=
 ⟨ze h.blk,ze h.ce,ze h.sl,λj e=>(h.own.lt j e).2⟩
theorem MB.box {w1:Xw}{sv1:Xv}(h:MB w mb cb b1 b2 B sv cells slots st)(hF:MFr mb b1 b2 (w.alloc o) sv w1 sv1):w1.heap[w.heap.size]?=some o:=by
 obtain⟨l1,l2,l3,l4⟩:=h.lt;refine (hF.fr.block w.heap.size (by simp) (λe=>?_)).trans (zc w o);rcases e with e|e|e|e
 . omega
 . omega
 . omega
 have:=l4 _ e;omega
theorem zq8:zH 74:=λ_ _=>by kernel_rfl
theorem zhZ:zH 73:=λ_ _=>by kernel_rfl
theorem zpc:zH 75:=λ_ _=>by kernel_rfl
theorem zqa (mb cb b1 b2 B:Nat)(sv:Xv)(cells slots st:List Int)(x:Int)(w:Xw)(HM:MB w mb cb b1 b2 B sv cells slots st)(hm:st.length+1<=10000000) :
 xK 39 #[xP mb,.agg #[.int .u8 0,xI x]] w (zcM mb cb b1 b2 B w sv cells slots (x::st)):=by
 go_enter func39,ntmps39;go_wp2_with (go_at_call 73;refine (zcH mb cb b1 b2 B sv cells slots st x _ (HM.alloc _) hm).mono ?_;rintro e w1 ⟨rfl,sv1,HM1,HF1⟩);go_end0;exact⟨rfl,_,HM1,HF1.ofAlloc⟩
theorem zp5 (mb cb b1 b2 B:Nat)(sv:Xv)(cells slots st:List Int)(k:Nat)(v:Int)(w:Xw)(HM:MB w mb cb b1 b2 B sv cells slots (v::st))(hk:k<slots.length)(hm:st.length+1<=10000000) :
 xK 39 #[xP mb,.agg #[.int .u8 2,xI k]] w (zcM mb cb b1 b2 B w sv cells (slots.set k v) st):=by
 obtain⟨h0,h1,h2,h3,hf,hz⟩:=zU HM.blk;go_enter func39,ntmps39;go_upto_region 9 with fail;have HMa:∀o,Hid (MB (w.alloc o).drew mb cb b1 b2 B sv cells slots (v::st)):=λo=>(HM.alloc o).drew;obtain⟨sk,Hsk⟩:∃sk,slots[k]?=some sk:=⟨_,zsc hk⟩;go_region_law (refine zbL rfl 74 (.tmp 50) 51 rfl zq8 (xP mb) rfl (za6 mb cb b1 b2 B sv cells slots st v _ (HMa _).out (by omega)) ?_;rintro e w1 ⟨rfl,sv1,HM1,HF1⟩;refine⟨_,rfl,?_⟩;obtain⟨q0,q1,q2,q3,qf,qz⟩:=zU HM1.blk;obtain⟨u0,u1,uf,uz⟩:=zp (HM.box HF1.undrew);have t0:=zai HM1.sl;have t1:=zbT HM1.sl Hsk);all_goals go_wp2_with fail
 all_goals go_end0
 all_goals exact⟨rfl,_,HM1.slot k v,(HF1.slot k _).undrew.ofAlloc⟩
end
section
open Go.RowKit
theorem zpi (mb cb b1 b2 B:Nat)(sv:Xv)(cells slots st:List Int)(v x:Int)(w:Xw)(h:MB w mb cb b1 b2 B sv cells slots (v::st))(hm:st.length+10<=10000000) :
 xK 39 #[xP mb,.agg #[.int .u8 7,xI x]] w (zcM mb cb b1 b2 B w sv cells slots (wrap64 (-v)::st)):=by
 have HM:=za h;obtain⟨h0,h1,h2,h3,hf,hz⟩:=zU h.blk;obtain⟨_,hl1,hl2,_⟩:=h.lt;go_enter func39,ntmps39;go_wp2_with (first|(go_at_call 73;refine (zcH mb cb b1 b2 B sv1 cells slots (st) (_) _ HM1.o (by simp;omega)).mono ?_;rintro e w2 ⟨rfl,sv2,hM,hF⟩;obtain⟨p2,q2,r2,s2,f2,z2⟩:=zU hM.blk;have HF2:=za (HF1.o.trans hF);have HG2:=za (HG1.o.trans hF);obtain⟨u2,v2,y2,x2⟩:=zp (HM.o.box HG2.o);have HM2:=za hM)|(go_at_call 74;refine (za6 mb cb b1 b2 B sv cells slots (st) v _ (HM.o.alloc _) (by simp;omega)).mono ?_;rintro e w1 ⟨rfl,sv1,hM,hF⟩;obtain⟨p1,q1,r1,s1,f1,z1⟩:=zU hM.blk;have HF1:=za hF.ofAlloc;have HG1:=za hF;obtain⟨u1,v1,y1,x1⟩:=zp (HM.o.box HG1.o);have HM1:=za hM));go_end0;exact⟨rfl,_,HM2.o,HF2.o⟩
theorem zpV (mb cb b1 b2 B:Nat)(sv:Xv)(cells slots st:List Int)(v x:Int)(w:Xw)(h:MB w mb cb b1 b2 B sv cells slots (v::st))(hm:st.length+10<=10000000) :
 xK 39 #[xP mb,.agg #[.int .u8 8,xI x]] w (zcM mb cb b1 b2 B w sv cells slots (tru (v==0)::st)):=by
 have HM:=za h;obtain⟨h0,h1,h2,h3,hf,hz⟩:=zU h.blk;obtain⟨_,hl1,hl2,_⟩:=h.lt;go_enter func39,ntmps39;go_wp2_with (first|(go_at_call 73;refine (zcH mb cb b1 b2 B sv1 cells slots (st) (_) _ HM1.o (by simp;omega)).mono ?_;rintro e w2 ⟨rfl,sv2,hM,hF⟩;obtain⟨p2,q2,r2,s2,f2,z2⟩:=zU hM.blk;have HF2:=za (HF1.o.trans hF);have HG2:=za (HG1.o.trans hF);obtain⟨u2,v2,y2,x2⟩:=zp (HM.o.box HG2.o);have HM2:=za hM)|(go_at_call 76;refine (zdV _ _).mono ?_;rintro e w9 ⟨rfl,rfl⟩)|(go_at_call 74;refine (za6 mb cb b1 b2 B sv cells slots (st) v _ (HM.o.alloc _) (by simp;omega)).mono ?_;rintro e w1 ⟨rfl,sv1,hM,hF⟩;obtain⟨p1,q1,r1,s1,f1,z1⟩:=zU hM.blk;have HF1:=za hF.ofAlloc;have HG1:=za hF;obtain⟨u1,v1,y1,x1⟩:=zp (HM.o.box HG1.o);have HM1:=za hM));go_end0;exact⟨rfl,_,HM2.o,HF2.o⟩
theorem zpM (mb cb b1 b2 B:Nat)(sv:Xv)(cells slots st:List Int)(no yes c x:Int)(w:Xw)(h:MB w mb cb b1 b2 B sv cells slots (no::yes::c::st))(hm:st.length+10<=10000000) :
 xK 39 #[xP mb,.agg #[.int .u8 5,xI x]] w (zcM mb cb b1 b2 B w sv cells slots ((pk c yes no)::st)):=by
 have HM:=za h;obtain⟨h0,h1,h2,h3,hf,hz⟩:=zU h.blk;obtain⟨_,hl1,hl2,_⟩:=h.lt;go_enter func39,ntmps39;go_wp2_with (first|(go_at_call 73;refine (zcH mb cb b1 b2 B sv3 cells slots (st) (_) _ HM3.o (by simp;omega)).mono ?_;rintro e w4 ⟨rfl,sv4,hM,hF⟩;obtain⟨p4,q4,r4,s4,f4,z4⟩:=zU hM.blk;have HF4:=za (HF3.o.trans hF);have HG4:=za (HG3.o.trans hF);obtain⟨u4,v4,y4,x4⟩:=zp (HM.o.box HG4.o);have HM4:=za hM)|(go_at_call 74;refine (za6 mb cb b1 b2 B sv2 cells slots (st) c _ HM2.o (by simp;omega)).mono ?_;rintro e w3 ⟨rfl,sv3,hM,hF⟩;obtain⟨p3,q3,r3,s3,f3,z3⟩:=zU hM.blk;have HF3:=za (HF2.o.trans hF);have HG3:=za (HG2.o.trans hF);obtain⟨u3,v3,y3,x3⟩:=zp (HM.o.box HG3.o);have HM3:=za hM)|(go_at_call 74;refine (za6 mb cb b1 b2 B sv1 cells slots (c::st) yes _ HM1.o (by simp;omega)).mono ?_;rintro e w2 ⟨rfl,sv2,hM,hF⟩;obtain⟨p2,q2,r2,s2,f2,z2⟩:=zU hM.blk;have HF2:=za (HF1.o.trans hF);have HG2:=za (HG1.o.trans hF);obtain⟨u2,v2,y2,x2⟩:=zp (HM.o.box HG2.o);have HM2:=za hM)|(go_at_call 75;refine (zdy _ _ _ _).mono ?_;rintro e w9 ⟨rfl,rfl⟩)|(go_at_call 74;refine (za6 mb cb b1 b2 B sv cells slots (yes::c::st) no _ (HM.o.alloc _) (by simp;omega)).mono ?_;rintro e w1 ⟨rfl,sv1,hM,hF⟩;obtain⟨p1,q1,r1,s1,f1,z1⟩:=zU hM.blk;have HF1:=za hF.ofAlloc;have HG1:=za hF;obtain⟨u1,v1,y1,x1⟩:=zp (HM.o.box HG1.o);have HM1:=za hM));go_end0;exact⟨rfl,_,HM4.o,HF4.o⟩
theorem zpk (mb cb b1 b2 B:Nat)(sv:Xv)(cells slots st:List Int)(k:Nat)(v:Int)(hk:slots[k]?=some v)(w:Xw)(HM:MB w mb cb b1 b2 B sv cells slots (st))(hm:st.length+10<=10000000) :
 xK 39 #[xP mb,.agg #[.int .u8 1,xI k]] w (zcM mb cb b1 b2 B w sv cells slots (v::st)):=by
 obtain⟨h0,h1,h2,h3,hf,hz⟩:=zU HM.blk;obtain⟨_,hl1,hl2,_⟩:=HM.lt;have t1:=zbT HM.sl hk;have hlt:=(zMJ.1 hk).1;go_enter func39,ntmps39;go_upto_region 7 with fail;go_region_law (refine zde rfl 73 (.tmp 32) (.tmp 40) 51 2 rfl zhZ (xP mb) (xI v) rfl rfl (zcH mb cb b1 b2 B sv cells slots st v _ (HM.alloc _).drew (by omega)) ?_;rintro e w1 ⟨rfl,sv1,HM1,HF1⟩;refine⟨_,rfl,?_⟩);all_goals go_wp2_with fail
 all_goals go_end0
 all_goals exact⟨rfl,_,HM1,HF1.undrew.ofAlloc⟩
theorem zqj (mb cb b1 b2 B:Nat)(sv:Xv)(cells slots st:List Int)(k:Nat)(v:Int)(hk:cells[k]?=some v)(w:Xw)(HM:MB w mb cb b1 b2 B sv cells slots (st))(hm:st.length+10<=10000000) :
 xK 39 #[xP mb,.agg #[.int .u8 3,xI k]] w (zcM mb cb b1 b2 B w sv cells slots (v::st)):=by
 obtain⟨h0,h1,h2,h3,hf,hz⟩:=zU HM.blk;obtain⟨_,hl1,hl2,_⟩:=HM.lt;have t1:=zbT HM.ce hk;have hlt:=(zMJ.1 hk).1;go_enter func39,ntmps39;go_upto_region 11 with fail;go_region_law (refine zde rfl 73 (.tmp 55) (.tmp 63) 51 2 rfl zhZ (xP mb) (xI v) rfl rfl (zcH mb cb b1 b2 B sv cells slots st v _ (HM.alloc _).drew (by omega)) ?_;rintro e w1 ⟨rfl,sv1,HM1,HF1⟩;refine⟨_,rfl,?_⟩);all_goals go_wp2_with fail
 all_goals go_end0
 all_goals exact⟨rfl,_,HM1,HF1.undrew.ofAlloc⟩
theorem zpA (mb cb b1 b2 B:Nat)(sv:Xv)(cells slots st:List Int)(k:Nat)(c:Int)(hk:slots[k]?=some c)(no yes:Int)(w:Xw)(h:MB w mb cb b1 b2 B sv cells slots (no::yes::st))(hm:st.length+10<=10000000) :
 xK 39 #[xP mb,.agg #[.int .u8 6,xI k]] w (zcM mb cb b1 b2 B w sv cells slots ((pk c yes no)::st)):=by
 have HM:=za h;obtain⟨h0,h1,h2,h3,hf,hz⟩:=zU h.blk;obtain⟨_,hl1,hl2,_⟩:=h.lt;have Hk:=za hk;have hlt:=(zMJ.1 hk).1;go_enter func39,ntmps39;go_upto_region 20 with (first|(go_at_call 74;refine (za6 mb cb b1 b2 B sv1 cells slots (st) yes _ HM1.o (by simp;omega)).mono ?_;rintro e w2 ⟨rfl,sv2,hM,hF⟩;obtain⟨p2,q2,r2,s2,f2,z2⟩:=zU hM.blk;have HF2:=za (HF1.o.trans hF);have HG2:=za (HG1.o.trans hF);obtain⟨u2,v2,y2,x2⟩:=zp (HM.o.box HG2.o);have HM2:=za hM)|(go_at_call 74;refine (za6 mb cb b1 b2 B sv cells slots (yes::st) no _ (HM.o.alloc _) (by simp;omega)).mono ?_;rintro e w1 ⟨rfl,sv1,hM,hF⟩;obtain⟨p1,q1,r1,s1,f1,z1⟩:=zU hM.blk;have HF1:=za hF.ofAlloc;have HG1:=za hF;obtain⟨u1,v1,y1,x1⟩:=zp (HM.o.box HG1.o);have HM1:=za hM));have t1:=zbT HM2.o.sl Hk.o;go_region_law (first|(refine zde rfl 73 (.tmp 107) (.tmp 118) 51 2 rfl zhZ (xP mb) (xI (pk c yes no)) rfl rfl (zcH mb cb b1 b2 B sv2 cells slots st _ _ HM2.o.drew (by omega)) ?_;rintro e w3 ⟨rfl,sv3,hM3,hF3⟩;refine⟨_,rfl,?_⟩;have HM3:=za hM3;have HF3:=za hF3)|(refine zkN rfl 75 (.tmp 115) (.tmp 116) (.tmp 117) 2 2 2 rfl zpc (xI c) (xI yes) (xI no) rfl rfl rfl (zdy _ _ _ _) ?_;rintro e w9 ⟨rfl,rfl⟩;refine⟨_,rfl,?_⟩));all_goals go_wp2_with fail
 all_goals go_end0
 all_goals exact⟨rfl,_,HM3.o,HF2.o.trans HF3.o.undrew⟩
theorem zpu (mb cb b1 b2 B:Nat)(sv:Xv)(cells slots st:List Int)(op:Nat)(ho1:9<=op)(a b x:Int)(hR:∀w,xK 77 #[.int .u8 op,xI a,xI b] w (λe w'=>e=.returned (xI (opR op a b))/\w=w'))(w:Xw)(h:MB w mb cb b1 b2 B sv cells slots (b::a::st))(hm:st.length+10<=10000000) :
 xK 39 #[xP mb,.agg #[.int .u8 op,xI x]] w (zcM mb cb b1 b2 B w sv cells slots (opR op a b::st)):=by
 have HR:=za hR;have o0:((op:Int)==0)=false:=by simp;omega
 have o1:((op:Int)==1)=false:=by simp;omega
 have o2:((op:Int)==2)=false:=by simp;omega
 have o3:((op:Int)==3)=false:=by simp;omega
 have o4:((op:Int)==4)=false:=by simp;omega
 have o5:((op:Int)==5)=false:=by simp;omega
 have o6:((op:Int)==6)=false:=by simp;omega
 have o7:((op:Int)==7)=false:=by simp;omega
 have o8:((op:Int)==8)=false:=by simp;omega
 clear ho1 hR;have HM:=za h;obtain⟨h0,h1,h2,h3,hf,hz⟩:=zU h.blk;obtain⟨_,hl1,hl2,_⟩:=h.lt;go_enter func39,ntmps39;go_wp2_with (first|(go_at_call 73;refine (zcH mb cb b1 b2 B sv2 cells slots (st) (_) _ HM2.o (by simp;omega)).mono ?_;rintro e w3 ⟨rfl,sv3,hM,hF⟩;obtain⟨p3,q3,r3,s3,f3,z3⟩:=zU hM.blk;have HF3:=za (HF2.o.trans hF);have HG3:=za (HG2.o.trans hF);obtain⟨u3,v3,y3,x3⟩:=zp (HM.o.box HG3.o);have HM3:=za hM)|(go_at_call 74;refine (za6 mb cb b1 b2 B sv1 cells slots (st) a _ HM1.o (by simp;omega)).mono ?_;rintro e w2 ⟨rfl,sv2,hM,hF⟩;obtain⟨p2,q2,r2,s2,f2,z2⟩:=zU hM.blk;have HF2:=za (HF1.o.trans hF);have HG2:=za (HG1.o.trans hF);obtain⟨u2,v2,y2,x2⟩:=zp (HM.o.box HG2.o);have HM2:=za hM)|(go_at_call 77;refine (HR.o _).mono ?_;rintro e w9 ⟨rfl,rfl⟩)|(go_at_call 74;refine (za6 mb cb b1 b2 B sv cells slots (a::st) b _ (HM.o.alloc _) (by simp;omega)).mono ?_;rintro e w1 ⟨rfl,sv1,hM,hF⟩;obtain⟨p1,q1,r1,s1,f1,z1⟩:=zU hM.blk;have HF1:=za hF.ofAlloc;have HG1:=za hF;obtain⟨u1,v1,y1,x1⟩:=zp (HM.o.box HG1.o);have HM1:=za hM));go_end0;exact⟨rfl,_,HM3.o,HF3.o⟩
end
section
variable {a:Act} {listed:Array Bool} {ops:Array Oper} {Q:Exit->Act->World->Prop} {fuel:Nat} {oi:Oper} {P:Program} {md:Region.Mode} {v:Xv} {w:Xw} {S:World->Prop}
theorem tkH {i:Nat}(hi:ops[i]?=some oi)
 (hb:(Region.noSelect ops&&(Region.free md ops listed i&&(Region.ready md ops listed).contains i))=true)
 (hQ:∀c a w,Q (.panic c) (a.put oi.dst v) w->Q (.panic c) a w) (hy:YieldsIf P ops S oi v a) (hS:S w)
 (h:wpAnyH P md ops Q S fuel (listed.setIfInBounds i true) (a.put oi.dst v) w):wpAnyH P md ops Q S (fuel+1) listed a w:=by
 simp only[Bool.and_eq_true] at hb;exact wpAnyH_take hi hb.1 hb.2.1 hb.2.2 hQ hy hS h
theorem tkA (i:Nat)(hi:ops[i]?=some oi)(hy:YieldsIf P ops S oi v a)
 (h:wpAnyH P md ops Q S fuel (listed.setIfInBounds i true) (a.put oi.dst v) w)
 (hb:(Region.noSelect ops&&(Region.free md ops listed i&&(Region.ready md ops listed).contains i))=true:=by kernel_rfl)
 (hQ:∀c a w,Q (.panic c) (a.put oi.dst v) w->Q (.panic c) a w:=by exact λ_ _ _ h=>h) (hS:S w:=by assumption):wpAnyH P md ops Q S (fuel+1) listed a w:=tkH hi hb hQ hy hS h
theorem zx2:(∀{α:Type} (a:α) (l:List α) (h:0<(a::l).length),(a::l)[0]'h=a)/\(∀{α:Type} (a:α) (l:List α) (i:Nat) (h:i+1<(a::l).length),(a::l)[i+1]'h=l[i]'(Nat.lt_of_succ_lt_succ h))/\(∀{α:Type} {l:List α} {i:Nat} (h:i<l.toArray.size),l.toArray[i]'h=l[i]'(by simpa using h))/\(∀{α:Type} (l:List α) (i:Nat) (a:α),l.toArray.setIfInBounds i a=(l.set i a).toArray)/\(∀{α:Type} {l:List α} {a b:α},(a::l).set 0 b=b::l)/\∀{α:Type} {l:List α} {a b:α} {n:Nat},(a::l).set (n+1) b=a::l.set n b :=
 ⟨λ_ _ _=>rfl,λ_ _ _ _=>rfl,λ_=>rfl,λl i a=>zr5 l i a,rfl,rfl⟩
end
end Go.Proofs.YtenadialhccdiaaGreatDoor
