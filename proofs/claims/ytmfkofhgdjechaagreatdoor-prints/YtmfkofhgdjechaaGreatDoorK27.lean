/- Part 28 of the proof: MdlV MdlJ3 MdlP RunA RunC Hnd. -/
import Derived.Test.YtmfkofhgdjechaaGreatDoorK26
set_option maxRecDepth 100000
set_option maxHeartbeats 8000000
namespace Go.Proofs.YtmfkofhgdjechaaGreatDoor
open Go.Proofs.Tryz
section
variable {i o:Bool} {v0 vars:List Vr} {f:Nat} {st:St}
theorem zbu.back {a b:St}(h:zbu a b)(hb:b.er=0):a.er=0:=by
 by_cases ha:a.er=0
 . exact ha
 . have:=(h ha).1;omega
theorem zzP (st:St)(a:Nat):(st.fail 2 a).er≠0:=by
 unfold St.fail;split
 . show (2:Nat)≠0;omega
 . rename_i h;exact h
theorem zAI (h:(zx i o st vars).1.er=0):vars.length<16/\∃v:Vr,(zx i o st vars).2=vars++[v]/\v.inn=i/\v.out=o/\((i||o)=true->v.tm=false):=by
 unfold zx at h ⊢;by_cases hl:16<=vars.length
 . rw[if_pos hl] at h;exact absurd h (zzP st _)
 . rw[if_neg hl] at h ⊢;refine⟨by omega,?_⟩;simp only;split
   . rename_i hc
     simp only[Bool.and_eq_true,Bool.not_eq_true'] at hc;exact⟨_,rfl,rfl,rfl,λh=>by rw[hc.1.2,hc.2] at h;cases h⟩
   . exact⟨_,rfl,rfl,rfl,λ_=>rfl⟩
def zzt (i o:Bool)(vars vars':List Vr):Prop:=∃E:List Vr,vars'=vars++E/\(∀v∈E,v.inn=i/\v.out=o/\((i||o)=true->v.tm=false))/\vars'.length<=16
theorem zzt.one {v:Vr}(h:zzt i o v0 vars)(hi:v.inn=i)(ho:v.out=o/\((i||o)=true->v.tm=false))(hl:vars.length<16):zzt i o v0 (vars++[v]):=by
 obtain⟨E,rfl,hE,_⟩:=h;refine⟨E++[v],by rw[List.append_assoc],λx hx=>?_,by rw[List.length_append,List.length_singleton];omega⟩;rcases List.mem_append.1 hx with hx|hx
 . exact hE x hx
 . rw[List.mem_singleton.1 hx];exact⟨hi,ho⟩
theorem zAk:∀(f:Nat) (x:St×List Vr),(zaG i f x).1.er=0->zzt i (!i) v0 x.2->v0.length<x.2.length->zzt i (!i) v0 (zaG i f x).2/\v0.length<(zaG i f x).2.length
 | 0,_,_,h,h1=>⟨h,h1⟩
 | f+1,x,he,h,h1=>by
   unfold zaG at he ⊢;split
   . rename_i hc
     rw[if_pos hc] at he;have h2:=(zzJ i f _).back he;obtain⟨hl,v,e,hi,ho⟩:=zAI h2;refine zAk f _ he ?_ ?_
     . rw[e];exact h.one hi ho hl
     . rw[e,List.length_append,List.length_singleton];omega
   . exact⟨h,h1⟩
theorem zA2 (h:(zab i st vars).1.er=0):zzt i (!i) vars (zab i st vars).2/\vars.length<(zab i st vars).2.length:=by
 unfold zab at h ⊢;simp only at h ⊢;have h1:=(zbu.must _ 4 [41]).back h;have h2:=(zzJ i 1300 _).back h1;obtain⟨hl,v,e,hi,ho⟩:=zAI h2;refine zAk 1300 _ h1 ?_ ?_
 . rw[e];exact zzt.one ⟨[],by simp,by simp,by omega⟩ hi ho hl
 . rw[e,List.length_append,List.length_singleton];omega
theorem zAB:∀(f:Nat) (x:St×List Vr),(zbA f x).1.er=0->zzt false false v0 x.2->zzt false false v0 (zbA f x).2
 | 0,_,_,h=>h
 | f+1,x,he,h=>by
   unfold zbA at he ⊢;split
   . rename_i hc
     rw[if_pos hc] at he;have h2:(zaR x.1 x.2).1.er=0:=by
      by_cases h3:(zaR x.1 x.2).1.er=0
      . exact h3
      . rw[zzY h3] at he;exact absurd he h3
     have h4:=(zbu.must _ 4 [59]).back h2;obtain⟨hl,v,e,hi,ho⟩:=zAI h4;refine zAB f _ he ?_
     show zzt false false v0 (zx false false x.1 x.2).2;rw[e];exact h.one hi ho hl
   . exact h
theorem zDQ (hl:vars.length<=16)(h:(zaS f st vars).1.er=0):zzt false false vars (zaS f st vars).2:=by
 unfold zaS at h ⊢;have h0:zzt false false vars vars:=⟨[],by simp,by simp,hl⟩;split
 . rename_i hc
   rw[if_pos hc] at h;have h2:(zaR st.step vars).1.er=0:=by
    by_cases h3:(zaR st.step vars).1.er=0
    . exact h3
    . rw[zzY h3] at h;exact absurd h h3
   have h4:=(zbu.must _ 4 [59]).back h2;obtain⟨hl',v,e,hi,ho⟩:=zAI h4;refine zAB f _ h ?_
   show zzt false false vars (zx false false st.step vars).2;rw[e];exact h0.one hi ho hl'
 . exact h0
structure zDN (vars:List Vr):Prop where
 ins:1<=(vars.filter (·.inn)).length
 outs:1<=(vars.filter (·.out)).length
 io:(vars.filter (·.inn)).length+(vars.filter (·.out)).length<=vars.length
 few:vars.length<=16
 arr:∃A B C:List Vr,vars=A++B++C/\(∀v∈A,v.inn=true/\v.out=false/\v.tm=false)/\(∀v∈B,v.inn=false/\v.out=true/\v.tm=false)/\∀v∈C,v.inn=false/\v.out=false
theorem zzq {α:Type}{p:α->Bool}{E:List α}(h:∀v∈E,p v=true):E.filter p=E:=List.filter_eq_self.2 h
theorem zyD {α:Type}{p:α->Bool}{E:List α}(h:∀v∈E,p v=false):E.filter p=[]:=List.filter_eq_nil_iff.2 (λv hv=>by rw[h v hv];simp)
theorem zFZ (h:(zaS f (zaI st).1 (zaI st).2).1.er=0):zDN (zaS f (zaI st).1 (zaI st).2).2:=by
 have h1:=(zBR f (zaI st).1 (zaI st).2).back h;have h1':(zab false ((zab true (st.must 5 zW).name []).1.must 4 [45,62]) (zab true (st.must 5 zW).name []).2).1.er=0:=h1;obtain⟨⟨E2,e2,k2,l2⟩,n2⟩:=zA2 h1';have h3:=(zbu.must _ 4 [45,62]).back ((zzV false _ _).back h1');obtain⟨⟨E1,e1,k1,l1⟩,n1⟩:=zA2 h3;have eh:(zaI st).2=(zab false ((zab true (st.must 5 zW).name []).1.must 4 [45,62]) (zab true (st.must 5 zW).name []).2).2:=rfl;have lh:(zaI st).2.length<=16:=by rw[eh];exact l2
 obtain⟨E3,e3,k3,l3⟩:=zDQ lh h;rw[List.nil_append] at e1;have e2':(zaI st).2=E1++E2:=by rw[eh,e2,e1]
 have n2':E1.length<(zaI st).2.length:=by rw[eh];rw[e1] at n2;rw[e1];exact n2
 rw[e1] at n1;have e4:(zaS f (zaI st).1 (zaI st).2).2=E1++E2++E3:=e3.trans (congrArg (·++E3) e2');rw[e2',List.length_append] at n2';clear e3 e2 n2;have e3:=e4;have n2:=n2';have f1:∀E:List Vr,E=E1->E.filter (·.inn)=E1/\E.filter (·.out)=[]:=λE e=>by subst e;exact⟨zzq (λv hv=>(k1 v hv).1),zyD (λv hv=>(k1 v hv).2.1)⟩
 obtain⟨a1,b1⟩:=f1 E1 rfl;have a2:E2.filter (·.inn)=[]:=zyD (λv hv=>(k2 v hv).1);have b2:E2.filter (·.out)=E2:=zzq (λv hv=>(k2 v hv).2.1);have a3:E3.filter (·.inn)=[]:=zyD (λv hv=>(k3 v hv).1);have b3:E3.filter (·.out)=[]:=zyD (λv hv=>(k3 v hv).2.1);refine⟨?_,?_,?_,l3,E1,E2,E3,e3,λv hv=>⟨(k1 v hv).1,(k1 v hv).2.1,(k1 v hv).2.2 rfl⟩,λv hv=>⟨(k2 v hv).1,(k2 v hv).2.1,(k2 v hv).2.2 rfl⟩,λv hv=>⟨(k3 v hv).1,(k3 v hv).2.1⟩⟩
 . rw[e3,List.filter_append,List.filter_append,a1,a2,a3];simp only[List.append_nil];simp at n1;omega
 . rw[e3,List.filter_append,List.filter_append,b1,b2,b3];simp only[List.append_nil,List.nil_append];omega
 . rw[e3,List.filter_append,List.filter_append,List.filter_append,List.filter_append,a1,a2,a3,b1,b2,b3];simp only[List.append_nil,List.nil_append,List.length_append];omega
def zzX (L:List Ex)(q:Eqn):Prop:=q.ns.length=q.ps.length/\1<=q.ns.length/\(2<=q.ns.length->∃ex:Ex,L[q.ex]?=some ex/\zag ex.op.toList ex.n=4)
theorem zzX.more {L:List Ex}{q:Eqn}(h:zzX L q)(E:List Ex):zzX (L++E) q:=by refine⟨h.1,h.2.1,λh2=>?_⟩;obtain⟨ex,e1,e2⟩:=h.2.2 h2;exact⟨ex,by rw[List.getElem?_append_left (List.getElem?_eq_some_iff.1 e1).1];exact e1,e2⟩
theorem zBe:∀(f:Nat) (x:Nms),x.ns.length=x.ps.length->2<=x.ns.length->(zbO f x).ns.length=(zbO f x).ps.length/\2<=(zbO f x).ns.length
 | 0,_,h,h1=>⟨h,h1⟩
 | f+1,x,h,h1=>by
   unfold zbO;split
   . exact zBe f x.more (by simp[Nms.more,h]) (by simp[Nms.more];omega)
   . exact⟨h,h1⟩
theorem zE6 (st:St):(zaH st).ns.length=(zaH st).ps.length/\1<=(zaH st).ns.length/\(2<=(zaH st).ns.length->st.is 4 [40]=true):=by
 unfold zaH;split
 . rename_i h
   have:=zBe 1300 ⟨(st.step.name.must 4 [44]).name,[st.step.t.s,(st.step.name.must 4 [44]).t.s],[st.step.t.a,(st.step.name.must 4 [44]).t.a]⟩ rfl (by simp);exact⟨this.1,by have:=this.2;show 1<=(zbO 1300 _).ns.length;omega,λ_=>h⟩
 . exact⟨rfl,by simp,λh=>by simp at h⟩
theorem zGu (st:St):(zaH st).st.L=st.L:=by
 have hn:∀(f:Nat) (x:Nms),(zbO f x).st.L=x.st.L:=by
  intro f;induction f with
  | zero=>intro x;rfl
  | succ f ih =>
    intro x;unfold zbO;split
    . rw[ih];show (x.st.step.name).L=_;rw[St.name_L,St.step_L]
    . rfl
 unfold zaH;split
 . unfold zdH;simp only;rw[St.must_L,hn]
   show ((st.step.name.must 4 [44]).name).L=_;rw[St.name_L,St.must_L,St.name_L,St.step_L]
 . show st.name.L=_;rw[St.name_L]
def Ext (M:Fn):Prop:=∀st,∃E,(M st).1.L=st.L++E
theorem zAZ {r17 r18:Fn}(a17:ArK r17)(a18:ArK r18)(x17:Ext r17)(x18:Ext r18){eqs:List Eqn}(h:ArL st.L)(he:∀q∈eqs,zzX st.L q)(hn:(zF r17 r18 st eqs).1.er=0) :
 ArL (zF r17 r18 st eqs).1.L/\(∀q∈(zF r17 r18 st eqs).2,zzX (zF r17 r18 st eqs).1.L q):=by
 have hL:(zF r17 r18 st eqs).1.L=(zck r17 r18 (st.is 4 [40]) ((zaH st).st.must 4 [61])).1.L:=St.must_L _ _ _;have hr:(zck r17 r18 (st.is 4 [40]) ((zaH st).st.must 4 [61])).1.er=0:=(zbu.must _ 4 [59]).back hn;have h0:((zaH st).st.must 4 [61]).L=st.L:=by rw[St.must_L,zGu]
 rw[hL];obtain⟨l1,l2,l3⟩:=zE6 st;cases hm:st.is 4 [40] with
 | false =>
   have e1:zck r17 r18 false ((zaH st).st.must 4 [61])=r18 ((zaH st).st.must 4 [61]):=rfl;rw[e1];refine⟨a18 _ (by rw[h0];exact h),λq hq=>?_⟩;obtain⟨E,hE⟩:=x18 ((zaH st).st.must 4 [61]);rw[hE,h0];rcases List.mem_append.1 hq with hq|hq
   . exact (he q hq).more E
   . rw[List.mem_singleton.1 hq];exact⟨l1,l2,λh2=>by have:=l3 h2;rw[hm] at this;cases this⟩
 | true =>
   rw[hm] at hr;have e1:∀s:St,zck r17 r18 true s=zao r17 s.t s.name:=λ_=>rfl;rw[e1] at hr ⊢;obtain⟨s,hs⟩:∃s,(zaH st).st.must 4 [61]=s:=⟨_,rfl⟩;have hq2:(zF r17 r18 st eqs).2=eqs++[⟨(zaH st).ns,(zaH st).ps,(zaH st).st.t.a,(zao r17 s.t s.name).2⟩]:=(by show eqs++[⟨_,_,_,(zck r17 r18 (st.is 4 [40]) ((zaH st).st.must 4 [61])).2⟩]=_;rw[hm,e1,hs]);rw[hs] at hr h0 ⊢;refine⟨zCB a17 s.t s.name (by rw[St.name_L,h0];exact h),?_⟩;rw[hq2];have hc:∃E ex,(zao r17 s.t s.name).1.L=st.L++E/\(zao r17 s.t s.name).1.L[(zao r17 s.t s.name).2]?=some ex/\zag ex.op.toList ex.n=4:=by
    by_cases hp:s.name.is 4 [40]=true
    . have e2:zao r17 s.t s.name=(((zbG r17 s.name.enter).1.must 4 [41]).leave).put ⟨zef,s.t.a,s.t.a,(zbG r17 s.name.enter).2,s.t.s,0⟩:=(by unfold zao;rw[if_pos hp]);have ea:∃E,(zbG r17 s.name.enter).1.L=st.L++E:=by
       have key:∀(f:Nat) (x:St×List Nat),(∃E,x.1.L=st.L++E)->∃E,(zc1 r17 f x).1.L=st.L++E:=by
        intro f;induction f with
        | zero=>intro x h;exact h
        | succ f ih =>
          intro x hx;unfold zc1;split
          . refine ih _ ?_;obtain⟨E,hE⟩:=hx;obtain⟨E',hE'⟩:=x17 x.1.step;exact⟨E++E',by show (r17 x.1.step).1.L=_;rw[hE',St.step_L,hE,List.append_assoc]⟩
          . exact hx
       refine key 1300 _ ?_;obtain⟨E,hE⟩:=x17 s.name.enter;exact⟨E,by show (r17 s.name.enter).1.L=_;rw[hE,St.enter_L,St.name_L,h0]⟩
      obtain⟨E,hE⟩:=ea;have eL:(((zbG r17 s.name.enter).1.must 4 [41]).leave).L=st.L++E:=(by rw[St.leave_L,St.must_L,hE]);rw[e2];refine⟨E++[⟨zef,s.t.a,s.t.a,(zbG r17 s.name.enter).2,s.t.s,0⟩],⟨zef,s.t.a,s.t.a,(zbG r17 s.name.enter).2,s.t.s,0⟩,?_,?_,zEI⟩
      . show (((zbG r17 s.name.enter).1.must 4 [41]).leave).L++[_]=_;rw[eL,List.append_assoc]
      . show ((((zbG r17 s.name.enter).1.must 4 [41]).leave).L++[_])[(((zbG r17 s.name.enter).1.must 4 [41]).leave).L.length]?=_;rw[List.getElem?_append_right (Nat.le_refl _),Nat.sub_self];rfl
    . exfalso;have e2:zao r17 s.t s.name=(s.name.fail 2 s.name.t.a,0):=(by unfold zao;rw[if_neg hp]);rw[e2] at hr;exact zzP _ _ hr
   obtain⟨E,ex,c1,c2,c3⟩:=hc;intro q hq;rcases List.mem_append.1 hq with hq|hq
   . rw[c1];exact (he q hq).more E
   . rw[List.mem_singleton.1 hq];exact⟨l1,l2,λ_=>⟨ex,c2,c3⟩⟩
end
section
variable {ns:List ByteArray} {A B:List Vr}
def TB (l:List ByteArray):ByteArray:=⟨(l.flatMap λx=>x.data.toList++[32]).toArray⟩
theorem zyG (a b:List ByteArray):TB (a++b)=TB a++TB b:=by unfold TB;rw[zz3,List.flatMap_append]
theorem zzh (x:ByteArray):TB [x]=x++⟨#[32]⟩:=by unfold TB;rw[show (⟨#[32]⟩:ByteArray)=⟨([32]:List UInt8).toArray⟩ from rfl,show x=⟨x.data.toList.toArray⟩ by simp,zz3];simp
theorem zA4:∀{l:List ByteArray},l≠[]->TB l=J l++⟨#[32]⟩
 | [],h=>absurd rfl h
 | [x],_=>by rw[zzh,zyo]
 | x::y::l,_=>by rw[show x::y::l=[x]++(y::l) from rfl,zyG,zzh,zA4 (List.cons_ne_nil y l),zyt (by simp) (by simp),zyo];simp only[zyi]
theorem zCq:TB []=⟨#[]⟩:=rfl
theorem zGw (l:List ByteArray)(x:ByteArray):J (l++[x])=TB l++x:=by
 by_cases h:l=[]
 . subst h;rw[List.nil_append,zyo,zCq];apply ByteArray.ext;simp
 . rw[zyt h (by simp),zA4 h,zyo]
theorem zCa (v:Vr):J (zu7 v)=zzW v:=by
 unfold zu7 zzW;rw[show ∀x y z:ByteArray,[x,y,z]=[x]++([y]++[z]) from λ_ _ _=>rfl,zyt (by simp) (by simp),zyt (by simp) (by simp),zyo,zyo,zyo];split
 . rw[show (⟨#[32,58,32,98,111,111,108]⟩:ByteArray)=⟨#[32]⟩++(⟨#[58]⟩++(⟨#[32]⟩++⟨#[98,111,111,108]⟩)) by decide +kernel];simp only[zyi]
 . rw[show (⟨#[32,58,32,105,110,116]⟩:ByteArray)=⟨#[32]⟩++(⟨#[58]⟩++(⟨#[32]⟩++⟨#[105,110,116]⟩)) by decide +kernel];simp only[zyi]
theorem zAL (v:Vr):zu7 v≠[]:=by unfold zu7;simp
theorem zGy (v:Vr):J (zu7 v++onW v)=zyJ v:=by
 unfold onW zyJ zaA;by_cases ht:v.tm=true
 . rw[if_pos ht,if_pos ht];by_cases hn:v.nt=true
   . rw[if_pos hn,if_pos hn,if_neg (by decide),if_pos rfl,zyt (zAL v) (by simp),zCa,show ∀x y z:ByteArray,[x,y,z]=[x]++([y]++[z]) from λ_ _ _=>rfl,zyt (by simp) (by simp),zyt (by simp) (by simp),zyo,zyo,zyo];rw[show (⟨#[32,111,110,32]⟩:ByteArray)=⟨#[32]⟩++(⟨#[111,110]⟩++⟨#[32]⟩) by decide +kernel,show (⟨#[110,111,116,32]⟩:ByteArray)=⟨#[110,111,116]⟩++⟨#[32]⟩ by decide +kernel];simp only[zyi]
   . rw[if_neg hn,if_neg hn,if_pos rfl,zyt (zAL v) (by simp),zCa,show ∀x y:ByteArray,[x,y]=[x]++[y] from λ_ _=>rfl,zyt (by simp) (by simp),zyo,zyo];rw[show (⟨#[32,111,110,32]⟩:ByteArray)=⟨#[32]⟩++(⟨#[111,110]⟩++⟨#[32]⟩) by decide +kernel];simp only[zyi]
 . rw[if_neg ht,if_neg ht,if_neg (by decide),if_neg (by decide),List.append_nil,zCa]
theorem zBp {v:Vr}(h:v.tm=false):zyJ v=J (zu7 v):=by unfold zyJ;rw[if_neg (by rw[h];simp),zCa]
def zzs (l:List Vr):ByteArray:=TB (l.flatMap zu9)
theorem zBS (l:List Vr)(v:Vr):zzs (l++[v])=zzs l++zyJ v++⟨#[32,59,32]⟩:=by
 unfold zzs;rw[List.flatMap_append,zyG,List.flatMap_singleton];have e:zu9 v=(zu7 v++onW v)++[⟨#[59]⟩]:=by unfold zu9;rw[List.append_assoc]
 rw[e,zyG (zu7 v++onW v),zA4 (l:=zu7 v++onW v) (by simp[zAL]),zGy,zzh,show (⟨#[32,59,32]⟩:ByteArray)=⟨#[32]⟩++(⟨#[59]⟩++⟨#[32]⟩) by decide +kernel];simp only[zyi]
theorem zBo (l:List Vr):(zzs l).toList=[]↔l=[]:=by
 constructor
 . intro h;rcases List.eq_nil_or_concat l with h0|⟨l',v,h0⟩
   . exact h0
   . rw[h0,List.concat_eq_append,zBS,ByteArray.toList_eq,ByteArray.data_append] at h;simp at h
 . rintro rfl;rw[ByteArray.toList_eq];rfl
theorem zGF (h:1<=ns.length):J (if ns.length=1 then ns else zu5 (ns.map (λs=>[s])))=zyw ns:=by
 unfold zyw
 match ns,h with
 | [x],_=>rw[if_pos (show [x].length=1 from rfl),if_neg (by simp),zyo];rfl
 | x::y::l,_ => rw[if_neg (by simp),if_pos (by simp),zBi (by simp) (by intro z hz;obtain⟨s,_,rfl⟩:=List.mem_map.1 hz;simp),List.map_map,show (J ∘ λs=>[s])=id from funext λs=>zyo s,List.map_id,zyi]
theorem zGn (h:1<=ns.length):(if ns.length=1 then ns else zu5 (ns.map (λs=>[s])))≠[]:=by
 split
 . rintro rfl;simp at h
 . exact zAb _
def zAd (l:List Qn):ByteArray:=TB (l.flatMap zvd)
theorem zDT (l:List Qn)(q:Qn)(h:1<=q.ns.length):zAd (l++[q])=zAd l++zyw q.ns++⟨#[32,61,32]⟩++J (exT q.r)++⟨#[32,59,32]⟩:=by
 unfold zAd;rw[List.flatMap_append,zyG,List.flatMap_singleton];have e:TB (zvd q)=zyw q.ns++⟨#[32]⟩++(⟨#[61]⟩++⟨#[32]⟩++(J (exT q.r)++⟨#[32]⟩++(⟨#[59]⟩++⟨#[32]⟩))):=by unfold zvd;rw[zyG,zyG,zyG,zA4 (zGn h),zGF h,zzh,zzh,zA4 (zyX _)]
 rw[e,show (⟨#[32,59,32]⟩:ByteArray)=⟨#[32]⟩++(⟨#[59]⟩++⟨#[32]⟩) by decide +kernel,show (⟨#[32,61,32]⟩:ByteArray)=⟨#[32]⟩++(⟨#[61]⟩++⟨#[32]⟩) by decide +kernel];simp only[zyi]
theorem zGz (nm:ByteArray)(hA:A≠[])(hB:B≠[]):TB ([⟨#[110,111,100,101]⟩,nm]++(zu5 (A.map zu7)++([⟨#[45,62]⟩]++zu5 (B.map zu7))))=hdB nm (A.map λv=>J (zu7 v)) (B.map λv=>J (zu7 v)):=by
 have hne:∀l:List Vr,∀y∈l.map zu7,y≠[]:=λl y hy=>by obtain⟨v,_,rfl⟩:=List.mem_map.1 hy;exact zAL v
 rw[show ∀x y:ByteArray,[x,y]=[x]++[y] from λ_ _=>rfl,zyG,zyG,zyG,zyG,zzh,zzh,zzh,zA4 (zAb _),zA4 (zAb _),zBi (by simpa using hA) (hne A),zBi (by simpa using hB) (hne B),List.map_map,List.map_map];unfold hdB;rw[show (⟨#[110,111,100,101,32]⟩:ByteArray)=⟨#[110,111,100,101]⟩++⟨#[32]⟩ by decide +kernel,show (⟨#[32,40,32]⟩:ByteArray)=⟨#[32]⟩++⟨#[40,32]⟩ by decide +kernel,show (⟨#[32,41,32,45,62,32,40,32]⟩:ByteArray)=⟨#[32,41]⟩++(⟨#[32]⟩++(⟨#[45,62]⟩++(⟨#[32]⟩++⟨#[40,32]⟩))) by decide +kernel,show (⟨#[32,41,32]⟩:ByteArray)=⟨#[32,41]⟩++⟨#[32]⟩ by decide +kernel];simp only[zyi];rfl
theorem zGt (n:Nod){C:List Vr}(hv:n.vars=A++B++C)(hi:n.ins=A.length)(ho:n.outs=B.length)(hA:A≠[])(hB:B≠[]) :
 (⟨(zvg n).toArray⟩:ByteArray)=(if C=[] then hdB n.nm (A.map λv=>J (zu7 v)) (B.map λv=>J (zu7 v)) else hdB n.nm (A.map λv=>J (zu7 v)) (B.map λv=>J (zu7 v))++⟨#[118,97,114,32]⟩++zzs C)++⟨#[123,32]⟩++zAd n.eqs++⟨#[125,10]⟩:=by
 have e1:n.vars.take n.ins=A:=by rw[hv,hi,List.append_assoc,List.take_left]
 have e2:(n.vars.drop n.ins).take n.outs=B:=by rw[hv,hi,ho,List.append_assoc,List.drop_left,List.take_left]
 have e3:n.vars.drop (n.ins+n.outs)=C:=by rw[hv,hi,ho,<- List.length_append,List.drop_left]
 have e4:zu4 n=([⟨#[110,111,100,101]⟩,n.nm]++(zu5 (A.map zu7)++([⟨#[45,62]⟩]++zu5 (B.map zu7))))++((if 0<C.length then [⟨#[118,97,114]⟩] else [])++(C.flatMap zu9++([⟨#[123]⟩]++n.eqs.flatMap zvd)))++[⟨#[125]⟩]:=by unfold zu4;rw[e1,e2,e3];simp only[List.append_assoc]
 have e5:(⟨(zvg n).toArray⟩:ByteArray)=J (zu4 n)++⟨#[10]⟩:=by unfold zvg J jn;rw[show (⟨#[10]⟩:ByteArray)=⟨([10]:List UInt8).toArray⟩ from rfl,zz3]
 rw[e5,e4,zGw,zyG,zGz n.nm hA hB,zyG,zyG,zyG,zzh];rw[show (⟨#[123,32]⟩:ByteArray)=⟨#[123]⟩++⟨#[32]⟩ by decide +kernel,show (⟨#[125,10]⟩:ByteArray)=⟨#[125]⟩++⟨#[10]⟩ by decide +kernel];unfold zzs zAd;by_cases hC:C=[]
 . subst hC;rw[if_pos rfl,if_neg (by simp),List.flatMap_nil,zCq,show ∀x:ByteArray,(⟨#[]⟩:ByteArray)++x=x from λx=>by apply ByteArray.ext;simp[ByteArray.data_append]];rw[show ∀x:ByteArray,(⟨#[]⟩:ByteArray)++x=x from λx=>by apply ByteArray.ext;simp[ByteArray.data_append]];simp only[zyi]
 . rw[if_neg hC,if_pos (by cases C with|nil=>exact absurd rfl hC|cons _ _=>simp),zzh,show (⟨#[118,97,114,32]⟩:ByteArray)=⟨#[118,97,114]⟩++⟨#[32]⟩ by decide +kernel];simp only[zyi]
end
section
variable {atm part r17 r18 rx:Fn} {lv:Nat}
def PrK (M:Fn):Prop:=∀(L0:List Ex) (st:St),L0 <+: st.L->L0 <+: (M st).1.L
theorem zy7 {L0:List Ex}{st:St}{e:Ex}(h:L0 <+: st.L):L0 <+: (st.put e).1.L:=h.trans (List.prefix_append st.L [e])
theorem zCp (hp:PrK part)(L0:List Ex):∀(f:Nat) (x:St×Nat),L0 <+: x.1.L->L0 <+: (zdq lv part f x).1.L
 | 0,_,h=>h
 | f+1,x,h=>by
   unfold zdq;split
   . exact zCp hp L0 f _ (zy7 (hp _ _ (by rw[St.step_L];exact h)))
   . exact h
theorem zAQ (hp:PrK part):PrK (zcT lv part):=λL0 st h=>zCp hp L0 1300 _ (hp L0 st h)
theorem zFn {sum:Fn}(hs:PrK sum):PrK (zdJ sum):=by
 intro L0 st h;unfold zdJ;simp only;split
 . exact zy7 (hs _ _ (by rw[St.step_L];exact hs _ st h))
 . exact hs _ st h
theorem zEr {ru smp:Fn}(hr:PrK ru)(hs:PrK smp):PrK (zdn ru smp):=by
 intro L0 st h;unfold zdn;split
 . exact zy7 (by rw[St.leave_L];exact hr _ _ (by rw[St.enter_L];exact h))
 . exact hs _ st h
theorem zAu (L0:List Ex):∀(f:Nat) (x:St×Nat),L0 <+: x.1.L->L0 <+: (zaY f x).1.L
 | 0,_,h=>h
 | f+1,x,h=>by
   unfold zaY;split
   . exact zAu L0 f _ (zy7 (by rw[St.name_L,St.step_L];exact h))
   . exact h
theorem zCR (ha:PrK atm):PrK (zfu atm):=λL0 st h=>zAu L0 1300 _ (ha L0 st h)
theorem zBL (hr:PrK rx)(L0:List Ex):∀(f:Nat) (x:St×List Nat),L0 <+: x.1.L->L0 <+: (zc1 rx f x).1.L
 | 0,_,h=>h
 | f+1,x,h=>by
   unfold zc1;split
   . exact zBL hr L0 f _ (hr _ _ (by rw[St.step_L];exact h))
   . exact h
theorem zFe (hr:PrK rx)(t:Tk):PrK (zao rx t):=by
 intro L0 st h;unfold zao;split
 . simp only;exact zy7 (by rw[St.leave_L,St.must_L];exact zBL hr L0 1300 _ (hr _ _ (by rw[St.enter_L];exact h)))
 . show L0 <+: (st.fail 2 st.t.a).L;rw[St.fail_L];exact h
theorem zDx (hr:PrK rx):PrK (zdx rx):=by intro L0 st h;unfold zdx;simp only;refine zy7 ?_;rw[St.leave_L];exact hr _ _ (by rw[St.must_L];exact hr _ _ (by rw[St.must_L];exact hr _ _ (by rw[St.enter_L];exact h)))
theorem zDj:PrK zjx:=λ_ st h=>zy7 (by rw[St.step_L];exact h)
theorem zCd (ha:PrK atm):PrK (zch atm):=by
 intro L0 st h;unfold zch;split
 . exact ha _ st h
 . exact zDj _ st h
theorem zEy (ha:PrK atm):PrK (zeE atm):=by intro L0 st h;unfold zeE;simp only;refine zy7 ?_;rw[St.leave_L];exact zCd ha _ _ (zCd ha _ _ (by rw[St.name_L,St.enter_L];exact h))
theorem zD9 (hr:PrK rx):PrK (zfQ rx):=by
 intro L0 st h
 show L0 <+: (((rx st.enter).1.must 4 [41]).leave).L;rw[St.leave_L,St.must_L];exact hr _ _ (by rw[St.enter_L];exact h)
theorem zAt (op:ByteArray)(n:Nat):PrK (zdP op n):=λ_ st h=>zy7 (by rw[St.step_L];exact h)
theorem zEX {ra:Fn}(hr:PrK rx)(ha:PrK ra):PrK (zap rx ra):=by
 intro L0 st h;unfold zap;split
 . exact h
 . split
   . exact zAt zcq _ _ st h
   . split
     . split
       . exact zFe hr _ _ _ (by rw[St.step_L];exact h)
       . exact zDj _ st h
     . split
       . exact zD9 hr _ st h
       . split
         . exact zAt zcb 1 _ st h
         . split
           . exact zAt zcb 0 _ st h
           . split
             . exact zDx hr _ st h
             . split
               . exact zEy ha _ st h
               . show L0 <+: (st.fail 2 st.t.a).L;rw[St.fail_L];exact h
theorem zEN {eith:Fn}(hr:PrK rx)(he:PrK eith):PrK (zgk rx eith):=by
 intro L0 st h;unfold zgk;simp only;split
 . refine zy7 ?_;rw[St.leave_L];exact hr _ _ (by rw[St.enter_L];exact he _ st h)
 . exact he _ st h
theorem zDg:∀d:Nat,PrK (lev d).ex/\PrK (lev d).un/\PrK (lev d).at'
 | 0=>⟨λ_ _ h=>h,λ_ _ h=>h,λ_ _ h=>h⟩
 | d+1=>by obtain⟨h1,h2,h3⟩:=zDg d;have ha:PrK (zap (lev d).ex (lev d).at'):=zEX h1 h3;have hu:PrK (zdn (lev d).un (zfu (zap (lev d).ex (lev d).at'))):=zEr h2 (zCR ha);exact⟨zEN h1 (zAQ (zAQ (zFn (zAQ (zAQ hu))))),hu,ha⟩
theorem PrK.ext {M:Fn}(h:PrK M):Ext M:=λst=>by obtain⟨E,hE⟩:=h st.L st (List.prefix_refl _);exact⟨E,hE.symm⟩
structure zAr (nd:Nd):Prop where
 vars:zDN nd.vars
 ar:ArL nd.exs
 eqs:∀q∈nd.eqs,zzX nd.exs q
theorem zDe (a17:ArK r17)(a18:ArK r18)(x17:Ext r17)(x18:Ext r18)(g17:zv 17 r17)(g18:zv 18 r18):∀(f p:Nat) (x:St×List Eqn),Inv p x.1->x.1.op=0->ArL x.1.L->(∀q∈x.2,zzX x.1.L q)->(zb5 r17 r18 f x).1.er=0->ArL (zb5 r17 r18 f x).1.L/\∀q∈(zb5 r17 r18 f x).2,zzX (zb5 r17 r18 f x).1.L q
 | 0,_,_,_,_,h,he,_=>⟨h,he⟩
 | f+1,p,x,hI,ho,h,he,hn=>by
   by_cases hc:x.1.t.k=2∨x.1.is 4 [40]=true
   . have e:zb5 r17 r18 (f+1) x=zb5 r17 r18 f (zF r17 r18 x.1 x.2):=(by rw[zb5,if_pos hc]);rw[e] at hn ⊢;obtain⟨gF,gO⟩:=za1 g17 g18 (eqs:=x.2) hI ho;have hI':=gF.inv;have h1:(zF r17 r18 x.1 x.2).1.er=0:=by
      by_cases h2:(zF r17 r18 x.1 x.2).1.er=0
      . exact h2
      . rw[zl3 hI' h2] at hn;exact absurd hn h2
     obtain⟨k1,k2⟩:=zAZ a17 a18 x17 x18 h he h1;exact zDe a17 a18 x17 x18 g17 g18 f _ _ hI' (by rw[gO];exact ho) k1 k2 hn
   . have e:zb5 r17 r18 (f+1) x=x:=(by rw[zb5,if_neg hc]);rw[e];exact⟨h,he⟩
theorem zCu (a17:ArK r17)(a18:ArK r18)(x17:Ext r17)(x18:Ext r18)(g17:zv 17 r17)(g18:zv 18 r18)(f p:Nat)(st:St)(hI:Inv p st)(ho:st.op=0)(hn:(zax r17 r18 f st).1.er=0):zAr (zax r17 r18 f st).2:=by
 have i0:=Fwd.fresh hI;have gh:=zit i0;have gv:=zeP (f:=f) (vars:=(zaI st.fresh).2) gh.1.inv;have g1:=Fwd.must gv.1.inv 4 [123];have o1:((zaS f (zaI st.fresh).1 (zaI st.fresh).2).1.must 4 [123]).op=0:=by rw[St.must_op,gv.2.1,gh.2.1];exact ho
 have L1:((zaS f (zaI st.fresh).1 (zaI st.fresh).2).1.must 4 [123]).L=[]:=by rw[St.must_L,gv.2.2,gh.2.2];rfl
 obtain⟨V,hV⟩:∃V,zaS f (zaI st.fresh).1 (zaI st.fresh).2=V:=⟨_,rfl⟩;have hvo:V.1.er=0->zDN V.2:=by rw[<- hV];exact zFZ
 rw[hV] at g1 o1 L1;have e:zax r17 r18 f st=((zdr r17 r18 f V.1).1,⟨(st.fresh.must 5 zW).t.s,(st.fresh.must 5 zW).t.a,V.2,(zdr r17 r18 f V.1).1.L,(zdr r17 r18 f V.1).2⟩):=by unfold zax;simp only;rw[hV]
 rw[e] at hn ⊢;have h2:(zb5 r17 r18 f (zF r17 r18 (V.1.must 4 [123]) [])).1.er=0:=(zbu.must _ 4 [125]).back hn;obtain⟨gF,gO⟩:=za1 g17 g18 (eqs:=[]) g1.inv o1;have h3:(zF r17 r18 (V.1.must 4 [123]) []).1.er=0:=by
  by_cases h4:(zF r17 r18 (V.1.must 4 [123]) []).1.er=0
  . exact h4
  . rw[zl3 gF.inv h4] at h2;exact absurd h2 h4
 have h5:V.1.er=0:=(zbu.must _ 4 [123]).back ((zbu.equation g18 g1.inv o1 []).back h3);obtain⟨k1,k2⟩:=zAZ a17 a18 x17 x18 (eqs:=[]) (by rw[L1];intro e he;cases he) (λq hq=>by cases hq) h3;obtain⟨m1,m2⟩:=zDe a17 a18 x17 x18 g17 g18 f _ _ gF.inv (by rw[gO];exact o1) k1 k2 h2;have eL:(zdr r17 r18 f V.1).1.L=(zb5 r17 r18 f (zF r17 r18 (V.1.must 4 [123]) [])).1.L:=St.must_L _ _ _;refine⟨hvo h5,?_,?_⟩
 . show ArL (zdr r17 r18 f V.1).1.L;rw[eL];exact m1
 . intro q hq
   show zzX (zdr r17 r18 f V.1).1.L q;rw[eL];exact m2 q hq
theorem zzR (g17:zv 17 r17)(g18:zv 18 r18)(f p:Nat)(st:St)(hI:Inv p st)(ho:st.op=0):Inv 0 (zax r17 r18 f st).1/\(zax r17 r18 f st).1.op=0:=by
 have i0:=Fwd.fresh hI;have gh:=zit i0;have gv:=zeP (f:=f) (vars:=(zaI st.fresh).2) gh.1.inv;have g1:=Fwd.must gv.1.inv 4 [123];have o1:((zaS f (zaI st.fresh).1 (zaI st.fresh).2).1.must 4 [123]).op=0:=by rw[St.must_op,gv.2.1,gh.2.1];exact ho
 obtain⟨gF,gO⟩:=za1 g17 g18 (eqs:=[]) g1.inv o1;have gE:=zfZ g17 g18 f _ (zF r17 r18 ((zaS f (zaI st.fresh).1 (zaI st.fresh).2).1.must 4 [123]) []) gF.inv (by rw[gO];exact o1);have gM:=Fwd.must gE.1.inv 4 [125];exact⟨gM.inv,by show (St.must _ 4 [125]).op=0;rw[St.must_op];exact gE.2⟩
theorem zBM (a17:ArK r17)(a18:ArK r18)(x17:Ext r17)(x18:Ext r18)(g17:zv 17 r17)(g18:zv 18 r18)(g:Nat):∀(f p:Nat) (x:St×List Nd),Inv p x.1->x.1.op=0->(∀nd∈x.2,zAr nd)->(zdZ r17 r18 g f x).1.er=0->(∀nd∈(zdZ r17 r18 g f x).2,zAr nd)
 | 0,_,_,_,_,h,_=>h
 | f+1,p,x,hI,ho,h,hn=>by
   by_cases hc:x.1.is 5 zW=true/\x.2.length<6
   . have e:zdZ r17 r18 g (f+1) x=zdZ r17 r18 g f ((zax r17 r18 g x.1).1,x.2++[(zax r17 r18 g x.1).2]):=(by rw[zdZ,if_pos hc]);rw[e] at hn ⊢;obtain⟨i1,o1⟩:=zzR g17 g18 g p x.1 hI ho;have h1:(zax r17 r18 g x.1).1.er=0:=by
      by_cases h2:(zax r17 r18 g x.1).1.er=0
      . exact h2
      . rw[zze i1 h2] at hn;exact absurd hn h2
     refine zBM a17 a18 x17 x18 g17 g18 g f 0 _ i1 o1 (λnd hnd=>?_) hn;rcases List.mem_append.1 hnd with hnd|hnd
     . exact h nd hnd
     . rw[List.mem_singleton.1 hnd];exact zCu a17 a18 x17 x18 g17 g18 g p x.1 hI ho h1
   . have e:zdZ r17 r18 g (f+1) x=x:=(by rw[zdZ,if_neg hc]);rw[e];exact h
theorem zCh (a17:ArK r17)(a18:ArK r18)(x17:Ext r17)(x18:Ext r18)(g17:zv 17 r17)(g18:zv 18 r18)(g:Nat)(s:ByteArray)(hI:Inv 0 (⟨s,zZ s 0,0,0,0,[]⟩:St))(hn:(zgo r17 r18 g s).1.er=0):∀nd∈(zgo r17 r18 g s).2,zAr nd:=by
 have h1:(zdZ r17 r18 g g ((zax r17 r18 g ⟨s,zZ s 0,0,0,0,[]⟩).1,[(zax r17 r18 g ⟨s,zZ s 0,0,0,0,[]⟩).2])).1.er=0:=(zzQ _).back hn;obtain⟨i1,o1⟩:=zzR g17 g18 g 0 ⟨s,zZ s 0,0,0,0,[]⟩ hI rfl;have h2:(zax r17 r18 g ⟨s,zZ s 0,0,0,0,[]⟩).1.er=0:=by
  by_cases h3:(zax r17 r18 g ⟨s,zZ s 0,0,0,0,[]⟩).1.er=0
  . exact h3
  . rw[zze i1 h3] at h1;exact absurd h1 h3
 refine zBM a17 a18 x17 x18 g17 g18 g g 0 _ i1 o1 (λnd hnd=>?_) h1;rw[List.mem_singleton.1 hnd];exact zCu a17 a18 x17 x18 g17 g18 g 0 _ hI rfl h2
end
section
open Go.RowKit
variable {cells slots st:List Int} {B b1 b2 cb mb:Nat} {sv:Value} {w:World}
def zK (l:List Int):List Value:=l.map (.int .i64)
structure MB (w:World) (mb cb b1 b2 B:Nat) (sv:Value) (cells slots st:List Int):Prop where
 blk:xH w mb #[xP cb,xS b1 cells.length cells.length,xS b2 slots.length slots.length,sv] 179
 ce:w.heap[b1]?=some (.cells (zK cells).toArray 2 (0,0))
 sl:w.heap[b2]?=some (.cells (zK slots).toArray 2 (0,0))
 own:w.ownsRow B 2 1 sv st.length (zK st.reverse)
 ne1:mb≠b1
 ne2:mb≠b2
 ne3:b1≠b2
 sm:¬sv.ownBlock=some mb
 s1:¬sv.ownBlock=some b1
 s2:¬sv.ownBlock=some b2
 hB:B<=w.heap.size
structure MFr (mb b1 b2:Nat) (w:World) (sv:Value) (w':World) (sv':Value):Prop where
 fr:Fr (λj=>j=mb∨j=b1∨j=b2∨sv.ownBlock=some j) w w'
 new:∀j,sv'.ownBlock=some j->sv.ownBlock=some j∨w.heap.size<=j
theorem MFr.refl (mb b1 b2:Nat)(w:World)(sv:Value):MFr mb b1 b2 w sv w sv:=⟨Fr.refl _ w,λ_ h=>Or.inl h⟩
theorem MFr.trans {w1 w2:World}{s1 s2:Value}(h:MFr mb b1 b2 w sv w1 s1)(k:MFr mb b1 b2 w1 s1 w2 s2):MFr mb b1 b2 w sv w2 s2:=by
 have hz:=h.fr.size;refine⟨h.fr.trans' k.fr (λi hi hs=>?_),λj hj=>?_⟩
 . rcases hs with hs|hs|hs|hs
   . exact Or.inl hs
   . exact Or.inr (Or.inl hs)
   . exact Or.inr (Or.inr (Or.inl hs))
   . rcases h.new i hs with h'|h'
     . exact Or.inr (Or.inr (Or.inr h'))
     . omega
 . rcases k.new j hj with h'|h'
   . exact h.new j h'
   . right;omega
theorem zhv {g n cap:Nat}{e:TypeId}{xs:List Value}(h:w.ownsRow B e 1 (xS g n cap) n xs){j:Nat}{u:Value}(hj:xs[j]?=some u):xC w g j u:=by
 have:=h.cells (g:=g) rfl j u hj;have e0:((xD g 0):Addr).add j=⟨g,j,none⟩:=by cases j <;> simp[Addr.add]
 rwa [e0] at this
theorem MB.fr {w':World}(h:MB w mb cb b1 b2 B sv cells slots st)(hk:∀k,k<w.heap.size->w'.heap[k]?=w.heap[k]?)(hz:w.heap.size<=w'.heap.size):MB w' mb cb b1 b2 B sv cells slots st :=
 ⟨(hk _ (ze h.blk)).trans h.blk,(hk _ (ze h.ce)).trans h.ce,(hk _ (ze h.sl)).trans h.sl,zi h.own (λk _ hk' _=>hk k hk'),h.ne1,h.ne2,h.ne3,h.sm,h.s1,h.s2,Nat.le_trans h.hB hz⟩
theorem MB.alloc (h:MB w mb cb b1 b2 B sv cells slots st)(o:Obj):MB (w.alloc o) mb cb b1 b2 B sv cells slots st :=
 h.fr (λk hk=>Below.heap_alloc _ _ _ hk) (by simp)
theorem MB.grown {w9:World}{sv':Value}{st':List Int}(h:MB w mb cb b1 b2 B sv cells slots st)(hF:Fr (λk=>sv.ownBlock=some k) w w9)(ho:w9.ownsRow B 2 1 sv' st'.length (zK st'.reverse))(hn:∀j,sv'.ownBlock=some j->sv.ownBlock=some j∨w.heap.size<=j):MB (w9.setCell (xD mb 3) sv') mb cb b1 b2 B sv' cells slots st':=by
 have l0:=ze h.blk;have l1:=ze h.ce;have l2:=ze h.sl;have hm:¬sv'.ownBlock=some mb:=λe=>by rcases hn _ e with e|e;exact h.sm e;omega
 refine⟨zh _ _ _ _ ((hF.block mb l0 h.sm).trans h.blk),(zr (λe=>h.ne1 e.symm) rfl).trans ((hF.block b1 l1 h.s1).trans h.ce),(zr (λe=>h.ne2 e.symm) rfl).trans ((hF.block b2 l2 h.s2).trans h.sl),zi ho (λj _ _ e=>zr (λe'=>hm (e'▸e)) rfl),h.ne1,h.ne2,h.ne3,hm,λe=>?_,λe=>?_,by simpa [World.setCell] using Nat.le_trans h.hB hF.size⟩
 . rcases hn _ e with e|e
   . exact h.s1 e
   . omega
 . rcases hn _ e with e|e
   . exact h.s2 e
   . omega
end
section
open Go.RowKit
variable {cells slots st:List Int} {B b1 b2 cb mb:Nat} {sv sv':Value} {w w':World}
theorem zai {b:Nat}{l:Array Value}{e:TypeId}(h:w.heap[b]?=some (.cells l e (0,0)))(k:Nat):w.frozen? (xD b k)=false:=by simp[World.frozen?,h]
theorem MFr.undrew (h:MFr mb b1 b2 w.drew sv w' sv'):MFr mb b1 b2 w sv w' sv':=⟨h.fr.undrew,h.new⟩
theorem MB.drew (h:MB w mb cb b1 b2 B sv cells slots st):MB w.drew mb cb b1 b2 B sv cells slots st:=h.fr (λ_ _=>rfl) (Nat.le_refl _)
theorem zi5 (l:List Int)(k:Nat)(v:Int):(zK l).toArray.setIfInBounds k (xI v)=(zK (l.set k v)).toArray:=by simp[zK]
theorem MB.cell (h:MB w mb cb b1 b2 B sv cells slots st)(k:Nat)(v:Int):MB (w.setCell (xD b1 k) (xI v)) mb cb b1 b2 B sv (cells.set k v) slots st:=by
 refine⟨?_,?_,(zr (λe=>h.ne3 e.symm) rfl).trans h.sl,zi h.own (λj _ _ e=>zr (λe'=>h.s1 (e'▸e)) rfl),h.ne1,h.ne2,h.ne3,h.sm,h.s1,h.s2,by simpa [World.setCell] using h.hB⟩
 . rw[List.length_set];exact (zr h.ne1 rfl).trans h.blk
 . rw[<- zi5];exact zh _ _ _ _ h.ce
theorem MFr.cell (h:MFr mb b1 b2 w sv w' sv')(k:Nat)(v:Value):MFr mb b1 b2 w sv (w'.setCell (xD b1 k) v) sv':=⟨h.fr.setCell (Or.inl (Or.inr (Or.inl rfl))) v,h.new⟩
theorem MB.lt (h:MB w mb cb b1 b2 B sv cells slots st):mb<w.heap.size/\b1<w.heap.size/\b2<w.heap.size/\∀j,sv.ownBlock=some j->j<w.heap.size :=
 ⟨ze h.blk,ze h.ce,ze h.sl,λj e=>(h.own.lt j e).2⟩
theorem MB.box {w1:World}{sv1:Value}(h:MB w mb cb b1 b2 B sv cells slots st){o:Obj}(hF:MFr mb b1 b2 (w.alloc o) sv w1 sv1):w1.heap[w.heap.size]?=some o:=by
 obtain⟨l1,l2,l3,l4⟩:=h.lt;refine (hF.fr.block w.heap.size (by simp) (λe=>?_)).trans (zc w o);rcases e with e|e|e|e
 . omega
 . omega
 . omega
 . have:=l4 _ e;omega
end
section
variable {a:Act} {listed:Array Bool} {ops:Array Oper} {Q:Exit->Act->World->Prop} {fuel:Nat} {oi:Oper} {P:Program} {md:Region.Mode} {v:Value} {w:World} {S:World->Prop}
theorem tkH {i:Nat}(hi:ops[i]?=some oi)
 (hb:(Region.noSelect ops&&(Region.free md ops listed i&&(Region.ready md ops listed).contains i))=true)
 (hQ:∀c a w,Q (.panic c) (a.put oi.dst v) w->Q (.panic c) a w) (hy:YieldsIf P ops S oi v a) (hS:S w)
 (h:wpAnyH P md ops Q S fuel (listed.setIfInBounds i true) (a.put oi.dst v) w):wpAnyH P md ops Q S (fuel+1) listed a w:=by
 simp only[Bool.and_eq_true] at hb;exact wpAnyH_take hi hb.1 hb.2.1 hb.2.2 hQ hy hS h
theorem tkA (i:Nat)(hi:ops[i]?=some oi)(hy:YieldsIf P ops S oi v a)
 (h:wpAnyH P md ops Q S fuel (listed.setIfInBounds i true) (a.put oi.dst v) w)
 (hb:(Region.noSelect ops&&(Region.free md ops listed i&&(Region.ready md ops listed).contains i))=true:=by kernel_rfl)
 (hQ:∀c a w,Q (.panic c) (a.put oi.dst v) w->Q (.panic c) a w:=by exact λ_ _ _ h=>h) (hS:S w:=by assumption):wpAnyH P md ops Q S (fuel+1) listed a w:=tkH hi hb hQ hy hS h
theorem zx2:(∀{α:Type} (a:α) (l:List α) (h:0<(a::l).length),(a::l)[0]'h=a)/\(∀{α:Type} (a:α) (l:List α) (i:Nat) (h:i+1<(a::l).length),(a::l)[i+1]'h=l[i]'(Nat.lt_of_succ_lt_succ h))/\(∀{α:Type} {l:List α} {i:Nat} (h:i<l.toArray.size),l.toArray[i]'h=l[i]'(by simpa using h))/\(∀{α:Type} (l:List α) (i:Nat) (a:α),l.toArray.setIfInBounds i a=(l.set i a).toArray)/\(∀{α:Type} {l:List α} {a b:α},(a::l).set 0 b=b::l)/\∀{α:Type} {l:List α} {a b:α} {n:Nat},(a::l).set (n+1) b=a::l.set n b :=
 ⟨λ_ _ _=>rfl,λ_ _ _ _=>rfl,λ_=>rfl,λl i a=>zr5 l i a,rfl,rfl⟩
end
end Go.Proofs.YtmfkofhgdjechaaGreatDoor
