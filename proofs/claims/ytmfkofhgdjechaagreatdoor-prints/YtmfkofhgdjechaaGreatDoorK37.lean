/- Part 38 of the proof: PrH PrI PrJ ErrA ErrB. -/
import Derived.Deep.MidRow
import Derived.LaidEql
import Derived.RowKitTokens
import Derived.Stop.Asserts
import Derived.Test.YtmfkofhgdjechaaGreatDoorK36
set_option maxRecDepth 100000
set_option maxHeartbeats 8000000
namespace Go.Proofs.YtmfkofhgdjechaaGreatDoor
open Go.Proofs.Tryz
section
open Go.RowKit
variable {n:Nat}
theorem zFD:∀(i:List ByteArray),(i.getD 0 ⟨#[]⟩).size+(i.getD 1 ⟨#[]⟩).size+(i.getD 2 ⟨#[]⟩).size<=(i.map λb=>b.size+10).sum
 | []=>Nat.le_refl 0
 | [a]=>by show a.size+0+0<=(a.size+10)+0;omega
 | [a,b]=>by show a.size+b.size+0<=(a.size+10)+((b.size+10)+0);omega
 | a::b::c::r=>by show a.size+b.size+c.size<=(a.size+10)+((b.size+10)+((c.size+10)+_));omega
theorem zzD (b:ByteArray)(hb:b.size=3):∀(i:List ByteArray),(zyf b i).size<=(i.map λb=>b.size+10).sum
 | []=>Nat.le_refl 0
 | [a]=>by show a.size<=(a.size+10)+0;omega
 | a::c::r=>by
   have ih:=zzD b hb (c::r)
   show (a++b++zyf b (c::r)).size<=_;rw[ByteArray.size_append,ByteArray.size_append,hb];simp only[List.map_cons,List.sum_cons] at ih ⊢;omega
theorem zEe (h:n<=9223372036854775807):(zzw n).size<=19:=zBa 18 n (by omega)
theorem zEa {op s:ByteArray}{cs:List Bool}{i:List ByteArray}(ho:op.size<=6)(hs:s.size<=1200)(hn:n<=9223372036854775807):(zyn op s n cs i).size<=1270+(i.map λb=>b.size+10).sum:=by
 have g3:=zFD i;have g4:=zzD ⟨#[32,44,32]⟩ rfl i;have g5:=zEe hn;have y0:(⟨#[40,32]⟩:ByteArray).size=2:=rfl;have y1:(⟨#[32,41]⟩:ByteArray).size=2:=rfl;have y2:(⟨#[32,40,32]⟩:ByteArray).size=3:=rfl;have y3:(⟨#[40,32,45,32]⟩:ByteArray).size=4:=rfl;have y4:(⟨#[40,32,110,111,116,32]⟩:ByteArray).size=6:=rfl;have y5:(⟨#[40,32,105,102,32]⟩:ByteArray).size=5:=rfl;have y6:(⟨#[32,116,104,101,110,32]⟩:ByteArray).size=6:=rfl;have y7:(⟨#[32,101,108,115,101,32]⟩:ByteArray).size=6:=rfl;have y8:(⟨#[40,32,109,101,114,103,101,32]⟩:ByteArray).size=8:=rfl;have y9:(⟨#[32]⟩:ByteArray).size=1:=rfl;have y10:(⟨#[116,114,117,101]⟩:ByteArray).size=4:=rfl;have y11:(⟨#[102,97,108,115,101]⟩:ByteArray).size=5:=rfl;obtain⟨M,hM⟩:∃M,(i.map λb=>b.size+10).sum=M:=⟨_,rfl⟩;rw[hM] at g3 g4 ⊢;unfold zyn;simp only;generalize i.getD 0 ⟨#[]⟩=a0 at *;generalize i.getD 1 ⟨#[]⟩=a1 at *;generalize i.getD 2 ⟨#[]⟩=a2 at *;generalize zyf ⟨#[32,44,32]⟩ i=a3 at *;generalize zzw n=a4 at *
 repeat' split
 all_goals try simp only[ByteArray.size_append,y0,y1,y2,y3,y4,y5,y6,y7,y8,y9,y10,y11]
 all_goals omega
theorem zEk (l:List UInt8)(n:Nat):decide (zag l n=4)=(l==[99,97,108,108]):=by
 by_cases h:l=[99,97,108,108]
 . subst h;rfl
 . rw[beq_eq_false_iff_ne.2 h];refine decide_eq_false (λhk=>?_);have h1:∀(c:Prop) [Decidable c] (a b:Nat),a≠4->b≠4->(if c then a else b)≠4:=λc _ a b ha hb=>by split;exact ha;exact hb
   refine absurd hk ?_;unfold zag;rw[if_neg (c:=l=[99,97,108,108]) h]
   repeat' (apply h1)
   all_goals decide
theorem zF0 {op:List UInt8}{len:Nat}(ho:op∈zy0)(h:arB (zag op n) len=true):zB9 op<=len/\(op=[109,101,114,103,101]->len=2):=by
 simp only[zy0,List.mem_cons,List.not_mem_nil,or_false] at ho;rcases ho with rfl|rfl|rfl|rfl|rfl|rfl|rfl|rfl|rfl|rfl|rfl|rfl|rfl|rfl|rfl|rfl|rfl|rfl|rfl|rfl|rfl|rfl|rfl
 all_goals first
  | exact⟨Nat.zero_le _,λh=>absurd h (by decide)⟩
  | (have h1:len=3:=eq_of_beq h;subst h1;exact⟨by decide,λh=>absurd h (by decide)⟩)
  | (have h1:len=2:=eq_of_beq h;subst h1;exact⟨by decide,λ_=>rfl⟩)
  | (have h1:len=1:=eq_of_beq h;subst h1;exact⟨by decide,λh=>absurd h (by decide)⟩)
theorem zBf {u:Tm}:∀{ts:List Tm},u∈ts->vz u<=vzL ts
 | [],h=>by cases h
 | t::ts,h=>by
   rw[zys];rcases List.mem_cons.1 h with rfl|h
   . omega
   . have:=zBf h;omega
theorem zEv:∀{ts:List Tm},(∀u∈ts,(J (exT u)).size+20<=1300*vz u)->((ts.map λt=>J (exT t)).map λb=>b.size+10).sum<=1300*vzL ts
 | [],_=>by simp
 | t::ts,h=>by have h1:=h t (List.mem_cons_self ..);have h2:=zEv (λu hu=>h u (List.mem_cons_of_mem _ hu));rw[zys];simp only[List.map_cons,List.sum_cons];omega
theorem zFM {L:List Ex}(hS:∀e∈L,exS e)(hA:ArL L){x:Nat}{t:Tm}(h:zeA L x t):vz t<=1000000->TxR L x (J (exT t))/\(J (exT t)).size+20<=1300*vz t:=by
 induction h with
 | mk x ex ts hx hl hr ih =>
   intro hv;have hex:=hS ex (List.mem_of_getElem? hx);have har:arB (zag ex.op.toList ex.n) ts.length=true:=(by rw[hl];exact hA ex (List.mem_of_getElem? hx));rw[zBn] at hv;have kid:∀u∈ts,∃y,zeA L y u/\TxR L y (J (exT u))/\(J (exT u)).size+20<=1300*vz u:=(by intro u hu;obtain⟨i,hi⟩:=List.mem_iff_getElem?.1 hu;have hil:=(List.getElem?_eq_some_iff.1 hi).1;have hy:ex.ins[i]?=some (ex.ins[i]'(by omega)):=zsc _;have hz:=zBf hu;exact⟨_,hr i _ u hy hi,ih i _ u hy hi (by omega)⟩);have hc:ex.ins.map (zyC L)=ts.map (λt=>decide (t.k=4)):=by
    apply List.ext_getElem?;intro i;rw[List.getElem?_map,List.getElem?_map];cases hi:ts[i]? with
    | none =>
      have:ex.ins[i]?=none:=by rw[List.getElem?_eq_none_iff] at hi ⊢;omega
      rw[this];rfl
    | some u => have hil:=(List.getElem?_eq_some_iff.1 hi).1;have hy:ex.ins[i]?=some (ex.ins[i]'(by omega)):=zsc _;obtain⟨e2,he2,hk2⟩:=zCH (hr i _ u hy hi);rw[hy,Option.map_some,Option.map_some,hk2,zEk];unfold zyC;rw[he2]
   have e:=zFT ex hex ts har;have e1:J (exT (.mk (zag ex.op.toList ex.n) ex.a ex.s ex.nm (zbF ex.op.toList ex.n) ts))=zyn ex.op ex.s ex.n (ex.ins.map (zyC L)) (ts.map λt=>J (exT t)):=(by rw[hc,e,exT]);obtain⟨hn,hs,ho,_⟩:=hex;have hnd:=zF0 ho har;rw[e1];refine⟨TxR.mk x ex _ hx (by rw[List.length_map];exact hl) (hS ex (List.mem_of_getElem? hx)) (by rw[List.length_map];exact hnd.1) (λhm=>⟨by rw[List.length_map];exact hnd.2 hm,λi y hy=>?_⟩) (λb hb=>?_) (λi y b hy hb=>?_),?_⟩
   . have hil:=(List.getElem?_eq_some_iff.1 hy).1;obtain⟨e2,he2,_⟩:=zCH (hr i y (ts[i]'(by omega)) hy (zsc _));exact (List.getElem?_eq_some_iff.1 he2).1
   . obtain⟨u,hu,rfl⟩:=List.mem_map.1 hb;obtain⟨_,_,_,h3⟩:=kid u hu;have:=zBf hu;omega
   . rw[List.getElem?_map] at hb;cases hu:ts[i]? with
     | none=>rw[hu] at hb;cases hb
     | some u => rw[hu] at hb;cases hb;exact (ih i y u hy hu (by have:=zBf (List.mem_of_getElem? hu);omega)).1
   . have h1:=zEa (i:=ts.map λt=>J (exT t)) (cs:=ex.ins.map (zyC L)) (zDi ho) hs hn;have h2:=zEv (λu hu=>by obtain⟨_,_,_,h3⟩:=kid u hu;exact h3);rw[zBn];omega
end
section
open Go.RowKit
variable {L:List Ex}
theorem zz4 (a:ByteArray):(⟨#[]⟩:ByteArray)++a=a:=by apply ByteArray.ext;simp[ByteArray.data_append]
theorem zGE (q:Qn)(h:1<=q.ns.length):TB (zvd q)=zyw q.ns++⟨#[32,61,32]⟩++J (exT q.r)++⟨#[32,59,32]⟩:=by have:=zDT [] q h;unfold zAd at this;simp only[List.nil_append,List.flatMap_cons,List.flatMap_nil,List.append_nil,zCq] at this;rw[this,zz4]
theorem zGR:∀{l:List Eqn} {qs:List Qn} (s:ByteArray),zge L l qs->(∀q∈qs,1<=q.ns.length)->(l.zip (qs.map λq=>J (exT q.r))).foldl (λs p=>s++zyw p.1.ns++⟨#[32,61,32]⟩++p.2++⟨#[32,59,32]⟩) s=s++zAd qs:=by
 intro l;induction l with
 | nil=>rintro qs s rfl _;show s=s++⟨#[]⟩;rw[zAE]
 | cons q l ih => rintro qs s ⟨q',l',rfl,hq,hl⟩ h1;rw[List.map_cons,List.zip_cons_cons,List.foldl_cons,ih _ hl (λx hx=>h1 x (List.mem_cons_of_mem _ hx))];unfold zAd;rw[List.flatMap_cons,zyG,zGE q' (h1 q' (List.mem_cons_self ..)),hq.ns];simp only[ByteArray.append_assoc]
theorem zCo:∀(l:List Vr) (s:ByteArray),(∀v∈l,v.inn=false/\v.out=false)->l.foldl (λs v=>if (v.inn||v.out)=true then s else s++zyJ v++⟨#[32,59,32]⟩) s=s++zzs l
 | [],s,_=>by show s=s++⟨#[]⟩;rw[zAE]
 | v::l,s,h=>by obtain⟨h1,h2⟩:=h v (List.mem_cons_self ..);rw[List.foldl_cons,if_neg (by rw[h1,h2];simp),zCo l _ (λx hx=>h x (List.mem_cons_of_mem _ hx))];have e:=zBS [] v;have e0:zzs []=⟨#[]⟩:=rfl;rw[e0,zz4,List.nil_append] at e;have e2:zzs (v::l)=zzs [v]++zzs l:=(by unfold zzs;rw[<- zyG,<- List.flatMap_append];rfl);rw[e2,e];simp only[ByteArray.append_assoc]
theorem zAl:∀(l:List Vr) (s:ByteArray),(∀v∈l,(v.inn||v.out)=true)->l.foldl (λs v=>if (v.inn||v.out)=true then s else s++zyJ v++⟨#[32,59,32]⟩) s=s
 | [],_,_=>rfl
 | v::l,s,h=>by rw[List.foldl_cons,if_pos (h v (List.mem_cons_self ..)),zAl l _ (λx hx=>h x (List.mem_cons_of_mem _ hx))]
theorem zGD {vars A B C:List Vr}(hv:vars=A++B++C)(hA:∀v∈A,v.inn=true/\v.out=false/\v.tm=false)(hB:∀v∈B,v.inn=false/\v.out=true/\v.tm=false)(hC:∀v∈C,v.inn=false/\v.out=false) :
 zyA vars=A.map (λv=>J (zu7 v))/\zyu vars=B.map (λv=>J (zu7 v))/\zzl vars=zzs C:=by
 subst hv;refine⟨?_,?_,?_⟩
 . unfold zyA;rw[List.filter_append,List.filter_append,zzq (λv hv=>(hA v hv).1),zyD (λv hv=>(hB v hv).1),zyD (λv hv=>(hC v hv).1),List.append_nil,List.append_nil];exact List.map_congr_left (λv hv=>zBp (hA v hv).2.2)
 . unfold zyu;rw[List.filter_append,List.filter_append,zyD (λv hv=>by rw[(hA v hv).1];rfl),zzq (λv hv=>by rw[(hB v hv).1,(hB v hv).2.1];rfl),zyD (λv hv=>by rw[(hC v hv).1,(hC v hv).2];rfl),List.append_nil,List.nil_append];exact List.map_congr_left (λv hv=>zBp (hB v hv).2.2)
 . unfold zzl;rw[List.foldl_append,List.foldl_append,zAl A _ (λv hv=>by rw[(hA v hv).1];rfl),zAl B _ (λv hv=>by rw[(hB v hv).2.1];simp),zCo C _ hC,zz4]
theorem zBq {l:List ByteArray}(h:∀s∈l,s.size<=1200)(hl:l.length<=1400):(zyw l).size<=2000000:=by
 have h1:=zzD ⟨#[32,44,32]⟩ rfl l;have h2:∀(l:List ByteArray),(∀s∈l,s.size<=1200)->(l.map λb=>b.size+10).sum<=l.length*1210:=by
  intro l;induction l with
  | nil=>intro _;exact Nat.le_refl 0
  | cons a l ih => intro h;have k1:=ih (λs hs=>h s (List.mem_cons_of_mem _ hs));have k2:=h a (List.mem_cons_self ..);simp only[List.map_cons,List.sum_cons,List.length_cons];omega
 have h3:=h2 l h;unfold zyw;split
 . rw[ByteArray.size_append,ByteArray.size_append];show 2+_+2<=_;omega
 . omega
theorem zC4:∀{l:List Eqn} {qs:List Qn},zge L l qs->∀(i:Nat) (q:Eqn),l[i]?=some q->∃q',qs[i]?=some q'/\zrJ L q q'/\vz q'.r<=vzQ qs:=by
 intro l;induction l with
 | nil=>intro qs _ i q h;simp at h
 | cons q0 l ih =>
   rintro qs ⟨q',l',rfl,hq,hl⟩ i q hi;cases i with
   | zero=>simp at hi;subst hi;exact⟨q',rfl,hq,by unfold vzQ;simp⟩
   | succ i => obtain⟨q2,h1,h2,h3⟩:=ih hl i q (by simpa using hi);exact⟨q2,by simpa using h1,h2,by unfold vzQ at h3 ⊢;simp only[List.map_cons,List.sum_cons];omega⟩
theorem zDG {d:Nd}{n:Nod}(hn:zo6 d n)(hS:NdS d)(hO:zAr d)(hq1:∀q∈n.eqs,1<=q.ns.length)(hz:vzQ n.eqs<=1201):zEZ d (n.eqs.map λq=>J (exT q.r))/\zyO d.nm d.vars (d.eqs.zip (n.eqs.map λq=>J (exT q.r)))=⟨(zvg n).toArray⟩:=by
 refine⟨⟨by rw[List.length_map];exact hn.eqs.len,λi q b hi hb=>?_⟩,?_⟩
 . obtain⟨q',h1,h2,h3⟩:=zC4 hn.eqs i q hi;rw[List.getElem?_map,h1] at hb;cases hb;have ht:=zFM hS.exs hO.ar h2.r (by omega);have hl:=zBq (hS.eqs q (List.mem_of_getElem? hi)) (hS.ns q (List.mem_of_getElem? hi));exact⟨ht.1,(show (J (exT q'.r)).size<=1000000000000 by omega),by omega⟩
 . obtain⟨A,B,C,hv,hA,hB,hC⟩:=hO.vars.arr;obtain⟨e1,e2,e3⟩:=zGD hv hA hB hC;have hi:n.ins=A.length:=by rw[hn.ins];unfold Nd.ins;rw[hv,List.filter_append,List.filter_append,zzq (λv h=>(hA v h).1),zyD (λv h=>(hB v h).1),zyD (λv h=>(hC v h).1)];simp
   have ho:n.outs=B.length:=(by rw[hn.outs];unfold Nd.outs;rw[hv,List.filter_append,List.filter_append,zyD (λv h=>(hA v h).2.1),zzq (λv h=>(hB v h).2.1),zyD (λv h=>(hC v h).2)];simp);have nA:A≠[]:=(by rintro rfl;have:=hO.vars.ins;have h2:=hn.ins;unfold Nd.ins at h2;rw[<- h2,hi] at this;simp at this);have nB:B≠[]:=(by rintro rfl;have:=hO.vars.outs;have h2:=hn.outs;unfold Nd.outs at h2;rw[<- h2,ho] at this;simp at this);rw[zGt n (by rw[hn.vars];exact hv) hi ho nA nB];unfold zyO;rw[e1,e2,e3,show zy8 (d.eqs.zip (n.eqs.map λq=>J (exT q.r)))=⟨#[]⟩++zAd n.eqs from zGR _ hn.eqs hq1,zz4,hn.nm];by_cases hc:C=[]
   . rw[if_pos hc,if_pos ((zBo C).2 hc)]
   . rw[if_neg hc,if_neg (λh=>hc ((zBo C).1 h))]
end
section
open Go.RowKit
variable {L:List Ex} {d:Nd} {n:Nod}
theorem zeA.uno {x:Nat}{t t':Tm}(h:zeA L x t)(h':zeA L x t'):t=t':=by
 induction h generalizing t' with
 | mk x ex ts hx hl hr ih =>
   cases h' with
   | mk _ ex' ts' hx' hl' hr' =>
     rw[hx] at hx';cases hx';have:ts=ts':=by
      apply List.ext_getElem?;intro i;by_cases hi:i<ts.length
      . have e1:=zsc hi;have e2:=zsc (show i<ts'.length by omega);have e3:=zsc (show i<ex.ins.length by omega);rw[e1,e2,ih i _ _ e3 e1 (hr' i _ _ e3 e2)]
      . rw[List.getElem?_eq_none (by omega),List.getElem?_eq_none (by omega)]
     rw[this]
theorem zC1:∀{l:List Eqn} {qs qs':List Qn},zge L l qs->zge L l qs'->qs=qs':=by
 intro l;induction l with
 | nil=>rintro qs qs' rfl rfl;rfl
 | cons q l ih => rintro qs qs' ⟨a,la,rfl,ha,hla⟩ ⟨b,lb,rfl,hb,hlb⟩;rw[ih hla hlb];obtain⟨a1,a2,a3,a4⟩:=a;obtain⟨b1,b2,b3,b4⟩:=b;obtain⟨h1,h2,h3,h4⟩:=ha;obtain⟨k1,k2,k3,k4⟩:=hb;simp only at h1 h2 h3 h4 k1 k2 k3 k4;subst h1 h2 h3 k1 k2 k3;rw[h4.uno k4]
theorem zGG (t:Tm):1<=vz t:=by
 cases t with
 | mk k a s nm n ts=>rw[zBn];omega
theorem zDn:∀(qs:List Qn),qs.length<=vzQ qs
 | []=>Nat.le_refl 0
 | q::qs=>by have h1:=zDn qs;have h2:=zGG q.r;unfold vzQ at h1 ⊢;simp only[List.map_cons,List.sum_cons,List.length_cons];omega
theorem zBu:∀(l:List (Eqn×ByteArray)) (s:ByteArray),(∀p∈l,(zyw p.1.ns).size<=1000000000000/\p.2.size<=1000000000000)->(l.foldl (λs p=>s++zyw p.1.ns++⟨#[32,61,32]⟩++p.2++⟨#[32,59,32]⟩) s).size<=s.size+l.length*2000000000006
 | [],s,_=>by simp
 | p::l,s,h=>by
   obtain⟨h1,h2⟩:=h p (List.mem_cons_self ..);have h3:=zBu l (s++zyw p.1.ns++⟨#[32,61,32]⟩++p.2++⟨#[32,59,32]⟩) (λx hx=>h x (List.mem_cons_of_mem _ hx));rw[List.foldl_cons,List.length_cons];refine Nat.le_trans h3 ?_;rw[ByteArray.size_append,ByteArray.size_append,ByteArray.size_append,ByteArray.size_append]
   show s.size+_+3+_+3+_<=_;omega
structure NdR (d:Nd):Prop where
 s:NdS d
 o:zAr d
 z:NdZ d
theorem zz5 (hn:zo6 d n)(h:NdR d):vzQ n.eqs<=1201:=by obtain⟨⟨qs,q1,q2⟩,q3⟩:=h.z;rw[zC1 hn.eqs q1];omega
theorem zDw (hn:zo6 d n)(h:NdR d):zE4 d:=by have h1:=zz5 hn h;have h2:=zDn n.eqs;have h3:=hn.eqs.len;have h4:=h.z.2;exact⟨h.s,by omega,λe he=>by have:=(h.s.exs e he).2.2.2;omega,h.o.vars.few,by omega,λq hq=>by have:=h.s.ns q hq;omega⟩
theorem zF4 {bts:List ByteArray}(h:zE4 d)(ht:zEZ d bts):(zyO d.nm d.vars (d.eqs.zip bts)).size<=10000000000000000:=by
 have hv:=h.small.vars;have hs1:∀b∈zyA d.vars,b.size<=1000000000000:=λb hb=>by unfold zyA at hb;obtain⟨v,hv',rfl⟩:=List.mem_map.1 hb;have:=zy1 (hv v (List.mem_filter.1 hv').1);omega
 have hs2:∀b∈zyu d.vars,b.size<=1000000000000:=λb hb=>by unfold zyu at hb;obtain⟨v,hv',rfl⟩:=List.mem_map.1 hb;have:=zy1 (hv v (List.mem_filter.1 hv').1);omega
 have j1:=zy3 ⟨#[32,44,32]⟩ (show 3<=10 by decide) (zyA d.vars) hs1;have j2:=zy3 ⟨#[32,44,32]⟩ (show 3<=10 by decide) (zyu d.vars) hs2;have l1:=zAa d.vars;have l2:=zzU d.vars;have l3:=h.vars;have l4:=zzT hv;have l5:=h.small.nm;have l6:(d.eqs.zip bts).length<=2000:=by rw[List.length_zip];have:=h.eqs;omega
 have e1:=zBu (d.eqs.zip bts) ⟨#[]⟩ (λp hp=>by
  obtain⟨i,hi⟩:=List.mem_iff_getElem?.1 hp;rw[List.getElem?_zip_eq_some] at hi;obtain⟨_,h2,h3⟩:=ht.2 i p.1 p.2 hi.1 hi.2;exact⟨h3,h2⟩)
 have e0:(⟨#[]⟩:ByteArray).size=0:=rfl;rw[e0] at e1;have hh:(hdB d.nm (zyA d.vars) (zyu d.vars)).size<=100000000000000:=by
  unfold hdB;rw[ByteArray.size_append,ByteArray.size_append,ByteArray.size_append,ByteArray.size_append,ByteArray.size_append,ByteArray.size_append]
  show 5+_+3+_+8+_+3<=_;omega
 have e2:(zy8 (d.eqs.zip bts)).size<=2000*2000000000006:=by unfold zy8;omega
 unfold zyO;rw[ByteArray.size_append,ByteArray.size_append,ByteArray.size_append];split
 . show _+2+_+2<=_;omega
 . rw[ByteArray.size_append,ByteArray.size_append];show _+4+_+2+_+2<=_;omega
def txN (n:Nod):List ByteArray:=n.eqs.map λq=>J (exT q.r)
theorem zCD:∀{l:List Nd} {ns:List Nod},ze5 l ns->∀(i:Nat) (d:Nd),l[i]?=some d->∃n,ns[i]?=some n/\zo6 d n:=by
 intro l;induction l with
 | nil=>intro ns _ i d h;simp at h
 | cons d0 l ih =>
   rintro ns ⟨n,l',rfl,hn,hl⟩ i d hi;cases i with
   | zero=>simp at hi;subst hi;exact⟨n,rfl,hn⟩
   | succ i => obtain⟨n2,h1,h2⟩:=ih hl i d (by simpa using hi);exact⟨n2,by simpa using h1,h2⟩
theorem zGs:∀{l:List Nd} {ns:List Nod} (s:ByteArray),ze5 l ns->(∀d∈l,NdR d)->(∀n∈ns,∀q∈n.eqs,1<=q.ns.length)->(l.zip (ns.map txN)).foldl (λs p=>s++zyO p.1.nm p.1.vars (p.1.eqs.zip p.2)) s=s++⟨(zu3 ns).toArray⟩:=by
 intro l;induction l with
 | nil=>rintro ns s rfl _ _;show s=s++⟨#[]⟩;rw[zAE]
 | cons d l ih =>
   rintro ns s ⟨n,l',rfl,hn,hl⟩ hd hq;have hR:=hd d (List.mem_cons_self ..);have e:=(zDG hn hR.s hR.o (hq n (List.mem_cons_self ..)) (zz5 hn hR)).2;rw[List.map_cons,List.zip_cons_cons,List.foldl_cons,ih _ hl (λx hx=>hd x (List.mem_cons_of_mem _ hx)) (λx hx=>hq x (List.mem_cons_of_mem _ hx))]
   show s++zyO d.nm d.vars (d.eqs.zip (n.eqs.map λq=>J (exT q.r)))++_=_;rw[e,ByteArray.append_assoc,show (⟨(zvg n).toArray⟩:ByteArray)++⟨(zu3 l').toArray⟩=⟨(zvg n++zu3 l').toArray⟩ from zz3 _ _];unfold zu3;rw[List.flatMap_cons]
end
section
open Go.RowKit Go.Extern.Stop Go.Stop Go.Extern
theorem Tryz.isTypeOf (v:Value)(w:World):(Extern.ReflectliteType.typeOf #[.iface 399 v]).run prog w=.ok (.iface 241 (.agg #[.pointer (some (xD 21 399))])) w:=by kernel_rfl
def zxB:Array Value->Sem Value:=Extern.ReflectliteType.method λt=>do Extern.Rtype.noPackHeld "Comparable" t;pure (.bool (<- typeInfo t).comparable)
theorem Tryz.isMethodComparable (v:Value)(w:World):(Go.method 545 241 v "Comparable").run prog w=.ok (354,v) w:=by kernel_rfl
theorem Tryz.isMethodUnwrapP (v:Value)(w:World):(Go.method 545 133 v "Unwrap").run prog w=.ok (351,v) w:=by kernel_rfl
theorem Tryz.isMethodUnwrapF (v:Value)(w:World):(Go.method 545 58 v "Unwrap").run prog w=.ok (345,v) w:=by kernel_rfl
theorem Tryz.callCmp (args:Array Value)(w:World):(callFunc 354 args).run prog w=((zxB args).run prog w).andThen λv w'=>.ok (.value v) w':=run_callFunc_extern func354 (by kernel_rfl) (by kernel_rfl) (by kernel_rfl) (by kernel_rfl) args w
theorem Tryz.callTypeOf (args:Array Value)(w:World):(callFunc 125 args).run prog w=((Extern.ReflectliteType.typeOf args).run prog w).andThen λv w'=>.ok (.value v) w':=run_callFunc_extern func125 (by kernel_rfl) (by kernel_rfl) (by kernel_rfl) (by kernel_rfl) args w
theorem Tryz.isComparable (w:World):(zxB #[.agg #[.pointer (some (xD 21 399))]]).run prog w=.ok (.bool true) w:=by kernel_rfl
theorem Tryz.isComp:(prog.info? 399).map (·.comparable)=some true:=by kernel_rfl
theorem Tryz.isSize:(prog.info? 401).map (·.size)=some 1:=by kernel_rfl
theorem Tryz.noIsE (v:Value)(xT:TypeId)(w:World):(Instr.typeAssert (.iface 399 v) xT 327 true).run prog w=.ok (.tuple #[.nilIface,.bool false]) w:=run_typeAssert_lacksB underlying327 (by kernel_rfl) (by kernel_rfl) v xT w
theorem Tryz.noUnwrapE (v:Value)(xT:TypeId)(w:World):(Instr.typeAssert (.iface 399 v) xT 249 true).run prog w=.ok (.tuple #[.nilIface,.bool false]) w:=run_typeAssert_lacksB underlying249 (by kernel_rfl) (by kernel_rfl) v xT w
theorem Tryz.noUnwrapsE (v:Value)(xT:TypeId)(w:World):(Instr.typeAssert (.iface 399 v) xT 251 true).run prog w=.ok (.tuple #[.nilIface,.bool false]) w:=run_typeAssert_lacksB underlying251 (by kernel_rfl) (by kernel_rfl) v xT w
theorem Tryz.noIsP (v:Value)(xT:TypeId)(w:World):(Instr.typeAssert (.iface 133 v) xT 327 true).run prog w=.ok (.tuple #[.nilIface,.bool false]) w:=run_typeAssert_lacksB underlying327 (by kernel_rfl) (by kernel_rfl) v xT w
theorem Tryz.hasUnwrapP (v:Value)(xT:TypeId)(w:World):(Instr.typeAssert (.iface 133 v) xT 249 true).run prog w=.ok (.tuple #[.iface 133 v,.bool true]) w:=run_typeAssert_hasB underlying249 (by kernel_rfl) v xT w
theorem Tryz.noIsF (v:Value)(xT:TypeId)(w:World):(Instr.typeAssert (.iface 58 v) xT 327 true).run prog w=.ok (.tuple #[.nilIface,.bool false]) w:=run_typeAssert_lacksB underlying327 (by kernel_rfl) (by kernel_rfl) v xT w
theorem Tryz.hasUnwrapF (v:Value)(xT:TypeId)(w:World):(Instr.typeAssert (.iface 58 v) xT 249 true).run prog w=.ok (.tuple #[.iface 58 v,.bool true]) w:=run_typeAssert_hasB underlying249 (by kernel_rfl) v xT w
theorem zvv (p:ByteArray)(e:Value)(w:World):xK 351 #[.agg #[.string p,e]] w λr w'=>r=.returned e/\xB w w':=by go_enter func351,ntmps351;go_wp2;go_ret;refine⟨rfl,?_⟩;first|exact Below.refl _ _|exact zq w _
theorem zv2 (k e:Value)(w:World):xK 345 #[.agg #[k,e]] w λr w'=>r=.returned k/\xB w w':=by go_enter func345,ntmps345;go_wp2;go_ret;refine⟨rfl,?_⟩;first|exact Below.refl _ _|exact zq w _
theorem zxv (p:ByteArray)(a b:Addr)(at':Int)(r:Bool)(w:World)(HEq:∀W,xB w W->(binOp .eql 42 (.iface 399 (.pointer (some a))) (.iface 399 (.pointer (some b)))).run prog W=.ok (.bool r) W) :
 xK 65 #[zeQ p (.iface 58 (.agg #[.iface 399 (.pointer (some a)),xI at'])),.iface 399 (.pointer (some b))] w λe w'=>e=.returned (.bool r)/\xB w w':=by
 have h8:=Tryz.callTypeOf;have h32:=Tryz.callCmp;have mR:=Tryz.isMethodComparable;have mP:=Tryz.isMethodUnwrapP;have mF:=Tryz.isMethodUnwrapF;have tT:=Tryz.isTypeOf;have cT:=Tryz.isComparable;have nP:=Tryz.noIsP;have uP:=Tryz.hasUnwrapP;have nF:=Tryz.noIsF;have uF:=Tryz.hasUnwrapF;have nE:=Tryz.noIsE;have uE:=Tryz.noUnwrapE;have vE:=Tryz.noUnwrapsE;have eP:=λv v' W=>run_eql_iface_types (P:=prog) 133 399 v v' underlying42 (by decide) W;have eF:=λv v' W=>run_eql_iface_types (P:=prog) 58 399 v v' underlying42 (by decide) W;unfold zeQ;go_enter func65,ntmps65;go_wp2;refine wp_loop_rounds 3 ?_;rw[rounds_succ];go_wp2_with (go_at_call 351;refine (zvv _ _ _).mono ?_;rintro e w1 ⟨rfl,HB1⟩);rw[rounds_succ];go_wp2_with (go_at_call 345;refine (zv2 _ _ _).mono ?_;rintro e w2 ⟨rfl,HB2⟩);have HB3:=za (HB1.trans (HB2.mono HB1.size));have he:=HEq w2 HB3.o;rw[rounds_succ];cases r with
 | true => go_wp2;go_ret;exact⟨rfl,HB3.o⟩
 | false => go_wp2;go_ret;exact⟨rfl,HB3.o⟩
theorem Tryz.valueOfP (t:Addr)(w:World):(ReflectliteValue.unpack (.iface 60 (.pointer (some t)))).run prog w
 = .ok (.agg #[.pointer (some (xD 21 60)),xP w.heap.size,.int .u64 150]) (w.alloc (.cells #[.pointer (some t)] 60)):=by kernel_rfl
theorem Tryz.typeP (a:Addr)(w:World):(ReflectliteValue.methodAny (ReflectliteValue.valueError "reflectlite.Value.Type" 0) (λt _ _ _=>ReflectliteType.toType t) #[.agg #[.pointer (some (xD 21 60)),.pointer (some a),.int .u64 150]]).run prog w
 = .ok (.iface 241 (.agg #[.pointer (some (xD 21 60))])) w:=by kernel_rfl
theorem Tryz.methodKind (h:Value)(w:World):(Go.method 545 241 (.agg #[h]) "Kind").run prog w=.ok (341,h) w:=by kernel_rfl
theorem Tryz.methodElem (h:Value)(w:World):(Go.method 545 241 (.agg #[h]) "Elem").run prog w=.ok (355,.agg #[h]) w:=by kernel_rfl
theorem Tryz.methodImplements (h:Value)(w:World):(Go.method 545 241 (.agg #[h]) "Implements").run prog w=.ok (356,.agg #[h]) w:=by kernel_rfl
theorem Tryz.methodAssignableTo (h:Value)(w:World):(Go.method 545 241 (.agg #[h]) "AssignableTo").run prog w=.ok (353,.agg #[h]) w:=by kernel_rfl
theorem Tryz.kindP (w:World):((ReflectliteType.abiMethod λt=>(λa:Nat=>Value.int IntKind.u8 (a:Int)) <$> Rtype.kind t) #[.pointer (some (xD 21 60))]).run prog w=.ok (.int .u8 22) w:=by kernel_rfl
theorem Tryz.kindF (w:World):((ReflectliteType.abiMethod λt=>(λa:Nat=>Value.int IntKind.u8 (a:Int)) <$> Rtype.kind t) #[.pointer (some (xD 21 58))]).run prog w=.ok (.int .u8 25) w:=by kernel_rfl
theorem Tryz.elemP (w:World):(ReflectliteType.method ReflectliteType.elem #[.agg #[.pointer (some (xD 21 60))]]).run prog w=.ok (.iface 241 (.agg #[.pointer (some (xD 21 58))])) w:=by kernel_rfl
theorem Tryz.implementsF (w:World):(ReflectliteType.relation "Implements" ReflectliteType.implements_ #[.agg #[.pointer (some (xD 21 58))],.iface 241 (.agg #[.pointer (some (xD 21 42))])]).run prog w=.ok (.bool true) w:=by kernel_rfl
theorem Tryz.typeOfF (v:Value)(w:World):(ReflectliteType.typeOf #[.iface 58 v]).run prog w=.ok (.iface 241 (.agg #[.pointer (some (xD 21 58))])) w:=by kernel_rfl
theorem Tryz.typeOfPs (v:Value)(w:World):(ReflectliteType.typeOf #[.iface 133 v]).run prog w=.ok (.iface 241 (.agg #[.pointer (some (xD 21 133))])) w:=by kernel_rfl
theorem Tryz.assignableF (w:World):(ReflectliteType.relation "AssignableTo" ReflectliteType.assignableTo #[.agg #[.pointer (some (xD 21 58))],.iface 241 (.agg #[.pointer (some (xD 21 58))])]).run prog w=.ok (.bool true) w:=by kernel_rfl
theorem Tryz.assignableP (w:World):(ReflectliteType.relation "AssignableTo" ReflectliteType.assignableTo #[.agg #[.pointer (some (xD 21 133))],.iface 241 (.agg #[.pointer (some (xD 21 58))])]).run prog w=.ok (.bool false) w:=by kernel_rfl
theorem Tryz.valueOfF (k e:Value)(w:World):(ReflectliteValue.unpack (.iface 58 (.agg #[k,e]))).run prog w
 = .ok (.agg #[.pointer (some (xD 21 58)),xP w.heap.size,.int .u64 153]) (w.alloc (.cells #[k,e] 58)):=by kernel_rfl
theorem Tryz.noAsP (v:Value)(xT:TypeId)(w:World):(Instr.typeAssert (.iface 133 v) xT 246 true).run prog w=.ok (.tuple #[.nilIface,.bool false]) w:=run_typeAssert_lacksB underlying246 (by kernel_rfl) (by kernel_rfl) v xT w
theorem rlm (z:Sem Value)(f:TypeId->Addr->Nat->Nat->Sem Value)(v:Value) :
 ReflectliteValue.method z f #[v]=(do match <- ReflectliteValue.parts v with|none=>z|some (t,a,fl)=>f t a fl (fl % 32)):=rfl
theorem Tryz.partsP (a:Addr)(w:World):(ReflectliteValue.parts (.agg #[.pointer (some (xD 21 60)),.pointer (some a),.int .u64 150])).run prog w=.ok (some (60,a,150)) w:=by kernel_rfl
theorem Tryz.isNilP (a p:Addr)(W:World)(ha:W.cell? a=some (.pointer (some p))) :
 (ReflectliteValue.method (ReflectliteValue.valueError "reflectlite.Value.IsNil" 0) ReflectliteValue.isNil #[.agg #[.pointer (some (xD 21 60)),.pointer (some a),.int .u64 150]]).run prog W=.ok (.bool false) W:=by
 rw[rlm];simp only[Sem.run_bind,Tryz.partsP,Result.andThen];simp[ReflectliteValue.isNil,loadVar,isAgg,underlying,underlying60,ha,Result.andThen]
theorem Tryz.elemOfP (w:World):(Rtype.elem? 60).run prog w=.ok (some 58) w:=by kernel_rfl
theorem Tryz.mkF (p:Addr)(w:World):(ReflectliteValue.mk 58 p ReflectliteValue.flagAddr).run prog w=.ok (.agg #[.pointer (some (xD 21 58)),.pointer (some p),.int .u64 409]) w:=by kernel_rfl
theorem Tryz.elemVP (a p:Addr)(W:World)(ha:W.cell? a=some (.pointer (some p))) :
 (ReflectliteValue.method (ReflectliteValue.valueError "reflectlite.Value.Elem" 0) ReflectliteValue.elem #[.agg #[.pointer (some (xD 21 60)),.pointer (some a),.int .u64 150]]).run prog W
   = .ok (.agg #[.pointer (some (xD 21 58)),.pointer (some p),.int .u64 409]) W:=by
 rw[rlm];simp only[Sem.run_bind,Tryz.partsP,Result.andThen];simp[ReflectliteValue.elem,loadVar,isAgg,underlying,underlying60,ha,Result.andThen,Tryz.elemOfP,Tryz.mkF]
theorem rls (v x:Value):ReflectliteValue.set #[v,x]=(do
 let (some (dst,a,fl),some (src,b,_)):=(<- ReflectliteValue.parts v,<- ReflectliteValue.parts x)
  | unsupported (.noEntry "extern/(internal/reflectlite.Value).Set.zeroValue")
 if fl / ReflectliteValue.flagAddr % 2==0 then unsupported (.noEntry "extern/(internal/reflectlite.Value).Set.unaddressable")
 let val <- loadVar src b
 if <- Rtype.directlyAssignable dst src then storeVar dst a val
 else if <- Rtype.implements dst src then
  if (<- Rtype.kind src)==20 then
   match val with
   | .nilIface=>unsupported (.noEntry "extern/reflectlite: a nil value of one interface type handed on as a value of another")
   | _=>storeVar dst a val
  else storeVar dst a (.iface src val)
 else panicString ("reflectlite.Set: value of type "++(<- Rtype.spelt src)++ " is not assignable to type "++(<- Rtype.spelt dst))
 pure (.tuple #[])):=rfl
theorem Tryz.partsFa (a:Addr)(w:World):(ReflectliteValue.parts (.agg #[.pointer (some (xD 21 58)),.pointer (some a),.int .u64 409])).run prog w=.ok (some (58,a,409)) w:=by kernel_rfl
theorem Tryz.partsF (a:Addr)(w:World):(ReflectliteValue.parts (.agg #[.pointer (some (xD 21 58)),.pointer (some a),.int .u64 153])).run prog w=.ok (some (58,a,153)) w:=by kernel_rfl
theorem Tryz.directF (w:World):(Rtype.directlyAssignable 58 58).run prog w=.ok true w:=by kernel_rfl
theorem Tryz.aggF (w:World):(isAgg 58).run prog w=.ok true w:=by kernel_rfl
theorem Tryz.sizeF (w:World):(sizeOf 58).run prog w=.ok 2 w:=by kernel_rfl
theorem Tryz.setF (ta b:Nat)(k e o1 o2:Value)(W:World)(hk:k.oneCell'=true)(he:e.oneCell'=true)(hb:xH W b #[k,e] 58)(ht:xH W ta #[o1,o2] 58) :
 (ReflectliteValue.set #[.agg #[.pointer (some (xD 21 58)),xP ta,.int .u64 409],.agg #[.pointer (some (xD 21 58)),xP b,.int .u64 153]]).run prog W
   = .ok (.tuple #[]) ((W.setCell (xD ta 0) k).setCell (xD ta 1) e):=by
 have hl:(loadVar 58 (xD b 0)).run prog W=.ok (.agg #[k,e]) W:=by
  have h0:=run_loadCells_list (P:=prog) W (xD b 0) [k,e] (λj v hj=>by
   obtain⟨c0,c1,_,_⟩:=zp hb;rcases j with _|_|j
   . simp at hj;subst hj;exact c0
   . simp at hj;subst hj;exact c1
   . simp at hj)
  have h1:(loadCells (xD b 0) 2).run prog W=.ok #[k,e] W:=h0;unfold loadVar;simp only[Sem.run_bind,Tryz.aggF,Tryz.sizeF,Result.andThen,if_true,h1];rfl
 have hs:(storeVar 58 (xD ta 0) (.agg #[k,e])).run prog W=.ok () ((W.setCell (xD ta 0) k).setCell (xD ta 1) e):=by
  refine run_storeVar_mid (P:=prog) W ta 0 58 #[k,e] (λj hj=>?_) (by kernel_rfl) (by simp[hk,he]);obtain⟨c0,c1,cf,_⟩:=zp ht;have hj2:j<2:=hj;rcases j with _|_|j
  . exact⟨by rw[Nat.zero_add,c0];rfl,cf _⟩
  . exact⟨by rw[Nat.zero_add,c1];rfl,cf _⟩
  . omega
 rw[rls];simp only[Sem.run_bind,Tryz.partsFa,Tryz.partsF,Result.andThen];simp[ReflectliteValue.flagAddr,hl,Tryz.directF,hs]
end
end Go.Proofs.YtmfkofhgdjechaaGreatDoor
