/- Part 15 of the proof. -/
import Derived.Test.YtbicmofihhjgbaaGreatDoorK13
set_option maxRecDepth 100000
set_option maxHeartbeats 8000000
namespace Go.Proofs.YtbicmofihhjgbaaGreatDoor
open Go.Proofs.Tryz
section
variable {i:Bool} {s:Xb} {atm part r17 r18 rx:Fn} {vars:List Vr} {f g lv:Nat} {st:St} {t:Tk}
def zy0:List (List UInt8):=[[110,117,109,98,101,114],[98,111,111,108],[118,97,114],[99,97,108,108],[105,102],[109,101,114,103,101],[119,104,101,110],[119,104,101,110,111,116],[102,98,121],[110,101,103],[110,111,116],[97,110,100],[111,114],[120,111,114],[61],[60,62],[60],[60,61],[43],[45],[42],[47],[37]]
def isV (l:Xu):Bool:=l==[118,97,114]
def exS (e:Ex):Prop:=e.n<=9223372036854775807/\e.s.size<=1200/\e.op.toList∈zy0/\e.ins.length<=1400/\(isV e.op.toList=true->e.a=e.nm)
abbrev zHR (l:Xu):Prop:=l∈zy0/\isV l=false
theorem zFc {n:Nat}(h:zco t n=true):zHR t.s.toList:=by
 unfold zco at h;split at h
 . cases h
 split at h
 . rename_i h1;rcases h1 with h1|h1 <;> (rw[h1];decide)
 split at h
 . rename_i h1;rw[h1];decide
 split at h
 . rename_i h1;rcases h1 with h1|h1 <;> (rw[h1];decide)
 split at h
 . rename_i h1;rcases h1 with h1|h1|h1 <;> (rw[h1];decide)
 cases h
theorem zF7 (h:zcn t=true):zHR t.s.toList:=by unfold zcn at h;simp only[Bool.and_eq_true,Bool.or_eq_true,beq_iff_eq] at h;rcases h.2 with ((h1|h1)|h1)|h1 <;> (rw[h1];decide)
theorem zGj (h:zdi st=true):zHR st.t.s.toList:=by unfold zdi St.is at h;simp only[Bool.or_eq_true,Bool.and_eq_true,beq_iff_eq] at h;rcases h with h1|h1 <;> (rw[h1.2];decide)
theorem zGK:zHR zlo.toList:=by decide +kernel
theorem zGO:zHR zk5.toList:=by decide +kernel
theorem zGo:zHR zef.toList:=by decide +kernel
theorem zG9:zHR sIf.toList:=by decide +kernel
theorem zF3:zHR zep.toList:=by decide +kernel
theorem zGI:zHR zgW.toList:=by decide +kernel
theorem zGJ:zfR.toList∈zy0:=by decide +kernel
theorem zEK:zHR zcb.toList:=by decide +kernel
theorem zGQ:zHR zcq.toList:=by decide +kernel
structure Zs (st:St):Prop where
 src:st.src.size<=1200
 tt:st.t.t<=st.src.size
 tn:st.t.n<=9223372036854775807
 ts:st.t.s.size<=1200
 L:∀e∈st.L,exS e
def ZK (M:Fn):Prop:=∀st,Zs st->Zs (M st).1
theorem zCE (s:Xb)(p:Nat)(hs:s.size<=1200):(zZ s p).s.size<=1200:=by
 have hx:∀a b:Nat,(s.extract a b).size<=1200:=by intro a b;rw[ByteArray.size_extract];omega
 have h0:(⟨#[]⟩:Xb).size=0:=rfl;have h1:(⟨#[48]⟩:Xb).size=1:=rfl;unfold zZ zfg zgc zfh;simp only
 repeat' split
 all_goals first|exact hx _ _|(rw[h0];omega)|(rw[h1];omega)
theorem Zs.step (h:Zs st):Zs st.step:=by
 unfold St.step;split
 . have:=zV st.src st.t.t h.tt;exact⟨h.src,this.2.2.1,this.2.2.2.1,zCE _ _ h.src,h.L⟩
 exact h
theorem Zs.fail (h:Zs st)(e a:Nat):Zs (st.fail e a):=by unfold St.fail;split <;> exact⟨h.src,h.tt,zMN _,zMN _,h.L⟩
theorem Zs.must (h:Zs st)(k:Nat)(l:Xu):Zs (st.must k l):=by unfold St.must;split;exact h.step;exact h.fail _ _
theorem Zs.name (h:Zs st):Zs st.name:=by unfold St.name;split;exact h.step;exact h.fail _ _
theorem Zs.enter (h:Zs st):Zs st.enter:=by have h1:Zs ({ st with op:=st.op+1 }:St):=⟨h.src,h.tt,h.tn,h.ts,h.L⟩;unfold St.enter;split;exact h1.fail _ _;exact h1.step
theorem Zs.leave (h:Zs st):Zs st.leave:=⟨h.src,h.tt,h.tn,h.ts,h.L⟩
theorem Zs.put (h:Zs st){e:Ex}(he:exS e):Zs (st.put e).1:=by
 refine⟨h.src,h.tt,h.tn,h.ts,λx hx=>?_⟩;rcases zMY.1 (show x∈st.L++[e] from hx) with hx|hx
 . exact h.L x hx
 rw[zMZ.1 hx];exact he
theorem zz8 {op:Xb}{a b:Nat}{l:Xn}(ho:zHR op.toList)(h:s.size<=1200)(hl:l.length<=1400:=by simp):exS ⟨op,a,b,l,s,0⟩:=⟨zMN _,h,ho.1,hl,λe=>by rw[ho.2] at e;cases e⟩
theorem zzj:sE.size<=1200:=zMN _
theorem zDo (hp:ZK part):∀(f:Nat) (x:St×Nat),Zs x.1->Zs (zdq lv part f x).1
 | 0,_,h=>h
 | f+1,x,h=>by
   unfold zdq;split
   . rename_i hc
     exact zDo hp f _ ((hp _ h.step).put (zz8 (zFc hc.2) zzj))
   exact h
theorem zBm (hp:ZK part):ZK (zcT lv part):=λst h=>zDo hp 1300 _ (hp st h)
theorem zGl {sum:Fn}(hs:ZK sum):ZK (zdJ sum):=by
 intro st h;unfold zdJ;simp only;split
 . rename_i hc
   exact (hs _ (hs st h).step).put (zz8 (zF7 hc.2) zzj)
 exact hs st h
theorem zE9 {ru smp:Fn}(hr:ZK ru)(hs:ZK smp):ZK (zdn ru smp):=by
 intro st h;unfold zdn;split
 . refine (hr _ h.enter).leave.put (zz8 ?_ zzj);split
   . exact zGK
   exact zGO
 exact hs st h
theorem zAW:∀(f:Nat) (x:St×Nat),Zs x.1->Zs (zaY f x).1
 | 0,_,h=>h
 | f+1,x,h=>by
   unfold zaY;split
   . rename_i hc
     exact zAW f _ (h.step.name.put (zz8 (zGj hc.2) h.step.ts))
   exact h
theorem zDr (ha:ZK atm):ZK (zfu atm):=λst h=>zAW 1300 _ (ha st h)
theorem zCj (hr:ZK rx):∀(f:Nat) (x:St×List Nat),Zs x.1->Zs (zc1 rx f x).1
 | 0,_,h=>h
 | f+1,x,h=>by
   unfold zc1;split
   . exact zCj hr f _ (hr _ h.step)
   exact h
theorem zDh {ry:Fn}:∀(f:Nat) (x:St×List Nat),(zc1 ry f x).2.length<=x.2.length+f
 | 0,_=>zMK _
 | f+1,x=>by
   unfold zc1;split
   . have:=zDh (ry:=ry) f ((ry x.1.step).1,x.2++[(ry x.1.step).2]);simp only[zMM,List.length_singleton] at this;omega
   omega
theorem zDp (hr:ZK rx)(t:Tk)(ht:t.s.size<=1200):ZK (zao rx t):=by
 intro st h;unfold zao;split
 . exact ((zCj hr 1300 _ (hr _ h.enter)).must _ _).leave.put (zz8 zGo ht (zMO (zDh 1300 _) (by simp)))
 exact h.fail _ _
theorem zEf (hr:ZK rx):ZK (zdx rx):=λ_ h =>
 (hr _ ((hr _ ((hr _ h.enter).must _ _)).must _ _)).leave.put (zz8 zG9 zzj)
theorem zDV:ZK zjx:=λ_ h=>h.step.put ⟨zMN _,h.ts,zGJ,zMN _,λ_=>rfl⟩
theorem zDa (ha:ZK atm):ZK (zch atm):=by
 intro st h;unfold zch;split
 . exact ha st h
 exact zDV st h
theorem zFB (ha:ZK atm):ZK (zeE atm):=λ_ h =>
 (zDa ha _ (zDa ha _ h.enter.name)).leave.put (zz8 zF3 h.enter.ts)
theorem zFq (hr:ZK rx):ZK (zfQ rx):=λ_ h=>((hr _ h.enter).must _ _).leave
theorem zA5 (op:Xb)(n:Nat)(ho:zHR op.toList)(hn:n<=9223372036854775807):ZK (zdP op n):=λ_ h=>h.step.put ⟨hn,zzj,ho.1,zMN _,λe=>by rw[ho.2] at e;cases e⟩
theorem zF8 {ra:Fn}(hr:ZK rx)(ha:ZK ra):ZK (zap rx ra):=by
 intro st h;unfold zap;split
 . exact h
 split
 . exact zA5 _ _ zGQ h.tn st h
 split
 . split
   . exact zDp hr _ h.ts _ h.step
   exact zDV st h
 split
 . exact zFq hr st h
 split
 . exact zA5 _ _ zEK (by omega) st h
 split
 . exact zA5 _ _ zEK (by omega) st h
 split
 . exact zEf hr st h
 split
 . exact zFB ha st h
 exact h.fail _ _
theorem zFU {eith:Fn}(hr:ZK rx)(he:ZK eith):ZK (zgk rx eith):=by
 intro st h;unfold zgk;simp only;split
 . exact (hr _ (he st h).enter).leave.put (zz8 zGI zzj)
 exact he st h
theorem zCG:∀d:Nat,ZK (lev d).ex/\ZK (lev d).un/\ZK (lev d).at'
 | 0=>⟨λ_ h=>h,λ_ h=>h,λ_ h=>h⟩
 | d+1=>by obtain⟨h1,h2,h3⟩:=zCG d;have ha:ZK (zap (lev d).ex (lev d).at'):=zF8 h1 h3;have hu:ZK (zdn (lev d).un (zfu (zap (lev d).ex (lev d).at'))):=zE9 h2 (zDr ha);exact⟨zFU h1 (zBm (zBm (zGl (zBm (zBm hu))))),hu,ha⟩
def VrS (v:Vr):Prop:=v.nm.size<=1200/\v.ck.size<=1200
structure NdS (d:Nd):Prop where
 nm:d.nm.size<=1200
 vars:∀v∈d.vars,VrS v
 exs:∀e∈d.exs,exS e
 eqs:∀q∈d.eqs,∀s∈q.ns,s.size<=1200
 ns:∀q∈d.eqs,q.ns.length<=1400
theorem zzv {α:Type}{l:List α}{a x:α}(h:x∈l++[a]):x∈l∨x=a:=by
 rcases zMY.1 h with h|h
 . exact zM3 h
 exact zM4 (zMZ.1 h)
theorem Zs.type (h:Zs st):Zs (z9 st):=by unfold z9;split;exact h.step;exact h.must _ _
theorem Zs.nott (h:Zs st):Zs (za3 st):=by unfold za3;split;exact h.step;exact h
def ZV (x:St×List Vr):Prop:=Zs x.1/\∀v∈x.2,VrS v
theorem zzy {o:Bool}(h:Zs st)(hv:∀v∈vars,VrS v):ZV (zx i o st vars):=by
 unfold zx;split
 . exact⟨h.fail _ _,hv⟩
 have h3:=(h.name.must 4 [58]).type;simp only;split
 . refine⟨h3.step.nott.name,λv hm=>?_⟩;rcases zzv hm with hm|rfl
   . exact hv v hm
   exact⟨h.ts,h3.step.nott.ts⟩
 refine⟨h3,λv hm=>?_⟩;rcases zzv hm with hm|rfl
 . exact hv v hm
 exact⟨h.ts,zzj⟩
theorem zBh:∀(f:Nat) (x:St×List Vr),ZV x->ZV (zaG i f x)
 | 0,_,h=>h
 | f+1,x,h=>by
   unfold zaG;split
   . exact zBh f _ (zzy h.1.step h.2)
   exact h
theorem zBY (h:Zs st)(hv:∀v∈vars,VrS v):ZV (zab i st vars):=by have:=zBh (i:=i) 1300 _ (zzy (i:=i) (o:=!i) (h.must 4 [40]) hv);exact⟨this.1.must _ _,this.2⟩
theorem zCx (h:Zs st)(hv:∀v∈vars,VrS v):ZV (zaR st vars) :=
 ⟨(zzy h hv).1.must _ _,(zzy h hv).2⟩
theorem zBk:∀(f:Nat) (x:St×List Vr),ZV x->ZV (zbA f x)
 | 0,_,h=>h
 | f+1,x,h=>by
   unfold zbA;split
   . exact zBk f _ (zCx h.1 h.2)
   exact h
theorem zGd (h:Zs st)(hv:∀v∈vars,VrS v):ZV (zaS f st vars):=by
 unfold zaS;split
 . exact zBk f _ (zCx h.step hv)
 exact⟨h,hv⟩
theorem zFY (h:Zs st):ZV (zaI st):=by have h3:=zBY (i:=true) (vars:=[]) (h.must 5 zW).name (λv hv=>by cases hv);exact zBY (h3.1.must _ _) h3.2
def ZN (x:Nms):Prop:=Zs x.st/\∀s∈x.ns,s.size<=1200
theorem zBN:∀(f:Nat) (x:Nms),ZN x->ZN (zbO f x)
 | 0,_,h=>h
 | f+1,x,h=>by
   unfold zbO;split
   . refine zBN f _ ⟨h.1.step.name,λs hs=>?_⟩;rcases zzv hs with hs|rfl
     . exact h.2 s hs
     exact h.1.step.ts
   exact h
theorem zF2 (h:Zs st):ZN (zaH st):=by
 unfold zaH;split
 . have h3:=h.step.name.must 4 [44];have hy:=zBN 1300 ⟨(st.step.name.must 4 [44]).name,[st.step.t.s,(st.step.name.must 4 [44]).t.s],[st.step.t.a,(st.step.name.must 4 [44]).t.a]⟩ ⟨h3.name,λs hs=>by
    simp only[zNa,List.not_mem_nil,or_false] at hs;rcases hs with rfl|rfl
    . exact h.step.ts
    exact h3.ts⟩
   exact⟨hy.1.must _ _,hy.2⟩
 exact⟨h.name,λs hs=>by rw[zMZ.1 hs];exact h.ts⟩
theorem zDm:∀(f:Nat) (x:Nms),(zbO f x).ns.length<=x.ns.length+f
 | 0,_=>zMK _
 | f+1,x=>by
   unfold zbO;split
   . have:=zDm f x.more;have h:x.more.ns.length=x.ns.length+1:=(by show (x.ns++[_]).length=_;simp);omega
   omega
theorem zFV (st:St):(zaH st).ns.length<=1400:=by
 unfold zaH;split
 . have:=zDm 1300 ⟨(st.step.name.must 4 [44]).name,[st.step.t.s,(st.step.name.must 4 [44]).t.s],[st.step.t.a,(st.step.name.must 4 [44]).t.a]⟩;exact zMO this (by simp)
 simp
def EqS (q:Eqn):Prop:=(∀s∈q.ns,s.size<=1200)/\q.ns.length<=1400
def ZQ (x:St×List Eqn):Prop:=Zs x.1/\∀q∈x.2,EqS q
theorem zAU (z17:ZK r17)(z18:ZK r18){eqs:List Eqn}(h:Zs st)(hq:∀q∈eqs,EqS q):ZQ (zF r17 r18 st eqs):=by
 have hl:=zF2 h;have h2:=hl.1.must 4 [61];have hr:Zs (zck r17 r18 (st.is 4 [40]) ((zaH st).st.must 4 [61])).1:=by
  unfold zck;split
  . exact zDp z17 _ h2.ts _ h2.name
  exact z18 _ h2
 refine⟨hr.must _ _,λq hm=>?_⟩;rcases zzv hm with hm|rfl
 . exact hq q hm
 exact⟨hl.2,zFV st⟩
theorem zC8 (z17:ZK r17)(z18:ZK r18):∀(f:Nat) (x:St×List Eqn),ZQ x->ZQ (zb5 r17 r18 f x)
 | 0,_,h=>h
 | f+1,x,h=>by
   unfold zb5;split
   . exact zC8 z17 z18 f _ (zAU z17 z18 h.1 h.2)
   exact h
theorem zCz (z17:ZK r17)(z18:ZK r18)(h:Zs st):Zs (zax r17 r18 f st).1/\NdS (zax r17 r18 f st).2:=by
 have h0:Zs st.fresh:=⟨h.src,h.tt,h.tn,h.ts,λe he=>by cases he⟩;have hh:=zFY h0;have hv:=zGd (f:=f) hh.1 hh.2;obtain⟨V,hV⟩:∃V,zaS f (zaI st.fresh).1 (zaI st.fresh).2=V:=⟨_,rfl⟩;rw[hV] at hv;have hb:=zC8 z17 z18 f _ (zAU z17 z18 (eqs:=[]) (hv.1.must 4 [123]) (λq hq=>by cases hq));have e:zax r17 r18 f st=((zdr r17 r18 f V.1).1,⟨(st.fresh.must 5 zW).t.s,(st.fresh.must 5 zW).t.a,V.2,(zdr r17 r18 f V.1).1.L,(zdr r17 r18 f V.1).2⟩):=by unfold zax;simp only;rw[hV]
 rw[e];exact⟨hb.1.must _ _,(h0.must 5 zW).ts,hv.2,(hb.1.must 4 [125]).L,λq hq=>(hb.2 q hq).1,λq hq=>(hb.2 q hq).2⟩
theorem zB1 (z17:ZK r17)(z18:ZK r18):∀(f:Nat) (x:St×List Nd),Zs x.1->(∀d∈x.2,NdS d)->∀d∈(zdZ r17 r18 g f x).2,NdS d
 | 0,_,_,h=>h
 | f+1,x,hz,h=>by
   unfold zdZ;split
   . have:=zCz z17 z18 (f:=g) hz;refine zB1 z17 z18 f _ this.1 (λd hd=>?_);rcases zzv hd with hd|rfl
     . exact h d hd
     exact this.2
   exact h
theorem zE2 (z17:ZK r17)(z18:ZK r18)(hs:s.size<=1200):∀d∈(zgo r17 r18 g s).2,NdS d:=by have h1:=zV s 0 (zMN _);have h0:Zs (⟨s,zZ s 0,0,0,0,[]⟩:St):=⟨hs,h1.2.2.1,h1.2.2.2.1,zCE s 0 hs,λe he=>by cases he⟩;have:=zCz z17 z18 (f:=g) h0;exact zB1 z17 z18 g _ this.1 (λd hd=>by rw[zMZ.1 hd];exact this.2)
theorem zBg:∀(f:Nat) (x:St×List Nd),x.2.length<=6->(zdZ r17 r18 g f x).2.length<=6
 | 0,_,h=>h
 | f+1,x,h=>by
   unfold zdZ;split
   . rename_i hc
     exact zBg f _ (by simp;omega)
   exact h
theorem zDZ (r17 r18:Fn)(g:Nat)(s:Xb):(zgo r17 r18 g s).2.length<=6:=zBg g _ (by simp)
end
section
variable {part:Fn} {lv n:Nat} {st:St} {t:Tk}
def nmO (l:Xu):Bool:=l==[118,97,114]||l==[99,97,108,108]||l==[109,101,114,103,101]||l==[119,104,101,110]||l==[119,104,101,110,111,116]
def exN (e:Ex):Prop:=(nmO e.op.toList=true->zNi e.s)/\(nmO e.op.toList=false->e.s=sE)
structure Nz (st:St):Prop where
 tt:st.t.t<=st.src.size
 nm:st.t.k=2->zNi st.t.s
 L:st.er=0->∀e∈st.L,exN e
 er:st.er=0∨st.er=2∨st.er=3
structure NzK (M:Fn):Prop where
 go:∀st,Nz st->Nz (M st).1
 bk:∀st:St,st.er≠0->(M st).1=st
theorem Nz.step (h:Nz st):Nz st.step:=by
 unfold St.step;split
 . rename_i he
   exact⟨(zV st.src st.t.t h.tt).2.2.1,λe=>zPE h.tt e,λ_=>h.L he,h.er⟩
 exact h
theorem Nz.fail (h:Nz st){e:Nat}(he:e=2∨e=3)(a:Nat):Nz (st.fail e a):=by
 have he0:e≠0:=by rcases he with rfl|rfl <;> decide
 unfold St.fail;split
 . exact⟨h.tt,λe=>(by cases e),λe=>absurd e he0,.inr he⟩
 rename_i h0;exact⟨h.tt,λe=>(by cases e),λe=>absurd e h0,h.er⟩
theorem Nz.must (h:Nz st)(k:Nat)(l:Xu):Nz (st.must k l):=by unfold St.must;split;exact h.step;exact h.fail (by decide) _
theorem Nz.name (h:Nz st):Nz st.name:=by unfold St.name;split;exact h.step;exact h.fail (by decide) _
theorem Nz.enter (h:Nz st):Nz st.enter:=by have h1:Nz ({ st with op:=st.op+1 }:St):=⟨h.tt,h.nm,h.L,h.er⟩;unfold St.enter;split;exact h1.fail (by decide) _;exact h1.step
theorem Nz.leave (h:Nz st):Nz st.leave:=⟨h.tt,h.nm,h.L,h.er⟩
theorem Nz.put (h:Nz st){e:Ex}(he:st.er=0->exN e):Nz (st.put e).1:=by
 refine⟨h.tt,h.nm,λh0 x hx=>?_,h.er⟩;rcases zMY.1 (show x∈st.L++[e] from hx) with hx|hx
 . exact h.L h0 x hx
 rw[zMZ.1 hx];exact he h0
theorem zO0 {op:Xb}{a b:Nat}{l:Xn}(h:nmO op.toList=false):exN ⟨op,a,b,l,sE,n⟩:=⟨λe=>(by simp only at e;rw[h] at e;cases e),λ_=>rfl⟩
theorem zNI (h:st.name.er=0):st.t.k=2:=by
 unfold St.name at h;split at h
 . rename_i e;exact e
 exact absurd h (St.fail_er _ (by decide))
theorem zNw {k:Nat}{l:Xu}(h:(st.must k l).er=0):st.er=0:=by
 by_cases e:st.er=0
 . exact e
 rw[zQp e] at h;exact absurd h e
theorem NzK.er {M:Fn}(h:NzK M)(e:(M st).1.er=0):st.er=0:=by
 by_cases e':st.er=0
 . exact e'
 rw[h.bk st e'] at e;exact absurd e e'
theorem zRI (h:zco t n=true):nmO t.s.toList=false:=by
 unfold zco at h;split at h
 . cases h
 split at h
 . rename_i e;rcases e with e|e <;> rw[e] <;> rfl
 split at h
 . rename_i e;rw[e];rfl
 split at h
 . rename_i e;rcases e with e|e <;> rw[e] <;> rfl
 split at h
 . rename_i e;rcases e with e|e|e <;> rw[e] <;> rfl
 cases h
theorem zQj (hp:NzK part):∀(f:Nat) (x:St×Nat),Nz x.1->Nz (zdq lv part f x).1
 | 0,_,h=>h
 | f+1,x,h=>by
   unfold zdq;split
   . rename_i hc
     exact zQj hp f _ ((hp.go _ h.step).put (λ_=>zO0 (zRI hc.2)))
   exact h
theorem zOP (hp:NzK part):NzK (zcT lv part):=⟨λst h=>zQj hp 1300 _ (hp.go st h),λst e=>by rw[zNH (.inl (by rw[hp.bk st e];exact e)),hp.bk st e]⟩
theorem zSb (h:zcn t=true):nmO t.s.toList=false:=by unfold zcn at h;simp only[Bool.and_eq_true,Bool.or_eq_true,beq_iff_eq] at h;rcases h.2 with ((e|e)|e)|e <;> rw[e] <;> rfl
theorem zR4 {sum:Fn}(hs:NzK sum):NzK (zdJ sum):=by
 refine⟨λst h=>?_,λst e=>by rw[zOp (.inl (by rw[hs.bk st e];exact e)),hs.bk st e]⟩;unfold zdJ;simp only;split
 . rename_i hc
   exact (hs.go _ (hs.go st h).step).put (λ_=>zO0 (zSb hc.2))
 exact hs.go st h
theorem zRN {ru smp:Fn}(hr:NzK ru)(hs:NzK smp):NzK (zdn ru smp):=by
 refine⟨λst h=>?_,λst e=>by rw[zN3 (λh=>e h.1),hs.bk st e]⟩;unfold zdn;split
 . refine (hr.go _ h.enter).leave.put (λ_=>zO0 ?_);split <;> decide +kernel
 exact hs.go st h
theorem zOt:∀(f:Nat) (x:St×Nat),Nz x.1->Nz (zaY f x).1
 | 0,_,h=>h
 | f+1,x,h=>by
   unfold zaY;split
   . rename_i hc
     refine zOt f _ (h.step.name.put (λe=>?_));have hk:=h.step.nm (zNI e);have ho:nmO x.1.t.s.toList=true:=(by have:=hc.2;unfold zdi St.is at this;simp only[Bool.and_eq_true,Bool.or_eq_true,beq_iff_eq] at this;rcases this with e|e <;> rw[e.2] <;> rfl);exact⟨λ_=>hk,λe=>by simp only at e;rw[ho] at e;cases e⟩
   exact h
theorem zQK {atm:Fn}(ha:NzK atm):NzK (zfu atm):=⟨λst h=>zOt 1300 _ (ha.go st h),λst e=>by rw[zND (.inl (by rw[ha.bk st e];exact e)),ha.bk st e]⟩
end
section
variable {atm rx:Fn} {st:St}
theorem zOz {op:Xb}{n:Nat}(ho:nmO op.toList=false)(h:Nz st):Nz (zdP op n st).1:=h.step.put (λ_=>zO0 ho)
theorem zQY (h:Nz st)(hk:st.t.k=2):Nz (zjx st).1:=h.step.put (λ_=>⟨λ_=>h.nm hk,λe=>absurd e (by show ¬nmO zfR.toList=false;decide +kernel)⟩)
theorem zR7 (ha:NzK atm):NzK (zch atm):=by
 refine⟨λst h=>?_,λst e=>?_⟩
 . unfold zch;split
   . exact ha.go st h
   rename_i hc
   exact zQY h (Classical.byContradiction λe=>hc (.inr e))
 unfold zch;rw[zM2 (.inl e)];exact ha.bk st e
theorem zOC (hr:NzK rx):∀(f:Nat) (x:St×List Nat),Nz x.1->Nz (zc1 rx f x).1/\((zc1 rx f x).1.er=0->x.1.er=0)
 | 0,_,h=>⟨h,id⟩
 | f+1,x,h=>by
   unfold zc1;split
   . rename_i hc
     have:=zOC hr f ((rx x.1.step).1,x.2++[(rx x.1.step).2]) (hr.go _ h.step);exact⟨this.1,λ_=>hc.1⟩
   exact⟨h,id⟩
theorem zR8 (hr:NzK rx){tk:Tk}(ht:zNi tk.s)(h:Nz st):Nz (zao rx tk st).1:=by
 unfold zao;split
 . simp only;unfold zbG;exact (((zOC hr 1300 _ (hr.go _ h.enter)).1.must _ _).leave).put (λ_=>⟨λ_=>ht,λe=>absurd e (by show ¬nmO zef.toList=false;decide +kernel)⟩)
 exact h.fail (by decide) _
theorem zQ8 (hr:NzK rx)(h:Nz st):Nz (zdx rx st).1 :=
 ((hr.go _ ((hr.go _ ((hr.go _ h.enter).must _ _)).must _ _)).leave).put (λ_=>zO0 (by decide +kernel))
theorem zRJ (ha:NzK atm)(h:Nz st):Nz (zeE atm st).1:=by have hs:=zR7 ha;refine ((hs.go _ (hs.go _ h.enter.name)).leave).put (λe=>⟨λ_=>?_,λe=>absurd e (by show ¬nmO zep.toList=false;decide +kernel)⟩);exact h.enter.nm (zNI (hs.er (hs.er e)))
theorem zRH (hr:NzK rx)(h:Nz st):Nz (zfQ rx st).1:=((hr.go _ h.enter).must _ _).leave
theorem zSa {ra:Fn}(hr:NzK rx)(ha:NzK ra):NzK (zap rx ra):=by
 refine⟨λst h=>?_,λst e=>zQn e⟩;unfold zap;split
 . exact h
 split
 . exact zOz (by decide +kernel) h
 split
 . rename_i hk
   split
   . exact zR8 hr (h.nm hk) h.step
   exact zQY h hk
 split
 . exact zRH hr h
 split
 . exact zOz (by decide +kernel) h
 split
 . exact zOz (by decide +kernel) h
 split
 . exact zQ8 hr h
 split
 . exact zRJ ha h
 exact h.fail (by decide) _
theorem zR6 {eith:Fn}(hr:NzK rx)(he:NzK eith):NzK (zgk rx eith):=by
 refine⟨λst h=>?_,λst e=>by rw[zOi (.inl (by rw[he.bk st e];exact e)),he.bk st e]⟩;unfold zgk;simp only;split
 . exact ((hr.go _ (he.go st h).enter).leave).put (λ_=>zO0 (by decide +kernel))
 exact he.go st h
theorem zOe:∀d:Nat,NzK (lev d).ex/\NzK (lev d).un/\NzK (lev d).at'
 | 0=>⟨⟨λ_ h=>h,λ_ _=>rfl⟩,⟨λ_ h=>h,λ_ _=>rfl⟩,⟨λ_ h=>h,λ_ _=>rfl⟩⟩
 | d+1=>by obtain⟨h1,h2,h3⟩:=zOe d;have ha:NzK (lev (d+1)).at':=(by rw[zNT];exact zSa h1 h3);have hu:NzK (lev (d+1)).un:=(by rw[zOf];exact zRN h2 (zQK ha));refine⟨?_,hu,ha⟩;rw[zOR];exact zR6 h1 (zOP (zOP (zR4 (zOP (zOP hu)))))
end
section
theorem zbu.bk {a b:St}(h:zbu a b)(e:b.er=0):a.er=0:=by
 by_cases e':a.er=0
 . exact e'
 rw[(h e').1] at e;exact absurd e e'
theorem Nz.type {st:St}(h:Nz st):Nz (z9 st):=by unfold z9;split;exact h.step;exact h.must _ _
theorem Nz.nott {st:St}(h:Nz st):Nz (za3 st):=by unfold za3;split;exact h.step;exact h
section
variable {st:St} {vars:List Vr} {i o:Bool}
theorem zNN (h:Nz st):Nz (zx i o st vars).1:=by
 unfold zx;split
 . exact h.fail (by decide) _
 simp only;split
 . exact (((h.name.must _ _).type).step.nott).name
 exact (h.name.must _ _).type
theorem zPU (h:Nz st)(he:(zx i o st vars).1.er=0):∃v,(zx i o st vars).2=vars++[v]/\RdV v/\v.inn=i/\v.out=o:=by
 unfold zx at he ⊢;split
 . rename_i hl
   rw[zM2 hl] at he;exact absurd he (St.fail_er _ (by decide))
 rename_i hl
 rw[zM1 hl] at he;simp only at he ⊢;split
 . rename_i hc
   rw[zM2 hc] at he;have h3:=(h.name.must 4 [58]).type;have hk2:=zNI he;have e5:(za3 (z9 (st.name.must 4 [58])).step).er=0:=(zbu.name _).bk he;have e1:st.name.er=0:=(zbu.must _ 4 [58]).bk ((zEj _).bk ((zbu.step _).bk ((zFA _).bk e5)));simp only[Bool.and_eq_true,Bool.not_eq_true'] at hc;exact⟨_,rfl,⟨h.nm (zNI e1),λ_=>⟨h3.step.nott.nm hk2,hc.1.2,hc.2⟩,λe=>by cases e⟩,rfl,rfl⟩
 rename_i hc
 rw[zM1 hc] at he;have e1:st.name.er=0:=(zbu.must _ 4 [58]).bk ((zEj _).bk he);exact⟨_,rfl,⟨h.nm (zNI e1),λe=>(by cases e),λ_=>⟨rfl,rfl⟩⟩,rfl,rfl⟩
end
theorem zSq {st:St}(h:Nz st):Nz (zaH st).st/\((zaH st).st.er=0->∀s∈(zaH st).ns,zNi s):=by
 have nf:∀(f:Nat) (x:Nms),Nz x.st->(x.st.er=0->∀s∈x.ns,zNi s)->Nz (zbO f x).st/\((zbO f x).st.er=0->∀s∈(zbO f x).ns,zNi s):=by
  intro f;induction f with
  | zero=>intro x h1 h2;exact⟨h1,h2⟩
  | succ f ih =>
    intro x h1 h2;unfold zbO;split
    . rename_i hc
      refine ih x.more h1.step.name (λe s hs=>?_);rcases zMY.1 (show s∈x.ns++[x.st.step.t.s] from hs) with hs|hs
      . exact h2 hc.1 s hs
      rw[zMZ.1 hs];exact h1.step.nm (zNI e)
    exact⟨h1,h2⟩
 unfold zaH;split
 . unfold zdH;simp only;have h3:=h.step.name.must 4 [44];have:=nf 1300 ⟨(st.step.name.must 4 [44]).name,[st.step.t.s,(st.step.name.must 4 [44]).t.s],[st.step.t.a,(st.step.name.must 4 [44]).t.a]⟩ h3.name (λe s hs=>by
    have e3:(st.step.name.must 4 [44]).er=0:=(zbu.name _).bk e;simp only[zNa,List.not_mem_nil,or_false] at hs;rcases hs with rfl|rfl
    . exact h.step.nm (zNI ((zbu.must _ 4 [44]).bk e3))
    exact h3.nm (zNI e))
   exact⟨this.1.must _ _,λe=>this.2 ((zbu.must _ 4 [41]).bk e)⟩
 exact⟨h.name,λe s hs=>by rw[zMZ.1 hs];exact h.nm (zNI e)⟩
end
section
variable {st:St}
theorem zbu.enter (st:St):zbu st st.enter:=λh=>by
 unfold St.enter;split
 . exact zbu.fail ({ st with op:=st.op+1 }:St) _ _ h
 exact zbu.step ({ st with op:=st.op+1 }:St) h
theorem zPW (st:St):(zaH st).ns.length<=1302:=by
 unfold zaH;split
 . have:=zDm 1300 ⟨(st.step.name.must 4 [44]).name,[st.step.t.s,(st.step.name.must 4 [44]).t.s],[st.step.t.a,(st.step.name.must 4 [44]).t.a]⟩;exact zMO this (by simp)
 simp
structure QzE (L:List Ex) (e:Eqn):Prop where
 ns:∀s∈e.ns,zNi s
 one:1<=e.ns.length
 len:e.ns.length<=1302
 call:e.ns.length≠1->∃x,L[e.ex]?=some x/\x.op=zef
theorem QzE.more {L L':List Ex}{e:Eqn}(h:QzE L e)(hp:L <+: L'):QzE L' e:=⟨h.ns,h.one,h.len,λhn=>by
 obtain⟨x,h1,h2⟩:=h.call hn;obtain⟨E,rfl⟩:=hp;exact⟨x,by rw[zM6 (zMJ.1 h1).1];exact h1,h2⟩⟩
theorem zEH (s:St)(e:Ex):(s.put e).1.L[(s.put e).2]?=some e:=by show (s.L++[e])[s.L.length]?=_;rw[zM5 (zMK _),Nat.sub_self];rfl
theorem zRK {rx:Fn}(hr:NzK rx){tk:Tk}(ht:st.er=0->zNi tk.s)(h:Nz st):Nz (zao rx tk st).1/\((zao rx tk st).1.er=0->st.er=0/\∃x,(zao rx tk st).1.L[(zao rx tk st).2]?=some x/\x.op=zef):=by
 unfold zao;split
 . simp only;unfold zbG;have ha:=zOC hr 1300 ((rx st.enter).1,[(rx st.enter).2]) (hr.go _ h.enter);have hb:((zc1 rx 1300 ((rx st.enter).1,[(rx st.enter).2])).1.must 4 [41]).leave.er=0->st.er=0:=λe=>(zbu.enter st).bk (hr.er (ha.2 (zNw e)));refine⟨((ha.1.must _ _).leave).put (λe=>⟨λ_=>ht (hb e),λe=>absurd e (by show ¬nmO zef.toList=false;decide +kernel)⟩),λe=>⟨hb e,?_⟩⟩;exact⟨_,zEH _ _,rfl⟩
 exact⟨h.fail (by decide) _,λe=>absurd e (St.fail_er _ (by decide))⟩
theorem zQV (st:St):1<=(zaH st).ns.length/\(st.is 4 [40]=false->(zaH st).ns.length=1):=by
 have nf:∀(f:Nat) (x:Nms),x.ns.length<=(zbO f x).ns.length:=by
  intro f;induction f with
  | zero=>intro x;exact zMK _
  | succ f ih =>
    intro x;unfold zbO;split
    . refine zMO ?_ (ih x.more)
      show x.ns.length<=(x.ns++[x.st.step.t.s]).length;simp
    exact zMK _
 unfold zaH;split
 . rename_i hc
   refine⟨?_,λe=>by rw[hc] at e;cases e⟩;unfold zdH;simp only;exact zMO (by simp) (nf 1300 _)
 exact⟨zMK _,λ_=>rfl⟩
theorem zPZ {r17 r18:Fn}(h17:NzK r17)(h18:NzK r18)(h:Nz st)(es:List Eqn) :
 Nz (zF r17 r18 st es).1/\((zF r17 r18 st es).1.er=0->∃e,(zF r17 r18 st es).2=es++[e]/\QzE (zF r17 r18 st es).1.L e):=by
 unfold zF;simp only;obtain⟨l1,l2⟩:=zSq h;obtain⟨l3,l4⟩:=zQV st;have m1:=l1.must 4 [61];obtain⟨s1,hs1⟩:∃s1,(zaH st).st.must 4 [61]=s1:=⟨_,rfl⟩;have bk:s1.er=0->(zaH st).st.er=0:=λe=>zNw (by rw[hs1];exact e);rw[hs1] at m1 ⊢;cases hp:st.is 4 [40] with
 | false => show Nz ((r18 s1).1.must 4 [59])/\(((r18 s1).1.must 4 [59]).er=0->_);refine⟨(h18.go _ m1).must _ _,λe=>⟨_,rfl,⟨l2 (bk (h18.er (zNw e))),l3,zPW st,λhn=>absurd (l4 hp) hn⟩⟩⟩
 | true => show Nz ((zao r17 s1.t s1.name).1.must 4 [59])/\(((zao r17 s1.t s1.name).1.must 4 [59]).er=0->∃e,es++[⟨(zaH st).ns,(zaH st).ps,(zaH st).st.t.a,(zao r17 s1.t s1.name).2⟩]=es++[e]/\QzE ((zao r17 s1.t s1.name).1.must 4 [59]).L e);have hc:=zRK h17 (tk:=s1.t) (λe=>m1.nm (zNI e)) m1.name;refine⟨hc.1.must _ _,λe=>⟨_,rfl,?_⟩⟩;obtain⟨e1,hx⟩:=hc.2 (zNw e);rw[St.must_L];exact⟨l2 (bk ((zbu.name s1).bk e1)),l3,zPW st,λ_=>hx⟩
end
section
variable {vs:List Vr} {st:St}
def Vz (i o:Bool)(vs:List Vr):Prop:=∀v∈vs,RdV v/\v.inn=i/\v.out=o
section
variable {i:Bool}
theorem zON:∀(f:Nat) (x:St×List Vr) (vs:List Vr),Nz x.1->(x.1.er=0->∃ws,x.2=vs++ws/\Vz i (!i) ws/\1<=ws.length)->Nz (zaG i f x).1/\((zaG i f x).1.er=0->∃ws,(zaG i f x).2=vs++ws/\Vz i (!i) ws/\1<=ws.length)
 | 0,x,vs,h,hv=>⟨h,hv⟩
 | f+1,x,vs,h,hv=>by
   unfold zaG;split
   . rename_i hc
     refine zON f _ vs (zNN h.step) (λe=>?_);obtain⟨v,e1,e2,e3,e4⟩:=zPU h.step e;obtain⟨ws,f1,f2,f3⟩:=hv hc.1;refine⟨ws++[v],by rw[e1,f1,zMQ],λu hu=>?_,by simp⟩;rcases zMY.1 hu with hu|hu
     . exact f2 u hu
     rw[zMZ.1 hu];exact⟨e2,e3,e4⟩
   exact⟨h,hv⟩
theorem zPl (h:Nz st):Nz (zab i st vs).1/\((zab i st vs).1.er=0->∃ws,(zab i st vs).2=vs++ws/\Vz i (!i) ws/\1<=ws.length):=by
 unfold zab;simp only;have:=zON (i:=i) 1300 (zx i (!i) (st.must 4 [40]) vs) vs (zNN (h.must _ _)) (λe=>by
  obtain⟨v,e1,e2,e3,e4⟩:=zPU (h.must 4 [40]) e;exact⟨[v],e1,λu hu=>by rw[zMZ.1 hu];exact⟨e2,e3,e4⟩,zMK _⟩)
 exact⟨this.1.must _ _,λe=>this.2 (zNw e)⟩
end
theorem zPG (h:Nz st):Nz (zaR st vs).1/\((zaR st vs).1.er=0->∃v,(zaR st vs).2=vs++[v]/\RdV v/\v.inn=false/\v.out=false):=by unfold zaR;simp only;exact⟨(zNN h).must _ _,λe=>zPU h (zNw e)⟩
theorem zOM:∀(f:Nat) (x:St×List Vr) (vs:List Vr),Nz x.1->(x.1.er=0->∃ws,x.2=vs++ws/\Vz false false ws)->Nz (zbA f x).1/\((zbA f x).1.er=0->∃ws,(zbA f x).2=vs++ws/\Vz false false ws)
 | 0,x,vs,h,hv=>⟨h,hv⟩
 | f+1,x,vs,h,hv=>by
   unfold zbA;split
   . rename_i hc
     have hl:=zPG (vs:=x.2) h;refine zOM f _ vs hl.1 (λe=>?_);obtain⟨v,e1,e2,e3,e4⟩:=hl.2 e;obtain⟨ws,f1,f2⟩:=hv hc.1;refine⟨ws++[v],by rw[e1,f1,zMQ],λu hu=>?_⟩;rcases zMY.1 hu with hu|hu
     . exact f2 u hu
     rw[zMZ.1 hu];exact⟨e2,e3,e4⟩
   exact⟨h,hv⟩
theorem zSn {f:Nat}(h:Nz st):Nz (zaS f st vs).1/\((zaS f st vs).1.er=0->∃ws,(zaS f st vs).2=vs++ws/\Vz false false ws):=by
 unfold zaS;split
 . have hl:=zPG (vs:=vs) h.step;exact zOM f _ vs hl.1 (λe=>by
    obtain⟨v,e1,e2,e3,e4⟩:=hl.2 e;exact⟨[v],e1,λu hu=>by rw[zMZ.1 hu];exact⟨e2,e3,e4⟩⟩)
 exact⟨h,λ_=>⟨[],by simp,λu hu=>by cases hu⟩⟩
end
section
variable {p:Nat}
section
variable {r17 r18:Fn}
theorem zP4 (g17:zv 17 r17)(g18:zv 18 r18)(h17:NzK r17)(h18:NzK r18){x:St×List Eqn}(hI:Inv p x.1)(ho:x.1.op=0)(h:Nz x.1)(hv:x.1.er=0->∀e∈x.2,QzE x.1.L e) :
 Nz (zF r17 r18 x.1 x.2).1/\((zF r17 r18 x.1 x.2).1.er=0->1<=(zF r17 r18 x.1 x.2).2.length/\∀e∈(zF r17 r18 x.1 x.2).2,QzE (zF r17 r18 x.1 x.2).1.L e):=by
 have g:=za1 g17 g18 (eqs:=x.2) hI ho;have hq:=zPZ h17 h18 h x.2;refine⟨hq.1,λe=>?_⟩;obtain⟨q,e1,e2⟩:=hq.2 e;have he:x.1.er=0:=by
  by_cases h0:x.1.er=0
  . exact h0
  exact absurd e (g.1.er h0)
 obtain⟨E,hE⟩:=g.1.L;rw[e1];refine⟨by simp,λu hu=>?_⟩;rcases zMY.1 hu with hu|hu
 . exact (hv he u hu).more ⟨E,hE.symm⟩
 rw[zMZ.1 hu];exact e2
theorem zQi (g17:zv 17 r17)(g18:zv 18 r18)(h17:NzK r17)(h18:NzK r18):∀(f p:Nat) (x:St×List Eqn),Inv p x.1->x.1.op=0->Nz x.1->(x.1.er=0->1<=x.2.length/\∀e∈x.2,QzE x.1.L e) ->
 Nz (zb5 r17 r18 f x).1/\((zb5 r17 r18 f x).1.er=0->1<=(zb5 r17 r18 f x).2.length/\∀e∈(zb5 r17 r18 f x).2,QzE (zb5 r17 r18 f x).1.L e)
 | 0,p,x,_,_,h,hv=>⟨h,hv⟩
 | f+1,p,x,hI,ho,h,hv=>by
   unfold zb5;split
   . have g:=za1 g17 g18 (eqs:=x.2) hI ho;have h1:=zP4 g17 g18 h17 h18 hI ho h (λe=>(hv e).2);exact zQi g17 g18 h17 h18 f p _ g.1.inv (g.2.trans ho) h1.1 h1.2
   exact⟨h,hv⟩
theorem zSd (g17:zv 17 r17)(g18:zv 18 r18)(h17:NzK r17)(h18:NzK r18){f:Nat}{st:St}(hI:Inv p st)(ho:st.op=0)(h:Nz st) :
 Nz (zdr r17 r18 f st).1/\((zdr r17 r18 f st).1.er=0->1<=(zdr r17 r18 f st).2.length/\∀e∈(zdr r17 r18 f st).2,QzE (zdr r17 r18 f st).1.L e):=by
 unfold zdr;simp only;have m1:=Fwd.must hI 4 [123];have o1:(st.must 4 [123]).op=0:=by rw[St.must_op,ho]
 have g:=za1 g17 g18 (eqs:=[]) m1.inv o1;have h1:=zP4 (x:=(st.must 4 [123],[])) g17 g18 h17 h18 m1.inv o1 (h.must _ _) (λ_ e he=>by cases he);have h2:=zQi g17 g18 h17 h18 f p _ g.1.inv (g.2.trans o1) h1.1 h1.2;generalize zb5 r17 r18 f _=X at *;refine⟨h2.1.must _ _,λe=>?_⟩;rw[St.must_L];exact h2.2 (zNw e)
end
end
section
variable {st:St}
structure NzN (d:Nd):Prop where
 nm:zNi d.nm
 vars:∃A B C,d.vars=A++(B++C)/\Vz true false A/\Vz false true B/\Vz false false C/\1<=A.length/\1<=B.length
 one:1<=d.eqs.length
 eqs:∀e∈d.eqs,QzE d.exs e
 exs:∀e∈d.exs,exN e
theorem zSk (h:Nz st):Nz (zaI st).1/\((zaI st).1.er=0->zNi (st.must 5 zW).t.s/\∃A B,(zaI st).2=A++B/\Vz true false A/\Vz false true B/\1<=A.length/\1<=B.length):=by have n1:=h.must 5 zW;have p1:=zPl (i:=true) (vs:=[]) n1.name;have sp:=zzV true (st.must 5 zW).name [];unfold zaI;simp only;generalize zab true (st.must 5 zW).name []=X at *;have p2:=zPl (i:=false) (vs:=X.2) (p1.1.must 4 [45,62]);have sq:=zzV false (X.1.must 4 [45,62]) X.2;generalize zab false (X.1.must 4 [45,62]) X.2=Y at *;refine⟨p2.1,λe=>?_⟩;have eX:X.1.er=0:=zNw (sq.bk e);obtain⟨A,a1,a2,a3⟩:=p1.2 eX;obtain⟨B,b1,b2,b3⟩:=p2.2 e;exact⟨n1.nm (zNI (sp.bk eX)),A,B,by rw[b1,a1,List.nil_append],a2,b2,a3,b3⟩
section
variable {r17 r18:Fn}
theorem zQq (g17:zv 17 r17)(g18:zv 18 r18)(h17:NzK r17)(h18:NzK r18){f p:Nat}(hI:Inv p st)(ho:st.op=0)(h:Nz st):Nz (zax r17 r18 f st).1/\((zax r17 r18 f st).1.er=0->NzN (zax r17 r18 f st).2):=by
 have hF:Nz st.fresh:=⟨h.tt,h.nm,λ_ e he=>(by cases he),h.er⟩;have h0:=Fwd.fresh hI;have gh:=zit h0;have ph:=zSk hF;unfold zax;simp only;have oH:(zaI st.fresh).1.op=0:=by rw[gh.2.1];exact ho
 generalize zaI st.fresh=H at *;have gv:=zeP (f:=f) (vars:=H.2) gh.1.inv;have p3:=zSn (f:=f) (vs:=H.2) (st:=H.1) ph.1;have oV:(zaS f H.1 H.2).1.op=0:=by rw[gv.2.1];exact oH
 generalize zaS f H.1 H.2=Z at *;have gb:=zkQ g17 g18 (f:=f) gv.1.inv oV;have p4:=zSd (f:=f) g17 g18 h17 h18 gv.1.inv oV p3.1;generalize zdr r17 r18 f Z.1=W at *;refine⟨p4.1,λe=>?_⟩;have eZ:=gb.2.2.1.back e;obtain⟨C,c1,c2⟩:=p3.2 eZ;obtain⟨hn,A,B,a1,a2,b2,a3,b3⟩:=ph.2 (gv.1.back eZ);obtain⟨q1,q2⟩:=p4.2 e;exact⟨hn,⟨A,B,C,by show Z.2=_;rw[c1,a1,zMQ],a2,b2,c2,a3,b3⟩,q1,q2,p4.1.L e⟩
theorem zPf (g17:zv 17 r17)(g18:zv 18 r18)(h17:NzK r17)(h18:NzK r18)(g:Nat):∀(f p:Nat) (x:St×List Nd),Inv p x.1->x.1.op=0->Nz x.1->(x.1.er=0->∀d∈x.2,NzN d)->Nz (zdZ r17 r18 g f x).1/\((zdZ r17 r18 g f x).1.er=0->∀d∈(zdZ r17 r18 g f x).2,NzN d)
 | 0,p,x,_,_,h,hv=>⟨h,hv⟩
 | f+1,p,x,hI,ho,h,hv=>by
   unfold zdZ;split
   . rename_i hc
     have hk:=Inv.is_ok hI (by decide) hc.1;have hn:=zQq (f:=g) g17 g18 h17 h18 hI ho h;obtain⟨_,_,hi,hop,_⟩:=zhx g17 g18 (f:=g) (nodes:=[]) hI ho (by simp);refine zPf g17 g18 h17 h18 g f 0 _ hi hop hn.1 (λe1 d hd=>?_);rcases zMY.1 hd with hd|hd
     . exact hv hk d hd
     rw[zMZ.1 hd];exact hn.2 e1
   exact⟨h,hv⟩
theorem Nz.last (h:Nz st):Nz (zbB st):=by unfold zbB;split;exact h;exact h.fail (by decide) _
theorem zQr (g17:zv 17 r17)(g18:zv 18 r18)(h17:NzK r17)(h18:NzK r18)(g:Nat)(s:Xb)(hI:Inv 0 (⟨s,zZ s 0,0,0,0,[]⟩:St)):Nz (zgo r17 r18 g s).1/\((zgo r17 r18 g s).1.er=0->∀d∈(zgo r17 r18 g s).2,NzN d):=by unfold zgo;simp only;have h0:Nz (⟨s,zZ s 0,0,0,0,[]⟩:St):=⟨(zV s 0 (zMN _)).2.2.1,λe=>zPE (zMN _) e,λ_ e he=>(by cases he),.inl rfl⟩;have hn:=zQq (f:=g) g17 g18 h17 h18 hI rfl h0;obtain⟨_,_,hi,hop,_⟩:=zhx g17 g18 (f:=g) (nodes:=[]) hI rfl (by simp);have:=zPf g17 g18 h17 h18 g g 0 ((zax r17 r18 g ⟨s,zZ s 0,0,0,0,[]⟩).1,[(zax r17 r18 g ⟨s,zZ s 0,0,0,0,[]⟩).2]) hi hop hn.1 (λe1 d hd=>by rw[zMZ.1 hd];exact hn.2 e1);exact⟨this.1.last,λe=>this.2 ((zzQ _).bk e)⟩
end
end
section
theorem zNJ (t:Tm):(eT t).k=t.k:=by cases t;rw[eT];rfl
mutual
theorem zRs:∀t:Tm,exT (eT t)=exT t
 | .mk k a s nm n ts=>by
   rw[eT,exT,exT,zRU ts];have:(eL ts).map Tm.k=ts.map Tm.k:=by rw[zNC,List.map_map];exact List.map_congr_left (λt _=>zNJ t)
   rw[this]
theorem zRU:∀ts:List Tm,exL (eL ts)=exL ts
 | []=>by rw[eL]
 | t::l=>by rw[eL,exL,exL,zRs t,zRU l]
end
theorem zR9 {t u:Tm}(h:eT t=eT u):exT t=exT u:=by rw[<- zRs t,<- zRs u,h]
theorem zQ1 (v:Vr):zu7 (eV v)=zu7 v:=rfl
theorem zSH (v:Vr):zu9 (eV v)=zu9 v:=rfl
theorem zQx {α:Type}{F:Vr->α}(hF:∀v,F (eV v)=F v){l l':List Vr}(h:l.map eV=l'.map eV):l.map F=l'.map F:=by
 have e:∀l:List Vr,l.map F=(l.map eV).map F:=λl=>by rw[List.map_map];exact List.map_congr_left (λv _=>(hF v).symm)
 rw[e l,e l',h]
theorem zRa {q q':Qn}(hn:q'.ns=q.ns)(hr:eT q'.r=eT q.r):zvd q'=zvd q:=by unfold zvd;rw[hn,zR9 hr]
structure QnE (q' q:Qn):Prop where
 ns:q'.ns=q.ns
 r:eT q'.r=eT q.r
structure zQF (n' n:Nod):Prop where
 nm:n'.nm=n.nm
 ins:n'.ins=n.ins
 outs:n'.outs=n.outs
 vars:n'.vars.map eV=n.vars.map eV
 len:n'.eqs.length=n.eqs.length
 eqs:∀(i:Nat) (q' q:Qn),n'.eqs[i]?=some q'->n.eqs[i]?=some q->QnE q' q
theorem zQw {n' n:Nod}(h:zQF n' n):zu4 n'=zu4 n:=by
 have e1:(n'.vars.take n'.ins).map zu7=(n.vars.take n.ins).map zu7:=by rw[List.map_take,List.map_take,h.ins,zQx zQ1 h.vars]
 have e2:((n'.vars.drop n'.ins).take n'.outs).map zu7=((n.vars.drop n.ins).take n.outs).map zu7:=by rw[List.map_take,List.map_take,List.map_drop,List.map_drop,h.ins,h.outs,zQx zQ1 h.vars]
 have e3:(n'.vars.drop (n'.ins+n'.outs)).map zu9=(n.vars.drop (n.ins+n.outs)).map zu9:=by rw[List.map_drop,List.map_drop,h.ins,h.outs,zQx zSH h.vars]
 have e4:(n'.vars.drop (n'.ins+n'.outs)).flatMap zu9=(n.vars.drop (n.ins+n.outs)).flatMap zu9:=by rw[List.flatMap_def,List.flatMap_def,e3]
 have e5:(n'.vars.drop (n'.ins+n'.outs)).length=(n.vars.drop (n.ins+n.outs)).length:=by have:=congrArg List.length e3;rwa [List.length_map,List.length_map] at this
 have e6:n'.eqs.map zvd=n.eqs.map zvd:=by
  apply List.ext_getElem?;intro i;rw[List.getElem?_map,List.getElem?_map];by_cases hi:i<n.eqs.length
  . have h1:=zsc (show i<n'.eqs.length by rw[h.len];exact hi);have h2:=zsc hi;have:=h.eqs i _ _ h1 h2;rw[h1,h2];exact congrArg some (zRa this.ns this.r)
  rw[List.getElem?_eq_none (by rw[h.len];omega),List.getElem?_eq_none (by omega)]
 have e7:n'.eqs.flatMap zvd=n.eqs.flatMap zvd:=by rw[List.flatMap_def,List.flatMap_def,e6]
 unfold zu4;rw[h.nm,e1,e2,e4,e5,e7]
def zPp (l' l:List Nod):Prop:=l'.length=l.length/\∀(i:Nat) (n' n:Nod),l'[i]?=some n'->l[i]?=some n->zQF n' n
theorem zQH {l' l:List Nod}(h:zPp l' l):zu3 l'=zu3 l:=by
 have e:l'.map zvg=l.map zvg:=by
  apply List.ext_getElem?;intro i;rw[List.getElem?_map,List.getElem?_map];by_cases hi:i<l.length
  . have h1:=zsc (show i<l'.length by rw[h.1];exact hi);have h2:=zsc hi;rw[h1,h2];refine congrArg some ?_;unfold zvg;rw[zQw (h.2 i _ _ h1 h2)]
  rw[List.getElem?_eq_none (by rw[h.1];omega),List.getElem?_eq_none (by omega)]
 unfold zu3;rw[List.flatMap_def,List.flatMap_def,e]
end
section
def eQ (q:Qn):Qn:=⟨q.ns,q.ns.map (λ_=>0),0,eT q.r⟩
def eN (n:Nod):Nod:=⟨n.nm,0,n.vars.map eV,n.ins,n.outs,n.eqs.map eQ⟩
def eS (c:Sc):Sc:=⟨c.er.map eN,eN c.nd⟩
theorem zNp {α β:Type}{e:α->β}{f:α->List Nat}{g:β->List Nat}:∀l:List α,(∀x∈l,(g (e x)).length=(f x).length)->((l.map e).flatMap g).length=(l.flatMap f).length
 | [],_=>rfl
 | x::l,h=>by rw[List.map_cons,List.flatMap_cons,List.flatMap_cons,zMM,zMM,h x (zMS ..),zNp l (λy hy=>h y (zMX _ hy))]
theorem zOj {α β γ:Type}{e:α->β}{f:α->List γ}{g:β->List γ}:∀l:List α,(∀x∈l,g (e x)=f x)->(l.map e).flatMap g=l.flatMap f
 | [],_=>rfl
 | x::l,h=>by rw[List.map_cons,List.flatMap_cons,List.flatMap_cons,h x (zMS ..),zOj l (λy hy=>h y (zMX _ hy))]
theorem zNu {b b':Bool}{p p':Nat}(h:b=b'):(if b=true then [p] else []).length=(if b'=true then [p'] else []).length:=by subst h;cases b <;> rfl
theorem zQc (s:Xb):∀(l:List Vr) (i:Nat),zfj s (l.map eV) i=zfj s l i
 | [],_=>rfl
 | v::l,i=>by show (if (eV v).nm=s then some i else zfj s (l.map eV) (i+1))=(if v.nm=s then some i else zfj s l (i+1));rw[zQc s l];rfl
theorem zPy (n:Nod)(s:Xb):(eN n).find s=n.find s:=zQc s n.vars 0
theorem zQf (s:Xb):∀(l:List Nod) (i:Nat),zgg s (l.map eN) i=zgg s l i
 | [],_=>rfl
 | v::l,i=>by show (if (eN v).nm=s then some i else zgg s (l.map eN) (i+1))=(if v.nm=s then some i else zgg s l (i+1));rw[zQf s l];rfl
section
variable (c:Sc)
theorem zNB (s:Xb):(eS c).idx s=c.idx s:=by unfold Sc.idx;rw[show (eS c).nd=eN c.nd from rfl,zPy]
theorem zQI (s:Xb):(eS c).has s=c.has s:=by unfold Sc.has;rw[show (eS c).nd=eN c.nd from rfl,zPy]
theorem zNK (s:Xb):(eS c).called s=(c.called s).map eS:=by
 unfold Sc.called;rw[show (eS c).er=c.er.map eN from rfl,zQf];cases zgg s c.er 0 with
 | none=>rfl
 | some i =>
   simp only[List.getElem?_map];cases c.er[i]? with
   | none=>rfl
   | some n=>simp only[Option.map_some];rw[<- List.map_take];rfl
theorem zRe (i:Nat):(eS c).nd.vars[i]?=(c.nd.vars[i]?).map eV:=by rw[show (eS c).nd.vars=c.nd.vars.map eV from rfl,List.getElem?_map]
theorem zPF:(eS c).nd.vars.length=c.nd.vars.length:=by rw[show (eS c).nd.vars=c.nd.vars.map eV from rfl,List.length_map]
theorem zSW:(eS c).nd.ins=c.nd.ins:=rfl
end
mutual
theorem zRz:∀t:Tm,szT (eT t)=szT t
 | .mk k a s nm n ts=>by rw[eT,szT,szT,zRY ts]
theorem zRY:∀ts:List Tm,szL (eL ts)=szL ts
 | []=>by rw[eL]
 | t::l=>by rw[eL,szL,szL,zRz t,zRY l]
end
theorem zN1 (t:Tm):(eT t).s=t.s:=by cases t;rw[eT];rfl
theorem zQP (t:Tm):(eT t).ts=t.ts.map eT:=by cases t;rw[eT];exact zNC _
mutual
theorem zOW {g:Tm->Bool}(hg:∀t,g (eT t)=g t):∀t:Tm,zaV g (eT t)=(zaV g t).map eT
 | .mk k a s nm n ts=>by have h:=hg (.mk k a s nm n ts);rw[eT] at h ⊢;rw[zaV,zaV,h,List.map_cons,eT,zRj hg ts];split <;> rfl
theorem zRj {g:Tm->Bool}(hg:∀t,g (eT t)=g t):∀ts:List Tm,zdk g (eL ts)=(zdk g ts).map eT
 | []=>by rw[eL];rfl
 | t::l=>by rw[eL,zdk,zdk,List.map_append,zOW hg t,zRj hg l]
end
theorem zQJ (t:Tm):za5 (eT t)=za5 t:=rfl
theorem zSM (t:Tm):zak (eT t)=zak t:=by unfold zak;rw[zNJ]
theorem zSt (c:Sc)(t:Tm)(u:Nat):(eS c).fits (eT t) u=c.fits t u:=by unfold Sc.fits;rw[zN1,zNK,zQP,List.length_map];cases c.called t.s <;> rfl
theorem zOJ (c:Sc):∀(l:List Vr) (i:Nat),(zat (eS c) (l.map eV) i).length=(zat c l i).length
 | [],_=>rfl
 | v::l,i=>by
   rw[List.map_cons,zat,zat,zMM,zMM,zMM,zMM,zOJ c l (i+1),show (eS c).nd=eN c.nd from rfl,zPy,zQI];refine congrArg (·+_) (congr (congrArg _ ?_) ?_)
   . show (if (c.nd.find v.nm).getD 0<i then [0] else []).length=_;split <;> rfl
   exact zNu rfl
theorem zOv (c:Sc):∀(ns:Xl) (ps:Xn),ps.length=ns.length->(z7 (eS c) ns (ns.map (λ_=>0))).length=(z7 c ns ps).length
 | [],[],_=>rfl
 | s::ns,p::ps,h=>by rw[List.map_cons,z7,z7,zMM,zMM,zOv c ns ps (by simpa using h),zQI,zNB,zSW];exact congrArg (·+_) (zNu rfl)
theorem zP0 (c:Sc)(q:Qn)(t:Tm):(zaL (eS c) (eQ q) (eT t)).length=(zaL c q t).length:=by
 have hu:zda (eQ q) (eT t)=zda q t:=by unfold zda;rw[zRz,show (eQ q).r=eT q.r from rfl,zRz];rfl
 unfold zaL;rw[hu,zNJ,zN1,zQI,zSt,zMM,zMM];exact congr (congrArg _ (zNu rfl)) (zNu rfl)
def zOg (n:Nod):Prop:=∀q∈n.eqs,q.ps.length=q.ns.length
theorem zRA (c:Sc)(h:zOg c.nd):(eS c).namesL.length=c.namesL.length:=by
 unfold Sc.namesL;rw[zMM,zMM,zMM,zMM,zMM,zMM];refine congr (congrArg _ (congr (congrArg _ (congr (congrArg _ ?_) ?_)) ?_)) ?_
 . refine zNu ?_;rw[zNK]
   show ((c.called c.nd.nm).map eS).isSome=_;cases c.called c.nd.nm <;> rfl
 . exact zOJ c c.nd.vars 0
 . exact zNp c.nd.eqs (λq hq=>zOv c q.ns q.ps (h q hq))
 refine zNp c.nd.eqs (λq _=>?_);rw[show (eQ q).r=eT q.r from rfl,zOW zQJ];exact zNp _ (λt _=>zP0 c q t)
end
section
section
variable (c:Sc)
theorem zOb (s:Xb):(eS c).decl s=c.decl s:=by unfold Sc.decl;rw[zNB,zRe];cases c.nd.vars[c.idx s]? <;> rfl
theorem zPk (n:Nod):(eN n).results=n.results.map eV:=by unfold Nod.results;rw[List.map_take,List.map_drop];rfl
theorem zRE (s:Xb):(eS c).callTy s=c.callTy s:=by
 unfold Sc.callTy;rw[zNK];cases c.called s with
 | none=>rfl
 | some d => show (((eN d.nd).results[0]?).map tyV).getD 0=((d.nd.results[0]?).map tyV).getD 0;rw[zPk,List.getElem?_map];cases d.nd.results[0]? <;> rfl
mutual
theorem zOk:∀t:Tm,zaj (eS c) (eT t)=zaj c t
 | .mk k a s nm n ts=>by rw[eT,zaj,zaj,zOb,zRE,zNL ts 0,zNL ts 1]
theorem zNL:∀(ts:List Tm) (i:Nat),zbh (eS c) (eL ts) i=zbh c ts i
 | [],i=>by rw[eL,zbh,zbh]
 | t::l,0=>by rw[eL,zbh,zbh,zOk t]
 | t::l,i+1=>by rw[eL,zbh,zbh,zNL l i]
end
theorem zO2 (ty:Nat)(l:List Tm):zcv (eS c) ty (l.map eT)=zcv c ty l:=by
 unfold zcv;rw[List.all_map];congr 1;funext t
 show (zaj (eS c) (eT t)==ty)=_;rw[zOk]
theorem zPh (l:List Tm):zc9 (eS c) (l.map eT)=zc9 c l:=by unfold zc9;rw[<- zNC,zNL,zNL]
theorem zRb (t:Tm):zcG (eT t)=zcG t:=by
 unfold zcG;rw[zNJ,zQP];cases t.ts with
 | nil=>rfl
 | cons u l=>simp only[List.map_cons];rw[zNJ]
theorem zOr:∀(l:List Tm) (vs:List Vr),zaQ (eS c) (l.map eT) (vs.map eV)=zaQ c l vs
 | [],vs=>by rw[List.map_nil,zaQ,zaQ]
 | t::l,[]=>rfl
 | t::l,v::vs=>by rw[List.map_cons,List.map_cons,zaQ,zaQ,zOk,zOr l vs];rfl
theorem zQB (t:Tm):(eS c).operands (eT t)=c.operands t:=by
 unfold Sc.operands;rw[zNJ,zQP,zN1,zO2,zO2,zPh,<- List.map_take,<- List.map_drop,zO2,zPh,zNK];congr 1;congr 1;congr 1;congr 1;congr 1
 . cases t.ts with
   | nil=>rfl
   | cons u l=>simp only[List.map_cons];rw[zRb]
 congr 1;cases c.called t.s with
 | none=>rfl
 | some d=>exact zOr c t.ts d.nd.vars
theorem zOw:∀(ns:Xl) (vs:List Vr),zaE (eS c) ns (vs.map eV)=zaE c ns vs
 | [],vs=>by cases vs <;> rfl
 | s::ns,[]=>rfl
 | s::ns,v::vs=>by rw[List.map_cons,zaE,zaE,zOb,zOw ns vs];rfl
theorem zSg (q:Qn):(eS c).holds (eQ q)=c.holds q:=by
 unfold Sc.holds;rw[show (eQ q).ns=q.ns from rfl,show (eQ q).r=eT q.r from rfl,zN1,zNK];split
 . rw[zOb,zOk]
 cases c.called q.r.s with
 | none=>rfl
 | some d => show zaE (eS c) _ (eN d.nd).results=_;rw[zPk,zOw]
theorem zOH:∀l:List Vr,(zau (eS c) (l.map eV)).length=(zau c l).length
 | []=>rfl
 | v::l=>by rw[List.map_cons,zau,zau,zMM,zMM,zOH l,zOb];exact congrArg (·+_) (zNu rfl)
theorem zP1 (t:Tm):(zbQ (eS c) (eT t)).length=(zbQ c t).length:=by unfold zbQ;rw[zNJ,zN1,zOb,zQB,zMM,zMM];refine congr (congrArg _ (zNu rfl)) ?_;cases c.operands t <;> rfl
theorem zRu:(eS c).typesL.length=c.typesL.length:=by
 unfold Sc.typesL;rw[zMM,zMM,zMM,zMM];refine congr (congrArg _ (congr (congrArg _ (zOH c c.nd.vars)) ?_)) ?_
 . refine zNp c.nd.eqs (λq _=>?_);rw[zSg];cases c.holds q <;> rfl
 refine zNp c.nd.eqs (λq _=>?_);rw[show (eQ q).r=eT q.r from rfl,zOW zQJ];exact zNp _ (λt _=>zP1 c t)
theorem zSQ (v:Vr):(eS c).own (eV v)=c.own v:=by unfold Sc.own;rw[zNB];rfl
theorem zOB (i:Nat):(eS c).of i=c.of i:=by
 unfold Sc.of;rw[zRe];cases c.nd.vars[i]? with
 | none=>rfl
 | some v=>exact zSQ c v
theorem zST (k:Nat×Nat):(eS c).up k=c.up k:=by unfold Sc.up;rw[zOB]
theorem zQg (i:Nat):∀(f:Nat) (k:Nat×Nat),zhr (eS c) i f k=zhr c i f k
 | 0,_=>rfl
 | f+1,k=>by rw[zhr,zhr,zST,zQg i f]
theorem zSi (i:Nat):(eS c).comesBack i=c.comesBack i:=by unfold Sc.comesBack;rw[zPF,zOB,zQg]
theorem zOy:∀(l:List Vr) (i:Nat),(zbv (eS c) (l.map eV) i).length=(zbv c l i).length
 | [],_=>rfl
 | v::l,i=>by rw[List.map_cons,zbv,zbv,zMM,zMM,zOy l (i+1),zSi];exact congrArg (·+_) (zNu rfl)
theorem zOa (k:Nat×Nat):∀(ns:Xl) (ps:Xn),ps.length=ns.length->(zbl (eS c) k ns (ns.map (λ_=>0))).length=(zbl c k ns ps).length
 | [],[],_=>rfl
 | s::ns,p::ps,h=>by rw[List.map_cons,zbl,zbl,zMM,zMM,zOa k ns ps (by simpa using h),zNB,zOB];refine congrArg (·+_) ?_;split <;> rfl
theorem zQ5 (t:Tm)(i:Nat)(k:Nat×Nat):(eS c).operand (eT t) i k=c.operand t i k:=by unfold Sc.operand;rw[zNJ,zN1,zNB,zOB]
theorem zSF (t:Tm)(k:Nat×Nat):((eS c).isOn (eT t) k).1.length=(c.isOn t k).1.length/\((eS c).isOn (eT t) k).2=(c.isOn t k).2:=by
 unfold Sc.isOn;rw[zNJ,zN1,zNB,zOB]
 repeat' split
 all_goals exact⟨rfl,rfl⟩
mutual
theorem zRS:∀(t:Tm) (k:Nat×Nat),(onT (eS c) (eT t) k).length=(onT c t k).length
 | .mk x a s nm n ts,k=>by
   obtain⟨h1,h2⟩:=zSF c (.mk x a s nm n ts) k;have h3:=zRW (.mk x a s nm n ts) k ts 0;rw[eT] at h1 h2 h3 ⊢;rw[onT,onT,zMM,zMM,h1,h2];refine congrArg _ ?_;split
   . exact h3
   rfl
theorem zRW (t:Tm)(k:Nat×Nat):∀(ts:List Tm) (i:Nat),(onL (eS c) (eT t) k (eL ts) i).length=(onL c t k ts i).length
 | [],i=>by rw[eL,onL,onL]
 | u::l,i=>by rw[eL,onL,onL,zMM,zMM,zQ5,zRS u,zRW t k l (i+1)]
end
theorem zQC (q:Qn)(h:q.ps.length=q.ns.length):(zer (eS c) (eQ q)).length=(zer c q).length:=by unfold zer;rw[show (eQ q).ns=q.ns from rfl,show (eQ q).r=eT q.r from rfl,show (eQ q).ps=q.ns.map (λ_=>0) from rfl,<- List.map_tail,zNB,zOB];simp only[zMM];rw[zOa c _ q.ns.tail q.ps.tail (by rw[List.length_tail,List.length_tail,h]),zRS]
theorem zQU (h:zOg c.nd):(eS c).clocksL.length=c.clocksL.length:=by unfold Sc.clocksL;rw[zMM,zMM];exact congr (congrArg _ (zOy c c.nd.vars 0)) (zNp c.nd.eqs (λq hq=>zQC c q (h q hq)))
end
end
section
variable {l l' ns:List Nod}
section
variable (c:Sc)
theorem zOU:∀(ns:Xl) (ps:Xn) (d:Xk),ps.length=ns.length->(zaC (eS c) ns (ns.map (λ_=>0)) d).1.length=(zaC c ns ps d).1.length/\(zaC (eS c) ns (ns.map (λ_=>0)) d).2=(zaC c ns ps d).2
 | [],[],d,_=>⟨rfl,rfl⟩
 | s::ns,p::ps,d,h=>by rw[List.map_cons,zaC,zaC,zNB];obtain⟨h1,h2⟩:=zOU ns ps (d.set (c.idx s) true) (by simpa using h);refine⟨?_,h2⟩;rw[zMM,zMM,h1];exact congrArg (·+_) (zNu rfl)
theorem zPP:∀(l:List Qn) (d:Xk),(∀q∈l,q.ps.length=q.ns.length)->(zcN (eS c) (l.map eQ) d).1.length=(zcN c l d).1.length/\(zcN (eS c) (l.map eQ) d).2=(zcN c l d).2
 | [],d,_=>⟨rfl,rfl⟩
 | q::l,d,h=>by obtain⟨h1,h2⟩:=zOU c q.ns q.ps d (h q (zMS ..));rw[List.map_cons,zcN,zcN,show (eQ q).ns=q.ns from rfl,show (eQ q).ps=q.ns.map (λ_=>0) from rfl,h2];obtain⟨h3,h4⟩:=zPP l (zaC c q.ns q.ps d).2 (λq hq=>h q (zMX _ hq));refine⟨?_,h4⟩;rw[zMM,zMM,h1,h3]
theorem zPj (ins:Nat)(d:Xk):∀(l:List Vr) (i:Nat),(zb1 ins d (l.map eV) i).length=(zb1 ins d l i).length
 | [],_=>rfl
 | v::l,i=>by rw[List.map_cons,zb1,zb1,zMM,zMM,zPj ins d l (i+1)];exact congrArg (·+_) (zNu rfl)
theorem zQz (h:zOg c.nd):(eS c).definesL.length=c.definesL.length:=by unfold Sc.definesL;rw[zPF,show (eS c).nd.eqs=c.nd.eqs.map eQ from rfl];obtain⟨h1,h2⟩:=zPP c c.nd.eqs (List.replicate c.nd.vars.length false) h;simp only;rw[zMM,zMM,h1,h2];exact congrArg _ (zPj _ _ c.nd.vars 0)
theorem zQT (i:Nat)(t:Tm):zcO (eS c) i (eT t)=zcO c i t:=by unfold zcO;rw[zNJ,zN1,zNB]
theorem zQv (q:Qn)(s:Xb):zaO (eS c) (eQ q) s=zaO c q s:=by unfold zaO;simp only;rw[zNB,zOB,show (eQ q).r=eT q.r from rfl,zOW zSM,zOj _ (λt _=>zQT c (c.idx s) t)]
theorem zRx:(eS c).linksL=c.linksL:=by
 unfold Sc.linksL;refine zOj c.nd.eqs (λq _=>?_)
 show q.ns.flatMap (zaO (eS c) (eQ q))=_;rw[List.flatMap_def,List.flatMap_def];exact congrArg _ (List.map_congr_left (λs _=>zQv c q s))
theorem zPA (a b:Nat)(L:List (Nat×Nat))(n:Nat):∀m:Nat,(zht a L n m).length=(zht b L n m).length
 | 0=>rfl
 | m+1=>by rw[zht,zht,zMM,zMM,zPA a b L n m];refine congrArg (·+_) ?_;split <;> rfl
theorem zQ3:(eS c).causesL.length=c.causesL.length:=by unfold Sc.causesL;rw[zRx,zPF];exact zPA _ _ _ _ _
end
theorem zR2 (n:Nod)(m:List (ByteArray×Nat)):zcg (eN n) m=zcg n m:=by
 unfold zcg;have:((eN n).eqs.flatMap λq=>zaV za5 q.r)=(n.eqs.flatMap λq=>zaV za5 q.r).map eT:=by rw[List.map_flatMap];exact zOj n.eqs (λq _=>zOW zQJ q.r)
 rw[this,List.map_map];refine congrArg (λl=>min (zed l) 61) (List.map_congr_left (λt _=>?_))
 show za9 m (eT t)=_;unfold za9;rw[zNJ,zN1]
theorem zRR:∀(l:List Nod) (m:List (ByteArray×Nat)) (k:Nat),zfW (l.map eN) m k=zfW l m k
 | [],_,_=>rfl
 | n::l,m,k=>by rw[List.map_cons,zfW,zfW,zR2];exact zRR l _ _
theorem zSP (ns:List Nod):scs (ns.map eN)=(scs ns).map eS:=by
 unfold scs;rw[List.map_filterMap,List.length_map];refine congrArg (λf=>List.filterMap f (List.range ns.length)) (funext λi=>?_);rw[List.getElem?_map];cases ns[i]? with
 | none=>rfl
 | some n=>simp only[Option.map_some];rw[<- List.map_take];rfl
theorem zRf {l l':Xn}(h:l.length=l'.length):(zO l).isSome=(zO l').isSome:=by
 cases e:zO l with
 | none =>
   have h1:=zlT e;subst h1;cases l' with
   | nil=>rfl
   | cons a b=>simp at h
 | some p =>
   cases e':zO l' with
   | none =>
     have h1:=zlT e';subst h1;cases l with
     | nil=>cases e
     | cons a b=>simp at h
   | some q=>rfl
theorem zNU {F:Sc->List Nat}(h:∀c∈scs ns,(F (eS c)).length=(F c).length):(zO ((scs (ns.map eN)).flatMap F)).isSome=(zO ((scs ns).flatMap F)).isSome:=by rw[zSP];exact zRf (zNp _ h)
def zNF (ns:List Nod):Nat:=match zbc ns with|none=>0|some p=>p.1
theorem zOF (ns:List Nod):zNF ns=if (zO ((scs ns).flatMap Sc.namesL)).isSome then 4 else if (zO ((scs ns).flatMap Sc.typesL)).isSome then 5 else if (zO ((scs ns).flatMap Sc.clocksL)).isSome then 6 else if (zO ((scs ns).flatMap Sc.definesL)).isSome then 7 else if (zO ((scs ns).flatMap Sc.causesL)).isSome then 8 else if (zO (zeZ ns)).isSome then 9 else 0:=by
 unfold zNF zbc;cases zO ((scs ns).flatMap Sc.namesL) with
 | some p=>rfl
 | none =>
   cases zO ((scs ns).flatMap Sc.typesL) with
   | some p=>rfl
   | none =>
     cases zO ((scs ns).flatMap Sc.clocksL) with
     | some p=>rfl
     | none =>
       cases zO ((scs ns).flatMap Sc.definesL) with
       | some p=>rfl
       | none =>
         cases zO ((scs ns).flatMap Sc.causesL) with
         | some p=>rfl
         | none =>
           cases zO (zeZ ns) with
           | some p=>rfl
           | none=>rfl
theorem zSD {c:Sc}(h:c∈scs ns):c.nd∈ns:=by
 unfold scs at h;obtain⟨i,_,hi⟩:=List.mem_filterMap.1 h;cases e:ns[i]? with
 | none=>rw[e] at hi;cases hi
 | some n=>rw[e] at hi;cases hi;exact zML e
theorem zRh (h:∀n∈ns,zOg n):zNF (ns.map eN)=zNF ns:=by have hc:∀c∈scs ns,zOg c.nd:=λc hc=>h _ (zSD hc);rw[zOF,zOF,zNU (F:=Sc.namesL) (λc h=>zRA c (hc c h)),zNU (F:=Sc.typesL) (λc _=>zRu c),zNU (F:=Sc.clocksL) (λc h=>zQU c (hc c h)),zNU (F:=Sc.definesL) (λc h=>zQz c (hc c h)),zNU (F:=Sc.causesL) (λc _=>zQ3 c)];unfold zeZ;rw[zRR]
theorem zSS {n n':Nod}(h:zQF n' n):eN n'=eN n:=by
 have e:n'.eqs.map eQ=n.eqs.map eQ:=by
  apply List.ext_getElem?;intro i;rw[List.getElem?_map,List.getElem?_map];by_cases hi:i<n.eqs.length
  . have h1:=zsc (show i<n'.eqs.length by rw[h.len];exact hi);have h2:=zsc hi;have:=h.eqs i _ _ h1 h2;rw[h1,h2];refine congrArg some ?_;unfold eQ;rw[this.ns,this.r]
  rw[List.getElem?_eq_none (by rw[h.len];omega),List.getElem?_eq_none (by omega)]
 unfold eN;rw[h.nm,h.vars,h.ins,h.outs,e]
theorem zSE (h:zPp l' l):l'.map eN=l.map eN:=by
 apply List.ext_getElem?;intro i;rw[List.getElem?_map,List.getElem?_map];by_cases hi:i<l.length
 . have h1:=zsc (show i<l'.length by rw[h.1];exact hi);have h2:=zsc hi;rw[h1,h2];exact congrArg some (zSS (h.2 i _ _ h1 h2))
 rw[List.getElem?_eq_none (by rw[h.1];omega),List.getElem?_eq_none (by omega)]
theorem zRn (h:zPp l' l)(hp:∀n∈l,zOg n)(hp':∀n∈l',zOg n):zNF l'=zNF l:=by rw[<- zRh hp,<- zRh hp',zSE h]
end
end Go.Proofs.YtbicmofihhjgbaaGreatDoor
