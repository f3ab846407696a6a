/- Part 7 of the proof. -/
import Derived.Deep.CutBlock
import Derived.Deep.RegionHeld3
import Derived.Laws.CopyOwn
import Derived.Laws.IdiomStrings
import Derived.Lib.AtoiErrMem
import Derived.Lib.ItoaNum
import Derived.Lib.ParseIntB
import Derived.Lib.SliceRun
import Derived.Test.YtmfkofhgdjechaaGreatDoorShelf
import Derived.Test.YtmfkofhgdjechaaGreatDoorK05
set_option maxRecDepth 100000
set_option maxHeartbeats 8000000
namespace Go.Proofs.YtmfkofhgdjechaaGreatDoor
open Go.Proofs.Tryz
section
variable {i:Bool} {s:Xb} {u part j m r:Fn} {ab:List Vr} {f g w:Nat} {c:St} {t:Tk}
def mE:List (List UInt8):=[[110,117,109,98,101,114],[98,111,111,108],[118,97,114],[99,97,108,108],[105,102],[109,101,114,103,101],[119,104,101,110],[119,104,101,110,111,116],[102,98,121],[110,101,103],[110,111,116],[97,110,100],[111,114],[120,111,114],[61],[60,62],[60],[60,61],[43],[45],[42],[47],[37]]
def tf (l:Xu):Bool:=l==[118,97,114]
def mQ (e:Ex):Prop:=e.n<=9223372036854775807/\e.s.size<=1200/\e.op.toList∈mE/\e.ah.length<=1400/\(tf e.op.toList=true->e.a=e.nm)
abbrev l0 (l:Xu):Prop:=l∈mE/\tf l=false
theorem DE {n:Nat}(h:et t n=true):l0 t.s.toList:=by
 unfold et at h;split at h
 . cases h
 split at h
 . rename_i h1;rcases h1 with h1|h1 <;> (rw[h1];decide)
 split at h
 . rename_i h1;rw[h1];decide
 split at h
 . rename_i h1;rcases h1 with h1|h1 <;> (rw[h1];decide)
 split at h
 . rename_i h1;rcases h1 with h1|h1|h1 <;> (rw[h1];decide)
 cases h
theorem Dn (h:eh t=true):l0 t.s.toList:=by unfold eh at h;simp only[Bool.and_eq_true,Bool.or_eq_true,beq_iff_eq] at h;rcases h.2 with ((h1|h1)|h1)|h1 <;> (rw[h1];decide)
theorem Ek (h:eu c=true):l0 c.t.s.toList:=by unfold eu St.is at h;simp only[Bool.or_eq_true,Bool.and_eq_true,beq_iff_eq] at h;rcases h with h1|h1 <;> (rw[h1.2];decide)
theorem D2:l0 kS.toList:=by decide +kernel
theorem D6:l0 kR.toList:=by decide +kernel
theorem Eo:l0 fL.toList:=by decide +kernel
theorem DU:l0 iz.toList:=by decide +kernel
theorem Dk:l0 iL.toList:=by decide +kernel
theorem D0:l0 iO.toList:=by decide +kernel
theorem D1:gQ.toList∈mE:=by decide +kernel
theorem vp:l0 dl.toList:=by decide +kernel
theorem D7:l0 fJ.toList:=by decide +kernel
structure Zs (c:St):Prop where
 src:c.src.size<=1200
 tt:c.t.t<=c.src.size
 tn:c.t.n<=9223372036854775807
 ts:c.t.s.size<=1200
 L:∀e∈c.L,mQ e
def ZK (M:Fn):Prop:=∀c,Zs c->Zs (M c).1
theorem uQ (s:Xb)(p:Nat)(k:s.size<=1200):(zZ s p).s.size<=1200:=by
 have h:∀a b:Nat,(s.extract a b).size<=1200:=by intro a b;rw[ByteArray.size_extract];omega
 have d:(⟨#[]⟩:Xb).size=0:=rfl;have e:(⟨#[48]⟩:Xb).size=1:=rfl;unfold zZ eM fc dT;simp only
 repeat' split
 all_goals first|exact h _ _|(rw[d];omega)|(rw[e];omega)
theorem Zs.ad (h:Zs c):Zs c.ad:=by
 unfold St.ad;split
 . have:=zV c.src c.t.t h.tt;exact⟨h.src,this.2.2.1,this.2.2.2.1,uQ _ _ h.src,h.L⟩
 exact h
theorem Zs.fail (h:Zs c)(e a:Nat):Zs (c.fail e a):=by unfold St.fail;split <;> exact⟨h.src,h.tt,aE _,aE _,h.L⟩
theorem Zs.ac (h:Zs c)(k:Nat)(l:Xu):Zs (c.ac k l):=by unfold St.ac;split;exact h.ad;exact h.fail _ _
theorem Zs.name (h:Zs c):Zs c.name:=by unfold St.name;split;exact h.ad;exact h.fail _ _
theorem Zs.enter (h:Zs c):Zs c.enter:=by have a:Zs ({ c with op:=c.op+1 }:St):=⟨h.src,h.tt,h.tn,h.ts,h.L⟩;unfold St.enter;split;exact a.fail _ _;exact a.ad
theorem Zs.aI (h:Zs c):Zs c.aI:=⟨h.src,h.tt,h.tn,h.ts,h.L⟩
theorem Zs.put (h:Zs c){e:Ex}(a:mQ e):Zs (c.put e).1:=by
 refine⟨h.src,h.tt,h.tn,h.ts,λx hx=>?_⟩;rcases bj.1 (show x∈c.L++[e] from hx) with hx|hx
 . exact h.L x hx
 rw[cu.1 hx];exact a
theorem kU {k:Xb}{a b:Nat}{l:Xn}(d:l0 k.toList)(h:s.size<=1200)(n:l.length<=1400:=by simp):mQ ⟨k,a,b,l,s,0⟩:=⟨aE _,h,d.1,n,λe=>by rw[d.2] at e;cases e⟩
theorem lD:sE.size<=1200:=aE _
theorem vi (a:ZK part):∀(f:Nat) (x:St×Nat),Zs x.1->Zs (dx w part f x).1
 | 0,_,h=>h
 | f+1,x,h=>by
   unfold dx;split
   . rename_i b
     exact vi a f _ ((a _ h.ad).put (kU (DE b.2) lD))
   exact h
theorem oI (a:ZK part):ZK (eo w part):=λc h=>vi a 1300 _ (a c h)
theorem Em {sum:Fn}(a:ZK sum):ZK (ei sum):=by
 intro c h;unfold ei;simp only;split
 . rename_i b
   exact (a _ (a c h).ad).put (kU (Dn b.2) lD)
 exact a c h
theorem CR {a co:Fn}(b:ZK a)(d:ZK co):ZK (dG a co):=by
 intro c h;unfold dG;split
 . refine (b _ h.enter).aI.put (kU ?_ lD);split
   . exact D2
   exact D6
 exact d c h
theorem tX:∀(f:Nat) (x:St×Nat),Zs x.1->Zs (dk f x).1
 | 0,_,h=>h
 | f+1,x,h=>by
   unfold dk;split
   . rename_i a
     exact tX f _ (h.ad.name.put (kU (Ek a.2) h.ad.ts))
   exact h
theorem CF (a:ZK u):ZK (gR u):=λc h=>tX 1300 _ (a c h)
theorem uW (a:ZK r):∀(f:Nat) (x:St×List Nat),Zs x.1->Zs (cY r f x).1
 | 0,_,h=>h
 | f+1,x,h=>by
   unfold cY;split
   . exact uW a f _ (a _ h.ad)
   exact h
theorem ve {ry:Fn}:∀(f:Nat) (x:St×List Nat),(cY ry f x).2.length<=x.2.length+f
 | 0,_=>an _
 | f+1,x=>by
   unfold cY;split
   . have:=ve (ry:=ry) f ((ry x.1.ad).1,x.2++[(ry x.1.ad).2]);simp only[aP,List.length_singleton] at this;omega
   omega
theorem vj (a:ZK r)(t:Tk)(b:t.s.size<=1200):ZK (a1 r t):=by
 intro c h;unfold a1;split
 . exact ((uW a 1300 _ (a _ h.enter)).ac _ _).aI.put (kU Eo b (aJ (ve 1300 _) (by simp)))
 exact h.fail _ _
theorem C6 (a:ZK r):ZK (fp r):=λ_ h =>
 (a _ ((a _ ((a _ h.enter).ac _ _)).ac _ _)).aI.put (kU DU lD)
theorem Mk:ZK kc:=λ_ h=>h.ad.put ⟨aE _,h.ts,D1,aE _,λ_=>rfl⟩
theorem Ml (a:ZK u):ZK (bF u):=by
 intro c h;unfold bF;split
 . exact a c h
 exact Mk c h
theorem Dr (a:ZK u):ZK (fs u):=λ_ h =>
 (Ml a _ (Ml a _ h.enter.name)).aI.put (kU Dk h.enter.ts)
theorem DM (a:ZK r):ZK (iM r):=λ_ h=>((a _ h.enter).ac _ _).aI
theorem qm (b:Xb)(n:Nat)(a:l0 b.toList)(d:n<=9223372036854775807):ZK (fK b n):=λ_ h=>h.ad.put ⟨d,lD,a.1,aE _,λe=>by rw[a.2] at e;cases e⟩
theorem Do {b:Fn}(a:ZK r)(d:ZK b):ZK (aN r b):=by
 intro c h;unfold aN;split
 . exact h
 split
 . exact qm _ _ D7 h.tn c h
 split
 . split
   . exact vj a _ h.ts _ h.ad
   exact Mk c h
 split
 . exact DM a c h
 split
 . exact qm _ _ vp (by omega) c h
 split
 . exact qm _ _ vp (by omega) c h
 split
 . exact C6 a c h
 split
 . exact Dr d c h
 exact h.fail _ _
theorem Dy {a:Fn}(d:ZK r)(b:ZK a):ZK (fe r a):=by
 intro c h;unfold fe;simp only;split
 . exact (d _ (b c h).enter).aI.put (kU D0 lD)
 exact b c h
theorem qD:∀d:Nat,ZK (a6 d).ex/\ZK (a6 d).un/\ZK (a6 d).at'
 | 0=>⟨λ_ h=>h,λ_ h=>h,λ_ h=>h⟩
 | d+1=>by obtain⟨a,k,l⟩:=qD d;have b:ZK (aN (a6 d).ex (a6 d).at'):=Do a l;have e:ZK (dG (a6 d).un (gR (aN (a6 d).ex (a6 d).at'))):=CR k (CF b);exact⟨Dy a (oI (oI (Em (oI (oI e))))),e,b⟩
def kl (v:Vr):Prop:=v.nm.size<=1200/\v.ck.size<=1200
structure lG (d:Nd):Prop where
 nm:d.nm.size<=1200
 ab:∀v∈d.ab,kl v
 az:∀e∈d.az,mQ e
 eqs:∀q∈d.eqs,∀s∈q.ns,s.size<=1200
 ns:∀q∈d.eqs,q.ns.length<=1400
theorem mK {α:Type}{l:List α}{a x:α}(h:x∈l++[a]):x∈l∨x=a:=by
 rcases bj.1 h with h|h
 . exact ao h
 exact ap (cu.1 h)
theorem Zs.type (h:Zs c):Zs (z9 c):=by unfold z9;split;exact h.ad;exact h.ac _ _
theorem Zs.hb (h:Zs c):Zs (aS c):=by unfold aS;split;exact h.ad;exact h
def ZV (x:St×List Vr):Prop:=Zs x.1/\∀v∈x.2,kl v
theorem pZ {o:Bool}(h:Zs c)(d:∀v∈ab,kl v):ZV (zx i o c ab):=by
 unfold zx;split
 . exact⟨h.fail _ _,d⟩
 have b:=(h.name.ac 4 [58]).type;simp only;split
 . refine⟨b.ad.hb.name,λv a=>?_⟩;rcases mK a with a|rfl
   . exact d v a
   exact⟨h.ts,b.ad.hb.ts⟩
 refine⟨b,λv a=>?_⟩;rcases mK a with a|rfl
 . exact d v a
 exact⟨h.ts,lD⟩
theorem uE:∀(f:Nat) (x:St×List Vr),ZV x->ZV (cK i f x)
 | 0,_,h=>h
 | f+1,x,h=>by
   unfold cK;split
   . exact uE f _ (pZ h.1.ad h.2)
   exact h
theorem uB (h:Zs c)(a:∀v∈ab,kl v):ZV (bW i c ab):=by have:=uE (i:=i) 1300 _ (pZ (i:=i) (o:=!i) (h.ac 4 [40]) a);exact⟨this.1.ac _ _,this.2⟩
theorem Mi (h:Zs c)(a:∀v∈ab,kl v):ZV (cz c ab) :=
 ⟨(pZ h a).1.ac _ _,(pZ h a).2⟩
theorem uG:∀(f:Nat) (x:St×List Vr),ZV x->ZV (en f x)
 | 0,_,h=>h
 | f+1,x,h=>by
   unfold en;split
   . exact uG f _ (Mi h.1 h.2)
   exact h
theorem Ee (h:Zs c)(a:∀v∈ab,kl v):ZV (bD f c ab):=by
 unfold bD;split
 . exact uG f _ (Mi h.ad a)
 exact⟨h,a⟩
theorem DC (h:Zs c):ZV (aT c):=by have a:=uB (i:=true) (ab:=[]) (h.ac 5 zW).name (λv b=>by cases b);exact uB (a.1.ac _ _) a.2
def ZN (x:dI):Prop:=Zs x.st/\∀s∈x.ns,s.size<=1200
theorem ut:∀(f:Nat) (x:dI),ZN x->ZN (cX f x)
 | 0,_,h=>h
 | f+1,x,h=>by
   unfold cX;split
   . refine ut f _ ⟨h.1.ad.name,λs a=>?_⟩;rcases mK a with a|rfl
     . exact h.2 s a
     exact h.1.ad.ts
   exact h
theorem Dj (h:Zs c):ZN (aZ c):=by
 unfold aZ;split
 . have b:=h.ad.name.ac 4 [44];have d:=ut 1300 ⟨(c.ad.name.ac 4 [44]).name,[c.ad.t.s,(c.ad.name.ac 4 [44]).t.s],[c.ad.t.a,(c.ad.name.ac 4 [44]).t.a]⟩ ⟨b.name,λs a=>by
    simp only[cC,List.not_mem_nil,or_false] at a;rcases a with rfl|rfl
    . exact h.ad.ts
    exact b.ts⟩
   exact⟨d.1.ac _ _,d.2⟩
 exact⟨h.name,λs a=>by rw[cu.1 a];exact h.ts⟩
theorem vh:∀(f:Nat) (x:dI),(cX f x).ns.length<=x.ns.length+f
 | 0,_=>an _
 | f+1,x=>by
   unfold cX;split
   . have:=vh f x.more;have h:x.more.ns.length=x.ns.length+1:=(by show (x.ns++[_]).length=_;simp);omega
   omega
theorem Dz (c:St):(aZ c).ns.length<=1400:=by
 unfold aZ;split
 . have:=vh 1300 ⟨(c.ad.name.ac 4 [44]).name,[c.ad.t.s,(c.ad.name.ac 4 [44]).t.s],[c.ad.t.a,(c.ad.name.ac 4 [44]).t.a]⟩;exact aJ this (by simp)
 simp
def sF (q:ax):Prop:=(∀s∈q.ns,s.size<=1200)/\q.ns.length<=1400
def ZQ (x:St×List ax):Prop:=Zs x.1/\∀q∈x.2,sF q
theorem tV (d:ZK j)(e:ZK m){eqs:List ax}(h:Zs c)(l:∀q∈eqs,sF q):ZQ (zF j m c eqs):=by
 have k:=Dj h;have a:=k.1.ac 4 [61];have n:Zs (cx j m (c.is 4 [40]) ((aZ c).st.ac 4 [61])).1:=by
  unfold cx;split
  . exact vj d _ a.ts _ a.name
  exact e _ a
 refine⟨n.ac _ _,λq b=>?_⟩;rcases mK b with b|rfl
 . exact l q b
 exact⟨k.2,Dz c⟩
theorem uN (a:ZK j)(b:ZK m):∀(f:Nat) (x:St×List ax),ZQ x->ZQ (bS j m f x)
 | 0,_,h=>h
 | f+1,x,h=>by
   unfold bS;split
   . exact uN a b f _ (tV a b h.1 h.2)
   exact h
theorem Mj (b:ZK j)(d:ZK m)(h:Zs c):Zs (a7 j m f c).1/\lG (a7 j m f c).2:=by
 have n:Zs c.aw:=⟨h.src,h.tt,h.tn,h.ts,λe v=>by cases v⟩;have p:=DC n;have l:=Ee (f:=f) p.1 p.2;obtain⟨V,o⟩:∃V,bD f (aT c.aw).1 (aT c.aw).2=V:=⟨_,rfl⟩;rw[o] at l;have k:=uN b d f _ (tV b d (eqs:=[]) (l.1.ac 4 [123]) (λq a=>by cases a));have e:a7 j m f c=((dy j m f V.1).1,⟨(c.aw.ac 5 zW).t.s,(c.aw.ac 5 zW).t.a,V.2,(dy j m f V.1).1.L,(dy j m f V.1).2⟩):=by unfold a7;simp only;rw[o]
 rw[e];exact⟨k.1.ac _ _,(n.ac 5 zW).ts,l.2,(k.1.ac 4 [125]).L,λq a=>(k.2 q a).1,λq a=>(k.2 q a).2⟩
theorem uk (a:ZK j)(b:ZK m):∀(f:Nat) (x:St×List Nd),Zs x.1->(∀d∈x.2,lG d)->∀d∈(ct j m g f x).2,lG d
 | 0,_,_,h=>h
 | f+1,x,k,h=>by
   unfold ct;split
   . have:=Mj a b (f:=g) k;refine uk a b f _ this.1 (λd e=>?_);rcases mK e with e|rfl
     . exact h d e
     exact this.2
   exact h
theorem CN (a:ZK j)(b:ZK m)(k:s.size<=1200):∀d∈(dm j m g s).2,lG d:=by have h:=zV s 0 (aE _);have l:Zs (⟨s,zZ s 0,0,0,0,[]⟩:St):=⟨k,h.2.2.1,h.2.2.2.1,uQ s 0 k,λe o=>by cases o⟩;have:=Mj a b (f:=g) l;exact uk a b g _ this.1 (λd n=>by rw[cu.1 n];exact this.2)
theorem uD:∀(f:Nat) (x:St×List Nd),x.2.length<=6->(ct j m g f x).2.length<=6
 | 0,_,h=>h
 | f+1,x,h=>by
   unfold ct;split
   . rename_i a
     exact uD f _ (by simp;omega)
   exact h
theorem CE (j m:Fn)(g:Nat)(s:Xb):(dm j m g s).2.length<=6:=uD g _ (by simp)
end
section
open Go.RowKit
variable {b:Nat} {e:Xy} {a c d f g j:Xv} {w:Xw}
theorem ze {o:Obj}(h:w.heap[b]?=some o):b<w.heap.size:=by
 rcases Nat.lt_or_ge b w.heap.size with h1|h1
 . exact h1
 rw[Array.getElem?_eq_none h1] at h;cases h
theorem zu (h:w.heap[b]?=some (.cells #[a] e (0,0))):w.cell? (xD b 0)=some a/\(∀i,w.frozen? (xD b i)=false)/\b<w.heap.size :=
 ⟨by simp[World.cell?,h],λi=>by simp[World.frozen?,h],ze h⟩
theorem zp (h:w.heap[b]?=some (.cells #[a,c] e (0,0))):w.cell? (xD b 0)=some a/\w.cell? (xD b 1)=some c/\(∀i,w.frozen? (xD b i)=false)/\b<w.heap.size :=
 ⟨by simp[World.cell?,h],by simp[World.cell?,h],λi=>by simp[World.frozen?,h],ze h⟩
theorem zL (h:w.heap[b]?=some (.cells #[a,c,d] e (0,0))):w.cell? (xD b 0)=some a/\w.cell? (xD b 1)=some c/\w.cell? (xD b 2)=some d/\(∀i,w.frozen? (xD b i)=false)/\b<w.heap.size :=
 ⟨by simp[World.cell?,h],by simp[World.cell?,h],by simp[World.cell?,h],λi=>by simp[World.frozen?,h],ze h⟩
theorem zU (h:w.heap[b]?=some (.cells #[a,c,d,f] e (0,0))):w.cell? (xD b 0)=some a/\w.cell? (xD b 1)=some c/\w.cell? (xD b 2)=some d/\w.cell? (xD b 3)=some f/\(∀i,w.frozen? (xD b i)=false)/\b<w.heap.size :=
 ⟨by simp[World.cell?,h],by simp[World.cell?,h],by simp[World.cell?,h],by simp[World.cell?,h],λi=>by simp[World.frozen?,h],ze h⟩
theorem bz (h:w.heap[b]?=some (.cells #[a,c,d,f,g] e (0,0))):w.cell? (xD b 0)=some a/\w.cell? (xD b 1)=some c/\w.cell? (xD b 2)=some d/\w.cell? (xD b 3)=some f/\w.cell? (xD b 4)=some g/\(∀i,w.frozen? (xD b i)=false)/\b<w.heap.size :=
 ⟨by simp[World.cell?,h],by simp[World.cell?,h],by simp[World.cell?,h],by simp[World.cell?,h],by simp[World.cell?,h],λi=>by simp[World.frozen?,h],ze h⟩
theorem zt (h:w.heap[b]?=some (.cells #[a,c,d,f,g,j] e (0,0))):w.cell? (xD b 0)=some a/\w.cell? (xD b 1)=some c/\w.cell? (xD b 2)=some d/\w.cell? (xD b 3)=some f/\w.cell? (xD b 4)=some g/\w.cell? (xD b 5)=some j/\(∀i,w.frozen? (xD b i)=false)/\b<w.heap.size :=
 ⟨by simp[World.cell?,h],by simp[World.cell?,h],by simp[World.cell?,h],by simp[World.cell?,h],by simp[World.cell?,h],by simp[World.cell?,h],λi=>by simp[World.frozen?,h],ze h⟩
theorem eK {k:Xv}(h:w.heap[b]?=some (.cells #[a,c,d,f,g,j,k] e (0,0))):w.cell? (xD b 0)=some a/\w.cell? (xD b 1)=some c/\w.cell? (xD b 2)=some d/\w.cell? (xD b 3)=some f/\w.cell? (xD b 4)=some g/\w.cell? (xD b 5)=some j/\w.cell? (xD b 6)=some k/\(∀i,w.frozen? (xD b i)=false)/\b<w.heap.size :=
 ⟨by simp[World.cell?,h],by simp[World.cell?,h],by simp[World.cell?,h],by simp[World.cell?,h],by simp[World.cell?,h],by simp[World.cell?,h],by simp[World.cell?,h],λi=>by simp[World.frozen?,h],ze h⟩
end
section
open Go.RowKit
theorem n8 {α:Type}{l:List α}{k:Nat}{x:α}(h:l[k]?=some x):l.take (k+1)=l.take k++[x]:=by rw[List.take_add_one,h];rfl
end
section
open Go.RowKit
variable {a:Act} {K:Act->World->Prop} {d:Array Oper} {Q:Exit->Act->World->Prop} {o:Oper} {P:Program} {E:Prop} {w b:Xw}
theorem o4 (w:Xw){q:List Oper}(H:o.guard=none)(s x:Operand)(t:Xy)
 (V:o.op=.call { callee:=.builtin .append,args:=#[s,x],argTypes:=#[t,t] })
 (l:Nat) (e:Xy) (i:TypeInfo) (z:Xv) (f bytes:Nat) (X:P.underlying t=some (.slice e)) (T:P.info? e=some i) (Z:i.zero=some z)
 (A:i.size=f) (G:i.bytes=bytes) (J:z.cells.size=f) (I:0<f)
 (v:Xv) (n:Nat) (L:Xm) (W:a.eval s=v) (B:w.ownsRow l e f v n L)
 (D:Addr) (m c:Nat) (g:Xm) (Y:a.eval x=.slice (some D) m c) (U:g.length=m*f) (y:∀j u,g[j]?=some u->w.cell? (D.add j)=some u) (M:∀u∈g,u.oneCell'=true)
 (F:n+m<=maxLen) (p:(n+m)*bytes<=140737488355328) (r:l<=w.heap.size)
 (h:∀C b,b.ownsRow l e f C (n+m) (L++g)->w.grownBy b v.ownBlock->(∀k,C.ownBlock=some k->v.ownBlock=some k∨w.heap.size<=k)->wpList P d Q q (a.put o.dst C) b):wpList P d Q (o::q) a w :=
 wpList_plain H λ_ S=>rA w s x t V l e i z f bytes X T Z A G J I v n L W B D m c g Y U y M F p r λC b N O R=>S _ _ (h C b N O R)
theorem Fr.gi {c:Xo}(h:w.grownBy b c):Fr (λk=>c=some k) w b:=⟨h.os,h.tape,h.output,h.size,λk f g=>h.block k f (λe=>g e.symm)⟩
theorem kE {B n:Nat}{e:Xy}{i:Xv}{m:Xm}(h:w.ownsRow B e 1 i n m):∃x j,i=.slice x n j:=by
 rcases h.2 with ⟨f,l⟩|⟨g,c,k,f,_⟩
 . exact⟨none,0,by rw[f,l]⟩
 exact⟨_,c,f⟩
theorem xh 
 (j:o.guard=none) (f:FuncId) (l:Array Operand) (g:Array TypeId) (k:o.op=.call { callee:=.value (.func f),args:=l,argTypes:=g })
 (i:∀(args:Xa) (w:Xw),(callFunc f args).run P w=.ok (.enter f args) w) (args:Xa) (p:#[]++l.map a.eval++#[]=args) {R:Ending->World->Prop} (h:Calls P f args w R)
 (n:∀e b,R e b->∃v,e=.returned v/\K (a.put o.dst v) b):if Region.wanted o (yielded d a.tmps)=true then Oper.wp P o a w K Q else E:=by
 have s:Region.wanted o (yielded d a.tmps)=true:=by simp[Region.wanted,j]
 rw[ag s];obtain⟨m,u,x,t,c,guard⟩:=o;simp only at k j;subst k j;unfold Oper.wp;rw[execOp_call_go,p,i,Oper.upon_enter];refine h.mono ?_;intro e b r;obtain⟨v,rfl,q⟩:=n e b r;exact q
theorem kD 
 (i:o.guard=none) (f:FuncId) (x:Operand) (t:Xy) (j:o.op=.call { callee:=.value (.func f),args:=#[x],argTypes:=#[t] })
 (c:∀(args:Xa) (w:Xw),(callFunc f args).run P w=.ok (.enter f args) w) (v:Xv) (k:a.eval x=v) {R:Ending->World->Prop} (h:Calls P f #[v] w R)
 (g:∀e b,R e b->∃v,e=.returned v/\K (a.put o.dst v) b):if Region.wanted o (yielded d a.tmps)=true then Oper.wp P o a w K Q else E :=
 xh i f #[x] #[t] j c #[v] (by simp[k]) h g
theorem rl 
 (j:o.guard=none) (f:FuncId) (x y:Operand) (t u:Xy) (k:o.op=.call { callee:=.value (.func f),args:=#[x,y],argTypes:=#[t,u] })
 (c:∀(args:Xa) (w:Xw),(callFunc f args).run P w=.ok (.enter f args) w) (v g:Xv) (l:a.eval x=v) (m:a.eval y=g) {R:Ending->World->Prop} (h:Calls P f #[v,g] w R)
 (i:∀e b,R e b->∃v,e=.returned v/\K (a.put o.dst v) b):if Region.wanted o (yielded d a.tmps)=true then Oper.wp P o a w K Q else E :=
 xh j f #[x,y] #[t,u] k c #[v,g] (by simp[l,m]) h i
def zH (f:FuncId):Prop:=∀(c:Xa) (w:Xw),(callFunc f c).run prog w=.ok (.enter f c) w
theorem Fr.cQ {T:Xj}(h:Fr T w.drew b):Fr T w b:=⟨h.os,h.tape,h.output,h.size,h.block⟩
end
section
open Go.RowKit
variable {N:Nat} {v:Xv} {W w:Xw}
def gm (w:Xw)(N:Nat)(v:Xv)(l:Xn):Prop:=∃a b,v=.slice a l.length b/\l.length<=100000/\∀(k n:Nat),l[k]?=some n->∃g,a=some (xD g 0)/\g<N/\w.cell? (xD g k)=some (xI (n:Nat))
def Eu (w:Xw)(g x:Nat)(u:Xv)(a:Ex):Prop:=w.cell? (xD g (x*6))=some (.string a.op)/\w.cell? (xD g (x*6+1))=some (xI a.a)/\w.cell? (xD g (x*6+2))=some (xI a.nm)/\w.cell? (xD g (x*6+3))=some u/\w.cell? (xD g (x*6+4))=some (.string a.s)/\w.cell? (xD g (x*6+5))=some (xI a.n)
def lK (w:Xw)(N:Nat)(v:Xv)(L:List Ex):Prop:=∃a b,v=.slice a L.length b/\L.length<=100000/\∀(x:Nat) (c:Ex),L[x]?=some c->∃g u,a=some (xD g 0)/\g<N/\Eu w g x u c/\gm w N u c.ah
theorem cA {B b i:Nat}(h:Below B w W)(c:b<B)(d:w.cell? (xD b i)=some v):W.cell? (xD b i)=some v:=(World.cell?_of_block (w:=w) (a:=(xD b i)) (h.block b c)).trans d
theorem gm.aH {l:Xn}(h:gm w N v l)(m:Below N w W):gm W N v l:=by obtain⟨a,b,f,i,j⟩:=h;refine⟨a,b,f,i,λk n o=>?_⟩;obtain⟨g,d,c,e⟩:=j k n o;exact⟨g,d,c,cA m c e⟩
theorem lK.aH {L:List Ex}(h:lK w N v L)(c:Below N w W):lK W N v L:=by obtain⟨a,d,p,q,r⟩:=h;refine⟨a,d,p,q,λx o s=>?_⟩;obtain⟨g,u,m,b,⟨e,f,i,j,k,l⟩,n⟩:=r x o s;exact⟨g,u,m,b,⟨cA c b e,cA c b f,cA c b i,cA c b j,cA c b k,cA c b l⟩,n.aH c⟩
theorem Tryz.AL:(prog.info? 9).map (λi=>(i.zero,i.size,i.bytes))=some (some (.string ⟨#[]⟩),1,16):=by kernel_rfl
theorem DT {s:Xb}:∀u∈[Value.string s],u.oneCell'=true:=by intro u a;rw[cu.1 a];rfl
theorem BS {f:Array Oper}{b:List Oper}{o:Oper}{a:Act}{Q:Exit->Act->World->Prop}(W:Xw)(i:o.guard=none)(s x:Operand)(D:o.op=.call { callee:=.builtin .append,args:=#[s,x],argTypes:=#[79,79] })
 (B:Nat) (v:Xv) (k:Nat) (q:Xm) (y:Xb) (E:a.eval s=v) (e:W.ownsRow B 9 1 v k q) (F:a.eval x=xS W.heap.size 1 1) (J:k+1<=100001) (I:B<=W.heap.size)
 (h:∀g c p,p.ownsRow B 9 1 (xS g (k+1) c) (k+1) (q++[.string y])->Fr (λj=>v.ownBlock=some j) (W.alloc (.cells #[.string y] 9)) p->(∀j,j=g->v.ownBlock=some j∨W.heap.size<j)->wpList prog f Q b (a.put o.dst (xS g (k+1) c)) p) :
 wpList prog f Q (o::b) a (W.alloc (.cells #[.string y] 9)):=by
 obtain⟨G,z,l,m,n⟩:=info_parts Tryz.AL;refine o4 _ i s x 79 D B 9 G _ 1 16 underlying79 z l m n rfl (by decide) v k q E (zD e _) (xD W.heap.size 0) 1 1 [.string y] F rfl (zN (zc W _) rfl) DT (by unfold maxLen;omega) (by omega) (by simp;omega) ?_;intro K H r u C;obtain⟨t,d,rfl,_⟩:=zM r (by omega);refine h t d H r (Fr.gi u) (λj A=>?_);rcases C j (by subst A;rfl) with h1|h1
 . exact ao h1
 rw[au] at h1;exact ap h1
end
section
open Go.RowKit
variable {a:Addr} {B N b i j:Nat} {d g:Obj} {u v:Xv} {W w w' l:Xw}
theorem zg (h:W.cell? a=some v):W.drew.cell? a=some v:=h
theorem zj (o:Obj)(h:W.cell? a=some v):(W.alloc o).cell? a=some v:=Lib.cell?_alloc_some o h
theorem zk {k:Nat}(c:¬k=b)(h:W.cell? (xD k i)=some v):(W.setCell (xD b j) u).cell? (xD k i)=some v :=
 (World.cell?_of_block (w:=W) (Below.heap_setCell W _ u k c)).trans h
theorem xb (h:∃v,W.cell? (xD b i)=some v):(W.setCell (xD b i) u).cell? (xD b i)=some u:=by
 obtain⟨v,k⟩:=h;unfold World.cell? at k ⊢;simp only[World.setCell,Array.getElem?_modify] at k ⊢;cases m:W.heap[b]? with
 | none=>simp[m] at k
 | some o =>
   cases o with
   | cells c e f =>
     simp only[m] at k;have n:i<c.size:=by
      rcases Nat.lt_or_ge i c.size with h|h
      . exact h
      simp[Array.getElem?_eq_none h] at k
     simp[n]
   | _=>simp[m] at k
theorem xc (h:W.cell? (xD b i)=some v):∃v,(W.setCell (xD b j) u).cell? (xD b i)=some v:=by
 unfold World.cell? at h ⊢;simp only[World.setCell,Array.getElem?_modify] at h ⊢;cases k:W.heap[b]? with
 | none=>simp[k] at h
 | some o =>
   cases o with
   | cells c e f =>
     simp only[k] at h;have m:i<c.size:=by
      rcases Nat.lt_or_ge i c.size with h'|h'
      . exact h'
      simp[Array.getElem?_eq_none h'] at h
     simp[m]
   | _=>simp[k] at h
theorem zd (h:Below B w W)(e:w.cell? (xD b i)=some v)(c:b<B):W.cell? (xD b i)=some v:=(World.cell?_of_block (w:=w) (h.block b c)).trans e
theorem zE (h:Below (w.alloc d).heap.size (w.alloc d) l):xB w l :=
 ((Below.refl w.heap.size w).alloc (an _) d).trans (h.mono (by simp))
theorem r3 (h:Below ((w.alloc d).alloc g).heap.size ((w.alloc d).alloc g) l):xB w l:=zE (zE h)
theorem pk {c:Obj}(h:Below (((w.alloc d).alloc g).alloc c).heap.size (((w.alloc d).alloc g).alloc c) l):xB w l:=zE (r3 h)
theorem mm (c:N<=w.heap.size)(d:Obj):∀k,k<N->(w.alloc d).heap[k]?=w.heap[k]?:=λk e=>Below.heap_alloc _ _ _ (by omega)
theorem j8 (c:N<=w.heap.size)(d g:Obj):∀k,k<N->((w.alloc d).alloc g).heap[k]?=w.heap[k]?:=λk e=>(Below.heap_alloc _ _ _ (by simp;omega)).trans (Below.heap_alloc _ _ _ (by omega))
theorem yR (c:N<=w.heap.size)(d g f:Obj):∀k,k<N->(((w.alloc d).alloc g).alloc f).heap[k]?=w.heap[k]?:=λk e=>(Below.heap_alloc _ _ _ (by simp;omega)).trans (j8 c d g k e)
theorem zq (w:Xw)(d:Obj):xB w (w.alloc d):=(Below.refl w.heap.size w).alloc (an _) d
theorem cT (w:Xw)(d g:Obj):xB w ((w.alloc d).alloc g):=zE (zq _ _)
theorem mg (w:Xw)(d g c:Obj):xB w (((w.alloc d).alloc g).alloc c):=zE (cT _ _ _)
theorem zo (h:Below B w W):Below B w W.drew:=⟨h.os,h.tape,h.output,h.size,h.block⟩
theorem zC (h:Below B w W)(c:B<=b)(u:Xv):Below B w (W.setCell (xD b i) u):=h.setCell c u
def bV (N:Nat)(w w':Xw):Prop:=∀k,k<N->w'.heap[k]?=w.heap[k]?
theorem bV.trans {a b c:Xw}(h:bV N a b)(k:bV N b c):bV N a c:=λi e=>(k i e).trans (h i e)
theorem Fr.am {S:Xj}(h:Fr S w w')(f:N<=w.heap.size)(c:∀k,S k->N<=k):bV N w w':=λk m=>h.block k (by omega) (λe=>by have:=c k e;omega)
theorem zm (h:Below B w w')(c:N<=B):bV N w w':=λk e=>h.block k (by omega)
end
section
open Go.RowKit
variable {N:Nat} {v:Xv} {W w:Xw}
def Et (w:Xw)(g i:Nat)(v:Vr):Prop:=w.cell? (xD g (i*10))=some (.string v.nm)/\w.cell? (xD g (i*10+1))=some (xI v.a)/\w.cell? (xD g (i*10+2))=some (.bool v.bl)/\w.cell? (xD g (i*10+3))=some (.bool v.bn)/\w.cell? (xD g (i*10+4))=some (.bool v.out)/\w.cell? (xD g (i*10+5))=some (xI v.on)/\w.cell? (xD g (i*10+6))=some (.string v.ck)/\w.cell? (xD g (i*10+7))=some (xI v.ca)/\w.cell? (xD g (i*10+8))=some (.bool v.nt)/\w.cell? (xD g (i*10+9))=some (.bool v.tm)
def iW (w:Xw)(N:Nat)(v:Xv)(l:List Vr):Prop:=∃a b,v=.slice a l.length b/\l.length<=16/\∀(i:Nat) (x:Vr),l[i]?=some x->kl x/\∃g,a=some (xD g 0)/\g<N/\Et w g i x
def kf (w:Xw)(N:Nat)(v:Xv)(l:Xl):Prop:=∃a b,v=.slice a l.length b/\l.length<=100000/\∀(k:Nat) (s:Xb),l[k]?=some s->s.size<=1000000000000/\∃g,a=some (xD g 0)/\g<N/\w.cell? (xD g k)=some (.string s)
theorem iW.aH {l:List Vr}(h:iW w N v l)(c:Below N w W):iW W N v l:=by obtain⟨a,d,t,u,y⟩:=h;refine⟨a,d,t,u,λi x z=>?_⟩;obtain⟨A,g,s,b,e,f,j,k,m,n,o,p,q,r⟩:=y i x z;exact⟨A,g,s,b,cA c b e,cA c b f,cA c b j,cA c b k,cA c b m,cA c b n,cA c b o,cA c b p,cA c b q,cA c b r⟩
theorem kf.aH {l:Xl}(h:kf w N v l)(m:Below N w W):kf W N v l:=by obtain⟨a,b,f,i,j⟩:=h;refine⟨a,b,f,i,λk s n=>?_⟩;obtain⟨o,g,d,c,e⟩:=j k s n;exact⟨o,g,d,c,cA m c e⟩
end
section
open Go.RowKit
variable {B o:Nat} {v:Xv} {w:Xw}
theorem n7 {α:Type}(e:0<o)(f:α->List Value)(c:∀a,(f a).length=o):∀(l:List α) (x i:Nat) (a:α),l[x]?=some a->i<o->(l.flatMap f)[x*o+i]?=(f a)[i]?
 | [],x,i,a,h,_=>by simp at h
 | b::l,0,i,a,h,d=>by simp at h;subst h;rw[List.flatMap_cons,Nat.zero_mul,Nat.zero_add,e9 (by rw[c];exact d)]
 | b::l,x+1,i,a,h,d=>by have g:=n7 e f c l x i a (by simpa using h) d;rw[List.flatMap_cons,e8 (by rw[c,Nat.succ_mul];omega),c,<- g];congr 1;rw[Nat.succ_mul];omega
theorem ua:∀(L:List Ex) (a:Xm),L.length=a.length->jw L a=(L.zip a).flatMap λp=>jr p.1 p.2
 | [],[],_=>rfl
 | [],_::_,h=>by simp at h
 | _::_,[],h=>by simp at h
 | e::L,v::a,h=>by rw[jw,ua L a (by simpa using h)];rfl
theorem ub:∀(l:List Vr),fg l=l.flatMap fh
 | []=>rfl
 | v::l=>by rw[fg,ub l];rfl
theorem tU:∀(L:List ax) (a:List (Value×Value)),L.length=a.length->ij L a=(L.zip a).flatMap λp=>ii p.1 p.2
 | [],[],_=>rfl
 | [],_::_,h=>by simp at h
 | _::_,[],h=>by simp at h
 | e::L,v::b,h=>by rw[ij,tU L b (by simpa using h)];rfl
theorem ui:∀(L:List Nd) (a:List Sub),L.length=a.length->iS L a=(L.zip a).flatMap λp=>iU p.1 p.2
 | [],[],_=>rfl
 | [],_::_,h=>by simp at h
 | _::_,[],h=>by simp at h
 | e::L,v::b,h=>by rw[iS,ui L b (by simpa using h)];rfl
theorem ga {e n:Nat}{l:Xm}(h:w.ownsRow B e o v n l):∃a b,v=.slice a n b/\∀(j:Nat) (u:Xv),l[j]?=some u->∃g,a=some (xD g 0)/\g<w.heap.size/\xC w g j u:=by
 rcases h.2 with ⟨c,m⟩|⟨g,b,i,c,_⟩
 . subst c m;refine⟨none,0,rfl,λj u d=>?_⟩;have f:=h.1;have:=(aB.1 d).1;simp at f;rw[f] at this;simp at this
 subst c;refine⟨_,b,rfl,λj u d=>⟨g,rfl,(h.lt g rfl).2,?_⟩⟩;have:=h.cells (g:=g) rfl j u d;have k:((xD g 0):Addr).add j=⟨g,j,none⟩:=by cases j <;> simp[Addr.add]
 rwa [k] at this
theorem qy {α β:Type}{l:List α}{m:List β}(c:l.length=m.length){x:Nat}{a:α}(h:l[x]?=some a):∃b,m[x]?=some b/\(l.zip m)[x]?=some (a,b):=by have d:=(aB.1 h).1;refine⟨m[x]'(by omega),av _,?_⟩;rw[List.getElem?_zip_eq_some];exact⟨h,av _⟩
theorem vq {l:Xn}(h:w.ownsRow B 3 1 v l.length (bK l))(f:l.length<=100000):gm w w.heap.size v l:=by obtain⟨a,b,e,c⟩:=ga h;refine⟨a,b,e,f,λk n d=>?_⟩;exact c k _ (by unfold bK;rw[List.getElem?_map,d];rfl)
theorem Ep {m:Rw}{L:List Ex}(h:aV w B m L)(D:L.length<=100000)(f:∀e∈L,e.ah.length<=100000):lK w w.heap.size m.v L:=by
 obtain⟨r,s,A⟩:=h;rw[ua L m.ah r] at s;obtain⟨a,j,e,C⟩:=ga s;refine⟨a,j,e,D,λx b l=>?_⟩;obtain⟨u,E,F⟩:=qy r l;have c:∀i v,i<6->(jr b u)[i]?=some v->∃g,a=some (xD g 0)/\g<w.heap.size/\xC w g (x*6+i) v:=λi v f k=>C _ _ ((n7 (by decide) (λp:Ex×Value=>jr p.1 p.2) (λ_=>rfl) _ x i (b,u) F f).trans k);obtain⟨g,q,z,y⟩:=c 0 _ (by decide) rfl;have d:∀i v,i<6->(jr b u)[i]?=some v->xC w g (x*6+i) v:=λi v f k=>by obtain⟨G,n,_,t⟩:=c i v f k;rw[q] at n;cases n;exact t
 exact⟨g,u,q,z,⟨y,d 1 _ (by decide) rfl,d 2 _ (by decide) rfl,d 3 _ (by decide) rfl,d 4 _ (by decide) rfl,d 5 _ (by decide) rfl⟩,vq (A x b u l E) (f b (aM l))⟩
theorem DZ {z:Nat}{l:List Vr}(h:cg w z v l)(y:l.length<=16)(u:∀x∈l,kl x):iW w w.heap.size v l:=by
 unfold cg at h;rw[ub] at h;obtain⟨a,f,e,t⟩:=ga h;refine⟨a,f,e,y,λx b p=>⟨u b (aM p),?_⟩⟩;have c:∀i v,i<10->(fh b)[i]?=some v->∃g,a=some (xD g 0)/\g<w.heap.size/\xC w g (x*10+i) v:=λi v j k=>t _ _ ((n7 (by decide) fh (λ_=>rfl) _ x i b p j).trans k);obtain⟨g,n,s,r⟩:=c 0 _ (by decide) rfl;have d:∀i v,i<10->(fh b)[i]?=some v->xC w g (x*10+i) v:=λi v j k=>by obtain⟨A,m,_,q⟩:=c i v j k;rw[n] at m;cases m;exact q
 exact⟨g,n,s,r,d 1 _ (by decide) rfl,d 2 _ (by decide) rfl,d 3 _ (by decide) rfl,d 4 _ (by decide) rfl,d 5 _ (by decide) rfl,d 6 _ (by decide) rfl,d 7 _ (by decide) rfl,d 8 _ (by decide) rfl,d 9 _ (by decide) rfl⟩
theorem CC {l:Xl}(h:w.ownsRow B 9 1 v l.length (im l))(g:l.length<=100000)(f:∀s∈l,s.size<=1200):kf w w.heap.size v l:=by obtain⟨a,b,e,d⟩:=ga h;refine⟨a,b,e,g,λk s c=>⟨by have:=f s (aM c);omega,?_⟩⟩;exact d k _ (by unfold im;rw[List.getElem?_map,c];rfl)
end
section
open Go.RowKit
theorem Ib (c:Nat)(w:Xw):xK 67 #[.int .u8 c] w λe d=>e=.returned (.bool (cM c))/\w=d:=by
 have a:((c:Int)==32)=(c==32):=by rw[Bool.eq_iff_iff];simp;omega
 have b:((c:Int)==10)=(c==10):=by rw[Bool.eq_iff_iff];simp;omega
 unfold cM;rw[<- a,<- b];clear a b;go_enter func67,ntmps67;go_wp2;all_goals go_ret
 all_goals simp[*]
theorem mb (c:Nat)(w:Xw):xK 68 #[.int .u8 c] w λe a=>e=.returned (.bool (gv c))/\w=a:=by
 have e:gv c=(decide ((97:Int)<=c)&&decide ((c:Int)<=122)):=by unfold gv;rw[Bool.eq_iff_iff];simp;omega
 rw[e];clear e;go_enter func68,ntmps68;go_wp2;all_goals go_ret
 . exact⟨by rename_i h;simp[h],rfl⟩
 exact⟨by rename_i h;simp;omega,rfl⟩
theorem mf (c:Nat)(w:Xw):xK 70 #[.int .u8 c] w λe a=>e=.returned (.bool (zT c))/\w=a:=by
 have e:zT c=(decide ((48:Int)<=c)&&decide ((c:Int)<=57)):=by unfold zT;rw[Bool.eq_iff_iff];simp;omega
 rw[e];clear e;go_enter func70,ntmps70;go_wp2;all_goals go_ret
 . exact⟨by rename_i h;simp[h],rfl⟩
 exact⟨by rename_i h;simp;omega,rfl⟩
theorem rI (c:Nat)(w:Xw):xK 129 #[.int .u8 c] w λe a=>e=.returned (.bool (b6 c))/\w=a:=by
 have d:((c:Int)==95)=(c==95):=by rw[Bool.eq_iff_iff];simp;omega
 unfold b6;rw[<- d];clear d;cases b:gv c with
 | true => go_enter func129,ntmps129;go_wp2_with (go_at_call 68;refine (mb c _).mono ?_;rintro e a ⟨rfl,rfl⟩;rw[b]);go_ret;simp
 | false =>
   cases f:zT c with
   | true => go_enter func129,ntmps129;go_wp2_with (first|(go_at_call 68;refine (mb c _).mono ?_;rintro e a ⟨rfl,rfl⟩;rw[b])|(go_at_call 70;refine (mf c _).mono ?_;rintro e a ⟨rfl,rfl⟩;rw[f]));go_ret;simp
   | false => go_enter func129,ntmps129;go_wp2_with (first|(go_at_call 68;refine (mb c _).mono ?_;rintro e a ⟨rfl,rfl⟩;rw[b])|(go_at_call 70;refine (mf c _).mono ?_;rintro e a ⟨rfl,rfl⟩;rw[f]));go_ret;simp
theorem HK (s:Xb):ep s=(s.toList==[110,111,100,101]||(s.toList==[118,97,114]||(s.toList==[105,110,116]||(s.toList==[98,111,111,108]||(s.toList==[111,110]||(s.toList==[110,111,116]||(s.toList==[97,110,100]||(s.toList==[111,114]||(s.toList==[120,111,114]||(s.toList==[105,102]||(s.toList==[116,104,101,110]||(s.toList==[101,108,115,101]||(s.toList==[109,101,114,103,101]||(s.toList==[119,104,101,110]||(s.toList==[119,104,101,110,111,116]||(s.toList==[102,98,121]||(s.toList==[116,114,117,101]||s.toList==[102,97,108,115,101]))))))))))))))))):=by simp[ep,j5]
theorem rh (s:Xb)(w:Xw):xK 130 #[.string s] w λe a=>e=.returned (.bool (ep s))/\w=a:=by
 rw[HK];go_enter func130,ntmps130;go_wp2;all_goals go_ret
 all_goals first|(refine⟨?_,rfl⟩;simp[*];done)|(exfalso;simp_all;done)
theorem mj (f:FuncId)(p:Xh)(q:∀(a:Xa) (w:Xw),(callFunc f a).run prog w=.ok (.enter f a) w)(r:∀(c:Nat) (w:Xw),xK f #[.int .u8 c] w λe b=>e=.returned (.bool (p c))/\w=b)(s:Xb)(u:s.size<=1200)(w:Xw) :
 xK 66 #[.string s,.func (.func f) #[] #[]] w λe b=>e=.returned (xI (zQ p s 0:Nat))/\w=b:=by
 have n:aa (∀(c:Nat) (w:Xw),xK f #[.int .u8 c] w λe b=>e=.returned (.bool (p c))/\w=b):=r;go_enter func66,ntmps66;go_wp2;go_loop [8] (λi=>∃k:Nat,k<=s.size/\i=xI k/\aa (zQ p s k=zQ p s 0)) (λi=>s.size-(intOf i).toNat)
 case atStart=>exact⟨0,aE _,rfl,rfl⟩
 case round =>
  obtain⟨k,t,rfl,j⟩:=hrel;by_cases g:k<s.size
  . have o:=kb g;obtain⟨c,m⟩:∃c,bt s k=c:=⟨_,rfl⟩;rw[m] at o;cases h:p c with
    | true =>
      have d:aa (zQ p s (k+1)=zQ p s 0):=(kJ g (by rw[m];exact h)).symm.trans j.o;go_wp2_with (with_reducible refine (n.o c _).mono ?_;rintro e b ⟨rfl,rfl⟩;rw[h]);go_round
      case rel=>exact⟨k+1,by omega,by go_num,d⟩
      case measure=>simp[intOf];omega
    | false => have d:aa (zQ p s 0=k):=j.o.symm.trans (nW (by rw[m];exact h));go_wp2_with (with_reducible refine (n.o c _).mono ?_;rintro e b ⟨rfl,rfl⟩;rw[h]);go_ret;exact⟨by rw[d.o];rfl,rfl⟩
  have d:aa (zQ p s 0=k):=j.o.symm.trans (nY (by omega));have l:aa (k=s.size):=by show k=s.size;omega
  go_wp2;go_ret;exact⟨by rw[d.o,l.o];rfl,rfl⟩
theorem Ii (a:Xa)(w:Xw):(callFunc 67 a).run prog w=.ok (.enter 67 a) w:=by kernel_rfl
theorem rC (a:Xa)(w:Xw):(callFunc 129 a).run prog w=.ok (.enter 129 a) w:=by kernel_rfl
theorem xm (a:Xa)(w:Xw):(callFunc 70 a).run prog w=.ok (.enter 70 a) w:=by kernel_rfl
def ci (k:Nat)(s:Xb)(a n:Nat):Value:=.agg #[xI k,.string s,xI a,xI n]
def nV (s:Xb)(a:Nat):Value :=
 let x:=s.extract 0 (zQ b6 s 0)
 if ep x then ci 2 x a 0 else if x.size<=12 then ci 3 x a 0 else ci 0 ⟨#[]⟩ a 0
theorem Jm (s:Xb)(i:s.size<=1200)(a:Nat)(w:Xw) :
 xK 69 #[.string s,xI a] w λe c=>e=.returned (nV s a)/\xB w c:=by
 have j:=jl b6 s 0 (aE _);obtain⟨n,d⟩:∃n,zQ b6 s 0=n:=⟨_,rfl⟩;have g:=za d;rw[d] at j;have b:aa (nV s a=if ep (s.extract 0 n) then ci 2 (s.extract 0 n) a 0 else if n<=12 then ci 3 (s.extract 0 n) a 0 else ci 0 ⟨#[]⟩ a 0):=by unfold aa nV;simp only[g.o,ByteArray.size_extract];rw[show min n s.size-0=n by omega]
 cases h:ep (s.extract 0 n) with
 | true => rw[h,ag rfl] at b;have f:=za h;go_enter func69,ntmps69;go_wp2_with (first|(go_at_call 66;refine (mj _ b6 rC rI s i _).mono ?_;rintro e c ⟨rfl,rfl⟩;rw[g.o])|(go_at_call 130;refine (rh _ _).mono ?_;rintro e c ⟨rfl,rfl⟩;rw[f.o]));refine bodyPost_ret (v:=ci 2 (s.extract 0 n) a 0) (by simp[results,results69,go_sem,ci]) rfl ⟨by rw[b.o],(Below.refl _ _).alloc (an _) _⟩
 | false =>
   rw[h,ae (by simp)] at b;have f:=za h;by_cases d:n<=12
   . rw[ag d] at b;go_enter func69,ntmps69;go_wp2_with (first|(go_at_call 66;refine (mj _ b6 rC rI s i _).mono ?_;rintro e c ⟨rfl,rfl⟩;rw[g.o])|(go_at_call 130;refine (rh _ _).mono ?_;rintro e c ⟨rfl,rfl⟩;rw[f.o]));refine bodyPost_ret (v:=ci 3 (s.extract 0 n) a 0) (by simp[results,results69,go_sem,ci]) rfl ⟨by rw[b.o],(Below.refl _ _).alloc (an _) _⟩
   rw[ae d] at b;go_enter func69,ntmps69;go_wp2_with (first|(go_at_call 66;refine (mj _ b6 rC rI s i _).mono ?_;rintro e c ⟨rfl,rfl⟩;rw[g.o])|(go_at_call 130;refine (rh _ _).mono ?_;rintro e c ⟨rfl,rfl⟩;rw[f.o]));refine bodyPost_ret (v:=ci 0 ⟨#[]⟩ a 0) (by simp[results,results69,go_sem,ci]) rfl ⟨by rw[b.o],(Below.refl _ _).alloc (an _) _⟩
end
section
open Go.RowKit
variable {s:Xb} {l:Xu} {c:Nat} {S:Xs} {T:Xj} {st:St} {w d:Xw}
def ck (t:Tk):Nat:=if t.k=0 then 1 else if t.k=1 then 0 else if t.k=2 then 3 else if t.k=3 then 4 else 2
def cs (src:Xb)(t:Tk):ByteArray:=if t.k=3 then src.extract t.a t.t else if 2<=t.k then t.s else ⟨#[]⟩
def cn (t:Tk):Nat:=if t.k=3 then t.n else 0
def gJ:List ByteArray:=[⟨#[]⟩,⟨#[116,114,117,101]⟩,⟨#[102,97,108,115,101]⟩,⟨#[]⟩,⟨#[]⟩,⟨#[105,102]⟩,⟨#[109,101,114,103,101]⟩,⟨#[119,104,101,110]⟩,⟨#[119,104,101,110,111,116]⟩,⟨#[102,98,121]⟩,⟨#[45]⟩,⟨#[110,111,116]⟩,⟨#[97,110,100]⟩,⟨#[111,114]⟩,⟨#[120,111,114]⟩,⟨#[61]⟩,⟨#[60,62]⟩,⟨#[60]⟩,⟨#[60,61]⟩,⟨#[43]⟩,⟨#[45]⟩,⟨#[42]⟩,⟨#[47]⟩,⟨#[37]⟩]
def aW (S:Xs)(e:Nat):Value:=.iface 399 (.pointer (some (S e)))
structure Gl (S:Xs) (w:Xw):Prop where
 ou:xC w 0 0 (aW S 1)
 e6:xC w 8 0 (aW S 2)
 deep:xC w 9 0 (aW S 3)
 name:xC w 1 0 (aW S 4)
 type:xC w 2 0 (aW S 5)
 clock:xC w 3 0 (aW S 6)
 define:xC w 4 0 (aW S 7)
 kn:xC w 5 0 (aW S 8)
 k3:xC w 6 0 (aW S 9)
 mS:xC w 10 0 (aW S 10)
 input:xC w 12 0 (aW S 11)
 range:xC w 16 0 (aW S 12)
 words:∀i s,gJ[i]?=some s->xC w 13 i (.string s)
 size:21<=w.heap.size
theorem Gl.of (h:Gl S w)(b:Fr T w d)(e:∀k,T k->21<=k):Gl S d:=by
 have a:∀k o,k<21->d.cell? (xD k o)=w.cell? ⟨k,o,none⟩:=λk o f =>
  World.cell?_of_block (w:=w) (b.block k (dD f h.size) (λj=>by have:=e k j;omega))
 exact⟨(a _ _ (by decide)).trans h.ou,(a _ _ (by decide)).trans h.e6,(a _ _ (by decide)).trans h.deep,(a _ _ (by decide)).trans h.name,(a _ _ (by decide)).trans h.type,(a _ _ (by decide)).trans h.clock,(a _ _ (by decide)).trans h.define,(a _ _ (by decide)).trans h.kn,(a _ _ (by decide)).trans h.k3,(a _ _ (by decide)).trans h.mS,(a _ _ (by decide)).trans h.input,(a _ _ (by decide)).trans h.range,
  λi s g=>(a _ _ (by decide)).trans (h.words i s g),aJ h.size b.size⟩
def cJ (S:Xs)(b a:Nat):Value:=if b=0 then .nilIface else .iface 58 (.agg #[aW S b,xI a])
def lu (S:Xs)(st:St):Obj:=.cells #[.string st.src,xI (ck st.t),.string (cs st.src st.t),xI st.t.a,xI (cn st.t),xI st.op,cJ S st.er st.at'] 69 (0,0)
structure Tx (src:Xb) (t:Tk):Prop where
 text:t.k=2∨4<=t.k->t.s=src.extract t.a t.t
 kw:t.k=5->ep t.s=true
 sg:t.k=4->ep t.s=false
theorem yy (src:Xb)(a t:Nat):Tx src ⟨1,a,t,⟨#[]⟩,0⟩:=⟨λh=>by rcases h with h|h <;> simp at h,λh=>by simp at h,λh=>by simp at h⟩
theorem JR (h:(s.toList==[45,62]||s.toList==[60,62]||s.toList==[60,61])=true):ep s=false:=by simp only[Bool.or_eq_true,beq_iff_eq] at h;unfold ep;rcases h with (h|h)|h <;> (rw[h];decide)
theorem JY (h:s.toList.length<=1):ep s=false:=by
 unfold ep;generalize s.toList=l at h
 match l,h with
 | [],_=>decide
 | [x],_=>simp[j5]
theorem ri (s:Xb):s.toList.length=s.size:=by rw[ByteArray.toList_eq];exact Array.length_toList
theorem yh (src:Xb)(p:Nat):Tx src (zZ src p):=by
 unfold zZ;simp only;split
 . exact⟨λh=>by simp at h,λh=>by simp at h,λh=>by simp at h⟩
 split
 . unfold eM;simp only;refine⟨λ_=>rfl,λh=>?_,λh=>?_⟩
   . simp only at h ⊢;split at h
     . assumption
     split at h <;> simp at h
   simp only at h;split at h
   . simp at h
   split at h <;> simp at h
 split
 . unfold fc;simp only;refine⟨λh=>?_,λh=>?_,λh=>?_⟩ <;> (simp only at h;split at h <;> simp at h)
 unfold dT;split
 . rename_i a
   exact⟨λ_=>rfl,λh=>by simp at h,λ_=>JR a.2⟩
 split
 . refine⟨λ_=>rfl,λh=>by simp at h,λ_=>JY ?_⟩;rw[ri,ByteArray.size_extract];omega
 exact⟨λh=>by simp at h,λh=>by simp at h,λh=>by simp at h⟩
theorem Lj {src:Xb}{t:Tk}(h:Tx src t):cs src t=if 2<=t.k then src.extract t.a t.t else ⟨#[]⟩:=by
 unfold cs;split
 . rename_i a;rw[ag (by omega)]
 split
 . rename_i a b
   exact h.text (by omega)
 rfl
def St.ej (st:St)(l:Xu):Bool:=(st.t.k==4||st.t.k==5)&&st.t.s.toList==l
theorem KL (a:st.t.k<=5)(l:Xu):(ck st.t==2&&(cs st.src st.t).toList==l)=st.ej l:=by
 unfold St.ej ck cs;rcases Nat.lt_or_ge st.t.k 4 with h|h
 . have:st.t.k=0∨st.t.k=1∨st.t.k=2∨st.t.k=3:=by omega
   rcases this with h|h|h|h <;> simp[h]
 have:st.t.k=4∨st.t.k=5:=by omega
 rcases this with h|h <;> simp[h]
theorem yK (h:s.toList=l):ep s=j5.any λx=>l==x:=by subst h;rfl
theorem fm (e:Tx st.src st.t)(f:(j5.any λx=>l==x)=false):st.ej l=st.is 4 l:=by
 unfold St.ej St.is;by_cases a:st.t.k=5
 . have h:=e.kw a;by_cases b:st.t.s.toList=l
   . rw[yK b,f] at h;cases h
   simp[a,b]
 have:(st.t.k==5)=false:=by simp[a]
 rw[this,Bool.or_false]
theorem dw (e:Tx st.src st.t)(f:(j5.any λx=>l==x)=true):st.ej l=st.is 5 l:=by
 unfold St.ej St.is;by_cases a:st.t.k=4
 . have h:=e.sg a;by_cases b:st.t.s.toList=l
   . rw[yK b,f] at h;cases h
   simp[a,b]
 have:(st.t.k==4)=false:=by simp[a]
 rw[this,Bool.false_or]
structure PL (S:Xs) (w:Xw) (pb:Nat) (st:St):Prop where
 tx:Tx st.src st.t
 heap:w.heap[pb]?=some (lu S st)
 gl:Gl S w
 pb:21<=pb
theorem PL.cells (h:PL S w c st) :
 w.cell? (xD c 0)=some (.string st.src)/\w.cell? (xD c 1)=some (xI (ck st.t))/\w.cell? (xD c 2)=some (.string (cs st.src st.t))/\w.cell? (xD c 3)=some (xI st.t.a) /\
 w.cell? (xD c 4)=some (xI (cn st.t))/\w.cell? (xD c 5)=some (xI st.op)/\w.cell? (xD c 6)=some (cJ S st.er st.at'):=by
 have:=h.heap;simp[World.cell?,this,lu]
theorem PL.frozen (h:PL S w c st)(i:Nat):w.frozen? (xD c i)=false:=by have:=h.heap;simp[World.frozen?,this,lu]
theorem PL.lt (h:PL S w c st):c<w.heap.size:=by
 have a:=h.heap;rcases Nat.lt_or_ge c w.heap.size with h1|h1
 . exact h1
 rw[Array.getElem?_eq_none h1] at a;cases a
theorem PL.drew (h:PL S w c st):PL S w.drew c st:=⟨h.tx,h.heap,h.gl.of (Fr.refl (·=c) w).drew (λ_ a=>a▸h.pb),h.pb⟩
theorem PL.fr (h:PL S w c st)(b:Fr T w d)(a:∀k,T k->c<k):PL S d c st :=
 ⟨h.tx,(b.block c h.lt (λf=>by have:=a _ f;omega)).trans h.heap,h.gl.of b (λk e=>by have:=a k e;have:=h.pb;omega),h.pb⟩
theorem PL.alloc (h:PL S w c st)(o:Obj):PL S (w.alloc o) c st :=
 h.fr (T:=λ_=>False) ((Fr.refl _ w).alloc o) (λ_ a=>a.elim)
theorem PL.below (h:PL S w c st)(a:xB w d):PL S d c st :=
 h.fr (T:=λ_=>False) (Fr.dp a) (λ_ b=>b.elim)
theorem PL.aU (h:PL S w c st){b:Nat}(a:c<b)(i:Nat)(u:Xv):PL S (w.setCell (xD b i) u) c st :=
 h.fr (T:=(·=b)) ((Fr.refl _ w).aY i u) (λ_ e=>e▸a)
theorem PL.hd (h:PL S w c st)(t:Tk)(j:Tx st.src t):PL S (((((w.setCell (xD c 1) (xI (ck t))).setCell (xD c 2) (.string (cs st.src t))).setCell (xD c 3) (xI t.a)).setCell (xD c 4) (xI (cn t)))) c { st with t:=t }:=by have a:xH w c #[.string st.src,xI (ck st.t),.string (cs st.src st.t),xI st.t.a,xI (cn st.t),xI st.op,cJ S st.er st.at'] 69:=h.heap;have b:(w.setCell (xD c 1) (xI (ck t))).heap[c]?=some (.cells #[.string st.src,xI (ck t),.string (cs st.src st.t),xI st.t.a,xI (cn st.t),xI st.op,cJ S st.er st.at'] 69 (0,0)):=zh _ _ _ _ a;have e:((w.setCell (xD c 1) (xI (ck t))).setCell (xD c 2) (.string (cs st.src t))).heap[c]?=some (.cells #[.string st.src,xI (ck t),.string (cs st.src t),xI st.t.a,xI (cn st.t),xI st.op,cJ S st.er st.at'] 69 (0,0)):=zh _ _ _ _ b;have f:(((w.setCell (xD c 1) (xI (ck t))).setCell (xD c 2) (.string (cs st.src t))).setCell (xD c 3) (xI t.a)).heap[c]?=some (.cells #[.string st.src,xI (ck t),.string (cs st.src t),xI t.a,xI (cn st.t),xI st.op,cJ S st.er st.at'] 69 (0,0)):=zh _ _ _ _ e;have g:((((w.setCell (xD c 1) (xI (ck t))).setCell (xD c 2) (.string (cs st.src t))).setCell (xD c 3) (xI t.a)).setCell (xD c 4) (xI (cn t))).heap[c]?=some (.cells #[.string st.src,xI (ck t),.string (cs st.src t),xI t.a,xI (cn t),xI st.op,cJ S st.er st.at'] 69 (0,0)):=zh _ _ _ _ f;exact⟨j,g,h.gl.of (T:=(·=c)) (((((Fr.refl _ w).aY _ _).aY _ _).aY _ _).aY _ _) (λ_ i=>i▸h.pb),h.pb⟩
theorem PL.qj (h:PL S w c st)(e a:Nat):PL S ((w.setCell (xD c 6) (cJ S e a))) c { st with er:=e,at':=a }:=by have b:xH w c #[.string st.src,xI (ck st.t),.string (cs st.src st.t),xI st.t.a,xI (cn st.t),xI st.op,cJ S st.er st.at'] 69:=h.heap;have f:xH (w.setCell (xD c 6) (cJ S e a)) c #[.string st.src,xI (ck st.t),.string (cs st.src st.t),xI st.t.a,xI (cn st.t),xI st.op,cJ S e a] 69:=zh _ _ _ _ b;exact⟨h.tx,f,h.gl.of (T:=(·=c)) ((Fr.refl _ w).aY _ _) (λ_ g=>g▸h.pb),h.pb⟩
theorem PL.mU (h:PL S w c st)(o:Nat):PL S ((w.setCell (xD c 5) (xI (o:Nat)))) c { st with op:=o }:=by have a:xH w c #[.string st.src,xI (ck st.t),.string (cs st.src st.t),xI st.t.a,xI (cn st.t),xI st.op,cJ S st.er st.at'] 69:=h.heap;have b:(w.setCell (xD c 5) (xI (o:Nat))).heap[c]?=some (.cells #[.string st.src,xI (ck st.t),.string (cs st.src st.t),xI st.t.a,xI (cn st.t),xI o,cJ S st.er st.at'] 69 (0,0)):=zh _ _ _ _ a;exact⟨h.tx,b,h.gl.of (T:=(·=c)) ((Fr.refl _ w).aY _ _) (λ_ e=>e▸h.pb),h.pb⟩
end
section
theorem jZ (s:Xb)(a:Nat)(b:a<=s.size):(s.extract a s.size).size=s.size-a:=by rw[ByteArray.size_extract];omega
theorem nP (s:Xb)(a i:Nat)(b:a<=s.size):bt (s.extract a s.size) i=bt s (a+i):=by
 unfold bt;by_cases h:i<s.size-a
 . rw[dif_pos (by rw[jZ s a b];exact h),dif_pos (by omega)];congr 1;rw[ByteArray.getElem_extract]
 rw[dif_neg (by rw[jZ s a b];exact h),dif_neg (by omega)]
theorem Iz (p:Xh)(s:Xb)(a:Nat)(b:a<=s.size):∀f i,ia p (s.extract a s.size) f i+a=ia p s f (a+i):=by
 intro f;induction f with
 | zero=>intro i;show i+a=a+i;omega
 | succ f d =>
   intro i
   show (if i<(s.extract a s.size).size/\p (bt (s.extract a s.size) i)=true then ia p (s.extract a s.size) f (i+1) else i)+a=(if a+i<s.size/\p (bt s (a+i))=true then ia p s f (a+i+1) else a+i);rw[jZ s a b,nP s a i b];by_cases h:i<s.size-a/\p (bt s (a+i))=true
   . rw[ag h,ag ⟨by omega,h.2⟩,d (i+1)];rfl
   rw[ae h,ae (λc=>h ⟨by omega,c.2⟩)];omega
theorem rr (p:Xh)(s:Xb)(a:Nat)(b:a<=s.size):zQ p (s.extract a s.size) 0+a=zQ p s a:=by unfold zQ;rw[jZ s a b];have:=Iz p s a b (s.size-a-0) 0;simpa using this
theorem nC (s:Xb)(a n:Nat)(h:a+n<=s.size):(s.extract a s.size).extract 0 n=s.extract a (a+n):=by rw[ByteArray.extract_extract];congr 1;omega
def gO:List UInt8->Bool×Nat->Bool×Nat
 | [],x=>x
 | c::r,x=>gO r (if x.2 > (9223372036854775807-(c.toNat-48)) / 10 then (false,x.2) else (x.1,x.2*10+(c.toNat-48)))
theorem Ir:∀(l:Xu) (n:Nat),(gO l (false,n)).1=false:=by
 intro l;induction l with
 | nil=>intro n;rfl
 | cons c r a =>
   intro n
   show (gO r (if n > (9223372036854775807-(c.toNat-48)) / 10 then (false,n) else (false,n*10+(c.toNat-48)))).1=false;split <;> exact a _
def mv (l:Xu):Prop:=∀c∈l,48<=c.toNat/\c.toNat<=57
theorem Jj (M:Nat):∀(l:Xu) (a:Nat),mv l->Lib.parseUintM M a l=.range∨∃u,Lib.parseUintM M a l=.ok u/\a<=u:=by
 intro l;induction l with
 | nil=>intro a _;exact ap ⟨a,rfl,an _⟩
 | cons c r i =>
   intro a h;have e:=h c (by simp);have f:mv r:=λx g=>h x (by simp[g]);have d:Lib.parseUintM M a (c::r)=if 1844674407370955162<=a then .range else if M<a*10+(c.toNat-48) then .range else Lib.parseUintM M (a*10+(c.toNat-48)) r:=(by rw[Lib.parseUintM,ag e]);rw[d];split
   . exact ao rfl
   split
   . exact ao rfl
   rcases i (a*10+(c.toNat-48)) f with b|⟨u,b,j⟩
   . exact ao b
   exact ap ⟨u,b,by omega⟩
theorem KM:∀(l:Xu) (a:Nat),mv l->a<=9223372036854775807 ->
 ((gO l (true,a)).1=true->Lib.parseUintM 18446744073709551615 a l=.ok (gO l (true,a)).2/\(gO l (true,a)).2<=9223372036854775807) /\
 ((gO l (true,a)).1=false->Lib.parseUintM 18446744073709551615 a l=.range∨∃u,Lib.parseUintM 18446744073709551615 a l=.ok u/\9223372036854775807<u):=by
 intro l;induction l with
 | nil=>intro a _ e;exact⟨λ_=>⟨rfl,e⟩,λh=>by cases h⟩
 | cons c r n =>
   intro a h e;have k:=h c (by simp);have f:mv r:=λx m=>h x (by simp[m]);have g:gO (c::r) (true,a)=gO r (if a > (9223372036854775807-(c.toNat-48)) / 10 then (false,a) else (true,a*10+(c.toNat-48))):=rfl;have i:Lib.parseUintM 18446744073709551615 a (c::r)=if 1844674407370955162<=a then .range else if 18446744073709551615<a*10+(c.toNat-48) then .range else Lib.parseUintM 18446744073709551615 (a*10+(c.toNat-48)) r:=(by rw[Lib.parseUintM,ag k]);rw[g,i];by_cases d:a > (9223372036854775807-(c.toNat-48)) / 10
   . rw[ag d];refine⟨λb=>?_,λ_=>?_⟩
     . rw[Ir] at b;cases b
     split
     . exact ao rfl
     split
     . exact ao rfl
     rcases Jj 18446744073709551615 r (a*10+(c.toNat-48)) f with b|⟨u,b,o⟩
     . exact ao b
     exact ap ⟨u,b,by omega⟩
   rw[ae d];have j:a*10+(c.toNat-48)<=9223372036854775807:=(by omega);rw[ae (by omega),ae (by omega)];exact n _ f j
theorem KB (l:Xu)(h:mv l)(b:l≠[]):Lib.parseIntB 64 l=if (gO l (true,0)).1=true then .ok ((gO l (true,0)).2:Int) else .range:=by
 obtain⟨c,r,rfl⟩:=List.exists_cons_of_ne_nil b;have i:=h c (by simp);have e:=KM (c::r) 0 h (by omega);have g:Lib.parseUintB 64 (if c.toNat=43∨c.toNat=45 then r else c::r)=Lib.parseUintM 18446744073709551615 0 (c::r):=by rw[ae (by omega)];unfold Lib.parseUintB;rw[ae (by simp)]
 unfold Lib.parseIntB;simp only;rw[g];cases d:(gO (c::r) (true,0)).1 with
 | true => obtain⟨a,f⟩:=e.1 d;rw[a];simp only;rw[ae (by omega),ae (by omega),ae (by omega)];simp
 | false =>
   rw[ae (by simp)];rcases e.2 d with a|⟨u,a,f⟩
   . rw[a]
   rw[a];simp only;rw[ag ⟨by omega,by omega⟩]
def j1 (s:Xb)(i e:Nat):List UInt8:=(s.extract i e).data.toList
theorem xr (s:Xb)(i e:Nat)(c:i<e)(b:e<=s.size):j1 s i e=s[i]'(by omega)::j1 s (i+1) e:=by unfold j1;have a:s.data.size=s.size:=rfl;rw[ByteArray.data_extract,ByteArray.data_extract,Array.toList_extract,Array.toList_extract,List.extract_eq_take_drop,List.extract_eq_take_drop];rw[dE (by rw[Array.length_toList,a];omega),show e-i=(e-(i+1))+1 by omega,cI];rfl
theorem xl (s:Xb)(i:Nat):j1 s i i=[]:=by unfold j1;rw[ByteArray.data_extract,Array.toList_extract,List.extract_eq_take_drop];simp
theorem I8 (s:Xb):∀(f i:Nat) (x:Bool×Nat),f=s.size-i->dR s f i x=gO (j1 s i (zQ zT s i)) x/\mv (j1 s i (zQ zT s i)):=by
 intro f;induction f with
 | zero => intro i x o;rw[nY (by omega),xl];exact⟨rfl,λc a=>by cases a⟩
 | succ f p =>
   intro i x o;have j:i<s.size:=(by omega);by_cases b:zT (bt s i)=true
   . have e:=kJ j b;have k:i+1<=zQ zT s i:=(by rw[e];exact ll _ _ _);have d:zQ zT s i<=s.size:=jl _ _ _ (by omega);have n:=kb j;have a:=xr s i _ k d;obtain⟨l,m⟩:=p (i+1) (if x.2 > (9223372036854775807-(bt s i-48)) / 10 then (false,x.2) else (x.1,x.2*10+(bt s i-48))) (by omega);rw[<- e] at l m;rw[a];refine⟨?_,?_⟩
     . show (if i<s.size/\zT (bt s i)=true then _ else x)=gO (j1 s (i+1) (zQ zT s i)) (if x.2 > (9223372036854775807-((s[i]).toNat-48)) / 10 then (false,x.2) else (x.1,x.2*10+((s[i]).toNat-48)));rw[ag ⟨j,b⟩,n,l]
     intro c a;rcases cC.1 a with h|h
     . subst h;rw[n];simp[zT] at b;exact b
     exact m c h
   have g:zT (bt s i)=false:=(by simpa using b);rw[nW g,xl];refine⟨?_,λc a=>by cases a⟩
   show (if i<s.size/\zT (bt s i)=true then _ else x)=x;rw[ae (λh=>b h.2)]
theorem Jc (s:Xb)(a:Nat)(f:a<s.size)(g:zT (bt s a)=true):Lib.parseIntB 64 (s.extract a (zQ zT s a)).data.toList=if (dR s (s.size-a) a (true,0)).1=true then .ok ((dR s (s.size-a) a (true,0)).2:Int) else .range:=by
 obtain⟨d,e⟩:=I8 s (s.size-a) a (true,0) rfl;have c:a+1<=zQ zT s a:=by rw[kJ f g];exact ll _ _ _
 have b:zQ zT s a<=s.size:=jl _ _ _ (by omega);rw[d];refine KB _ e ?_
 show j1 s a (zQ zT s a)≠[];rw[xr s a _ c b];simp
end
section
open Go.RowKit
variable {w d:Xw}
theorem JZ {e:Xy}(h:d=w∨∃t,d=Lib.bytesWorld w e t):xB w d:=by
 rcases h with rfl|⟨t,rfl⟩
 . exact Below.refl _ _
 exact Lib.bytesWorld_below _ _ _
theorem nK {o:Obj}(h:Below (w.alloc o).heap.size (w.alloc o) d):xB w d :=
 ⟨h.os,h.tape,h.output,aJ (by simp) h.size,λk a=>(h.block k (by simp;omega)).trans (Below.heap_alloc _ _ _ a)⟩
theorem mc {fn:Func}{p:Tmp}(h:fn.results=#[.cell p 66]){a:Xa}{b:Nat}(n:a[p]?.getD undef=xP b){c e f g:Xv}(m:xH w b #[c,e,f,g] 66):(results fn a).run prog w=.ok (.agg #[c,e,f,g]) w:=by obtain⟨i,j,k,l,_⟩:=zU m;simp[results,h,n,go_sem,i,j,k,l]
def pK (r:Xb)(a:Nat):Value :=
 if (dR r (r.size-0) 0 (true,0)).1=true then ci 4 (r.extract 0 (zQ zT r 0)) a (dR r (r.size-0) 0 (true,0)).2 else ci 0 ⟨#[]⟩ a 0
theorem Ic (S:Xs)(r:Xb)(s:r.size<=1200)(z:0<r.size)(B:zT (bt r 0)=true)(a:Nat)(w:Xw)(q:Gl S w) :
 xK 71 #[.string r,xI a] w λe p=>e=.returned (pK r a)/\xB w p:=by
 have A:=jl zT r 0 (aE _);have h:=Jc r 0 z B;have g:aa (pK r a=if (dR r (r.size-0) 0 (true,0)).1=true then ci 4 (r.extract 0 (zQ zT r 0)) a (dR r (r.size-0) 0 (true,0)).2 else ci 0 ⟨#[]⟩ a 0):=rfl;obtain⟨n,j⟩:∃n,zQ zT r 0=n:=⟨_,rfl⟩;generalize dR r (r.size-0) 0 (true,0)=x at *;rw[j] at A h g;have l:w.cell? (xD 16 0)=some (.iface 399 (.pointer (some (S 12)))):=q.range;have k:=q.size;have i:16<w.heap.size:=dD (by decide) k;have m:(r.extract 0 n).size<=281474976710656:=by rw[ByteArray.size_extract];omega
 cases t:x.1 with
 | true => rw[t,ag rfl] at h g;have f:=za (Tryz.strconv_ParseInt_10_at64_ok (r.extract 0 n) (by omega) x.2 h (w.alloc (.cells #[xI 0,.string ⟨#[]⟩,xI 0,xI 0] 66)));go_enter func71,ntmps71;go_wp2_with (first|(go_at_call 131;refine f.o.mono ?_;rintro e d ⟨rfl,o⟩;have b:=JZ o;have c:=(b.block w.heap.size (Nat.lt_of_lt_of_eq (cf _) (by simp))).trans (zc w _);obtain⟨d0,d1,d2,d3,u,y⟩:=zU c)|(go_at_call 66;refine (mj _ zT xm mf r s _).mono ?_;rintro e p ⟨rfl,rfl⟩;rw[j]));refine bodyPost_ret (v:=ci 4 (r.extract 0 n) a x.2) (mc rfl rfl (kB c _ _ _ _)) rfl ⟨by rw[g.o],?_⟩;exact (((((nK b).setCell (an _) _).setCell (an _) _).setCell (an _) _).setCell (an _) _)
 | false => rw[t,ae (by simp)] at h g;have f:=za (Tryz.strconv_ParseInt_10_at64_range (r.extract 0 n) m h (.iface 399 (.pointer (some (S 12)))) (w.alloc (.cells #[xI 0,.string ⟨#[]⟩,xI 0,xI 0] 66)) ((World.cell?_alloc_lt _ _ _ i).trans l) (ap ⟨_,_,rfl⟩));go_enter func71,ntmps71;go_wp2_with (first|(go_at_call 131;refine f.o.mono ?_;rintro e d ⟨N,rfl,_,_,b⟩;have c:=(b.block w.heap.size (Nat.lt_of_lt_of_eq (cf _) (by simp))).trans (zc w _);obtain⟨d0,d1,d2,d3,u,y⟩:=zU c)|(go_at_call 66;refine (mj _ zT xm mf r s _).mono ?_;rintro e p ⟨rfl,rfl⟩;rw[j]));refine bodyPost_ret (v:=ci 0 ⟨#[]⟩ a 0) (mc rfl rfl (kB c _ _ _ _)) rfl ⟨by rw[g.o],?_⟩;exact (((((nK b).setCell (an _) _).setCell (an _) _).setCell (an _) _).setCell (an _) _)
def pB (r:Xb)(a:Nat):Value :=
 if 2<=r.size/\((r.extract 0 2).toList==[45,62]||(r.extract 0 2).toList==[60,62]||(r.extract 0 2).toList==[60,61])=true then ci 2 (r.extract 0 2) a 0
 else if hs (bt r 0) then ci 2 (r.extract 0 1) a 0 else ci 0 ⟨#[]⟩ a 0
theorem rv (s t:Xb)(c:t.size=2)(b:s.size<=1200)(w:Xw):xK 132 #[.string s,.string t] w λe a=>e=.returned (.bool (decide (2<=s.size)&&(s.extract 0 2).toList==t.toList))/\w=a:=by
 go_enter func132,ntmps132;go_wp2;all_goals go_ret
 . rename_i h
   have:decide (2<=s.size)=true:=by simp;omega
   rw[this];exact⟨rfl,rfl⟩
 rename_i h
 have:decide (2<=s.size)=false:=by simp;omega
 rw[this];exact⟨rfl,rfl⟩
theorem Kx:∀n,n<256->decide ((0:Int)<=Lib.indexByte [40,41,123,125,58,59,44,61,60,43,45,42,47,37] n.toUInt8)=hs n:=by decide +kernel
theorem r6 {s t:Xb}(h:s.toList=t.toList):s=t:=by rw[ByteArray.toList_eq,ByteArray.toList_eq] at h;exact ByteArray.ext (Array.toList_inj.1 h)
theorem qc (a b c:Xb)(w:Xw):(Instr.index 257 (.agg #[.string a,.string b,.string c]) (xI 0)).run prog w=.ok (.string a) w/\(Instr.index 257 (.agg #[.string a,.string b,.string c]) (xI 1)).run prog w=.ok (.string b) w/\(Instr.index 257 (.agg #[.string a,.string b,.string c]) (xI 2)).run prog w=.ok (.string c) w:=⟨by kernel_rfl,by kernel_rfl,by kernel_rfl⟩
theorem Lk (r:Xb)(i:Nat):bt r i<256:=by
 unfold bt;split
 . exact UInt8.toNat_lt _
 decide
theorem Jt (r:Xb)(q:r.size<=1200)(A:0<r.size)(a:Nat)(w:Xw) :
 xK 72 #[.string r,xI a] w λe m=>e=.returned (pB r a)/\xB w m:=by
 have D:=λw=>(qc ⟨#[45,62]⟩ ⟨#[60,62]⟩ ⟨#[60,61]⟩ w).1;have E:=λw=>(qc ⟨#[45,62]⟩ ⟨#[60,62]⟩ ⟨#[60,61]⟩ w).2.1;have F:=λw=>(qc ⟨#[45,62]⟩ ⟨#[60,62]⟩ ⟨#[60,61]⟩ w).2.2;have C:=kb A;have b:=Lk r 0;have i:=Kx (bt r 0) b;have t1:(⟨#[45,62]⟩:Xb).toList=[45,62]:=by decide +kernel
 have t2:(⟨#[60,62]⟩:Xb).toList=[60,62]:=by decide +kernel
 have t3:(⟨#[60,61]⟩:Xb).toList=[60,61]:=by decide +kernel
 have j:aa (pB r a=if 2<=r.size/\((r.extract 0 2).toList==[45,62]||(r.extract 0 2).toList==[60,62]||(r.extract 0 2).toList==[60,61])=true then ci 2 (r.extract 0 2) a 0 else if hs (bt r 0) then ci 2 (r.extract 0 1) a 0 else ci 0 ⟨#[]⟩ a 0):=rfl;obtain⟨c,z⟩:∃c,bt r 0=c:=⟨_,rfl⟩;rw[z] at C i j;have l:=za i;have u:=za t1;have x:=za t2;have y:=za t3;clear z i t1 t2 t3 b;go_enter func72,ntmps72;go_wp2_with fail;refine wp_loop_rounds 4 ?_;rw[rounds_succ];go_wp2_with (go_at_call 132;refine (rv _ _ rfl q _).mono ?_;rintro e m ⟨rfl,rfl⟩;rw[u.o])
 . rename_i f
   refine bodyPost_ret (v:=ci 2 ⟨#[45,62]⟩ a 0) (by simp[results,results72,go_sem,ci]) rfl ⟨?_,(Below.refl _ _).alloc (an _) _⟩;simp only[beq_iff_eq] at f;rw[j.o,ag ⟨f.1,by simp[f.2]⟩,r6 (f.2.trans u.o.symm)]
 rename_i f
 rw[rounds_succ];go_wp2_with (go_at_call 132;refine (rv _ _ rfl q _).mono ?_;rintro e m ⟨rfl,rfl⟩;rw[x.o])
 . rename_i g
   refine bodyPost_ret (v:=ci 2 ⟨#[60,62]⟩ a 0) (by simp[results,results72,go_sem,ci]) rfl ⟨?_,(Below.refl _ _).alloc (an _) _⟩;simp only[beq_iff_eq] at g;rw[j.o,ag ⟨g.1,by simp[g.2]⟩,r6 (g.2.trans x.o.symm)]
 rename_i g
 rw[rounds_succ];go_wp2_with (go_at_call 132;refine (rv _ _ rfl q _).mono ?_;rintro e m ⟨rfl,rfl⟩;rw[y.o])
 . rename_i h
   refine bodyPost_ret (v:=ci 2 ⟨#[60,61]⟩ a 0) (by simp[results,results72,go_sem,ci]) rfl ⟨?_,(Below.refl _ _).alloc (an _) _⟩;simp only[beq_iff_eq] at h;rw[j.o,ag ⟨h.1,by simp[h.2]⟩,r6 (h.2.trans y.o.symm)]
 rename_i h
 have t:aa (¬(2<=r.size/\((r.extract 0 2).toList==[45,62]||(r.extract 0 2).toList==[60,62]||(r.extract 0 2).toList==[60,61])=true)):=by
  rintro⟨o,g2⟩;simp only[Bool.or_eq_true] at g2;rcases g2 with (g2|g2)|g2
  . rw[g2] at f;simp[o] at f
  . rw[g2] at g;simp[o] at g
  rw[g2] at h;simp[o] at h
 have s:=j.o;rw[ae t.o] at s;have k:=za s;clear f g h s j t;rw[rounds_succ];go_wp2_with (go_at_call 133;refine (Tryz.strings_IndexByte _ _ _).mono ?_;rintro e m ⟨rfl,rfl⟩)
 . rename_i n
   have p:hs c=true:=(by rw[<- l.o];exact decide_eq_true n);refine bodyPost_ret (v:=ci 2 (r.extract 0 1) a 0) (by simp[results,results72,go_sem,ci]) rfl ⟨by rw[k.o,ag p],(Below.refl _ _).alloc (an _) _⟩
 rename_i n
 have p:¬hs c=true:=by rw[<- l.o];intro B;exact absurd (of_decide_eq_true B) (by first|exact n|exact Int.not_le.2 n)
 refine bodyPost_ret (v:=ci 0 ⟨#[]⟩ a 0) (by simp[results,results72,go_sem,ci]) rfl ⟨by rw[k.o,ae p],(Below.refl _ _).alloc (an _) _⟩
end
end Go.Proofs.YtmfkofhgdjechaaGreatDoor
