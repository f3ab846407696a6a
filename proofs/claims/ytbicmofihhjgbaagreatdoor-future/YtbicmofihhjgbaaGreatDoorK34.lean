/- Part 35 of the proof. -/
import Derived.Test.YtbicmofihhjgbaaGreatDoorK32
import Derived.Test.YtbicmofihhjgbaaGreatDoorK33
set_option maxRecDepth 100000
set_option maxHeartbeats 8000000
namespace Go.Proofs.YtbicmofihhjgbaaGreatDoor
open Go.Proofs.Tryz
section
variable {i:Bool} {s:Xb} {u part j m r:Fn} {ak:List Vr} {f g w:Nat} {c:St} {t:Tk}
def mE:List (List UInt8):=[[110,117,109,98,101,114],[98,111,111,108],[118,97,114],[99,97,108,108],[105,102],[109,101,114,103,101],[119,104,101,110],[119,104,101,110,111,116],[102,98,121],[110,101,103],[110,111,116],[97,110,100],[111,114],[120,111,114],[61],[60,62],[60],[60,61],[43],[45],[42],[47],[37]]
def tf (l:Xu):Bool:=l==[118,97,114]
def mQ (e:Ex):Prop:=e.n<=9223372036854775807/\e.s.size<=1200/\e.op.toList∈mE/\e.ah.length<=1400/\(tf e.op.toList=true->e.a=e.nm)
abbrev l0 (l:Xu):Prop:=l∈mE/\tf l=false
theorem DE {n:Nat}(h:et t n=true):l0 t.s.toList:=by
 unfold et at h;split at h
 . cases h
 split at h
 . rename_i h1;rcases h1 with h1|h1 <;> (rw[h1];decide)
 split at h
 . rename_i h1;rw[h1];decide
 split at h
 . rename_i h1;rcases h1 with h1|h1 <;> (rw[h1];decide)
 split at h
 . rename_i h1;rcases h1 with h1|h1|h1 <;> (rw[h1];decide)
 cases h
theorem Dn (h:eh t=true):l0 t.s.toList:=by unfold eh at h;simp only[Bool.and_eq_true,Bool.or_eq_true,beq_iff_eq] at h;rcases h.2 with ((h1|h1)|h1)|h1 <;> (rw[h1];decide)
theorem Ek (h:eu c=true):l0 c.t.s.toList:=by unfold eu St.is at h;simp only[Bool.or_eq_true,Bool.and_eq_true,beq_iff_eq] at h;rcases h with h1|h1 <;> (rw[h1.2];decide)
theorem D2:l0 kS.toList:=by decide +kernel
theorem D6:l0 kR.toList:=by decide +kernel
theorem Eo:l0 fL.toList:=by decide +kernel
theorem DU:l0 iz.toList:=by decide +kernel
theorem Dk:l0 iL.toList:=by decide +kernel
theorem D0:l0 iO.toList:=by decide +kernel
theorem D1:gQ.toList∈mE:=by decide +kernel
theorem vp:l0 MV.toList:=by decide +kernel
theorem D7:l0 fJ.toList:=by decide +kernel
structure Zs (c:St):Prop where
 src:c.src.size<=1200
 tt:c.t.t<=c.src.size
 tn:c.t.n<=9223372036854775807
 ts:c.t.s.size<=1200
 L:∀e∈c.L,mQ e
def ZK (M:Fn):Prop:=∀c,Zs c->Zs (M c).1
theorem uQ (s:Xb)(p:Nat)(k:s.size<=1200):(zZ s p).s.size<=1200:=by
 have h:∀a b:Nat,(s.extract a b).size<=1200:=by intro a b;rw[ByteArray.size_extract];omega
 have d:(⟨#[]⟩:Xb).size=0:=rfl;have e:(⟨#[48]⟩:Xb).size=1:=rfl;unfold zZ eM fc dT;simp only
 repeat' split
 all_goals first|exact h _ _|(rw[d];omega)|(rw[e];omega)
theorem Zs.ad (h:Zs c):Zs c.ad:=by
 unfold St.ad;split
 . have:=zV c.src c.t.t h.tt;exact⟨h.src,this.2.2.1,this.2.2.2.1,uQ _ _ h.src,h.L⟩
 exact h
theorem Zs.fail (h:Zs c)(e a:Nat):Zs (c.fail e a):=by unfold St.fail;split <;> exact⟨h.src,h.tt,aE _,aE _,h.L⟩
theorem Zs.ac (h:Zs c)(k:Nat)(l:Xu):Zs (c.ac k l):=by unfold St.ac;split;exact h.ad;exact h.fail _ _
theorem Zs.name (h:Zs c):Zs c.name:=by unfold St.name;split;exact h.ad;exact h.fail _ _
theorem Zs.enter (h:Zs c):Zs c.enter:=by have a:Zs ({ c with op:=c.op+1 }:St):=⟨h.src,h.tt,h.tn,h.ts,h.L⟩;unfold St.enter;split;exact a.fail _ _;exact a.ad
theorem Zs.aI (h:Zs c):Zs c.aI:=⟨h.src,h.tt,h.tn,h.ts,h.L⟩
theorem Zs.put (h:Zs c){e:Ex}(a:mQ e):Zs (c.put e).1:=by
 refine⟨h.src,h.tt,h.tn,h.ts,λx hx=>?_⟩;rcases bj.1 (show x∈c.L++[e] from hx) with hx|hx
 . exact h.L x hx
 rw[cu.1 hx];exact a
theorem kU {k:Xb}{a b:Nat}{l:Xn}(d:l0 k.toList)(h:s.size<=1200)(n:l.length<=1400:=by simp):mQ ⟨k,a,b,l,s,0⟩:=⟨aE _,h,d.1,n,λe=>by rw[d.2] at e;cases e⟩
theorem lD:sE.size<=1200:=aE _
theorem vi (a:ZK part):∀(f:Nat) (x:St×Nat),Zs x.1->Zs (dx w part f x).1
 | 0,_,h=>h
 | f+1,x,h=>by
   unfold dx;split
   . rename_i b
     exact vi a f _ ((a _ h.ad).put (kU (DE b.2) lD))
   exact h
theorem oI (a:ZK part):ZK (eo w part):=λc h=>vi a 1300 _ (a c h)
theorem Em {sum:Fn}(a:ZK sum):ZK (ei sum):=by
 intro c h;unfold ei;simp only;split
 . rename_i b
   exact (a _ (a c h).ad).put (kU (Dn b.2) lD)
 exact a c h
theorem CR {b a:Fn}(d:ZK b)(e:ZK a):ZK (dG b a):=by
 intro c h;unfold dG;split
 . refine (d _ h.enter).aI.put (kU ?_ lD);split
   . exact D2
   exact D6
 exact e c h
theorem tX:∀(f:Nat) (x:St×Nat),Zs x.1->Zs (M0 f x).1
 | 0,_,h=>h
 | f+1,x,h=>by
   unfold M0;split
   . rename_i a
     exact tX f _ (h.ad.name.put (kU (Ek a.2) h.ad.ts))
   exact h
theorem CF (a:ZK u):ZK (gR u):=λc h=>tX 1300 _ (a c h)
theorem uW (a:ZK r):∀(f:Nat) (x:St×List Nat),Zs x.1->Zs (cY r f x).1
 | 0,_,h=>h
 | f+1,x,h=>by
   unfold cY;split
   . exact uW a f _ (a _ h.ad)
   exact h
theorem ve {ry:Fn}:∀(f:Nat) (x:St×List Nat),(cY ry f x).2.length<=x.2.length+f
 | 0,_=>an _
 | f+1,x=>by
   unfold cY;split
   . have:=ve (ry:=ry) f ((ry x.1.ad).1,x.2++[(ry x.1.ad).2]);simp only[aP,List.length_singleton] at this;omega
   omega
theorem vj (a:ZK r)(t:Tk)(b:t.s.size<=1200):ZK (vs r t):=by
 intro c h;unfold vs;split
 . exact ((uW a 1300 _ (a _ h.enter)).ac _ _).aI.put (kU Eo b (aJ (ve 1300 _) (by simp)))
 exact h.fail _ _
theorem C6 (a:ZK r):ZK (fp r):=λ_ h =>
 (a _ ((a _ ((a _ h.enter).ac _ _)).ac _ _)).aI.put (kU DU lD)
theorem Mk:ZK kc:=λ_ h=>h.ad.put ⟨aE _,h.ts,D1,aE _,λ_=>rfl⟩
theorem Zk (a:ZK u):ZK (bF u):=by
 intro c h;unfold bF;split
 . exact a c h
 exact Mk c h
theorem Dr (a:ZK u):ZK (fs u):=λ_ h =>
 (Zk a _ (Zk a _ h.enter.name)).aI.put (kU Dk h.enter.ts)
theorem DM (a:ZK r):ZK (iM r):=λ_ h=>((a _ h.enter).ac _ _).aI
theorem qm (b:Xb)(n:Nat)(a:l0 b.toList)(d:n<=9223372036854775807):ZK (fK b n):=λ_ h=>h.ad.put ⟨d,lD,a.1,aE _,λe=>by rw[a.2] at e;cases e⟩
theorem Do {b:Fn}(a:ZK r)(d:ZK b):ZK (aN r b):=by
 intro c h;unfold aN;split
 . exact h
 split
 . exact qm _ _ D7 h.tn c h
 split
 . split
   . exact vj a _ h.ts _ h.ad
   exact Mk c h
 split
 . exact DM a c h
 split
 . exact qm _ _ vp (by omega) c h
 split
 . exact qm _ _ vp (by omega) c h
 split
 . exact C6 a c h
 split
 . exact Dr d c h
 exact h.fail _ _
theorem Dy {a:Fn}(d:ZK r)(b:ZK a):ZK (fe r a):=by
 intro c h;unfold fe;simp only;split
 . exact (d _ (b c h).enter).aI.put (kU D0 lD)
 exact b c h
theorem qD:∀d:Nat,ZK (fx d).ex/\ZK (fx d).un/\ZK (fx d).at'
 | 0=>⟨λ_ h=>h,λ_ h=>h,λ_ h=>h⟩
 | d+1=>by obtain⟨a,k,l⟩:=qD d;have b:ZK (aN (fx d).ex (fx d).at'):=Do a l;have e:ZK (dG (fx d).un (gR (aN (fx d).ex (fx d).at'))):=CR k (CF b);exact⟨Dy a (oI (oI (Em (oI (oI e))))),e,b⟩
def kl (v:Vr):Prop:=v.nm.size<=1200/\v.ck.size<=1200
structure lG (d:Nd):Prop where
 nm:d.nm.size<=1200
 ak:∀v∈d.ak,kl v
 az:∀e∈d.az,mQ e
 eqs:∀q∈d.eqs,∀s∈q.ns,s.size<=1200
 ns:∀q∈d.eqs,q.ns.length<=1400
theorem mK {α:Type}{l:List α}{a x:α}(h:x∈l++[a]):x∈l∨x=a:=by
 rcases bj.1 h with h|h
 . exact ao h
 exact ap (cu.1 h)
theorem Zs.type (h:Zs c):Zs (z9 c):=by unfold z9;split;exact h.ad;exact h.ac _ _
theorem Zs.hb (h:Zs c):Zs (aS c):=by unfold aS;split;exact h.ad;exact h
def ZV (x:St×List Vr):Prop:=Zs x.1/\∀v∈x.2,kl v
theorem pZ {o:Bool}(h:Zs c)(d:∀v∈ak,kl v):ZV (zx i o c ak):=by
 unfold zx;split
 . exact⟨h.fail _ _,d⟩
 have b:=(h.name.ac 4 [58]).type;simp only;split
 . refine⟨b.ad.hb.name,λv a=>?_⟩;rcases mK a with a|rfl
   . exact d v a
   exact⟨h.ts,b.ad.hb.ts⟩
 refine⟨b,λv a=>?_⟩;rcases mK a with a|rfl
 . exact d v a
 exact⟨h.ts,lD⟩
theorem uE:∀(f:Nat) (x:St×List Vr),ZV x->ZV (MG i f x)
 | 0,_,h=>h
 | f+1,x,h=>by
   unfold MG;split
   . exact uE f _ (pZ h.1.ad h.2)
   exact h
theorem uB (h:Zs c)(a:∀v∈ak,kl v):ZV (bW i c ak):=by have:=uE (i:=i) 1300 _ (pZ (i:=i) (o:=!i) (h.ac 4 [40]) a);exact⟨this.1.ac _ _,this.2⟩
theorem Mi (h:Zs c)(a:∀v∈ak,kl v):ZV (MN c ak) :=
 ⟨(pZ h a).1.ac _ _,(pZ h a).2⟩
theorem uG:∀(f:Nat) (x:St×List Vr),ZV x->ZV (en f x)
 | 0,_,h=>h
 | f+1,x,h=>by
   unfold en;split
   . exact uG f _ (Mi h.1 h.2)
   exact h
theorem Ee (h:Zs c)(a:∀v∈ak,kl v):ZV (bD f c ak):=by
 unfold bD;split
 . exact uG f _ (Mi h.ad a)
 exact⟨h,a⟩
theorem DC (h:Zs c):ZV (aT c):=by have a:=uB (i:=true) (ak:=[]) (h.ac 5 zW).name (λv b=>by cases b);exact uB (a.1.ac _ _) a.2
def ZN (x:dI):Prop:=Zs x.st/\∀s∈x.ns,s.size<=1200
theorem ut:∀(f:Nat) (x:dI),ZN x->ZN (cX f x)
 | 0,_,h=>h
 | f+1,x,h=>by
   unfold cX;split
   . refine ut f _ ⟨h.1.ad.name,λs a=>?_⟩;rcases mK a with a|rfl
     . exact h.2 s a
     exact h.1.ad.ts
   exact h
theorem Dj (h:Zs c):ZN (aZ c):=by
 unfold aZ;split
 . have b:=h.ad.name.ac 4 [44];have d:=ut 1300 ⟨(c.ad.name.ac 4 [44]).name,[c.ad.t.s,(c.ad.name.ac 4 [44]).t.s],[c.ad.t.a,(c.ad.name.ac 4 [44]).t.a]⟩ ⟨b.name,λs a=>by
    simp only[cC,List.not_mem_nil,or_false] at a;rcases a with rfl|rfl
    . exact h.ad.ts
    exact b.ts⟩
   exact⟨d.1.ac _ _,d.2⟩
 exact⟨h.name,λs a=>by rw[cu.1 a];exact h.ts⟩
theorem vh:∀(f:Nat) (x:dI),(cX f x).ns.length<=x.ns.length+f
 | 0,_=>an _
 | f+1,x=>by
   unfold cX;split
   . have:=vh f x.more;have h:x.more.ns.length=x.ns.length+1:=(by show (x.ns++[_]).length=_;simp);omega
   omega
theorem Dz (c:St):(aZ c).ns.length<=1400:=by
 unfold aZ;split
 . have:=vh 1300 ⟨(c.ad.name.ac 4 [44]).name,[c.ad.t.s,(c.ad.name.ac 4 [44]).t.s],[c.ad.t.a,(c.ad.name.ac 4 [44]).t.a]⟩;exact aJ this (by simp)
 simp
def sF (q:ax):Prop:=(∀s∈q.ns,s.size<=1200)/\q.ns.length<=1400
def ZQ (x:St×List ax):Prop:=Zs x.1/\∀q∈x.2,sF q
theorem tV (d:ZK j)(e:ZK m){eqs:List ax}(h:Zs c)(l:∀q∈eqs,sF q):ZQ (zF j m c eqs):=by
 have k:=Dj h;have a:=k.1.ac 4 [61];have n:Zs (cx j m (c.is 4 [40]) ((aZ c).st.ac 4 [61])).1:=by
  unfold cx;split
  . exact vj d _ a.ts _ a.name
  exact e _ a
 refine⟨n.ac _ _,λq b=>?_⟩;rcases mK b with b|rfl
 . exact l q b
 exact⟨k.2,Dz c⟩
theorem uN (a:ZK j)(b:ZK m):∀(f:Nat) (x:St×List ax),ZQ x->ZQ (bS j m f x)
 | 0,_,h=>h
 | f+1,x,h=>by
   unfold bS;split
   . exact uN a b f _ (tV a b h.1 h.2)
   exact h
theorem Mj (b:ZK j)(d:ZK m)(h:Zs c):Zs (a7 j m f c).1/\lG (a7 j m f c).2:=by
 have n:Zs c.aw:=⟨h.src,h.tt,h.tn,h.ts,λe v=>by cases v⟩;have p:=DC n;have l:=Ee (f:=f) p.1 p.2;obtain⟨V,o⟩:∃V,bD f (aT c.aw).1 (aT c.aw).2=V:=⟨_,rfl⟩;rw[o] at l;have k:=uN b d f _ (tV b d (eqs:=[]) (l.1.ac 4 [123]) (λq a=>by cases a));have e:a7 j m f c=((dy j m f V.1).1,⟨(c.aw.ac 5 zW).t.s,(c.aw.ac 5 zW).t.a,V.2,(dy j m f V.1).1.L,(dy j m f V.1).2⟩):=by unfold a7;simp only;rw[o]
 rw[e];exact⟨k.1.ac _ _,(n.ac 5 zW).ts,l.2,(k.1.ac 4 [125]).L,λq a=>(k.2 q a).1,λq a=>(k.2 q a).2⟩
theorem uk (a:ZK j)(b:ZK m):∀(f:Nat) (x:St×List Nd),Zs x.1->(∀d∈x.2,lG d)->∀d∈(Mq j m g f x).2,lG d
 | 0,_,_,h=>h
 | f+1,x,k,h=>by
   unfold Mq;split
   . have:=Mj a b (f:=g) k;refine uk a b f _ this.1 (λd e=>?_);rcases mK e with e|rfl
     . exact h d e
     exact this.2
   exact h
theorem CN (a:ZK j)(b:ZK m)(k:s.size<=1200):∀d∈(dm j m g s).2,lG d:=by have h:=zV s 0 (aE _);have l:Zs (⟨s,zZ s 0,0,0,0,[]⟩:St):=⟨k,h.2.2.1,h.2.2.2.1,uQ s 0 k,λe o=>by cases o⟩;have:=Mj a b (f:=g) l;exact uk a b g _ this.1 (λd n=>by rw[cu.1 n];exact this.2)
theorem uD:∀(f:Nat) (x:St×List Nd),x.2.length<=6->(Mq j m g f x).2.length<=6
 | 0,_,h=>h
 | f+1,x,h=>by
   unfold Mq;split
   . rename_i a
     exact uD f _ (by simp;omega)
   exact h
theorem CE (j m:Fn)(g:Nat)(s:Xb):(dm j m g s).2.length<=6:=uD g _ (by simp)
end
section
variable {i j:Fn} {L:List Ex}
def eH (L:List Ex):Nat->List ax->List Qn->Nat->Prop
 | a,[],e,b=>e=[]/\a=b
 | a,q::l,e,b=>∃d f c,e=d::f/\RZ L q d/\Mw L a c (b7 d.r)/\q.ex+1=c/\eH L c l f b
theorem eH.more {f:List Ex}(g:L <+: f):∀{l:List ax} {a b:Nat} {e:List Qn},eH L a l e b->eH f a l e b:=by
 intro l;induction l with
 | nil=>intro a b e h;exact h
 | cons q l o => rintro a b e ⟨p,l',c,rfl,d,k,m,n⟩;exact⟨p,l',c,rfl,⟨d.ns,d.ps,d.a,mZ g d.r⟩,k.more g,m,o n⟩
theorem eH.snoc {q:ax}{f:Qn}{b c:Nat}(p:RZ L q f)(r:Mw L b c (b7 f.r))(s:q.ex+1=c):∀{l:List ax} {a:Nat} {g:List Qn},eH L a l g b->eH L a (l++[q]) (g++[f]) c:=by
 intro l;induction l with
 | nil=>rintro a g ⟨rfl,rfl⟩;exact⟨f,[],c,rfl,p,r,s,rfl,rfl⟩
 | cons e l t => rintro a g ⟨h,u,d,rfl,k,m,n,o⟩;exact⟨h,u++[f],d,rfl,k,m,n,t o⟩
theorem eH.tq:∀{l:List ax} {a b:Nat} {c:List Qn},eH L a l c b->fM L l c:=by
 intro l;induction l with
 | nil=>rintro a b c ⟨rfl,_⟩;rfl
 | cons e l k => rintro a b c ⟨f,m,d,rfl,g,_,_,h⟩;exact⟨f,m,rfl,g,k h⟩
def lI (L:List Ex)(a:List ax):Prop:=∃b,eH L 0 a b L.length
theorem vF (u:bI 17 i)(v:bI 18 j){a:St}{c:List ax}{p:Nat}(A:Inv p a)(C:a.op=0)(h:lI a.L c)(B:(zF i j a c).1.er=0):lI (zF i j a c).1.L (zF i j a c).2:=by
 obtain⟨z,x,y⟩:=nN A;have n:=(ai.ac z.af 4 [61]).af;have s:((aZ a).st.ac 4 [61]).op=0:=by rw[St.a8,x,C]
 have l:((aZ a).st.ac 4 [61]).L=a.L:=by rw[St.bi,y]
 have e:(cx i j (a.is 4 [40]) ((aZ a).st.ac 4 [61])).1.er=0:=(aK.ac _ 4 [59]).back B;obtain⟨b,f⟩:∃b,(aZ a).st.ac 4 [61]=b:=⟨_,rfl⟩;rw[f] at n s l e;have w:zF i j a c=((cx i j (a.is 4 [40]) b).1.ac 4 [59],c++[⟨(aZ a).ns,(aZ a).ps,(aZ a).st.t.a,(cx i j (a.is 4 [40]) b).2⟩]):=by unfold zF;simp only;rw[f]
 have r:∃t,bX (cx i j (a.is 4 [40]) b).1.L (cx i j (a.is 4 [40]) b).2 t/\Mw (cx i j (a.is 4 [40]) b).1.L a.L.length (cx i j (a.is 4 [40]) b).1.L.length (b7 t)/\a.L <+: (cx i j (a.is 4 [40]) b).1.L/\(cx i j (a.is 4 [40]) b).2+1=(cx i j (a.is 4 [40]) b).1.L.length:=by
  unfold cx at e ⊢;split
  . rename_i o
    rw[ag o] at e;have m:cj 18 b.name:=λ_=>by rw[St.dB,s];omega
    obtain⟨_,_,d,⟨t,g,k⟩,q⟩:=wg u b.t b.name m e;rw[St.c8,l] at d k;exact⟨t,g,k,d,q⟩
  rename_i o
  rw[ae o] at e;have m:cj 18 b:=λ_=>by rw[s];omega
  obtain⟨_,_,d,⟨t,g,k⟩,q⟩:=v b m e;rw[l] at d k;exact⟨t,g,k,d,q⟩
 obtain⟨t,D,E,d,g⟩:=r;obtain⟨G,F⟩:=h;rw[w];refine⟨G++[⟨(aZ a).ns,(aZ a).ps,(aZ a).st.t.a,t⟩],?_⟩
 show eH ((cx i j (a.is 4 [40]) b).1.ac 4 [59]).L 0 (c++[⟨(aZ a).ns,(aZ a).ps,(aZ a).st.t.a,(cx i j (a.is 4 [40]) b).2⟩]) _ ((cx i j (a.is 4 [40]) b).1.ac 4 [59]).L.length;rw[St.bi];exact (F.more d).snoc ⟨rfl,rfl,rfl,D⟩ E g
theorem wU (d:bI 17 i)(g:bI 18 j)(b:zv 17 i)(c:zv 18 j):∀(f p:Nat) (x:St×List ax),Inv p x.1->x.1.op=0->(x.1.er=0->lI x.1.L x.2)->(bS i j f x).1.er=0->lI (bS i j f x).1.L (bS i j f x).2
 | 0,_,_,_,_,h,a=>h a
 | f+1,p,x,m,k,h,a=>by
   by_cases n:x.1.t.k=2∨x.1.is 4 [40]=true
   . have e:bS i j (f+1) x=bS i j f (zF i j x.1 x.2):=(by rw[bS,ag n]);rw[e] at a ⊢;obtain⟨l,q⟩:=gD b c (eqs:=x.2) m k;exact wU d g b c f p _ l.af (by rw[q];exact k) (λo=>vF d g m k (h (l.back o)) o) a
   have e:bS i j (f+1) x=x:=(by rw[bS,ae n]);rw[e] at a ⊢;exact h a
def kY (d:Nd):Prop:=lI d.az d.eqs/\d.az.length<=1201
theorem wb (g:bI 17 i)(h:bI 18 j)(b:zv 17 i)(c:zv 18 j)(f p:Nat)(a:St)(z:Inv p a)(B:a.op=0)(t:(a7 i j f a).1.er=0):kY (a7 i j f a).2:=by
 have D:=ai.aw z;have l:=mz D;have m:=kM (f:=f) (ak:=(aT a.aw).2) l.1.af;have k:=ai.ac m.1.af 4 [123];have d:((bD f (aT a.aw).1 (aT a.aw).2).1.ac 4 [123]).op=0:=by rw[St.a8,m.2.1,l.2.1];exact B
 have n:((bD f (aT a.aw).1 (aT a.aw).2).1.ac 4 [123]).L=[]:=by rw[St.bi,m.2.2,l.2.2];rfl
 obtain⟨V,s⟩:∃V,bD f (aT a.aw).1 (aT a.aw).2=V:=⟨_,rfl⟩;rw[s] at k d n;have e:a7 i j f a=((dy i j f V.1).1,⟨(a.aw.ac 5 zW).t.s,(a.aw.ac 5 zW).t.a,V.2,(dy i j f V.1).1.L,(dy i j f V.1).2⟩):=by unfold a7;simp only;rw[s]
 rw[e] at t ⊢;obtain⟨o,r⟩:=gD b c (eqs:=[]) k.af d;have v:=nO b c f _ (zF i j (V.1.ac 4 [123]) []) o.af (by rw[r];exact d);have q:=ai.ac v.1.af 4 [125];have w:(bS i j f (zF i j (V.1.ac 4 [123]) [])).1.er=0:=(aK.ac _ 4 [125]).back t;have C:=wU g h b c f _ _ o.af (by rw[r];exact d) (λA=>vF g h k.af d ⟨[],by rw[n];exact⟨rfl,rfl⟩⟩ A) w;have u:(dy i j f V.1).1.L=(bS i j f (zF i j (V.1.ac 4 [123]) [])).1.L:=St.bi _ _ _;refine⟨?_,?_⟩
 . show lI (dy i j f V.1).1.L _;rw[u];exact C
 show (dy i j f V.1).1.L.length<=1201;have x:=q.af.jN;have E:=q.af.ok.bR;have y:(dy i j f V.1).1=(bS i j f (zF i j (V.1.ac 4 [123]) [])).1.ac 4 [125]:=rfl;rw[y];split at x <;> omega
theorem ws (k:bI 17 i)(l:bI 18 j)(a:zv 17 i)(b:zv 18 j)(g:Nat):∀(f p:Nat) (x:St×List Nd),Inv p x.1->x.1.op=0->(∀d∈x.2,kY d)->(Mq i j g f x).1.er=0->(∀d∈(Mq i j g f x).2,kY d)
 | 0,_,_,_,_,h,_=>h
 | f+1,p,x,o,r,h,m=>by
   by_cases q:x.1.is 5 zW=true/\x.2.length<6
   . have e:Mq i j g (f+1) x=Mq i j g f ((a7 i j g x.1).1,x.2++[(a7 i j g x.1).2]):=(by rw[Mq,ag q]);rw[e] at m ⊢;obtain⟨s,u⟩:=pV a b g p x.1 o r;have t:(a7 i j g x.1).1.er=0:=by
      by_cases n:(a7 i j g x.1).1.er=0
      . exact n
      rw[mI s n] at m;exact absurd m n
     refine ws k l a b g f 0 _ s u (λd c=>?_) m;rcases mK c with c|rfl
     . exact h d c
     exact wb k l a b g p x.1 o r t
   have e:Mq i j g (f+1) x=x:=(by rw[Mq,ae q]);rw[e];exact h
theorem FR (c:bI 17 i)(d:bI 18 j)(a:zv 17 i)(b:zv 18 j)(g:Nat)(s:Xb)(k:Inv 0 (⟨s,zZ s 0,0,0,0,[]⟩:St))(o:(dm i j g s).1.er=0):∀m∈(dm i j g s).2,kY m:=by
 have e:(Mq i j g g ((a7 i j g ⟨s,zZ s 0,0,0,0,[]⟩).1,[(a7 i j g ⟨s,zZ s 0,0,0,0,[]⟩).2])).1.er=0:=(pU _).back o;obtain⟨l,p⟩:=pV a b g 0 ⟨s,zZ s 0,0,0,0,[]⟩ k rfl;have n:(a7 i j g ⟨s,zZ s 0,0,0,0,[]⟩).1.er=0:=by
  by_cases f:(a7 i j g ⟨s,zZ s 0,0,0,0,[]⟩).1.er=0
  . exact f
  rw[mI l f] at e;exact absurd e f
 refine ws c d a b g g 0 _ l p (λm h=>?_) e;rw[cu.1 h];exact wb c d a b g 0 _ k rfl n
end
section
def iA (a:List Qn):Nat:=(a.map λq=>vz q.r).sum
def p1 (d:Nd):Prop:=(∃a,fM d.az d.eqs a/\iA a<=d.az.length)/\d.az.length<=1201
theorem F2:∀t:Tm,(b7 t).length=vz t:=by
 intro t;induction t using Tm.ind with
 | h k a s g n f e =>
   have c:∀l:List Tm,(∀t∈l,(b7 t).length=vz t)->(cH l).length=k8 l:=by
    intro l;induction l with
    | nil=>intro _;rw[cH];rfl
    | cons t l b=>intro h;rw[cH,aP,zf,h t (Mx ..),b (λt d=>h t (cS _ d))]
   rw[b7,qz,aP,c f e];simp;omega
theorem ER {d:Nd}(h:kY d):p1 d:=by
 obtain⟨⟨e,i⟩,f⟩:=h;have g:∀{l:List ax} {a b:Nat} {e:List Qn},eH d.az a l e b->a+iA e=b:=by
  intro l;induction l with
  | nil=>rintro a b e ⟨rfl,rfl⟩;rfl
  | cons q l k => rintro a b e ⟨n,m,c,rfl,_,f,_,j⟩;have:=k j;have:=f.len;rw[F2] at this;unfold iA at *;rw[List.map_cons,List.sum_cons];omega
 exact⟨⟨e,i.tq,by have:=g i;omega⟩,f⟩
theorem Di:∀{l:List Nd},(∀d∈l,p1 d)->∃a,dS l a/\∀n∈a,n.Nh.length<=1201:=by
 intro l;induction l with
 | nil=>intro _;exact⟨[],rfl,λn h=>by cases h⟩
 | cons d l g =>
   intro h;obtain⟨a,c,e⟩:=g (λd f=>h d (cS _ f));obtain⟨⟨b,i,j⟩,k⟩:=h d (Mx ..);refine⟨⟨d.nm,d.a,d.ak,d.ah,d.aG,b⟩::a,⟨_,a,rfl,⟨rfl,rfl,rfl,rfl,rfl,i⟩,c⟩,λn hn=>?_⟩;rcases cC.1 hn with rfl|hn
   . have:(ay.Nh ⟨d.nm,d.a,d.ak,d.ah,d.aG,b⟩).length=iA b:=by unfold ay.Nh iA;rw[List.length_flatMap];rfl
     rw[this];omega
   exact e n hn
end
section
variable {L:List Ex}
theorem bX.k7 {x:Nat}{t d:Tm}(h:bX L x t)(m:bX L x d):t=d:=by
 induction h generalizing d with
 | mk x k j p r s q =>
   cases m with
   | mk _ l b a o c =>
     rw[p] at a;cases a;have:j=b:=by
      apply List.ext_getElem?;intro i;by_cases n:i<j.length
      . have e:=av n;have f:=av (show i<b.length by omega);have g:=av (show i<k.ah.length by omega);rw[e,f,q i _ _ g e (c i _ _ g f)]
      rw[List.getElem?_eq_none (by omega),List.getElem?_eq_none (by omega)]
     rw[this]
theorem qC:∀{l:List ax} {d c:List Qn},fM L l d->fM L l c->d=c:=by
 intro l;induction l with
 | nil=>rintro d c rfl rfl;rfl
 | cons q l s => rintro d c ⟨a,B,rfl,p,e⟩ ⟨b,lb,rfl,r,f⟩;rw[s e f];obtain⟨t,u,v,w⟩:=a;obtain⟨x,y,z,A⟩:=b;obtain⟨g,h,i,j⟩:=p;obtain⟨k,m,n,o⟩:=r;simp only at g h i j k m n o;subst g h i k m n;rw[j.k7 o]
structure og (d:Nd):Prop where
 s:lG d
 o:k9 d
 z:p1 d
theorem uR:∀{l:List Nd} {e c:List ay},dS l e->dS l c->e=c:=by
 intro l;induction l with
 | nil=>rintro e c rfl rfl;rfl
 | cons d l w => rintro e c ⟨a,J,rfl,u,f⟩ ⟨b,lb,rfl,v,g⟩;rw[w f g];obtain⟨x,y,z,A,B,C⟩:=a;obtain⟨D,E,F,G,H,I⟩:=b;obtain⟨h,i,j,k,m,n⟩:=u;obtain⟨o,p,q,r,s,t⟩:=v;simp only at h i j k m n o p q r s t;subst h i j k m o p q r s;rw[qC n t]
end
section
open Go.RowKit
structure Q2 (src:Xb) (ns:List ay):Prop where
 size:src.size<=1200
 rd:∃R,dm (fx 17).ex (fx 18).ex 1300 src=R/\R.1.er=0/\R.2.length<=6/\dS R.2 ns
 wf:∀n∈ns,gP n
 Rk:∀n∈ns,n.Nh.length<=1000000
 Za:dh ns=none
theorem Wa (S:Xs)(src:Xb)(m:List ay)(h:Q2 src m)(w:Xw)(C:Gl S w) :
 xK 26 #[.string src] w (λe d=>∃b N,e=.returned (.tuple #[xP b,.nilIface])/\PT d N m (xP b)/\w.heap.size<=N/\N<=d.heap.size/\xB w d):=by
 obtain⟨U,V,o,p,H,G,q,r⟩:=pE;obtain⟨O,⟨R,u,D,E,F⟩,I,J,K⟩:=h;rw[<- o,<- p] at u;have j:=za (yG H G q r S 1300 (by decide) (by decide) src w C O (R:=R) u);have B:=za F;clear u F H G;have n:xK 28 #[.string src] w (λe d=>∃b,e=.returned (.tuple #[xP b,.nilIface])/\PT d d.heap.size m (xP b)/\xB w d):=by refine j.o.mono ?_;rintro e d ⟨_,y,f⟩;obtain⟨a,rfl,s⟩:=y D;obtain⟨Q,x,t⟩:=Ku s E;have:=uR x B.o;subst this;obtain⟨b,M,W,L,l⟩:=t;cases L;exact⟨b,rfl,⟨b,M,W,rfl,l⟩,f⟩
 clear j B D E;go_enter func26,ntmps26
 go_wp2_with (first
  | (go_at_call 38;revert c;intro c;refine (HF S A.heap.size m I J b A (C.of (T:=λ_=>False) (Fr.Mo g.o) (λ_ e=>e.elim)) c.o (an _)).mono ?_;rw[K];rintro e X ⟨rfl,f⟩;unfold sv;have z:=f.size;have i:=za f)
  | (go_at_call 28;refine n.mono ?_;rintro e A ⟨b,rfl,P,f⟩;have k:=f.size;have c:=za P;have g:=za f))
 exact bodyPost_ret (v:=.tuple #[xP b,.nilIface]) (by simp[results,results26,go_sem]) rfl ⟨b,A.heap.size,rfl,c.o.am (zm i.o (an _)),k,z,g.o.trans (i.o.mono k)⟩
theorem KW.pk {B k d:Nat}{K:Cd}{w:Xw}(h:KW B k d K w)(e:K.dn.length<=1000000)(f:K.cells.length<=1000000)(g:K.row.length<=1000000)(j:∀i∈K.row,i.1<=20):∃a b c,PV w d a b c K:=by obtain⟨a,b,c,h⟩:=h;exact⟨a,b,c,h.aC,zR h.xv (aE _),zR h.hQ (aE _),zR h.zA (aE _),e,f,g,j⟩
structure RS (fu gas f:Nat) (pre:List ay) (n:ay) (K:Cd):Prop where
 hK:MQ fu gas f ⟨pre,n⟩ 0 ((Pb ⟨pre,n⟩).add 0 1)=K
 Py:gas<=1000000
 hf:17*f<=100000
 gd:Pr fu gas f ⟨pre,n⟩
 b:K.dn.length<=1000000
 c:K.cells.length<=1000000
 r:K.row.length<=1000000
 ops:∀i∈K.row,i.1<=20
theorem Wd (S:Xs)(src:Xb)(a:List ay)(n:ay)(h:Q2 src (a++[n]))(L j f:Nat)(K:Cd)(hc:RS L j f a n K)(w:Xw)(M:Gl S w)(J:M9 w)(H:Nq w) :
 xK 13 #[.string src] w (λe P=>∃v B,e=.returned (.tuple #[v,xI 0,xI 0])/\BR B P v (Nr (MW K))/\w.heap.size<=B/\xB w P):=by
 obtain⟨C,o,hf,I,ar,m,aV,aL⟩:=hc;have s:=za (Wa S src (a++[n]) h w M);have k:=M.size;have x:=za J;have T:=za H;have i:=za (λN (Y:21<=N) y W F hNW hopW=>VT (N:=N) L j f o Y hf a n (xP y) W F hNW hopW I ⟨by rw[C];omega,by rw[C];exact m⟩);rw[C] at i;have t:=za (λB R q W (ab:KW B R q K W) (H:Nq W) (hz:21<=W.heap.size)=>(by
  obtain⟨U,V,rv,X⟩:=ab.pk ar m aV aL;exact XA q U V rv K W X H hz:xK 30 #[xP q] W (Qk W.heap.size (Nr (MW K)) W)))
 go_enter func13,ntmps13
 go_wp2_with (first
  | (go_at_call 30;revert c;intro c;refine (t.o _ _ _ Q c.o (T.o.am ((zm b.o (an _)).trans (zm g.o p)) k) (by omega)).mono ?_;rintro e w3 ⟨O,rfl,G,A⟩;have u:=za G;have r:=za A)
  | (go_at_call 31;revert d;intro d;refine (i.o N (by omega) y w1 d.o E (x.o.am (zm b.o (an _)) k)).mono ?_;rintro e Q ⟨B,R,q,rfl,aA,z,D,l⟩;have a0:=l.size;have c:=za D;have g:=za l)
  | (go_at_call 26;refine s.o.mono ?_;rintro e w1 ⟨y,N,rfl,F,Z,E,z⟩;have p:=z.size;have d:=za F;have b:=za z))
 exact bodyPost_ret (v:=.tuple #[O,xI 0,xI 0]) (by simp[results,results13,go_sem]) rfl ⟨O,Q.heap.size,rfl,u.o,by omega,(b.o.trans (g.o.mono p)).trans (r.o.mono (by omega))⟩
end
section
open Go.RowKit
variable {c:Cd} {f i:List Int} {b:Xv} {w d:Xw}
structure OW (c:Cd):Prop where
 NF:c.dn.length+c.aG<=c.al
 NW:c.al<=255
 Pu:c.cells.length<=255
 Pw:c.depth<=3145728
 PC:c.row.length<=1048576
theorem UC.cb {B m:Nat}(h:UC B m c w)(a:OW c):∃g j l,CB w w.heap.size m g j l c/\(∀k,g.ownBlock=some k∨j.ownBlock=some k∨l.ownBlock=some k->B<=k):=by
 obtain⟨g,j,l,h⟩:=h;refine⟨g,j,l,⟨h.aC,zR h.xv (aE _),zR h.hQ (aE _),zR h.zA (aE _),ze h.aC,λk e=>(h.xv.lt k e).2,λk e=>(h.hQ.lt k e).2,λk e=>(h.zA.lt k e).2,a.NF,a.NW,a.Pu,a.Pw,a.PC⟩,?_⟩;rintro k (e|e|e)
 . exact (h.xv.lt k e).1
 . exact (h.hQ.lt k e).1
 exact (h.zA.lt k e).1
structure Ma where
 M:Nat
 N:Nat
 mb:Nat
 cb:Nat
 b1:Nat
 b2:Nat
 bv:Value
 cv:Value
 rv:Value
def Ma.own (a:Ma)(b:Xv)(k:Nat):Prop:=k=a.M∨k=a.mb∨k=a.cb∨k=a.b1∨k=a.b2∨a.bv.ownBlock=some k∨a.cv.ownBlock=some k∨a.rv.ownBlock=some k∨b.ownBlock=some k
structure MM (w:Xw) (a:Ma) (b:Xv) (c:Cd) (f i:List Int):Prop where
 aC:w.heap[a.M]?=some (.cells #[xP a.mb] 63 (0,0))
 mc:Mc w a.N a.mb a.cb a.b1 a.b2 a.bv a.cv a.rv b c f i []
 m0:¬a.M=a.mb
 m1:¬a.M=a.b1
 m2:¬a.M=a.b2
 ms:¬b.ownBlock=some a.M
theorem Mc.aq {N n l e g:Nat}{j m o:Xv}{p:List Int}(h:Mc w N n l e g j m o b c f i p)(a:xB w d):Mc d N n l e g j m o b c f i p :=
 ⟨h.code.am (zm a h.mem.hB),h.mem.fr (λk q=>a.block k q) a.size,h.n0,h.n1,h.n2,h.lc,h.ls⟩
theorem MM.aq {a:Ma}(h:MM w a b c f i)(e:xB w d):MM d a b c f i :=
 ⟨(e.block _ (ze h.aC)).trans h.aC,h.mc.aq e,h.m0,h.m1,h.m2,h.ms⟩
theorem UT (S:Xs)(a:Xp)(z g:Nat)(l:Xn)(c:Cd)(L:OW c)(P:NY l=some c)(w:Xw)(M:Gl S w)(N:Nq w)(Q:By w (.slice a l.length z) g l)(O:g<w.heap.size) :
 xK 25 #[.slice a l.length z] w (λe d=>∃(m:Ma) (b:Xv),e=.returned (.tuple #[xP m.M,xI 0])/\MM d m b c c.cells (List.replicate c.al 0)/\w.heap.size<=m.N/\xB w d/\∀k,m.own b k->w.heap.size<=k):=by
 have y:=za (VZ S a z g l w M N Q O);rw[P] at y;unfold Qf at y;go_enter func25,ntmps25
 go_wp2_with (first
  | (go_at_call 37;revert p;intro p;refine (Xr E.heap.size I H J K c E x (an _)).mono ?_;rintro e n ⟨D,F,G,b,rfl,r,s⟩;have R:=s.size;have u:=za s)
  | (go_at_call 36;refine y.o.mono ?_;rintro e E ⟨s,I,B,rfl,C,q,A⟩;have h:=s.size;obtain⟨H,J,K,x,o⟩:=A.cb L;have j:=za o;clear o;have p:=za s))
 obtain⟨U,V,W,T⟩:=r.mem.lt;have t:=zq n (.cells #[xP D] 63)
 refine bodyPost_ret (v:=.tuple #[xP n.heap.size,xI 0]) (by simp[results,results25,go_sem]) rfl
  ⟨⟨n.heap.size,E.heap.size,D,I,F,G,H,J,K⟩,b,rfl,⟨zc n _,r.aq t,(by show ¬n.heap.size=D;omega),(by show ¬n.heap.size=F;omega),(by show ¬n.heap.size=G;omega),λe=>Nat.lt_irrefl n.heap.size (T n.heap.size e)⟩,h,(p.o.trans (u.o.mono h)).trans (t.mono (by omega)),?_⟩
 rintro k (e|e|e|e|e|e|e|e|e)
 . exact e▸(show w.heap.size<=n.heap.size by omega)
 . exact e▸aJ h r.n0
 . exact e▸C
 . exact e▸aJ h r.n1
 . exact e▸aJ h r.n2
 . exact aJ q (j.o k (.inl e))
 . exact aJ q (j.o k (.inr (.inl e)))
 . exact aJ q (j.o k (.inr (.inr e)))
 exact aJ h (r.mem.own.lt k e).1
end
section
open Go.RowKit
variable {c:Cd}
theorem TE (l:Xn)(s:Ir)(h:(zG l s).2.er=none):s.er=none:=by
 by_cases a:s.er=none
 . exact a
 rw[(RF l s).1 a] at h;exact h
theorem PR (l:Xn)(s:Ir)(h:s.at'<=l.length):(zG l s).2.at'<=l.length:=by
 unfold zG;split
 . split
   . exact h
   simp only;omega
 exact h
theorem YU (l:Xn)(a:Nat)(s:Ir)(h:(vv l a s).2.er=none):s.er=none:=TE l s (Pn _ _ h).1
theorem Qt (l:Xn)(a:Nat)(s:Ir)(h:s.at'<=l.length):(vv l a s).2.at'<=l.length:=by show (MT _ _).at'<=_;rw[PQ];exact PR l s h
theorem TL (l:Xn):∀(n:Nat) (s:Ir),(NB l n s).2.er=none->s.er=none
 | 0,_,h=>h
 | n+1,s,h=>TE l s (TL l n _ h)
theorem TG (l:Xn):∀(n:Nat) (s:Ir),s.at'<=l.length->(NB l n s).2.at'<=l.length
 | 0,_,h=>h
 | n+1,s,h=>TG l n _ (PR l s h)
theorem TD (l:Xn):∀(n:Nat) (s:Ir),s.at'<=l.length->(M8 l n s).2.at'<=l.length
 | 0,_,h=>h
 | n+1,s,h=>TD l n _ (Qt l 2 s h)
theorem TA (l:Xn)(s:Ir)(h:s.at'<=l.length):(MP l s).2.at'<=l.length:=by unfold MP;exact TG l 8 s h
theorem Y1 (l:Xn)(s:Ir)(h:(MP l s).2.er=none):s.er=none:=by unfold MP at h;exact TL l 8 s h
theorem TF (l:Xn):∀(n:Nat) (s:Ir),(Nj l n s).2.er=none->s.er=none
 | 0,_,h=>h
 | n+1,s,h=>Y1 l s (TF l n _ h)
theorem TJ (l:Xn):∀(n:Nat) (s:Ir),s.at'<=l.length->(Nj l n s).2.at'<=l.length
 | 0,_,h=>h
 | n+1,s,h=>TJ l n _ (TA l s h)
theorem TB (l:Xn):∀(n:Nat) (s:Ir),(Nj l n s).1.length=n
 | 0,_=>rfl
 | n+1,s=>by show (_::_).length=_;rw[bJ,TB l n]
theorem YK (l:Xn)(d b:Nat)(s:Ir)(h:(Ev l d b s).2.er=none):(vv l 21 s).2.er=none:=by
 unfold Ev at h;by_cases a:(vv l 21 s).2.er=none
 . exact a
 simp only[ae a] at h;exact absurd h a
theorem YH (l:Xn)(b a:Nat)(s:Ir):(Ev l b a s).2=(vv l 21 s).2∨(Ev l b a s).2=(MP l (vv l 21 s).2).2∨(Ev l b a s).2=(vv l b (vv l 21 s).2).2∨(Ev l b a s).2=(vv l a (vv l 21 s).2).2:=by
 unfold Ev;generalize vv l 21 s=o;simp only;by_cases d:o.2.er=none
 . rw[ag d];by_cases e:(zY.getD o.1 (0,0,0)).1=1
   . rw[ag e];exact ap (ao rfl)
   rw[ae e];by_cases f:(zY.getD o.1 (0,0,0)).1=2
   . rw[ag f];exact ap (ap (ao rfl))
   rw[ae f];by_cases g:(zY.getD o.1 (0,0,0)).1=3
   . rw[ag g];exact ap (ap (ap rfl))
   rw[ae g];exact ao rfl
 rw[ae d];exact ao rfl
theorem Y5 (l:Xn)(d b:Nat)(s:Ir)(h:s.at'<=l.length):(Ev l d b s).2.at'<=l.length:=by
 have a:=Qt l 21 s h;rcases YH l d b s with e|e|e|e
 . rw[e];exact a
 . rw[e];exact TA l _ a
 . rw[e];exact Qt l d _ a
 rw[e];exact Qt l b _ a
theorem YO (l:Xn)(f d:Nat)(s:Ir)(h:(Ev l f d s).2.er=none)(m:Nat×Nat×Nat)(a:zY[(Ev l f d s).1.1]?=some m) :
 (m.1=2->0<=(Ev l f d s).1.2/\(Ev l f d s).1.2.toNat<f)/\(m.1=3->0<=(Ev l f d s).1.2/\(Ev l f d s).1.2.toNat<d):=by
 have o:=YK l f d s h;unfold Ev at h a ⊢;simp only[ag o] at h a ⊢;have b:∀k:Nat,zY[k]?=some m->zY.getD k (0,0,0)=m:=λk e=>by rw[List.getD_eq_getElem?_getD,e];rfl
 by_cases n:(zY.getD (vv l 21 s).1 (0,0,0)).1=1
 . rw[ag n] at a ⊢;have:=b _ a;rw[this] at n;exact⟨λe=>by omega,λe=>by omega⟩
 rw[ae n] at h a ⊢;by_cases g:(zY.getD (vv l 21 s).1 (0,0,0)).1=2
 . rw[ag g] at h a ⊢;have j:=b _ a;rw[j] at g;have:=Qi h;exact⟨λ_=>⟨by simp,by simpa using this⟩,λe=>by omega⟩
 rw[ae g] at h a ⊢;by_cases i:(zY.getD (vv l 21 s).1 (0,0,0)).1=3
 . rw[ag i] at h a ⊢;have j:=b _ a;rw[j] at i;have:=Qi h;exact⟨λe=>by omega,λ_=>⟨by simp,by simpa using this⟩⟩
 rw[ae i] at h a ⊢;have j:=b _ a;rw[j] at g i;exact⟨λe=>absurd e g,λe=>absurd e i⟩
theorem TM (d b:Nat)(i:Nat×Int):∀(l:List (Nat×Int)) (h a:Nat),Mt d b h l=some a->Mt d b h (l++[i])=Nl d b a i
 | [],h,a,e=>by
   cases e
   show (match Nl d b h i with|none=>none|some a=>Mt d b a [])=_;cases Nl d b h i <;> rfl
 | j::l,h,a,e=>by
   show (match Nl d b h j with|none=>none|some a=>Mt d b a (l++[i]))=_;have f:(match Nl d b h j with|none=>none|some a=>Mt d b a l)=some a:=e;cases k:Nl d b h j with
   | none=>rw[k] at f;cases f
   | some g=>rw[k] at f;exact TM d b i l g a f
structure Qy (l:Xn) (ns nc:Nat) (x:Np):Prop where
 i:Qx x
 le:x.s.at'<=l.length
 fit:x.s.er=none->Mt ns nc 0 x.row=some x.dp.toNat
 bO:x.s.er=none->x.row.length<=x.s.at'
theorem YN {k:Nat}(h:k<21):∃a,zY[k]?=some a:=⟨_,av (show k<zY.length from h)⟩
theorem Y4 (l:Xn)(b a:Nat)(x:Np)(h:Qy l b a x)(g:x.s.er=none):Qy l b a (Nw l b a x):=by
 obtain⟨k,d⟩:=YN (Ts l b a x.s);have e:zY.getD (Ev l b a x.s).1.1 (0,0,0)=k:=by rw[List.getD_eq_getElem?_getD,d];rfl
 have f:(Nw l b a x).s.at'=(Ev l b a x.s).2.at':=PQ _ _;refine⟨Tl l b a x h.i g k d,by rw[f];exact Y5 l b a x.s h.le,λj=>?_,λj=>?_⟩
 . obtain⟨i,m⟩:=Pn _ _ j;obtain⟨n,o⟩:=YO l b a x.s i k d;have p:=h.i.ok g
   show Mt b a 0 (x.row++[(Ev l b a x.s).1])=some (x.dp-(zY.getD (Ev l b a x.s).1.1 (0,0,0)).2.1+(zY.getD (Ev l b a x.s).1.1 (0,0,0)).2.2:Int).toNat;rw[TM b a _ _ _ _ (h.fit g)];simp only[e,decide_eq_true_eq] at m;unfold Nl;rw[d,e];simp only;rw[ag ⟨by omega,n,o⟩];congr 1;omega
 have i:=(Pn _ _ j).1;have:=Tn l b a x.s g i;have q:=h.bO g;rw[f]
 show (x.row++[_]).length<=_;rw[aP,List.length_singleton];omega
theorem TI (l:Xn)(b a:Nat):∀(f:Nat) (x:Np),Qy l b a x->Pp l x<f->(MX l b a f x).s.er=none->Qy l b a (MX l b a f x)/\Ns l (MX l b a f x)=false
 | 0,x,_,m,_=>by omega
 | f+1,x,j,m,i=>by
   by_cases d:Ns l x=true
   . have k:x.s.er=none:=(by unfold Ns at d;simp at d;exact d.1);have h:=Y4 l b a x j k;have n:=Th l b a x k h.le;have e:MX l b a (f+1) x=MX l b a f (Nw l b a x):=(by rw[MX,ag d]);rw[e] at i ⊢;exact TI l b a f _ h (by omega) i
   have g:Ns l x=false:=(by simpa using d);rw[Qm l b a _ x g] at i ⊢;exact⟨j,g⟩
theorem Y0 (l:Xn)(d b f:Nat)(x:Np)(h:(MX l d b f x).s.er=none):x.s.er=none:=by
 by_cases a:Ns l x=true
 . unfold Ns at a;simp at a;exact a.1
 rw[Qm l d b f x (by simpa using a)] at h;exact h
theorem YP (l:Xn)(s:Ir)(h:s.at'<=l.length):(N2 l s).at'<=l.length:=by
 unfold N2;have:∀(a:Xn) (s:Ir),s.at'<=l.length->(a.foldl (λs m=>MT ((zG l s).1==m) (zG l s).2) s).at'<=l.length:=by
  intro a;induction a with
  | nil=>intro s h;exact h
  | cons m a b=>intro s h;exact b _ (by rw[PQ];exact PR l s h)
 exact this _ _ h
theorem YR (l:Xn)(s:Ir)(h:s.at'<=l.length):(M2 l s).2.at'<=l.length:=by unfold M2;simp only;exact TJ l _ _ (Qt l 61 _ (by rw[PQ];exact PR l _ (PR l _ (TD l _ _ (PR l _ h)))))
theorem YQ (l:Xn)(s:Ir)(e:∀x∈l,x<256)(h:(M2 l s).2.er=none):(M2 l s).1.dn.length+(M2 l s).1.aG<=(M2 l s).1.al/\(M2 l s).1.al<=255/\(M2 l s).1.cells.length<=255:=by
 unfold M2 at *;simp only at *;have a:=TF l _ _ h;have b:=YU l 61 _ a;have d:=(Pn _ _ b).2;have f:=Qi a;refine⟨of_decide_eq_true d,?_,?_⟩
 . have:=OS l (zG l (M8 l (zG l s).1 (zG l s).2).2).2 e;omega
 rw[TB];omega
theorem Y7 {b:Xn}(o:∀x∈b,x<256)(w:b.length<=1048576)(h:Pa b=some c):OW c/\Mt c.al c.cells.length 0 c.row=some 0:=by
 unfold Pa at h;simp only at h;split at h
 . rename_i d
   have j:=Option.some.inj h;have l:(N2 b ⟨0,none⟩).at'<=b.length:=YP b _ (aE _);have i:(M2 b (N2 b ⟨0,none⟩)).2.at'<=b.length:=YR b _ l;have q:=YQ b (N2 b ⟨0,none⟩) o;generalize M2 b (N2 b ⟨0,none⟩)=H at *
   obtain⟨e,g⟩:=TI b H.1.al H.1.cells.length (b.length+2) ⟨H.2,0,0,[]⟩
    ⟨⟨(by decide:(-3:Int)<=0),(by decide:(0:Int)<=((0:Nat):Int)),λ_=>(by decide:(0:Int)<=0),an 0⟩,i,λ_=>rfl,λ_=>aE _⟩ (by unfold Pp;split <;> omega) d
   have f:H.2.er=none:=Y0 _ _ _ _ _ d;obtain⟨R,m⟩:∃R,MX b H.1.al H.1.cells.length (b.length+2) ⟨H.2,0,0,[]⟩=R:=⟨_,rfl⟩;rw[m] at d e g j;have p:R.dp=0:=(by have v:=e.i.ok d;unfold Ns at g;simp[d] at g;omega);have k:=e.bO d;have r:=e.i.mx;have n:=e.le;have a:=e.fit d;rw[p] at a;obtain⟨s,t,u⟩:=q f;subst j;refine⟨⟨s,t,u,?_,?_⟩,a⟩
   . show R.mx<=3145728;omega
   show R.row.length<=1048576;omega
 cases h
theorem YV {l:Xn}(i:∀x∈l,x<256)(h:NY l=some c):OW c/\Mt c.al c.cells.length 0 c.row=some 0:=by
 unfold NY at h;obtain⟨b,a,f⟩:=Option.bind_eq_some_iff.1 h;unfold NZ at a;split at a
 . cases a
 rename_i k
 split at a
 . have e:=Option.some.inj a;have g:∀x∈b,x<256:=λx j=>i x (List.mem_of_mem_take (e▸j));have d:b.length<=1048576:=by rw[<- e,List.length_take];omega
   exact Y7 g d f
 cases a
end
section
open Go.RowKit
theorem OQ (a:Xn)(x:Nat)(b7:Xn)(p:Nat)(b:p=a.length):zG (a++x::b7) ⟨p,none⟩=(x,⟨p+1,none⟩):=by subst b;unfold zG;rw[ag rfl,ae (by simp)];simp[List.getD_eq_getElem?_getD]
theorem Su:∀(b a b7:Xn) (p n:Nat),p=a.length->n=b.length->NB (a++b++b7) n ⟨p,none⟩=(b,⟨p+b.length,none⟩)
 | [],a,b7,p,n,d,c=>by subst c;rfl
 | x::b,a,b7,p,n,d,c=>by subst c;rw[bJ,NB];have e:zG (a++(x::b)++b7) ⟨p,none⟩=(x,⟨p+1,none⟩):=(by rw[bw,List.cons_append];exact OQ a x (b++b7) p d);have f:a++(x::b)++b7=(a++[x])++b++b7:=(by simp);have g:=Su b (a++[x]) b7 (p+1) b.length (by rw[d];simp) rfl;rw[e];simp only;rw[f,g];simp only[Prod.mk.injEq,true_and];congr 1;omega
theorem UJ (v:Int)(M:Nat):v / ((256*M:Nat):Int)=v / 256 / (M:Int):=by rw[Int.natCast_mul];exact (Int.ediv_ediv_of_nonneg (show (0:Int)<=256 by decide)).symm
theorem MD (v:Int)(i:Nat):MA v (i+1)=MA (v / 256) i:=by
 unfold MA;have e:2 ^ (8*(i+1))=256*2 ^ (8*i):=by rw[show 8*(i+1)=8+8*i by omega,Nat.pow_add]
 rw[e,UJ]
theorem U0 (v:Int)(M:Nat)(j:0<M):v % 256+256*(v / 256 % (M:Int))=v % ((M*256:Nat):Int):=by
 have c:=Int.mul_ediv_add_emod v 256;have d:=Int.mul_ediv_add_emod (v / 256) (M:Int);have f:=Int.emod_nonneg v (show (256:Int)≠0 by decide);have g:=Int.emod_lt_of_pos v (show (0:Int)<256 by decide);have a:(0:Int)<(M:Int):=by omega
 have h:=Int.emod_nonneg (v / 256) (show (M:Int)≠0 by omega);have i:=Int.emod_lt_of_pos (v / 256) a;have e:v=(v % 256+256*(v / 256 % (M:Int)))+((M*256:Nat):Int)*(v / 256 / (M:Int)):=by
  rw[Int.natCast_mul];have:(M:Int)*((256:Nat):Int)*(v / 256 / (M:Int))=256*((M:Int)*(v / 256 / (M:Int))):=by rw[Int.mul_comm (M:Int),Int.mul_assoc];rfl
  rw[this];omega
 have b:v % ((M*256:Nat):Int)=(v % 256+256*(v / 256 % (M:Int))) % ((M*256:Nat):Int):=by
  conv=>lhs;rw[e]
  rw[Int.add_mul_emod_self_left]
 rw[b];exact (Int.emod_eq_of_lt (by omega) (by rw[Int.natCast_mul];omega)).symm
def P5:Nat->Int->List Nat
 | 0,_=>[]
 | n+1,v=>MA v 0::P5 n (v / 256)
theorem Vo (v:Int):na v=P5 8 v:=by unfold na;simp only[P5];rw[MD v 0,MD v 1,MD v 2,MD v 3,MD v 4,MD v 5,MD v 6];rw[MD _ 0,MD _ 1,MD _ 2,MD _ 3,MD _ 4,MD _ 5];rw[MD _ 0,MD _ 1,MD _ 2,MD _ 3,MD _ 4];rw[MD _ 0,MD _ 1,MD _ 2,MD _ 3];rw[MD _ 0,MD _ 1,MD _ 2];rw[MD _ 0,MD _ 1];rw[MD _ 0]
theorem Sg:∀(n:Nat) (v:Int),((N0 (P5 n v):Nat):Int)=v % (256 ^ n:Nat)
 | 0,v=>by show (0:Int)=v % 1;omega
 | n+1,v=>by
   have b:=Sg n (v / 256);have a:((MA v 0:Nat):Int)=v % 256:=by unfold MA;have:((2 ^ (8*0):Nat):Int)=1:=rfl;rw[this];omega
   show ((MA v 0+256*N0 (P5 n (v / 256)):Nat):Int)=_;rw[Int.natCast_add,Int.natCast_mul,a,b,Nat.pow_succ];exact U0 v (256 ^ n) (by first|exact Nat.pow_pos (by decide)|exact Nat.pos_pow_of_pos _ (by decide))
theorem Vl (v:Int)(h:-9223372036854775808<=v/\v<=9223372036854775807):wrap64 ((N0 (na v):Nat):Int)=v:=by rw[Vo,Sg 8 v];have:((256 ^ 8:Nat):Int)=18446744073709551616:=rfl;rw[this];unfold wrap64;omega
theorem Rp (a b7:Xn)(v:Int)(p:Nat)(b:p=a.length)(h:-9223372036854775808<=v/\v<=9223372036854775807):MP (a++na v++b7) ⟨p,none⟩=(v,⟨p+8,none⟩):=by unfold MP;rw[Su (na v) a b7 p 8 b rfl];simp only;rw[Vl v h];rfl
theorem PE (s:Ir):MT true s=s:=rfl
theorem P2 (a b7:Xn)(x b p:Nat)(c:p=a.length)(h:x<b):vv (a++x::b7) b ⟨p,none⟩=(x,⟨p+1,none⟩):=by unfold vv;rw[OQ a x b7 p c];simp only;rw[decide_eq_true h];rfl
theorem Sq:∀(c:Xk) (a b7:Xn) (p n:Nat),p=a.length->n=c.length->M8 (a++c.map Mz++b7) n ⟨p,none⟩=(c,⟨p+c.length,none⟩)
 | [],a,b7,p,n,e,d=>by subst d;rfl
 | b::c,a,b7,p,n,e,d=>by subst d;rw[bJ,M8];have f:vv (a++(b::c).map Mz++b7) 2 ⟨p,none⟩=(Mz b,⟨p+1,none⟩):=(by rw[List.map_cons,bw,List.cons_append];exact P2 a _ (Mz b) 2 p e (by cases b <;> decide));have h:a++(b::c).map Mz++b7=(a++[Mz b])++c.map Mz++b7:=(by simp);have i:=Sq c (a++[Mz b]) b7 (p+1) c.length (by rw[e];simp) rfl;rw[f];simp only;rw[h,i];have g:(Mz b==1)=b:=(by cases b <;> rfl);simp only[g,Prod.mk.injEq,true_and];congr 1;omega
theorem Sa:∀(cs:List Int) (a b7:Xn) (p n:Nat),p=a.length->n=cs.length->(∀x∈cs,-9223372036854775808<=x/\x<=9223372036854775807)->Nj (a++cs.flatMap na++b7) n ⟨p,none⟩=(cs,⟨p+8*cs.length,none⟩)
 | [],a,b7,p,n,d,b,_=>by subst b;rfl
 | c::cs,a,b7,p,n,d,b,h=>by subst b;rw[bJ,Nj];have e:MP (a++(c::cs).flatMap na++b7) ⟨p,none⟩=(c,⟨p+8,none⟩):=(by rw[List.flatMap_cons,<- bw,bw];exact Rp a _ c p d (h c (Mx ..)));have f:a++(c::cs).flatMap na++b7=(a++na c)++cs.flatMap na++b7:=(by rw[List.flatMap_cons,<- bw]);have i:=Sa cs (a++na c) b7 (p+8) cs.length (by rw[d,aP];rfl) rfl (λx g=>h x (cS _ g));rw[e];simp only;rw[f,i];simp only[Prod.mk.injEq,true_and];congr 1;omega
def QK (c b:Nat)(i:Nat×Int):Prop:=∃a,zY[i.1]?=some a/\(a.1=0->i.2=0)/\(a.1=1->-9223372036854775808<=i.2/\i.2<=9223372036854775807)/\(a.1=2->0<=i.2/\i.2.toNat<c)/\(a.1=3->0<=i.2/\i.2.toNat<b)
theorem Sr {x:Int}{n:Nat}(h:0<=x)(a:x.toNat<n)(b:n<=256):MA x 0=x.toNat:=by unfold MA;have:((2 ^ (8*0):Nat):Int)=1:=rfl;rw[this];omega
theorem UL (n m:Nat)(r:n<=256)(q:m<=256)(a b7:Xn)(i:Nat×Int)(p:Nat)(t:p=a.length)(h:QK n m i):Ev (a++Ak i++b7) n m ⟨p,none⟩=(i,⟨p+(Ak i).length,none⟩):=by
 obtain⟨j,f,w,y,z,A⟩:=h;obtain⟨b,x⟩:=i;have e:zY.getD b (0,0,0)=j:=by rw[List.getD_eq_getElem?_getD,f];rfl
 have s:b<21:=by have:=(aB.1 f).1;exact this
 unfold Ak;simp only[e];rw[bw,List.cons_append];have v:=P2 a (Na j.1 x++b7) b 21 p t s;unfold Ev;rw[v];simp only[e,if_true];have o:a++b::(Na j.1 x++b7)=(a++[b])++Na j.1 x++b7:=by simp
 have d:p+1=(a++[b]).length:=by rw[t];simp
 rcases S6 _ _ f with c|c|c|c
 . rw[ae (by omega),ae (by omega),ae (by omega)];have:=w c;simp only at this;subst this;simp[Na,c]
 . rw[ag c,o];have u:=y c;simp only at u;have k:Na j.1 x=na x:=by unfold Na;rw[ag c]
   rw[k,Rp (a++[b]) b7 x (p+1) d u];simp only[Prod.mk.injEq,true_and,bJ];rfl
 . rw[ae (by omega),ag c,o];obtain⟨l,g⟩:=z c;simp only at l g;have k:Na j.1 x=[MA x 0]:=by unfold Na;rw[ae (by omega),ae (by omega)]
   rw[k,Sr l g r];have:=P2 (a++[b]) b7 x.toNat n (p+1) d g;rw[bw (a++[b]),List.singleton_append,this];simp only[Prod.mk.injEq,bJ,cw,true_and];exact⟨by omega,by first|trivial|rfl|(congr 1 <;> first|trivial|omega)⟩
 rw[ae (by omega),ae (by omega),ag c,o];obtain⟨l,g⟩:=A c;simp only at l g;have k:Na j.1 x=[MA x 0]:=by unfold Na;rw[ae (by omega),ae (by omega)]
 rw[k,Sr l g q];have:=P2 (a++[b]) b7 x.toNat m (p+1) d g;rw[bw (a++[b]),List.singleton_append,this];simp only[Prod.mk.injEq,bJ,cw,true_and];exact⟨by omega,by first|trivial|rfl|(congr 1 <;> first|trivial|omega)⟩
def OO:Nat->Nat->List (Nat×Int)->Nat
 | _,a,[]=>a
 | h,a,i::r=>OO (h-(zY.getD i.1 (0,0,0)).2.1+(zY.getD i.1 (0,0,0)).2.2) (max a (h-(zY.getD i.1 (0,0,0)).2.1+(zY.getD i.1 (0,0,0)).2.2)) r
theorem SB (k d:Nat)(s:k<=256)(q:d<=256):∀(r:List (Nat×Int)) (a:Xn) (p h l f:Nat) (done:List (Nat×Int)),p=a.length->(∀i∈r,QK k d i)->Mt k d h r=some 0->r.length<f ->
 MX (a++r.flatMap Ak) k d f ⟨⟨p,none⟩,h,l,done⟩=⟨⟨(a++r.flatMap Ak).length,none⟩,0,OO h l r,done++r⟩
 | [],a,p,h,l,f,done,m,_,u,_=>by
   cases u;rw[Qm]
   . simp[m,OO]
   unfold Ns;simp[m]
 | i::r,a,p,h,l,f,done,m,w,u,o=>by
   obtain⟨f,rfl⟩:∃g,f=g+1:=⟨f-1,by simp at o;omega⟩;have x:=w i (Mx ..);obtain⟨c,t,_⟩:=x;have e:zY.getD i.1 (0,0,0)=c:=(by rw[List.getD_eq_getElem?_getD,t];rfl);have b:(match Nl k d h i with|none=>none|some h'=>Mt k d h' r)=some 0:=u;have n:Nl k d h i=some (h-c.2.1+c.2.2)/\c.2.1<=h:=by
    unfold Nl at b ⊢;rw[t] at b ⊢;simp only at b ⊢;split at b
    . cases b
    rename_i B
    split at B
    . rename_i A;rw[ag A];exact⟨rfl,A.1⟩
    cases B
   rw[n.1] at b;have y:a++(i::r).flatMap Ak=(a++Ak i)++r.flatMap Ak:=(by rw[List.flatMap_cons,bw]);have v:Ns (a++(i::r).flatMap Ak) ⟨⟨p,none⟩,h,l,done⟩=true:=(by unfold Ns;refine decide_eq_true ⟨rfl,ao ?_⟩;rw[m,y];unfold Ak;simp);rw[MX,ag v];have z:Nw (a++(i::r).flatMap Ak) k d ⟨⟨p,none⟩,h,l,done⟩=⟨⟨p+(Ak i).length,none⟩,(h-c.2.1+c.2.2:Nat),max l (h-c.2.1+c.2.2),done++[i]⟩:=by
    unfold Nw;rw[y,UL k d s q a (r.flatMap Ak) i p m (w i (Mx ..))];simp only[e];have E:=n.2;rw[decide_eq_true (by omega),PE];congr 1
    . omega
    congr 1;omega
   rw[z,y];have D:=SB k d s q r (a++Ak i) (p+(Ak i).length) (h-c.2.1+c.2.2) (max l (h-c.2.1+c.2.2)) f (done++[i]) (by rw[m,aP]) (λj C=>w j (cS _ C)) b (by simp at o;omega);rw[D];congr 1
   . show OO _ _ r=OO h l (i::r);rw[OO,e]
   simp
structure PZ (K:Cd):Prop where
 aG:K.dn.length+K.aG<=K.al
 al:K.al<=255
 bO:K.cells.length<=60
 Uq:∀x∈K.cells,-9223372036854775808<=x/\x<=9223372036854775807
 row:∀i∈K.row,QK K.al K.cells.length i
 fit:Mt K.al K.cells.length 0 K.row=some 0
 len:(MW K).length+8<=1048576
theorem UH (t:Xn):N2 ([99,100,110,50]++t) ⟨0,none⟩=⟨4,none⟩:=by unfold N2;simp only[List.foldl];have a:=OQ [] 99 ([100,110,50]++t) 0 rfl;have b:=OQ [99] 100 ([110,50]++t) 1 rfl;have c:=OQ [99,100] 110 ([50]++t) 2 rfl;have d:=OQ [99,100,110] 50 t 3 rfl;simp only[List.nil_append,List.cons_append] at a b c d ⊢;rw[a];simp only[beq_self_eq_true,PE];rw[b];simp only[beq_self_eq_true,PE];rw[c];simp only[beq_self_eq_true,PE];rw[d];simp only[beq_self_eq_true,PE]
theorem U7 (K:Cd)(h:PZ K)(b7:Xn):M2 (Nf K++b7) ⟨4,none⟩=(⟨K.dn,K.aG,K.al,K.cells,0,[]⟩,⟨(Nf K).length,none⟩):=by
 have f:=h.aG;have r:=h.al;have s:=h.bO;have g:K.dn.length % 256=K.dn.length:=Nat.mod_eq_of_lt (by omega);have i:K.aG % 256=K.aG:=Nat.mod_eq_of_lt (by omega);have j:K.al % 256=K.al:=Nat.mod_eq_of_lt (by omega);have k:K.cells.length % 256=K.cells.length:=Nat.mod_eq_of_lt (by omega);have e:Nf K++b7=[99,100,110,50]++K.dn.length::(K.dn.map Mz++(K.aG::K.al::K.cells.length::(K.cells.flatMap na++b7))):=by unfold Nf Ov OL;rw[g,i,j,k];simp
 have lb:(Nf K).length=5+K.dn.length+3+8*K.cells.length:=by unfold Nf Ov OL;rw[aP,aP,aP,Vj,List.length_map];simp
 rw[e];unfold M2;have l:=OQ [99,100,110,50] K.dn.length (K.dn.map Mz++(K.aG::K.al::K.cells.length::(K.cells.flatMap na++b7))) 4 rfl;rw[l];simp only;have a:[99,100,110,50]++K.dn.length::(K.dn.map Mz++(K.aG::K.al::K.cells.length::(K.cells.flatMap na++b7)))=[99,100,110,50,K.dn.length]++K.dn.map Mz++(K.aG::K.al::K.cells.length::(K.cells.flatMap na++b7)):=by simp
 rw[a];have m:=Sq K.dn [99,100,110,50,K.dn.length] (K.aG::K.al::K.cells.length::(K.cells.flatMap na++b7)) 5 K.dn.length rfl rfl;rw[m];simp only;have n:=OQ ([99,100,110,50,K.dn.length]++K.dn.map Mz) K.aG (K.al::K.cells.length::(K.cells.flatMap na++b7)) (5+K.dn.length) (by simp;omega);rw[n];simp only;have b:[99,100,110,50,K.dn.length]++K.dn.map Mz++(K.aG::K.al::K.cells.length::(K.cells.flatMap na++b7))=([99,100,110,50,K.dn.length]++K.dn.map Mz++[K.aG])++K.al::K.cells.length::(K.cells.flatMap na++b7):=by simp
 have o:=OQ ([99,100,110,50,K.dn.length]++K.dn.map Mz++[K.aG]) K.al (K.cells.length::(K.cells.flatMap na++b7)) (5+K.dn.length+1) (by simp;omega);rw[b,o];simp only;rw[decide_eq_true f,PE];have c:([99,100,110,50,K.dn.length]++K.dn.map Mz++[K.aG])++K.al::K.cells.length::(K.cells.flatMap na++b7)=([99,100,110,50,K.dn.length]++K.dn.map Mz++[K.aG,K.al])++K.cells.length::(K.cells.flatMap na++b7):=by simp
 have p:=P2 ([99,100,110,50,K.dn.length]++K.dn.map Mz++[K.aG,K.al]) (K.cells.flatMap na++b7) K.cells.length 61 (5+K.dn.length+1+1) (by simp;omega) (by omega);rw[c,p];simp only;have d:([99,100,110,50,K.dn.length]++K.dn.map Mz++[K.aG,K.al])++K.cells.length::(K.cells.flatMap na++b7)=([99,100,110,50,K.dn.length]++K.dn.map Mz++[K.aG,K.al,K.cells.length])++K.cells.flatMap na++b7:=by simp
 have q:=Sa K.cells ([99,100,110,50,K.dn.length]++K.dn.map Mz++[K.aG,K.al,K.cells.length]) b7 (5+K.dn.length+1+1+1) K.cells.length (by simp;omega) rfl h.Uq;rw[d,q];simp only[Prod.mk.injEq,true_and];rw[lb]
theorem UP (K:Cd)(h:PZ K):Pa (MW K)=some { K with depth:=OO 0 0 K.row }:=by
 have b:∃t,MW K=[99,100,110,50]++t:=⟨K.dn.length % 256::(K.dn.map Mz++([K.aG % 256,K.al % 256,K.cells.length % 256]++(K.cells.flatMap na++K.row.flatMap Ak))),by unfold MW Nf Ov OL;simp⟩;obtain⟨t,d⟩:=b;have e:N2 (MW K) ⟨0,none⟩=⟨4,none⟩:=by rw[d];exact UH t
 unfold Pa;rw[e];have c:MW K=Nf K++K.row.flatMap Ak:=rfl;have a:=h.len;rw[c] at a ⊢;rw[U7 K h];simp only;have g:K.row.length<=(K.row.flatMap Ak).length:=by
  generalize K.row=r;induction r with
  | nil=>exact an _
  | cons i r j=>rw[List.flatMap_cons,aP,bJ];unfold Ak;simp only[bJ];unfold Ak at j;omega
 have f:MX (Nf K++K.row.flatMap Ak) K.al K.cells.length ((Nf K++K.row.flatMap Ak).length+2) ⟨⟨(Nf K).length,none⟩,0,0,[]⟩=⟨⟨(Nf K++K.row.flatMap Ak).length,none⟩,0,OO 0 0 K.row,[]++K.row⟩:=SB K.al K.cells.length (by have:=h.al;omega) (by have:=h.bO;omega) K.row (Nf K) (Nf K).length 0 0 _ [] rfl h.row h.fit (by rw[aP];omega);rw[f];simp
theorem Vn (b:Xn)(h:b.length+8<=1048576):NZ (Nr b)=some b:=by
 have d:-9223372036854775808<=Od b/\Od b<=9223372036854775807:=by unfold Od;generalize Px b=z;unfold wrap64;omega
 obtain⟨y,a⟩:∃y,Od b=y:=⟨_,rfl⟩;rw[a] at d;unfold Nr;rw[a];have e:(b++na y).length=b.length+8:=by rw[aP,PO]
 have f:(b++na y).take b.length=b:=by simp
 have c:=Rp b [] y b.length rfl d;rw[List.append_nil] at c;have g:(MP (b++na y) ⟨b.length,none⟩).1=y:=by rw[c]
 unfold NZ;rw[e,ae (by omega),Nat.add_sub_cancel,f,g,a,ag rfl]
theorem Vg (K:Cd)(h:PZ K):NY (Nr (MW K))=some { K with depth:=OO 0 0 K.row }:=by unfold NY;rw[Vn (MW K) h.len,Option.bind_some];exact UP K h
end
section
variable {x:Int} {c:Nat}
def ML (R:List (Nat×Int)):Nat:=(R.flatMap Ak).length
theorem OB (a b:List (Nat×Int)):ML (a++b)=ML a+ML b:=by unfold ML;rw[List.flatMap_append,aP]
structure Pc (S N h h':Nat) (R:List (Nat×Int)):Prop where
 fit:Mt S N h R=some h'
 ok:∀i∈R,QK S N i
theorem SC {S N:Nat}:∀{R b:List (Nat×Int)} {h d f:Nat},Mt S N h R=some d->Mt S N d b=some f->Mt S N h (R++b)=some f
 | [],b,h,d,f,a,g=>by cases a;exact g
 | i::l,b,h,d,f,a,g=>by
   rw[Mt] at a;rw[List.cons_append,Mt];cases e:Nl S N h i with
   | none=>rw[e] at a;cases a
   | some j=>rw[e] at a;exact SC a g
section
variable {S N h d f:Nat} {R g:List (Nat×Int)}
theorem Pc.nil:Pc S N h h []:=⟨rfl,λi a=>by cases a⟩
theorem Pc.kZ (a:Pc S N h d R)(b:Pc S N d f g):Pc S N h f (R++g) :=
 ⟨SC a.fit b.fit,λi e=>(bj.1 e).elim (a.ok i) (b.ok i)⟩
theorem Pc.one {sh:Nat×Nat×Nat}(e:zY[c]?=some sh)(n:sh.2.1<=h)(l:h-sh.2.1+sh.2.2=d)(j:sh.1=0->x=0)(k:sh.1=1->-9223372036854775808<=x/\x<=9223372036854775807)(a:sh.1=2->0<=x/\x.toNat<S)(b:sh.1=3->0<=x/\x.toNat<N):Pc S N h d [(c,x)]:=by
 refine⟨?_,λi m=>?_⟩
 . rw[Mt,Nl,e];simp only;rw[ag ⟨n,a,b⟩,l];rfl
 rw[cu.1 m];exact⟨sh,e,j,k,a,b⟩
theorem Pc.push (a:-9223372036854775808<=x/\x<=9223372036854775807):Pc S N h (h+1) [(0,x)]:=Pc.one (sh:=(1,0,1)) rfl (aE _) rfl (λe=>by cases e) (λ_=>a) (λe=>by cases e) (λe=>by cases e)
theorem Pc.load {n:Nat}(a:n<S):Pc S N h (h+1) [(1,(n:Int))]:=Pc.one (sh:=(2,0,1)) rfl (aE _) rfl (λe=>by cases e) (λe=>by cases e) (λ_=>⟨by omega,by simpa using a⟩) (λe=>by cases e)
theorem Pc.store {n:Nat}(a:n<S):Pc S N (h+1) h [(2,(n:Int))]:=Pc.one (sh:=(2,1,0)) rfl (by simp) rfl (λe=>by cases e) (λe=>by cases e) (λ_=>⟨by omega,by simpa using a⟩) (λe=>by cases e)
theorem Pc.Ur {n:Nat}(a:n<N):Pc S N h (h+1) [(3,(n:Int))]:=Pc.one (sh:=(3,0,1)) rfl (aE _) rfl (λe=>by cases e) (λe=>by cases e) (λe=>by cases e) (λ_=>⟨by omega,by simpa using a⟩)
theorem Pc.aq {n:Nat}(a:n<N):Pc S N (h+2) h [(4,(n:Int))]:=Pc.one (sh:=(3,2,0)) rfl (by simp) rfl (λe=>by cases e) (λe=>by cases e) (λe=>by cases e) (λ_=>⟨by omega,by simpa using a⟩)
theorem Pc.choose {n:Nat}(a:n<S):Pc S N (h+2) (h+1) [(6,(n:Int))]:=Pc.one (sh:=(2,2,1)) rfl (by simp) rfl (λe=>by cases e) (λe=>by cases e) (λ_=>⟨by omega,by simpa using a⟩) (λe=>by cases e)
theorem Pc.oper {a:Nat}(b:zY[c]?=some (0,a,1)):Pc S N (h+a) (h+1) [(c,0)]:=Pc.one b (by simp) (by simp) (λ_=>rfl) (λe=>by cases e) (λe=>by cases e) (λe=>by cases e)
end
theorem U8:((List.range 24).all λk=>decide (k<10∨(zY[k-3]?=some (0,if k<=11 then 1 else 2,1))))=true:=by decide +kernel
theorem Vu {k:Nat}(h:10<=k)(a:k<24):zY[Pq k]?=some (0,if k<=11 then 1 else 2,1):=by
 have:=List.all_eq_true.1 U8 k (List.mem_range.2 a);simp only[decide_eq_true_eq] at this;unfold Pq;rw[ae (by omega)];rcases this with e|e
 . omega
 exact e
theorem OR (c:Nat)(x:Int)(h:c≠0):ML [(c,x)]<=2:=by
 have:∀c,c≠0->(zY.getD c (0,0,0)).1≠1:=by
  intro c h
  match c,h with
  | 1,_=>decide
  | 2,_=>decide
  | 3,_=>decide
  | 4,_=>decide
  | 5,_=>decide
  | 6,_=>decide
  | n+7,_ =>
    by_cases a:n<14
    . have:∀n,n<14->(zY.getD (n+7) (0,0,0)).1≠1:=by decide
      exact this n a
    rw[List.getD_eq_getElem?_getD,List.getElem?_eq_none (by simp[zY];omega)];decide
 unfold ML Ak;simp only[List.flatMap_cons,List.flatMap_nil,List.append_nil,bJ];unfold Na;rw[ae (this c h)];split <;> simp
theorem Ro (c:Nat)(x:Int):ML [(c,x)]<=9:=by unfold ML Ak;simp only[List.flatMap_cons,List.flatMap_nil,List.append_nil,bJ];have:=Ti (zY.getD c (0,0,0)).1 x;omega
def PU (x:Int):Prop:=-9223372036854775808<=x/\x<=9223372036854775807
structure Ly (K K':Cd) (lo hi a b w n:Nat):Prop where
 ex:∃R C,K'.row=K.row++R/\K'.cells=K.cells++C/\(∀x∈C,PU x)/\C.length<=n/\ML R<=w/\∀S N h,lo<=S->K'.al<=S->K'.cells.length<=N->Pc S N (h+a) (h+b) R
 dn:K'.dn=K.dn
 aG:K'.aG=K.aG
 s1:K.al<=K'.al
 s2:K'.al<=max K.al hi
section
variable {K i j:Cd} {f g a b d w n k l:Nat}
theorem Ly.cl (h:Ly K i f g a b w n):K.cells.length<=i.cells.length:=by obtain⟨R,C,_,e,_⟩:=h.ex;rw[e,aP];omega
theorem Ly.refl:Ly K K f g a a 0 0:=⟨⟨[],[],by simp,by simp,(λx e=>by cases e),an _,an _,λS N h _ _ _=>Pc.nil⟩,rfl,rfl,an _,by omega⟩
theorem Ly.trans (h:Ly K i f g a b w n)(e:Ly i j f g b d k l):Ly K j f g a d (w+k) (n+l):=by
 have y:=e.cl;obtain⟨R,C,s,t,u,A,B,v⟩:=h.ex;obtain⟨r,q,f1,f2,f3,f4,f5,f6⟩:=e.ex;refine⟨⟨R++r,C++q,by rw[f1,s,bw],by rw[f2,t,bw],λx z=>(bj.1 z).elim (u x) (f3 x),by rw[aP];omega,by rw[OB];omega,λS N x m o p=>?_⟩,e.dn.trans h.dn,e.aG.trans h.aG,aJ h.s1 e.s1,?_⟩
 . exact (v S N x m (aJ e.s1 o) (aJ y p)).kZ (f6 S N x m o p)
 have:=h.s2;have:=e.s2;omega
theorem Ly.up (h:Ly K i f g a b w n)(m:Nat):Ly K i f g (m+a) (m+b) w n:=by obtain⟨R,C,e,o,p,q,r,s⟩:=h.ex;exact⟨⟨R,C,e,o,p,q,r,λS N x t u v=>by have:=s S N (x+m) t u v;rwa [Nat.add_assoc,Nat.add_assoc] at this⟩,h.dn,h.aG,h.s1,h.s2⟩
theorem Ly.mono {lo' hi' w' n':Nat}(h:Ly K i f g a b w n)(v:f<=lo')(y:g<=hi')(z:w<=w')(A:n<=n'):Ly K i lo' hi' a b w' n':=by obtain⟨R,C,e,m,o,s,t,p⟩:=h.ex;exact⟨⟨R,C,e,m,o,by omega,by omega,λS N x u q r=>p S N x (by omega) q r⟩,h.dn,h.aG,h.s1,by have:=h.s2;omega⟩
theorem Ly.fv {R:List (Nat×Int)}(o:ML R<=w)(h:∀S N x,f<=S->K.cells.length<=N->Pc S N (x+a) (x+b) R):Ly K (K.fv R) f g a b w 0 :=
 ⟨⟨R,[],rfl,by show K.cells=_;simp,(λx p=>by cases p),an _,o,λS N x e _ m=>h S N x e m⟩,rfl,rfl,an _,by show K.al<=_;omega⟩
end
end
end Go.Proofs.YtbicmofihhjgbaaGreatDoor
