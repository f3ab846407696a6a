/- Part 34 of the proof. -/
import Derived.Test.YtbicmofihhjgbaaGreatDoorK15
set_option maxRecDepth 100000
set_option maxHeartbeats 8000000
namespace Go.Proofs.YtbicmofihhjgbaaGreatDoor
open Go.Proofs.Tryz
section
variable {e:Ex} {i part g:Fn} {j n:Nat} {c:St} {t:Tk}
def fO (e:Ex):Bool:=dJ (aF e.op.toList e.n) e.ah.length
def cp (L:List Ex):Prop:=∀e∈L,fO e=true
def bM (M:Fn):Prop:=∀c,cp c.L->cp (M c).1.L
theorem cp.add {L:List Ex}(h:cp L)(a:fO e=true):cp (L++[e]):=by
 intro x hx;rcases bj.1 hx with hx|hx
 . exact h x hx
 rw[cu.1 hx];exact a
theorem St.Ad (c:St)(e:Ex):(c.add e).L=c.L++[e]∨(c.add e).L=c.L:=by unfold St.add;first|exact ao rfl|(split <;> first|exact ao rfl|exact ap rfl)
theorem St.dK (c:St):c.aI.L=c.L:=by unfold St.aI;first|rfl|(split <;> rfl)
theorem cp.put (h:cp c.L)(a:fO e=true):cp (c.put e).1.L:=by
 show cp (c.add e).L;rcases c.Ad e with h1|h1
 . rw[h1];exact h.add a
 rw[h1];exact h
theorem Ea:aF kS.toList 0=10:=by decide +kernel
theorem D4:aF kR.toList 0=11:=by decide +kernel
theorem vo:aF fL.toList 0=4:=by decide +kernel
theorem Eb:aF iz.toList 0=5:=by decide +kernel
theorem Dm:aF iL.toList 0=6:=by decide +kernel
theorem D8:aF iO.toList 0=9:=by decide +kernel
theorem D9:aF gQ.toList 0=3:=by decide +kernel
theorem Ef:aF MV.toList 1=1:=by decide +kernel
theorem Eg:aF MV.toList 0=2:=by decide +kernel
theorem D3 (n:Nat):aF fJ.toList n=0:=by unfold aF;rw[ag (by decide +kernel)]
theorem ju {k:Nat}{f:Xb}{l:Nat}(m:aF f.toList n=k)(h:dJ k l=true){a b:Nat}{d:Xn}{s:Xb}(o:d.length=l):fO ⟨f,a,b,d,s,n⟩=true:=by unfold fO;simp only[m,o];exact h
theorem CZ (h:et t n=true)(a b:Nat):fO ⟨t.s,t.a,0,[a,b],sE,0⟩=true:=by
 unfold et at h;split at h
 . cases h
 split at h
 . rename_i h1;unfold fO;rcases h1 with h1|h1 <;> (simp only[h1];rfl)
 split at h
 . rename_i h1;unfold fO;simp only[h1];rfl
 split at h
 . rename_i h1;unfold fO;rcases h1 with h1|h1 <;> (simp only[h1];rfl)
 split at h
 . rename_i h1;unfold fO;rcases h1 with h1|h1|h1 <;> (simp only[h1];rfl)
 cases h
theorem uY (a:bM part):∀(f:Nat) (x:St×Nat),cp x.1.L->cp (dx j part f x).1.L
 | 0,_,h=>h
 | f+1,x,h=>by
   unfold dx;split
   . rename_i b
     refine uY a f _ (cp.put (a _ (by rw[St.bu];exact h)) (CZ b.2 _ _))
   exact h
theorem oC (a:bM part):bM (eo j part):=λc h=>uY a 1300 _ (a c h)
theorem Ed (h:eh t=true)(a b:Nat):fO ⟨t.s,t.a,0,[a,b],sE,0⟩=true:=by unfold eh at h;simp only[Bool.and_eq_true,Bool.or_eq_true,beq_iff_eq] at h;unfold fO;rcases h.2 with ((h1|h1)|h1)|h1 <;> (simp only[h1];rfl)
theorem Uz {sum:Fn}(a:bM sum):bM (ei sum):=by
 intro c h;unfold ei;simp only;split
 . rename_i b
   exact cp.put (a _ (by rw[St.bu];exact a c h)) (Ed b.2 _ _)
 exact a c h
theorem C7 {b a:Fn}(d:bM b)(f:bM a):bM (dG b a):=by
 intro c h;unfold dG;split
 . refine cp.put (by rw[St.dK];exact d _ (by rw[St.dA];exact h)) ?_;split
   . exact ju Ea (l:=1) rfl rfl
   exact ju D4 (l:=1) rfl rfl
 exact f c h
theorem El (h:eu c=true)(a b x:Nat)(s:Xb):fO ⟨c.t.s,a,b,[x],s,0⟩=true:=by unfold eu St.is at h;simp only[Bool.or_eq_true,Bool.and_eq_true,beq_iff_eq] at h;unfold fO;rcases h with h1|h1 <;> (simp only[h1.2];rfl)
theorem ug:∀(f:Nat) (x:St×Nat),cp x.1.L->cp (M0 f x).1.L
 | 0,_,h=>h
 | f+1,x,h=>by
   unfold M0;split
   . rename_i a
     refine ug f _ (cp.put (by rw[St.c8,St.bu];exact h) (El a.2 _ _ _ _))
   exact h
theorem Cf (a:bM i):bM (gR i):=λc h=>ug 1300 _ (a c h)
theorem uy (b:bM g):∀(f:Nat) (x:St×List Nat),cp x.1.L->1<=x.2.length->cp (cY g f x).1.L/\1<=(cY g f x).2.length
 | 0,_,h,a=>⟨h,a⟩
 | f+1,x,h,a=>by
   unfold cY;split
   . exact uy b f _ (b _ (by rw[St.bu];exact h)) (by simp)
   exact⟨h,a⟩
theorem uP (a:bM g)(t:Tk):bM (vs g t):=by
 intro c h;unfold vs;split
 . simp only;have:=uy a 1300 ((g c.enter).1,[(g c.enter).2]) (a _ (by rw[St.dA];exact h)) (by simp);refine cp.put (by rw[St.dK,St.bi];exact this.1) ?_;exact ju vo (by show decide (1<=_)=true;exact decide_eq_true this.2) rfl
 show cp (c.fail 2 c.t.a).L;rw[St.N4];exact h
theorem Cx (a:bM g):bM (fp g):=by intro c h;unfold fp;simp only;refine cp.put ?_ (ju Eb (l:=3) rfl rfl);rw[St.dK];exact a _ (by rw[St.bi];exact a _ (by rw[St.bi];exact a _ (by rw[St.dA];exact h)))
theorem vg:bM kc:=λc h=>cp.put (by rw[St.bu];exact h) (ju D9 (l:=0) rfl rfl)
theorem Mh (a:bM i):bM (bF i):=by
 intro c h;unfold bF;split
 . exact a c h
 exact vg c h
theorem CU (a:bM i):bM (fs i):=by intro c h;unfold fs;simp only;refine cp.put ?_ (ju Dm (l:=2) rfl rfl);rw[St.dK];exact Mh a _ (Mh a _ (by rw[St.c8,St.dA];exact h))
theorem Cp (a:bM g):bM (iM g):=by
 intro c h
 show cp (((g c.enter).1.ac 4 [41]).aI).L;rw[St.dK,St.bi];exact a _ (by rw[St.dA];exact h)
theorem qw (b:Xb)(n:Nat)(d:∀a:Nat,fO ⟨b,a,0,[],sE,n⟩=true):bM (fK b n):=λc h=>cp.put (by rw[St.bu];exact h) (d _)
theorem C0 {b:Fn}(a:bM g)(d:bM b):bM (aN g b):=by
 intro c h;unfold aN;split
 . exact h
 split
 . exact qw fJ _ (λ_=>ju (D3 _) (l:=0) rfl rfl) c h
 split
 . split
   . exact uP a _ _ (by rw[St.bu];exact h)
   exact vg c h
 split
 . exact Cp a c h
 split
 . exact qw MV 1 (λ_=>ju Ef (l:=0) rfl rfl) c h
 split
 . exact qw MV 0 (λ_=>ju Eg (l:=0) rfl rfl) c h
 split
 . exact Cx a c h
 split
 . exact CU d c h
 show cp (c.fail 2 c.t.a).L;rw[St.N4];exact h
theorem DI {a:Fn}(d:bM g)(b:bM a):bM (fe g a):=by
 intro c h;unfold fe;simp only;split
 . refine cp.put ?_ (ju D8 (l:=2) rfl rfl);rw[St.dK];exact d _ (by rw[St.dA];exact b c h)
 exact b c h
theorem Mm:∀d:Nat,bM (fx d).ex/\bM (fx d).un/\bM (fx d).at'
 | 0=>⟨λ_ h=>h,λ_ h=>h,λ_ h=>h⟩
 | d+1=>by obtain⟨a,k,l⟩:=Mm d;have b:bM (aN (fx d).ex (fx d).at'):=C0 a l;have f:bM (dG (fx d).un (gR (aN (fx d).ex (fx d).at'))):=C7 k (Cf b);exact⟨DI a (oC (oC (Uz (oC (oC f))))),f,b⟩
end
section
variable {i o:Bool} {g d:List Vr} {f:Nat} {c:St}
theorem aK.back {a b:St}(h:aK a b)(j:b.er=0):a.er=0:=by
 by_cases e:a.er=0
 . exact e
 have:=(h e).1;omega
theorem pT (c:St)(a:Nat):(c.fail 2 a).er≠0:=by
 unfold St.fail;split
 . show (2:Nat)≠0;omega
 rename_i h;exact h
theorem oB (h:(zx i o c d).1.er=0):d.length<16/\∃v:Vr,(zx i o c d).2=d++[v]/\v.bn=i/\v.out=o/\((i||o)=true->v.tm=false):=by
 unfold zx at h ⊢;by_cases b:16<=d.length
 . rw[ag b] at h;exact absurd h (pT c _)
 rw[ae b] at h ⊢;refine⟨by omega,?_⟩;simp only;split
 . rename_i a
   simp only[Bool.and_eq_true,Bool.not_eq_true'] at a;exact⟨_,rfl,rfl,rfl,λh=>by rw[a.1.2,a.2] at h;cases h⟩
 exact⟨_,rfl,rfl,rfl,λ_=>rfl⟩
def hA (i o:Bool)(d a:List Vr):Prop:=∃E:List Vr,a=d++E/\(∀v∈E,v.bn=i/\v.out=o/\((i||o)=true->v.tm=false))/\a.length<=16
theorem hA.one {v:Vr}(h:hA i o g d)(b:v.bn=i)(e:v.out=o/\((i||o)=true->v.tm=false))(j:d.length<16):hA i o g (d++[v]):=by
 obtain⟨E,rfl,a,_⟩:=h;refine⟨E++[v],by rw[bw],λx hx=>?_,by rw[aP,List.length_singleton];omega⟩;rcases bj.1 hx with hx|hx
 . exact a x hx
 rw[cu.1 hx];exact⟨b,e⟩
theorem ue:∀(f:Nat) (x:St×List Vr),(MG i f x).1.er=0->hA i (!i) g x.2->g.length<x.2.length->hA i (!i) g (MG i f x).2/\g.length<(MG i f x).2.length
 | 0,_,_,h,b=>⟨h,b⟩
 | f+1,x,a,h,b=>by
   unfold MG at a ⊢;split
   . rename_i k
     rw[ag k] at a;have j:=(sA i f _).back a;obtain⟨m,v,e,l,n⟩:=oB j;refine ue f _ a ?_ ?_
     . rw[e];exact h.one l n m
     rw[e,aP,List.length_singleton];omega
   exact⟨h,b⟩
theorem tS (h:(bW i c d).1.er=0):hA i (!i) d (bW i c d).2/\d.length<(bW i c d).2.length:=by
 unfold bW at h ⊢;simp only at h ⊢;have a:=(aK.ac _ 4 [41]).back h;have b:=(sA i 1300 _).back a;obtain⟨k,v,e,j,l⟩:=oB b;refine ue 1300 _ a ?_ ?_
 . rw[e];exact hA.one ⟨[],by simp,by simp,by omega⟩ j l k
 rw[e,aP,List.length_singleton];omega
theorem tT:∀(f:Nat) (x:St×List Vr),(en f x).1.er=0->hA false false g x.2->hA false false g (en f x).2
 | 0,_,_,h=>h
 | f+1,x,a,h=>by
   unfold en at a ⊢;split
   . rename_i l
     rw[ag l] at a;have j:(MN x.1 x.2).1.er=0:=by
      by_cases b:(MN x.1 x.2).1.er=0
      . exact b
      rw[sD b] at a;exact absurd a b
     have k:=(aK.ac _ 4 [59]).back j;obtain⟨n,v,e,m,p⟩:=oB k;refine tT f _ a ?_
     show hA false false g (zx false false x.1 x.2).2;rw[e];exact h.one m p n
   exact h
theorem Cz (p:d.length<=16)(h:(bD f c d).1.er=0):hA false false d (bD f c d).2:=by
 unfold bD at h ⊢;have j:hA false false d d:=⟨[],by simp,by simp,p⟩;split
 . rename_i m
   rw[ag m] at h;have k:(MN c.ad d).1.er=0:=by
    by_cases a:(MN c.ad d).1.er=0
    . exact a
    rw[sD a] at h;exact absurd h a
   have l:=(aK.ac _ 4 [59]).back k;obtain⟨b,v,e,n,q⟩:=oB l;refine tT f _ h ?_
   show hA false false d (zx false false c.ad d).2;rw[e];exact j.one n q b
 exact j
structure hS (d:List Vr):Prop where
 ah:1<=(d.filter (·.bn)).length
 aG:1<=(d.filter (·.out)).length
 io:(d.filter (·.bn)).length+(d.filter (·.out)).length<=d.length
 bO:d.length<=16
 arr:∃A B C:List Vr,d=A++B++C/\(∀v∈A,v.bn=true/\v.out=false/\v.tm=false)/\(∀v∈B,v.bn=false/\v.out=true/\v.tm=false)/\∀v∈C,v.bn=false/\v.out=false
theorem n9 {α:Type}{p:α->Bool}{E:List α}(h:∀v∈E,p v=true):E.filter p=E:=List.filter_eq_self.2 h
theorem jt {α:Type}{p:α->Bool}{E:List α}(h:∀v∈E,p v=false):E.filter p=[]:=List.filter_eq_nil_iff.2 (λv a=>by rw[h v a];simp)
theorem DD (h:(bD f (aT c).1 (aT c).2).1.er=0):hS (bD f (aT c).1 (aT c).2).2:=by
 have H:=(uw f (aT c).1 (aT c).2).back h;have p:(bW false ((bW true (c.ac 5 zW).name []).1.ac 4 [45,62]) (bW true (c.ac 5 zW).name []).2).1.er=0:=H;obtain⟨⟨k,D,r,J⟩,u⟩:=tS p;have I:=(aK.ac _ 4 [45,62]).back ((sC false _ _).back p);obtain⟨⟨b,m,q,M⟩,F⟩:=tS I;have w:(aT c).2=(bW false ((bW true (c.ac 5 zW).name []).1.ac 4 [45,62]) (bW true (c.ac 5 zW).name []).2).2:=rfl;have L:(aT c).2.length<=16:=by rw[w];exact J
 obtain⟨l,j,t,K⟩:=Cz L h;rw[List.nil_append] at m;have n:(aT c).2=b++k:=by rw[w,D,m]
 have s:b.length<(aT c).2.length:=by rw[w];rw[m] at u;rw[m];exact u
 rw[m] at F;have G:(bD f (aT c).1 (aT c).2).2=b++k++l:=j.trans (congrArg (·++l) n);rw[n,aP] at s;clear j D u;have j:=G;have u:=s;have f1:∀E:List Vr,E=b->E.filter (·.bn)=b/\E.filter (·.out)=[]:=λE e=>by subst e;exact⟨n9 (λv a=>(q v a).1),jt (λv a=>(q v a).2.1)⟩
 obtain⟨x,A⟩:=f1 b rfl;have y:k.filter (·.bn)=[]:=jt (λv a=>(r v a).1);have B:k.filter (·.out)=k:=n9 (λv a=>(r v a).2.1);have z:l.filter (·.bn)=[]:=jt (λv a=>(t v a).1);have C:l.filter (·.out)=[]:=jt (λv a=>(t v a).2.1);refine⟨?_,?_,?_,K,b,k,l,j,λv a=>⟨(q v a).1,(q v a).2.1,(q v a).2.2 rfl⟩,λv a=>⟨(r v a).1,(r v a).2.1,(r v a).2.2 rfl⟩,λv a=>⟨(t v a).1,(t v a).2.1⟩⟩
 . rw[j,List.filter_append,List.filter_append,x,y,z];simp only[List.append_nil];simp at F;omega
 . rw[j,List.filter_append,List.filter_append,A,B,C];simp only[List.append_nil,List.nil_append];omega
 rw[j,List.filter_append,List.filter_append,List.filter_append,List.filter_append,x,y,z,A,B,C];simp only[List.append_nil,List.nil_append,aP];omega
def jz (L:List Ex)(q:ax):Prop:=q.ns.length=q.ps.length/\1<=q.ns.length/\(2<=q.ns.length->∃a:Ex,L[q.ex]?=some a/\aF a.op.toList a.n=4)
theorem jz.more {L:List Ex}{q:ax}(h:jz L q)(E:List Ex):jz (L++E) q:=by refine⟨h.1,h.2.1,λj=>?_⟩;obtain⟨e,a,b⟩:=h.2.2 j;exact⟨e,by rw[e9 (aB.1 a).1];exact a,b⟩
theorem uC:∀(f:Nat) (x:dI),x.ns.length=x.ps.length->2<=x.ns.length->(cX f x).ns.length=(cX f x).ps.length/\2<=(cX f x).ns.length
 | 0,_,h,a=>⟨h,a⟩
 | f+1,x,h,a=>by
   unfold cX;split
   . exact uC f x.more (by simp[dI.more,h]) (by simp[dI.more];omega)
   exact⟨h,a⟩
theorem CP (c:St):(aZ c).ns.length=(aZ c).ps.length/\1<=(aZ c).ns.length/\(2<=(aZ c).ns.length->c.is 4 [40]=true):=by
 unfold aZ;split
 . rename_i h
   have:=uC 1300 ⟨(c.ad.name.ac 4 [44]).name,[c.ad.t.s,(c.ad.name.ac 4 [44]).t.s],[c.ad.t.a,(c.ad.name.ac 4 [44]).t.a]⟩ rfl (by simp);exact⟨this.1,by have:=this.2;show 1<=(cX 1300 _).ns.length;omega,λ_=>h⟩
 exact⟨rfl,by simp,λh=>by simp at h⟩
theorem Er (c:St):(aZ c).st.L=c.L:=by
 have a:∀(f:Nat) (x:dI),(cX f x).st.L=x.st.L:=by
  intro f;induction f with
  | zero=>intro x;rfl
  | succ f b =>
    intro x;unfold cX;split
    . rw[b];show (x.st.ad.name).L=_;rw[St.c8,St.bu]
    rfl
 unfold aZ;split
 . unfold iG;simp only;rw[St.bi,a]
   show ((c.ad.name.ac 4 [44]).name).L=_;rw[St.c8,St.bi,St.c8,St.bu]
 show c.name.L=_;rw[St.c8]
def gy (M:Fn):Prop:=∀c,∃E,(M c).1.L=c.L++E
theorem tZ {a b:Fn}(p:bM a)(r:bM b)(m:gy a)(z:gy b){eqs:List ax}(h:cp c.L)(A:∀q∈eqs,jz c.L q)(Q:(zF a b c eqs).1.er=0) :
 cp (zF a b c eqs).1.L/\(∀q∈(zF a b c eqs).2,jz (zF a b c eqs).1.L q):=by
 have O:(zF a b c eqs).1.L=(cx a b (c.is 4 [40]) ((aZ c).st.ac 4 [61])).1.L:=St.bi _ _ _;have l:(cx a b (c.is 4 [40]) ((aZ c).st.ac 4 [61])).1.er=0:=(aK.ac _ 4 [59]).back Q;have k:((aZ c).st.ac 4 [61]).L=c.L:=by rw[St.bi,Er]
 rw[O];obtain⟨F,G,S⟩:=CP c;cases v:c.is 4 [40] with
 | false =>
   have n:cx a b false ((aZ c).st.ac 4 [61])=b ((aZ c).st.ac 4 [61]):=rfl;rw[n];refine⟨r _ (by rw[k];exact h),λq hq=>?_⟩;obtain⟨E,e⟩:=z ((aZ c).st.ac 4 [61]);rw[e,k];rcases bj.1 hq with hq|hq
   . exact (A q hq).more E
   rw[cu.1 hq];exact⟨F,G,λN=>by have:=S N;rw[v] at this;cases this⟩
 | true =>
   rw[v] at l;have n:∀s:St,cx a b true s=vs a s.t s.name:=λ_=>rfl;rw[n] at l ⊢;obtain⟨s,C⟩:∃s,(aZ c).st.ac 4 [61]=s:=⟨_,rfl⟩;have w:(zF a b c eqs).2=eqs++[⟨(aZ c).ns,(aZ c).ps,(aZ c).st.t.a,(vs a s.t s.name).2⟩]:=(by show eqs++[⟨_,_,_,(cx a b (c.is 4 [40]) ((aZ c).st.ac 4 [61])).2⟩]=_;rw[v,n,C]);rw[C] at l k ⊢;refine⟨uP p s.t s.name (by rw[St.c8,k];exact h),?_⟩;rw[w];have P:∃E j,(vs a s.t s.name).1.L=c.L++E/\(vs a s.t s.name).1.L[(vs a s.t s.name).2]?=some j/\aF j.op.toList j.n=4:=by
    by_cases B:s.name.is 4 [40]=true
    . have t:vs a s.t s.name=(((cL a s.name.enter).1.ac 4 [41]).aI).put ⟨fL,s.t.a,s.t.a,(cL a s.name.enter).2,s.t.s,0⟩:=(by unfold vs;rw[ag B]);have M:∃E,(cL a s.name.enter).1.L=c.L++E:=by
       have y:∀(f:Nat) (x:St×List Nat),(∃E,x.1.L=c.L++E)->∃E,(cY a f x).1.L=c.L++E:=by
        intro f;induction f with
        | zero=>intro x h;exact h
        | succ f R =>
          intro x D;unfold cY;split
          . refine R _ ?_;obtain⟨E,e⟩:=D;obtain⟨H,u⟩:=m x.1.ad;exact⟨E++H,by show (a x.1.ad).1.L=_;rw[u,St.bu,e,bw]⟩
          exact D
       refine y 1300 _ ?_;obtain⟨E,e⟩:=m s.name.enter;exact⟨E,by show (a s.name.enter).1.L=_;rw[e,St.dA,St.c8,k]⟩
      obtain⟨E,e⟩:=M;have L:(((cL a s.name.enter).1.ac 4 [41]).aI).L=c.L++E:=(by rw[St.dK,St.bi,e]);rw[t];refine⟨E++[⟨fL,s.t.a,s.t.a,(cL a s.name.enter).2,s.t.s,0⟩],⟨fL,s.t.a,s.t.a,(cL a s.name.enter).2,s.t.s,0⟩,?_,?_,vo⟩
      . show (((cL a s.name.enter).1.ac 4 [41]).aI).L++[_]=_;rw[L,bw]
      show ((((cL a s.name.enter).1.ac 4 [41]).aI).L++[_])[(((cL a s.name.enter).1.ac 4 [41]).aI).L.length]?=_;rw[e8 (an _),Nat.sub_self];rfl
    exfalso;have t:vs a s.t s.name=(s.name.fail 2 s.name.t.a,0):=(by unfold vs;rw[ae B]);rw[t] at l;exact pT _ _ l
   obtain⟨E,j,I,J,K⟩:=P;intro q hq;rcases bj.1 hq with hq|hq
   . rw[I];exact (A q hq).more E
   rw[cu.1 hq];exact⟨F,G,λ_=>⟨j,J,K⟩⟩
end
section
variable {i part a b c:Fn} {j:Nat}
def cq (M:Fn):Prop:=∀(d:List Ex) (e:St),d <+: e.L->d <+: (M e).1.L
theorem js {f:List Ex}{d:St}{e:Ex}(h:f <+: d.L):f <+: (d.put e).1.L:=h.trans (List.prefix_append d.L [e])
theorem uX (e:cq part)(d:List Ex):∀(f:Nat) (x:St×Nat),d <+: x.1.L->d <+: (dx j part f x).1.L
 | 0,_,h=>h
 | f+1,x,h=>by
   unfold dx;split
   . exact uX e d f _ (js (e _ _ (by rw[St.bu];exact h)))
   exact h
theorem oF (e:cq part):cq (eo j part):=λd f h=>uX e d 1300 _ (e d f h)
theorem DJ {sum:Fn}(d:cq sum):cq (ei sum):=by
 intro f e h;unfold ei;simp only;split
 . exact js (d _ _ (by rw[St.bu];exact d _ e h))
 exact d _ e h
theorem Dd {e d:Fn}(f:cq e)(g:cq d):cq (dG e d):=by
 intro l k h;unfold dG;split
 . exact js (by rw[St.dK];exact f _ _ (by rw[St.dA];exact h))
 exact g _ k h
theorem uh (d:List Ex):∀(f:Nat) (x:St×Nat),d <+: x.1.L->d <+: (M0 f x).1.L
 | 0,_,h=>h
 | f+1,x,h=>by
   unfold M0;split
   . exact uh d f _ (js (by rw[St.c8,St.bu];exact h))
   exact h
theorem Cc (e:cq i):cq (gR i):=λd f h=>uh d 1300 _ (e d f h)
theorem ur (e:cq c)(d:List Ex):∀(f:Nat) (x:St×List Nat),d <+: x.1.L->d <+: (cY c f x).1.L
 | 0,_,h=>h
 | f+1,x,h=>by
   unfold cY;split
   . exact ur e d f _ (e _ _ (by rw[St.bu];exact h))
   exact h
theorem DF (e:cq c)(t:Tk):cq (vs c t):=by
 intro d f h;unfold vs;split
 . simp only;exact js (by rw[St.dK,St.bi];exact ur e d 1300 _ (e _ _ (by rw[St.dA];exact h)))
 show d <+: (f.fail 2 f.t.a).L;rw[St.N4];exact h
theorem CJ (d:cq c):cq (fp c):=by intro e f h;unfold fp;simp only;refine js ?_;rw[St.dK];exact d _ _ (by rw[St.bi];exact d _ _ (by rw[St.bi];exact d _ _ (by rw[St.dA];exact h)))
theorem vf:cq kc:=λ_ d h=>js (by rw[St.bu];exact h)
theorem uS (e:cq i):cq (bF i):=by
 intro f d h;unfold bF;split
 . exact e _ d h
 exact vf _ d h
theorem Dg (d:cq i):cq (fs i):=by intro e f h;unfold fs;simp only;refine js ?_;rw[St.dK];exact uS d _ _ (uS d _ _ (by rw[St.c8,St.dA];exact h))
theorem Cr (e:cq c):cq (iM c):=by
 intro d f h
 show d <+: (((c f.enter).1.ac 4 [41]).aI).L;rw[St.dK,St.bi];exact e _ _ (by rw[St.dA];exact h)
theorem qu (d:Xb)(n:Nat):cq (fK d n):=λ_ e h=>js (by rw[St.bu];exact h)
theorem C3 {f:Fn}(e:cq c)(k:cq f):cq (aN c f):=by
 intro g d h;unfold aN;split
 . exact h
 split
 . exact qu fJ _ _ d h
 split
 . split
   . exact DF e _ _ _ (by rw[St.bu];exact h)
   exact vf _ d h
 split
 . exact Cr e _ d h
 split
 . exact qu MV 1 _ d h
 split
 . exact qu MV 0 _ d h
 split
 . exact CJ e _ d h
 split
 . exact Dg k _ d h
 show g <+: (d.fail 2 d.t.a).L;rw[St.N4];exact h
theorem CW {d:Fn}(g:cq c)(e:cq d):cq (fe c d):=by
 intro k f h;unfold fe;simp only;split
 . refine js ?_;rw[St.dK];exact g _ _ (by rw[St.dA];exact e _ f h)
 exact e _ f h
theorem vd:∀d:Nat,cq (fx d).ex/\cq (fx d).un/\cq (fx d).at'
 | 0=>⟨λ_ _ h=>h,λ_ _ h=>h,λ_ _ h=>h⟩
 | d+1=>by obtain⟨e,k,l⟩:=vd d;have f:cq (aN (fx d).ex (fx d).at'):=C3 e l;have g:cq (dG (fx d).un (gR (aN (fx d).ex (fx d).at'))):=Dd k (Cc f);exact⟨CW e (oF (oF (DJ (oF (oF g))))),g,f⟩
theorem cq.ext {M:Fn}(h:cq M):gy M:=λd=>by obtain⟨E,e⟩:=h d.L d (List.prefix_refl _);exact⟨E,e.symm⟩
structure k9 (nd:Nd):Prop where
 ak:hS nd.ak
 ar:cp nd.az
 eqs:∀q∈nd.eqs,jz nd.az q
theorem vb (d:bM a)(g:bM b)(n:gy a)(o:gy b)(k:zv 17 a)(l:zv 18 b):∀(f p:Nat) (x:St×List ax),Inv p x.1->x.1.op=0->cp x.1.L->(∀q∈x.2,jz x.1.L q)->(bS a b f x).1.er=0->cp (bS a b f x).1.L/\∀q∈(bS a b f x).2,jz (bS a b f x).1.L q
 | 0,_,_,_,_,h,r,_=>⟨h,r⟩
 | f+1,p,x,A,v,h,r,s=>by
   by_cases u:x.1.t.k=2∨x.1.is 4 [40]=true
   . have e:bS a b (f+1) x=bS a b f (zF a b x.1 x.2):=(by rw[bS,ag u]);rw[e] at s ⊢;obtain⟨w,y⟩:=gD k l (eqs:=x.2) A v;have m:=w.af;have z:(zF a b x.1 x.2).1.er=0:=by
      by_cases t:(zF a b x.1 x.2).1.er=0
      . exact t
      rw[sb m t] at s;exact absurd s t
     obtain⟨B,C⟩:=tZ d g n o h r z;exact vb d g n o k l f _ _ m (by rw[y];exact v) B C s
   have e:bS a b (f+1) x=x:=(by rw[bS,ae u]);rw[e];exact⟨h,r⟩
theorem uZ (h:bM a)(k:bM b)(m:gy a)(n:gy b)(l:zv 17 a)(g:zv 18 b)(f p:Nat)(d:St)(G:Inv p d)(I:d.op=0)(D:(a7 a b f d).1.er=0):k9 (a7 a b f d).2:=by
 have J:=ai.aw G;have s:=mz J;have t:=kM (f:=f) (ak:=(aT d.aw).2) s.1.af;have r:=ai.ac t.1.af 4 [123];have o:((bD f (aT d.aw).1 (aT d.aw).2).1.ac 4 [123]).op=0:=by rw[St.a8,t.2.1,s.2.1];exact I
 have z:((bD f (aT d.aw).1 (aT d.aw).2).1.ac 4 [123]).L=[]:=by rw[St.bi,t.2.2,s.2.2];rfl
 obtain⟨V,w⟩:∃V,bD f (aT d.aw).1 (aT d.aw).2=V:=⟨_,rfl⟩;have y:V.1.er=0->hS V.2:=by rw[<- w];exact DD
 rw[w] at r o z;have e:a7 a b f d=((dy a b f V.1).1,⟨(d.aw.ac 5 zW).t.s,(d.aw.ac 5 zW).t.a,V.2,(dy a b f V.1).1.L,(dy a b f V.1).2⟩):=by unfold a7;simp only;rw[w]
 rw[e] at D ⊢;have u:(bS a b f (zF a b (V.1.ac 4 [123]) [])).1.er=0:=(aK.ac _ 4 [125]).back D;obtain⟨B,E⟩:=gD l g (eqs:=[]) r.af o;have C:(zF a b (V.1.ac 4 [123]) []).1.er=0:=by
  by_cases v:(zF a b (V.1.ac 4 [123]) []).1.er=0
  . exact v
  rw[sb B.af v] at u;exact absurd u v
 have F:V.1.er=0:=(aK.ac _ 4 [123]).back ((aK.sL g r.af o []).back C);obtain⟨K,L⟩:=tZ h k m n (eqs:=[]) (by rw[z];intro e H;cases H) (λq x=>by cases x) C;obtain⟨M,N⟩:=vb h k m n l g f _ _ B.af (by rw[E];exact o) K L u;have A:(dy a b f V.1).1.L=(bS a b f (zF a b (V.1.ac 4 [123]) [])).1.L:=St.bi _ _ _;refine⟨y F,?_,?_⟩
 . show cp (dy a b f V.1).1.L;rw[A];exact M
 intro q x
 show jz (dy a b f V.1).1.L q;rw[A];exact N q x
theorem pV (e:zv 17 a)(g:zv 18 b)(f p:Nat)(d:St)(s:Inv p d)(t:d.op=0):Inv 0 (a7 a b f d).1/\(a7 a b f d).1.op=0:=by
 have u:=ai.aw s;have k:=mz u;have l:=kM (f:=f) (ak:=(aT d.aw).2) k.1.af;have n:=ai.ac l.1.af 4 [123];have m:((bD f (aT d.aw).1 (aT d.aw).2).1.ac 4 [123]).op=0:=by rw[St.a8,l.2.1,k.2.1];exact t
 obtain⟨o,r⟩:=gD e g (eqs:=[]) n.af m;have h:=nO e g f _ (zF a b ((bD f (aT d.aw).1 (aT d.aw).2).1.ac 4 [123]) []) o.af (by rw[r];exact m);have q:=ai.ac h.1.af 4 [125];exact⟨q.af,by show (St.ac _ 4 [125]).op=0;rw[St.a8];exact h.2⟩
theorem us (l:bM a)(m:bM b)(o:gy a)(q:gy b)(d:zv 17 a)(k:zv 18 b)(g:Nat):∀(f p:Nat) (x:St×List Nd),Inv p x.1->x.1.op=0->(∀n∈x.2,k9 n)->(Mq a b g f x).1.er=0->(∀n∈(Mq a b g f x).2,k9 n)
 | 0,_,_,_,_,h,_=>h
 | f+1,p,x,t,v,h,r=>by
   by_cases u:x.1.is 5 zW=true/\x.2.length<6
   . have e:Mq a b g (f+1) x=Mq a b g f ((a7 a b g x.1).1,x.2++[(a7 a b g x.1).2]):=(by rw[Mq,ag u]);rw[e] at r ⊢;obtain⟨w,z⟩:=pV d k g p x.1 t v;have y:(a7 a b g x.1).1.er=0:=by
      by_cases s:(a7 a b g x.1).1.er=0
      . exact s
      rw[mI w s] at r;exact absurd r s
     refine us l m o q d k g f 0 _ w z (λn hnd=>?_) r;rcases bj.1 hnd with hnd|hnd
     . exact h n hnd
     rw[cu.1 hnd];exact uZ l m o q d k g p x.1 t v y
   have e:Mq a b g (f+1) x=x:=(by rw[Mq,ae u]);rw[e];exact h
theorem uU (f:bM a)(h:bM b)(k:gy a)(l:gy b)(d:zv 17 a)(e:zv 18 b)(g:Nat)(s:Xb)(p:Inv 0 (⟨s,zZ s 0,0,0,0,[]⟩:St))(u:(dm a b g s).1.er=0):∀r∈(dm a b g s).2,k9 r:=by
 have m:(Mq a b g g ((a7 a b g ⟨s,zZ s 0,0,0,0,[]⟩).1,[(a7 a b g ⟨s,zZ s 0,0,0,0,[]⟩).2])).1.er=0:=(pU _).back u;obtain⟨q,v⟩:=pV d e g 0 ⟨s,zZ s 0,0,0,0,[]⟩ p rfl;have t:(a7 a b g ⟨s,zZ s 0,0,0,0,[]⟩).1.er=0:=by
  by_cases n:(a7 a b g ⟨s,zZ s 0,0,0,0,[]⟩).1.er=0
  . exact n
  rw[mI q n] at m;exact absurd m n
 refine us f h k l d e g g 0 _ q v (λr o=>?_) m;rw[cu.1 o];exact uZ f h k l d e g 0 _ p rfl t
end
section
variable {L:List Ex} {x:Nat} {t:Tm}
theorem DA (c:cp L)(h:bX L x t):Wf t:=by
 induction h with
 | mk x a m g d l k =>
   refine .mk _ _ _ _ _ _ ?_ (λt f=>?_)
   . have:=c a (aM g);unfold fO at this;rw[d];exact this
   obtain⟨i,b⟩:=List.getElem?_of_mem f;have e:=(aB.1 b).1;obtain⟨y,j⟩:∃y,a.ah[i]?=some y:=⟨_,av (by omega)⟩;exact k i y t j b
theorem B6 (h:bX L x t):∃a:Ex,L[x]?=some a/\t.k=aF a.op.toList a.n:=by
 cases h with
 | mk x a e b c d=>exact⟨a,b,rfl⟩
theorem vt (d:cp L):∀{l:List ax} {b:List Qn},fM L l b->(∀q∈l,jz L q)->∀q∈b,q.ns.length=q.ps.length/\1<=q.ns.length/\Wf q.r/\(2<=q.ns.length->q.r.k=4)
 | [],b,h,_,q,hq=>by cases h;cases hq
 | e::l,b,h,f,q,hq=>by
   obtain⟨s,r,rfl,a,k⟩:=h;rcases cC.1 hq with rfl|hq
   . obtain⟨n,o,p⟩:=f e (Mx ..);rw[a.ns,a.ps];refine⟨n,o,DA d a.r,λm=>?_⟩;obtain⟨j,g,i⟩:=p m;obtain⟨c,f1,f2⟩:=B6 a.r;rw[f2];have:c=j:=Option.some.inj (f1.symm.trans g);rw[this];exact i
   exact vt d k (λq hq=>f q (cS _ hq)) q hq
theorem DV {d:Nd}{n:ay}(h:ht d n)(a:k9 d):gP n:=by
 obtain⟨c,e,f,g⟩:=a.ak;refine⟨?_,?_,?_,?_,λq b=>vt a.ar h.eqs a.eqs q b⟩
 . rw[h.ah];exact c
 . rw[h.aG];exact e
 . rw[h.ah,h.aG,h.ak];exact f
 rw[h.ak];exact g
theorem uL:∀{l:List Nd} {a:List ay},dS l a->(∀d∈l,k9 d)->∀n∈a,gP n
 | [],a,h,_,n,hn=>by cases h;cases hn
 | d::l,a,h,c,n,hn=>by
   obtain⟨i,g,rfl,e,f⟩:=h;rcases cC.1 hn with rfl|hn
   . exact DV e (c d (Mx ..))
   exact uL f (λd b=>c d (cS _ b)) n hn
theorem Eh {a b:Fn}(c:bM a)(d:bM b)(h:gy a)(i:gy b)(e:zv 17 a)(f:zv 18 b){g:Nat}{src:Xb}(m:src.size<=1200)(k:(dm a b g src).1.er=0){j:List ay}(l:dS (dm a b g src).2 j):∀n∈j,gP n :=
 uL l (uU c d h i e f g src (sk m) k)
theorem vm {d:Nat}{r:Fn}(e:r=(fx d).ex):bM r/\gy r:=by obtain⟨a,_⟩:=Mm d;obtain⟨b,_⟩:=vd d;rw[e];exact⟨a,b.ext⟩
end
section
variable {L g:List Ex} {f:Xn} {e:List Tm} {d x:Nat} {c:St} {t:Tm}
def vz (t:Tm):Nat:=(bh b8 t).length
def k8 (e:List Tm):Nat:=(cN b8 e).length
theorem qz (k a:Nat)(s:Xb)(b n:Nat)(e:List Tm):vz (.mk k a s b n e)=1+k8 e:=by unfold vz k8;rw[bh,ag (show b8 (.mk k a s b n e)=true from rfl),bJ];omega
theorem zf (t:Tm)(e:List Tm):k8 (t::e)=vz t+k8 e:=by unfold vz k8;rw[cN,aP]
theorem Y9:k8 []=0:=rfl
theorem mZ (m:L <+: g)(h:bX L x t):bX g x t:=by
 induction h with
 | mk x b e a l o n => obtain⟨E,rfl⟩:=m;exact .mk x b e (by rw[e9 (aB.1 a).1];exact a) l (λi y t j k=>n i y t j k)
def dW (L:List Ex)(f:Xn)(e:List Tm):Prop:=e.length=f.length/\∀(i y:Nat) (t:Tm),f[i]?=some y->e[i]?=some t->bX L y t
theorem dW.nil (L:List Ex):dW L [] []:=⟨rfl,λi y t h=>by simp at h⟩
theorem dW.more (j:L <+: g)(h:dW L f e):dW g f e:=⟨h.1,λi y t a b=>mZ j (h.2 i y t a b)⟩
theorem dW.snoc (h:dW L f e)(k:bX L x t):dW L (f++[x]) (e++[t]):=by
 refine⟨by rw[aP,aP,h.1];rfl,λi y u a b=>?_⟩;by_cases j:i<f.length
 . rw[e9 j] at a;rw[e9 (by rw[h.1];exact j)] at b;exact h.2 i y u a b
 rw[e8 (by omega)] at a;rw[e8 (by rw[h.1];omega),h.1] at b;have:i-f.length=0:=by have:=(aB.1 a).1;simp at this;exact this
 rw[this] at a b;simp at a b;subst a;subst b;exact k
theorem dW.one (h:bX L x t):dW L [x] [t]:=(dW.nil L).snoc h
def cj (d:Nat)(c:St):Prop:=c.er=0->18<=c.op+d/\c.op<=16
theorem cj.stay {a b:St}(h:cj d a)(k:aK a b)(j:b.op=a.op):cj d b:=λi=>by rw[j];exact h (k.back i)
theorem cj.ad (h:cj d c):cj d c.ad:=h.stay (aK.ad c) c.bQ
theorem cj.ac (h:cj d c)(k:Nat)(l:Xu):cj d (c.ac k l):=h.stay (aK.ac c k l) (c.a8 k l)
theorem cj.name (h:cj d c):cj d c.name:=h.stay (aK.name c) c.dB
theorem mH (h:c.enter.er=0):c.er=0/\c.op+1<=16:=by
 unfold St.enter at h;split at h
 . exact absurd h (St.cy _ (by decide))
 rw[St.ja] at h;exact⟨h,by omega⟩
theorem cj.enter (h:cj (d+1) c):cj d c.enter:=λb=>by obtain⟨a,i⟩:=mH b;rw[St.bN];have:=h a;omega
end
section
variable {M w part j:Fn} {L z:List Ex} {ts p A:List Tm} {a b c d B:Nat} {g:St} {t:Tm}
mutual
def b7:Tm->List Tm
 | .mk k a s e n ts=>cH ts++[.mk k a s e n ts]
def cH:List Tm->List Tm
 | []=>[]
 | t::l=>b7 t++cH l
end
theorem EZ (ts:List Tm)(t:Tm):cH (ts++[t])=cH ts++b7 t:=by
 induction ts with
 | nil=>rw[List.nil_append,cH,cH,cH,List.append_nil,List.nil_append]
 | cons u ts e=>rw[List.cons_append,cH,e,cH,bw]
def Po (L:List Ex)(a:Nat)(p:List Tm):Prop:=∀(i:Nat) (u:Tm),p[i]?=some u->bX (L.take (a+i+1)) (a+i) u
theorem Md (e:L <+: z)(m:Nat):L.take m <+: z.take m:=by obtain⟨E,rfl⟩:=e;rw[List.take_append];exact List.prefix_append _ _
theorem Po.nil (L:List Ex)(a:Nat):Po L a []:=λi u h=>by simp at h
theorem Po.more (e:L <+: z)(h:Po L a p):Po z a p:=λi u f=>mZ (Md e _) (h i u f)
theorem Po.kZ (h:Po L a p)(f:Po L (a+p.length) A):Po L a (p++A):=λi u e=>by
 by_cases k:i<p.length
 . rw[e9 k] at e;exact h i u e
 rw[e8 (by omega)] at e;have:=f _ u e;rw[show a+p.length+(i-p.length)=a+i by omega] at this;exact this
structure Mw (L:List Ex) (a b:Nat) (p:List Tm):Prop where
 len:a+p.length=b
 po:Po L a p
theorem Mw.nil (L:List Ex)(a:Nat):Mw L a a []:=⟨rfl,Po.nil L a⟩
theorem Mw.more (e:L <+: z)(h:Mw L a b p):Mw z a b p:=⟨h.len,h.po.more e⟩
theorem Mw.kZ (h:Mw L a b p)(e:Mw L b c A):Mw L a c (p++A) :=
 ⟨by have:=h.len;have:=e.len;rw[aP];omega,h.po.kZ (by rw[h.len];exact e.po)⟩
theorem Mw.one (h:Mw L a b (b7 t)):Mw L a b (cH [t]):=by rw[cH,cH,List.append_nil];exact h
theorem Mw.snoc (h:Mw L a b (cH ts))(e:Mw L b c (b7 t)):Mw L a c (cH (ts++[t])):=by rw[EZ];exact h.kZ e
structure jf (g:St) (r:St×Nat):Prop where
 dd:g.er=0
 op:r.1.op=g.op
 pre:g.L <+: r.1.L
 tr:∃t,bX r.1.L r.2 t/\Mw r.1.L g.L.length r.1.L.length (b7 t)
 nx:r.2+1=r.1.L.length
def bI (d:Nat)(M:Fn):Prop:=∀g,cj d g->(M g).1.er=0->jf g (M g)
theorem je {f:St}{e:Ex}(q:g.er=0)(r:f.op=g.op)(s:g.L <+: f.L)(m:dW f.L e.ah ts)(v:Mw f.L g.L.length f.L.length (cH ts)):jf g (f.put e):=by
 have h:(f.put e).1.L=f.L++[e]:=rfl;have l:bX (f.L++[e]) f.L.length (.mk (aF e.op.toList e.n) e.a e.s e.nm (df e.op.toList e.n) ts):=by refine .mk f.L.length e ts ?_ m.1 (λi y t n o=>mZ (List.prefix_append _ _) (m.2 i y t n o));rw[e8 (an _),Nat.sub_self];rfl
 refine⟨q,r,by rw[h];exact s.trans (List.prefix_append _ _),⟨.mk (aF e.op.toList e.n) e.a e.s e.nm (df e.op.toList e.n) ts,by rw[h];exact l,?_⟩,by rw[h,aP];rfl⟩;rw[h,b7,aP,List.length_singleton];refine (v.more (List.prefix_append _ _)).kZ ⟨rfl,λi u k=>?_⟩
 match i,k with
 | 0,k=>cases k;rw[de (by rw[aP];simp)];exact l
theorem cj.iY (e:bI d M)(h:cj d g):cj d (M g).1:=λf=>by have o:=e g h f;rw[o.op];exact h o.dd
theorem q1 (k:bI d part)(g:St):∀(f:Nat) (x:St×Nat),cj d x.1->(x.1.er=0->jf g x)->(dx B part f x).1.er=0->jf g (dx B part f x)
 | 0,_,_,h,e=>h e
 | f+1,x,n,h,e=>by
   unfold dx at e ⊢;split
   . rename_i i
     rw[ag i] at e;have o:=h i.1;refine q1 k g f _ ?_ (λr=>?_) e
     . exact cj.iY k n.ad
     have l:=k _ n.ad r;obtain⟨t1,s,v⟩:=o.tr;obtain⟨t2,u,q⟩:=l.tr;have m:x.1.L <+: (part x.1.ad).1.L:=(by have:=l.pre;rw[St.bu] at this;exact this);rw[St.bu] at q;refine je (ts:=[t1,t2]) o.dd (by rw[l.op,St.bQ,o.op]) (o.pre.trans m) (((dW.one s).more m).snoc u) ?_;exact ((Mw.one v).more m).snoc q
   rename_i i
   rw[ae i] at e;exact h e
theorem oS (f:bI d part):bI d (eo B part):=λg h i=>q1 f g 1300 _ (cj.iY f h) (λe=>f g h e) i
theorem Fy {sum:Fn}(h:bI d sum):bI d (ei sum):=by
 intro g i e;unfold ei at e ⊢;simp only at e ⊢;split
 . rename_i f
   rw[ag f] at e;have o:=h g i f.1;have k:=h _ (cj.iY h i).ad e;obtain⟨t1,n,r⟩:=o.tr;obtain⟨t2,q,m⟩:=k.tr;have l:(sum g).1.L <+: (sum (sum g).1.ad).1.L:=(by have:=k.pre;rw[St.bu] at this;exact this);rw[St.bu] at m;refine je (ts:=[t1,t2]) o.dd (by rw[k.op,St.bQ,o.op]) (o.pre.trans l) (((dW.one n).more l).snoc q) ?_;exact ((Mw.one r).more l).snoc m
 rename_i f
 rw[ae f] at e;exact h g i e
theorem jf.inner {r:St×Nat}(h:jf g.enter r):g.er=0/\r.1.aI.op=g.op/\g.L <+: r.1.aI.L/\r.2+1=r.1.aI.L.length/\∃t,bX r.1.aI.L r.2 t/\Mw r.1.aI.L g.L.length r.1.aI.L.length (b7 t):=by have f:=(mH h.dd).1;have e:=h.pre;obtain⟨t,q,v⟩:=h.tr;rw[St.dA] at e v;exact⟨f,by rw[St.iw,h.op,St.bN];omega,by rw[St.dK];exact e,by rw[St.dK];exact h.nx,t,by rw[St.dK];exact q,by rw[St.dK];exact v⟩
theorem EL {k f:Fn}(o:bI d k)(r:bI (d+1) f):bI (d+1) (dG k f):=by
 intro g i e;unfold dG at e ⊢;split
 . rename_i h
   rw[ag h] at e;obtain⟨l,m,n,_,t,q,v⟩:=(o _ i.enter e).inner;exact je (ts:=[t]) l m n (dW.one q) v.one
 rename_i h
 rw[ae h] at e;exact r g i e
theorem qX (g:St):∀(f:Nat) (x:St×Nat),cj d x.1->(x.1.er=0->jf g x)->(M0 f x).1.er=0->jf g (M0 f x)
 | 0,_,_,h,e=>h e
 | f+1,x,l,h,e=>by
   unfold M0 at e ⊢;split
   . rename_i i
     rw[ag i] at e;have o:=h i.1;refine qX g f _ (l.ad.name) (λ_=>?_) e;obtain⟨t1,m,n⟩:=o.tr;have k:x.1.ad.name.L=x.1.L:=(by rw[St.c8,St.bu]);refine je (ts:=[t1]) o.dd (by rw[St.dB,St.bQ,o.op]) (by rw[k];exact o.pre) (by rw[k];exact dW.one m) ?_;rw[k];exact n.one
   rename_i i
   rw[ae i] at e;exact h e
theorem EA (f:bI d w):bI d (gR w):=λg h i=>qX g 1300 _ (cj.iY f h) (λe=>f g h e) i
theorem kA (i:Xb)(n:Nat):bI d (fK i n):=by intro g k h;have f:g.er=0:=(aK.ad g).back h;have e:g.ad.L=g.L:=g.bu;exact je (ts:=[]) f g.bQ (by rw[e];exact List.prefix_refl _) (dW.nil _) (by rw[e];exact Mw.nil _ _)
theorem wV:bI d kc:=by intro g i h;have f:g.er=0:=(aK.ad g).back h;have e:g.ad.L=g.L:=g.bu;exact je (ts:=[]) f g.bQ (by rw[e];exact List.prefix_refl _) (dW.nil _) (by rw[e];exact Mw.nil _ _)
theorem Ft (i:bI d w):bI d (bF w):=by
 intro g h e;unfold bF at e ⊢;split
 . rename_i f
   rw[ag f] at e;exact i g h e
 rename_i f
 rw[ae f] at e;exact wV (d:=d) g h e
structure EW (g:St) (x:St×List Nat):Prop where
 dd:g.er=0
 op:x.1.op=g.op
 pre:g.L <+: x.1.L
 tr:∃ts,dW x.1.L x.2 ts/\Mw x.1.L g.L.length x.1.L.length (cH ts)
theorem wo (k:bI d j)(g:St):∀(f:Nat) (x:St×List Nat),cj d x.1->(x.1.er=0->EW g x)->(cY j f x).1.er=0->EW g (cY j f x)
 | 0,_,_,h,e=>h e
 | f+1,x,n,h,e=>by
   unfold cY at e ⊢;split
   . rename_i i
     rw[ag i] at e;have o:=h i.1;refine wo k g f _ (cj.iY k n.ad) (λr=>?_) e;have l:=k _ n.ad r;obtain⟨ts,s,v⟩:=o.tr;obtain⟨t2,u,q⟩:=l.tr;have m:x.1.L <+: (j x.1.ad).1.L:=(by have:=l.pre;rw[St.bu] at this;exact this);rw[St.bu] at q;exact⟨o.dd,by show (j x.1.ad).1.op=_;rw[l.op,St.bQ,o.op],o.pre.trans m,ts++[t2],(s.more m).snoc u,(v.more m).snoc q⟩
   rename_i i
   rw[ae i] at e;exact h e
theorem UB (f:bI d j)(h:cj d g)(i:(cL j g).1.er=0):EW g (cL j g):=by refine wo f g 1300 _ (cj.iY f h) (λe=>?_) i;have o:=f g h e;obtain⟨t,q,v⟩:=o.tr;exact⟨o.dd,o.op,o.pre,[t],dW.one q,v.one⟩
theorem wg (m:bI d j)(t:Tk):bI (d+1) (vs j t):=by
 intro g l e;unfold vs at e ⊢;split
 . rename_i h
   rw[ag h] at e;simp only at e ⊢;have k:(cL j g.enter).1.er=0:=(aK.ac _ 4 [41]).back e;have o:=UB m l.enter k;obtain⟨ts,q,v⟩:=o.tr;have i:=o.pre;have f:(((cL j g.enter).1.ac 4 [41]).aI).L=(cL j g.enter).1.L:=(by rw[St.dK,St.bi]);rw[St.dA] at i v;exact je (ts:=ts) (mH o.dd).1 (by rw[St.iw,St.a8,o.op,St.bN];omega) (by rw[f];exact i) (by rw[f];exact q) (by rw[f];exact v)
 rename_i h
 rw[ae h] at e;exact absurd e (pT _ _)
theorem E4 (e:bI d j):bI (d+1) (fp j):=by
 intro g o y;have m:(j ((j ((j g.enter).1.ac 5 [116,104,101,110])).1.ac 5 [101,108,115,101])).1.er=0:=y;have v:=cj.iY e o.enter;have n:=v.ac 5 [116,104,101,110];have x:=(cj.iY e n).ac 5 [101,108,115,101];have i:=e _ x m;have h:=e _ n ((aK.ac _ 5 [101,108,115,101]).back i.dd);have f:=e _ o.enter ((aK.ac _ 5 [116,104,101,110]).back h.dd);obtain⟨t1,C,r⟩:=f.tr;obtain⟨t2,D,s⟩:=h.tr;obtain⟨t3,E,u⟩:=i.tr;have q:=f.pre;have k:=h.pre;have l:=i.pre;rw[St.dA] at q r;rw[St.bi] at k s l u;unfold fp;simp only;refine je (ts:=[t1,t2,t3]) (mH f.dd).1 ?_ ?_ ?_ ?_
 . rw[St.iw,i.op,St.a8,h.op,St.a8,f.op,St.bN];omega
 . rw[St.dK];exact (q.trans k).trans l
 . rw[St.dK];exact ((((dW.one C).more k).snoc D).more l).snoc E
 rw[St.dK];exact ((((Mw.one r).more k).snoc s).more l).snoc u
theorem Fc (n:bI d w):bI (d+1) (fs w):=by
 intro g o q;have h:(bF w (bF w g.enter.name).1).1.er=0:=q;have i:=Ft n;have k:=o.enter.name;have e:=i _ (cj.iY i k) h;have f:=i _ k e.dd;obtain⟨t1,r,m⟩:=f.tr;obtain⟨t2,s,u⟩:=e.tr;have l:=f.pre;rw[St.c8,St.dA] at l m;unfold fs;simp only;refine je (ts:=[t1,t2]) (mH ((aK.name _).back f.dd)).1 ?_ ?_ ?_ ?_
 . rw[St.iw,e.op,f.op,St.dB,St.bN];omega
 . rw[St.dK];exact l.trans e.pre
 . rw[St.dK];exact ((dW.one r).more e.pre).snoc s
 rw[St.dK];exact ((Mw.one m).more e.pre).snoc u
theorem wB (l:bI d j):bI (d+1) (iM j):=by
 intro g i k;have h:(j g.enter).1.er=0:=(aK.ac _ 4 [41]).back k;have o:=l _ i.enter h;obtain⟨t,q,v⟩:=o.tr;have f:=o.pre;have e:(((j g.enter).1.ac 4 [41]).aI).L=(j g.enter).1.L:=by rw[St.dK,St.bi]
 rw[St.dA] at f v;exact⟨(mH o.dd).1,by show (((j g.enter).1.ac 4 [41]).aI).op=_;rw[St.iw,St.a8,o.op,St.bN];omega,by show _ <+: (((j g.enter).1.ac 4 [41]).aI).L;rw[e];exact f,⟨t,by show bX (((j g.enter).1.ac 4 [41]).aI).L _ t;rw[e];exact q,by show Mw (((j g.enter).1.ac 4 [41]).aI).L _ (((j g.enter).1.ac 4 [41]).aI).L.length _;rw[e];exact v⟩,by show _=(((j g.enter).1.ac 4 [41]).aI).L.length;rw[e];exact o.nx⟩
theorem Fb (h:bI d M)(f:cj d g)(i:(M g.ad).1.er=0):jf g (M g.ad):=by have o:=h _ f.ad i;have e:=o.pre;obtain⟨t,q,v⟩:=o.tr;rw[St.bu] at e v;exact⟨(aK.ad g).back o.dd,by rw[o.op,St.bQ],e,⟨t,q,v⟩,o.nx⟩
theorem F3 {u:Fn}(i:bI d j)(v:bI d u):bI (d+1) (aN j u):=by
 intro g f e;unfold aN at e ⊢;by_cases h:g.er≠0
 . rw[ag h] at e;exact absurd e h
 rw[ae h] at e ⊢;by_cases k:g.t.k=3
 . rw[ag k] at e ⊢;exact kA fJ _ g f e
 rw[ae k] at e ⊢;by_cases l:g.t.k=2
 . rw[ag l] at e ⊢;by_cases m:g.ad.is 4 [40]=true
   . rw[ag m] at e ⊢;exact Fb (wg i g.t) f e
   rw[ae m] at e ⊢;exact wV g f e
 rw[ae l] at e ⊢;by_cases n:g.is 4 [40]=true
 . rw[ag n] at e ⊢;exact wB i g f e
 rw[ae n] at e ⊢;by_cases o:g.is 5 [116,114,117,101]=true
 . rw[ag o] at e ⊢;exact kA MV 1 g f e
 rw[ae o] at e ⊢;by_cases q:g.is 5 [102,97,108,115,101]=true
 . rw[ag q] at e ⊢;exact kA MV 0 g f e
 rw[ae q] at e ⊢;by_cases r:g.is 5 [105,102]=true
 . rw[ag r] at e ⊢;exact E4 i g f e
 rw[ae r] at e ⊢;by_cases s:g.is 5 [109,101,114,103,101]=true
 . rw[ag s] at e ⊢;exact Fc v g f e
 rw[ae s] at e;exact absurd e (pT _ _)
theorem F8 {e:Fn}(n:bI d j)(k:bI (d+1) e):bI (d+1) (fe j e):=by
 intro g l f;unfold fe at f ⊢;simp only at f ⊢;split
 . rename_i h
   rw[ag h] at f;have o:=k g l h.1;obtain⟨t1,q,s⟩:=o.tr;obtain⟨_,m,i,_,t2,r,u⟩:=(n _ (cj.iY k l).enter f).inner;refine je (ts:=[t1,t2]) o.dd (by rw[m,o.op]) (o.pre.trans i) (((dW.one q).more i).snoc r) ?_;exact ((Mw.one s).more i).snoc u
 rename_i h
 rw[ae h] at f;exact k g l f
theorem ma:∀d:Nat,bI d (fx d).ex/\bI d (fx d).un/\bI d (fx d).at'
 | 0=>by
   have h:∀g:St,cj 0 g->g.er=0->jf g (g,0):=λg e f=>by have:=e f;omega
   exact⟨λg e f=>h g e f,λg e f=>h g e f,λg e f=>h g e f⟩
 | d+1=>by obtain⟨i,m,n⟩:=ma d;have k:bI (d+1) (aN (fx d).ex (fx d).at'):=F3 i n;have l:bI (d+1) (dG (fx d).un (gR (aN (fx d).ex (fx d).at'))):=EL m (EA k);exact⟨F8 i (oS (oS (Fy (oS (oS l))))),l,k⟩
end
end Go.Proofs.YtbicmofihhjgbaaGreatDoor
