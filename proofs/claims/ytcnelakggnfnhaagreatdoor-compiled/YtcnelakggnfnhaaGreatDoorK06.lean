/- Part 7. -/
import Derived.Deep.RegionHeld3
import Derived.Test.YtcnelakggnfnhaaGreatDoorK05
set_option maxRecDepth 100000
set_option maxHeartbeats 8000000
namespace Go.Proofs.YtcnelakggnfnhaaGreatDoor
open Go.Proofs.Tryz
section
variable {e:Ex} {i part g:Fn} {j n:Nat} {c:St} {t:Tk}
def fO (e:Ex):Bool:=dJ (aF e.op.toList e.n) e.ah.length
def cp (L:List Ex):Prop:=∀e∈L,fO e=true
def bM (M:Fn):Prop:=∀c,cp c.L->cp (M c).1.L
theorem cp.add {L:List Ex}(h:cp L)(a:fO e=true):cp (L++[e]):=by
 intro x hx;rcases bj.1 hx with hx|hx
 . exact h x hx
 rw[cu.1 hx];exact a
theorem St.Ad (c:St)(e:Ex):(c.add e).L=c.L++[e]∨(c.add e).L=c.L:=by unfold St.add;first|exact ao rfl|(split <;> first|exact ao rfl|exact ap rfl)
theorem St.dK (c:St):c.aI.L=c.L:=by unfold St.aI;first|rfl|(split <;> rfl)
theorem cp.put (h:cp c.L)(a:fO e=true):cp (c.put e).1.L:=by
 show cp (c.add e).L;rcases c.Ad e with h1|h1
 . rw[h1];exact h.add a
 rw[h1];exact h
theorem Ea:aF kS.toList 0=10:=by decide +kernel
theorem D4:aF kR.toList 0=11:=by decide +kernel
theorem acW:aF fL.toList 0=4:=by decide +kernel
theorem Eb:aF iz.toList 0=5:=by decide +kernel
theorem Dm:aF iL.toList 0=6:=by decide +kernel
theorem D8:aF iO.toList 0=9:=by decide +kernel
theorem D9:aF gQ.toList 0=3:=by decide +kernel
theorem Ef:aF MV.toList 1=1:=by decide +kernel
theorem Eg:aF MV.toList 0=2:=by decide +kernel
theorem D3 (n:Nat):aF fJ.toList n=0:=by unfold aF;rw[ag (by decide +kernel)]
theorem ju {k:Nat}{f:Xb}{l:Nat}(m:aF f.toList n=k)(h:dJ k l=true){a b:Nat}{d:Xn}{s:Xb}(o:d.length=l):fO ⟨f,a,b,d,s,n⟩=true:=by unfold fO;simp only[m,o];exact h
theorem CZ (h:et t n=true)(a b:Nat):fO ⟨t.s,t.a,0,[a,b],sE,0⟩=true:=by
 unfold et at h;split at h
 . cases h
 split at h
 . rename_i h1;unfold fO;rcases h1 with h1|h1 <;> (simp only[h1];rfl)
 split at h
 . rename_i h1;unfold fO;simp only[h1];rfl
 split at h
 . rename_i h1;unfold fO;rcases h1 with h1|h1 <;> (simp only[h1];rfl)
 split at h
 . rename_i h1;unfold fO;rcases h1 with h1|h1|h1 <;> (simp only[h1];rfl)
 cases h
theorem uY (a:bM part):∀(f:Nat) (x:St×Nat),cp x.1.L->cp (dx j part f x).1.L
 | 0,_,h=>h
 | f+1,x,h=>by
   unfold dx;split
   . rename_i b
     refine uY a f _ (cp.put (a _ (by rw[St.bu];exact h)) (CZ b.2 _ _))
   exact h
theorem oC (a:bM part):bM (eo j part):=λc h=>uY a 1300 _ (a c h)
theorem Ed (h:eh t=true)(a b:Nat):fO ⟨t.s,t.a,0,[a,b],sE,0⟩=true:=by unfold eh at h;simp only[Bool.and_eq_true,Bool.or_eq_true,beq_iff_eq] at h;unfold fO;rcases h.2 with ((h1|h1)|h1)|h1 <;> (simp only[h1];rfl)
theorem Uz {sum:Fn}(a:bM sum):bM (ei sum):=by
 intro c h;unfold ei;simp only;split
 . rename_i b
   exact cp.put (a _ (by rw[St.bu];exact a c h)) (Ed b.2 _ _)
 exact a c h
theorem C7 {b a:Fn}(d:bM b)(f:bM a):bM (dG b a):=by
 intro c h;unfold dG;split
 . refine cp.put (by rw[St.dK];exact d _ (by rw[St.dA];exact h)) ?_;split
   . exact ju Ea (l:=1) rfl rfl
   exact ju D4 (l:=1) rfl rfl
 exact f c h
theorem El (h:eu c=true)(a b x:Nat)(s:Xb):fO ⟨c.t.s,a,b,[x],s,0⟩=true:=by unfold eu St.is at h;simp only[Bool.or_eq_true,Bool.and_eq_true,beq_iff_eq] at h;unfold fO;rcases h with h1|h1 <;> (simp only[h1.2];rfl)
theorem ug:∀(f:Nat) (x:St×Nat),cp x.1.L->cp (M0 f x).1.L
 | 0,_,h=>h
 | f+1,x,h=>by
   unfold M0;split
   . rename_i a
     refine ug f _ (cp.put (by rw[St.c8,St.bu];exact h) (El a.2 _ _ _ _))
   exact h
theorem Cf (a:bM i):bM (gR i):=λc h=>ug 1300 _ (a c h)
theorem uy (b:bM g):∀(f:Nat) (x:St×List Nat),cp x.1.L->1<=x.2.length->cp (cY g f x).1.L/\1<=(cY g f x).2.length
 | 0,_,h,a=>⟨h,a⟩
 | f+1,x,h,a=>by
   unfold cY;split
   . exact uy b f _ (b _ (by rw[St.bu];exact h)) (by simp)
   exact⟨h,a⟩
theorem uP (a:bM g)(t:Tk):bM (Fs g t):=by
 intro c h;unfold Fs;split
 . simp only;have:=uy a 1300 ((g c.enter).1,[(g c.enter).2]) (a _ (by rw[St.dA];exact h)) (by simp);refine cp.put (by rw[St.dK,St.bi];exact this.1) ?_;exact ju acW (by show decide (1<=_)=true;exact decide_eq_true this.2) rfl
 show cp (c.fail 2 c.t.a).L;rw[St.N4];exact h
theorem Cx (a:bM g):bM (fp g):=by intro c h;unfold fp;simp only;refine cp.put ?_ (ju Eb (l:=3) rfl rfl);rw[St.dK];exact a _ (by rw[St.bi];exact a _ (by rw[St.bi];exact a _ (by rw[St.dA];exact h)))
theorem vg:bM kc:=λc h=>cp.put (by rw[St.bu];exact h) (ju D9 (l:=0) rfl rfl)
theorem Mh (a:bM i):bM (bF i):=by
 intro c h;unfold bF;split
 . exact a c h
 exact vg c h
theorem CU (a:bM i):bM (fs i):=by intro c h;unfold fs;simp only;refine cp.put ?_ (ju Dm (l:=2) rfl rfl);rw[St.dK];exact Mh a _ (Mh a _ (by rw[St.c8,St.dA];exact h))
theorem Cp (a:bM g):bM (iM g):=by
 intro c h
 show cp (((g c.enter).1.ac 4 [41]).aI).L;rw[St.dK,St.bi];exact a _ (by rw[St.dA];exact h)
theorem qw (b:Xb)(n:Nat)(d:∀a:Nat,fO ⟨b,a,0,[],sE,n⟩=true):bM (fK b n):=λc h=>cp.put (by rw[St.bu];exact h) (d _)
theorem C0 {b:Fn}(a:bM g)(d:bM b):bM (aN g b):=by
 intro c h;unfold aN;split
 . exact h
 split
 . exact qw fJ _ (λ_=>ju (D3 _) (l:=0) rfl rfl) c h
 split
 . split
   . exact uP a _ _ (by rw[St.bu];exact h)
   exact vg c h
 split
 . exact Cp a c h
 split
 . exact qw MV 1 (λ_=>ju Ef (l:=0) rfl rfl) c h
 split
 . exact qw MV 0 (λ_=>ju Eg (l:=0) rfl rfl) c h
 split
 . exact Cx a c h
 split
 . exact CU d c h
 show cp (c.fail 2 c.t.a).L;rw[St.N4];exact h
theorem DI {a:Fn}(d:bM g)(b:bM a):bM (fe g a):=by
 intro c h;unfold fe;simp only;split
 . refine cp.put ?_ (ju D8 (l:=2) rfl rfl);rw[St.dK];exact d _ (by rw[St.dA];exact b c h)
 exact b c h
theorem Mm:∀d:Nat,bM (fx d).ex/\bM (fx d).un/\bM (fx d).at'
 | 0=>⟨λ_ h=>h,λ_ h=>h,λ_ h=>h⟩
 | d+1=>by obtain⟨a,k,l⟩:=Mm d;have b:bM (aN (fx d).ex (fx d).at'):=C0 a l;have f:bM (dG (fx d).un (gR (aN (fx d).ex (fx d).at'))):=C7 k (Cf b);exact⟨DI a (oC (oC (Uz (oC (oC f))))),f,b⟩
end
section
variable {i o:Bool} {g d:List Vr} {f:Nat} {c:St}
theorem aK.back {a b:St}(h:aK a b)(j:b.er=0):a.er=0:=by
 by_cases e:a.er=0
 . exact e
 have:=(h e).1;omega
theorem pT (c:St)(a:Nat):(c.fail 2 a).er≠0:=by
 unfold St.fail;split
 . show (2:Nat)≠0;omega
 rename_i h;exact h
theorem oB (h:(zx i o c d).1.er=0):d.length<16/\∃v:Vr,(zx i o c d).2=d++[v]/\v.bn=i/\v.out=o/\((i||o)=true->v.tm=false):=by
 unfold zx at h ⊢;by_cases b:16<=d.length
 . rw[ag b] at h;exact absurd h (pT c _)
 rw[ae b] at h ⊢;refine⟨by omega,?_⟩;simp only;split
 . rename_i a
   simp only[Bool.and_eq_true,Bool.not_eq_true'] at a;exact⟨_,rfl,rfl,rfl,λh=>by rw[a.1.2,a.2] at h;cases h⟩
 exact⟨_,rfl,rfl,rfl,λ_=>rfl⟩
def hA (i o:Bool)(d a:List Vr):Prop:=∃E:List Vr,a=d++E/\(∀v∈E,v.bn=i/\v.out=o/\((i||o)=true->v.tm=false))/\a.length<=16
theorem hA.one {v:Vr}(h:hA i o g d)(b:v.bn=i)(e:v.out=o/\((i||o)=true->v.tm=false))(j:d.length<16):hA i o g (d++[v]):=by
 obtain⟨E,rfl,a,_⟩:=h;refine⟨E++[v],by rw[bw],λx hx=>?_,by rw[aP,List.length_singleton];omega⟩;rcases bj.1 hx with hx|hx
 . exact a x hx
 rw[cu.1 hx];exact⟨b,e⟩
theorem ue:∀(f:Nat) (x:St×List Vr),(MG i f x).1.er=0->hA i (!i) g x.2->g.length<x.2.length->hA i (!i) g (MG i f x).2/\g.length<(MG i f x).2.length
 | 0,_,_,h,b=>⟨h,b⟩
 | f+1,x,a,h,b=>by
   unfold MG at a ⊢;split
   . rename_i k
     rw[ag k] at a;have j:=(sA i f _).back a;obtain⟨m,v,e,l,n⟩:=oB j;refine ue f _ a ?_ ?_
     . rw[e];exact h.one l n m
     rw[e,aP,List.length_singleton];omega
   exact⟨h,b⟩
theorem tS (h:(bW i c d).1.er=0):hA i (!i) d (bW i c d).2/\d.length<(bW i c d).2.length:=by
 unfold bW at h ⊢;simp only at h ⊢;have a:=(aK.ac _ 4 [41]).back h;have b:=(sA i 1300 _).back a;obtain⟨k,v,e,j,l⟩:=oB b;refine ue 1300 _ a ?_ ?_
 . rw[e];exact hA.one ⟨[],by simp,by simp,by omega⟩ j l k
 rw[e,aP,List.length_singleton];omega
theorem tT:∀(f:Nat) (x:St×List Vr),(en f x).1.er=0->hA false false g x.2->hA false false g (en f x).2
 | 0,_,_,h=>h
 | f+1,x,a,h=>by
   unfold en at a ⊢;split
   . rename_i l
     rw[ag l] at a;have j:(MN x.1 x.2).1.er=0:=by
      by_cases b:(MN x.1 x.2).1.er=0
      . exact b
      rw[sD b] at a;exact absurd a b
     have k:=(aK.ac _ 4 [59]).back j;obtain⟨n,v,e,m,p⟩:=oB k;refine tT f _ a ?_
     show hA false false g (zx false false x.1 x.2).2;rw[e];exact h.one m p n
   exact h
theorem Cz (p:d.length<=16)(h:(bD f c d).1.er=0):hA false false d (bD f c d).2:=by
 unfold bD at h ⊢;have j:hA false false d d:=⟨[],by simp,by simp,p⟩;split
 . rename_i m
   rw[ag m] at h;have k:(MN c.ad d).1.er=0:=by
    by_cases a:(MN c.ad d).1.er=0
    . exact a
    rw[sD a] at h;exact absurd h a
   have l:=(aK.ac _ 4 [59]).back k;obtain⟨b,v,e,n,q⟩:=oB l;refine tT f _ h ?_
   show hA false false d (zx false false c.ad d).2;rw[e];exact j.one n q b
 exact j
structure hS (d:List Vr):Prop where
 ah:1<=(d.filter (·.bn)).length
 aG:1<=(d.filter (·.out)).length
 io:(d.filter (·.bn)).length+(d.filter (·.out)).length<=d.length
 bO:d.length<=16
 arr:∃A B C:List Vr,d=A++B++C/\(∀v∈A,v.bn=true/\v.out=false/\v.tm=false)/\(∀v∈B,v.bn=false/\v.out=true/\v.tm=false)/\∀v∈C,v.bn=false/\v.out=false
theorem n9 {α:Type}{p:α->Bool}{E:List α}(h:∀v∈E,p v=true):E.filter p=E:=List.filter_eq_self.2 h
theorem jt {α:Type}{p:α->Bool}{E:List α}(h:∀v∈E,p v=false):E.filter p=[]:=List.filter_eq_nil_iff.2 (λv a=>by rw[h v a];simp)
theorem DD (h:(bD f (aT c).1 (aT c).2).1.er=0):hS (bD f (aT c).1 (aT c).2).2:=by
 have H:=(uw f (aT c).1 (aT c).2).back h;have p:(bW false ((bW true (c.ac 5 zW).name []).1.ac 4 [45,62]) (bW true (c.ac 5 zW).name []).2).1.er=0:=H;obtain⟨⟨k,D,r,J⟩,u⟩:=tS p;have I:=(aK.ac _ 4 [45,62]).back ((sC false _ _).back p);obtain⟨⟨b,m,q,M⟩,F⟩:=tS I;have w:(aT c).2=(bW false ((bW true (c.ac 5 zW).name []).1.ac 4 [45,62]) (bW true (c.ac 5 zW).name []).2).2:=rfl;have L:(aT c).2.length<=16:=by rw[w];exact J
 obtain⟨l,j,t,K⟩:=Cz L h;rw[List.nil_append] at m;have n:(aT c).2=b++k:=by rw[w,D,m]
 have s:b.length<(aT c).2.length:=by rw[w];rw[m] at u;rw[m];exact u
 rw[m] at F;have G:(bD f (aT c).1 (aT c).2).2=b++k++l:=j.trans (congrArg (·++l) n);rw[n,aP] at s;clear j D u;have j:=G;have u:=s;have f1:∀E:List Vr,E=b->E.filter (·.bn)=b/\E.filter (·.out)=[]:=λE e=>by subst e;exact⟨n9 (λv a=>(q v a).1),jt (λv a=>(q v a).2.1)⟩
 obtain⟨x,A⟩:=f1 b rfl;have y:k.filter (·.bn)=[]:=jt (λv a=>(r v a).1);have B:k.filter (·.out)=k:=n9 (λv a=>(r v a).2.1);have z:l.filter (·.bn)=[]:=jt (λv a=>(t v a).1);have C:l.filter (·.out)=[]:=jt (λv a=>(t v a).2.1);refine⟨?_,?_,?_,K,b,k,l,j,λv a=>⟨(q v a).1,(q v a).2.1,(q v a).2.2 rfl⟩,λv a=>⟨(r v a).1,(r v a).2.1,(r v a).2.2 rfl⟩,λv a=>⟨(t v a).1,(t v a).2.1⟩⟩
 . rw[j,List.filter_append,List.filter_append,x,y,z];simp only[List.append_nil];simp at F;omega
 . rw[j,List.filter_append,List.filter_append,A,B,C];simp only[List.append_nil,List.nil_append];omega
 rw[j,List.filter_append,List.filter_append,List.filter_append,List.filter_append,x,y,z,A,B,C];simp only[List.append_nil,List.nil_append,aP];omega
def jz (L:List Ex)(q:ax):Prop:=q.ns.length=q.ps.length/\1<=q.ns.length/\(2<=q.ns.length->∃a:Ex,L[q.ex]?=some a/\aF a.op.toList a.n=4)
theorem jz.more {L:List Ex}{q:ax}(h:jz L q)(E:List Ex):jz (L++E) q:=by refine⟨h.1,h.2.1,λj=>?_⟩;obtain⟨e,a,b⟩:=h.2.2 j;exact⟨e,by rw[e9 (aB.1 a).1];exact a,b⟩
theorem uC:∀(f:Nat) (x:dI),x.ns.length=x.ps.length->2<=x.ns.length->(cX f x).ns.length=(cX f x).ps.length/\2<=(cX f x).ns.length
 | 0,_,h,a=>⟨h,a⟩
 | f+1,x,h,a=>by
   unfold cX;split
   . exact uC f x.more (by simp[dI.more,h]) (by simp[dI.more];omega)
   exact⟨h,a⟩
theorem CP (c:St):(aZ c).ns.length=(aZ c).ps.length/\1<=(aZ c).ns.length/\(2<=(aZ c).ns.length->c.is 4 [40]=true):=by
 unfold aZ;split
 . rename_i h
   have:=uC 1300 ⟨(c.ad.name.ac 4 [44]).name,[c.ad.t.s,(c.ad.name.ac 4 [44]).t.s],[c.ad.t.a,(c.ad.name.ac 4 [44]).t.a]⟩ rfl (by simp);exact⟨this.1,by have:=this.2;show 1<=(cX 1300 _).ns.length;omega,λ_=>h⟩
 exact⟨rfl,by simp,λh=>by simp at h⟩
theorem Er (c:St):(aZ c).st.L=c.L:=by
 have a:∀(f:Nat) (x:dI),(cX f x).st.L=x.st.L:=by
  intro f;induction f with
  | zero=>intro x;rfl
  | succ f b =>
    intro x;unfold cX;split
    . rw[b];show (x.st.ad.name).L=_;rw[St.c8,St.bu]
    rfl
 unfold aZ;split
 . unfold iG;simp only;rw[St.bi,a]
   show ((c.ad.name.ac 4 [44]).name).L=_;rw[St.c8,St.bi,St.c8,St.bu]
 show c.name.L=_;rw[St.c8]
def gy (M:Fn):Prop:=∀c,∃E,(M c).1.L=c.L++E
theorem tZ {a b:Fn}(p:bM a)(r:bM b)(m:gy a)(z:gy b){eqs:List ax}(h:cp c.L)(A:∀q∈eqs,jz c.L q)(P:(zF a b c eqs).1.er=0) :
 cp (zF a b c eqs).1.L/\(∀q∈(zF a b c eqs).2,jz (zF a b c eqs).1.L q):=by
 have N:(zF a b c eqs).1.L=(cx a b (c.is 4 [40]) ((aZ c).st.ac 4 [61])).1.L:=St.bi _ _ _;have l:(cx a b (c.is 4 [40]) ((aZ c).st.ac 4 [61])).1.er=0:=(aK.ac _ 4 [59]).back P;have k:((aZ c).st.ac 4 [61]).L=c.L:=by rw[St.bi,Er]
 rw[N];obtain⟨F,G,R⟩:=CP c;cases v:c.is 4 [40] with
 | false =>
   have n:cx a b false ((aZ c).st.ac 4 [61])=b ((aZ c).st.ac 4 [61]):=rfl;rw[n];refine⟨r _ (by rw[k];exact h),λq hq=>?_⟩;obtain⟨E,e⟩:=z ((aZ c).st.ac 4 [61]);rw[e,k];rcases bj.1 hq with hq|hq
   . exact (A q hq).more E
   rw[cu.1 hq];exact⟨F,G,λM=>by have:=R M;rw[v] at this;cases this⟩
 | true =>
   rw[v] at l;have n:∀s:St,cx a b true s=Fs a s.t s.name:=λ_=>rfl;rw[n] at l ⊢;obtain⟨s,C⟩:∃s,(aZ c).st.ac 4 [61]=s:=⟨_,rfl⟩;have w:(zF a b c eqs).2=eqs++[⟨(aZ c).ns,(aZ c).ps,(aZ c).st.t.a,(Fs a s.t s.name).2⟩]:=(by show eqs++[⟨_,_,_,(cx a b (c.is 4 [40]) ((aZ c).st.ac 4 [61])).2⟩]=_;rw[v,n,C]);rw[C] at l k ⊢;refine⟨uP p s.t s.name (by rw[St.c8,k];exact h),?_⟩;rw[w];have O:∃E j,(Fs a s.t s.name).1.L=c.L++E/\(Fs a s.t s.name).1.L[(Fs a s.t s.name).2]?=some j/\aF j.op.toList j.n=4:=by
    by_cases B:s.name.is 4 [40]=true
    . have t:Fs a s.t s.name=(((cL a s.name.enter).1.ac 4 [41]).aI).put ⟨fL,s.t.a,s.t.a,(cL a s.name.enter).2,s.t.s,0⟩:=(by unfold Fs;rw[ag B]);have L:∃E,(cL a s.name.enter).1.L=c.L++E:=by
       have y:∀(f:Nat) (x:St×List Nat),(∃E,x.1.L=c.L++E)->∃E,(cY a f x).1.L=c.L++E:=by
        intro f;induction f with
        | zero=>intro x h;exact h
        | succ f Q =>
          intro x D;unfold cY;split
          . refine Q _ ?_;obtain⟨E,e⟩:=D;obtain⟨H,u⟩:=m x.1.ad;exact⟨E++H,by show (a x.1.ad).1.L=_;rw[u,St.bu,e,bw]⟩
          exact D
       refine y 1300 _ ?_;obtain⟨E,e⟩:=m s.name.enter;exact⟨E,by show (a s.name.enter).1.L=_;rw[e,St.dA,St.c8,k]⟩
      obtain⟨E,e⟩:=L;have eL:(((cL a s.name.enter).1.ac 4 [41]).aI).L=c.L++E:=(by rw[St.dK,St.bi,e]);rw[t];refine⟨E++[⟨fL,s.t.a,s.t.a,(cL a s.name.enter).2,s.t.s,0⟩],⟨fL,s.t.a,s.t.a,(cL a s.name.enter).2,s.t.s,0⟩,?_,?_,acW⟩
      . show (((cL a s.name.enter).1.ac 4 [41]).aI).L++[_]=_;rw[eL,bw]
      show ((((cL a s.name.enter).1.ac 4 [41]).aI).L++[_])[(((cL a s.name.enter).1.ac 4 [41]).aI).L.length]?=_;rw[e8 (an _),Nat.sub_self];rfl
    exfalso;have t:Fs a s.t s.name=(s.name.fail 2 s.name.t.a,0):=(by unfold Fs;rw[ae B]);rw[t] at l;exact pT _ _ l
   obtain⟨E,j,I,J,K⟩:=O;intro q hq;rcases bj.1 hq with hq|hq
   . rw[I];exact (A q hq).more E
   rw[cu.1 hq];exact⟨F,G,λ_=>⟨j,J,K⟩⟩
end
section
variable {i part a b c:Fn} {j:Nat}
def cq (M:Fn):Prop:=∀(d:List Ex) (e:St),d <+: e.L->d <+: (M e).1.L
theorem js {f:List Ex}{d:St}{e:Ex}(h:f <+: d.L):f <+: (d.put e).1.L:=h.trans (List.prefix_append d.L [e])
theorem uX (e:cq part)(d:List Ex):∀(f:Nat) (x:St×Nat),d <+: x.1.L->d <+: (dx j part f x).1.L
 | 0,_,h=>h
 | f+1,x,h=>by
   unfold dx;split
   . exact uX e d f _ (js (e _ _ (by rw[St.bu];exact h)))
   exact h
theorem oF (e:cq part):cq (eo j part):=λd f h=>uX e d 1300 _ (e d f h)
theorem DJ {sum:Fn}(d:cq sum):cq (ei sum):=by
 intro f e h;unfold ei;simp only;split
 . exact js (d _ _ (by rw[St.bu];exact d _ e h))
 exact d _ e h
theorem Dd {e d:Fn}(f:cq e)(g:cq d):cq (dG e d):=by
 intro l k h;unfold dG;split
 . exact js (by rw[St.dK];exact f _ _ (by rw[St.dA];exact h))
 exact g _ k h
theorem uh (d:List Ex):∀(f:Nat) (x:St×Nat),d <+: x.1.L->d <+: (M0 f x).1.L
 | 0,_,h=>h
 | f+1,x,h=>by
   unfold M0;split
   . exact uh d f _ (js (by rw[St.c8,St.bu];exact h))
   exact h
theorem Cc (e:cq i):cq (gR i):=λd f h=>uh d 1300 _ (e d f h)
theorem ur (e:cq c)(d:List Ex):∀(f:Nat) (x:St×List Nat),d <+: x.1.L->d <+: (cY c f x).1.L
 | 0,_,h=>h
 | f+1,x,h=>by
   unfold cY;split
   . exact ur e d f _ (e _ _ (by rw[St.bu];exact h))
   exact h
theorem DF (e:cq c)(t:Tk):cq (Fs c t):=by
 intro d f h;unfold Fs;split
 . simp only;exact js (by rw[St.dK,St.bi];exact ur e d 1300 _ (e _ _ (by rw[St.dA];exact h)))
 show d <+: (f.fail 2 f.t.a).L;rw[St.N4];exact h
theorem CJ (d:cq c):cq (fp c):=by intro e f h;unfold fp;simp only;refine js ?_;rw[St.dK];exact d _ _ (by rw[St.bi];exact d _ _ (by rw[St.bi];exact d _ _ (by rw[St.dA];exact h)))
theorem vf:cq kc:=λ_ d h=>js (by rw[St.bu];exact h)
theorem uS (e:cq i):cq (bF i):=by
 intro f d h;unfold bF;split
 . exact e _ d h
 exact vf _ d h
theorem Dg (d:cq i):cq (fs i):=by intro e f h;unfold fs;simp only;refine js ?_;rw[St.dK];exact uS d _ _ (uS d _ _ (by rw[St.c8,St.dA];exact h))
theorem Cr (e:cq c):cq (iM c):=by
 intro d f h
 show d <+: (((c f.enter).1.ac 4 [41]).aI).L;rw[St.dK,St.bi];exact e _ _ (by rw[St.dA];exact h)
theorem qu (d:Xb)(n:Nat):cq (fK d n):=λ_ e h=>js (by rw[St.bu];exact h)
theorem C3 {f:Fn}(e:cq c)(k:cq f):cq (aN c f):=by
 intro g d h;unfold aN;split
 . exact h
 split
 . exact qu fJ _ _ d h
 split
 . split
   . exact DF e _ _ _ (by rw[St.bu];exact h)
   exact vf _ d h
 split
 . exact Cr e _ d h
 split
 . exact qu MV 1 _ d h
 split
 . exact qu MV 0 _ d h
 split
 . exact CJ e _ d h
 split
 . exact Dg k _ d h
 show g <+: (d.fail 2 d.t.a).L;rw[St.N4];exact h
theorem CW {d:Fn}(g:cq c)(e:cq d):cq (fe c d):=by
 intro k f h;unfold fe;simp only;split
 . refine js ?_;rw[St.dK];exact g _ _ (by rw[St.dA];exact e _ f h)
 exact e _ f h
theorem vd:∀d:Nat,cq (fx d).ex/\cq (fx d).un/\cq (fx d).at'
 | 0=>⟨λ_ _ h=>h,λ_ _ h=>h,λ_ _ h=>h⟩
 | d+1=>by obtain⟨e,k,l⟩:=vd d;have f:cq (aN (fx d).ex (fx d).at'):=C3 e l;have g:cq (dG (fx d).un (gR (aN (fx d).ex (fx d).at'))):=Dd k (Cc f);exact⟨CW e (oF (oF (DJ (oF (oF g))))),g,f⟩
theorem cq.ext {M:Fn}(h:cq M):gy M:=λd=>by obtain⟨E,e⟩:=h d.L d (List.prefix_refl _);exact⟨E,e.symm⟩
structure k9 (nd:Nd):Prop where
 ak:hS nd.ak
 ar:cp nd.az
 eqs:∀q∈nd.eqs,jz nd.az q
theorem vb (d:bM a)(g:bM b)(n:gy a)(o:gy b)(k:zv 17 a)(l:zv 18 b):∀(f p:Nat) (x:St×List ax),Inv p x.1->x.1.op=0->cp x.1.L->(∀q∈x.2,jz x.1.L q)->(bS a b f x).1.er=0->cp (bS a b f x).1.L/\∀q∈(bS a b f x).2,jz (bS a b f x).1.L q
 | 0,_,_,_,_,h,r,_=>⟨h,r⟩
 | f+1,p,x,A,v,h,r,s=>by
   by_cases u:x.1.t.k=2∨x.1.is 4 [40]=true
   . have e:bS a b (f+1) x=bS a b f (zF a b x.1 x.2):=(by rw[bS,ag u]);rw[e] at s ⊢;obtain⟨w,y⟩:=gD k l (eqs:=x.2) A v;have m:=w.af;have z:(zF a b x.1 x.2).1.er=0:=by
      by_cases t:(zF a b x.1 x.2).1.er=0
      . exact t
      rw[sb m t] at s;exact absurd s t
     obtain⟨B,C⟩:=tZ d g n o h r z;exact vb d g n o k l f _ _ m (by rw[y];exact v) B C s
   have e:bS a b (f+1) x=x:=(by rw[bS,ae u]);rw[e];exact⟨h,r⟩
theorem uZ (h:bM a)(k:bM b)(m:gy a)(n:gy b)(l:zv 17 a)(g:zv 18 b)(f p:Nat)(d:St)(F:Inv p d)(H:d.op=0)(C:(a7 a b f d).1.er=0):k9 (a7 a b f d).2:=by
 have I:=ai.aw F;have s:=mz I;have t:=kM (f:=f) (ak:=(aT d.aw).2) s.1.af;have r:=ai.ac t.1.af 4 [123];have o:((bD f (aT d.aw).1 (aT d.aw).2).1.ac 4 [123]).op=0:=by rw[St.a8,t.2.1,s.2.1];exact H
 have z:((bD f (aT d.aw).1 (aT d.aw).2).1.ac 4 [123]).L=[]:=by rw[St.bi,t.2.2,s.2.2];rfl
 obtain⟨V,w⟩:∃V,bD f (aT d.aw).1 (aT d.aw).2=V:=⟨_,rfl⟩;have y:V.1.er=0->hS V.2:=by rw[<- w];exact DD
 rw[w] at r o z;have e:a7 a b f d=((dy a b f V.1).1,⟨(d.aw.ac 5 zW).t.s,(d.aw.ac 5 zW).t.a,V.2,(dy a b f V.1).1.L,(dy a b f V.1).2⟩):=by unfold a7;simp only;rw[w]
 rw[e] at C ⊢;have u:(bS a b f (zF a b (V.1.ac 4 [123]) [])).1.er=0:=(aK.ac _ 4 [125]).back C;obtain⟨A,D⟩:=gD l g (eqs:=[]) r.af o;have B:(zF a b (V.1.ac 4 [123]) []).1.er=0:=by
  by_cases v:(zF a b (V.1.ac 4 [123]) []).1.er=0
  . exact v
  rw[sb A.af v] at u;exact absurd u v
 have E:V.1.er=0:=(aK.ac _ 4 [123]).back ((aK.sL g r.af o []).back B);obtain⟨J,K⟩:=tZ h k m n (eqs:=[]) (by rw[z];intro e G;cases G) (λq x=>by cases x) B;obtain⟨L,M⟩:=vb h k m n l g f _ _ A.af (by rw[D];exact o) J K u;have eL:(dy a b f V.1).1.L=(bS a b f (zF a b (V.1.ac 4 [123]) [])).1.L:=St.bi _ _ _;refine⟨y E,?_,?_⟩
 . show cp (dy a b f V.1).1.L;rw[eL];exact L
 intro q x
 show jz (dy a b f V.1).1.L q;rw[eL];exact M q x
theorem pV (e:zv 17 a)(g:zv 18 b)(f p:Nat)(d:St)(s:Inv p d)(t:d.op=0):Inv 0 (a7 a b f d).1/\(a7 a b f d).1.op=0:=by
 have u:=ai.aw s;have k:=mz u;have l:=kM (f:=f) (ak:=(aT d.aw).2) k.1.af;have n:=ai.ac l.1.af 4 [123];have m:((bD f (aT d.aw).1 (aT d.aw).2).1.ac 4 [123]).op=0:=by rw[St.a8,l.2.1,k.2.1];exact t
 obtain⟨o,r⟩:=gD e g (eqs:=[]) n.af m;have h:=nO e g f _ (zF a b ((bD f (aT d.aw).1 (aT d.aw).2).1.ac 4 [123]) []) o.af (by rw[r];exact m);have q:=ai.ac h.1.af 4 [125];exact⟨q.af,by show (St.ac _ 4 [125]).op=0;rw[St.a8];exact h.2⟩
theorem us (l:bM a)(m:bM b)(o:gy a)(q:gy b)(d:zv 17 a)(k:zv 18 b)(g:Nat):∀(f p:Nat) (x:St×List Nd),Inv p x.1->x.1.op=0->(∀n∈x.2,k9 n)->(Mq a b g f x).1.er=0->(∀n∈(Mq a b g f x).2,k9 n)
 | 0,_,_,_,_,h,_=>h
 | f+1,p,x,t,v,h,r=>by
   by_cases u:x.1.is 5 zW=true/\x.2.length<6
   . have e:Mq a b g (f+1) x=Mq a b g f ((a7 a b g x.1).1,x.2++[(a7 a b g x.1).2]):=(by rw[Mq,ag u]);rw[e] at r ⊢;obtain⟨w,z⟩:=pV d k g p x.1 t v;have y:(a7 a b g x.1).1.er=0:=by
      by_cases s:(a7 a b g x.1).1.er=0
      . exact s
      rw[mI w s] at r;exact absurd r s
     refine us l m o q d k g f 0 _ w z (λn hnd=>?_) r;rcases bj.1 hnd with hnd|hnd
     . exact h n hnd
     rw[cu.1 hnd];exact uZ l m o q d k g p x.1 t v y
   have e:Mq a b g (f+1) x=x:=(by rw[Mq,ae u]);rw[e];exact h
theorem uU (f:bM a)(h:bM b)(k:gy a)(l:gy b)(d:zv 17 a)(e:zv 18 b)(g:Nat)(s:Xb)(p:Inv 0 (⟨s,zZ s 0,0,0,0,[]⟩:St))(u:(dm a b g s).1.er=0):∀r∈(dm a b g s).2,k9 r:=by
 have m:(Mq a b g g ((a7 a b g ⟨s,zZ s 0,0,0,0,[]⟩).1,[(a7 a b g ⟨s,zZ s 0,0,0,0,[]⟩).2])).1.er=0:=(pU _).back u;obtain⟨q,v⟩:=pV d e g 0 ⟨s,zZ s 0,0,0,0,[]⟩ p rfl;have t:(a7 a b g ⟨s,zZ s 0,0,0,0,[]⟩).1.er=0:=by
  by_cases n:(a7 a b g ⟨s,zZ s 0,0,0,0,[]⟩).1.er=0
  . exact n
  rw[mI q n] at m;exact absurd m n
 refine us f h k l d e g g 0 _ q v (λr o=>?_) m;rw[cu.1 o];exact uZ f h k l d e g 0 _ p rfl t
end
section
open Go.RowKit
variable {m p f y:List Int} {x:Xm} {B b c t r g a n:Nat} {e:Xy} {d q:Xv} {w:Xw}
theorem Tryz.Pz:(prog.info? 2).map (λi=>(i.zero,i.size,i.bytes))=some (some (xI 0),1,8):=by kernel_rfl
def zK (l:List Int):List Value:=l.map (.int .i64)
theorem N8 (l:List Int):(zK l).length=l.length:=by simp[zK]
structure MB (w:Xw) (a r b c B:Nat) (d:Xv) (m p f:List Int):Prop where
 aC:xH w a #[xP r,xS b m.length m.length,xS c p.length p.length,d] 196
 ce:w.heap[b]?=some (.cells (zK m).toArray 2 (0,0))
 sl:w.heap[c]?=some (.cells (zK p).toArray 2 (0,0))
 own:w.ownsRow B 2 1 d f.length (zK f.reverse)
 Nt:a≠b
 NU:a≠c
 NV:b≠c
 sm:¬d.ownBlock=some a
 s1:¬d.ownBlock=some b
 s2:¬d.ownBlock=some c
 hB:B<=w.heap.size
structure fV (a b c:Nat) (w:Xw) (d:Xv) (w':Xw) (q:Xv):Prop where
 fr:Fr (λj=>j=a∨j=b∨j=c∨d.ownBlock=some j) w w'
 new:∀j,q.ownBlock=some j->d.ownBlock=some j∨w.heap.size<=j
theorem fV.refl (a b c:Nat)(w:Xw)(d:Xv):fV a b c w d w d:=⟨Fr.refl _ w,λ_ h=>ao h⟩
theorem fV.trans {s u:Xw}{l o:Xv}(h:fV a b c w d s l)(k:fV a b c s l u o):fV a b c w d u o:=by
 have A:=h.fr.size;refine⟨h.fr.dr k.fr (λi z hs=>?_),λj v=>?_⟩
 . rcases hs with hs|hs|hs|hs
   . exact ao hs
   . exact ap (ao hs)
   . exact ap (ap (ao hs))
   rcases h.new i hs with h'|h'
   . exact ap (ap (ap h'))
   omega
 rcases k.new j v with h'|h'
 . exact h.new j h'
 right;omega
theorem r5 (h:w.ownsRow B e 1 (xS g n t) n x){j:Nat}{u:Xv}(k:x[j]?=some u):xC w g j u:=by
 have:=h.cells (g:=g) rfl j u k;have i:((xD g 0):Addr).add j=⟨g,j,none⟩:=by cases j <;> simp[Addr.add]
 rwa [i] at this
theorem WQ {v:Xv}(h:w.ownsRow B e 1 (xS g (n+1) t) (n+1) (x++[v])):w.ownsRow B e 1 (xS g n t) n x:=by
 obtain⟨l,j⟩:=h;have D:x.length=n:=by simpa using l
 refine⟨by simpa using D,?_⟩;rcases j with ⟨j,_⟩|⟨E,k,i,C,z,A,F,o,s,u⟩
 . cases j
 cases C;refine ap ⟨g,t,i,rfl,z,A,by omega,o,s,?_⟩;have:=congrArg (List.take n) u;rw[List.take_take,List.take_append_of_le_length (by omega),de (by omega:x.length<=n)] at this;simpa [Nat.min_eq_left (by omega:n<=(n+1)*1)] using this
theorem Xe (h:w.ownsRow B e 1 (xS g n t) n x):n<=t/\t<=9223372036854775807:=by
 rcases h.2 with ⟨k,_⟩|⟨u,i,j,s,A,C,l,o,v,z⟩
 . cases k
 cases s;unfold maxLen at o;exact⟨l,by omega⟩
theorem MB.stack (h:MB w a r b c B d m p f)(o:w.ownsRow B 2 1 q y.length (zK y.reverse))(i:∀j,q.ownBlock=some j->d.ownBlock=some j∨(j≠a/\j≠b/\j≠c)):MB (w.setCell (xD a 3) q) a r b c B q m p y:=by
 have k:¬q.ownBlock=some a:=λe=>by rcases i _ e with e|e;exact h.sm e;exact e.1 rfl
 refine⟨zh _ _ _ _ h.aC,(zr (λe=>h.Nt e.symm) rfl).trans h.ce,(zr (λe=>h.NU e.symm) rfl).trans h.sl,zi o (λj _ _ e=>zr (λl=>k (l▸e)) rfl),h.Nt,h.NU,h.NV,k,λe=>?_,λe=>?_,by simpa [World.setCell] using h.hB⟩
 . rcases i _ e with e|e
   . exact h.s1 e
   exact e.2.1 rfl
 rcases i _ e with e|e
 . exact h.s2 e
 exact e.2.2 rfl
theorem NG (a r b c B:Nat)(d:Xv)(m p f:List Int)(v:Int)(w:Xw)(i:MB w a r b c B d m p (v::f))(F:f.length+1<=9223372036854775807) :
 xK 150 #[xP a] w (λe l=>e=.returned (xI v)/\∃q,MB l a r b c B q m p f/\fV a b c w d l q):=by
 obtain⟨u,z,A,o,D,G⟩:=zU i.aC;have h:=i.own;obtain⟨g,t,s,E⟩:=zM h (by simp);subst s;simp only[bJ,List.reverse_cons,zK,List.map_append,List.map_cons,List.map_nil] at h;have C:xC w g f.length (xI v):=r5 h (by simp);rw[bJ] at o;have k:=(Xe h).1;go_enter func150,ntmps150;go_wp2_with fail;go_ret;refine⟨rfl,_,i.stack (WQ h) (λj e=>ao e),?_,λj e=>ao e⟩;exact (Fr.refl _ w).setCell (ao (ao rfl)) _
theorem MB.fr {l:Xw}(h:MB w a r b c B d m p f)(i:∀k,k<w.heap.size->l.heap[k]?=w.heap[k]?)(o:w.heap.size<=l.heap.size):MB l a r b c B d m p f :=
 ⟨(i _ (ze h.aC)).trans h.aC,(i _ (ze h.ce)).trans h.ce,(i _ (ze h.sl)).trans h.sl,zi h.own (λk _ j _=>i k j),h.Nt,h.NU,h.NV,h.sm,h.s1,h.s2,aJ h.hB o⟩
theorem MB.alloc (h:MB w a r b c B d m p f)(o:Obj):MB (w.alloc o) a r b c B d m p f :=
 h.fr (λk i=>mm _ _ _ i) (by simp)
theorem Pk {l:List Int}:∀u∈zK l,u.oneCell'=true:=by intro u h;obtain⟨s,_,rfl⟩:=List.mem_map.1 h;rfl
theorem MB.grown {l:Xw}(h:MB w a r b c B d m p f)(hF:Fr (λk=>d.ownBlock=some k) w l)(u:l.ownsRow B 2 1 q y.length (zK y.reverse))(i:∀j,q.ownBlock=some j->d.ownBlock=some j∨w.heap.size<=j):MB (l.setCell (xD a 3) q) a r b c B q m p y:=by
 have v:=ze h.aC;have z:=ze h.ce;have A:=ze h.sl;have o:¬q.ownBlock=some a:=λe=>by rcases i _ e with e|e;exact h.sm e;omega
 refine⟨zh _ _ _ _ ((hF.block a v h.sm).trans h.aC),(zr (λe=>h.Nt e.symm) rfl).trans ((hF.block b z h.s1).trans h.ce),(zr (λe=>h.NU e.symm) rfl).trans ((hF.block c A h.s2).trans h.sl),zi u (λj _ _ e=>zr (λs=>o (s▸e)) rfl),h.Nt,h.NU,h.NV,o,λe=>?_,λe=>?_,by simpa [World.setCell] using aJ h.hB hF.size⟩
 . rcases i _ e with e|e
   . exact h.s1 e
   omega
 rcases i _ e with e|e
 . exact h.s2 e
 omega
theorem O7 (a r b c B:Nat)(d:Xv)(m p f:List Int)(v:Int)(w:Xw)(o:MB w a r b c B d m p f)(P:f.length+1<=10000000) :
 xK 149 #[xP a,xI v] w (λe E=>e=.returned (.tuple #[])/\∃q,MB E a r b c B q m p (v::f)/\fV a b c w d E q):=by
 obtain⟨K,L,M,N,O,Q⟩:=zU o.aC;obtain⟨I,H,A,C,D⟩:=info_parts Tryz.Pz;have J:f.length+1<=maxLen:=by unfold maxLen;omega
 have z:(f.length+1)*8<=140737488355328:=by omega
 have F:=o.hB;go_enter func149,ntmps149;go_wp2_with (at_builtin;refine o4 _ rfl (.tmp 8) (.tmp 10) 36 rfl B 2 I _ 1 8 underlying36 H A C D rfl (by decide) d f.length (zK f.reverse) rfl (o.alloc _).own (xD w.heap.size 0) 1 1 (zK [v]) rfl rfl (zN (zc w _) rfl) Pk J z (by rw[au];exact Nat.le_succ_of_le F) ?_;intro X Y k l h;have s:=Fr.gi l;have u:=(s.block a (by rw[au];omega) (o.sm)).trans (o.alloc _).aC;obtain⟨R,S,T,U,V,W⟩:=zU u;obtain⟨Z,G,rfl⟩:=kE k;clear l u);go_end0;refine⟨rfl,_,(o.alloc _).grown s (by simpa [zK] using k) (λj e=>h j e),?_,λj e=>?_⟩
 . refine Fr.setCell ?_ (ao (ao rfl)) _;exact ((Fr.refl _ w).alloc _).dr s (λi _ o=>ap (ap (ap o)))
 rcases h j e with e|e
 . exact ao e
 right;rw[au] at e;omega
end
section
open Go.RowKit
def pk (a b c:Int):Int:=if a=0 then c else b
theorem PK (a b c:Int)(w:Xw):xK 151 #[xI a,xI b,xI c] w (λe f=>e=.returned (xI (pk a b c))/\w=f):=by
 by_cases h:a=0
 . subst h;go_enter func151,ntmps151;go_wp2_with fail;go_ret;exact⟨rfl,rfl⟩
 have g:(a==0)=false:=by simpa using h
 have d:(a != 0)=true:=by simpa using h
 rw[show pk a b c=b from ae h];clear h;go_enter func151,ntmps151;go_wp2_with fail;go_ret;exact⟨rfl,rfl⟩
def Ph (b:Bool):Int:=if b then 1 else 0
def MZ (c:Nat)(a b:Int):Int :=
 if c=9 then bits .and .i64 a b else if c=10 then bits .or .i64 a b else if c=11 then bits .xor .i64 a b
 else if c=12 then Ph (a==b) else if c=13 then Ph (a != b) else if c=14 then Ph (decide (a<b)) else if c=15 then Ph (decide (a<=b))
 else if c=16 then wrap64 (a+b) else if c=17 then wrap64 (a-b) else if c=18 then wrap64 (a*b)
 else if b=0 then 0 else if c=19 then wrap64 (a.tdiv b) else a.tmod b
theorem WW (a b:Int)(w:Xw):xK 153 #[.int .u8 16,xI a,xI b] w (λe c=>e=.returned (xI (MZ 16 a b))/\w=c):=by go_enter func153,ntmps153;go_wp2_with fail;go_ret;exact⟨rfl,rfl⟩
end
section
open Go.RowKit
variable {m g i:List Int} {B b c d n a:Nat} {o:Obj} {e:Xy} {f p:Xv} {w q:Xw}
theorem OG {l:List Int}(h:w.heap[b]?=some (.cells (zK l).toArray e (0,0))){k:Nat}{v:Int}(j:l[k]?=some v):w.cell? (xD b k)=some (xI v):=by simp[World.cell?,h,zK,j]
theorem lh {l:Xa}(h:w.heap[b]?=some (.cells l e (0,0)))(k:Nat):w.frozen? (xD b k)=false:=by simp[World.frozen?,h]
def Ot (a n c d B:Nat)(w:Xw)(f:Xv)(m g i:List Int)(e:Ending)(q:Xw):Prop :=
 e=.returned (.tuple #[])/\∃p,MB q a n c d B p m g i/\fV a c d w f q p
theorem fV.Oi (h:fV a c d (w.alloc o) f q p):fV a c d w f q p :=
 fV.trans (⟨(Fr.refl _ w).alloc o,λ_ h=>ao h⟩:fV a c d w f (w.alloc o) f) h
theorem fV.cQ (h:fV a c d w.drew f q p):fV a c d w f q p:=⟨h.fr.cQ,h.new⟩
theorem MB.drew (h:MB w a n c d B f m g i):MB w.drew a n c d B f m g i:=h.fr (λ_ _=>rfl) (an _)
theorem SW (l:List Int)(k:Nat)(v:Int):(zK l).toArray.setIfInBounds k (xI v)=(zK (l.set k v)).toArray:=by simp[zK]
theorem MB.slot (h:MB w a n c d B f m g i)(k:Nat)(v:Int):MB (w.setCell (xD d k) (xI v)) a n c d B f m (g.set k v) i:=by
 refine⟨?_,(zr h.NV rfl).trans h.ce,?_,zi h.own (λj _ _ e=>zr (λl=>h.s2 (l▸e)) rfl),h.Nt,h.NU,h.NV,h.sm,h.s1,h.s2,by simpa [World.setCell] using h.hB⟩
 . rw[List.length_set];exact (zr h.NU rfl).trans h.aC
 rw[<- SW];exact zh _ _ _ _ h.sl
theorem MB.cell (h:MB w a n c d B f m g i)(k:Nat)(v:Int):MB (w.setCell (xD c k) (xI v)) a n c d B f (m.set k v) g i:=by
 refine⟨?_,?_,(zr (λe=>h.NV e.symm) rfl).trans h.sl,zi h.own (λj _ _ e=>zr (λl=>h.s1 (l▸e)) rfl),h.Nt,h.NU,h.NV,h.sm,h.s1,h.s2,by simpa [World.setCell] using h.hB⟩
 . rw[List.length_set];exact (zr h.Nt rfl).trans h.aC
 rw[<- SW];exact zh _ _ _ _ h.ce
theorem fV.slot (h:fV a c d w f q p)(k:Nat)(v:Xv):fV a c d w f (q.setCell (xD d k) v) p:=⟨h.fr.setCell (ao (ap (ap (ao rfl)))) v,h.new⟩
theorem fV.cell (h:fV a c d w f q p)(k:Nat)(v:Xv):fV a c d w f (q.setCell (xD c k) v) p:=⟨h.fr.setCell (ao (ap (ao rfl))) v,h.new⟩
theorem MB.lt (h:MB w a n c d B f m g i):a<w.heap.size/\c<w.heap.size/\d<w.heap.size/\∀j,f.ownBlock=some j->j<w.heap.size :=
 ⟨ze h.aC,ze h.ce,ze h.sl,λj e=>(h.own.lt j e).2⟩
theorem MB.box {k:Xw}{j:Xv}(h:MB w a n c d B f m g i)(hF:fV a c d (w.alloc o) f k j):k.heap[w.heap.size]?=some o:=by
 obtain⟨r,s,t,l⟩:=h.lt;refine (hF.fr.block w.heap.size (by simp) (λe=>?_)).trans (zc w o);rcases e with e|e|e|e
 . omega
 . omega
 . omega
 have:=l _ e;omega
theorem XU:zH 150:=λ_ _=>by kernel_rfl
theorem RM:zH 149:=λ_ _=>by kernel_rfl
theorem X0 (a n c d B:Nat)(f:Xv)(m g i:List Int)(x:Int)(w:Xw)(k:MB w a n c d B f m g i)(l:i.length+1<=10000000) :
 xK 92 #[xP a,.agg #[.int .u8 0,xI x]] w (Ot a n c d B w f m g (x::i)):=by
 go_enter func92,ntmps92;go_wp2_with (go_at_call 149;refine (O7 a n c d B f m g i x _ (k.alloc _) l).mono ?_;rintro e s ⟨rfl,r,j,h⟩);go_end0;exact⟨rfl,_,j,h.Oi⟩
theorem Xd (a n c d B:Nat)(f:Xv)(m g i:List Int)(k:Nat)(v:Int)(w:Xw)(l:MB w a n c d B f m g (v::i))(u:k<g.length)(E:i.length+1<=10000000) :
 xK 92 #[xP a,.agg #[.int .u8 2,xI k]] w (Ot a n c d B w f m (g.set k v) i):=by
 obtain⟨y,z,A,C,D,F⟩:=zU l.aC;go_enter func92,ntmps92;go_upto_region 9 with fail;have r:∀o,aa (MB (w.alloc o).drew a n c d B f m g (v::i)):=λo=>(l.alloc o).drew;obtain⟨t,s⟩:∃t,g[k]?=some t:=⟨_,av u⟩;go_region_law (refine kD rfl 150 (.tmp 50) 121 rfl XU (xP a) rfl (NG a n c d B f m g i v _ (r _).out (by omega)) ?_;rintro e Q ⟨rfl,x,h,j⟩;refine⟨_,rfl,?_⟩;obtain⟨G,H,I,J,K,L⟩:=zU h.aC;obtain⟨M,N,O,P⟩:=zp (l.box j.cQ);have t0:=lh h.sl;have t1:=OG h.sl s);all_goals go_wp2_with fail
 all_goals go_end0
 all_goals exact⟨rfl,_,h.slot k v,(j.slot k _).cQ.Oi⟩
end
section
open Go.RowKit
theorem XK (c l i j B:Nat)(m:Xv)(b a f:List Int)(k:Nat)(v:Int)(n:a[k]?=some v)(w:Xw)(d:MB w c l i j B m b a (f))(z:f.length+10<=10000000) :
 xK 92 #[xP c,.agg #[.int .u8 1,xI k]] w (Ot c l i j B w m b a (v::f)):=by
 obtain⟨s,t,u,x,y,A⟩:=zU d.aC;obtain⟨_,o,p,_⟩:=d.lt;have t1:=OG d.sl n;have q:=(aB.1 n).1;go_enter func92,ntmps92;go_upto_region 7 with fail;go_region_law (refine rl rfl 149 (.tmp 32) (.tmp 40) 121 2 rfl RM (xP c) (xI v) rfl rfl (O7 c l i j B m b a f v _ (d.alloc _).drew (by omega)) ?_;rintro e C ⟨rfl,r,h,g⟩;refine⟨_,rfl,?_⟩);all_goals go_wp2_with fail
 all_goals go_end0
 all_goals exact⟨rfl,_,h,g.cQ.Oi⟩
theorem X4 (c l i j B:Nat)(m:Xv)(a b f:List Int)(k:Nat)(v:Int)(n:a[k]?=some v)(w:Xw)(d:MB w c l i j B m a b (f))(z:f.length+10<=10000000) :
 xK 92 #[xP c,.agg #[.int .u8 3,xI k]] w (Ot c l i j B w m a b (v::f)):=by
 obtain⟨s,t,u,x,y,A⟩:=zU d.aC;obtain⟨_,o,p,_⟩:=d.lt;have t1:=OG d.ce n;have q:=(aB.1 n).1;go_enter func92,ntmps92;go_upto_region 11 with fail;go_region_law (refine rl rfl 149 (.tmp 55) (.tmp 63) 121 2 rfl RM (xP c) (xI v) rfl rfl (O7 c l i j B m a b f v _ (d.alloc _).drew (by omega)) ?_;rintro e C ⟨rfl,r,h,g⟩;refine⟨_,rfl,?_⟩);all_goals go_wp2_with fail
 all_goals go_end0
 all_goals exact⟨rfl,_,h,g.cQ.Oi⟩
theorem XO (i o m n B:Nat)(A:Xv)(c d j:List Int)(f:Nat)(z:9<=f)(a b x:Int)(E:∀w,xK 153 #[.int .u8 f,xI a,xI b] w (λe J=>e=.returned (xI (MZ f a b))/\w=J))(w:Xw)(h:MB w i o m n B A c d (b::a::j))(P:j.length+10<=10000000) :
 xK 92 #[xP i,.agg #[.int .u8 f,xI x]] w (Ot i o m n B w A c d (MZ f a b::j)):=by
 have F:=za E;have R:((f:Int)==0)=false:=by simp;omega
 have S:((f:Int)==1)=false:=by simp;omega
 have T:((f:Int)==2)=false:=by simp;omega
 have U:((f:Int)==3)=false:=by simp;omega
 have V:((f:Int)==4)=false:=by simp;omega
 have W:((f:Int)==5)=false:=by simp;omega
 have X:((f:Int)==6)=false:=by simp;omega
 have Y:((f:Int)==7)=false:=by simp;omega
 have Z:((f:Int)==8)=false:=by simp;omega
 clear z E;have p:=za h;obtain⟨K,L,M,N,O,Q⟩:=zU h.aC;obtain⟨_,G,H,_⟩:=h.lt;go_enter func92,ntmps92;go_wp2_with (first|(go_at_call 149;refine (O7 i o m n B D c d (j) (_) _ v.o (by simp;omega)).mono ?_;rintro e w3 ⟨rfl,I,g,hF⟩;obtain⟨p3,q3,a1,a2,f3,z3⟩:=zU g.aC;have s:=za (r.o.trans hF);have t:=za (l.o.trans hF);obtain⟨u3,v3,a5,x3⟩:=zp (p.o.box t.o);have y:=za g)|(go_at_call 150;refine (NG i o m n B C c d (j) a _ u.o (by simp;omega)).mono ?_;rintro e w2 ⟨rfl,D,g,hF⟩;obtain⟨aA,q2,a0,s2,f2,z2⟩:=zU g.aC;have r:=za (q.o.trans hF);have l:=za (k.o.trans hF);obtain⟨u2,v2,a4,x2⟩:=zp (p.o.box l.o);have v:=za g)|(go_at_call 153;refine (F.o _).mono ?_;rintro e w9 ⟨rfl,rfl⟩)|(go_at_call 150;refine (NG i o m n B A c d (a::j) b _ (p.o.alloc _) (by simp;omega)).mono ?_;rintro e w1 ⟨rfl,C,g,hF⟩;obtain⟨ar,aL,aV,s1,f1,a6⟩:=zU g.aC;have q:=za hF.Oi;have k:=za hF;obtain⟨u1,v1,a3,x1⟩:=zp (p.o.box k.o);have u:=za g));go_end0;exact⟨rfl,_,y.o,s.o⟩
end
section
variable {a:Act} {e:Array Bool} {d:Array Oper} {Q:Exit->Act->World->Prop} {j:Nat} {f:Oper} {P:Program} {g:Region.Mode} {v:Xv} {w:Xw} {S:World->Prop}
theorem O1 {i:Nat}(m:d[i]?=some f)
 (b:(Region.noSelect d&&(Region.free g d e i&&(Region.ready g d e).contains i))=true)
 (k:∀c a w,Q (.panic c) (a.put f.dst v) w->Q (.panic c) a w) (n:YieldsIf P d S f v a) (l:S w)
 (h:wpAnyH P g d Q S j (e.setIfInBounds i true) (a.put f.dst v) w):wpAnyH P g d Q S (j+1) e a w:=by
 simp only[Bool.and_eq_true] at b;exact wpAnyH_take m b.1 b.2.1 b.2.2 k n l h
theorem aR (i:Nat)(m:d[i]?=some f)(n:YieldsIf P d S f v a)
 (h:wpAnyH P g d Q S j (e.setIfInBounds i true) (a.put f.dst v) w)
 (l:(Region.noSelect d&&(Region.free g d e i&&(Region.ready g d e).contains i))=true:=by kernel_rfl)
 (b:∀c a w,Q (.panic c) (a.put f.dst v) w->Q (.panic c) a w:=by exact λ_ _ _ h=>h) (k:S w:=by assumption):wpAnyH P g d Q S (j+1) e a w:=O1 m l b n k h
theorem aD:(∀{α:Type} (a:α) (l:List α) (h:0<(a::l).length),(a::l)[0]'h=a)/\(∀{α:Type} (a:α) (l:List α) (i:Nat) (h:i+1<(a::l).length),(a::l)[i+1]'h=l[i]'(Nat.lt_of_succ_lt_succ h))/\(∀{α:Type} {l:List α} {i:Nat} (h:i<l.toArray.size),l.toArray[i]'h=l[i]'(by simpa using h))/\(∀{α:Type} (l:List α) (i:Nat) (a:α),l.toArray.setIfInBounds i a=(l.set i a).toArray)/\(∀{α:Type} {l:List α} {a b:α},(a::l).set 0 b=b::l)/\∀{α:Type} {l:List α} {a b:α} {n:Nat},(a::l).set (n+1) b=a::l.set n b :=
 ⟨λ_ _ _=>rfl,λ_ _ _ _=>rfl,λ_=>rfl,λl i a=>K7 l i a,rfl,rfl⟩
end
end Go.Proofs.YtcnelakggnfnhaaGreatDoor
