/- Part 14 of the proof. -/
import Derived.LaidEqlPtr
import Derived.Test.YtmfkofhgdjechaaGreatDoorK12
set_option maxRecDepth 100000
set_option maxHeartbeats 8000000
namespace Go.Proofs.YtmfkofhgdjechaaGreatDoor
open Go.Proofs.Tryz
section
variable {e:Ex} {i part g:Fn} {j n:Nat} {c:St} {t:Tk}
def fO (e:Ex):Bool:=dJ (aF e.op.toList e.n) e.ah.length
def cp (L:List Ex):Prop:=∀e∈L,fO e=true
def bM (M:Fn):Prop:=∀c,cp c.L->cp (M c).1.L
theorem cp.add {L:List Ex}(h:cp L)(a:fO e=true):cp (L++[e]):=by
 intro x hx;rcases bj.1 hx with hx|hx
 . exact h x hx
 rw[cu.1 hx];exact a
theorem St.Ad (c:St)(e:Ex):(c.add e).L=c.L++[e]∨(c.add e).L=c.L:=by unfold St.add;first|exact ao rfl|(split <;> first|exact ao rfl|exact ap rfl)
theorem St.dK (c:St):c.aI.L=c.L:=by unfold St.aI;first|rfl|(split <;> rfl)
theorem cp.put (h:cp c.L)(a:fO e=true):cp (c.put e).1.L:=by
 show cp (c.add e).L;rcases c.Ad e with h1|h1
 . rw[h1];exact h.add a
 rw[h1];exact h
theorem Ea:aF kS.toList 0=10:=by decide +kernel
theorem D4:aF kR.toList 0=11:=by decide +kernel
theorem vo:aF fL.toList 0=4:=by decide +kernel
theorem Eb:aF iz.toList 0=5:=by decide +kernel
theorem Dm:aF iL.toList 0=6:=by decide +kernel
theorem D8:aF iO.toList 0=9:=by decide +kernel
theorem D9:aF gQ.toList 0=3:=by decide +kernel
theorem Ef:aF dl.toList 1=1:=by decide +kernel
theorem Eg:aF dl.toList 0=2:=by decide +kernel
theorem D3 (n:Nat):aF fJ.toList n=0:=by unfold aF;rw[ag (by decide +kernel)]
theorem ju {k:Nat}{f:Xb}{l:Nat}(m:aF f.toList n=k)(h:dJ k l=true){a b:Nat}{d:Xn}{s:Xb}(o:d.length=l):fO ⟨f,a,b,d,s,n⟩=true:=by unfold fO;simp only[m,o];exact h
theorem CZ (h:et t n=true)(a b:Nat):fO ⟨t.s,t.a,0,[a,b],sE,0⟩=true:=by
 unfold et at h;split at h
 . cases h
 split at h
 . rename_i h1;unfold fO;rcases h1 with h1|h1 <;> (simp only[h1];rfl)
 split at h
 . rename_i h1;unfold fO;simp only[h1];rfl
 split at h
 . rename_i h1;unfold fO;rcases h1 with h1|h1 <;> (simp only[h1];rfl)
 split at h
 . rename_i h1;unfold fO;rcases h1 with h1|h1|h1 <;> (simp only[h1];rfl)
 cases h
theorem uY (a:bM part):∀(f:Nat) (x:St×Nat),cp x.1.L->cp (dx j part f x).1.L
 | 0,_,h=>h
 | f+1,x,h=>by
   unfold dx;split
   . rename_i b
     refine uY a f _ (cp.put (a _ (by rw[St.bu];exact h)) (CZ b.2 _ _))
   exact h
theorem oC (a:bM part):bM (eo j part):=λc h=>uY a 1300 _ (a c h)
theorem Ed (h:eh t=true)(a b:Nat):fO ⟨t.s,t.a,0,[a,b],sE,0⟩=true:=by unfold eh at h;simp only[Bool.and_eq_true,Bool.or_eq_true,beq_iff_eq] at h;unfold fO;rcases h.2 with ((h1|h1)|h1)|h1 <;> (simp only[h1];rfl)
theorem CX {sum:Fn}(a:bM sum):bM (ei sum):=by
 intro c h;unfold ei;simp only;split
 . rename_i b
   exact cp.put (a _ (by rw[St.bu];exact a c h)) (Ed b.2 _ _)
 exact a c h
theorem C7 {a co:Fn}(b:bM a)(d:bM co):bM (dG a co):=by
 intro c h;unfold dG;split
 . refine cp.put (by rw[St.dK];exact b _ (by rw[St.dA];exact h)) ?_;split
   . exact ju Ea (l:=1) rfl rfl
   exact ju D4 (l:=1) rfl rfl
 exact d c h
theorem El (h:eu c=true)(a b x:Nat)(s:Xb):fO ⟨c.t.s,a,b,[x],s,0⟩=true:=by unfold eu St.is at h;simp only[Bool.or_eq_true,Bool.and_eq_true,beq_iff_eq] at h;unfold fO;rcases h with h1|h1 <;> (simp only[h1.2];rfl)
theorem ug:∀(f:Nat) (x:St×Nat),cp x.1.L->cp (dk f x).1.L
 | 0,_,h=>h
 | f+1,x,h=>by
   unfold dk;split
   . rename_i a
     refine ug f _ (cp.put (by rw[St.c8,St.bu];exact h) (El a.2 _ _ _ _))
   exact h
theorem Cf (a:bM i):bM (gR i):=λc h=>ug 1300 _ (a c h)
theorem uy (b:bM g):∀(f:Nat) (x:St×List Nat),cp x.1.L->1<=x.2.length->cp (cY g f x).1.L/\1<=(cY g f x).2.length
 | 0,_,h,a=>⟨h,a⟩
 | f+1,x,h,a=>by
   unfold cY;split
   . exact uy b f _ (b _ (by rw[St.bu];exact h)) (by simp)
   exact⟨h,a⟩
theorem uP (a:bM g)(t:Tk):bM (a1 g t):=by
 intro c h;unfold a1;split
 . simp only;have:=uy a 1300 ((g c.enter).1,[(g c.enter).2]) (a _ (by rw[St.dA];exact h)) (by simp);refine cp.put (by rw[St.dK,St.bi];exact this.1) ?_;exact ju vo (by show decide (1<=_)=true;exact decide_eq_true this.2) rfl
 show cp (c.fail 2 c.t.a).L;rw[St.gd];exact h
theorem Cx (a:bM g):bM (fp g):=by intro c h;unfold fp;simp only;refine cp.put ?_ (ju Eb (l:=3) rfl rfl);rw[St.dK];exact a _ (by rw[St.bi];exact a _ (by rw[St.bi];exact a _ (by rw[St.dA];exact h)))
theorem vg:bM kc:=λc h=>cp.put (by rw[St.bu];exact h) (ju D9 (l:=0) rfl rfl)
theorem Mh (a:bM i):bM (bF i):=by
 intro c h;unfold bF;split
 . exact a c h
 exact vg c h
theorem CU (a:bM i):bM (fs i):=by intro c h;unfold fs;simp only;refine cp.put ?_ (ju Dm (l:=2) rfl rfl);rw[St.dK];exact Mh a _ (Mh a _ (by rw[St.c8,St.dA];exact h))
theorem Cp (a:bM g):bM (iM g):=by
 intro c h
 show cp (((g c.enter).1.ac 4 [41]).aI).L;rw[St.dK,St.bi];exact a _ (by rw[St.dA];exact h)
theorem qw (b:Xb)(n:Nat)(d:∀a:Nat,fO ⟨b,a,0,[],sE,n⟩=true):bM (fK b n):=λc h=>cp.put (by rw[St.bu];exact h) (d _)
theorem C0 {b:Fn}(a:bM g)(d:bM b):bM (aN g b):=by
 intro c h;unfold aN;split
 . exact h
 split
 . exact qw fJ _ (λ_=>ju (D3 _) (l:=0) rfl rfl) c h
 split
 . split
   . exact uP a _ _ (by rw[St.bu];exact h)
   exact vg c h
 split
 . exact Cp a c h
 split
 . exact qw dl 1 (λ_=>ju Ef (l:=0) rfl rfl) c h
 split
 . exact qw dl 0 (λ_=>ju Eg (l:=0) rfl rfl) c h
 split
 . exact Cx a c h
 split
 . exact CU d c h
 show cp (c.fail 2 c.t.a).L;rw[St.gd];exact h
theorem DI {a:Fn}(d:bM g)(b:bM a):bM (fe g a):=by
 intro c h;unfold fe;simp only;split
 . refine cp.put ?_ (ju D8 (l:=2) rfl rfl);rw[St.dK];exact d _ (by rw[St.dA];exact b c h)
 exact b c h
theorem Mm:∀d:Nat,bM (a6 d).ex/\bM (a6 d).un/\bM (a6 d).at'
 | 0=>⟨λ_ h=>h,λ_ h=>h,λ_ h=>h⟩
 | d+1=>by obtain⟨a,k,l⟩:=Mm d;have b:bM (aN (a6 d).ex (a6 d).at'):=C0 a l;have f:bM (dG (a6 d).un (gR (aN (a6 d).ex (a6 d).at'))):=C7 k (Cf b);exact⟨DI a (oC (oC (CX (oC (oC f))))),f,b⟩
end
section
variable {i o:Bool} {g d:List Vr} {f:Nat} {c:St}
theorem aK.back {a b:St}(h:aK a b)(j:b.er=0):a.er=0:=by
 by_cases e:a.er=0
 . exact e
 have:=(h e).1;omega
theorem pT (c:St)(a:Nat):(c.fail 2 a).er≠0:=by
 unfold St.fail;split
 . show (2:Nat)≠0;omega
 rename_i h;exact h
theorem oB (h:(zx i o c d).1.er=0):d.length<16/\∃v:Vr,(zx i o c d).2=d++[v]/\v.bn=i/\v.out=o/\((i||o)=true->v.tm=false):=by
 unfold zx at h ⊢;by_cases b:16<=d.length
 . rw[ag b] at h;exact absurd h (pT c _)
 rw[ae b] at h ⊢;refine⟨by omega,?_⟩;simp only;split
 . rename_i a
   simp only[Bool.and_eq_true,Bool.not_eq_true'] at a;exact⟨_,rfl,rfl,rfl,λh=>by rw[a.1.2,a.2] at h;cases h⟩
 exact⟨_,rfl,rfl,rfl,λ_=>rfl⟩
def hA (i o:Bool)(d a:List Vr):Prop:=∃E:List Vr,a=d++E/\(∀v∈E,v.bn=i/\v.out=o/\((i||o)=true->v.tm=false))/\a.length<=16
theorem hA.one {v:Vr}(h:hA i o g d)(b:v.bn=i)(e:v.out=o/\((i||o)=true->v.tm=false))(j:d.length<16):hA i o g (d++[v]):=by
 obtain⟨E,rfl,a,_⟩:=h;refine⟨E++[v],by rw[bw],λx hx=>?_,by rw[aP,List.length_singleton];omega⟩;rcases bj.1 hx with hx|hx
 . exact a x hx
 rw[cu.1 hx];exact⟨b,e⟩
theorem ue:∀(f:Nat) (x:St×List Vr),(cK i f x).1.er=0->hA i (!i) g x.2->g.length<x.2.length->hA i (!i) g (cK i f x).2/\g.length<(cK i f x).2.length
 | 0,_,_,h,b=>⟨h,b⟩
 | f+1,x,a,h,b=>by
   unfold cK at a ⊢;split
   . rename_i k
     rw[ag k] at a;have j:=(sA i f _).back a;obtain⟨m,v,e,l,n⟩:=oB j;refine ue f _ a ?_ ?_
     . rw[e];exact h.one l n m
     rw[e,aP,List.length_singleton];omega
   exact⟨h,b⟩
theorem tS (h:(bW i c d).1.er=0):hA i (!i) d (bW i c d).2/\d.length<(bW i c d).2.length:=by
 unfold bW at h ⊢;simp only at h ⊢;have a:=(aK.ac _ 4 [41]).back h;have b:=(sA i 1300 _).back a;obtain⟨k,v,e,j,l⟩:=oB b;refine ue 1300 _ a ?_ ?_
 . rw[e];exact hA.one ⟨[],by simp,by simp,by omega⟩ j l k
 rw[e,aP,List.length_singleton];omega
theorem tT:∀(f:Nat) (x:St×List Vr),(en f x).1.er=0->hA false false g x.2->hA false false g (en f x).2
 | 0,_,_,h=>h
 | f+1,x,a,h=>by
   unfold en at a ⊢;split
   . rename_i l
     rw[ag l] at a;have j:(cz x.1 x.2).1.er=0:=by
      by_cases b:(cz x.1 x.2).1.er=0
      . exact b
      rw[sD b] at a;exact absurd a b
     have k:=(aK.ac _ 4 [59]).back j;obtain⟨n,v,e,m,p⟩:=oB k;refine tT f _ a ?_
     show hA false false g (zx false false x.1 x.2).2;rw[e];exact h.one m p n
   exact h
theorem Cz (p:d.length<=16)(h:(bD f c d).1.er=0):hA false false d (bD f c d).2:=by
 unfold bD at h ⊢;have j:hA false false d d:=⟨[],by simp,by simp,p⟩;split
 . rename_i m
   rw[ag m] at h;have k:(cz c.ad d).1.er=0:=by
    by_cases a:(cz c.ad d).1.er=0
    . exact a
    rw[sD a] at h;exact absurd h a
   have l:=(aK.ac _ 4 [59]).back k;obtain⟨b,v,e,n,q⟩:=oB l;refine tT f _ h ?_
   show hA false false d (zx false false c.ad d).2;rw[e];exact j.one n q b
 exact j
structure hS (d:List Vr):Prop where
 ah:1<=(d.filter (·.bn)).length
 aG:1<=(d.filter (·.out)).length
 io:(d.filter (·.bn)).length+(d.filter (·.out)).length<=d.length
 bO:d.length<=16
 arr:∃A B C:List Vr,d=A++B++C/\(∀v∈A,v.bn=true/\v.out=false/\v.tm=false)/\(∀v∈B,v.bn=false/\v.out=true/\v.tm=false)/\∀v∈C,v.bn=false/\v.out=false
theorem n9 {α:Type}{p:α->Bool}{E:List α}(h:∀v∈E,p v=true):E.filter p=E:=List.filter_eq_self.2 h
theorem jt {α:Type}{p:α->Bool}{E:List α}(h:∀v∈E,p v=false):E.filter p=[]:=List.filter_eq_nil_iff.2 (λv a=>by rw[h v a];simp)
theorem DD (h:(bD f (aT c).1 (aT c).2).1.er=0):hS (bD f (aT c).1 (aT c).2).2:=by
 have H:=(uw f (aT c).1 (aT c).2).back h;have p:(bW false ((bW true (c.ac 5 zW).name []).1.ac 4 [45,62]) (bW true (c.ac 5 zW).name []).2).1.er=0:=H;obtain⟨⟨k,D,r,J⟩,u⟩:=tS p;have I:=(aK.ac _ 4 [45,62]).back ((sC false _ _).back p);obtain⟨⟨b,m,q,M⟩,F⟩:=tS I;have w:(aT c).2=(bW false ((bW true (c.ac 5 zW).name []).1.ac 4 [45,62]) (bW true (c.ac 5 zW).name []).2).2:=rfl;have L:(aT c).2.length<=16:=by rw[w];exact J
 obtain⟨l,j,t,K⟩:=Cz L h;rw[List.nil_append] at m;have n:(aT c).2=b++k:=by rw[w,D,m]
 have s:b.length<(aT c).2.length:=by rw[w];rw[m] at u;rw[m];exact u
 rw[m] at F;have G:(bD f (aT c).1 (aT c).2).2=b++k++l:=j.trans (congrArg (·++l) n);rw[n,aP] at s;clear j D u;have j:=G;have u:=s;have f1:∀E:List Vr,E=b->E.filter (·.bn)=b/\E.filter (·.out)=[]:=λE e=>by subst e;exact⟨n9 (λv a=>(q v a).1),jt (λv a=>(q v a).2.1)⟩
 obtain⟨x,A⟩:=f1 b rfl;have y:k.filter (·.bn)=[]:=jt (λv a=>(r v a).1);have B:k.filter (·.out)=k:=n9 (λv a=>(r v a).2.1);have z:l.filter (·.bn)=[]:=jt (λv a=>(t v a).1);have C:l.filter (·.out)=[]:=jt (λv a=>(t v a).2.1);refine⟨?_,?_,?_,K,b,k,l,j,λv a=>⟨(q v a).1,(q v a).2.1,(q v a).2.2 rfl⟩,λv a=>⟨(r v a).1,(r v a).2.1,(r v a).2.2 rfl⟩,λv a=>⟨(t v a).1,(t v a).2.1⟩⟩
 . rw[j,List.filter_append,List.filter_append,x,y,z];simp only[List.append_nil];simp at F;omega
 . rw[j,List.filter_append,List.filter_append,A,B,C];simp only[List.append_nil,List.nil_append];omega
 rw[j,List.filter_append,List.filter_append,List.filter_append,List.filter_append,x,y,z,A,B,C];simp only[List.append_nil,List.nil_append,aP];omega
def jz (L:List Ex)(q:ax):Prop:=q.ns.length=q.ps.length/\1<=q.ns.length/\(2<=q.ns.length->∃a:Ex,L[q.ex]?=some a/\aF a.op.toList a.n=4)
theorem jz.more {L:List Ex}{q:ax}(h:jz L q)(E:List Ex):jz (L++E) q:=by refine⟨h.1,h.2.1,λj=>?_⟩;obtain⟨e,a,b⟩:=h.2.2 j;exact⟨e,by rw[e9 (aB.1 a).1];exact a,b⟩
theorem uC:∀(f:Nat) (x:dI),x.ns.length=x.ps.length->2<=x.ns.length->(cX f x).ns.length=(cX f x).ps.length/\2<=(cX f x).ns.length
 | 0,_,h,a=>⟨h,a⟩
 | f+1,x,h,a=>by
   unfold cX;split
   . exact uC f x.more (by simp[dI.more,h]) (by simp[dI.more];omega)
   exact⟨h,a⟩
theorem CP (c:St):(aZ c).ns.length=(aZ c).ps.length/\1<=(aZ c).ns.length/\(2<=(aZ c).ns.length->c.is 4 [40]=true):=by
 unfold aZ;split
 . rename_i h
   have:=uC 1300 ⟨(c.ad.name.ac 4 [44]).name,[c.ad.t.s,(c.ad.name.ac 4 [44]).t.s],[c.ad.t.a,(c.ad.name.ac 4 [44]).t.a]⟩ rfl (by simp);exact⟨this.1,by have:=this.2;show 1<=(cX 1300 _).ns.length;omega,λ_=>h⟩
 exact⟨rfl,by simp,λh=>by simp at h⟩
theorem Er (c:St):(aZ c).st.L=c.L:=by
 have a:∀(f:Nat) (x:dI),(cX f x).st.L=x.st.L:=by
  intro f;induction f with
  | zero=>intro x;rfl
  | succ f b =>
    intro x;unfold cX;split
    . rw[b];show (x.st.ad.name).L=_;rw[St.c8,St.bu]
    rfl
 unfold aZ;split
 . unfold iG;simp only;rw[St.bi,a]
   show ((c.ad.name.ac 4 [44]).name).L=_;rw[St.c8,St.bi,St.c8,St.bu]
 show c.name.L=_;rw[St.c8]
def gy (M:Fn):Prop:=∀c,∃E,(M c).1.L=c.L++E
theorem tZ {a b:Fn}(p:bM a)(r:bM b)(m:gy a)(z:gy b){eqs:List ax}(h:cp c.L)(A:∀q∈eqs,jz c.L q)(Q:(zF a b c eqs).1.er=0) :
 cp (zF a b c eqs).1.L/\(∀q∈(zF a b c eqs).2,jz (zF a b c eqs).1.L q):=by
 have O:(zF a b c eqs).1.L=(cx a b (c.is 4 [40]) ((aZ c).st.ac 4 [61])).1.L:=St.bi _ _ _;have l:(cx a b (c.is 4 [40]) ((aZ c).st.ac 4 [61])).1.er=0:=(aK.ac _ 4 [59]).back Q;have k:((aZ c).st.ac 4 [61]).L=c.L:=by rw[St.bi,Er]
 rw[O];obtain⟨F,G,S⟩:=CP c;cases v:c.is 4 [40] with
 | false =>
   have n:cx a b false ((aZ c).st.ac 4 [61])=b ((aZ c).st.ac 4 [61]):=rfl;rw[n];refine⟨r _ (by rw[k];exact h),λq hq=>?_⟩;obtain⟨E,e⟩:=z ((aZ c).st.ac 4 [61]);rw[e,k];rcases bj.1 hq with hq|hq
   . exact (A q hq).more E
   rw[cu.1 hq];exact⟨F,G,λN=>by have:=S N;rw[v] at this;cases this⟩
 | true =>
   rw[v] at l;have n:∀s:St,cx a b true s=a1 a s.t s.name:=λ_=>rfl;rw[n] at l ⊢;obtain⟨s,C⟩:∃s,(aZ c).st.ac 4 [61]=s:=⟨_,rfl⟩;have w:(zF a b c eqs).2=eqs++[⟨(aZ c).ns,(aZ c).ps,(aZ c).st.t.a,(a1 a s.t s.name).2⟩]:=(by show eqs++[⟨_,_,_,(cx a b (c.is 4 [40]) ((aZ c).st.ac 4 [61])).2⟩]=_;rw[v,n,C]);rw[C] at l k ⊢;refine⟨uP p s.t s.name (by rw[St.c8,k];exact h),?_⟩;rw[w];have P:∃E j,(a1 a s.t s.name).1.L=c.L++E/\(a1 a s.t s.name).1.L[(a1 a s.t s.name).2]?=some j/\aF j.op.toList j.n=4:=by
    by_cases B:s.name.is 4 [40]=true
    . have t:a1 a s.t s.name=(((cL a s.name.enter).1.ac 4 [41]).aI).put ⟨fL,s.t.a,s.t.a,(cL a s.name.enter).2,s.t.s,0⟩:=(by unfold a1;rw[ag B]);have M:∃E,(cL a s.name.enter).1.L=c.L++E:=by
       have y:∀(f:Nat) (x:St×List Nat),(∃E,x.1.L=c.L++E)->∃E,(cY a f x).1.L=c.L++E:=by
        intro f;induction f with
        | zero=>intro x h;exact h
        | succ f R =>
          intro x D;unfold cY;split
          . refine R _ ?_;obtain⟨E,e⟩:=D;obtain⟨H,u⟩:=m x.1.ad;exact⟨E++H,by show (a x.1.ad).1.L=_;rw[u,St.bu,e,bw]⟩
          exact D
       refine y 1300 _ ?_;obtain⟨E,e⟩:=m s.name.enter;exact⟨E,by show (a s.name.enter).1.L=_;rw[e,St.dA,St.c8,k]⟩
      obtain⟨E,e⟩:=M;have L:(((cL a s.name.enter).1.ac 4 [41]).aI).L=c.L++E:=(by rw[St.dK,St.bi,e]);rw[t];refine⟨E++[⟨fL,s.t.a,s.t.a,(cL a s.name.enter).2,s.t.s,0⟩],⟨fL,s.t.a,s.t.a,(cL a s.name.enter).2,s.t.s,0⟩,?_,?_,vo⟩
      . show (((cL a s.name.enter).1.ac 4 [41]).aI).L++[_]=_;rw[L,bw]
      show ((((cL a s.name.enter).1.ac 4 [41]).aI).L++[_])[(((cL a s.name.enter).1.ac 4 [41]).aI).L.length]?=_;rw[e8 (an _),Nat.sub_self];rfl
    exfalso;have t:a1 a s.t s.name=(s.name.fail 2 s.name.t.a,0):=(by unfold a1;rw[ae B]);rw[t] at l;exact pT _ _ l
   obtain⟨E,j,I,J,K⟩:=P;intro q hq;rcases bj.1 hq with hq|hq
   . rw[I];exact (A q hq).more E
   rw[cu.1 hq];exact⟨F,G,λ_=>⟨j,J,K⟩⟩
end
section
variable {i part a b c:Fn} {j:Nat}
def cq (M:Fn):Prop:=∀(d:List Ex) (e:St),d <+: e.L->d <+: (M e).1.L
theorem js {f:List Ex}{d:St}{e:Ex}(h:f <+: d.L):f <+: (d.put e).1.L:=h.trans (List.prefix_append d.L [e])
theorem uX (e:cq part)(d:List Ex):∀(f:Nat) (x:St×Nat),d <+: x.1.L->d <+: (dx j part f x).1.L
 | 0,_,h=>h
 | f+1,x,h=>by
   unfold dx;split
   . exact uX e d f _ (js (e _ _ (by rw[St.bu];exact h)))
   exact h
theorem oF (e:cq part):cq (eo j part):=λd f h=>uX e d 1300 _ (e d f h)
theorem DJ {sum:Fn}(d:cq sum):cq (ei sum):=by
 intro f e h;unfold ei;simp only;split
 . exact js (d _ _ (by rw[St.bu];exact d _ e h))
 exact d _ e h
theorem Dd {d co:Fn}(e:cq d)(f:cq co):cq (dG d co):=by
 intro k g h;unfold dG;split
 . exact js (by rw[St.dK];exact e _ _ (by rw[St.dA];exact h))
 exact f _ g h
theorem uh (d:List Ex):∀(f:Nat) (x:St×Nat),d <+: x.1.L->d <+: (dk f x).1.L
 | 0,_,h=>h
 | f+1,x,h=>by
   unfold dk;split
   . exact uh d f _ (js (by rw[St.c8,St.bu];exact h))
   exact h
theorem Cc (e:cq i):cq (gR i):=λd f h=>uh d 1300 _ (e d f h)
theorem ur (e:cq c)(d:List Ex):∀(f:Nat) (x:St×List Nat),d <+: x.1.L->d <+: (cY c f x).1.L
 | 0,_,h=>h
 | f+1,x,h=>by
   unfold cY;split
   . exact ur e d f _ (e _ _ (by rw[St.bu];exact h))
   exact h
theorem DF (e:cq c)(t:Tk):cq (a1 c t):=by
 intro d f h;unfold a1;split
 . simp only;exact js (by rw[St.dK,St.bi];exact ur e d 1300 _ (e _ _ (by rw[St.dA];exact h)))
 show d <+: (f.fail 2 f.t.a).L;rw[St.gd];exact h
theorem CJ (d:cq c):cq (fp c):=by intro e f h;unfold fp;simp only;refine js ?_;rw[St.dK];exact d _ _ (by rw[St.bi];exact d _ _ (by rw[St.bi];exact d _ _ (by rw[St.dA];exact h)))
theorem vf:cq kc:=λ_ d h=>js (by rw[St.bu];exact h)
theorem uS (e:cq i):cq (bF i):=by
 intro f d h;unfold bF;split
 . exact e _ d h
 exact vf _ d h
theorem Dg (d:cq i):cq (fs i):=by intro e f h;unfold fs;simp only;refine js ?_;rw[St.dK];exact uS d _ _ (uS d _ _ (by rw[St.c8,St.dA];exact h))
theorem Cr (e:cq c):cq (iM c):=by
 intro d f h
 show d <+: (((c f.enter).1.ac 4 [41]).aI).L;rw[St.dK,St.bi];exact e _ _ (by rw[St.dA];exact h)
theorem qu (d:Xb)(n:Nat):cq (fK d n):=λ_ e h=>js (by rw[St.bu];exact h)
theorem C3 {f:Fn}(e:cq c)(k:cq f):cq (aN c f):=by
 intro g d h;unfold aN;split
 . exact h
 split
 . exact qu fJ _ _ d h
 split
 . split
   . exact DF e _ _ _ (by rw[St.bu];exact h)
   exact vf _ d h
 split
 . exact Cr e _ d h
 split
 . exact qu dl 1 _ d h
 split
 . exact qu dl 0 _ d h
 split
 . exact CJ e _ d h
 split
 . exact Dg k _ d h
 show g <+: (d.fail 2 d.t.a).L;rw[St.gd];exact h
theorem CW {d:Fn}(g:cq c)(e:cq d):cq (fe c d):=by
 intro k f h;unfold fe;simp only;split
 . refine js ?_;rw[St.dK];exact g _ _ (by rw[St.dA];exact e _ f h)
 exact e _ f h
theorem vd:∀d:Nat,cq (a6 d).ex/\cq (a6 d).un/\cq (a6 d).at'
 | 0=>⟨λ_ _ h=>h,λ_ _ h=>h,λ_ _ h=>h⟩
 | d+1=>by obtain⟨e,k,l⟩:=vd d;have f:cq (aN (a6 d).ex (a6 d).at'):=C3 e l;have g:cq (dG (a6 d).un (gR (aN (a6 d).ex (a6 d).at'))):=Dd k (Cc f);exact⟨CW e (oF (oF (DJ (oF (oF g))))),g,f⟩
theorem cq.ext {M:Fn}(h:cq M):gy M:=λd=>by obtain⟨E,e⟩:=h d.L d (List.prefix_refl _);exact⟨E,e.symm⟩
structure k9 (nd:Nd):Prop where
 ab:hS nd.ab
 ar:cp nd.az
 eqs:∀q∈nd.eqs,jz nd.az q
theorem vb (d:bM a)(g:bM b)(n:gy a)(o:gy b)(k:zv 17 a)(l:zv 18 b):∀(f p:Nat) (x:St×List ax),Inv p x.1->x.1.op=0->cp x.1.L->(∀q∈x.2,jz x.1.L q)->(bS a b f x).1.er=0->cp (bS a b f x).1.L/\∀q∈(bS a b f x).2,jz (bS a b f x).1.L q
 | 0,_,_,_,_,h,r,_=>⟨h,r⟩
 | f+1,p,x,A,v,h,r,s=>by
   by_cases u:x.1.t.k=2∨x.1.is 4 [40]=true
   . have e:bS a b (f+1) x=bS a b f (zF a b x.1 x.2):=(by rw[bS,ag u]);rw[e] at s ⊢;obtain⟨w,y⟩:=gD k l (eqs:=x.2) A v;have m:=w.af;have z:(zF a b x.1 x.2).1.er=0:=by
      by_cases t:(zF a b x.1 x.2).1.er=0
      . exact t
      rw[sb m t] at s;exact absurd s t
     obtain⟨B,C⟩:=tZ d g n o h r z;exact vb d g n o k l f _ _ m (by rw[y];exact v) B C s
   have e:bS a b (f+1) x=x:=(by rw[bS,ae u]);rw[e];exact⟨h,r⟩
theorem uZ (h:bM a)(k:bM b)(m:gy a)(n:gy b)(l:zv 17 a)(g:zv 18 b)(f p:Nat)(d:St)(G:Inv p d)(I:d.op=0)(D:(a7 a b f d).1.er=0):k9 (a7 a b f d).2:=by
 have J:=ai.aw G;have s:=mz J;have t:=kM (f:=f) (ab:=(aT d.aw).2) s.1.af;have r:=ai.ac t.1.af 4 [123];have o:((bD f (aT d.aw).1 (aT d.aw).2).1.ac 4 [123]).op=0:=by rw[St.a8,t.2.1,s.2.1];exact I
 have z:((bD f (aT d.aw).1 (aT d.aw).2).1.ac 4 [123]).L=[]:=by rw[St.bi,t.2.2,s.2.2];rfl
 obtain⟨V,w⟩:∃V,bD f (aT d.aw).1 (aT d.aw).2=V:=⟨_,rfl⟩;have y:V.1.er=0->hS V.2:=by rw[<- w];exact DD
 rw[w] at r o z;have e:a7 a b f d=((dy a b f V.1).1,⟨(d.aw.ac 5 zW).t.s,(d.aw.ac 5 zW).t.a,V.2,(dy a b f V.1).1.L,(dy a b f V.1).2⟩):=by unfold a7;simp only;rw[w]
 rw[e] at D ⊢;have u:(bS a b f (zF a b (V.1.ac 4 [123]) [])).1.er=0:=(aK.ac _ 4 [125]).back D;obtain⟨B,E⟩:=gD l g (eqs:=[]) r.af o;have C:(zF a b (V.1.ac 4 [123]) []).1.er=0:=by
  by_cases v:(zF a b (V.1.ac 4 [123]) []).1.er=0
  . exact v
  rw[sb B.af v] at u;exact absurd u v
 have F:V.1.er=0:=(aK.ac _ 4 [123]).back ((aK.sL g r.af o []).back C);obtain⟨K,L⟩:=tZ h k m n (eqs:=[]) (by rw[z];intro e H;cases H) (λq x=>by cases x) C;obtain⟨M,N⟩:=vb h k m n l g f _ _ B.af (by rw[E];exact o) K L u;have A:(dy a b f V.1).1.L=(bS a b f (zF a b (V.1.ac 4 [123]) [])).1.L:=St.bi _ _ _;refine⟨y F,?_,?_⟩
 . show cp (dy a b f V.1).1.L;rw[A];exact M
 intro q x
 show jz (dy a b f V.1).1.L q;rw[A];exact N q x
theorem pV (e:zv 17 a)(g:zv 18 b)(f p:Nat)(d:St)(s:Inv p d)(t:d.op=0):Inv 0 (a7 a b f d).1/\(a7 a b f d).1.op=0:=by
 have u:=ai.aw s;have k:=mz u;have l:=kM (f:=f) (ab:=(aT d.aw).2) k.1.af;have n:=ai.ac l.1.af 4 [123];have m:((bD f (aT d.aw).1 (aT d.aw).2).1.ac 4 [123]).op=0:=by rw[St.a8,l.2.1,k.2.1];exact t
 obtain⟨o,r⟩:=gD e g (eqs:=[]) n.af m;have h:=nO e g f _ (zF a b ((bD f (aT d.aw).1 (aT d.aw).2).1.ac 4 [123]) []) o.af (by rw[r];exact m);have q:=ai.ac h.1.af 4 [125];exact⟨q.af,by show (St.ac _ 4 [125]).op=0;rw[St.a8];exact h.2⟩
theorem us (l:bM a)(m:bM b)(o:gy a)(q:gy b)(d:zv 17 a)(k:zv 18 b)(g:Nat):∀(f p:Nat) (x:St×List Nd),Inv p x.1->x.1.op=0->(∀n∈x.2,k9 n)->(ct a b g f x).1.er=0->(∀n∈(ct a b g f x).2,k9 n)
 | 0,_,_,_,_,h,_=>h
 | f+1,p,x,t,v,h,r=>by
   by_cases u:x.1.is 5 zW=true/\x.2.length<6
   . have e:ct a b g (f+1) x=ct a b g f ((a7 a b g x.1).1,x.2++[(a7 a b g x.1).2]):=(by rw[ct,ag u]);rw[e] at r ⊢;obtain⟨w,z⟩:=pV d k g p x.1 t v;have y:(a7 a b g x.1).1.er=0:=by
      by_cases s:(a7 a b g x.1).1.er=0
      . exact s
      rw[mI w s] at r;exact absurd r s
     refine us l m o q d k g f 0 _ w z (λn hnd=>?_) r;rcases bj.1 hnd with hnd|hnd
     . exact h n hnd
     rw[cu.1 hnd];exact uZ l m o q d k g p x.1 t v y
   have e:ct a b g (f+1) x=x:=(by rw[ct,ae u]);rw[e];exact h
theorem uU (f:bM a)(h:bM b)(k:gy a)(l:gy b)(d:zv 17 a)(e:zv 18 b)(g:Nat)(s:Xb)(p:Inv 0 (⟨s,zZ s 0,0,0,0,[]⟩:St))(u:(dm a b g s).1.er=0):∀r∈(dm a b g s).2,k9 r:=by
 have m:(ct a b g g ((a7 a b g ⟨s,zZ s 0,0,0,0,[]⟩).1,[(a7 a b g ⟨s,zZ s 0,0,0,0,[]⟩).2])).1.er=0:=(pU _).back u;obtain⟨q,v⟩:=pV d e g 0 ⟨s,zZ s 0,0,0,0,[]⟩ p rfl;have t:(a7 a b g ⟨s,zZ s 0,0,0,0,[]⟩).1.er=0:=by
  by_cases n:(a7 a b g ⟨s,zZ s 0,0,0,0,[]⟩).1.er=0
  . exact n
  rw[mI q n] at m;exact absurd m n
 refine us f h k l d e g g 0 _ q v (λr o=>?_) m;rw[cu.1 o];exact uZ f h k l d e g 0 _ p rfl t
end
section
open Go.RowKit
variable {m:List ay} {N:Nat} {c:Sc} {l f:Xv} {w w':Xw}
attribute [local go_sem ↓] Go.wp_at_zero Go.wp_at_succ
def NE (w:Xw)(N:Nat)(m:List ay)(v:Xv):Prop :=
 ∃a b,v=.slice a m.length b/\m.length<=b/\b<=9223372036854775807/\(m≠[]->∃g,a=some (xD g 0)/\g<N/\∀i n,m[i]?=some n->∃u,w.cell? (xD g i)=some u/\NP w N n u)
theorem NE.am {w:Xw}{v:Xv}(h:NE w N m v)(e:bV N w w'):NE w' N m v:=by obtain⟨a,j,k,o,p,q⟩:=h;refine⟨a,j,k,o,p,λb=>?_⟩;obtain⟨g,r,d,s⟩:=q b;refine⟨g,r,d,λi n y=>?_⟩;obtain⟨u,t,x⟩:=s i n y;exact⟨u,(World.cell?_of_block (w:=w) (e g d)).trans t,x.am e⟩
structure br (w:Xw) (N:Nat) (c:Sc) (l f:Xv):Prop where
 er:NE w N c.er l
 nd:NP w N c.nd f
theorem br.am (h:br w N c l f)(a:bV N w w'):br w' N c l f:=⟨h.er.am a,h.nd.am a⟩
theorem jh {B:Nat}(h:Below B w w')(a:B<=w.heap.size)(o:Obj):Below B w (w'.alloc o):=h.alloc (aJ a h.size) o
theorem hW (s:Xb)(a:Int)(w:Xw)(h:br w N c l f)(j:N<=w.heap.size) :
 xK 103 #[.agg #[l,f],.agg #[.string s,xI a]] w (λe w'=>e=.returned (xI (c.idx s:Nat))/\xB w w'):=by
 obtain⟨n,p,o,r,rfl,k⟩:=h.nd;have i:=za (λb d=>rK s ((w.alloc b).alloc d) (k.am (j8 j b d)));go_enter func103,ntmps103;go_wp2_with (go_at_call 101;refine (i.o _ _).mono ?_;rintro e q ⟨rfl,g⟩;unfold pF);go_ret;exact⟨rfl,r3 g⟩
theorem pv (s:Xb)(a:Int)(w:Xw)(h:br w N c l f)(j:N<=w.heap.size) :
 xK 102 #[.agg #[l,f],.agg #[.string s,xI a]] w (λe w'=>e=.returned (.bool (c.nd.find s).isSome)/\xB w w'):=by
 obtain⟨n,p,o,r,rfl,k⟩:=h.nd;have i:=za (λb d=>rK s ((w.alloc b).alloc d) (k.am (j8 j b d)));go_enter func102,ntmps102;go_wp2_with (go_at_call 101;refine (i.o _ _).mono ?_;rintro e q ⟨rfl,g⟩;unfold pF);go_ret;exact⟨rfl,r3 g⟩
def nH (N:Nat)(c:Sc)(s:Xb)(w':Xw)(e:Ending):Prop :=
 match c.called s with
 | none=>e=.returned (.tuple #[.agg #[.slice none 0 0,.pointer none],.bool false])
 | some d=>∃a b,e=.returned (.tuple #[.agg #[a,b],.bool true])/\br w' N d a b
theorem NE.take {a:Xp}{n d k:Nat}(h:NE w N m (.slice a n d))(u:k<m.length):NE w N (m.take k) (.slice a k d):=by
 obtain⟨x,j,o,y,p,q⟩:=h;cases o;have v:(m.take k).length=k:=by simp;omega
 refine⟨a,d,by rw[v],by omega,p,λ_=>?_⟩;obtain⟨g,r,s,t⟩:=q (by intro e;subst e;simp at u);refine⟨g,r,s,λi n b=>t i n ?_⟩;rw[List.getElem?_take] at b;split at b
 . exact b
 cases b
theorem iu (w:Xw)(a b d:Obj):(((w.alloc a).alloc b).alloc d).heap[w.heap.size]?=some a/\(((w.alloc a).alloc b).alloc d).heap[w.heap.size+1]?=some b/\(((w.alloc a).alloc b).alloc d).heap[w.heap.size+1+1]?=some d:=by
 have h (w:Xw) (o:Obj) (k:Nat):(w.alloc o).heap[k]?=if k=w.heap.size then some o else w.heap[k]?:=by show (w.heap.push o)[k]?=_;rw[Array.getElem?_push]
 refine⟨?_,?_,?_⟩;all_goals simp only[h,au]
 . rw[ae (by omega),ae (by omega),ag trivial]
 . rw[ae (by omega),ag trivial]
 rw[ag trivial]
theorem xy (s:Xb)(a:Int)(w:Xw)(h:br w N c l f)(hN:N<=w.heap.size)(h6:c.er.length<=6) :
 xK 100 #[.agg #[l,f],.agg #[.string s,xI a]] w (λe w'=>nH N c s w' e/\xB w w'):=by
 have Z:=h.er;obtain⟨x,B,rfl,ak,a2,J⟩:=h.er;have U:=za Z;have W:=za J;go_enter func100,ntmps100;go_wp2_with fail;go_loopg [11] (c.er.length+1) (λj i wr=>∃k:Nat,k+j=c.er.length+1/\k<=c.er.length/\i=xI k/\aa (fX s (c.er.drop k) k=fX s c.er 0)/\aa (xH wr w.heap.size #[xE x c B,f] 202/\xH wr (w.heap.size+1) #[.string s,xI a] 144/\xH wr (w.heap.size+1+1) #[.slice none 0 0,.pointer none] 202)/\aa (xB w wr));case atStart=>exact⟨0,by omega,aE _,rfl,rfl,iu w _ _ _,mg w _ _ _⟩
 case round =>
  obtain⟨k,a0,ar,rfl,Q,R,d⟩:=hrel;obtain⟨M,O,P⟩:=R.o;obtain⟨bk,bl,bp,bs⟩:=zp M;obtain⟨bt,bx,bE,bL⟩:=zp O;obtain⟨S,T,b0,b1⟩:=zp P;by_cases o:k<c.er.length
  . obtain⟨n,H⟩:∃n,c.er[k]?=some n:=⟨_,av o⟩;have r:=U.o.am (zm d.o hN);have F:=za (r.take o);obtain⟨x',X,Y,_,_,z⟩:=r;cases Y;obtain⟨g,rfl,al,I⟩:=z (by intro e;rw[e] at o;simp at o);obtain⟨u,hu,A⟩:=I k n H;have G:=za A;obtain⟨D,vs,qv,xs,rfl,K⟩:=A;obtain⟨a3,n1,n2,n3,a4,a5,a9,be⟩:=zt K.aC;have q:=Iv (s:=s) H;rw[Q.o] at q;have i1:(k:Int)<=(B:Int):=by omega
    by_cases C:n.nm=s
    . rw[ag C] at q;have y:c.called s=some ⟨c.er.take k,n⟩:=(by unfold Sc.called;rw[q];simp only[H]);have E:=za y;have L:=mC C;go_wp2_with fail;go_region_held3 (λw'=>w'.cell? (xD D 0)=some (.string n.nm)/\w'.cell? (xD (w.heap.size+1) 0)=some (.string s)) (go_keep) (fail);go_wp2_with fail;have p:=zo (zC (i:=1) (zC (b:=w.heap.size+1+1) (i:=0) d.o (by omega) (xS g k B)) (b:=w.heap.size+1+1) (by omega) (xP D));refine bodyPost_ret (v:=.tuple #[.agg #[xS g k B,xP D],.bool true]) (by simp[results,results100,go_sem,S,T]) rfl ⟨?_,p⟩;have t:bV N wr _:=λk ar=>(p.block k (by omega)).trans (d.o.block k (by omega)).symm;unfold nH;rw[E.o];exact⟨_,_,rfl,F.o.am t,G.o.am t⟩
    rw[ae C] at q;have E:=za q;have L:=mB C;go_wp2_with fail;go_region_held3 (λw'=>w'.cell? (xD D 0)=some (.string n.nm)/\w'.cell? (xD (w.heap.size+1) 0)=some (.string s)) (go_keep) (fail);go_wp2_with fail;go_roundg (gk-1);case measure=>omega
    exact⟨k+1,by omega,by omega,by go_num,E.o.symm,R.o,⟨d.o.os,d.o.tape,d.o.output,d.o.size,d.o.block⟩⟩
  have V:c.called s=none:=by unfold Sc.called;rw[<- Q.o,List.drop_of_length_le (by omega)];rfl
  go_wp2_with fail;refine bodyPost_ret (v:=.tuple #[.agg #[.slice none 0 0,.pointer none],.bool false]) (by simp[results,results100,go_sem,S,T]) rfl ⟨?_,zC (zC d.o (by omega) _) (by omega) _⟩;unfold nH;rw[V]
theorem o5 (s:Xb)(a:Int)(w:Xw)(h:br w N c l f)(i:N<=w.heap.size)(g:c.er.length<=6)(j:c.called s=none) :
 xK 100 #[.agg #[l,f],.agg #[.string s,xI a]] w (λe w'=>e=.returned (.tuple #[.agg #[.slice none 0 0,.pointer none],.bool false])/\xB w w'):=by
 refine (xy s a w h i g).mono ?_;rintro e w' ⟨b,d⟩;unfold nH at b;rw[j] at b;exact⟨b,d⟩
theorem br.shape (h:br w N c l f):∃x b a,l=xE x c b/\f=xP a/\a<N:=by obtain⟨x,b,d,_⟩:=h.er;obtain⟨a,_,_,_,e,g⟩:=h.nd;exact⟨x,b,a,d,e,g.lo⟩
theorem ji {d:Sc}(s:Xb)(a:Int)(w:Xw)(h:br w N c l f)(q:N<=w.heap.size)(p:c.er.length<=6)(r:c.called s=some d) :
 xK 100 #[.agg #[l,f],.agg #[.string s,xI a]] w (λe w'=>∃x b g,e=.returned (.tuple #[.agg #[xE x d b,xP g],.bool true])/\br w' N d (xE x d b) (xP g)/\xB w w'):=by
 refine (xy s a w h q p).mono ?_;rintro e w' ⟨i,n⟩;unfold nH at i;rw[r] at i;obtain⟨k,t,o,j⟩:=i;obtain⟨x,b,g,rfl,rfl,_⟩:=j.shape;exact⟨x,b,g,o,j,n⟩
end
section
open Go.RowKit
variable {N:Nat} {t:Tm} {g:Tm->Bool} {v:Xv} {w:Xw}
attribute [local go_sem ↓] Go.wp_at_zero Go.wp_at_succ
theorem IY {a:List Tm}{k:Nat}(h:a[k]?=some t):cN g (a.take (k+1))=cN g (a.take k)++bh g t:=by
 induction a generalizing k with
 | nil=>simp at h
 | cons x a b =>
   cases k with
   | zero=>simp at h;subst h;simp[cN]
   | succ k => simp at h;rw[cI,cI,cN,cN,b h,bw]
structure p4 {σ:Type} (N:Nat) (T:Xj) (F:FuncId) (caps:Xa) (Pt:Tm->Value->Prop) (g:Tm->Bool) (ad:σ->Tm->σ) (I:σ->World->Prop):Prop where
 enters:zH F
 hT:∀k,T k->N<=k
 aq:∀s w w',I s w->xB w w'->I s w'
 sub:∀t v u x,Pt t v->u∈t.ts->Pt u x
 call:∀t v s w,TT w N t v->N<=w.heap.size->I s w->Pt t v->xK F (#[v]++caps) w (λe w'=>e=.returned (.bool (g t))/\I (ad s t) w'/\Fr T w w')
theorem TT.ptr (h:TT w N t v):∃b c d,v=xP b/\b<N/\xH w b #[xI t.k,xI t.a,.string t.s,xI t.nm,xI t.n,c] 216/\w.ownsRow 0 159 1 c d.length d/\d.length=t.ts.length/\(∀(i:Nat) (u:Tm) (x:Xv),t.ts[i]?=some u->d[i]?=some x->TT w N u x)/\(∀g,c.ownBlock=some g->g<N):=by
 cases h with
 | mk k a s nm n p b c d e j f l m o=>exact⟨b,c,d,rfl,e,j,f,m,o,l⟩
theorem xN {σ:Type}{T:Xj}{F:FuncId}{r:Xa}{Pt:Tm->Value->Prop}{ad:σ->Tm->σ}{I:σ->World->Prop}(ar:p4 N T F r Pt g ad I) :
 ∀(t:Tm) (v:Xv) (s:σ) (w:Xw),TT w N t v->N<=w.heap.size->I s w->Pt t v->xK 173 #[v,.func (.func F) #[] r] w (λe w'=>e=.returned (.tuple #[])/\I ((bh g t).foldl ad s) w'/\Fr T w w'):=by
 intro t;induction t using Tm.ind with
 | h G a nm n p c cm =>
   intro v s w h hN b0 a4;obtain⟨b,d,Q,rfl,b1,y,m,O,P,a2⟩:=h.ptr;have R:=za (ar.call _ _ s w h hN b0 a4);have b2:∀(d:Xa) (w:Xw),(callFunc F d).run prog w=.ok (.enter F d) w:=ar.enters;have X:=za ar;have be:=za a4;have J:=za P;have f:=za m;have cn:=za h;have Y:=za cm;have q:=za y;have H:=za a2;obtain⟨h0,h1,h2,h3,h4,h5,cs,c0⟩:=zt y;have b4:w.ownsRow 0 159 1 d Q.length Q:=m;obtain⟨x,bt,rfl⟩:=zB m;have D:Q.length=c.length:=O;rw[D] at h5 f q H;cases S:g (.mk G a nm n p c) with
   | false =>
     rw[S] at R;have e:bh g (.mk G a nm n p c)=[.mk G a nm n p c]:=(by unfold bh;rw[S];simp);rw[e];go_enter func173,ntmps173;go_wp2_with fail;with_reducible refine R.o.mono ?_
     rintro e a5 ⟨rfl,C,l⟩;have A:=za C;have z:=za l;go_wp2_with fail;first|go_end0|refine bodyPost_ret (results_none rfl _ _ _) rfl ?_
     exact⟨rfl,A.o,z.o⟩
   | true =>
     rw[S] at R;have e:bh g (.mk G a nm n p c)=.mk G a nm n p c::cN g c:=(by unfold bh;rw[ag S]);rw[e];go_enter func173,ntmps173;go_wp2_with fail;with_reducible refine R.o.mono ?_
     rintro e a5 ⟨rfl,C,l⟩;have K:bV N w a5:=l.am hN X.o.hT;have ca:=l.size;obtain⟨c1,c2,c3,c4,c5,c9,dn,ds⟩:=zt ((K b b1).trans q.o);have a9:=za K;have A:=za C;have z:=za l;go_wp2_with fail;have bL:c.length<=9223372036854775807:=by
      have:=f.o;rcases this.2 with ⟨_,h⟩|⟨g,bs,bx,hv,_,_,h3,h4,_⟩
      . omega
      unfold maxLen at h4;omega
     go_loopg [15] (c.length+1) (λj i wr=>∃k:Nat,k+j=c.length+1/\k<=c.length/\i=xI k/\aa (I ((cN g (c.take k)).foldl ad (ad s (.mk G a nm n p c))) wr)/\aa (Fr T w wr));case atStart=>exact⟨0,by omega,aE _,rfl,A.o,z.o⟩
     case round =>
      obtain⟨k,b3,cv,rfl,B,o⟩:=hrel;have L:bV N w wr:=o.o.am hN X.o.hT;have ck:=o.o.size;by_cases a3:k<c.length
      . obtain⟨t,U⟩:∃t,c[k]?=some t:=⟨_,av a3⟩;obtain⟨u,hu⟩:∃u,Q[k]?=some u:=⟨_,av (by omega)⟩;have E:wr.ownsRow 0 159 1 (.slice x c.length bt) c.length Q:=zi f.o (λj _ _ e=>L j (H.o j e));obtain⟨g',rfl,a0⟩:=nB E hu;have M:=(J.o k t u U hu).am L;obtain⟨bp,_,_,rfl,_⟩:=M.ptr;have al:=X.o.sub _ _ t (xP bp) be.o (aM U);have bl:=za (Y.o t (aM U) _ _ wr M (by omega) B.o al);have bk:=za (IY (g:=g) U);go_wp2_with (go_at_call 173;refine bl.o.mono ?_;rintro e eb ⟨rfl,ak,Z⟩;have W:=za ak;have V:=za (o.o.trans Z));go_roundg (gk-1);case measure=>omega
        refine⟨k+1,by omega,by omega,by go_num,?_,V.o⟩;rw[bk.o,bc];exact W.o
      have bE:k=c.length:=(by omega);subst bE;rw[List.take_length] at B;go_wp2_with fail;first|go_end0|refine bodyPost_ret (results_none rfl _ _ _) rfl ?_
      exact⟨rfl,B.o,o.o⟩
theorem TT.Ar (h:TT w N t v):∀{F:Tm},TT w N F v->t=F:=by
 induction h with
 | mk k a s nm n u b G l hN ak Z hg a4 _ a0 =>
   intro F U;cases U with
   | mk k' a' s' a3 n' d b x j Y z q al ar D =>
     have e:=Obj.cells.inj (Option.some.inj (ak.symm.trans z));have p:=e.1;simp only[Array.mk.injEq,List.cons.injEq,Value.int.injEq,Value.string.injEq,true_and,and_true,Int.ofNat_inj] at p;obtain⟨Q,P,S,y,R,f⟩:=p;subst Q P S y R f;have E:l=j:=by
      rcases Z.2 with ⟨r,V⟩|⟨g,L,M,r,_,W,h4,h5,h6,X⟩
      . rcases q.2 with ⟨c,J⟩|⟨T,m,o,c,_⟩
        . have:l.length=0:=V;have:j.length=0:=J;rw[List.eq_nil_of_length_eq_zero ‹l.length=0›,List.eq_nil_of_length_eq_zero ‹j.length=0›]
        rw[r] at c;cases c
      rcases q.2 with ⟨c,J⟩|⟨T,m,o,c,_,K,a5,a9,be,a2⟩
      . rw[r] at c;cases c
      rw[r] at c;simp only[Value.slice.injEq,Option.some.injEq,Addr.mk.injEq,and_true] at c;obtain⟨rfl,C,rfl⟩:=c;rw[W] at K;have O:=(Obj.cells.inj (Option.some.inj K)).1;subst O;rw[<- X,<- a2,C]
     subst E;have:u=d:=by
      apply List.ext_getElem?;intro i;rcases Nat.lt_or_ge i u.length with hi|hi
      . have p:u[i]?=some u[i]:=av hi;have A:i<d.length:=(by omega);have H:d[i]?=some d[i]:=av A;have B:i<l.length:=(by omega);have I:l[i]?=some l[i]:=av B;rw[p,H];congr 1;exact a0 i _ _ p I (D i _ _ H I)
      rw[List.getElem?_eq_none hi,List.getElem?_eq_none (by omega)]
     rw[this]
end
section
open Go.RowKit
variable {c:Xa} {F:FuncId} {N:Nat} {T:Xj} {n:ay} {q:Qn} {d:Tm->Prop} {b:Xv} {w:Xw}
attribute [local go_sem ↓] Go.wp_at_zero Go.wp_at_succ
structure hB (w:Xw) (N:Nat) (q:Qn) (lv b:Xv):Prop where
 own:w.ownsRow 0 144 2 lv q.ns.length (gg q.ns q.ps)
 lo:∀g,lv.ownBlock=some g->g<N
 tt:TT w N q.r b
theorem hB.am {w':Xw}{f:Xv}(h:hB w N q f b)(a:bV N w w'):hB w' N q f b :=
 ⟨zi h.own (λg _ _ e=>a g (h.lo g e)),h.lo,h.tt.am a⟩
theorem j2.at:∀{e:List Qn} {a:Xm},j2 w N e a->∀{k:Nat} {q:Qn},e[k]?=some q->∃f b,a[k*3]?=some f/\a[k*3+1]?=some (xI q.a)/\a[k*3+2]?=some b/\hB w N q f b:=by
 intro e;induction e with
 | nil=>intro a _ k q h;simp at h
 | cons y e x =>
   rintro a ⟨f,v,z,rfl,r,s,t,u⟩ k q g;cases k with
   | zero=>simp at g;subst g;exact⟨f,v,rfl,rfl,rfl,r,s,t⟩
   | succ k =>
     obtain⟨i,j,l,m,o,p⟩:=x u (by simpa using g);refine⟨i,j,?_,?_,?_,p⟩
     . rw[show (k+1)*3=k*3+1+1+1 by omega];simpa using l
     . rw[show (k+1)*3+1=k*3+1+1+1+1 by omega];simpa using m
     rw[show (k+1)*3+2=k*3+2+1+1+1 by omega];simpa using o
theorem lj {n r:Nat}{a:Xp}{l:List Qn}{o:Xm}(h:w.ownsRow 0 161 3 (.slice a n r) n o)(x:j2 w N l o){k:Nat}(m:l[k]?=some q)(A:n=l.length) :
 ∃g e b,a=some (xD g 0)/\w.cell? (xD g (k*3))=some e/\w.cell? (xD g (k*3+1))=some (xI q.a)/\w.cell? (xD g (k*3+2))=some b/\hB w N q e b:=by
 have y:=(aB.1 m).1;obtain⟨g,p,z,_⟩:=zM h (by omega);cases z;obtain⟨e,b,s,t,u,v⟩:=x.at m;have i:=h.cells (g:=g) rfl;have f:∀j,((xD g 0):Addr).add j=⟨g,j,none⟩:=λj=>by cases j <;> simp[Addr.add]
 refine⟨g,e,b,rfl,?_,?_,?_,v⟩
 . have:=i _ _ s;rwa [f] at this
 . have:=i _ _ t;rwa [f] at this
 have:=i _ _ u;rwa [f] at this
def mu (q:Qn)(b:Xv)(t:Tm)(v:Xv):Prop:=(t=q.r/\v=b)∨cc t<cc q.r
theorem mu.sub {t:Tm}{v:Xv}(h:mu q b t v){u:Tm}(x:Xv)(f:u∈t.ts):mu q b u x:=by
 have e:cc u<cc t:=by
  cases t with
  | mk k a s nm n g=>have:=mA f;simp only[cc];simp only[Tm.ts] at this;omega
 right;rcases h with ⟨rfl,_⟩|h
 . exact e
 omega
structure nX {σ:Type} (N:Nat) (T:Xj) (F:FuncId) (c:Xa) (d:Tm->Prop) (n:ay) (ad:σ->Qn->Tm->σ) (I:σ->World->Prop):Prop where
 enters:zH F
 hT:∀k,T k->N<=k
 aq:∀s w w',I s w->xB w w'->I s w'
 sub:∀t u,d t->u∈t.ts->d u
 root:∀q∈n.eqs,d q.r
 call:∀q lv b t v s w,q∈n.eqs->hB w N q lv b->TT w N t v->mu q b t v->N<=w.heap.size->I s w->d t->xK F (#[.agg #[lv,xI q.a,b],v]++c) w (λe w'=>e=.returned (.bool true)/\I (ad s q t) w'/\Fr T w w')
theorem J2:zH 174:=λ_ _=>by kernel_rfl
theorem Jb {σ:Type}{ad:σ->Qn->Tm->σ}{I:σ->World->Prop}(g:nX N T F c d n ad I)(q:Qn)(M:q∈n.eqs)(A b:Xv)(k m:Nat)(y:¬T k)(z:¬T m)(K:N<=k) :
 p4 N T 174 #[xP k,xP m] (λt v=>d t/\mu q b t v) b8 (λs t=>ad s q t) (λs w=>I s w/\xH w k #[.func (.func F) #[] c] 219/\xH w m #[A,xI q.a,b] 161/\hB w N q A b) where
 enters:=J2
 hT:=g.hT
 aq:=λs w P h o=>⟨g.aq s w P h.1 o,(o.block _ (ze h.2.1)).trans h.2.1,(o.block _ (ze h.2.2.1)).trans h.2.2.1,h.2.2.2.am (zm o (by have:=ze h.2.1;omega))⟩
 sub:=λt v u x h D=>⟨g.sub t u h.1 D,h.2.sub x D⟩
 call:=by
  intro t v s w hT C J r;obtain⟨l,i,j,B⟩:=J;obtain⟨Q,R,E⟩:=zu i;obtain⟨S,U,V,W,O⟩:=zL j;have G:=g.call q A b t v s w M B hT r.2 C l r.1;have L:∀(f:Xa) (w:Xw),(callFunc F f).run prog w=.ok (.enter F f) w:=g.enters;have H:=E;clear l r hT
  show Calls prog _ #[v,xP k,xP m] w _;go_enter func174,ntmps174;go_wp2_with fail;with_reducible refine G.mono ?_
  rintro e X ⟨rfl,p,a⟩;go_wp2_with fail;go_ret;exact⟨rfl,⟨p,(a.block _ E y).trans i,(a.block _ O z).trans j,B.am (a.am C g.hT)⟩,a⟩
theorem rD {σ:Type}{ad:σ->Qn->Tm->σ}{I:σ->World->Prop}(v:nX N T F c d n ad I)(O:Nat)(vs X:Xv)(xs:Xm)(s:σ)(w:Xw)(o:NT w N n O vs X xs)(hN:N<=w.heap.size)(u:∀k,T k->k<w.heap.size)(M:I s w) :
 xK 104 #[xP O,.func (.func F) #[] c] w (λe P=>e=.returned (.tuple #[])/\I (n.eqs.foldl (λs q=>(bh b8 q.r).foldl (λs t=>ad s q t) s) s) P/\Fr T w P):=by
 obtain⟨h0,h1,h2,Z,L,h5,a3,a4⟩:=zt o.aC;obtain⟨x,a2,rfl⟩:=zB o.own;have G:=v.aq s w (w.alloc (.cells #[.func (.func F) #[] c] 219)) M (zq w _);have Y:n.eqs.length<=9223372036854775807:=by
  rcases o.own.2 with ⟨_,o⟩|⟨g,R,S,hv,_,_,Z,L,_⟩
  . omega
  unfold maxLen at L;omega
 have ar:=o.lo;clear M;go_enter func104,ntmps104;go_wp2_with fail;go_loopg [11] (n.eqs.length+1) (λj i wr=>∃k:Nat,k+j=n.eqs.length+1/\k<=n.eqs.length/\i=xI k/\(I ((n.eqs.take k).foldl (λs q=>(bh b8 q.r).foldl (λs t=>ad s q t) s) s) wr)/\(xH wr w.heap.size #[.func (.func F) #[] c] 219)/\(Fr T w wr));case atStart=>exact⟨0,by omega,aE _,rfl,G,zc w _,(Fr.refl T w).alloc _⟩
 case round =>
  obtain⟨k,al,ak,rfl,l,p,f⟩:=hrel;have A:bV N w wr:=f.am hN v.hT;have a0:=f.size;have B:=ze p;by_cases J:k<n.eqs.length
  . obtain⟨q,C⟩:∃q,n.eqs[k]?=some q:=⟨_,av J⟩;have m:=o.am A;obtain⟨g,lv,b,rfl,c0,c1,c2,y⟩:=lj m.own m.eqs C rfl;obtain⟨D,_,_,rfl,_⟩:=y.tt.ptr;obtain⟨K,H,rfl⟩:=zB y.own;have h:=Jb v q (aM C) (.slice K q.ns.length H) (xP D) w.heap.size wr.heap.size (λe=>by have:=u _ e;omega) (λe=>by have:=u _ e;omega) (by omega);have a:bV N wr (wr.alloc (.cells #[.slice K q.ns.length H,xI q.a,xP D] 161)):=λk ak=>Below.heap_alloc _ _ _ (by omega);have Q:=xN h q.r (xP D) _ (wr.alloc (.cells #[.slice K q.ns.length H,xI q.a,xP D] 161)) (y.tt.am a) (by rw[au];omega) ⟨v.aq _ _ _ l (zq wr _),(Below.heap_alloc _ _ _ B).trans p,zc wr _,y.am a⟩ ⟨v.root q (aM C),ao ⟨rfl,rfl⟩⟩;clear m y h a A;go_wp2_with (go_at_call 173;refine Q.mono ?_;rintro e a5 ⟨rfl,r,z⟩;have E:=(((f.alloc _).trans z));clear z);go_roundg (gk-1);case measure=>omega
    refine⟨k+1,by omega,by omega,by go_num,?_,r.2.1,E⟩;obtain⟨U,V⟩:=aB.1 C;rw[List.take_succ_eq_append_getElem U,V,bc];exact r.1
  have W:k=n.eqs.length:=by omega
  subst W;rw[List.take_length] at l;go_wp2_with fail;first|go_end0|refine bodyPost_ret (results_none rfl _ _ _) rfl ?_
  exact⟨rfl,l,f⟩
end
section
open Go.RowKit
variable {a d c f:Nat} {S:Xs} {g:Xo} {i j:Xv} {w:Xw}
attribute [local go_sem ↓] Go.wp_at_zero Go.wp_at_succ
def gI (S:Xs)(d:Nat):Option Nat->Value
 | none=>.nilIface
 | some p=>.iface 58 (.agg #[aW S d,xI p])
structure cl (S:Xs) (d c a f:Nat) (j i:Xv) (g:Xo) (w:Xw):Prop where
 l:w.heap[c]?=some (.cells #[gI S d g] 42 (0,0))
 b:w.heap[a]?=some (.cells #[xI (g.getD 0:Nat)] 3 (0,0))
 s:w.heap[f]?=some (.cells #[j,aW S d,i] 117 (0,0))
 n1:c≠a
 n2:c≠f
 n3:a≠f
def RT (c a:Nat)(k:Nat):Prop:=k=c∨k=a
def bT (c a f:Nat):Value:=.func (.func 124) #[] #[xP c,xP a,xP f]
theorem cl.aq {e:Xw}(h:cl S d c a f j i g w)(b:xB w e):cl S d c a f j i g e :=
 ⟨(b.block _ (ze h.l)).trans h.l,(b.block _ (ze h.b)).trans h.b,(b.block _ (ze h.s)).trans h.s,h.n1,h.n2,h.n3⟩
theorem r2 {b:Nat}{e:Xy}{k:Xv}(h:xH w b #[k] e)(v:Xv):xH (w.setCell (xD b 0) v) b #[v] e:=zh _ _ _ _ h
theorem yd {b:Xw}(h:cl S d c a f j i g w)(l:xB w b)(p:Nat) :
 cl S d c a f j i (some p) ((b.setCell (xD c 0) (gI S d (some p))).setCell (xD a 0) (xI p))/\Fr (RT c a) w ((b.setCell (xD c 0) (gI S d (some p))).setCell (xD a 0) (xI p)):=by
 have k:=h.aq l;refine⟨⟨(zr h.n1 rfl).trans (r2 k.l _),r2 ((zr (λe=>h.n1 e.symm) rfl).trans k.b) _,(zr (λe=>h.n3 e.symm) rfl).trans ((zr (λe=>h.n2 e.symm) rfl).trans k.s),h.n1,h.n2,h.n3⟩,?_⟩;have m:Fr (RT c a) w b:=Fr.dp l;exact (m.setCell (ao (ao rfl)) _).setCell (ao (ap rfl)) _
theorem eg (S:Xs)(d c a f:Nat)(j i:Xv)(g:Xo)(p:Nat)(w:Xw)(H:cl S d c a f j i g w) :
 xK 124 #[xI p,xP c,xP a,xP f] w (λe x=>e=.returned (.tuple #[])/\cl S d c a f j i (aj g p) x/\Fr (RT c a) w x):=by
 obtain⟨v,G,I⟩:=zu H.l;obtain⟨u,E,F⟩:=zu H.b;obtain⟨K,C,L,M,N⟩:=zL H.s;have J:¬c=a:=H.n1;have B:¬a=c:=λe=>H.n1 e.symm;unfold aW at C;cases g with
 | none => have l:aj none p=some p:=rfl;rw[l];unfold gI at v;go_enter func124,ntmps124;go_wp2_with (go_at_call 31;refine (py S d p _).mono ?_;rintro e D ⟨rfl,k⟩;have h:=H.aq k;obtain⟨A,s,t⟩:=zu h.l;obtain⟨z,n,o⟩:=zu h.b;clear h);go_end0;obtain⟨q,r⟩:=yd H k p;exact⟨rfl,q,r⟩
 | some b =>
   unfold gI at v;have y:xC w a 0 (xI (b:Nat)):=u;clear u;by_cases m:p<b
   . have l:aj (some b) p=some p:=(by show (if p<b then some p else some b)=_;rw[ag m]);rw[l];go_enter func124,ntmps124;go_wp2_with (go_at_call 31;refine (py S d p _).mono ?_;rintro e D ⟨rfl,k⟩;have h:=H.aq k;obtain⟨A,s,t⟩:=zu h.l;obtain⟨z,n,o⟩:=zu h.b;clear h);go_end0;obtain⟨q,r⟩:=yd H k p;exact⟨rfl,q,r⟩
   have l:aj (some b) p=some b:=(by show (if p<b then some p else some b)=_;rw[ae m]);rw[l];go_enter func124,ntmps124;go_wp2_with fail;go_end0;exact⟨rfl,H,Fr.refl _ w⟩
theorem rq {N:Nat}{t:Tm}{v:Xv}(w:Xw)(h:TT w N t v) :
 xK 106 #[v] w (λe u=>e=.returned (.bool (ch t.k))/\w=u):=by
 obtain⟨b,m,G,rfl,D,l,_⟩:=h.ptr;obtain⟨x,y,z,A,B,C,E,F⟩:=zt l;clear h;have s:t.k=3∨t.k=7∨t.k=8∨t.k=6∨(t.k≠3/\t.k≠7/\t.k≠8/\t.k≠6):=by omega
 generalize t.k=k at *;rcases s with rfl|rfl|rfl|rfl|⟨n,o,p,q⟩
 . go_enter func106,ntmps106;go_wp2_with fail;go_ret;exact⟨rfl,rfl⟩
 . go_enter func106,ntmps106;go_wp2_with fail;go_ret;exact⟨rfl,rfl⟩
 . go_enter func106,ntmps106;go_wp2_with fail;go_ret;exact⟨rfl,rfl⟩
 . go_enter func106,ntmps106;go_wp2_with fail;go_ret;exact⟨rfl,rfl⟩
 have d1:((k:Int)==3)=false:=by simp;omega
 have d2:((k:Int)==7)=false:=by simp;omega
 have d3:((k:Int)==8)=false:=by simp;omega
 have d4:((k:Int)==6)=false:=by simp;omega
 have r:aa (ch k=false):=by unfold aa ch;simp[n,o,p,q]
 clear n o p q;go_enter func106,ntmps106;go_wp2_with fail;go_ret;exact⟨by rw[r.o];rfl,rfl⟩
end
section
open Go.RowKit
variable {N:Nat} {t:Tm} {v:Xv} {w:Xw}
attribute [local go_sem ↓] Go.wp_at_zero Go.wp_at_succ
theorem zI {B:Nat}{a:Xw}(h:Below B a w)(n:Nat):Below B a (w.drewN n):=⟨h.os,h.tape,h.output,h.size,h.block⟩
theorem Tryz.tD:(prog.info? 216).map (·.size)=some 6:=by kernel_rfl
theorem JL (b:Nat)(w:Xw):(binOp .eql 159 (xP b) (xP b)).run prog w=.ok (.bool true) w:=by
 cases h:prog.info? 216 with
 | none=>have:=Tryz.tD;rw[h] at this;cases this
 | some j=>exact run_eql_ptr_same w _ underlying159 h
theorem IW {b c:Nat}{f g:Xa}{t1 t2:Xy}(d:b≠c)(i:xH w b f t1)(k:xH w c g t2):(binOp .eql 159 (xP b) (xP c)).run prog w=.ok (.bool false) w:=by
 have a:=Tryz.tD;cases h:prog.info? 216 with
 | none=>rw[h] at a;cases a
 | some j =>
   rw[h] at a;have:j.size=6:=by simpa using a
   exact run_eql_ptr_other w underlying159 h (by omega) (by intro e;cases e;exact d rfl) i k
theorem JA {q:Qn}{k g:Xv}(w:Xw)(d:hB w N q k g)(i:TT w N t v)(m:mu q g t v) :
 xK 108 #[.agg #[k,xI q.a,g],v] w (λe p=>e=.returned (xI (hp q t:Nat))/\xB w p):=by
 obtain⟨b,_,_,rfl,_,j,_⟩:=i.ptr;obtain⟨l,_,_,rfl,_,a,_⟩:=d.tt.ptr;obtain⟨x,r,rfl⟩:=zB d.own;by_cases f:b=l
 . subst f;have e:=i.Ar d.tt;have c:aa (hp q t=q.ns.length):=by unfold aa hp;rw[e,ag rfl]
   have n:=JL b;go_enter func108,ntmps108;go_wp2_with fail;go_ret;exact⟨by rw[c.o];rfl,zq _ _⟩
 have c:aa (hp q t=1):=by
  unfold aa hp;rcases m with ⟨_,e⟩|h
  . cases e;exact absurd rfl f
  rw[ae (by omega)]
 have n:=λo=>IW (w:=w.alloc o) f ((Below.heap_alloc _ _ _ (ze j)).trans j) ((Below.heap_alloc _ _ _ (ze a)).trans a);go_enter func108,ntmps108;go_wp2_with fail;go_ret;exact⟨by rw[c.o];rfl,zq _ _⟩
theorem Jo {c:Sc}{ev a5:Xv}(u:Nat)(w:Xw)(x:br w N c ev a5)(hN:N<=w.heap.size)(Q:c.er.length<=6)(hT:TT w N t v) :
 xK 107 #[.agg #[ev,a5],v,xI u] w (λe l=>e=.returned (.bool (c.fits t u))/\xB w l):=by
 obtain⟨b,a3,vs,rfl,bE,n,P,O,_⟩:=hT.ptr;obtain⟨a9,J,rfl⟩:=zB P;obtain⟨ar,y,Z,rfl,rfl,_⟩:=x.shape;have I:aa (c.fits t u=match c.called t.s with|none=>false|some d=>d.nd.ah==t.ts.length&&d.nd.aG==u):=rfl;have B:vs.length=t.ts.length:=O;have U:=ze n;rw[B] at n;go_enter func107,ntmps107;go_upto_region 1 with fail;refine zn (λW=>(xH W w.heap.size #[xE ar c y,xP Z] 205)/\xB w W) ⟨zc w _,zq w _⟩ ?_;rintro W ⟨be,H⟩;obtain⟨b2,s1,b3,b4⟩:=zp be;obtain⟨h0,h1,h2,h3,h4,h5,bL,b1⟩:=zt ((H.block b U).trans n);have a4:=zm H hN;have K:N<=W.heap.size:=by omega
 have L:=x.am (w':=W.drew) a4;have M:=λo=>x.am (w':=(W.alloc o).drew) (a4.trans (λk b0=>Below.heap_alloc _ _ _ (by omega)));cases g:c.called t.s with
 | none =>
   rw[g] at I;have p:=za (o5 t.s (t.nm:Int) W.drew L K Q g);have q:=za (λo=>o5 t.s (t.nm:Int) (W.alloc o).drew (M o) (by show N<=(W.alloc o).heap.size;simp;omega) Q g)
   go_region_held3 (λl=>l.cell? (xD w.heap.size 0)=some (xE ar c y)/\l.cell? (xD w.heap.size 1)=some (xP Z)/\l.cell? (xD b 2)=some (.string t.s)/\l.cell? (xD b 3)=some (xI t.nm))
    (first|(with_reducible (refine⟨?_,?_,?_,?_⟩ <;> repeat (first|assumption|refine zg ?_|refine zj _ ?_|refine zk (by omega) ?_|refine zd a.o ?_ (by first|omega|(rw[au];omega)))))|go_keep)
    (first
      | (go_at_call 100;refine p.o.mono ?_;rintro e R ⟨rfl,i⟩;have a:=za (zw i))
      | (go_at_call 100;refine (q.o _).mono ?_;rintro e R ⟨rfl,i⟩;have a:=za (zw i);obtain⟨bs,a2,bt,bx⟩:=zp ((a.o.block W.heap.size (by rw[au];omega)).trans (zc W _))))
   . go_wp2_with fail;go_quiet (fail);go_wp2_with fail;go_ret;exact⟨by rw[I.out];rfl,zI ((H.trans (a.o.mono (by omega))).alloc (by have:=a.o.size;omega) _) _⟩
   go_wp2_with fail;go_quiet (fail);go_wp2_with fail;go_ret;exact⟨by rw[I.out];rfl,zI (zC (zC (H.trans ((zE a.o).mono (by omega))) (by omega) _) (by omega) _) _⟩
 | some d =>
   rw[g] at I;have p:=za (ji t.s (t.nm:Int) W.drew L K Q g);have q:=za (λo=>ji t.s (t.nm:Int) (W.alloc o).drew (M o) (by show N<=(W.alloc o).heap.size;simp;omega) Q g)
   go_region_held3 (λl=>l.cell? (xD w.heap.size 0)=some (xE ar c y)/\l.cell? (xD w.heap.size 1)=some (xP Z)/\l.cell? (xD b 2)=some (.string t.s)/\l.cell? (xD b 3)=some (xI t.nm))
    (first|(with_reducible (refine⟨?_,?_,?_,?_⟩ <;> repeat (first|assumption|refine zg ?_|refine zj _ ?_|refine zk (by omega) ?_|refine zd a.o ?_ (by first|omega|(rw[au];omega)))))|go_keep)
    (first
      | (go_at_call 100;refine p.o.mono ?_;rintro e R ⟨x2,S,G,rfl,E,i⟩;have a:=za (zw i);have s:=za E)
      | (go_at_call 100;refine (q.o _).mono ?_;rintro e R ⟨x2,S,G,rfl,E,i⟩;have a:=za (zw i);have s:=za E;obtain⟨bs,a2,bt,bx⟩:=zp ((a.o.block W.heap.size (by rw[au];omega)).trans (zc W _))))
   . go_wp2_with fail;obtain⟨bp,al,ak,a0,T,m⟩:=s.o.nd;cases T;obtain⟨m0,m1,m2,X,Y,m5,bk,bl⟩:=zt m.aC;have V:=m.lo;have F:=a.o.size;try rw[au] at F
     refine zn (λj=>(j.cell? (xD R.heap.size 1)=some (xP G)/\j.cell? (xD G 3)=some (xI d.nd.ah)/\j.cell? (xD G 4)=some (xI d.nd.aG)/\j.cell? (xD b 5)=some (.slice a9 t.ts.length J))/\xB w j) ⟨⟨?_,?_,?_,?_⟩,((H.trans (a.o.mono (by omega))).alloc (by omega) _)⟩ ?_
     . first|(simp;done)|exact xb (xc a2)
     . repeat (first|with_reducible exact X|with_reducible refine zj _ ?_|with_reducible refine zk (by omega) ?_)
     . repeat (first|with_reducible exact Y|with_reducible refine zj _ ?_|with_reducible refine zk (by omega) ?_)
     . repeat (first|with_reducible exact h5|with_reducible refine zj _ ?_|with_reducible refine zk (by omega) ?_|with_reducible refine zd a.o ?_ (by first|omega|(rw[au];omega)))
     rintro j ⟨⟨g0,g1,g2,g3⟩,h⟩;have r:aa (c.fits t u=(d.nd.ah==t.ts.length&&d.nd.aG==u)):=I.out;by_cases z:d.nd.ah=t.ts.length
     . have A:((d.nd.ah:Int)==(t.ts.length:Int))=true:=(by simp[z]);by_cases C:d.nd.aG=u
       . have D:((d.nd.aG:Int)==(u:Int))=true:=(by simp[C]);have f:aa (c.fits t u=true):=(by unfold aa;rw[r.o];simp[z,C]);go_quiet (fail);go_wp2_with fail;go_ret;exact⟨by rw[f.o];rfl,zI h _⟩
       have D:((d.nd.aG:Int)==(u:Int))=false:=(by simp;omega);have f:aa (c.fits t u=false):=(by unfold aa;rw[r.o];simp[C]);go_quiet (fail);go_wp2_with fail;go_ret;exact⟨by rw[f.o];rfl,zI h _⟩
     have A:((d.nd.ah:Int)==(t.ts.length:Int))=false:=(by simp;omega);have f:aa (c.fits t u=false):=(by unfold aa;rw[r.o];simp[z]);go_quiet (fail);go_wp2_with fail;go_ret;exact⟨by rw[f.o];rfl,zI h _⟩
   go_wp2_with fail;obtain⟨bp,al,ak,a0,T,m⟩:=s.o.nd;cases T;obtain⟨m0,m1,m2,X,Y,m5,bk,bl⟩:=zt m.aC;have V:=m.lo;have F:=a.o.size;try rw[au] at F
   refine zn (λj=>(j.cell? (xD W.heap.size 1)=some (xP G)/\j.cell? (xD G 3)=some (xI d.nd.ah)/\j.cell? (xD G 4)=some (xI d.nd.aG)/\j.cell? (xD b 5)=some (.slice a9 t.ts.length J))/\xB w j) ⟨⟨?_,?_,?_,?_⟩,(zC (zC (H.trans ((zE a.o).mono (by omega))) (by omega) _) (by omega) _)⟩ ?_
   . first|(simp;done)|exact xb (xc a2)
   . repeat (first|with_reducible exact X|with_reducible refine zj _ ?_|with_reducible refine zk (by omega) ?_)
   . repeat (first|with_reducible exact Y|with_reducible refine zj _ ?_|with_reducible refine zk (by omega) ?_)
   . repeat (first|with_reducible exact h5|with_reducible refine zj _ ?_|with_reducible refine zk (by omega) ?_|with_reducible refine zd a.o ?_ (by first|omega|(rw[au];omega)))
   rintro j ⟨⟨g0,g1,g2,g3⟩,h⟩;have r:aa (c.fits t u=(d.nd.ah==t.ts.length&&d.nd.aG==u)):=I.out;by_cases z:d.nd.ah=t.ts.length
   . have A:((d.nd.ah:Int)==(t.ts.length:Int))=true:=(by simp[z]);by_cases C:d.nd.aG=u
     . have D:((d.nd.aG:Int)==(u:Int))=true:=(by simp[C]);have f:aa (c.fits t u=true):=(by unfold aa;rw[r.o];simp[z,C]);go_quiet (fail);go_wp2_with fail;go_ret;exact⟨by rw[f.o];rfl,zI h _⟩
     have D:((d.nd.aG:Int)==(u:Int))=false:=(by simp;omega);have f:aa (c.fits t u=false):=(by unfold aa;rw[r.o];simp[C]);go_quiet (fail);go_wp2_with fail;go_ret;exact⟨by rw[f.o];rfl,zI h _⟩
   have A:((d.nd.ah:Int)==(t.ts.length:Int))=false:=(by simp;omega);have f:aa (c.fits t u=false):=(by unfold aa;rw[r.o];simp[z]);go_quiet (fail);go_wp2_with fail;go_ret;exact⟨by rw[f.o];rfl,zI h _⟩
end
end Go.Proofs.YtmfkofhgdjechaaGreatDoor
