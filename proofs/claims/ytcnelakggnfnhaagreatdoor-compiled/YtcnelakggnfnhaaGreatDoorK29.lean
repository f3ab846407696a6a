/- Part 30. -/
import Derived.Test.YtcnelakggnfnhaaGreatDoorK28
set_option maxRecDepth 100000
set_option maxHeartbeats 8000000
namespace Go.Proofs.YtcnelakggnfnhaaGreatDoor
open Go.Proofs.Tryz
section
theorem aK.bk {a b:St}(h:aK a b)(e:b.er=0):a.er=0:=by
 by_cases c:a.er=0
 . exact c
 rw[(h c).1] at e;exact absurd e c
theorem Nz.type {a:St}(h:Nz a):Nz (z9 a):=by unfold z9;split;exact h.ad;exact h.ac _ _
theorem Nz.hb {a:St}(h:Nz a):Nz (aS a):=by unfold aS;split;exact h.ad;exact h
section
variable {a:St} {b:List Vr} {i o:Bool}
theorem acj (h:Nz a):Nz (zx i o a b).1:=by
 unfold zx;split
 . exact h.fail (by decide) _
 simp only;split
 . exact (((h.name.ac _ _).type).ad.hb).name
 exact (h.name.ac _ _).type
theorem acx (h:Nz a)(c:(zx i o a b).1.er=0):∃v,(zx i o a b).2=b++[v]/\aac v/\v.bn=i/\v.out=o:=by
 unfold zx at c ⊢;split
 . rename_i j
   rw[ag j] at c;exact absurd c (St.cy _ (by decide))
 rename_i j
 rw[ae j] at c;simp only at c ⊢;split
 . rename_i d
   rw[ag d] at c;have l:=(h.name.ac 4 [58]).type;have g:=aaC c;have k:(aS (z9 (a.name.ac 4 [58])).ad).er=0:=(aK.name _).bk c;have f:a.name.er=0:=(aK.ac _ 4 [58]).bk ((Da _).bk ((aK.ad _).bk ((Dq _).bk k)));simp only[Bool.and_eq_true,Bool.not_eq_true'] at d;exact⟨_,rfl,⟨h.nm (aaC f),λ_=>⟨l.ad.hb.nm g,d.1.2,d.2⟩,λe=>by cases e⟩,rfl,rfl⟩
 rename_i d
 rw[ae d] at c;have f:a.name.er=0:=(aK.ac _ 4 [58]).bk ((Da _).bk c);exact⟨_,rfl,⟨h.nm (aaC f),λe=>(by cases e),λ_=>⟨rfl,rfl⟩⟩,rfl,rfl⟩
end
theorem agN {a:St}(h:Nz a):Nz (aZ a).st/\((aZ a).st.er=0->∀s∈(aZ a).ns,Z9 s):=by
 have k:∀(f:Nat) (x:dI),Nz x.st->(x.st.er=0->∀s∈x.ns,Z9 s)->Nz (cX f x).st/\((cX f x).st.er=0->∀s∈(cX f x).ns,Z9 s):=by
  intro f;induction f with
  | zero=>intro x b c;exact⟨b,c⟩
  | succ f j =>
    intro x b c;unfold cX;split
    . rename_i i
      refine j x.more b.ad.name (λe s hs=>?_);rcases bj.1 (show s∈x.ns++[x.st.ad.t.s] from hs) with hs|hs
      . exact c i.1 s hs
      rw[cu.1 hs];exact b.ad.nm (aaC e)
    exact⟨b,c⟩
 unfold aZ;split
 . unfold iG;simp only;have d:=h.ad.name.ac 4 [44];have:=k 1300 ⟨(a.ad.name.ac 4 [44]).name,[a.ad.t.s,(a.ad.name.ac 4 [44]).t.s],[a.ad.t.a,(a.ad.name.ac 4 [44]).t.a]⟩ d.name (λe s hs=>by
    have g:(a.ad.name.ac 4 [44]).er=0:=(aK.name _).bk e;simp only[cC,List.not_mem_nil,or_false] at hs;rcases hs with rfl|rfl
    . exact h.ad.nm (aaC ((aK.ac _ 4 [44]).bk g))
    exact d.nm (aaC e))
   exact⟨this.1.ac _ _,λe=>this.2 ((aK.ac _ 4 [41]).bk e)⟩
 exact⟨h.name,λe s hs=>by rw[cu.1 hs];exact h.nm (aaC e)⟩
end
section
variable {a:St}
theorem aK.enter (a:St):aK a a.enter:=λh=>by
 unfold St.enter;split
 . exact aK.fail ({ a with op:=a.op+1 }:St) _ _ h
 exact aK.ad ({ a with op:=a.op+1 }:St) h
theorem adK (a:St):(aZ a).ns.length<=1302:=by
 unfold aZ;split
 . have:=vh 1300 ⟨(a.ad.name.ac 4 [44]).name,[a.ad.t.s,(a.ad.name.ac 4 [44]).t.s],[a.ad.t.a,(a.ad.name.ac 4 [44]).t.a]⟩;exact aJ this (by simp)
 simp
structure aax (L:List Ex) (e:ax):Prop where
 ns:∀s∈e.ns,Z9 s
 one:1<=e.ns.length
 len:e.ns.length<=1302
 call:e.ns.length≠1->∃x,L[e.ex]?=some x/\x.op=fL
theorem aax.more {L b:List Ex}{e:ax}(h:aax L e)(g:L <+: b):aax b e:=⟨h.ns,h.one,h.len,λf=>by
 obtain⟨x,c,d⟩:=h.call f;obtain⟨E,rfl⟩:=g;exact⟨x,by rw[e9 (aB.1 c).1];exact c,d⟩⟩
theorem vn (s:St)(e:Ex):(s.put e).1.L[(s.put e).2]?=some e:=by show (s.L++[e])[s.L.length]?=_;rw[e8 (an _),Nat.sub_self];rfl
theorem af2 {b:Fn}(c:Z7 b){tk:Tk}(g:a.er=0->Z9 tk.s)(h:Nz a):Nz (Fs b tk a).1/\((Fs b tk a).1.er=0->a.er=0/\∃x,(Fs b tk a).1.L[(Fs b tk a).2]?=some x/\x.op=fL):=by
 unfold Fs;split
 . simp only;unfold cL;have d:=aco c 1300 ((b a.enter).1,[(b a.enter).2]) (c.go _ h.enter);have f:((cY b 1300 ((b a.enter).1,[(b a.enter).2])).1.ac 4 [41]).aI.er=0->a.er=0:=λe=>(aK.enter a).bk (c.er (d.2 (aaS e)));refine⟨((d.1.ac _ _).aI).put (λe=>⟨λ_=>g (f e),λe=>absurd e (by show ¬aaq fL.toList=false;decide +kernel)⟩),λe=>⟨f e,?_⟩⟩;exact⟨_,vn _ _,rfl⟩
 exact⟨h.fail (by decide) _,λe=>absurd e (St.cy _ (by decide))⟩
theorem afF (a:St):1<=(aZ a).ns.length/\(a.is 4 [40]=false->(aZ a).ns.length=1):=by
 have d:∀(f:Nat) (x:dI),x.ns.length<=(cX f x).ns.length:=by
  intro f;induction f with
  | zero=>intro x;exact an _
  | succ f c =>
    intro x;unfold cX;split
    . refine aJ ?_ (c x.more)
      show x.ns.length<=(x.ns++[x.st.ad.t.s]).length;simp
    exact an _
 unfold aZ;split
 . rename_i b
   refine⟨?_,λe=>by rw[b] at e;cases e⟩;unfold iG;simp only;exact aJ (by simp) (d 1300 _)
 exact⟨an _,λ_=>rfl⟩
theorem afq {b c:Fn}(k:Z7 b)(g:Z7 c)(h:Nz a)(f:List ax) :
 Nz (zF b c a f).1/\((zF b c a f).1.er=0->∃e,(zF b c a f).2=f++[e]/\aax (zF b c a f).1.L e):=by
 unfold zF;simp only;obtain⟨t,n⟩:=agN h;obtain⟨o,u⟩:=afF a;have j:=t.ac 4 [61];obtain⟨d,i⟩:∃d,(aZ a).st.ac 4 [61]=d:=⟨_,rfl⟩;have l:d.er=0->(aZ a).st.er=0:=λe=>aaS (by rw[i];exact e);rw[i] at j ⊢;cases r:a.is 4 [40] with
 | false => show Nz ((c d).1.ac 4 [59])/\(((c d).1.ac 4 [59]).er=0->_);refine⟨(g.go _ j).ac _ _,λe=>⟨_,rfl,⟨n (l (g.er (aaS e))),o,adK a,λq=>absurd (u r) q⟩⟩⟩
 | true => show Nz ((Fs b d.t d.name).1.ac 4 [59])/\(((Fs b d.t d.name).1.ac 4 [59]).er=0->∃e,f++[⟨(aZ a).ns,(aZ a).ps,(aZ a).st.t.a,(Fs b d.t d.name).2⟩]=f++[e]/\aax ((Fs b d.t d.name).1.ac 4 [59]).L e);have m:=af2 k (tk:=d.t) (λe=>j.nm (aaC e)) j.name;refine⟨m.1.ac _ _,λe=>⟨_,rfl,?_⟩⟩;obtain⟨p,s⟩:=m.2 (aaS e);rw[St.bi];exact⟨n (l ((aK.name d).bk p)),o,adK a,λ_=>s⟩
end
section
variable {vs:List Vr} {st:St}
def Vz (i o:Bool)(vs:List Vr):Prop:=∀v∈vs,aac v/\v.bn=i/\v.out=o
section
variable {i:Bool}
theorem ac8:∀(f:Nat) (x:St×List Vr) (vs:List Vr),Nz x.1->(x.1.er=0->∃a,x.2=vs++a/\Vz i (!i) a/\1<=a.length)->Nz (MG i f x).1/\((MG i f x).1.er=0->∃a,(MG i f x).2=vs++a/\Vz i (!i) a/\1<=a.length)
 | 0,x,vs,h,b=>⟨h,b⟩
 | f+1,x,vs,h,b=>by
   unfold MG;split
   . rename_i k
     refine ac8 f _ vs (acj h.ad) (λe=>?_);obtain⟨v,c,d,g,j⟩:=acx h.ad e;obtain⟨a,f1,f2,f3⟩:=b k.1;refine⟨a++[v],by rw[c,f1,bw],λu hu=>?_,by simp⟩;rcases bj.1 hu with hu|hu
     . exact f2 u hu
     rw[cu.1 hu];exact⟨d,g,j⟩
   exact⟨h,b⟩
theorem adX (h:Nz st):Nz (bW i st vs).1/\((bW i st vs).1.er=0->∃a,(bW i st vs).2=vs++a/\Vz i (!i) a/\1<=a.length):=by
 unfold bW;simp only;have:=ac8 (i:=i) 1300 (zx i (!i) (st.ac 4 [40]) vs) vs (acj (h.ac _ _)) (λe=>by
  obtain⟨v,b,c,d,f⟩:=acx (h.ac 4 [40]) e;exact⟨[v],b,λu g=>by rw[cu.1 g];exact⟨c,d,f⟩,an _⟩)
 exact⟨this.1.ac _ _,λe=>this.2 (aaS e)⟩
end
theorem adz (h:Nz st):Nz (MN st vs).1/\((MN st vs).1.er=0->∃v,(MN st vs).2=vs++[v]/\aac v/\v.bn=false/\v.out=false):=by unfold MN;simp only;exact⟨(acj h).ac _ _,λe=>acx h (aaS e)⟩
theorem ac7:∀(f:Nat) (x:St×List Vr) (vs:List Vr),Nz x.1->(x.1.er=0->∃a,x.2=vs++a/\Vz false false a)->Nz (en f x).1/\((en f x).1.er=0->∃a,(en f x).2=vs++a/\Vz false false a)
 | 0,x,vs,h,b=>⟨h,b⟩
 | f+1,x,vs,h,b=>by
   unfold en;split
   . rename_i k
     have c:=adz (vs:=x.2) h;refine ac7 f _ vs c.1 (λe=>?_);obtain⟨v,d,g,i,j⟩:=c.2 e;obtain⟨a,f1,f2⟩:=b k.1;refine⟨a++[v],by rw[d,f1,bw],λu hu=>?_⟩;rcases bj.1 hu with hu|hu
     . exact f2 u hu
     rw[cu.1 hu];exact⟨g,i,j⟩
   exact⟨h,b⟩
theorem agK {f:Nat}(h:Nz st):Nz (bD f st vs).1/\((bD f st vs).1.er=0->∃c,(bD f st vs).2=vs++c/\Vz false false c):=by
 unfold bD;split
 . have b:=adz (vs:=vs) h.ad;exact ac7 f _ vs b.1 (λe=>by
    obtain⟨v,d,g,i,j⟩:=b.2 e;exact⟨[v],d,λu a=>by rw[cu.1 a];exact⟨g,i,j⟩⟩)
 exact⟨h,λ_=>⟨[],by simp,λu a=>by cases a⟩⟩
end
section
variable {p:Nat}
section
variable {a b:Fn}
theorem ado (c:zv 17 a)(d:zv 18 b)(f:Z7 a)(i:Z7 b){x:St×List ax}(o:Inv p x.1)(s:x.1.op=0)(h:Nz x.1)(t:x.1.er=0->∀e∈x.2,aax x.1.L e) :
 Nz (zF a b x.1 x.2).1/\((zF a b x.1 x.2).1.er=0->1<=(zF a b x.1 x.2).2.length/\∀e∈(zF a b x.1 x.2).2,aax (zF a b x.1 x.2).1.L e):=by
 have g:=gD c d (eqs:=x.2) o s;have k:=afq f i h x.2;refine⟨k.1,λe=>?_⟩;obtain⟨q,l,m⟩:=k.2 e;have r:x.1.er=0:=by
  by_cases j:x.1.er=0
  . exact j
  exact absurd e (g.1.er j)
 obtain⟨E,n⟩:=g.1.L;rw[l];refine⟨by simp,λu hu=>?_⟩;rcases bj.1 hu with hu|hu
 . exact (t r u hu).more ⟨E,n.symm⟩
 rw[cu.1 hu];exact m
theorem aec (c:zv 17 a)(d:zv 18 b)(i:Z7 a)(j:Z7 b):∀(f p:Nat) (x:St×List ax),Inv p x.1->x.1.op=0->Nz x.1->(x.1.er=0->1<=x.2.length/\∀e∈x.2,aax x.1.L e) ->
 Nz (bS a b f x).1/\((bS a b f x).1.er=0->1<=(bS a b f x).2.length/\∀e∈(bS a b f x).2,aax (bS a b f x).1.L e)
 | 0,p,x,_,_,h,k=>⟨h,k⟩
 | f+1,p,x,n,l,h,k=>by
   unfold bS;split
   . have g:=gD c d (eqs:=x.2) n l;have m:=ado c d i j n l h (λe=>(k e).2);exact aec c d i j f p _ g.1.af (g.2.trans l) m.1 m.2
   exact⟨h,k⟩
theorem agA (d:zv 17 a)(i:zv 18 b)(j:Z7 a)(k:Z7 b){f:Nat}{c:St}(q:Inv p c)(s:c.op=0)(h:Nz c) :
 Nz (dy a b f c).1/\((dy a b f c).1.er=0->1<=(dy a b f c).2.length/\∀e∈(dy a b f c).2,aax (dy a b f c).1.L e):=by
 unfold dy;simp only;have o:=ai.ac q 4 [123];have l:(c.ac 4 [123]).op=0:=by rw[St.a8,s]
 have g:=gD d i (eqs:=[]) o.af l;have m:=ado (x:=(c.ac 4 [123],[])) d i j k o.af l (h.ac _ _) (λ_ e r=>by cases r);have n:=aec d i j k f p _ g.1.af (g.2.trans l) m.1 m.2;generalize bS a b f _=X at *;refine⟨n.1.ac _ _,λe=>?_⟩;rw[St.bi];exact n.2 (aaS e)
end
end
section
variable {a:St}
structure abg (d:Nd):Prop where
 nm:Z9 d.nm
 ak:∃A B C,d.ak=A++(B++C)/\Vz true false A/\Vz false true B/\Vz false false C/\1<=A.length/\1<=B.length
 one:1<=d.eqs.length
 eqs:∀e∈d.eqs,aax d.az e
 az:∀e∈d.az,abl e
theorem agH (h:Nz a):Nz (aT a).1/\((aT a).1.er=0->Z9 (a.ac 5 zW).t.s/\∃A B,(aT a).2=A++B/\Vz true false A/\Vz false true B/\1<=A.length/\1<=B.length):=by have c:=h.ac 5 zW;have d:=adX (i:=true) (vs:=[]) c.name;have o:=sC true (a.ac 5 zW).name [];unfold aT;simp only;generalize bW true (a.ac 5 zW).name []=X at *;have f:=adX (i:=false) (vs:=X.2) (d.1.ac 4 [45,62]);have p:=sC false (X.1.ac 4 [45,62]) X.2;generalize bW false (X.1.ac 4 [45,62]) X.2=Y at *;refine⟨f.1,λe=>?_⟩;have b:X.1.er=0:=aaS (p.bk e);obtain⟨A,g,j,k⟩:=d.2 b;obtain⟨B,l,m,n⟩:=f.2 e;exact⟨c.nm (aaC (o.bk b)),A,B,by rw[l,g,List.nil_append],j,m,k,n⟩
section
variable {b c:Fn}
theorem aek (d:zv 17 b)(g:zv 18 c)(j:Z7 b)(k:Z7 c){f p:Nat}(E:Inv p a)(I:a.op=0)(h:Nz a):Nz (a7 b c f a).1/\((a7 b c f a).1.er=0->abg (a7 b c f a).2):=by
 have hF:Nz a.aw:=⟨h.tt,h.nm,λ_ e F=>(by cases F),h.er⟩;have D:=ai.aw E;have n:=mz D;have r:=agH hF;unfold a7;simp only;have J:(aT a.aw).1.op=0:=by rw[n.2.1];exact I
 generalize aT a.aw=H at *;have i:=kM (f:=f) (ak:=H.2) n.1.af;have q:=agK (f:=f) (vs:=H.2) (st:=H.1) r.1;have o:(bD f H.1 H.2).1.op=0:=by rw[i.2.1];exact J
 generalize bD f H.1 H.2=Z at *;have z:=yl d g (f:=f) i.1.af o;have l:=agA (f:=f) d g j k i.1.af o q.1;generalize dy b c f Z.1=W at *;refine⟨l.1,λe=>?_⟩;have m:=z.2.2.1.back e;obtain⟨C,x,y⟩:=q.2 m;obtain⟨G,A,B,s,t,v,u,w⟩:=r.2 (i.1.back m);obtain⟨K,L⟩:=l.2 e;exact⟨G,⟨A,B,C,by show Z.2=_;rw[x,s,bw],t,v,y,u,w⟩,K,L,l.1.L e⟩
theorem adR (e:zv 17 b)(i:zv 18 c)(j:Z7 b)(k:Z7 c)(g:Nat):∀(f p:Nat) (x:St×List Nd),Inv p x.1->x.1.op=0->Nz x.1->(x.1.er=0->∀d∈x.2,abg d)->Nz (Mq b c g f x).1/\((Mq b c g f x).1.er=0->∀d∈(Mq b c g f x).2,abg d)
 | 0,p,x,_,_,h,l=>⟨h,l⟩
 | f+1,p,x,m,q,h,l=>by
   unfold Mq;split
   . rename_i s
     have u:=Inv.gf m (by decide) s.1;have o:=aek (f:=g) e i j k m q h;obtain⟨_,_,t,n,_⟩:=px e i (f:=g) (nodes:=[]) m q (by simp);refine adR e i j k g f 0 _ t n o.1 (λr d hd=>?_);rcases bj.1 hd with hd|hd
     . exact l u d hd
     rw[cu.1 hd];exact o.2 r
   exact⟨h,l⟩
theorem Nz.last (h:Nz a):Nz (cW a):=by unfold cW;split;exact h;exact h.fail (by decide) _
theorem ael (h:zv 17 b)(i:zv 18 c)(j:Z7 b)(k:Z7 c)(g:Nat)(s:Xb)(m:Inv 0 (⟨s,zZ s 0,0,0,0,[]⟩:St)):Nz (dm b c g s).1/\((dm b c g s).1.er=0->∀d∈(dm b c g s).2,abg d):=by unfold dm;simp only;have p:Nz (⟨s,zZ s 0,0,0,0,[]⟩:St):=⟨(zV s 0 (aE _)).2.2.1,λe=>ady (aE _) e,λ_ e r=>(by cases r),.inl rfl⟩;have n:=aek (f:=g) h i j k m rfl p;obtain⟨_,_,t,l,_⟩:=px h i (f:=g) (nodes:=[]) m rfl (by simp);have:=adR h i j k g g 0 ((a7 b c g ⟨s,zZ s 0,0,0,0,[]⟩).1,[(a7 b c g ⟨s,zZ s 0,0,0,0,[]⟩).2]) t l n.1 (λo d q=>by rw[cu.1 q];exact n.2 o);exact⟨this.1.last,λe=>this.2 ((pU _).bk e)⟩
end
end
section
theorem aaw (t:Tm):(eT t).k=t.k:=by cases t;rw[eT];rfl
mutual
theorem agd:∀t:Tm,ob (eT t)=ob t
 | .mk k a s c n b=>by
   rw[eT,ob,ob,aet b];have:(eL b).map Tm.k=b.map Tm.k:=by rw[aaK,List.map_map];exact List.map_congr_left (λt _=>aaw t)
   rw[this]
theorem aet:∀b:List Tm,hH (eL b)=hH b
 | []=>by rw[eL]
 | t::l=>by rw[eL,hH,hH,agd t,aet l]
end
structure ae7 (q' q:Qn):Prop where
 ns:q'.ns=q.ns
 r:eT q'.r=eT q.r
structure acA (n' n:ay):Prop where
 nm:n'.nm=n.nm
 ah:n'.ah=n.ah
 aG:n'.aG=n.aG
 ak:n'.ak.map eV=n.ak.map eV
 len:n'.eqs.length=n.eqs.length
 eqs:∀(i:Nat) (q' q:Qn),n'.eqs[i]?=some q'->n.eqs[i]?=some q->ae7 q' q
def ab1 (a l:List ay):Prop:=a.length=l.length/\∀(i:Nat) (b n:ay),a[i]?=some b->l[i]?=some n->acA b n
end
section
def eQ (q:Qn):Qn:=⟨q.ns,q.ns.map (λ_=>0),0,eT q.r⟩
def eN (n:ay):ay:=⟨n.nm,0,n.ak.map eV,n.ah,n.aG,n.eqs.map eQ⟩
def eS (c:Sc):Sc:=⟨c.er.map eN,eN c.nd⟩
theorem aaM {α β:Type}{e:α->β}{f:α->List Nat}{g:β->List Nat}:∀l:List α,(∀x∈l,(g (e x)).length=(f x).length)->((l.map e).flatMap g).length=(l.flatMap f).length
 | [],_=>rfl
 | x::l,h=>by rw[List.map_cons,List.flatMap_cons,List.flatMap_cons,aP,aP,h x (Mx ..),aaM l (λy a=>h y (cS _ a))]
theorem abT {α β γ:Type}{e:α->β}{f:α->List γ}{g:β->List γ}:∀l:List α,(∀x∈l,g (e x)=f x)->(l.map e).flatMap g=l.flatMap f
 | [],_=>rfl
 | x::l,h=>by rw[List.map_cons,List.flatMap_cons,List.flatMap_cons,h x (Mx ..),abT l (λy a=>h y (cS _ a))]
theorem aaG {b a:Bool}{p c:Nat}(h:b=a):(if b=true then [p] else []).length=(if a=true then [c] else []).length:=by subst h;cases b <;> rfl
theorem ad6 (s:Xb):∀(l:List Vr) (i:Nat),bm s (l.map eV) i=bm s l i
 | [],_=>rfl
 | v::l,i=>by show (if (eV v).nm=s then some i else bm s (l.map eV) (i+1))=(if v.nm=s then some i else bm s l (i+1));rw[ad6 s l];rfl
theorem acy (n:ay)(s:Xb):(eN n).find s=n.find s:=ad6 s n.ak 0
theorem ad9 (s:Xb):∀(l:List ay) (i:Nat),fX s (l.map eN) i=fX s l i
 | [],_=>rfl
 | v::l,i=>by show (if (eN v).nm=s then some i else fX s (l.map eN) (i+1))=(if v.nm=s then some i else fX s l (i+1));rw[ad9 s l];rfl
section
variable (c:Sc)
theorem aap (s:Xb):(eS c).idx s=c.idx s:=by unfold Sc.idx;rw[show (eS c).nd=eN c.nd from rfl,acy]
theorem acB (s:Xb):(eS c).has s=c.has s:=by unfold Sc.has;rw[show (eS c).nd=eN c.nd from rfl,acy]
theorem aa6 (s:Xb):(eS c).called s=(c.called s).map eS:=by
 unfold Sc.called;rw[show (eS c).er=c.er.map eN from rfl,ad9];cases fX s c.er 0 with
 | none=>rfl
 | some i =>
   simp only[List.getElem?_map];cases c.er[i]? with
   | none=>rfl
   | some n=>simp only[Option.map_some];rw[<- List.map_take];rfl
theorem aeB (i:Nat):(eS c).nd.ak[i]?=(c.nd.ak[i]?).map eV:=by rw[show (eS c).nd.ak=c.nd.ak.map eV from rfl,List.getElem?_map]
theorem aa1:(eS c).nd.ak.length=c.nd.ak.length:=by rw[show (eS c).nd.ak=c.nd.ak.map eV from rfl,List.length_map]
theorem agw:(eS c).nd.ah=c.nd.ah:=rfl
end
mutual
theorem acN:∀t:Tm,cc (eT t)=cc t
 | .mk k a s c n b=>by rw[eT,cc,cc,aex b]
theorem aex:∀b:List Tm,gB (eL b)=gB b
 | []=>by rw[eL]
 | t::l=>by rw[eL,gB,gB,acN t,aex l]
end
theorem aaB (t:Tm):(eT t).s=t.s:=by cases t;rw[eT];rfl
theorem abd (t:Tm):(eT t).ts=t.ts.map eT:=by cases t;rw[eT];exact aaK _
mutual
theorem abx {g:Tm->Bool}(b:∀t,g (eT t)=g t):∀t:Tm,bh g (eT t)=(bh g t).map eT
 | .mk k a s d n c=>by have h:=b (.mk k a s d n c);rw[eT] at h ⊢;rw[bh,bh,h,List.map_cons,eT,aeE b c];split <;> rfl
theorem aeE {g:Tm->Bool}(b:∀t,g (eT t)=g t):∀c:List Tm,cN g (eL c)=(cN g c).map eT
 | []=>by rw[eL];rfl
 | t::l=>by rw[eL,cN,cN,List.map_append,abx b t,aeE b l]
end
theorem acC (t:Tm):b8 (eT t)=b8 t:=rfl
theorem aeN (t:Tm):gH (eT t)=gH t:=by unfold gH;rw[aaw]
theorem agQ (c:Sc)(t:Tm)(u:Nat):(eS c).fits (eT t) u=c.fits t u:=by unfold Sc.fits;rw[aaB,aa6,abd,List.length_map];cases c.called t.s <;> rfl
theorem ac5 (c:Sc):∀(l:List Vr) (i:Nat),(dQ (eS c) (l.map eV) i).length=(dQ c l i).length
 | [],_=>rfl
 | v::l,i=>by
   rw[List.map_cons,dQ,dQ,aP,aP,aP,aP,ac5 c l (i+1),show (eS c).nd=eN c.nd from rfl,acy,acB];refine congrArg (·+_) (congr (congrArg _ ?_) ?_)
   . show (if (c.nd.find v.nm).getD 0<i then [0] else []).length=_;split <;> rfl
   exact aaG rfl
theorem adj (c:Sc):∀(a:Xl) (b:Xn),b.length=a.length->(z7 (eS c) a (a.map (λ_=>0))).length=(z7 c a b).length
 | [],[],_=>rfl
 | s::a,p::b,h=>by rw[List.map_cons,z7,z7,aP,aP,adj c a b (by simpa using h),acB,aap,agw];exact congrArg (·+_) (aaG rfl)
theorem afm (c:Sc)(q:Qn)(t:Tm):(fF (eS c) (eQ q) (eT t)).length=(fF c q t).length:=by
 have a:hp (eQ q) (eT t)=hp q t:=by unfold hp;rw[acN,show (eQ q).r=eT q.r from rfl,acN];rfl
 unfold fF;rw[a,aaw,aaB,acB,agQ,aP,aP];exact congr (congrArg _ (aaG rfl)) (aaG rfl)
def aaV (n:ay):Prop:=∀q∈n.eqs,q.ps.length=q.ns.length
theorem afT (c:Sc)(h:aaV c.nd):(eS c).cG.length=c.cG.length:=by
 unfold Sc.cG;rw[aP,aP,aP,aP,aP,aP];refine congr (congrArg _ (congr (congrArg _ (congr (congrArg _ ?_) ?_)) ?_)) ?_
 . refine aaG ?_;rw[aa6]
   show ((c.called c.nd.nm).map eS).isSome=_;cases c.called c.nd.nm <;> rfl
 . exact ac5 c c.nd.ak 0
 . exact aaM c.nd.eqs (λq a=>adj c q.ns q.ps (h q a))
 refine aaM c.nd.eqs (λq _=>?_);rw[show (eQ q).r=eT q.r from rfl,abx acC];exact aaM _ (λt _=>afm c q t)
end
section
section
variable (c:Sc)
theorem aby (s:Xb):(eS c).decl s=c.decl s:=by unfold Sc.decl;rw[aap,aeB];cases c.nd.ak[c.idx s]? <;> rfl
theorem adW (n:ay):(eN n).results=n.results.map eV:=by unfold ay.results;rw[List.map_take,List.map_drop];rfl
theorem afW (s:Xb):(eS c).mP s=c.mP s:=by
 unfold Sc.mP;rw[aa6];cases c.called s with
 | none=>rfl
 | some d => show (((eN d.nd).results[0]?).map dt).getD 0=((d.nd.results[0]?).map dt).getD 0;rw[adW,List.getElem?_map];cases d.nd.results[0]? <;> rfl
mutual
theorem abU:∀t:Tm,MO (eS c) (eT t)=MO c t
 | .mk k a s d n b=>by rw[eT,MO,MO,aby,afW,abp b 0,abp b 1]
theorem abp:∀(b:List Tm) (i:Nat),dO (eS c) (eL b) i=dO c b i
 | [],i=>by rw[eL,dO,dO]
 | t::l,0=>by rw[eL,dO,dO,abU t]
 | t::l,i+1=>by rw[eL,dO,dO,abp l i]
end
theorem acm (a:Nat)(l:List Tm):aam (eS c) a (l.map eT)=aam c a l:=by
 unfold aam;rw[List.all_map];congr 1;funext t
 show (MO (eS c) (eT t)==a)=_;rw[abU]
theorem adT (l:List Tm):gp (eS c) (l.map eT)=gp c l:=by unfold gp;rw[<- aaK,abp,abp]
theorem af5 (t:Tm):gq (eT t)=gq t:=by
 unfold gq;rw[aaw,abd];cases t.ts with
 | nil=>rfl
 | cons u l=>simp only[List.map_cons];rw[aaw]
theorem adf:∀(l:List Tm) (a:List Vr),gF (eS c) (l.map eT) (a.map eV)=gF c l a
 | [],a=>by rw[List.map_nil,gF,gF]
 | t::l,[]=>rfl
 | t::l,v::a=>by rw[List.map_cons,List.map_cons,gF,gF,abU,adf l a];rfl
theorem afy (t:Tm):(eS c).operands (eT t)=c.operands t:=by
 unfold Sc.operands;rw[aaw,abd,aaB,acm,acm,adT,<- List.map_take,<- List.map_drop,acm,adT,aa6];congr 1;congr 1;congr 1;congr 1;congr 1
 . cases t.ts with
   | nil=>rfl
   | cons u l=>simp only[List.map_cons];rw[af5]
 congr 1;cases c.called t.s with
 | none=>rfl
 | some d=>exact adf c t.ts d.nd.ak
theorem adk:∀(b:Xl) (a:List Vr),gE (eS c) b (a.map eV)=gE c b a
 | [],a=>by cases a <;> rfl
 | s::b,[]=>rfl
 | s::b,v::a=>by rw[List.map_cons,gE,gE,aby,adk b a];rfl
theorem agD (q:Qn):(eS c).holds (eQ q)=c.holds q:=by
 unfold Sc.holds;rw[show (eQ q).ns=q.ns from rfl,show (eQ q).r=eT q.r from rfl,aaB,aa6];split
 . rw[aby,abU]
 cases c.called q.r.s with
 | none=>rfl
 | some d => show gE (eS c) _ (eN d.nd).results=_;rw[adW,adk]
theorem ac4:∀l:List Vr,(eI (eS c) (l.map eV)).length=(eI c l).length
 | []=>rfl
 | v::l=>by rw[List.map_cons,eI,eI,aP,aP,ac4 l,aby];exact congrArg (·+_) (aaG rfl)
theorem afn (t:Tm):(fT (eS c) (eT t)).length=(fT c t).length:=by unfold fT;rw[aaw,aaB,aby,afy,aP,aP];refine congr (congrArg _ (aaG rfl)) ?_;cases c.operands t <;> rfl
theorem agf:(eS c).aaj.length=c.aaj.length:=by
 unfold Sc.aaj;rw[aP,aP,aP,aP];refine congr (congrArg _ (congr (congrArg _ (ac4 c c.nd.ak)) ?_)) ?_
 . refine aaM c.nd.eqs (λq _=>?_);rw[agD];cases c.holds q <;> rfl
 refine aaM c.nd.eqs (λq _=>?_);rw[show (eQ q).r=eT q.r from rfl,abx acC];exact aaM _ (λt _=>afn c t)
theorem agr (v:Vr):(eS c).own (eV v)=c.own v:=by unfold Sc.own;rw[aap];rfl
theorem aaT (i:Nat):(eS c).of i=c.of i:=by
 unfold Sc.of;rw[aeB];cases c.nd.ak[i]? with
 | none=>rfl
 | some v=>exact agr c v
theorem aeO (k:Nat×Nat):(eS c).up k=c.up k:=by unfold Sc.up;rw[aaT]
theorem aea (i:Nat):∀(f:Nat) (k:Nat×Nat),lx (eS c) i f k=lx c i f k
 | 0,_=>rfl
 | f+1,k=>by rw[lx,lx,aeO,aea i f]
theorem agF (i:Nat):(eS c).jF i=c.jF i:=by unfold Sc.jF;rw[aa1,aaT,aea]
theorem adm:∀(l:List Vr) (i:Nat),(hZ (eS c) (l.map eV) i).length=(hZ c l i).length
 | [],_=>rfl
 | v::l,i=>by rw[List.map_cons,hZ,hZ,aP,aP,adm l (i+1),agF];exact congrArg (·+_) (aaG rfl)
theorem ada (k:Nat×Nat):∀(a:Xl) (b:Xn),b.length=a.length->(fU (eS c) k a (a.map (λ_=>0))).length=(fU c k a b).length
 | [],[],_=>rfl
 | s::a,p::b,h=>by rw[List.map_cons,fU,fU,aP,aP,ada k a b (by simpa using h),aap,aaT];refine congrArg (·+_) ?_;split <;> rfl
theorem ad1 (t:Tm)(i:Nat)(k:Nat×Nat):(eS c).operand (eT t) i k=c.operand t i k:=by unfold Sc.operand;rw[aaw,aaB,aap,aaT]
theorem agl (t:Tm)(k:Nat×Nat):((eS c).cr (eT t) k).1.length=(c.cr t k).1.length/\((eS c).cr (eT t) k).2=(c.cr t k).2:=by
 unfold Sc.cr;rw[aaw,aaB,aap,aaT]
 repeat' split
 all_goals exact⟨rfl,rfl⟩
mutual
theorem aer:∀(t:Tm) (k:Nat×Nat),(fQ (eS c) (eT t) k).length=(fQ c t k).length
 | .mk x a s g n b,k=>by
   obtain⟨d,e⟩:=agl c (.mk x a s g n b) k;have f:=aev (.mk x a s g n b) k b 0;rw[eT] at d e f ⊢;rw[fQ,fQ,aP,aP,d,e];refine congrArg _ ?_;split
   . exact f
   rfl
theorem aev (t:Tm)(k:Nat×Nat):∀(b:List Tm) (i:Nat),(k6 (eS c) (eT t) k (eL b) i).length=(k6 c t k b i).length
 | [],i=>by rw[eL,k6,k6]
 | u::l,i=>by rw[eL,k6,k6,aP,aP,ad1,aer u,aev t k l (i+1)]
end
theorem afz (q:Qn)(h:q.ps.length=q.ns.length):(mr (eS c) (eQ q)).length=(mr c q).length:=by unfold mr;rw[show (eQ q).ns=q.ns from rfl,show (eQ q).r=eT q.r from rfl,show (eQ q).ps=q.ns.map (λ_=>0) from rfl,<- List.map_tail,aap,aaT];simp only[aP];rw[ada c _ q.ns.tail q.ps.tail (by rw[List.length_tail,List.length_tail,h]),aer]
theorem afE (h:aaV c.nd):(eS c).e4.length=c.e4.length:=by unfold Sc.e4;rw[aP,aP];exact congr (congrArg _ (adm c c.nd.ak 0)) (aaM c.nd.eqs (λq a=>afz c q (h q a)))
end
end
section
variable {l j g:List ay}
section
variable (c:Sc)
theorem ac9:∀(g:Xl) (a:Xn) (d:Xk),a.length=g.length->(ee (eS c) g (g.map (λ_=>0)) d).1.length=(ee c g a d).1.length/\(ee (eS c) g (g.map (λ_=>0)) d).2=(ee c g a d).2
 | [],[],d,_=>⟨rfl,rfl⟩
 | s::g,p::a,d,h=>by rw[List.map_cons,ee,ee,aap];obtain⟨b,e⟩:=ac9 g a (d.set (c.idx s) true) (by simpa using h);refine⟨?_,e⟩;rw[aP,aP,b];exact congrArg (·+_) (aaG rfl)
theorem adF:∀(l:List Qn) (d:Xk),(∀q∈l,q.ps.length=q.ns.length)->(fW (eS c) (l.map eQ) d).1.length=(fW c l d).1.length/\(fW (eS c) (l.map eQ) d).2=(fW c l d).2
 | [],d,_=>⟨rfl,rfl⟩
 | q::l,d,h=>by obtain⟨a,b⟩:=ac9 c q.ns q.ps d (h q (Mx ..));rw[List.map_cons,fW,fW,show (eQ q).ns=q.ns from rfl,show (eQ q).ps=q.ns.map (λ_=>0) from rfl,b];obtain⟨e,f⟩:=adF l (ee c q.ns q.ps d).2 (λq i=>h q (cS _ i));refine⟨?_,f⟩;rw[aP,aP,a,e]
theorem adV (a:Nat)(d:Xk):∀(l:List Vr) (i:Nat),(hk a d (l.map eV) i).length=(hk a d l i).length
 | [],_=>rfl
 | v::l,i=>by rw[List.map_cons,hk,hk,aP,aP,adV a d l (i+1)];exact congrArg (·+_) (aaG rfl)
theorem afJ (h:aaV c.nd):(eS c).fy.length=c.fy.length:=by unfold Sc.fy;rw[aa1,show (eS c).nd.eqs=c.nd.eqs.map eQ from rfl];obtain⟨a,b⟩:=adF c c.nd.eqs (List.replicate c.nd.ak.length false) h;simp only;rw[aP,aP,a,b];exact congrArg _ (adV _ _ c.nd.ak 0)
theorem afD (i:Nat)(t:Tm):j0 (eS c) i (eT t)=j0 c i t:=by unfold j0;rw[aaw,aaB,aap]
theorem afI (q:Qn)(s:Xb):fG (eS c) (eQ q) s=fG c q s:=by unfold fG;simp only;rw[aap,aaT,show (eQ q).r=eT q.r from rfl,abx aeN,abT _ (λt _=>afD c (c.idx s) t)]
theorem aeI:(eS c).hI=c.hI:=by
 unfold Sc.hI;refine abT c.nd.eqs (λq _=>?_)
 show q.ns.flatMap (fG (eS c) (eQ q))=_;rw[List.flatMap_def,List.flatMap_def];exact congrArg _ (List.map_congr_left (λs _=>afI c q s))
theorem adu (a b:Nat)(L:List (Nat×Nat))(n:Nat):∀m:Nat,(kQ a L n m).length=(kQ b L n m).length
 | 0=>rfl
 | m+1=>by rw[kQ,kQ,aP,aP,adu a b L n m];refine congrArg (·+_) ?_;split <;> rfl
theorem afu:(eS c).gb.length=c.gb.length:=by unfold Sc.gb;rw[aeI,aa1];exact adu _ _ _ _ _
end
theorem afM (n:ay)(m:List (ByteArray×Nat)):hl (eN n) m=hl n m:=by
 unfold hl;have:((eN n).eqs.flatMap λq=>bh b8 q.r)=(n.eqs.flatMap λq=>bh b8 q.r).map eT:=by rw[List.map_flatMap];exact abT n.eqs (λq _=>abx acC q.r)
 rw[this,List.map_map];refine congrArg (λl=>min (iK l) 61) (List.map_congr_left (λt _=>?_))
 show fE m (eT t)=_;unfold fE;rw[aaw,aaB]
theorem aeq:∀(l:List ay) (m:List (ByteArray×Nat)) (k:Nat),hr (l.map eN) m k=hr l m k
 | [],_,_=>rfl
 | n::l,m,k=>by rw[List.map_cons,hr,hr,afM];exact aeq l _ _
theorem agq (g:List ay):kd (g.map eN)=(kd g).map eS:=by
 unfold kd;rw[List.map_filterMap,List.length_map];refine congrArg (λf=>List.filterMap f (List.range g.length)) (funext λi=>?_);rw[List.getElem?_map];cases g[i]? with
 | none=>rfl
 | some n=>simp only[Option.map_some];rw[<- List.map_take];rfl
theorem af6 {l j:Xn}(h:l.length=j.length):(zO l).isSome=(zO j).isSome:=by
 cases e:zO l with
 | none =>
   have c:=yz e;subst c;cases j with
   | nil=>rfl
   | cons a b=>simp at h
 | some p =>
   cases d:zO j with
   | none =>
     have c:=yz d;subst c;cases l with
     | nil=>cases e
     | cons a b=>simp at h
   | some q=>rfl
theorem abt {F:Sc->List Nat}(h:∀c∈kd g,(F (eS c)).length=(F c).length):(zO ((kd (g.map eN)).flatMap F)).isSome=(zO ((kd g).flatMap F)).isSome:=by rw[agq];exact af6 (aaM _ h)
def aaF (g:List ay):Nat:=match dh g with|none=>0|some p=>p.1
theorem ac2 (g:List ay):aaF g=if (zO ((kd g).flatMap Sc.cG)).isSome then 4 else if (zO ((kd g).flatMap Sc.aaj)).isSome then 5 else if (zO ((kd g).flatMap Sc.e4)).isSome then 6 else if (zO ((kd g).flatMap Sc.fy)).isSome then 7 else if (zO ((kd g).flatMap Sc.gb)).isSome then 8 else if (zO (ih g)).isSome then 9 else 0:=by
 unfold aaF dh;cases zO ((kd g).flatMap Sc.cG) with
 | some p=>rfl
 | none =>
   cases zO ((kd g).flatMap Sc.aaj) with
   | some p=>rfl
   | none =>
     cases zO ((kd g).flatMap Sc.e4) with
     | some p=>rfl
     | none =>
       cases zO ((kd g).flatMap Sc.fy) with
       | some p=>rfl
       | none =>
         cases zO ((kd g).flatMap Sc.gb) with
         | some p=>rfl
         | none =>
           cases zO (ih g) with
           | some p=>rfl
           | none=>rfl
theorem agk {c:Sc}(h:c∈kd g):c.nd∈g:=by
 unfold kd at h;obtain⟨i,_,a⟩:=List.mem_filterMap.1 h;cases e:g[i]? with
 | none=>rw[e] at a;cases a
 | some n=>rw[e] at a;cases a;exact aM e
theorem aeD (h:∀n∈g,aaV n):aaF (g.map eN)=aaF g:=by have a:∀c∈kd g,aaV c.nd:=λc a=>h _ (agk a);rw[ac2,ac2,abt (F:=Sc.cG) (λc h=>afT c (a c h)),abt (F:=Sc.aaj) (λc _=>agf c),abt (F:=Sc.e4) (λc h=>afE c (a c h)),abt (F:=Sc.fy) (λc h=>afJ c (a c h)),abt (F:=Sc.gb) (λc _=>afu c)];unfold ih;rw[aeq]
theorem agt {n a:ay}(h:acA a n):eN a=eN n:=by
 have e:a.eqs.map eQ=n.eqs.map eQ:=by
  apply List.ext_getElem?;intro i;rw[List.getElem?_map,List.getElem?_map];by_cases d:i<n.eqs.length
  . have b:=av (show i<a.eqs.length by rw[h.len];exact d);have c:=av d;have:=h.eqs i _ _ b c;rw[b,c];refine congrArg some ?_;unfold eQ;rw[this.ns,this.r]
  rw[List.getElem?_eq_none (by rw[h.len];omega),List.getElem?_eq_none (by omega)]
 unfold eN;rw[h.nm,h.ak,h.ah,h.aG,e]
theorem aeK (h:ab1 j l):j.map eN=l.map eN:=by
 apply List.ext_getElem?;intro i;rw[List.getElem?_map,List.getElem?_map];by_cases c:i<l.length
 . have a:=av (show i<j.length by rw[h.1];exact c);have b:=av c;rw[a,b];exact congrArg some (agt (h.2 i _ _ a b))
 rw[List.getElem?_eq_none (by rw[h.1];omega),List.getElem?_eq_none (by omega)]
theorem aga (h:ab1 j l)(b:∀n∈l,aaV n)(a:∀n∈j,aaV n):aaF j=aaF l:=by rw[<- aeD b,<- aeD a,aeK h]
end
section
variable {L:List Ex} {l:Xu} {x:Nat} {n:ay}
theorem agj:(mE.all λl=>aaP (aF l 0)==aaq l&&aaP (aF l 1)==aaq l)=true:=by decide +kernel
theorem agO {n:Nat}(h:n≠1):aF l n=aF l 0:=by unfold aF;rw[ae h,ae (show ¬(0:Nat)=1 by decide)]
theorem aeo (h:l∈mE)(n:Nat):aaP (aF l n)=aaq l:=by
 have:=List.all_eq_true.1 agj l h;simp only[Bool.and_eq_true,beq_iff_eq] at this;by_cases e:n=1
 . rw[e];exact this.2
 rw[agO e];exact this.1
theorem aez:∀a:List Tm,a.length<=gB a
 | []=>aE _
 | t::l=>by have:=aez l;have h:1<=cc t:=(by cases t;rw[cc];omega);rw[gB,bJ];omega
theorem agi (k:∀e∈L,mQ e)(j:∀e∈L,abl e){t:Tm}(h:bX L x t):Wf t->cc t<=1201->Rd t:=by
 induction h with
 | mk x b r g v w q =>
   intro f p;have hex:=k b (aM g);have a:=j b (aM g);rw[cc] at p;have s:=aez r;refine .mk _ _ _ _ _ _ f.ar (by omega) (λe=>a.1 (by rw[aeo hex.2.2.1] at e;exact e)) (λe=>a.2 (by rw[aeo hex.2.2.1] at e;exact e)) (λo=>?_) ?_ (λt c=>?_)
   . unfold df;split
     . rename_i e;exact absurd (by rw[e];rfl) o
     rfl
   . unfold df;split
     . exact hex.1
     exact aE _
   obtain⟨i,d⟩:=List.mem_iff_getElem?.1 c;have m:=(aB.1 d).1;have u:=mA c;exact q i _ t (av (show i<b.ah.length by omega)) d (f.sub c) (by omega)
theorem ad5 {α:Type}{p:α->Bool}{l:List α}(h:∀x∈l,p x=true):l.filter p=l:=List.filter_eq_self.2 h
theorem abQ {α:Type}{p:α->Bool}{l:List α}(h:∀x∈l,p x=false):l.filter p=[]:=List.filter_eq_nil_iff.2 (λx a e=>by rw[h x a] at e;cases e)
theorem aep:∀t:Tm,cc t=vz t:=by
 intro t;induction t using Tm.ind with
 | h k a s g n f e =>
   have c:∀l:List Tm,(∀u∈l,cc u=vz u)->gB l=k8 l:=by
    intro l;induction l with
    | nil=>intro _;rfl
    | cons u l b=>intro h;rw[gB,zf,h u (Mx ..),b (λy d=>h y (cS _ d))]
   rw[cc,qz,c f e];omega
theorem acu:∀{l:List ax} {a:List Qn},fM L l a->∀q∈a,∃e∈l,RZ L e q
 | [],a,h,q,hq=>by rw[show a=[] from h] at hq;cases hq
 | e::l,a,⟨k,j,c,d,f⟩,q,hq=>by
   subst c;rcases cC.1 hq with rfl|hq
   . exact⟨e,Mx ..,d⟩
   obtain⟨b,g,i⟩:=acu f q hq;exact⟨b,cS _ g,i⟩
theorem aef {l:Xn}(h:x∈l):x<=l.sum:=by
 induction l with
 | nil=>cases h
 | cons y l a =>
   rw[List.sum_cons];rcases cC.1 h with rfl|h
   . omega
   have:=a h;omega
theorem agn {d:Nd}(a:ht d n)(i:abg d)(w:og d)(g:gP n):aay n:=by
 obtain⟨A,B,C,r,c,f,m,P,Q⟩:=i.ak;have K:=zl a w;have o:n.ah=A.length:=by rw[a.ah];unfold Nd.ah;rw[r,List.filter_append,List.filter_append,ad5 (λv h=>(c v h).2.1),abQ (λv h=>(f v h).2.1),abQ (λv h=>(m v h).2.1)];simp
 have t:n.aG=B.length:=by rw[a.aG];unfold Nd.aG;rw[r,List.filter_append,List.filter_append,abQ (λv h=>(c v h).2.2),ad5 (λv h=>(f v h).2.2),abQ (λv h=>(m v h).2.2)];simp
 have k:n.ak=A++(B++C):=a.ak.trans r;have t1:n.ak.take n.ah=A:=by rw[k,o];simp
 have t2:(n.ak.drop n.ah).take n.aG=B:=by rw[k,o,t];simp
 have t3:n.ak.drop (n.ah+n.aG)=C:=by rw[<- List.drop_drop,k,o,t];simp
 have j:∀{v:Vr},aac v->v.bn=true∨v.out=true->v.tm=false:=fun {v} h e=>by
  cases J:v.tm with
  | false=>rfl
  | true =>
    obtain⟨_,D,E⟩:=h.ck J;rcases e with e|e
    . rw[D] at e;cases e
    rw[E] at e;cases e
 have y:=a.eqs.len;refine⟨by rw[a.nm];exact i.nm,λv z=>?_,g.ah,g.aG,g.io,g.bO,?_,?_,?_,?_,?_,λq p=>?_⟩
 . rw[k] at z;rcases bj.1 z with h|h
   . exact (c v h).1
   rcases bj.1 h with h|h
   . exact (f v h).1
   exact (m v h).1
 . rw[t1];exact λv h=>⟨j (c v h).1 (.inl (c v h).2.1),(c v h).2⟩
 . rw[t2];exact λv h=>⟨j (f v h).1 (.inr (f v h).2.2),(f v h).2⟩
 . rw[t3];exact λv h=>(m v h).2
 . intro e;have:=i.one;rw[e] at y;simp at y;omega
 . have:=qG n.eqs;omega
 obtain⟨e,F,b⟩:=acu a.eqs q p;have u:=i.eqs e F;obtain⟨R,M,N,O⟩:=g.eqs q p;have I:vz q.r<=iA n.eqs:=aef (List.mem_map.2 ⟨q,p,rfl⟩);refine⟨λs H=>u.ns s (by rw[<- b.ns];exact H),M,by rw[b.ns];exact u.len,agi w.s.az i.az b.r N (by rw[aep];omega),λG=>O (by omega)⟩
theorem agL {a:Nd}{p:ay}(y:n.ah=(n.ak.filter (·.bn)).length)(A:n.aG=(n.ak.filter (·.out)).length)(h:abB a n)(b:ht a p):acA p n:=by
 have g:∀(f:Vr->Bool),(∀v,f (eV v)=f v)->∀l:List Vr,(l.filter f).length=((l.map eV).filter f).length:=λf w l=>by rw[List.filter_map,List.length_map];congr 2;funext v;exact (w v).symm
 refine⟨b.nm.trans h.nm,?_,?_,by rw[b.ak];exact h.ak,b.eqs.len.trans h.eqs.1,λi E q c d=>?_⟩
 . rw[b.ah,y];unfold Nd.ah;rw[g _ (λ_=>rfl) a.ak,h.ak,<- g _ (λ_=>rfl)]
 . rw[b.aG,A];unfold Nd.aG;rw[g _ (λ_=>rfl) a.ak,h.ak,<- g _ (λ_=>rfl)]
 have G:=b.eqs.len;have z:=(aB.1 c).1;have o:=av (show i<a.eqs.length by omega);obtain⟨r,t,s,u⟩:=h.eqs.2 i _ q o d;have m:∀{l:List ax} {j:List Qn} (_:fM a.az l j) (i:Nat) (e:ax) (q:Qn),l[i]?=some e->j[i]?=some q->RZ a.az e q:=by
  intro l;induction l with
  | nil=>intro j _ i e q h;simp at h
  | cons F l B =>
    rintro j ⟨I,H,rfl,C,D⟩ i e q c d;cases i with
    | zero=>simp at c d;subst c d;exact C
    | succ i=>exact B D i e q (by simpa using c) (by simpa using d)
 have k:=m b.eqs i _ E o c;exact⟨k.ns.trans r,by rw[k.r.k7 s];exact u⟩
end
section
variable {n:ay}
def mL (l:List (List ByteArray)):Nat:=(l.map λx=>x.length+1).sum
theorem abq:∀(b:Bool) (l:List (List ByteArray)),(eA b l).length<=mL l
 | _,[]=>an 0
 | b,x::l=>by have h:=abq true l;rw[eA,aP,aP];unfold mL at h ⊢;rw[List.map_cons,List.sum_cons];have:(if b=true then [p7] else []).length<=1:=(by split <;> simp);omega
theorem afN (l:List (List ByteArray)):(l.getD 0 []).length+(l.getD 1 []).length+(l.getD 2 []).length<=mL l:=by
 unfold mL
 match l with
 | []=>simp
 | [a]=>simp
 | [a,b]=>simp;omega
 | a::b::c::l=>simp;omega
theorem adD (k:Nat)(l:Xl):(jq k l).length<=l.length+2:=by
 unfold jq;split
 . simp
 omega
theorem agR (k:Nat)(s:Xb)(d:Xn)(l:List (List ByteArray)):(iy k s d l).length<=mL l+6:=by
 have h:=afN l;have e:=adD (d.getD 0 0) (l.getD 0 []);have f:=adD (d.getD 1 0) (l.getD 1 []);unfold iy;generalize l.getD 0 []=a at *;generalize l.getD 1 []=b at *;generalize l.getD 2 []=c at *
 repeat' split
 all_goals simp only[aP,bJ,cw]
 all_goals omega
theorem afK (k:Nat)(s:Xb)(n:Nat)(a:Xn)(l:List (List ByteArray)):(lM k s n a l).length<=mL l+8:=by
 have h:=agR k s a l;have b:=abq false l;unfold lM gS
 repeat' split
 all_goals simp only[aP,bJ,cw]
 all_goals omega
mutual
theorem aeG:∀t:Tm,(ob t).length+1<=10*cc t
 | .mk k a s e n b=>by have d:=afK k s n (b.map Tm.k) (hH b);have c:=ad8 b;rw[ob,cc];omega
theorem ad8:∀b:List Tm,mL (hH b)<=10*gB b
 | []=>by rw[hH];exact aE _
 | t::l=>by have d:=aeG t;have c:=ad8 l;rw[hH,gB];unfold mL at c ⊢;rw[List.map_cons,List.sum_cons];omega
end
theorem acn {α:Type}(f:α->List ByteArray)(m:Nat)(l:List α)(h:∀x∈l,(f x).length<=m):mL (l.map f)<=l.length*(m+1):=by
 unfold mL;induction l with
 | nil=>simp
 | cons x l b => have c:=h x (Mx ..);have d:=b (λy a=>h y (cS _ a));simp only[List.map_cons,List.sum_cons,bJ];rw[Nat.succ_mul];omega
theorem ad7 {α:Type}(f:α->List ByteArray)(m:Nat)(l:List α)(h:∀x∈l,(f x).length<=m):(l.flatMap f).length<=l.length*m:=by
 induction l with
 | nil=>simp
 | cons x l b => have c:=h x (Mx ..);have d:=b (λy a=>h y (cS _ a));rw[List.flatMap_cons,aP,bJ,Nat.succ_mul];omega
theorem agI {q:Qn}(h:aaz q)(f:cc q.r<=1201):(gT q).length<=20000:=by
 have a:=aeG q.r;have b:=abq false (q.ns.map λs=>[s]);have c:=acn (λs=>[s]) 1 q.ns (λ_ _=>by simp);have d:=h.len;have e:(if q.ns.length=1 then q.ns else gS (q.ns.map (λs=>[s]))).length<=3000:=by
  split
  . omega
  unfold gS;simp only[aP,bJ,cw];omega
 unfold gT;simp only[aP,bJ,cw];omega
theorem agB (v:Vr):(tj v).length<=3:=by
 unfold tj;split
 . simp
 split <;> simp
theorem adU (h:aay n)(b:∀q∈n.eqs,cc q.r<=1201):(ez n).length<=30000000:=by
 have i:=abq false ((n.ak.take n.ah).map eB);have j:=acn eB 3 (n.ak.take n.ah) (λv _=>an _);have k:=abq false (((n.ak.drop n.ah).take n.aG).map eB);have l:=acn eB 3 ((n.ak.drop n.ah).take n.aG) (λv _=>an _);have m:=ad7 fZ 7 (n.ak.drop (n.ah+n.aG)) (λv _=>by
  have:=agB v;unfold fZ eB;simp only[aP,bJ,cw];omega)
 have o:=ad7 gT 20000 n.eqs (λq a=>agI (h.qs q a) (b q a));have c:(n.ak.take n.ah).length<=16:=by rw[List.length_take];have:=h.len;omega
 have d:((n.ak.drop n.ah).take n.aG).length<=16:=by rw[List.length_take,List.length_drop];have:=h.len;omega
 have e:(n.ak.drop (n.ah+n.aG)).length<=16:=by rw[List.length_drop];have:=h.len;omega
 have f:=h.ql;unfold ez gS;have g:(if 0<(n.ak.drop (n.ah+n.aG)).length then [(⟨#[118,97,114]⟩:Xb)] else []).length<=1:=by split <;> simp
 simp only[aP,bJ,cw];omega
theorem acZ:∀l:List (List UInt8),(∀x∈l,x.length<=40)->(([32]:Xu).intercalate l).length<=41*l.length
 | [],_=>by simp[List.intercalate]
 | [x],h=>by have:=h x (by simp);simp[List.intercalate];omega
 | x::y::l,h=>by have c:=h x (by simp);have a:=acZ (y::l) (λz b=>h z (cS _ b));simp only[List.intercalate,List.intersperse_cons_cons,List.flatten_cons,aP,bJ,cw] at a ⊢;omega
theorem afV (h:aay n)(d:∀q∈n.eqs,cc q.r<=1201):(jp n).length<=1300000000:=by
 have f:=adU h d;have a:=acZ ((ez n).map (·.data.toList)) (λx b=>by
  obtain⟨y,c,rfl⟩:=List.mem_map.1 b;have:=(adI h y c).sz
  show y.data.toList.length<=40;have e:y.data.toList.length=y.size:=by rw[Array.length_toList];rfl
  omega)
 unfold jp;rw[aP];rw[List.length_map] at a;simp only[bJ,cw];omega
theorem afL {a:List ay}(h:∀n∈a,(jp n).length<=1300000000):(dU a).length<=a.length*1300000000:=by
 induction a with
 | nil=>exact an 0
 | cons n a d => have e:=h n (Mx ..);have b:=d (λx c=>h x (cS _ c));unfold dU at b ⊢;rw[List.flatMap_cons,aP,bJ];omega
end
section
open Go.RowKit
def abm:ByteArray:=⟨#[]⟩
def aaQ (src T:Xb)(k p:Nat):Prop :=
 (1200<src.size/\T=abm/\k=1/\p=0)∨(src.size<=1200/\∃R,dm (fx 17).ex (fx 18).ex 1300 src=R/\((R.1.er≠0/\T=abm/\k=R.1.er/\p=R.1.at')∨(R.1.er=0/\∃a,dS R.2 a/\T=⟨(dU a).toArray⟩/\k=0/\p=0)))
structure acO (ds:List Nd) (ns:List ay):Prop where
 of:dS ds ns
 rd:∀n∈ns,aay n
 wf:∀n∈ns,gP n
 sz:∀n∈ns,∀q∈n.eqs,cc q.r<=1201
 nm:∀n∈ns,∀q∈n.eqs,Bk q.r=true
 one:1<=ns.length
 bO:ns.length<=6
 Rk:∀n∈ns,n.Nh.length<=1201
 io:∀n∈ns,n.ah=(n.ak.filter (·.bn)).length/\n.aG=(n.ak.filter (·.out)).length
theorem abV:∀{l:List Nd} {a:List ay},dS l a->∀n∈a,∃d∈l,ht d n:=by
 intro l;induction l with
 | nil=>rintro a rfl n h;cases h
 | cons d l g =>
   rintro a ⟨j,i,rfl,f,e⟩ n h;rcases cC.1 h with rfl|h
   . exact⟨d,Mx ..,f⟩
   obtain⟨d2,b,c⟩:=g e n h;exact⟨d2,cS _ b,c⟩
theorem ac6 {a b:Fn}{g:Nat}:∀(f:Nat) (x:St×List Nd),1<=x.2.length->1<=(Mq a b g f x).2.length
 | 0,_,h=>h
 | f+1,x,h=>by
   unfold Mq;split
   . exact ac6 f _ (by simp)
   exact h
theorem agb (a b:Fn)(g:Nat)(s:Xb):1<=(dm a b g s).2.length:=by unfold dm;exact ac6 g _ (by simp)
section
variable {a b:Fn} {src:Xb}
theorem agh (c:a=(fx 17).ex)(f:b=(fx 18).ex)(h:zv 17 a)(i:zv 18 b)(j:src.size<=1200):(dm a b 1300 src).1.er=0∨(dm a b 1300 src).1.er=2∨(dm a b 1300 src).1.er=3:=by obtain⟨g,d⟩:∃g,g=1300:=⟨_,rfl⟩;rw[<- d];exact (ael h i (by rw[c];exact (abz 17).1) (by rw[f];exact (abz 18).1) g src (sk j)).1.er
theorem acw (c:a=(fx 17).ex)(f:b=(fx 18).ex)(h:zv 17 a)(i:zv 18 b)(j:src.size<=1200)(o:(dm a b 1300 src).1.er=0):∃p,acO (dm a b 1300 src).2 p:=by
 obtain⟨g,u⟩:∃g,g=1300:=⟨_,rfl⟩;rw[<- u] at o ⊢;have v:=(ael h i (by rw[c];exact (abz 17).1) (by rw[f];exact (abz 18).1) g src (sk j)).2 o;have w:=agb a b g src;obtain⟨R,r⟩:∃R,dm a b g src=R:=⟨_,rfl⟩;rw[r] at o v w ⊢;obtain⟨f1,f2,p,f3,f4,f5⟩:=oH c f h i j r o;clear r u c f h i;have z:=f3.len;have x:∀n∈p,∀q∈n.eqs,cc q.r<=1201:=λn l q t=>by obtain⟨d,m,k⟩:=abV f3 n l;have:=zl k (f1 d m).1;have y:vz q.r<=iA n.eqs:=aef (List.mem_map.2 ⟨q,t,rfl⟩);rw[aep];omega
 refine⟨p,f3,λn l=>?_,f4,x,λn l q t=>?_,by omega,by omega,f5,λn l=>?_⟩
 . obtain⟨d,m,k⟩:=abV f3 n l;exact agn k (v d m) (f1 d m).1 (f4 n l)
 . obtain⟨d,m,k⟩:=abV f3 n l;obtain⟨e,_,s⟩:=acu k.eqs q t;exact UA (f1 d m).1.s.az s.r
 obtain⟨d,m,k⟩:=abV f3 n l;rw[k.ah,k.aG,k.ak];exact⟨rfl,rfl⟩
end
theorem afH:∀{d:List Nd} {c e:List ay},aaL d e->dS d c->(∀n∈e,n.ah=(n.ak.filter (·.bn)).length/\n.aG=(n.ak.filter (·.out)).length)->ab1 c e:=by intro d c e h o f;have r:=o.len;refine⟨r.trans h.1,λi s n g j=>?_⟩;have q:=(aB.1 g).1;have k:=av (show i<d.length by omega);obtain⟨m,l,p⟩:=B5 o i _ k;rw[g] at l;cases l;obtain⟨a,b⟩:=f n (aM j);exact agL a b (h.2 i _ n k j) p
theorem aen {a:List ay}(h:∀n∈a,gP n):∀n∈a,aaV n:=λn b q c=>((h n b).eqs q c).1.symm
theorem ac3 (S:Xs)(src T:Xb)(k p:Nat)(h:aaQ src T k p)(w:Xw)(a:Kn S w)(y:Sn S w)(z:fw w) :
 xK 6 #[.string src] w (λe G=>e=.returned (.tuple #[.string T,xI k,xI p])/\xB w G):=by
 obtain⟨E,F,j,l,t,s,b,c⟩:=pE;unfold aaQ abm at h;rw[<- j,<- l] at h;rcases h with ⟨i,rfl,rfl,rfl⟩|⟨i,R,g,⟨o,rfl,rfl,rfl⟩|⟨o,x,r,rfl,rfl,rfl⟩⟩
 . exact acU S src 1 0 (by omega) (by omega) w a.gl y z (zz t s b c S src 1 0 (ao ⟨i,rfl,rfl⟩) w a.gl)
 . have m:=Dv b c i;rw[g] at m;exact acU S src _ _ (by omega) m w a.gl y z (zz t s b c S src _ _ (ap ⟨i,by rw[g];exact o,by rw[g],by rw[g]⟩) w a.gl)
 obtain⟨J,d⟩:=acw j l b c i (by rw[g];exact o);rw[g] at d;have:=uR r d.of;subst this;have D:∀n∈x,(jp n).length<=1300000000:=λn f=>afV (d.rd n f) (d.sz n f);have I:=afL D;have H:=d.bO;refine BU S src x d.wf (λn f=>⟨λv _=>ahL v,λq u=>?_⟩) (λn f=>aJ (adU (d.rd n f) (d.sz n f)) (by decide)) (by omega) w a (uI t s b c S src R g i o (by have:=r.len;omega) x r w a.gl);obtain⟨A,B,C,_⟩:=(d.wf n f).eqs q u;exact ahF q A B (ahI S q.r C (d.nm n f q u) (by have:=d.sz n f q u;omega))
end
section
def eO (s:Os):Os:=(s.1,s.2.map eQ)
section
variable (c:Sc)
theorem aho (L:List (Nat×Nat))(q o:Qn):Oo (eS c) L (eQ q) (eQ o)=Oo c L q o:=by unfold Oo;rw[show (eQ q).ns=q.ns from rfl,show (eQ o).ns=o.ns from rfl,aap];congr 1;funext s;rw[aap]
theorem aeX (L:List (Nat×Nat))(a:List Qn):∀(f i:Nat) (s:Os),Mv (eS c) L (a.map eQ) f i (eO s)=eO (Mv c L a f i s)
 | 0,_,_=>rfl
 | f+1,i,s=>by
   have d:∀(q:Qn) (l:List Qn) (j:Nat) (s:Os),Nc (Mv (eS c) L (a.map eQ) f) (eS c) L (eQ q) (l.map eQ) j (eO s)=eO (Nc (Mv c L a f) c L q l j s):=by
    intro q l;induction l with
    | nil=>intro j s;rfl
    | cons o l b =>
      intro j s;rw[List.map_cons,Nc,Nc,aho];split
      . rw[aeX L a f j s];exact b (j+1) _
      exact b (j+1) s
   rw[Mv,Mv,List.getElem?_map];cases a[i]? with
   | none=>rfl
   | some q =>
     simp only[Option.map_some];rw[show (eO s).1=s.1 from rfl,show (eO s).2=s.2.map eQ from rfl];split
     . rfl
     have:=d q a 0 (s.1.set i true,s.2);rw[show eO (s.1.set i true,s.2)=(s.1.set i true,s.2.map eQ) from rfl] at this;rw[this];unfold eO;simp only[List.map_append,List.map_cons,List.map_nil]
theorem ahm:Mr (eS c)=(Mr c).map eQ:=by
 have a:∀(n m:Nat) (s:Os),OV (Mv (eS c) c.hI (c.nd.eqs.map eQ) c.nd.eqs.length) n m (eO s)=eO (OV (Mv c c.hI c.nd.eqs c.nd.eqs.length) n m s):=by
  intro n m;induction m with
  | zero=>intro s;rfl
  | succ m b=>intro s;rw[OV,OV,aeX,b]
 unfold Mr;rw[aeI,show (eS c).nd.eqs=c.nd.eqs.map eQ from rfl,List.length_map];have:=a c.nd.eqs.length c.nd.eqs.length (List.replicate c.nd.eqs.length false,[]);rw[show eO (List.replicate c.nd.eqs.length false,[])=(List.replicate c.nd.eqs.length false,[]) from rfl] at this;rw[this];rfl
theorem acQ (a:Nat):∀(f:Nat) (k:Nat×Nat),z8 (eS c) a f k=z8 c a f k
 | 0,_=>by rw[z8,z8,aa1]
 | f+1,k=>by rw[z8,z8,aa1,aeO,acQ a f]
end
mutual
theorem aeV:∀t:Tm,MI (eT t)=MI t
 | .mk k a s c n b=>by rw[eT,MI,MI,aeU b]
theorem aeU:∀b:List Tm,N1 (eL b)=N1 b
 | []=>by rw[eL]
 | t::l=>by rw[eL,N1,N1,aeV t]
end
def abk (l:Lt):Lt:=⟨l.cell,eT l.next,l.clock⟩
def eP (s:Cd×List Lt):Cd×List Lt:=(s.1,s.2.map abk)
section
variable {o:Sc->Nat->Cd->Cd}
theorem ahr (w:∀d b K,o (eS d) b K=o d b K)(c:Sc)(e f:Nat)(K:Cd)(t:Tm)(k:Nat×Nat):NK o (eS c) e f K (eT t) k=NK o c e f K t k:=by
 unfold NK;rw[aaB,aa6,abd,List.length_map,aa1,acQ];cases c.called t.s with
 | none=>rfl
 | some d => simp only[Option.map_some];rw[w];rfl
theorem ahq (w:∀d b K,o (eS d) b K=o d b K)(c:Sc)(e f:Nat)(s:Cd×List Lt)(t:Tm)(k:Nat×Nat):zs o (eS c) e f (eP s) (eT t) k=eP (zs o c e f s t k):=by
 have a:=ahr w c e f s.1 t k;have b:N1 (eT t).ts=N1 t.ts:=by rw[abd,<- aaK];exact aeU _
 unfold zs;rw[aaw,aaB,aap,aeV,show (eP s).1=s.1 from rfl,show (eP s).2=s.2.map abk from rfl,a,b];split
 . rfl
 split
 . rfl
 split
 . rfl
 split
 . rfl
 split
 . unfold eP;rw[List.map_append,abd];cases t.ts with
   | nil=>rfl
   | cons x l=>cases l <;> rfl
 split
 . rfl
 rfl
theorem ae2 (w:∀d b K,o (eS d) b K=o d b K)(c:Sc)(e f:Nat):∀(t:Tm) (s:Cd×List Lt) (k:Nat×Nat),My o (eS c) e f (eP s) (eT t) k=eP (My o c e f s t k):=by
 intro t;induction t using Tm.ind with
 | h x a d p n b B =>
   intro s k;have z:∀(l:List Tm) (i:Nat) (s:Cd×List Lt),(∀u∈l,u∈b)->gu (eS c) (λt _=>gH t) (λs _ _=>s) (zs o (eS c) e f) (eT (.mk x a d p n b)) k (eL l) i (eP s)=eP (gu c (λt _=>gH t) (λs _ _=>s) (zs o c e f) (.mk x a d p n b) k l i s):=by
    intro l;induction l with
    | nil=>intro i s _;rw[eL,gu,gu]
    | cons u l j => intro i s g;have m:=B u (g u (Mx ..)) s (c.operand (.mk x a d p n b) i k);unfold My at m;rw[eL,gu,gu,ad1,m];exact j (i+1) _ (λv A=>g v (cS _ A))
   have q:=z b 0 s (λu g=>g);have y:=aeN (.mk x a d p n b);have r:=ahq w c e f;unfold My;rw[eT] at q y ⊢;rw[gK,gK,y];split
   . rw[q];have:=r (gu c (λt _=>gH t) (λs _ _=>s) (zs o c e f) (.mk x a d p n b) k b 0 s) (.mk x a d p n b) k;rw[eT] at this;exact this
   have:=r s (.mk x a d p n b) k;rw[eT] at this;exact this
theorem ae1 (w:∀d b K,o (eS d) b K=o d b K)(c:Sc)(e f:Nat):∀(l:List Qn) (s:Cd×List Lt),ME o (eS c) e f (l.map eQ) (eP s)=eP (ME o c e f l s)
 | [],s=>rfl
 | q::l,s=>by
   have a:Ny (eS c) e (MS (NJ (eQ q).ns (eQ q).ps) (eQ q).ns.length (eQ q).ns.length)=Ny c e (MS (NJ q.ns q.ps) q.ns.length q.ns.length):=by
    unfold Ny MS;rw[List.map_map,List.map_map];refine List.map_congr_left (λj _=>?_)
    show (2,((e+(eS c).idx (q.ns[q.ns.length-1-j]?.getD ⟨#[]⟩):Nat):Int))=(2,((e+c.idx (q.ns[q.ns.length-1-j]?.getD ⟨#[]⟩):Nat):Int));rw[aap]
   rw[List.map_cons,ME,ME,a,show (eQ q).ns=q.ns from rfl,show (eQ q).r=eT q.r from rfl,aap,aaT,ae2 w c e f];exact ae1 w c e f l ((My o c e f s q.r (c.of (c.idx (q.ns.headD ⟨#[]⟩)))).1.fv (Ny c e (MS (NJ q.ns q.ps) q.ns.length q.ns.length)),(My o c e f s q.r (c.of (c.idx (q.ns.headD ⟨#[]⟩)))).2)
theorem aeW (w:∀d b K,o (eS d) b K=o d b K)(c:Sc)(e f:Nat):∀(g:Nat) (s:Cd×List Lt),NI o (eS c) e f g (eP s)=NI o c e f g s
 | 0,s=>rfl
 | g+1,s=>by
   obtain⟨K,b⟩:=s;cases b with
   | nil=>rfl
   | cons m r => show NI o (eS c) e f g ((My o (eS c) e f (K.fv (z8 (eS c) e f m.clock),r.map abk) (eT m.next) m.clock).1.add 4 m.cell,(My o (eS c) e f (K.fv (z8 (eS c) e f m.clock),r.map abk) (eT m.next) m.clock).2)=NI o c e f g ((My o c e f (K.fv (z8 c e f m.clock),r) m.next m.clock).1.add 4 m.cell,(My o c e f (K.fv (z8 c e f m.clock),r) m.next m.clock).2);rw[acQ];have a:=ae2 w c e f m.next (K.fv (z8 c e f m.clock),r) m.clock;rw[show eP (K.fv (z8 c e f m.clock),r)=(K.fv (z8 c e f m.clock),r.map abk) from rfl] at a;rw[a];exact aeW w c e f g ((My o c e f (K.fv (z8 c e f m.clock),r) m.next m.clock).1.add 4 m.cell,(My o c e f (K.fv (z8 c e f m.clock),r) m.next m.clock).2)
end
theorem acP (d a:Nat):∀(f:Nat) (c:Sc) (b:Nat) (K:Cd),MQ d a f (eS c) b K=MQ d a f c b K
 | 0,_,_,_=>rfl
 | f+1,c,b,K=>by rw[MQ,MQ,ahm,aa1];have e:=ae1 (acP d a f) c b d (Mr c) ((K.NR (b+c.nd.ak.length+1)).add 2 ((b+c.nd.ak.length:Nat):Int),[]);rw[show eP ((K.NR (b+c.nd.ak.length+1)).add 2 ((b+c.nd.ak.length:Nat):Int),[])=((K.NR (b+c.nd.ak.length+1)).add 2 ((b+c.nd.ak.length:Nat):Int),[]) from rfl] at e;rw[e];exact aeW (acP d a f) c b d a _
theorem ae0 (b:Nat)(a:List ay)(n:ay):OE b (a.map eN) (eN n)=OE b a n:=by
 unfold OE;have c:Pb ⟨a.map eN,eN n⟩=Pb ⟨a,n⟩:=by
  unfold Pb
  show (⟨((n.ak.map eV).take n.ah).map (·.bl),n.aG,0,[],0,[]⟩:Cd)=⟨(n.ak.take n.ah).map (·.bl),n.aG,0,[],0,[]⟩;rw[<- List.map_take,List.map_map];rfl
 rw[c];exact acP 18 b 6 ⟨a,n⟩ 0 _
theorem ahk {b:Nat}{c a:List ay}{n d:ay}(h:ab1 (a++[d]) (c++[n])):OE b a d=OE b c n:=by
 have e:=aeK h;rw[List.map_append,List.map_append] at e;obtain⟨f,g⟩:=List.append_inj' e rfl;rw[<- ae0 b a d,<- ae0 b c n,f];have:eN d=eN n:=by simpa using g
 rw[this]
end
section
open Go.RowKit
variable {a:List ay}
theorem acO.bs {b:List Nd}(h:acO b a):SK b a:=⟨h.of,h.wf,h.nm,h.one,h.bO,h.Rk⟩
theorem ahj (h:aaF a=0):dh a=none:=by
 unfold aaF at h;cases c:dh a with
 | none=>rfl
 | some b => rw[c] at h;have:=DN (k:=b.1) (p:=b.2) c;have d:b.1=0:=h;omega
def acR (b:Nat)(src:Xb):Prop :=
 (∃k p T f q,1<=k/\k<=11/\oE src k p/\aaQ src T f q) ∨
 ∃a d n T,Ru src a d n b/\aaQ src T 0 0/\((∃g p,(g=1∨g=3)/\oE T g p)∨∃h c e,Ru T h c e b/\OE b c e=OE b d n)
theorem ahn {gas:Nat}(E:1201<=gas)(u:gas<=1000000)(src:Xb):acR gas src:=by
 obtain⟨q,r,c,e,I,H,k,l⟩:=pE;clear I H;unfold acR oE aaQ;rw[<- c,<- e];by_cases j:src.size<=1200
 . obtain⟨R,i⟩:∃R,dm q r 1300 src=R:=⟨_,rfl⟩;by_cases m:R.1.er=0
   . obtain⟨a,f⟩:=acw c e k l j (by rw[i];exact m);obtain⟨T,x⟩:∃T:Xb,T=⟨(dU a).toArray⟩:=⟨_,rfl⟩;cases t:dh a with
     | none =>
       right;rw[i] at f;obtain⟨C,n,h⟩:=Vt c e E u j i m f.bs t;refine⟨a,C,n,T,h,.inr ⟨j,R,i,.inr ⟨m,a,f.of,x,rfl,rfl⟩⟩,?_⟩;by_cases y:T.size<=1200
       . obtain⟨d,z⟩:∃d,d=17:=⟨_,rfl⟩;have b:=afC (d:=d) (g:=1300) z (by omega) f.one f.bO f.rd (by rw[<- x];exact sk y);have d17:q=(fx d).ex:=(by rw[z];exact c);have d18:r=(fx (d+1)).ex:=(by rw[e];rw[z]);rw[<- d17,<- d18,<- x] at b;obtain⟨Q,s⟩:∃Q,dm q r 1300 T=Q:=⟨_,rfl⟩;rw[s] at b;rcases b with b|⟨b,G⟩
         . left;exact⟨3,Q.1.at',.inr rfl,.inr ⟨y,Q,s,.inl ⟨by omega,b.symm,rfl⟩⟩⟩
         right;obtain⟨L,w⟩:=acw c e k l y (by rw[s];exact b);rw[s] at w;have o:=afH G w.of f.io;have A:=aga o (aen f.wf) (aen w.wf);have B:aaF a=0:=(by unfold aaF;rw[t]);rw[B] at A;obtain⟨v,M,D⟩:=Vt c e E u y s b w.bs (ahj A);rw[D.eq,h.eq] at o;exact⟨L,v,M,D,ahk o⟩
       left;exact⟨1,0,.inl rfl,.inl ⟨by omega,rfl,rfl⟩⟩
     | some K => left;obtain⟨J,p⟩:=K;have A:=DN t;rw[i] at f;exact⟨J,p,T,0,0,by omega,by omega,.inr ⟨j,R,i,.inr ⟨m,a,f.of,by rw[t];rfl,by rw[t];rfl⟩⟩,.inr ⟨j,R,i,.inr ⟨m,a,f.of,x,rfl,rfl⟩⟩⟩
   left;have F:=agh c e k l j;rw[i] at F;exact⟨R.1.er,R.1.at',abm,R.1.er,R.1.at',by omega,by omega,.inr ⟨j,R,i,.inl ⟨m,rfl,rfl⟩⟩,.inr ⟨j,R,i,.inl ⟨m,rfl,rfl,rfl⟩⟩⟩
 left;exact⟨1,0,abm,1,0,by omega,by omega,.inl ⟨by omega,rfl,rfl⟩,.inl ⟨by omega,rfl,rfl,rfl⟩⟩
end
section
open Go.RowKit
variable {src:Xb} {P:List ay->Bool}
def lQ (src:Xb)(P:List ay->Bool):Bool :=
 let R:=dm (fx 17).ex (fx 18).ex 1300 src
 decide (src.size<=1200)&&decide (R.1.er=0) &&
  match pA R.2 with
  | none=>false
  | some a=>P a
theorem vr (h:lQ src P=true):src.size<=1200/\(dm (fx 17).ex (fx 18).ex 1300 src).1.er=0/\∃a,pA (dm (fx 17).ex (fx 18).ex 1300 src).2=some a/\P a=true:=by
 unfold lQ at h;simp only[Bool.and_eq_true,decide_eq_true_eq] at h;obtain⟨⟨d,e⟩,b⟩:=h;split at b
 . cases b
 rename_i a c
 exact⟨d,e,a,c,b⟩
theorem uJ {o:Option (Nat×Nat)}(h:lQ src P=true)(p:∀d,P d=true->dh d=o):oE src (hP o).1 (hP o).2:=by
 obtain⟨j,k,a,b,r,q,e,f⟩:=pE;obtain⟨l,c,s,g,n⟩:=vr h;clear h;unfold oE;rw[<- a,<- b] at c g ⊢;obtain⟨R,i⟩:∃R,dm j k 1300 src=R:=⟨_,rfl⟩;rw[i] at c g;obtain⟨_,_,d,f3,_,_⟩:=oH a b e f l i c;have:=yF f3 g;subst this;have m:=p _ n;refine ap ⟨l,R,i,ap ⟨c,d,f3,?_,?_⟩⟩
 . rw[m]
 rw[m]
end
section
open Go.RowKit
variable {W w:Xw}
def acJ:ByteArray:=⟨#[110,111,100,101,32,110,40,97,58,32,105,110,116,41,32,45,62,32,40,115,58,32,105,110,116,41,32,123,32,115,32,61,32,115,32,43,32,97,59,32,125]⟩
def acM:ByteArray:=⟨#[110,111,100,101,32,110,40,97,58,105,110,116,41,45,62,40,115,58,105,110,116,41,123,115,61,48,48,55,32,102,98,121,45,97,59,125]⟩
def acK:ByteArray:=⟨#[110,111,100,101,32,110,32,40,32,97,32,58,32,105,110,116,32,41,32,45,62,32,40,32,115,32,58,32,105,110,116,32,41,32,123,32,115,32,61,32,40,32,55,32,102,98,121,32,40,32,45,32,97,32,41,32,41,32,59,32,125,10]⟩
theorem aht:lQ acJ (λa=>decide (dh a=some (8,5)))=true:=by decide +kernel
theorem ahs:lQ acM (λa=>decide (dU a=acK.data.toList))=true:=by decide +kernel
theorem ago {src T:Xb}(h:lQ src (λi=>decide (dU i=T.data.toList))=true):aaQ src T 0 0:=by obtain⟨j,k,a,b,_,_,d,e⟩:=pE;obtain⟨l,c,n,f,m⟩:=vr h;clear h;unfold aaQ;rw[<- a,<- b] at c f ⊢;obtain⟨R,g⟩:∃R,dm j k 1300 src=R:=⟨_,rfl⟩;rw[g] at c f;obtain⟨_,_,i,f3,_,_⟩:=oH a b d e l g c;have:=yF f3 f;subst this;exact ap ⟨l,R,g,ap ⟨c,i,f3,by rw[of_decide_eq_true m],rfl,rfl⟩⟩
theorem Sn.on {S:Xs}(h:Sn S w)(b:xB w W):Sn S W:=λi j d e f g c a=>h i j d e f g c (b.trans (a.mono b.size))
theorem fw.on (h:fw w)(b:xB w W):fw W:=(Z6 (w:=w) (a:=(xD 7 0)) (b.block _ (World.block_lt_of_cell? w (xD 7 0) h))).trans h
end
section
open Go.RowKit
theorem R0 (S:Xs)(m:Ma)(o:Xv)(c:Cd)(a b:List Int)(w:Xw)(v:Xv)(g:Nat)(l:List Int)(u:Gl S w)(H:MM w m o c a b)(x:Nm w v g l)(k:l≠[]->g≠m.b2)(y:Nk c.dn l=none)(h:Mt c.al c.cells.length 0 c.row=some 0)(n:abn c) :
 xK 17 #[xP m.M,v] w (λe p=>∃f d,e=.returned (.tuple #[xS f c.aG c.aG,xI 0])/\w.heap.size<=f/\p.heap[f]?=some (.cells (zK (M5 c (M1 c a l))).toArray 2 (0,0))/\MM p m d c (M1 c a l).cells (M1 c a l).al/\fV m.mb m.b1 m.b2 w o p d):=by
 have j:=za (VX S m.N m.mb m.cb m.b1 m.b2 m.bv m.cv m.rv o c a b w v g l u H.mc x k y h n);obtain⟨z,A,t⟩:=zu H.aC;go_enter func17,ntmps17
 go_wp2_with (first
  | (go_at_call 11;refine (II _).mono ?_;rintro e D ⟨rfl,rfl⟩)
  | (go_at_call 40;refine j.o.mono ?_;rintro e C ⟨f,d,rfl,q,r,B,s,i⟩))
 refine ab (v:=.tuple #[xS f c.aG c.aG,xI 0]) (by simp[results,results17,go_sem]) rfl ⟨f,d,rfl,q,r,⟨?_,s,H.m0,H.m1,H.m2,?_⟩,?_⟩
 . refine (i.fr.block _ t ?_).trans H.aC;rintro (e|e|e|e)
   . exact H.m0 e
   . exact H.m1 e
   . exact H.m2 e
   exact H.ms e
 . intro e;rcases i.new _ e with e|e
   . exact H.ms e
   omega
 exact i
theorem Ty (S:Xs)(m:Ma)(n:Xv)(c:Cd)(a b:List Int)(w:Xw)(v:Xv)(g:Nat)(l:List Int)(y:Int)(s:Gl S w)(h:MM w m n c a b)(t:Nm w v g l)(j:l≠[]->g≠m.b2)(u:Nk c.dn l=none)(i:Mt c.al c.cells.length 0 c.row=some 0)(k:abn c)(r:c.aG=1)(x:M5 c (M1 c a l)=[y]) :
 xK 9 #[xP m.M,v] w (λe o=>∃d,e=.returned (.tuple #[xI y,.bool true])/\MM o m d c (M1 c a l).cells (M1 c a l).al/\fV m.mb m.b1 m.b2 w n o d):=by
 have f:=za (R0 S m n c a b w v g l s h t j u i k);rw[r,x] at f;generalize M1 c a l=R at *;go_enter func9,ntmps9;go_wp2_with (go_at_call 17;refine f.o.mono ?_;rintro e C ⟨z,d,rfl,G,A,p,q⟩;have B:xH C z #[xI y] 2:=A;obtain⟨D,E,F⟩:=zu B);refine ab (v:=.tuple #[xI y,.bool true]) (by simp[results,results9,go_sem]) rfl ⟨d,rfl,p,q⟩
def RR (a b:Cd):Bool:=decide (a.dn=b.dn)&&decide (a.aG=b.aG)&&decide (a.al=b.al)&&decide (a.cells=b.cells)&&decide (a.depth=b.depth)&&decide (a.row=b.row)
theorem WM {a b:Cd}(h:RR a b=true):a=b:=by obtain⟨c,d,e,f,g,i⟩:=a;obtain⟨j,k,l,m,n,o⟩:=b;simp only[RR,Bool.and_eq_true,decide_eq_true_eq] at h;obtain⟨⟨⟨⟨⟨rfl,rfl⟩,rfl⟩,rfl⟩,rfl⟩,rfl⟩:=h;rfl
def Q9:ByteArray:=⟨#[110,111,100,101,32,110,40,97,58,32,105,110,116,41,32,45,62,32,40,115,58,32,105,110,116,41,32,123,32,115,32,61,32,97,32,43,32,40,53,32,102,98,121,32,115,41,59,32,125]⟩
def cK:Cd:=⟨[false],1,3,[5],2,[(0,1),(2,2),(1,0),(3,0),(16,0),(2,1),(1,2),(1,1),(4,0)]⟩
theorem R3:Mt cK.al cK.cells.length 0 cK.row=some 0:=by decide +kernel
theorem acT:abn cK:=by unfold abn acg;decide
theorem TQ:(M1 cK [5] [1]).cells=[6]/\M5 cK (M1 cK [5] [1])=[6]:=⟨by kernel_rfl,by kernel_rfl⟩
theorem YW:(M1 cK [6] [2]).cells=[8]/\M5 cK (M1 cK [6] [2])=[8]:=⟨by kernel_rfl,by kernel_rfl⟩
theorem TO (w:Xw)(x:Int):Nm (w.alloc (.cells #[xI x] 2)) (xS w.heap.size 1 1) w.heap.size [x]:=by
 refine⟨_,1,rfl,an _,by decide,λ_=>⟨0,rfl,λj y a=>?_⟩⟩
 match j,a with
 | 0,a => cases a;exact (zu (zc w _)).1
theorem fV.aH {m:Ma}{w i:Xw}{g f:Xv}{c:Cd}{a b:List Int}{N:Nat}(h:fV m.mb m.b1 m.b2 w g i f)(d:MM w m g c a b)(e:N<=m.N)(j:N<=w.heap.size):Below N w i:=by
 refine h.fr.below j (λk hk=>?_);rcases hk with rfl|rfl|rfl|hk
 . exact aJ e d.mc.n0
 . exact aJ e d.mc.n1
 . exact aJ e d.mc.n2
 exact aJ e (d.mc.mem.own.lt k hk).1
def aeZ (c:Cd)(a:List ay):Bool:=match a.getLast? with
 | none=>false
 | some n=>match NY (Nr (MW (OE 1201 a.dropLast n))) with
   | none=>false
   | some d=>RR d c
theorem ahi:lQ Q9 (λa=>decide (dh a=none)&&aeZ cK a)=true:=by decide +kernel
theorem ahh:Qr Q9 cK:=by
 obtain⟨m,o,a,b,_,_,f,g⟩:=pE;obtain⟨p,e,s,i,j⟩:=vr ahi;rw[<- a,<- b] at e i;obtain⟨R,k⟩:∃R,dm m o 1300 Q9=R:=⟨_,rfl⟩;rw[k] at e i;obtain⟨t,q⟩:=ag4 a b f g p k e;have:=yF q.of i;subst this;simp only[Bool.and_eq_true,decide_eq_true_eq] at j;obtain⟨l,n,h⟩:=Vt a b (gas:=1201) (by decide) (by decide) p k e q j.1;have c:=j.2;unfold aeZ at c;rw[h.eq] at c;simp only[List.getLast?_concat,List.dropLast_concat] at c;split at c
 . cases c
 rename_i d r
 have:=WM c;subst this;exact⟨⟨l,n,18,1201,6,_,h.fix,h.code,r⟩,⟨by decide,by decide,by decide,by decide,by decide⟩,R3⟩
theorem ahl (S:Xs)(w:Xw)(k:Kn S w)(C:Sn S w)(D:fw w)(x:M9 w)(G:Nq w) :
 xK 4 #[] w (λe J=>e=.returned (.bool true)/\xB w J):=by
 have y:=za (Rm S acJ 8 5 (uJ (o:=some (8,5)) aht (λK h=>of_decide_eq_true h)) w k.gl C D);have B:=za (λW (a:xB w W)=>ac3 S acM acK 0 0 (ago ahs) W (k.bl a) (C.on a) (D.on a));have A:=za (λW (a:xB w W)=>V1 S Q9 cK ahh W (k.bl a).gl (x.am (zm a (an _)) k.gl.size) (G.am (zm a (an _)) k.gl.size));have z:aa (∀W,xB w W->Gl S W):=λW a=>(k.bl a).gl;unfold acJ at y;unfold acM acK at B;unfold Q9 at A;go_enter func4,ntmps4
 go_upto_region 6 with (first
  | (go_at_call 8;revert c;intro c;refine (A.o _ c.o).mono ?_;rintro e N ⟨m,p,rfl,b,F,s⟩;have d:=za (c.o.trans (s.mono c.o.size));have n:w.heap.size<=m.N:=aJ c.o.size F)
  | (go_at_call 6;refine (B.o _ j.o).mono ?_;rintro e M ⟨rfl,a⟩;have c:=za (j.o.trans (a.mono j.o.size)))
  | (go_at_call 7;refine y.o.mono ?_;rintro e L ⟨rfl,a⟩;have j:=za a))
 have l:=za (λ(W:Xw) (a:xB w W) (b:MM W m p cK [5] (List.replicate cK.al 0))=>(Ty S m p cK [5] (List.replicate cK.al 0) (W.alloc (.cells #[xI 1] 2)) (xS W.heap.size 1 1) W.heap.size [1] 6 (z.o _ (a.alloc a.size _)) (b.aq ((yS _ W).alloc (an _) _)) (TO W 1) (λ_ e=>by have:=ze b.mc.mem.sl;omega) (by decide) R3 acT rfl TQ.2));rw[TQ.1] at l;have r:=za (λ(W:Xw) (p:Xv) (g:List Int) (a:xB w W) (b:MM W m p cK [6] g)=>(Ty S m p cK [6] g (W.alloc (.cells #[xI 2] 2)) (xS W.heap.size 1 1) W.heap.size [2] 8 (z.o _ (a.alloc a.size _)) (b.aq ((yS _ W).alloc (an _) _)) (TO W 2) (λ_ e=>by have:=ze b.mc.mem.sl;omega) (by decide) R3 acT rfl YW.2))
 go_wp2_with (first
  | (go_at_call 9;revert i;intro i;refine (r.o _ _ _ f.o i.o).mono ?_;rintro e P ⟨I,rfl,E,u⟩;have q:=za ((f.o.alloc f.o.size _).trans (u.aH (i.o.aq ((yS _ _).alloc (an _) _)) n (f.o.alloc f.o.size _).size)))
  | (go_at_call 9;refine (l.o _ d.o b).mono ?_;rintro e O ⟨H,rfl,v,t⟩;have i:=za v;have f:=za ((d.o.alloc d.o.size _).trans (t.aH (b.aq ((yS _ _).alloc (an _) _)) n (d.o.alloc d.o.size _).size))))
 go_ret;exact⟨rfl,q.o⟩
end
end Go.Proofs.YtcnelakggnfnhaaGreatDoor
