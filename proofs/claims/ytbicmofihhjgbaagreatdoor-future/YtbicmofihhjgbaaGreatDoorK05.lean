/- Part 6 of the proof. -/
import Derived.Test.YtbicmofihhjgbaaGreatDoorK01
set_option maxRecDepth 100000
set_option maxHeartbeats 8000000
namespace Go.Proofs.YtbicmofihhjgbaaGreatDoor
open Go.Proofs.Tryz
section
variable {c d:Fn} {p:Nat} {b:St}
structure ax where
 ns:List ByteArray
 ps:List Nat
 a:Nat
 ex:Nat
structure dI where
 st:St
 ns:List ByteArray
 ps:List Nat
def dI.more (x:dI):dI:=⟨x.st.ad.name,x.ns++[x.st.ad.t.s],x.ps++[x.st.ad.t.a]⟩
def cX:Nat->dI->dI
 | 0,x=>x
 | f+1,x=>if x.st.er=0/\x.st.is 4 [44]=true then cX f x.more else x
def iG (b:St):dI :=
 let a:=b.ad.name.ac 4 [44]
 let y:=cX 1300 ⟨a.name,[b.ad.t.s,a.t.s],[b.ad.t.a,a.t.a]⟩
 ⟨y.st.ac 4 [41],y.ns,y.ps⟩
def aZ (b:St):dI:=if b.is 4 [40]=true then iG b else ⟨b.name,[b.t.s],[b.t.a]⟩
def cx (c d:Fn)(a:Bool)(b:St):St×Nat:=if a=true then vs c b.t b.name else d b
def zF (c d:Fn)(b:St)(a:List ax):St×List ax :=
 let l:=aZ b
 let e:=cx c d (b.is 4 [40]) (l.st.ac 4 [61])
 (e.1.ac 4 [59],a++[⟨l.ns,l.ps,l.st.t.a,e.2⟩])
theorem o9:∀(f p:Nat) (x:dI),Inv p x.st->ai p x.st (cX f x).st/\(cX f x).st.op=x.st.op/\(cX f x).st.L=x.st.L:=by
 intro f;induction f with
 | zero=>intro p x a;exact⟨ai.refl a,rfl,rfl⟩
 | succ f j =>
   intro p x a
   show ai p x.st (if _ then _ else x).st/\(if _ then _ else x).st.op=x.st.op/\(if _ then _ else x).st.L=x.st.L;by_cases i:x.st.er=0/\x.st.is 4 [44]=true
   . rw[ag i];have g:=ai.ad a;have h:=ai.name g.af;have e:=j p x.more h.af;exact⟨(g.trans h).trans e.1,e.2.1.trans ((St.dB _).trans (St.bQ _)),e.2.2.trans ((St.c8 _).trans (St.bu _))⟩
   rw[ae i];exact⟨ai.refl a,rfl,rfl⟩
theorem IR (j:Inv p b):ai p b (iG b).st/\(iG b).st.op=b.op/\(iG b).st.L=b.L:=by
 have e:=ai.ad j;have f:=ai.name e.af;have g:=ai.ac f.af 4 [44];have h:=ai.name g.af;have a:=o9 1300 p ⟨(b.ad.name.ac 4 [44]).name,[b.ad.t.s,(b.ad.name.ac 4 [44]).t.s],[b.ad.t.a,(b.ad.name.ac 4 [44]).t.a]⟩ h.af;have i:=ai.ac a.1.af 4 [41];refine⟨((((e.trans f).trans g).trans h).trans a.1).trans i,?_,?_⟩
 . unfold iG;simp only;rw[St.a8,a.2.1];simp only;rw[St.dB,St.a8,St.dB,St.bQ]
 unfold iG;simp only;rw[St.bi,a.2.2];simp only;rw[St.c8,St.bi,St.c8,St.bu]
theorem nN (a:Inv p b):ai p b (aZ b).st/\(aZ b).st.op=b.op/\(aZ b).st.L=b.L:=by
 unfold aZ;split
 . exact IR a
 exact⟨ai.name a,St.dB _,St.c8 _⟩
theorem pj (g:zv 17 c)(h:zv 18 d){many:Bool}(j:Inv p b)(n:b.op=0)(m:many=true->1<=b.t.a):ai p b (cx c d many b).1/\(cx c d many b).1.op=b.op:=by
 unfold cx;split
 . rename_i i
   have a:=ai.name j;by_cases k:b.name.er=0
   . have f:=xY g b.t a.af k (by rw[St.dB,n];omega) (aJ (m i) a.ta);exact⟨a.trans f.dj,f.op.trans (St.dB _)⟩
   have l:b.name.is 4 [40]=false:=(by have:=a.af.bad k;simp[St.is,this]);have e:vs c b.t b.name=(b.name.fail 2 b.name.t.a,0):=(by unfold vs;rw[ae (by rw[l];simp)]);rw[e];exact⟨a.trans (ai.fail a.af (by omega) (by omega) a.af.ok.bR),(St.jH _ _ _).trans (St.dB _)⟩
 have f:=h b p j (by omega);exact⟨f.dj,f.op⟩
theorem yr (a:Inv p b)(e:b.is 4 [40]=true):1<=(aZ b).st.t.a:=by
 have o:=a.gf (by omega) e;have r:=Inv.bP e;have m:aZ b=iG b:=by unfold aZ;rw[ag e]
 rw[m];have n:1<=b.ad.t.a:=by have:=a.tok (by omega);rw[St.dZ o];have q:=zV b.src b.t.t a.ok.tt;simp only;omega
 have k:=ai.ad a;have f:=ai.name k.af;have g:=ai.ac f.af 4 [44];have i:=ai.name g.af;have j:=o9 1300 p ⟨(b.ad.name.ac 4 [44]).name,[b.ad.t.s,(b.ad.name.ac 4 [44]).t.s],[b.ad.t.a,(b.ad.name.ac 4 [44]).t.a]⟩ i.af;have l:=ai.ac j.1.af 4 [41];have h:=((((f.trans g).trans i).trans j.1).trans l).ta;exact aJ n h
theorem gD (a:zv 17 c)(e:zv 18 d){eqs:List ax}(i:Inv p b)(j:b.op=0):ai p b (zF c d b eqs).1/\(zF c d b eqs).1.op=b.op:=by
 have f:=nN i;have g:=ai.ac f.1.af 4 [61];have k:((aZ b).st.ac 4 [61]).op=0:=by rw[St.a8,f.2.1,j]
 have h:=pj a e (many:=b.is 4 [40]) g.af k (λm=>aJ (yr i m) g.ta);have l:=ai.ac h.1.af 4 [59];refine⟨((f.1.trans g).trans h.1).trans l,?_⟩;unfold zF;simp only;rw[St.a8,h.2,k,j]
end
section
variable {f:Nat} {R:dI} {a:St}
def hq (a:St):dI:=⟨(a.ad.name.ac 4 [44]).name,[a.ad.t.s,(a.ad.name.ac 4 [44]).t.s],[a.ad.t.a,(a.ad.name.ac 4 [44]).t.a]⟩
structure K8 (a:St) (R:dI) (p:Nat):Prop where
 many:iG a=⟨R.st.ac 4 [41],R.ns,R.ps⟩
 x0:Inv p (hq a).st
 r:Inv p R.st
 rL:R.st.L=a.L
 tv:R.st.op=a.op
 ta:1<=R.st.t.a
theorem sa (b:f=1300)(h:cX f (hq a)=R):iG a=⟨R.st.ac 4 [41],R.ns,R.ps⟩:=by subst h;subst b;rfl
theorem ym {p:Nat}(c:Inv p a)(j:a.is 4 [40]=true)(i:f=1300)(h:cX f (hq a)=R):K8 a R p:=by
 have m:=c.gf (by omega) j;have n:=Inv.bP j;have l:1<=a.ad.t.a:=by have:=c.tok (by omega);rw[St.dZ m];have i:=zV a.src a.t.t c.ok.tt;simp only;omega
 have k:=ai.ad c;have e:=ai.name k.af;have g:=ai.ac e.af 4 [44];have d:=ai.name g.af;have b:=o9 f p (hq a) d.af;rw[h] at b;refine⟨sa i h,d.af,b.1.af,?_,?_,?_⟩
 . rw[b.2.2];unfold hq;simp only;rw[St.c8,St.bi,St.c8,St.bu]
 . rw[b.2.1];unfold hq;simp only;rw[St.dB,St.a8,St.dB,St.bQ]
 exact aJ l (((e.trans g).trans d).trans b.1).ta
theorem VR {r17 r18:Fn}{eqs:List ax}(b:a.is 4 [40]=true)(h:iG a=⟨R.st.ac 4 [41],R.ns,R.ps⟩) :
 zF r17 r18 a eqs=((vs r17 ((R.st.ac 4 [41]).ac 4 [61]).t ((R.st.ac 4 [41]).ac 4 [61]).name).1.ac 4 [59],eqs++[⟨R.ns,R.ps,(R.st.ac 4 [41]).t.a,(vs r17 ((R.st.ac 4 [41]).ac 4 [61]).t ((R.st.ac 4 [41]).ac 4 [61]).name).2⟩]):=by
 have c:aZ a=⟨R.st.ac 4 [41],R.ns,R.ps⟩:=by unfold aZ;rw[ag b,h]
 unfold zF cx;simp only[c];rw[ag b]
end
end Go.Proofs.YtbicmofihhjgbaaGreatDoor
