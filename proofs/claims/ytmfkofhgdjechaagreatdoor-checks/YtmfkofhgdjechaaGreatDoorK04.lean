/- Part 5 of the proof. -/
import Derived.Test.YtmfkofhgdjechaaGreatDoorK03
set_option maxRecDepth 100000
set_option maxHeartbeats 8000000
namespace Go.Proofs.YtmfkofhgdjechaaGreatDoor
open Go.Proofs.Tryz
section
open Go.RowKit
theorem sB (d:Nat)(F:Fx)(f:Rw)(b:St)(a:List Vr)(p:Nat)(w:Xw)(g:Inv p b)(h:zs w d F f b)(j:cg w d F.vs a)(i o:Bool) :
 xK 258 #[xP d,.bool i,.bool o] w (iV d F f w (zx i o b a).1 (zx i o b a).2):=by
 by_cases l:16<=a.length
 . exact BX d F f b a p w g h j i o l
 cases n:((z9 (b.name.ac 4 [58])).is 5 cF&&!i&&!o) with
 | false =>
   cases k:(b.name.ac 4 [58]).is 5 cD with
   | true=>exact B2 d F f b a p w g h j i o l k n
   | false=>exact BT d F f b a p w g h j i o l k n
 | true =>
   have m:i=false/\o=false/\(z9 (b.name.ac 4 [58])).is 5 cF=true:=(by cases i <;> cases o <;> simp_all);obtain⟨rfl,rfl,e⟩:=m;cases k:(b.name.ac 4 [58]).is 5 cD with
   | true =>
     cases c:(z9 (b.name.ac 4 [58])).ad.is 5 eL with
     | true=>exact L3 d F f b a p w g h j l k e c
     | false=>exact L6 d F f b a p w g h j l k e c
   | false =>
     cases c:(z9 (b.name.ac 4 [58])).ad.is 5 eL with
     | true=>exact L2 d F f b a p w g h j l k e c
     | false=>exact L5 d F f b a p w g h j l k e c
theorem bg.trans {c:Nat}{a b:Xv}{w d e:Xw}(h:bg c a w d)(f:∀k,b.ownBlock=some k->a.ownBlock=some k∨w.heap.size<=k)(k:bg c b d e):bg c a w e:=by
 refine Fr.dr h k ?_;intro i g hs;rcases hs with hs|hs
 . exact ao hs
 rcases f i hs with h2|h2
 . exact ap h2
 omega
theorem uA (c:Nat)(F:Fx)(q:Rw)(b:St)(a:List Vr)(p:Nat)(w:Xw)(y:Inv p b)(A:zs w c F q b)(B:cg w c F.vs a) :
 xK 211 #[xP c] w (iV c F q w (cz b a).1 (cz b a).2):=by
 have g:=jX (i:=false) (o:=false) (ab:=a) y;have z:cz b a=((zx false false b a).1.ac 4 [59],(zx false false b a).2):=rfl;rw[z];have C:=za (sB c F q b a p w y A B false false);have G:=za g.1.af;clear z g A B y;generalize zx false false b a=x at *;go_enter func211,ntmps211;go_wp2_with fail;refine C.o.mono ?_;rintro e D ⟨n,rfl,j,m,f,l⟩;have s:=za j;have v:=za m;have r:=za f;have u:=za l;clear j m f l;go_wp2_with fail;refine (cO c { F with vs:=n } q x.1 4 4 rfl ⟨#[59]⟩ [59] (by decide +kernel) _ G.o.ok s.o).mono ?_;rintro e E ⟨rfl,k,h⟩;have t:=za k;have d:=za h;clear k h;go_wp2_with fail;go_end0;exact⟨n,rfl,t.o,v.o.fr d.o,Fr.trans r.o (bg.bA d.o),u.o⟩
theorem uH (b:Nat)(F:Fx)(q:Rw)(r:St)(a:List Vr)(p:Nat)(w:Xw)(bL:Inv p r)(hR:zs w b F q r)(ca:cg w b F.vs a)(i:Bool) :
 xK 209 #[xP b,.bool i] w (iV b F q w (bW i r a).1 (bW i r a).2):=by
 have bx:=ai.ac bL 4 [40];have g2:=jX (i:=i) (o:=!i) (ab:=a) bx.af;have b4:bW i r a=((cK i 1300 (zx i (!i) (r.ac 4 [40]) a)).1.ac 4 [41],(cK i 1300 (zx i (!i) (r.ac 4 [40]) a)).2):=rfl;rw[b4];have c0:=za bL.ok;have cn:=za bx.af;have cv:=za g2.1.af;have c1:=za hR;have c2:=za ca;clear b4 hR ca bL bx g2;generalize ak:zx i (!i) (r.ac 4 [40]) a=x0 at *;have bt:=za ak;clear ak;obtain⟨R,n⟩:∃R,cK i 1300 x0=R:=⟨_,rfl⟩;rw[n];have I:=za n;clear n;go_enter func209,ntmps209;go_wp2_with fail;refine (cO b F q r 4 4 rfl ⟨#[40]⟩ [40] (by decide +kernel) _ c0.o c1.o).mono ?_;rintro e ge ⟨rfl,P,J⟩;have a4:=za P;have u:=za J;clear P J;go_wp2_with fail;refine (sB b F q (r.ac 4 [40]) a p _ cn.o a4.o (c2.o.fr u.o) i (!i)).mono ?_;rw[bt.o];rintro e eb ⟨al,rfl,Q,Y,K,W⟩;have N:bg b F.vs w eb:=Fr.trans (bg.bA u.o) K;have U:∀k,al.ownBlock=some k->F.vs.ownBlock=some k∨w.heap.size<=k:=λk b1=>by
  rcases W k b1 with h|h
  . exact ao h
  have:=u.o.size;exact ap (by omega)
 clear K W;have a5:=za Q;have bp:=za Y;have a0:=za N;have bk:=za U;clear Q Y N U;go_wp2_with fail;go_loopg [20] 1300 (λk _ wr=>∃(x:St×List Vr) (E:Xv),aa (cK i k x=R)/\rem x.1<k/\aa (Inv p x.1)/\aa (zs wr b { F with vs:=E } q x.1)/\aa (cg wr b E x.2)/\aa (bg b F.vs w wr)/\aa (∀k,E.ownBlock=some k->F.vs.ownBlock=some k∨w.heap.size<=k));case atStart => refine⟨x0,al,I.o,?_,cv.o,a5.o,bp.o,a0.o,bk.o⟩;unfold rem;split <;> omega
 case round =>
  obtain⟨x,G,H,ck,c,d,A,s,t⟩:=hrel;obtain⟨er,es,ev,ex,fd,fq,fr,fv,fx,fV,c4,c5,c9,dn,ds⟩:=d.o.cells;obtain⟨f,rfl⟩:∃f,gk=f+1:=⟨gk-1,by omega⟩;by_cases C:x.1.er=0
  . have b0:((x.1.er:Int)==0)=true:=beq_iff_eq.2 (by omega);cases B:x.1.is 4 [44] with
    | true =>
      have b2:=Inv.bP B;have bE:=ai.ad c.o;have b3:x.1.t.a+1<=x.1.ad.t.a:=(by have:=c.o.tok (by omega);rw[St.dZ C];have gc:=zV x.1.src x.1.t.t c.o.ok.tt;simp only;omega);have g4:=jX (i:=i) (o:=!i) (ab:=x.2) bE.af;have g:aa (cK i f (zx i (!i) x.1.ad x.2)=R):=by
       have h:=H.o;unfold aa;rw[<- h]
       show _=(if x.1.er=0/\x.1.is 4 [44]=true then _ else x);rw[ag ⟨C,B⟩]
      have D:aa (rem (zx i (!i) x.1.ad x.2).1<f):=(by unfold aa rem;have h1:rem x.1=1201-x.1.t.a:=(by unfold rem;rw[ag C]);have h2:=g4.1.ta;have h4:=g4.1.af.ok.bR;split <;> omega);have a3:=za g4.1.af;have cs:=za bE.af;clear C b2 bE g4 H b3;generalize cm:zx i (!i) x.1.ad x.2=y at *;have c3:=za cm;clear cm;go_wp2_with fail;refine (cb b _ q x.1 4 4 rfl ⟨#[44]⟩ [44] (by decide +kernel) _ d.o).mono ?_;rintro e w' ⟨rfl,rfl⟩;go_wp2_with fail;refine (dH b _ q x.1 _ c.o.ok d.o).mono ?_;rintro e gl ⟨rfl,S,L⟩;have a9:=za S;have v:=za L;clear S L;go_wp2_with fail;refine (sB b { F with vs:=G } q x.1.ad x.2 p _ cs.o a9.o (A.o.fr v.o) i (!i)).mono ?_;rw[c3.o];rintro e em ⟨ar,rfl,T,Z,M,X⟩;have O:bg b F.vs w em:=s.o.trans t.o (Fr.trans (bg.bA v.o) M);have V:∀k,ar.ownBlock=some k->F.vs.ownBlock=some k∨w.heap.size<=k:=λk b1=>by
       rcases X k b1 with h|h
       . exact t.o k h
       have h1:=v.o.size;have h2:=s.o.size;exact ap (by omega)
      clear M X;have be:=za T;have bs:=za Z;have a2:=za O;have bl:=za V;clear T Z O V;go_wp2_with fail;go_roundg f;case measure=>omega
      case rel=>exact⟨y,ar,g.o,D.out,a3,be,bs,a2,bl⟩
    | false =>
      have g:aa (R=x):=by
       have h:=H.o;unfold aa;rw[<- h]
       show (if x.1.er=0/\x.1.is 4 [44]=true then _ else x)=x;rw[ae (by rw[B];simp)]
      clear C H;go_wp2_with fail;refine (cb b _ q x.1 4 4 rfl ⟨#[44]⟩ [44] (by decide +kernel) _ d.o).mono ?_;rintro e w' ⟨rfl,rfl⟩;go_wp2_with fail;refine (cO b _ q x.1 4 4 rfl ⟨#[41]⟩ [41] (by decide +kernel) _ c.o.ok d.o).mono ?_;rintro e eq ⟨rfl,m,l⟩;have z:=za m;have j:=za l;clear m l;go_wp2_with fail;go_end0;rw[g.o];exact⟨G,rfl,z.o,A.o.fr j.o,Fr.trans s.o (bg.bA j.o),t.o⟩
  have b0:((x.1.er:Int)==0)=false:=bf.2 (by omega);have g:aa (R=x):=by
   have h:=H.o;unfold aa;rw[<- h]
   show (if x.1.er=0/\x.1.is 4 [44]=true then _ else x)=x;rw[ae (by simp[C])]
  clear C H;go_wp2_with fail;refine (cO b _ q x.1 4 4 rfl ⟨#[41]⟩ [41] (by decide +kernel) _ c.o.ok d.o).mono ?_;rintro e eq ⟨rfl,m,l⟩;have z:=za m;have j:=za l;clear m l;go_wp2_with fail;go_end0;rw[g.o];exact⟨G,rfl,z.o,A.o.fr j.o,Fr.trans s.o (bg.bA j.o),t.o⟩
end
section
variable {c d:Fn} {p:Nat} {b:St}
structure ax where
 ns:List ByteArray
 ps:List Nat
 a:Nat
 ex:Nat
structure dI where
 st:St
 ns:List ByteArray
 ps:List Nat
def dI.more (x:dI):dI:=⟨x.st.ad.name,x.ns++[x.st.ad.t.s],x.ps++[x.st.ad.t.a]⟩
def cX:Nat->dI->dI
 | 0,x=>x
 | f+1,x=>if x.st.er=0/\x.st.is 4 [44]=true then cX f x.more else x
def iG (b:St):dI :=
 let a:=b.ad.name.ac 4 [44]
 let y:=cX 1300 ⟨a.name,[b.ad.t.s,a.t.s],[b.ad.t.a,a.t.a]⟩
 ⟨y.st.ac 4 [41],y.ns,y.ps⟩
def aZ (b:St):dI:=if b.is 4 [40]=true then iG b else ⟨b.name,[b.t.s],[b.t.a]⟩
def cx (c d:Fn)(a:Bool)(b:St):St×Nat:=if a=true then a1 c b.t b.name else d b
def zF (c d:Fn)(b:St)(a:List ax):St×List ax :=
 let l:=aZ b
 let e:=cx c d (b.is 4 [40]) (l.st.ac 4 [61])
 (e.1.ac 4 [59],a++[⟨l.ns,l.ps,l.st.t.a,e.2⟩])
theorem o9:∀(f p:Nat) (x:dI),Inv p x.st->ai p x.st (cX f x).st/\(cX f x).st.op=x.st.op/\(cX f x).st.L=x.st.L:=by
 intro f;induction f with
 | zero=>intro p x a;exact⟨ai.refl a,rfl,rfl⟩
 | succ f j =>
   intro p x a
   show ai p x.st (if _ then _ else x).st/\(if _ then _ else x).st.op=x.st.op/\(if _ then _ else x).st.L=x.st.L;by_cases i:x.st.er=0/\x.st.is 4 [44]=true
   . rw[ag i];have g:=ai.ad a;have h:=ai.name g.af;have e:=j p x.more h.af;exact⟨(g.trans h).trans e.1,e.2.1.trans ((St.dB _).trans (St.bQ _)),e.2.2.trans ((St.c8 _).trans (St.bu _))⟩
   rw[ae i];exact⟨ai.refl a,rfl,rfl⟩
theorem IR (j:Inv p b):ai p b (iG b).st/\(iG b).st.op=b.op/\(iG b).st.L=b.L:=by
 have e:=ai.ad j;have f:=ai.name e.af;have g:=ai.ac f.af 4 [44];have h:=ai.name g.af;have a:=o9 1300 p ⟨(b.ad.name.ac 4 [44]).name,[b.ad.t.s,(b.ad.name.ac 4 [44]).t.s],[b.ad.t.a,(b.ad.name.ac 4 [44]).t.a]⟩ h.af;have i:=ai.ac a.1.af 4 [41];refine⟨((((e.trans f).trans g).trans h).trans a.1).trans i,?_,?_⟩
 . unfold iG;simp only;rw[St.a8,a.2.1];simp only;rw[St.dB,St.a8,St.dB,St.bQ]
 unfold iG;simp only;rw[St.bi,a.2.2];simp only;rw[St.c8,St.bi,St.c8,St.bu]
theorem nN (a:Inv p b):ai p b (aZ b).st/\(aZ b).st.op=b.op/\(aZ b).st.L=b.L:=by
 unfold aZ;split
 . exact IR a
 exact⟨ai.name a,St.dB _,St.c8 _⟩
theorem pj (g:zv 17 c)(h:zv 18 d){many:Bool}(j:Inv p b)(n:b.op=0)(m:many=true->1<=b.t.a):ai p b (cx c d many b).1/\(cx c d many b).1.op=b.op:=by
 unfold cx;split
 . rename_i i
   have a:=ai.name j;by_cases k:b.name.er=0
   . have f:=xY g b.t a.af k (by rw[St.dB,n];omega) (aJ (m i) a.ta);exact⟨a.trans f.dj,f.op.trans (St.dB _)⟩
   have l:b.name.is 4 [40]=false:=(by have:=a.af.bad k;simp[St.is,this]);have e:a1 c b.t b.name=(b.name.fail 2 b.name.t.a,0):=(by unfold a1;rw[ae (by rw[l];simp)]);rw[e];exact⟨a.trans (ai.fail a.af (by omega) (by omega) a.af.ok.bR),(St.jH _ _ _).trans (St.dB _)⟩
 have f:=h b p j (by omega);exact⟨f.dj,f.op⟩
theorem yr (a:Inv p b)(e:b.is 4 [40]=true):1<=(aZ b).st.t.a:=by
 have o:=a.gf (by omega) e;have r:=Inv.bP e;have m:aZ b=iG b:=by unfold aZ;rw[ag e]
 rw[m];have n:1<=b.ad.t.a:=by have:=a.tok (by omega);rw[St.dZ o];have q:=zV b.src b.t.t a.ok.tt;simp only;omega
 have k:=ai.ad a;have f:=ai.name k.af;have g:=ai.ac f.af 4 [44];have i:=ai.name g.af;have j:=o9 1300 p ⟨(b.ad.name.ac 4 [44]).name,[b.ad.t.s,(b.ad.name.ac 4 [44]).t.s],[b.ad.t.a,(b.ad.name.ac 4 [44]).t.a]⟩ i.af;have l:=ai.ac j.1.af 4 [41];have h:=((((f.trans g).trans i).trans j.1).trans l).ta;exact aJ n h
theorem gD (a:zv 17 c)(e:zv 18 d){eqs:List ax}(i:Inv p b)(j:b.op=0):ai p b (zF c d b eqs).1/\(zF c d b eqs).1.op=b.op:=by
 have f:=nN i;have g:=ai.ac f.1.af 4 [61];have k:((aZ b).st.ac 4 [61]).op=0:=by rw[St.a8,f.2.1,j]
 have h:=pj a e (many:=b.is 4 [40]) g.af k (λm=>aJ (yr i m) g.ta);have l:=ai.ac h.1.af 4 [59];refine⟨((f.1.trans g).trans h.1).trans l,?_⟩;unfold zF;simp only;rw[St.a8,h.2,k,j]
end
section
open Go.RowKit
variable {c:Xa} {s:Xb} {F:Fx} {m:Xl} {p:Xn} {a b A j:Nat} {f:Nat×Nat} {o:Obj} {r:Rw} {x:St} {t:Tk} {e:Xy} {d g z:Xv} {w q wr:Xw}
def im (l:Xl):List Value:=l.map Value.string
def iT (g d:Xv)(a A:Nat):Obj:=.cells #[g,d,xI a,xI A] 275 (0,0)
theorem e1 (h:w.heap[b]?=some (iT g d a A)):w.cell? (xD b 0)=some g/\w.cell? (xD b 1)=some d/\w.cell? (xD b 2)=some (xI a)/\w.cell? (xD b 3)=some (xI A):=by simp[World.cell?,h,iT]
theorem hx (h:w.heap[b]?=some (iT g d a A))(i:Nat):w.frozen? (xD b i)=false:=by simp[World.frozen?,h,iT]
structure c6 (j:Nat) (F:Fx) (r:Rw) (w:Xw) (wr:Xw) (x:St) (g d:Xv) (m:Xl) (p:Xn):Prop where
 aL:zs wr j F r x
 fr:Fr (·=j) w wr
 box:wr.heap[w.heap.size]?=some (iT g d 0 0)
 eF:wr.ownsRow w.heap.size 9 1 g m.length (im m)
 dL:wr.ownsRow w.heap.size 3 1 d p.length (bK p)
 lt:j<w.heap.size
theorem c6.go {n:Xw}{u:St}(h:c6 j F r w wr x g d m p)(hF:Fr (·=j) wr n)(y:zs n j F r u):c6 j F r w n u g d m p:=by
 have l:=h.lt;refine⟨y,h.fr.trans hF,?_,?_,?_,l⟩
 . rw[hF.block _ (zA h.box) (by omega),h.box]
 . exact zi h.eF (λk v i _=>hF.block k i (by omega))
 exact zi h.dL (λk v i _=>hF.block k i (by omega))
theorem c6.alloc (h:c6 j F r w wr x g d m p)(o:Obj):c6 j F r w (wr.alloc o) x g d m p :=
 h.go ((Fr.refl _ _).alloc o) (h.aL.alloc o)
theorem c6.set (h:c6 j F r w wr x g d m p)(y:wr.heap[b]?=some (.cells c 270 f))(B:w.heap.size<b)(i:Nat)(v:Xv):c6 j F r w (wr.setCell (xD b i) v) x g d m p:=by
 have u:=h.lt;refine⟨h.aL.aU (by omega) _ _,h.fr.aO (by omega) _ _,?_,?_,?_,u⟩
 . rw[Below.heap_setCell _ _ _ _ (show w.heap.size≠b by omega),h.box]
 . refine zi h.eF (λk _ _ n=>Below.heap_setCell _ _ _ _ ?_);intro e;have l:k=b:=e;exact hy h.eF y (by decide) (l▸n)
 refine zi h.dL (λk _ _ n=>Below.heap_setCell _ _ _ _ ?_);intro e;have l:k=b:=e;exact hy h.dL y (by decide) (l▸n)
theorem va (h:w.heap[b]?=some (z8 t))(u:Tk):(((((w.setCell (xD b 0) (xI u.k)).setCell (xD b 1) (xI u.a)).setCell (xD b 2) (xI u.t)).setCell (xD b 3) (.string u.s)).setCell (xD b 4) (xI u.n)).heap[b]?=some (z8 u) :=
 qt h _ _ _ _ _
theorem c6.hd (h:c6 j F r w wr x g d m p)(v:wr.heap[b]?=some (z8 t))(i:w.heap.size<b)(u:Tk) :
 c6 j F r w (((((wr.setCell (xD b 0) (xI u.k)).setCell (xD b 1) (xI u.a)).setCell (xD b 2) (xI u.t)).setCell (xD b 3) (.string u.s)).setCell (xD b 4) (xI u.n)) x g d m p:=by
 have k:=zh _ _ 0 (xI u.k) v;have l:=zh _ _ 1 (xI u.a) k;have n:=zh _ _ 2 (xI u.t) l;have y:=zh _ _ 3 (.string u.s) n;exact ((((h.set v i _ _).set k i _ _).set l i _ _).set n i _ _).set y i _ _
theorem c6.jJ (h:c6 j F r w wr x g d m p)(n:(wr.alloc o).grownBy q g.ownBlock)(k:wr.heap[b]?=some (.cells c e f))(l:9≠e):q.heap[b]?=some (.cells c e f):=by have i:=(Below.heap_alloc wr o b (zA k)).trans k;rw[n.block b (zA i) (λe=>hy (zD h.eF o) i l e.symm),i]
theorem c6.ol (h:c6 j F r w wr x g d m p)
 (H:q.ownsRow w.heap.size 9 1 z (m.length+1) (im m++[.string s])) (y:(wr.alloc o).grownBy q g.ownBlock):c6 j F r w (q.setCell (xD w.heap.size 0) z) x z d (m++[s]) p:=by
 have K:=h.lt;have C:∀k,g.ownBlock=some k->w.heap.size<=k:=λk B=>(h.eF.lt k B).1;have G:q.heap[w.heap.size]?=some (iT g d 0 0):=h.jJ y h.box (by decide);have J:Fr (·=j) w q:=by have E:=h.fr.alloc o;refine⟨y.os.trans E.os,y.tape.trans E.tape,y.output.trans E.output,aJ E.size y.size,?_⟩;intro k B P;rw[y.block k (dD B E.size) (λe=>by have:=C k e.symm;omega)];exact E.block k B P
 have O:q.ownsRow w.heap.size 3 1 d p.length (bK p):=mF (zD h.dL o) y (λk B=>kT (zD h.dL o) (zD h.eF o) (by decide) B);have D:∀{i e v n:Nat} {u:Xv} {l:Xm},q.ownsRow i e v u n l->e≠275->(q.setCell (xD w.heap.size 0) z).ownsRow i e v u n l:=by intro i e v n u l I N;refine zi I (λk _ _ B=>Below.heap_setCell _ _ _ _ ?_);intro M;have L:k=w.heap.size:=M;exact hy I G N (L▸B)
 refine⟨((h.aL.alloc o).grown y (λe=>by have:=C j e;omega)).aU (by omega) _ _,J.aO (an _) _ _,zh _ _ _ _ G,?_,D O (by decide),K⟩;have I:=D H (by decide);simpa [im] using I
theorem c6.jI (h:c6 j F r w wr x g d m p)(n:(wr.alloc o).grownBy q d.ownBlock)(k:wr.heap[b]?=some (.cells c e f))(l:3≠e):q.heap[b]?=some (.cells c e f):=by have i:=(Below.heap_alloc wr o b (zA k)).trans k;rw[n.block b (zA i) (λe=>hy (zD h.dL o) i l e.symm),i]
theorem c6.oj {y:Nat}(h:c6 j F r w wr x g d m p)
 (I:q.ownsRow w.heap.size 3 1 z (p.length+1) (bK p++[xI y])) (B:(wr.alloc o).grownBy q d.ownBlock):c6 j F r w (q.setCell (xD w.heap.size 1) z) x g z m (p++[y]):=by
 have L:=h.lt;have D:∀k,d.ownBlock=some k->w.heap.size<=k:=λk C=>(h.dL.lt k C).1;have H:q.heap[w.heap.size]?=some (iT g d 0 0):=h.jI B h.box (by decide);have K:Fr (·=j) w q:=by have G:=h.fr.alloc o;refine⟨B.os.trans G.os,B.tape.trans G.tape,B.output.trans G.output,aJ G.size B.size,?_⟩;intro k C Q;rw[B.block k (dD C G.size) (λe=>by have:=D k e.symm;omega)];exact G.block k C Q
 have P:q.ownsRow w.heap.size 9 1 g m.length (im m):=mF (zD h.eF o) B (λk C=>kT (zD h.eF o) (zD h.dL o) (by decide) C);have E:∀{i e v n:Nat} {u:Xv} {l:Xm},q.ownsRow i e v u n l->e≠275->(q.setCell (xD w.heap.size 1) z).ownsRow i e v u n l:=by intro i e v n u l J O;refine zi J (λk _ _ C=>Below.heap_setCell _ _ _ _ ?_);intro N;have M:k=w.heap.size:=N;exact hy J H O (M▸C)
 refine⟨((h.aL.alloc o).grown B (λe=>by have:=D j e;omega)).aU (by omega) _ _,K.aO (an _) _ _,zh _ _ _ _ H,E P (by decide),?_,L⟩;have J:=E I (by decide);simpa [bK] using J
theorem Tryz.s9:(prog.info? 9).map (λi=>(i.zero,i.size,i.bytes))=some (some (.string ⟨#[]⟩),1,16):=by kernel_rfl
theorem oD:∀u∈([.string s]:Xm),u.oneCell'=true:=by intro u h;simp at h;subst h;rfl
end
section
open Go.RowKit
variable {F:Fx} {y:Xl} {L:List ax} {j:Xn} {a z n d:Nat} {m r:Rw} {x E:St} {s t:Xv} {w C D wr:Xw}
theorem kV (h:n<=1400):n+1<=maxLen:=by unfold maxLen;omega
theorem kW {c:Nat}(h:n<=1400)(b:c<=100):(n+1)*c<=140737488355328:=by have:(n+1)*c<=1401*100:=Nat.mul_le_mul (by omega) b;omega
theorem c6.up (h:c6 d F m w wr x t s y j)(o:Obj):w.heap.size<=(wr.alloc o).heap.size:=by have:=h.fr.size;simp;omega
theorem um (w:Xw)(A B:Obj):((w.alloc A).alloc B).heap[w.heap.size+1]?=some B:=ux w A B
theorem pX (w:Xw)(p:Addr)(v:Xv)(o:Obj):((w.setCell p v).alloc o).heap[w.heap.size]?=some o:=by have h:=zc (w.setCell p v) o;rw[show (w.setCell p v).heap.size=w.heap.size by simp[World.setCell]] at h;exact h
structure Qw where
 v:Value
 fk:List (Value×Value)
def ii (e:ax)(p:Value×Value):List Value:=[p.1,p.2,xI e.a,xI e.ex]
def ij:List ax->List (Value×Value)->List Value
 | e::l,p::j=>ii e p++ij l j
 | _,_=>[]
theorem Cg:∀(L:List ax) (j:List (Value×Value)) (e:ax) (p:Value×Value),L.length=j.length->ij (L++[e]) (j++[p])=ij L j++ii e p:=by
 intro L;induction L with
 | nil=>intro j e p h;cases j with
   | nil=>simp[ij]
   | cons _ _=>simp at h
 | cons c L b=>intro j e p h;cases j with
   | nil=>simp at h
   | cons f j=>simp only[List.cons_append,ij,b j e p (by simpa using h),bw]
def eX (w:Xw)(d:Nat)(q:Qw)(L:List ax):Prop :=
 L.length=q.fk.length/\w.ownsRow (d+1) 275 4 q.v L.length (ij L q.fk) /\
  ∀(i:Nat) (e:ax) (p:Value×Value),L[i]?=some e->q.fk[i]?=some p->w.ownsRow (d+1) 9 1 p.1 e.ns.length (im e.ns)/\w.ownsRow (d+1) 3 1 p.2 e.ps.length (bK e.ps)
theorem eX.kept {q:Qw}(h:eX w d q L)(Q:∀(k:Nat) (c:Xa) (e:Xy),d+1<=k->xH w k c e->e≠190->C.heap[k]?=w.heap[k]?):eX C d q L:=by
 obtain⟨N,O,H⟩:=h;have b:∀{e f n:Nat} {v:Xv} {l:Xm},e≠190->w.ownsRow (d+1) e f v n l->C.ownsRow (d+1) e f v n l:=by
  intro e f n v l o I;refine zi I (λk P _ u=>?_);rcases I.2 with ⟨B,_⟩|⟨g,K,A,B,_,G,_⟩
  . rw[B] at u;cases u
  rw[B] at u;have M:g=k:=by simpa [Value.ownBlock] using u
  rw[M] at G;exact Q k A e P G o
 exact⟨N,b (by decide) O,λi e p o J=>⟨b (by decide) (H i e p o J).1,b (by decide) (H i e p o J).2⟩⟩
theorem eX.ev {q:Qw}{f:List Ex}(h:eX w d q L)(i:aV w (d+1) m f)(g:Ev d m r w C):eX C d q L :=
 h.kept (λk c e o b l=>g.cell (zA b) (by omega) (i.apart b l))
structure dz (d:Nat) (F:Fx) (m:Rw) (w:Xw) (wr:Xw) (x:St) (r:Rw) (t s:Xv) (y:Xl) (j:Xn) (a z:Nat):Prop where
 aL:zs wr d F r x
 aj:aV wr (d+1) r x.L
 ev:Ev d m r w wr
 box:wr.heap[w.heap.size]?=some (iT t s a z)
 eF:wr.ownsRow w.heap.size 9 1 t y.length (im y)
 dL:wr.ownsRow w.heap.size 3 1 s j.length (bK j)
 lt:d<w.heap.size
theorem c6.k (h:c6 d F m w wr x t s y j)(b:aV w (d+1) m x.L):dz d F m w wr x m t s y j 0 0 :=
 ⟨h.aL,b.fr h.fr,Ev.bA h.fr,h.box,h.eF,h.dL,h.lt⟩
theorem dz.sub {b:Rw}(h:dz d F m w wr x r t s y j a z)(c:Ev d r b wr D)(l:zs D d F b E)(o:aV D (d+1) b E.L):dz d F m w D E b t s y j a z:=by
 have g:=h.lt;refine⟨l,o,h.ev.trans c,?_,?_,?_,g⟩
 . rw[c.cell (zA h.box) (by omega) (h.aj.apart h.box (by decide)),h.box]
 . exact zi h.eF (λk i e f=>c.cell e (by omega) (kT h.eF h.aj.2.1 (by decide) f))
 exact zi h.dL (λk i e f=>c.cell e (by omega) (kT h.dL h.aj.2.1 (by decide) f))
theorem dz.fr (h:dz d F m w wr x r t s y j a z)(hF:Fr (·=d) wr D)(b:zs D d F r E)(c:E.L=x.L):dz d F m w D E r t s y j a z :=
 h.sub (Ev.bA hF) b (by rw[c];exact h.aj.fr hF)
theorem dz.set {H A:Nat}(h:dz d F m w wr x r t s y j a z){b:Nat}{c:Xa}{e:Xy}{f:Nat×Nat}(T:wr.heap[b]?=some (.cells c e f))(X:w.heap.size<=b)(R:190≠e)(J:3≠e)(S:9≠e)(i:Nat)(v:Xv)(B:(wr.setCell (xD b i) v).heap[w.heap.size]?=some (iT t s H A)):dz d F m w (wr.setCell (xD b i) v) x r t s y j H A:=by
 have G:=h.lt;have g:∀{o q p n:Nat} {u:Xv} {l:Xm},wr.ownsRow o q p u n l->q≠e->(wr.setCell (xD b i) v).ownsRow o q p u n l:=by intro o q p n u l I Q;refine zi I (λk _ _ V=>Below.heap_setCell _ _ _ _ ?_);intro P;have O:k=b:=P;exact hy I T Q (O▸V)
 refine⟨h.aL.aU (by omega) _ _,⟨h.aj.1,g h.aj.2.1 R,λi q u U W=>g (h.aj.2.2 i q u U W) J⟩,?_,B,g h.eF S,g h.dL J,G⟩;obtain⟨⟨K,M⟩,N⟩:=h.ev;exact⟨⟨K.setCell (ap X) _,M⟩,N⟩
theorem dz.qh (h:dz d F m w wr x r t s y j a z)(b:Nat):dz d F m w (wr.setCell (xD w.heap.size 2) (xI b)) x r t s y j b z :=
 h.set h.box (an _) (by decide) (by decide) (by decide) _ _ (zh _ _ _ _ h.box)
theorem dz.qi (h:dz d F m w wr x r t s y j a z)(b:Nat):dz d F m w (wr.setCell (xD w.heap.size 3) (xI b)) x r t s y j a b :=
 h.set h.box (an _) (by decide) (by decide) (by decide) _ _ (zh _ _ _ _ h.box)
def p0 (d:Nat)(m:Rw)(q:Qw)(w C:Xw):Prop:=Fr (λk=>k=d∨m.v.ownBlock=some k∨q.v.ownBlock=some k) w C
def oJ (d:Nat)(F:Fx)(m:Rw)(q:Qw)(w:Xw)(b:St)(f:List ax)(e:Ending)(C:Xw):Prop :=
 ∃(r:Rw) (c:Qw),e=.returned (.tuple #[])/\zs C d { F with qs:=c.v } r b/\aV C (d+1) r b.L/\eX C d c f/\p0 d m q w C /\
  (∀k,r.v.ownBlock=some k->m.v.ownBlock=some k∨w.heap.size<=k)/\(∀k,c.v.ownBlock=some k->q.v.ownBlock=some k∨w.heap.size<=k)
theorem Tryz.s7:(prog.info? 275).map (λi=>(i.zero,i.size,i.bytes))=some (some (.agg #[.slice none 0 0,.slice none 0 0,xI 0,xI 0]),4,64):=by kernel_rfl
theorem qF {e:ax}{p:Value×Value}(c:p.1.oneCell'=true)(f:p.2.oneCell'=true):∀u∈ii e p,u.oneCell'=true:=by
 intro u b;simp only[ii,cC,List.not_mem_nil,or_false] at b;rcases b with rfl|rfl|rfl|rfl
 . exact c
 . exact f
 . rfl
 rfl
theorem qB {q:Qw}{o I:Xw}{H:St}{f:Xv}{B:Obj}
 (v:dz d F m w o H r t s y j a z) (J:eX o d q L) (X:zs I d F r H)
 (P:I.ownsRow (d+1) 275 4 f (L.length+1) (ij L q.fk++ii ⟨y,j,a,z⟩ (t,s))) (N:(o.alloc B).drew.grownBy I q.v.ownBlock) (O:∀k,f.ownBlock=some k->q.v.ownBlock=some k∨(o.alloc B).drew.heap.size<=k) :
 ∃(M:Rw) (U:Qw),zs (I.setCell (xD d 14) f) d { F with qs:=U.v } M H/\aV (I.setCell (xD d 14) f) (d+1) M H.L/\eX (I.setCell (xD d 14) f) d U (L++[⟨y,j,a,z⟩])/\p0 d m q w (I.setCell (xD d 14) f) /\
  (∀k,M.v.ownBlock=some k->m.v.ownBlock=some k∨w.heap.size<=k)/\(∀k,U.v.ownBlock=some k->q.v.ownBlock=some k∨w.heap.size<=k):=by
 have G:=v.lt;have ak:=v.ev.1.1.size;have b:∀{c e g n:Nat} {u:Xv} {l:Xm},o.ownsRow c e g u n l->d<c->e≠275->(I.setCell (xD d 14) f).ownsRow c e g u n l:=by intro c e g n u l Q Y T;refine ownsRow_setCell_below ?_ Y f;exact mF (ff Q B) N (λk R=>kT (ff Q B) (ff J.2.1 B) T R)
 refine⟨r,⟨f,q.fk++[(t,s)]⟩,X.tA f,⟨v.aj.1,b v.aj.2.1 (cf _) (by decide),λi e u A hu=>b (v.aj.2.2 i e u A hu) (cf _) (by decide)⟩,⟨by simp[J.1],?_,?_⟩,?_,?_,?_⟩
 . have h:=ownsRow_setCell_below P (a:=(xD d 14)) (cf d) f;rw[<- Cg _ _ _ _ J.1] at h;simpa using h
 . intro i e p A K;simp only at K;rcases Nat.lt_or_ge i L.length with S|hge
   . rw[e9 S] at A;rw[e9 (by have:=J.1;omega)] at K;have W:=J.2.2 i e p A K;exact⟨b W.1 (cf _) (by decide),b W.2 (cf _) (by decide)⟩
   rw[e8 hge] at A;rw[e8 (by have:=J.1;omega)] at K;have V:i-L.length=0:=(by have:=(aB.1 A).1;simp at this;omega);rw[V] at A;rw[<- J.1,V] at K;simp at A K;subst A K;exact⟨zR (b v.eF G (by decide)) G,zR (b v.dL G (by decide)) G⟩
 . have Q:p0 d m q w (o.alloc B).drew:=((v.ev.1.1.mono (λk _ h=>h.elim ao (λh=>ap (ao h)))).alloc _).drew;have T:Fr (λk=>k=d∨m.v.ownBlock=some k∨q.v.ownBlock=some k) (o.alloc B).drew I:=⟨N.os,N.tape,N.output,N.size,λk R Z=>N.block k R (λe=>Z (ap (ap e.symm)))⟩;exact (Fr.trans Q T).setCell (ao (ao rfl)) f
 . exact v.ev.1.2
 intro k R;rcases O k R with h|h
 . exact ao h
 have Q:(o.alloc B).drew.heap.size=o.heap.size+1:=by show (o.heap.push B).size=_;simp
 exact ap (by omega)
end
section
open Go.RowKit
theorem Ci {o i:Fn}(_h17:bY 17 260 o)(_g17:zv 17 o)(bt:bY 18 260 i)(bs:zv 18 i)(j:Nat)(F:Fx)(t:Rw)(q:Qw)(b:St)(d:List ax)(p:Nat)(w:Xw)(bx:Inv p b)(g1:b.op=0)(g2:d.length<=100000)(V:F.qs=q.v)(hR:zs w j F t b)(c9:aV w (j+1) t b.L)(hQ:eX w j q d)(hm:b.is 4 [40]=false):xK 212 #[xP j] w (oJ j F t q w (zF o i b d).1 (zF o i b d).2):=by
 have c5:zF o i b d=((i (b.name.ac 4 [61])).1.ac 4 [59],d++[⟨[b.t.s],[b.t.a],b.name.t.a,(i (b.name.ac 4 [61])).2⟩]):=by
  have h1:aZ b=⟨b.name,[b.t.s],[b.t.a]⟩:=by unfold aZ;rw[ae (by rw[hm];simp)]
  unfold zF cx;simp only[h1];rw[ae (by rw[hm];simp)]
 rw[c5];have bl:=ai.name bx;have bp:=ai.ac bl.af 4 [61];have ca:(b.name.ac 4 [61]).op=0:=by rw[St.a8,St.dB,g1]
 have g3:=bs (b.name.ac 4 [61]) p bp.af (by omega);obtain⟨i3,h1,i4,i5,i6,i7,i8,i9,kd,kw,gc,ge,gl,go,gs⟩:=hR.cells;have W:=hR.lt;obtain⟨i0,g0,b0,b1,b2⟩:=info_parts Tryz.mT;obtain⟨g5,bL,al,ar,a0⟩:=info_parts Tryz.s9;obtain⟨g4,bE,Y,Z,ak⟩:=info_parts Tryz.s7;have b3:d.length+1<=maxLen:=by unfold maxLen;omega
 have bk:(d.length+1)*64<=140737488355328:=by omega
 have a9:=za V;have fv:=za hR;have cn:=za c9;have fr:=za hQ;have fq:=za bx;have er:=za bl.af.ok;have es:=za bp.af;have ev:=za g3.af.ok;have OO:aa (18<=(b.name.ac 4 [61]).op+18):=by unfold aa;omega
 clear hR c9 hQ bx c5 bl bp g3 ca V g2;generalize dn:i (b.name.ac 4 [61])=y at *;have fx:=za dn;clear dn;go_enter func212,ntmps212;go_wp2_with fail;have M:c6 j F t w (w.alloc (iT (.slice none 0 0) (.slice none 0 0) 0 0)) b (.slice none 0 0) (.slice none 0 0) [] []:=⟨fv.o.alloc _,(Fr.refl _ _).alloc _,zc _ _,World.ownsRow_nil _ _ _ _,World.ownsRow_nil _ _ _ _,W⟩;have r:=za M;clear M;refine (cb j F t b 4 4 rfl ⟨#[40]⟩ [40] (by decide +kernel) _ r.o.aL).mono ?_;rintro e w' ⟨rfl,rfl⟩;go_wp2_with fail;refine (e0 j F t b _ fq.o.ok r.o.aL).mono ?_;rintro e D ⟨rfl,B,s⟩;have n:=za ((r.o.go s B).alloc (z8 b.t));have v:=s.size;have gt:w.heap.size<D.heap.size:=by simp at v;omega
 have b4:D.heap.size≠w.heap.size:=by omega
 have ds:¬w.heap.size=D.heap.size:=by omega
 have a4:=za (zc D (z8 b.t));obtain⟨d0,d1,d2,d3⟩:=e1 (r.o.go s B).box;have hu:¬w.heap.size=j:=by omega
 have eb:¬j=w.heap.size:=by omega
 clear B s v;go_wp2_with (first|(at_builtin;refine jy _ rfl (.tmp 20) (.tmp 23) 188 rfl w.heap.size 3 i0 _ 1 8 underlying188 g0 b0 b1 b2 rfl (by decide) (.slice none 0 0) ([]:Xn).length (bK ([]:Xn)) rfl (zD f.o.dL _) (xD eq.heap.size 0) 1 1 [xI (b.t.a:Nat)] rfl rfl (zN (pX eq _ _ _) rfl) mG (kV (by simp)) (kW (by simp) (by omega)) (f.o.up _) ?_;intro n2 or c a _;have be:=za (f.o.oj c a);have l:=f.o.jI a f.o.box (by decide);obtain⟨c0,c1,c2,c3⟩:=e1 l;have c4:=hx l;have k:=f.o.jI a ((Below.heap_setCell _ _ _ _ b4).trans a5.o) (by decide);obtain⟨t0,t1,t2,t3,t4⟩:=eY k;have ex:=za k;have C:=(f.o.aL.alloc _).grown a (eW f.o.dL W);obtain⟨le,l1,l2,l3,lk,l5,l6,ln,lo,ls,l10,g6,g7,g8,g9⟩:=C.cells;have he:=C.frozen;clear C;obtain⟨i1,cs,rfl,_⟩:=zM c (by omega);clear c a l k)|(at_builtin;refine jy _ rfl (.tmp 13) (.tmp 16) 79 rfl w.heap.size 9 g5 _ 1 16 underlying79 bL al ar a0 rfl (by decide) (.slice none 0 0) ([]:Xl).length (im ([]:Xl)) rfl (zD n.o.eF _) (xD (D.heap.size+1) 0) 1 1 [.string b.t.s] rfl rfl (zN (um D _ _) rfl) oD (kV (by simp)) (kW (by simp) (by omega)) (n.o.up _) ?_;intro n3 eq c a _;have f:=za (n.o.ol c a);have l:=n.o.jJ a n.o.box (by decide);obtain⟨c0,c1,c2,c3⟩:=e1 l;have c4:=hx l;have k:=n.o.jJ a a4.o (by decide);obtain⟨t0,t1,t2,t3,t4⟩:=eY k;have a5:=za k;obtain⟨i2,cv,rfl,_⟩:=zM c (by omega);clear c a l k));have E:=za ((be.o.k (by rw[St.c8];exact cn.o)).qh b.name.t.a);refine (cO j F t b.name 4 4 rfl ⟨#[61]⟩ [61] (by decide +kernel) _ er.o E.o.aL).mono ?_;rintro e of ⟨rfl,P,N⟩;have x:=za (E.o.fr N P (St.bi _ _ _));clear P N;go_wp2_with fail;refine (bt j F t (b.name.ac 4 [61]) p _ es.o OO.o x.o.aL x.o.aj).mono ?_;rw[fx.o];rintro e ok ⟨a3,rfl,Q,U,T⟩;have z:=za (x.o.sub T Q U);clear Q U T;obtain⟨m0,m1,m2,m3⟩:=e1 z.o.box;have hg:=hx z.o.box;go_wp2_with fail;have G:=za (z.o.qi y.2);refine (cO j F a3 y.1 4 4 rfl ⟨#[59]⟩ [59] (by decide +kernel) _ ev.o G.o.aL).mono ?_;rintro e op ⟨rfl,R,O⟩;have H:=za (G.o.fr O R (St.bi _ _ _));clear R O m0 m1 m2 m3 hg c0 c1 c2 c3 c4 t0 t1 t2 t3 t4 d0 d1 d2 d3 he;go_wp2_with fail;refine zn (λa2=>dz j F t w a2 (y.1.ac 4 [59]) a3 _ _ [b.t.s] [b.t.a] b.name.t.a y.2/\eX a2 j q d) ⟨H.o,fr.o.ev cn.o H.o.ev⟩ ?_;rintro a2 ⟨h,S⟩;obtain⟨io,ip,it,iR⟩:=e1 h.box;obtain⟨m9,na,nb,nd,ne,nm,no,ns,nt,nx,h3,h4,h5,h6,ck⟩:=h.aL.cells;rw[a9.o] at ck;have n1:=h.aL.frozen;have X:=h.aL.lt;have hv:=gU h.eF;have ca:=gU h.dL;have I:=za h;have A:=za S;clear h S
 go_region_law (
  refine zJ _ rfl (.tmp 99) (.tmp 101) 101 rfl (j+1) 275 g4 _ 4 64 underlying101 bE Y Z ak rfl (by decide) q.v d.length (ij d q.fk) rfl (ff A.o.2.1 _) (xD a2.heap.size 0) 1 1 (ii ⟨[b.t.s],[b.t.a],b.name.t.a,y.2⟩ (_,_)) rfl rfl (zN (gx a2 _) rfl) (qF hv ca) b3 bk (gw X _) ?_;intro v' h7 c a u;have L:=za c;have K:=za u;have fd:=za a;have m:=(I.o.aL.alloc _).drew.grown a (eW A.o.2.1 (cf _));obtain⟨lt,lv,em,md,mk,mp,m4,m5,m6,m7,hw,hN,hT,h0,h2⟩:=m.cells;have m8:=m.frozen;have J:=za m;obtain⟨g,fV,rfl,lb⟩:=zM c (by omega);clear c a m u)
 all_goals go_wp2_with fail
 all_goals go_end0
 all_goals (obtain⟨cm,em,h8,z2,z3,z4,z5,h9⟩:=qB I.o A.o J.o L.o fd.o K.o;exact⟨cm,em,rfl,h8,z2,z3,z4,z5,h9⟩)
end
section
variable {r17 r18:Fn} {f p:Nat} {R:dI} {a:St}
def hq (a:St):dI:=⟨(a.ad.name.ac 4 [44]).name,[a.ad.t.s,(a.ad.name.ac 4 [44]).t.s],[a.ad.t.a,(a.ad.name.ac 4 [44]).t.a]⟩
structure K8 (a:St) (R:dI) (p:Nat):Prop where
 many:iG a=⟨R.st.ac 4 [41],R.ns,R.ps⟩
 x0:Inv p (hq a).st
 r:Inv p R.st
 rL:R.st.L=a.L
 tv:R.st.op=a.op
 ta:1<=R.st.t.a
theorem sa (b:f=1300)(h:cX f (hq a)=R):iG a=⟨R.st.ac 4 [41],R.ns,R.ps⟩:=by subst h;subst b;rfl
theorem ym (c:Inv p a)(j:a.is 4 [40]=true)(i:f=1300)(h:cX f (hq a)=R):K8 a R p:=by
 have m:=c.gf (by omega) j;have n:=Inv.bP j;have l:1<=a.ad.t.a:=by have:=c.tok (by omega);rw[St.dZ m];have i:=zV a.src a.t.t c.ok.tt;simp only;omega
 have k:=ai.ad c;have e:=ai.name k.af;have g:=ai.ac e.af 4 [44];have d:=ai.name g.af;have b:=o9 f p (hq a) d.af;rw[h] at b;refine⟨sa i h,d.af,b.1.af,?_,?_,?_⟩
 . rw[b.2.2];unfold hq;simp only;rw[St.c8,St.bi,St.c8,St.bu]
 . rw[b.2.1];unfold hq;simp only;rw[St.dB,St.a8,St.dB,St.bQ]
 exact aJ l (((e.trans g).trans d).trans b.1).ta
theorem x5 {eqs:List ax}(b:a.is 4 [40]=true)(h:iG a=⟨R.st.ac 4 [41],R.ns,R.ps⟩) :
 zF r17 r18 a eqs=((a1 r17 ((R.st.ac 4 [41]).ac 4 [61]).t ((R.st.ac 4 [41]).ac 4 [61]).name).1.ac 4 [59],eqs++[⟨R.ns,R.ps,(R.st.ac 4 [41]).t.a,(a1 r17 ((R.st.ac 4 [41]).ac 4 [61]).t ((R.st.ac 4 [41]).ac 4 [61]).name).2⟩]):=by
 have c:aZ a=⟨R.st.ac 4 [41],R.ns,R.ps⟩:=by unfold aZ;rw[ag b,h]
 unfold zF cx;simp only[c];rw[ag b]
theorem En (b:zv 17 r17)(c:zv 18 r18)(e:Inv p a)(g:a.op=0)(d:1<=a.t.a):(a1 r17 a.t a.name).1.Ok:=by have h:=(pj b c (many:=true) e g (λ_=>d)).1.af.ok;simpa [cx] using h
end
section
open Go.RowKit
variable {F:Fx} {r:Xl} {s:Xn} {a b z d:Nat} {j A:Rw} {x:St} {l m:Xv} {w wr:Xw}
theorem uc (w:Xw)(c e f g i:Addr)(k n p q t:Xv)(o:Obj):((((((w.setCell c k).setCell e n).setCell f p).setCell g q).setCell i t).alloc o).heap[w.heap.size]?=some o:=by have h:=zc (((((w.setCell c k).setCell e n).setCell f p).setCell g q).setCell i t) o;rw[show (((((w.setCell c k).setCell e n).setCell f p).setCell g q).setCell i t).heap.size=w.heap.size by simp[World.setCell]] at h;exact h
theorem dz.mV (h:dz d F j w wr x A m l r s a z){c:Xa}{f:Nat×Nat}(e:wr.heap[b]?=some (.cells c 270 f))(g:w.heap.size<b)(i:Nat)(v:Xv):dz d F j w (wr.setCell (xD b i) v) x A m l r s a z :=
 h.set e (Nat.le_of_lt g) (by decide) (by decide) (by decide) i v (by rw[Below.heap_setCell _ _ _ _ (show w.heap.size≠b by omega),h.box])
theorem dz.hd (h:dz d F j w wr x A m l r s a z){t:Tk}(i:wr.heap[b]?=some (z8 t))(c:w.heap.size<b)(u:Tk) :
 dz d F j w (((((wr.setCell (xD b 0) (xI u.k)).setCell (xD b 1) (xI u.a)).setCell (xD b 2) (xI u.t)).setCell (xD b 3) (.string u.s)).setCell (xD b 4) (xI u.n)) x A m l r s a z:=by
 have e:=zh _ _ 0 (xI u.k) i;have f:=zh _ _ 1 (xI u.a) e;have g:=zh _ _ 2 (xI u.t) f;have k:=zh _ _ 3 (.string u.s) g;exact ((((h.mV i c _ _).mV e c _ _).mV f c _ _).mV g c _ _).mV k c _ _
theorem B0 {bs eq:Fn}(kw:bY 17 260 bs)(gs:zv 17 bs)(_h18:bY 18 260 eq)(nm:zv 18 eq)(d:Nat)(F:Fx)(j:Rw)(q:Qw)(C:St)(G:List ax)(p:Nat)(w:Xw)(l6:Inv p C)(zy:C.op=0)(zC:G.length<=100000)(lo:F.qs=q.v)(md:zs w d F j C)(vs:aV w (d+1) j C.L)(up:eX w d q G)(vz:C.is 4 [40]=true):xK 212 #[xP d] w (oJ d F j q w (zF bs eq C G).1 (zF bs eq C G).2):=by
 obtain⟨f0,eb⟩:∃f0,f0=1300:=⟨_,rfl⟩;obtain⟨R,cm⟩:∃R,cX f0 (hq C)=R:=⟨_,rfl⟩;have al:=ym l6 vz eb cm;rw[x5 vz al.many];have nb:=ai.ad l6;have nd:=ai.name nb.af;have tt:=ai.ac nd.af 4 [44];have kd:=ai.ac al.r 4 [41];have h6:=ai.ac kd.af 4 [61];have ne:=ai.name h6.af;have ro:((R.st.ac 4 [41]).ac 4 [61]).op=0:=by rw[St.a8,St.a8,al.tv,zy]
 have i8:aa (1<=((R.st.ac 4 [41]).ac 4 [61]).name.t.a):=aJ al.ta (aJ kd.ta (aJ h6.ta ne.ta));have i3:aa (18<=((R.st.ac 4 [41]).ac 4 [61]).name.op+(17+1)):=by unfold aa;rw[St.dB,ro];omega
 have ts:aa ((R.st.ac 4 [41]).L=C.L):=by unfold aa;rw[St.bi,al.rL]
 have tn:=za (En gs nm h6.af ro (aJ al.ta (aJ kd.ta h6.ta)));obtain⟨MD,zk,zt,ME,zu,MF,MG,MH,MI,MJ,zm,zo,zp,zq,zr⟩:=md.cells;have em:=md.lt;obtain⟨n3,nx,g9,hg,hm⟩:=info_parts Tryz.mT;obtain⟨of,g7,cs,cv,c0⟩:=info_parts Tryz.s9;obtain⟨v0,ls,fv,fx,fV⟩:=info_parts Tryz.s7;have lv:G.length+1<=maxLen:=by unfold maxLen;omega
 have i9:(G.length+1)*64<=140737488355328:=by omega
 have i2:=za lo;have xB:=za md;have l5:=za vs;have tr:=za up;have xv:=za l6;have wf:=za nb.af.ok;have wn:=za nd.af.ok;have wp:=za tt.af.ok;have w0:=za al.x0;have ta:=za al.r.ok;have te:=za kd.af.ok;have tk:=za h6.af.ok;have tm:=za ne.af;have i7:=za cm;have m4:=za eb;clear md vs up l6 al nb nd tt kd h6 ne ro lo zC cm eb;go_enter func212,ntmps212;go_wp2_with fail;have lb:c6 d F j w (w.alloc (iT (.slice none 0 0) (.slice none 0 0) 0 0)) C (.slice none 0 0) (.slice none 0 0) [] []:=⟨xB.o.alloc _,(Fr.refl _ _).alloc _,zc _ _,World.ownsRow_nil _ _ _ _,World.ownsRow_nil _ _ _ _,em⟩;have ge:=za lb;clear lb;refine (cb d F j C 4 4 rfl ⟨#[40]⟩ [40] (by decide +kernel) _ ge.o.aL).mono ?_;rintro e w' ⟨rfl,rfl⟩;go_wp2_with fail;refine (dH d F j C _ xv.o.ok ge.o.aL).mono ?_;rintro e Mq ⟨rfl,le,gt⟩;have bE:=za (ge.o.go gt le);have fr:=gt.size;have vv:w.heap.size<Mq.heap.size:=by simp at fr;omega
 clear le gt fr;go_wp2_with fail;refine (e0 d F j C.ad _ wf.o bE.o.aL).mono ?_;rintro e N ⟨rfl,g2,c5⟩;have bk:=za ((bE.o.go c5 g2).alloc (z8 C.ad.t));have lt:=c5.size;have ds:w.heap.size<N.heap.size:=by omega
 have Q:N.heap.size≠w.heap.size:=by omega
 have v2:¬w.heap.size=N.heap.size:=by omega
 have mk:=za (zc N (z8 C.ad.t));obtain⟨d0,d1,d2,d3⟩:=e1 (bE.o.go c5 g2).box;have zU:¬w.heap.size=d:=by omega
 have v3:¬d=w.heap.size:=by omega
 have B:N.heap.size≠d:=by omega
 have v4:¬d=N.heap.size:=by omega
 clear g2 c5 lt;go_wp2_with (first|(at_builtin;refine jy _ rfl (.tmp 20) (.tmp 23) 188 rfl w.heap.size 3 n3 _ 1 8 underlying188 nx g9 hg hm rfl (by decide) (.slice none 0 0) ([]:Xn).length (bK ([]:Xn)) rfl (zD P.o.dL _) (xD wd.heap.size 0) 1 1 [xI (C.ad.t.a:Nat)] rfl rfl (zN (pX wd _ _ _) rfl) mG (kV (by simp)) (kW (by simp) (by omega)) (P.o.up _) ?_;intro MN MR i c _;have i4:=za (P.o.oj i c);have u:=P.o.jI c P.o.box (by decide);obtain⟨h1,h2,h3,h4⟩:=e1 u;have h5:=hx u;have t:=P.o.jI c ((Below.heap_setCell _ _ _ _ Q).trans mp.o) (by decide);obtain⟨t0,t1,t2,t3,t4⟩:=eY t;have ip:=za t;have M:=(P.o.aL.alloc _).grown c (eW P.o.dL em);obtain⟨o8,pb,pe,pl,po,pp,pr,pt,qr,qs,l10,hu,hv,hw,hN⟩:=M.cells;have qv:=M.frozen;clear M;obtain⟨tx,es,rfl,_⟩:=zM i (by omega);clear i c u t)|(at_builtin;refine jy _ rfl (.tmp 13) (.tmp 16) 79 rfl w.heap.size 9 of _ 1 16 underlying79 g7 cs cv c0 rfl (by decide) (.slice none 0 0) ([]:Xl).length (im ([]:Xl)) rfl (zD bk.o.eF _) (xD (N.heap.size+1) 0) 1 1 [.string C.ad.t.s] rfl rfl (zN (um N _ _) rfl) oD (kV (by simp)) (kW (by simp) (by omega)) (bk.o.up _) ?_;intro MO wd i c _;have P:=za (bk.o.ol i c);have u:=bk.o.jJ c bk.o.box (by decide);obtain⟨h1,h2,h3,h4⟩:=e1 u;have h5:=hx u;have t:=bk.o.jJ c mk.o (by decide);obtain⟨t0,t1,t2,t3,t4⟩:=eY t;have mp:=za t;obtain⟨un,ev,rfl,_⟩:=zM i (by omega);clear i c u t));have er:aa (c6 d F j w _ C.ad.name (xS un 1 ev) (xS tx 1 es) [C.ad.t.s] [C.ad.t.a]):=i4;clear i4 P;refine (cO d F j C.ad.name 4 4 rfl ⟨#[44]⟩ [44] (by decide +kernel) _ wn.o er.o.aL).mono ?_;rintro e MP ⟨rfl,lk,g0⟩;have gl:=za (er.o.go g0 lk);have h7:=za ((g0.block N.heap.size (zA ((Below.heap_setCell _ _ _ _ Q).trans ip.o)) B).trans ((Below.heap_setCell _ _ _ _ Q).trans ip.o));clear lk g0;go_wp2_with fail;refine (e0 d F j (C.ad.name.ac 4 [44]) _ wp.o gl.o.aL).mono ?_;rintro e v5 ⟨rfl,g3,c9⟩;have c2:=za ((c9.block N.heap.size (zA h7.o) B).trans h7.o);have bl:=za ((gl.o.go c9 g3).hd c2.o ds (C.ad.name.ac 4 [44]).t);have h8:=za (va c2.o (C.ad.name.ac 4 [44]).t);clear h1 h2 h3 h4 h5 t0 t1 t2 t3 t4 d0 d1 d2 d3 o8 pb pe pl po pp pr pt qr qs l10 hu hv hw hN qv;obtain⟨t0,t1,t2,t3,t4⟩:=eY c2.o;have ML:=pS c2.o;obtain⟨d0,d1,d2,d3⟩:=e1 (gl.o.go c9 g3).box;clear g3 c9;go_wp2_with (first|(at_builtin;refine jy _ rfl (.tmp 39) (.tmp 42) 188 rfl w.heap.size 3 n3 _ 1 8 underlying188 nx g9 hg hm rfl (by decide) (xS tx 1 es) [C.ad.t.a].length (bK [C.ad.t.a]) rfl (zD D.o.dL _) (xD l2.heap.size 0) 1 1 [xI ((C.ad.name.ac 4 [44]).t.a:Nat)] rfl rfl (zN (pX l2 _ _ _) rfl) mG (kV (by simp)) (kW (by simp) (by omega)) (D.o.up _) ?_;intro IT Mr i c _;have i5:=za (D.o.oj i c);have u:=D.o.jI c D.o.box (by decide);obtain⟨h1,h2,h3,h4⟩:=e1 u;have h5:=hx u;have t:=D.o.jI c ((Below.heap_setCell _ _ _ _ Q).trans i0.o) (by decide);obtain⟨t0,t1,t2,t3,t4⟩:=eY t;have it:=za t;have M:=(D.o.aL.alloc _).grown c (eW D.o.dL em);obtain⟨o8,pb,pe,pl,po,pp,pr,pt,qr,qs,l10,hu,hv,hw,hN⟩:=M.cells;have qv:=M.frozen;clear M;obtain⟨zg,m7,rfl,_⟩:=zM i (by omega);clear i c u t)|(at_builtin;refine jy _ rfl (.tmp 32) (.tmp 35) 79 rfl w.heap.size 9 of _ 1 16 underlying79 g7 cs cv c0 rfl (by decide) (xS un 1 ev) [C.ad.t.s].length (im [C.ad.t.s]) rfl (zD bl.o.eF _) (xD v5.heap.size 0) 1 1 [.string (C.ad.name.ac 4 [44]).t.s] rfl rfl (zN (uc v5 _ _ _ _ _ _ _ _ _ _ _) rfl) oD (kV (by simp)) (kW (by simp) (by omega)) (bl.o.up _) ?_;intro Ln l2 i c _;have D:=za (bl.o.ol i c);have u:=bl.o.jJ c bl.o.box (by decide);obtain⟨h1,h2,h3,h4⟩:=e1 u;have h5:=hx u;have t:=bl.o.jJ c h8.o (by decide);obtain⟨t0,t1,t2,t3,t4⟩:=eY t;have i0:=za t;obtain⟨zi,m9,rfl,_⟩:=zM i (by omega);clear i c u t));go_loopg [54] f0 (λk _ wr=>∃(x:dI) (m l:Xv) (FT:Tk),aa (cX k x=R)/\rem x.st<k/\x.ns.length+k<=1302/\x.ps.length+k<=1302/\aa (Inv p x.st)/\aa (c6 d F j w wr x.st m l x.ns x.ps)/\aa (wr.heap[N.heap.size]?=some (z8 FT)));case atStart =>
  have eb:=m4.o;refine⟨hq C,_,_,(C.ad.name.ac 4 [44]).t,i7.o,?_,?_,?_,w0.o,i5.o,(Below.heap_setCell _ _ _ _ Q).trans it.o⟩
  . unfold rem;split <;> omega
  . show 2+f0<=1302;omega
  show 2+f0<=1302;omega
 case round =>
  obtain⟨x,c1,b4,Gl,h0,vG,zx,zB,c4,O,be⟩:=hrel;have nt:∀(n k:Nat),n+(k+1)<=1302->n<=1400:=λn k h=>by omega
  obtain⟨Mt,Mu,Mv,Mw,Mx,My,Mz,MA,MB,MC,xC,xE,xH,x0,x1⟩:=O.o.aL.cells;obtain⟨f,rfl⟩:∃f,gk=f+1:=⟨gk-1,by omega⟩;have fd:x.ns.length<=1400:=by omega
  have fq:x.ps.length<=1400:=by omega
  clear nt;by_cases he:x.st.er=0
  . have no:((x.st.er:Int)==0)=true:=beq_iff_eq.2 (by omega);cases g6:x.st.is 4 [44] with
    | true =>
      have n1:=Inv.bP g6;have z3:=ai.ad c4.o;have z4:=ai.name z3.af;have n2:x.st.t.a+1<=x.st.ad.t.a:=(by have:=c4.o.tok (by omega);rw[St.dZ he];have MK:=zV x.st.src x.st.t.t c4.o.ok.tt;simp only;omega);have bL:aa (cX f x.more=R):=by
       have h:=h0.o;unfold aa;rw[<- h]
       show _=(if x.st.er=0/\x.st.is 4 [44]=true then _ else x);rw[ag ⟨he,g6⟩]
      have g8:aa (rem x.st.ad.name<f):=(by unfold aa rem;have zk:rem x.st=1201-x.st.t.a:=(by unfold rem;rw[ag he]);have zt:=z4.ta;have zu:=z4.af.ok.bR;split <;> omega);have Z3:=za z3.af.ok;have Z4:=za z4.af;clear he n1 z3 z4 h0 n2;go_wp2_with fail;refine (cb d F j x.st 4 4 rfl ⟨#[44]⟩ [44] (by decide +kernel) _ O.o.aL).mono ?_;rintro e w' ⟨rfl,rfl⟩;go_wp2_with fail;refine (dH d F j x.st _ c4.o.ok O.o.aL).mono ?_;rintro e MQ ⟨rfl,ln,g1⟩;have go:=za (O.o.go g1 ln);have h9:=za ((g1.block N.heap.size (zA be.o) B).trans be.o);clear ln g1;go_wp2_with fail;refine (e0 d F j x.st.ad _ Z3.o go.o.aL).mono ?_;rintro e v9 ⟨rfl,g4,dn⟩;have c3:=za ((dn.block N.heap.size (zA h9.o) B).trans h9.o);have bp:=za ((go.o.go dn g4).hd c3.o ds x.st.ad.t);have io:=za (va c3.o x.st.ad.t);obtain⟨u0,u1,u2,u3,u4⟩:=eY c3.o;have MM:=pS c3.o;obtain⟨m0,m1,m2,m3⟩:=e1 (go.o.go dn g4).box;clear g4 dn;go_wp2_with (first|(at_builtin;refine jy _ rfl (.tmp 66) (.tmp 69) 188 rfl w.heap.size 3 n3 _ 1 8 underlying188 nx g9 hg hm rfl (by decide) b4 x.ps.length (bK x.ps) rfl (zD E.o.dL _) (xD l3.heap.size 0) 1 1 [xI (x.st.ad.t.a:Nat)] rfl rfl (zN (pX l3 _ _ _) rfl) mG (kV fq) (kW fq (by omega)) (E.o.up _) ?_;intro Kn Ms i c _;have i6:=za (E.o.oj i c);have u:=E.o.jI c E.o.box (by decide);obtain⟨h1,h2,h3,h4⟩:=e1 u;have h5:=hx u;have t:=E.o.jI c ((Below.heap_setCell _ _ _ _ Q).trans i1.o) (by decide);obtain⟨t0,t1,t2,t3,t4⟩:=eY t;have iR:=za t;have M:=(E.o.aL.alloc _).grown c (eW E.o.dL em);obtain⟨o8,pb,pe,pl,po,pp,pr,pt,qr,qs,l10,hu,hv,hw,hN⟩:=M.cells;have qv:=M.frozen;clear M;obtain⟨zh,m8,rfl,_⟩:=zM i (by omega);clear i c u t)|(at_builtin;refine jy _ rfl (.tmp 59) (.tmp 62) 79 rfl w.heap.size 9 of _ 1 16 underlying79 g7 cs cv c0 rfl (by decide) c1 x.ns.length (im x.ns) rfl (zD bp.o.eF _) (xD v9.heap.size 0) 1 1 [.string x.st.ad.t.s] rfl rfl (zN (uc v9 _ _ _ _ _ _ _ _ _ _ _) rfl) oD (kV fd) (kW fd (by omega)) (bp.o.up _) ?_;intro Mo l3 i c _;have E:=za (bp.o.ol i c);have u:=bp.o.jJ c bp.o.box (by decide);obtain⟨h1,h2,h3,h4⟩:=e1 u;have h5:=hx u;have t:=bp.o.jJ c io.o (by decide);obtain⟨t0,t1,t2,t3,t4⟩:=eY t;have i1:=za t;obtain⟨zj,na,rfl,_⟩:=zM i (by omega);clear i c u t));go_roundg f;case measure=>omega
      case rel=>exact⟨x.more,_,_,x.st.ad.t,bL.o,g8.out,by simp[dI.more];omega,by simp[dI.more];omega,Z4,i6,za ((Below.heap_setCell _ _ _ _ Q).trans iR.o)⟩
    | false =>
      have bL:aa (R=x):=by
       have h:=h0.o;unfold aa;rw[<- h]
       show (if x.st.er=0/\x.st.is 4 [44]=true then _ else x)=x;rw[ae (by rw[g6];simp)]
      clear he h0;have g5:=bL.o;subst g5;go_wp2_with fail;refine (cb d F j R.st 4 4 rfl ⟨#[44]⟩ [44] (by decide +kernel) _ O.o.aL).mono ?_;rintro e w' ⟨rfl,rfl⟩;go_wp2_with fail;refine (cO d F j R.st 4 4 rfl ⟨#[41]⟩ [41] (by decide +kernel) _ ta.o O.o.aL).mono ?_;rintro e sE ⟨rfl,a9,a4⟩;have a0:=za (O.o.go a4 a9);have gc:=za ((a4.block N.heap.size (zA be.o) B).trans be.o);obtain⟨zE,zH,zI,zL,zO,zP,zQ,zR,zS,zT,ok,op,or,os,o7⟩:=a9.cells;obtain⟨m0,m1,m2,m3⟩:=e1 a0.o.box;have al:=hx a0.o.box;clear a9 a4;go_wp2_with fail;have b0:=za ((a0.o.k (by rw[ts.o];exact l5.o)).qh (R.st.ac 4 [41]).t.a);have bx:=za ((Below.heap_setCell sE (xD w.heap.size 2) (xI ((R.st.ac 4 [41]).t.a:Nat)) N.heap.size Q).trans gc.o);refine (cO d F j (R.st.ac 4 [41]) 4 4 rfl ⟨#[61]⟩ [61] (by decide +kernel) _ te.o b0.o.aL).mono ?_;rintro e bt ⟨rfl,ca,a5⟩;have K:=za (b0.o.fr a5 ca (St.bi _ _ _));have S:=za ((a5.block N.heap.size (zA bx.o) B).trans bx.o);clear ca a5;go_wp2_with fail;refine (e0 d F j ((R.st.ac 4 [41]).ac 4 [61]) _ tk.o K.o.aL).mono ?_;rintro e hR ⟨rfl,o,L⟩;have H:=za ((L.block N.heap.size (zA S.o) B).trans S.o);have I:=za ((K.o.fr L o (St.c8 _)).hd H.o ds ((R.st.ac 4 [41]).ac 4 [61]).t);obtain⟨GI,If,In,IN,IS⟩:=eY H.o;have Mp:=pS H.o;clear o L;go_wp2_with fail;have a2:=za (qn kw gs d F j ((R.st.ac 4 [41]).ac 4 [61]).name p _ ((R.st.ac 4 [41]).ac 4 [61]).t tm.o i3.o i8.o I.o.aL I.o.aj);generalize a1 bs ((R.st.ac 4 [41]).ac 4 [61]).t ((R.st.ac 4 [41]).ac 4 [61]).name=y at *;refine a2.o.mono ?_;rintro e sn ⟨ar,rfl,W,Z,Y⟩;have J:=za (I.o.sub Y W Z);clear W Z Y m0 m1 m2 m3 al;obtain⟨m0,m1,m2,m3⟩:=e1 J.o.box;have al:=hx J.o.box;go_wp2_with fail;have T:=za (J.o.qi y.2);refine (cO d F ar y.1 4 4 rfl ⟨#[59]⟩ [59] (by decide +kernel) _ tn.o T.o.aL).mono ?_;rintro e st ⟨rfl,X,V⟩;have U:=za (T.o.fr V X (St.bi _ _ _));clear X V m0 m1 m2 m3 al;go_wp2_with fail;refine zn (λbt=>dz d F j w bt (y.1.ac 4 [59]) ar c1 b4 R.ns R.ps (R.st.ac 4 [41]).t.a y.2/\eX bt d q G) ⟨U.o,tr.o.ev l5.o U.o.ev⟩ ?_;rintro bt ⟨v,ck⟩;obtain⟨x2,x3,zd,ze⟩:=e1 v.box;obtain⟨A6,A7,Bu,Bx,By,BY,Ch,Ev,Ex,EI,rL,sc,sg,sh,hQ⟩:=v.aL.cells;rw[i2.o] at hQ;have EQ:=v.aL.frozen;have cn:=v.aL.lt;have rd:=gU v.eF;have rg:=gU v.dL;have K:=za v;have a3:=za ck;clear v ck
      go_region_law (
       refine zJ _ rfl (.tmp 99) (.tmp 101) 101 rfl (d+1) 275 v0 _ 4 64 underlying101 ls fv fx fV rfl (by decide) q.v G.length (ij G q.fk) rfl (ff a3.o.2.1 _) (xD bt.heap.size 0) 1 1 (ii ⟨R.ns,R.ps,(R.st.ac 4 [41]).t.a,y.2⟩ (c1,b4)) rfl rfl (zN (gx bt _) rfl) (qF rd rg) lv i9 (gw cn _) ?_;intro v' hR i c ak;have b3:=za i;have b2:=za ak;have m5:=za c;have o:=(K.o.aL.alloc _).drew.grown c (eW a3.o.2.1 (cf _));obtain⟨zW,zX,l1,zZ,z0,z7,z9,Ak,AI,AS,rp,rs,rt,rx,ry⟩:=o.cells;have AT:=o.frozen;have b1:=za o;obtain⟨g,m6,rfl,zw⟩:=zM i (by omega);clear i c o ak)
      all_goals go_wp2_with fail
      all_goals go_end0
      all_goals (obtain⟨hT,l1,s1,z2,z3,z4,z5,s2⟩:=qB K.o a3.o b1.o b3.o m5.o b2.o;exact⟨hT,l1,rfl,s1,z2,z3,z4,z5,s2⟩)
  have no:((x.st.er:Int)==0)=false:=bf.2 (by omega);have bL:aa (R=x):=by
   have h:=h0.o;unfold aa;rw[<- h]
   show (if x.st.er=0/\x.st.is 4 [44]=true then _ else x)=x;rw[ae (by simp[he])]
  clear he h0;have g5:=bL.o;subst g5;go_wp2_with fail;refine (cO d F j R.st 4 4 rfl ⟨#[41]⟩ [41] (by decide +kernel) _ ta.o O.o.aL).mono ?_;rintro e sE ⟨rfl,a9,a4⟩;have a0:=za (O.o.go a4 a9);have gc:=za ((a4.block N.heap.size (zA be.o) B).trans be.o);obtain⟨zE,zH,zI,zL,zO,zP,zQ,zR,zS,zT,ok,op,or,os,o7⟩:=a9.cells;obtain⟨m0,m1,m2,m3⟩:=e1 a0.o.box;have al:=hx a0.o.box;clear a9 a4;go_wp2_with fail;have b0:=za ((a0.o.k (by rw[ts.o];exact l5.o)).qh (R.st.ac 4 [41]).t.a);have bx:=za ((Below.heap_setCell sE (xD w.heap.size 2) (xI ((R.st.ac 4 [41]).t.a:Nat)) N.heap.size Q).trans gc.o);refine (cO d F j (R.st.ac 4 [41]) 4 4 rfl ⟨#[61]⟩ [61] (by decide +kernel) _ te.o b0.o.aL).mono ?_;rintro e bt ⟨rfl,ca,a5⟩;have K:=za (b0.o.fr a5 ca (St.bi _ _ _));have S:=za ((a5.block N.heap.size (zA bx.o) B).trans bx.o);clear ca a5;go_wp2_with fail;refine (e0 d F j ((R.st.ac 4 [41]).ac 4 [61]) _ tk.o K.o.aL).mono ?_;rintro e hR ⟨rfl,o,L⟩;have H:=za ((L.block N.heap.size (zA S.o) B).trans S.o);have I:=za ((K.o.fr L o (St.c8 _)).hd H.o ds ((R.st.ac 4 [41]).ac 4 [61]).t);obtain⟨GI,If,In,IN,IS⟩:=eY H.o;have Mp:=pS H.o;clear o L;go_wp2_with fail;have a2:=za (qn kw gs d F j ((R.st.ac 4 [41]).ac 4 [61]).name p _ ((R.st.ac 4 [41]).ac 4 [61]).t tm.o i3.o i8.o I.o.aL I.o.aj);generalize a1 bs ((R.st.ac 4 [41]).ac 4 [61]).t ((R.st.ac 4 [41]).ac 4 [61]).name=y at *;refine a2.o.mono ?_;rintro e sn ⟨ar,rfl,W,Z,Y⟩;have J:=za (I.o.sub Y W Z);clear W Z Y m0 m1 m2 m3 al;obtain⟨m0,m1,m2,m3⟩:=e1 J.o.box;have al:=hx J.o.box;go_wp2_with fail;have T:=za (J.o.qi y.2);refine (cO d F ar y.1 4 4 rfl ⟨#[59]⟩ [59] (by decide +kernel) _ tn.o T.o.aL).mono ?_;rintro e st ⟨rfl,X,V⟩;have U:=za (T.o.fr V X (St.bi _ _ _));clear X V m0 m1 m2 m3 al;go_wp2_with fail;refine zn (λbt=>dz d F j w bt (y.1.ac 4 [59]) ar c1 b4 R.ns R.ps (R.st.ac 4 [41]).t.a y.2/\eX bt d q G) ⟨U.o,tr.o.ev l5.o U.o.ev⟩ ?_;rintro bt ⟨v,ck⟩;obtain⟨x2,x3,zd,ze⟩:=e1 v.box;obtain⟨A6,A7,Bu,Bx,By,BY,Ch,Ev,Ex,EI,rL,sc,sg,sh,hQ⟩:=v.aL.cells;rw[i2.o] at hQ;have EQ:=v.aL.frozen;have cn:=v.aL.lt;have rd:=gU v.eF;have rg:=gU v.dL;have K:=za v;have a3:=za ck;clear v ck
  go_region_law (
   refine zJ _ rfl (.tmp 99) (.tmp 101) 101 rfl (d+1) 275 v0 _ 4 64 underlying101 ls fv fx fV rfl (by decide) q.v G.length (ij G q.fk) rfl (ff a3.o.2.1 _) (xD bt.heap.size 0) 1 1 (ii ⟨R.ns,R.ps,(R.st.ac 4 [41]).t.a,y.2⟩ (c1,b4)) rfl rfl (zN (gx bt _) rfl) (qF rd rg) lv i9 (gw cn _) ?_;intro v' hR i c ak;have b3:=za i;have b2:=za ak;have m5:=za c;have o:=(K.o.aL.alloc _).drew.grown c (eW a3.o.2.1 (cf _));obtain⟨zW,zX,l1,zZ,z0,z7,z9,Ak,AI,AS,rp,rs,rt,rx,ry⟩:=o.cells;have AT:=o.frozen;have b1:=za o;obtain⟨g,m6,rfl,zw⟩:=zM i (by omega);clear i c o ak)
  all_goals go_wp2_with fail
  all_goals go_end0
  all_goals (obtain⟨hT,l1,s1,z2,z3,z4,z5,s2⟩:=qB K.o a3.o b1.o b3.o m5.o b2.o;exact⟨hT,l1,rfl,s1,z2,z3,z4,z5,s2⟩)
end
section
open Go.RowKit
theorem uf {b c:Fn}(h:bY 17 260 b)(f:zv 17 b)(i:bY 18 260 c)(g:zv 18 c)(e:Nat)(F:Fx)(k:Rw)(q:Qw)(d:St)(a:List ax)(p:Nat)(w:Xw)(l:Inv p d)(s:d.op=0)(t:a.length<=100000)(j:F.qs=q.v)(n:zs w e F k d)(o:aV w (e+1) k d.L)(m:eX w e q a) :
 xK 212 #[xP e] w (oJ e F k q w (zF b c d a).1 (zF b c d a).2):=by
 cases r:d.is 4 [40] with
 | true=>exact B0 h f i g e F k q d a p w l s t j n o m r
 | false=>exact Ci h f i g e F k q d a p w l s t j n o m r
end
end Go.Proofs.YtmfkofhgdjechaaGreatDoor
