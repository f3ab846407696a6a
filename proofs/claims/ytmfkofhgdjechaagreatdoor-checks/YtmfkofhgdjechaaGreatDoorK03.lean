/- Part 4 of the proof. -/
import Derived.Test.YtmfkofhgdjechaaGreatDoorK02
set_option maxRecDepth 100000
set_option maxHeartbeats 8000000
namespace Go.Proofs.YtmfkofhgdjechaaGreatDoor
open Go.Proofs.Tryz
section
open Go.RowKit
variable {l:List Vr} {b c:Nat} {vs:Xv} {v:Vr} {w d:Xw}
def fh (v:Vr):List Value:=[.string v.nm,xI v.a,.bool v.bl,.bool v.bn,.bool v.out,xI v.on,.string v.ck,xI v.ca,.bool v.nt,.bool v.tm]
def fg:List Vr->List Value
 | []=>[]
 | v::l=>fh v++fg l
theorem BZ:∀(l:List Vr) (v:Vr),fg (l++[v])=fg l++fh v:=by
 intro l v;induction l with
 | nil=>simp[fg]
 | cons u l a=>simp only[List.cons_append,fg,a,bw]
def cg (w:Xw)(c:Nat)(vs:Xv)(l:List Vr):Prop:=w.ownsRow (c+1) 181 10 vs l.length (fg l)
def bb (v:Vr):Obj:=.cells #[.string v.nm,xI v.a,.bool v.bl,.bool v.bn,.bool v.out,xI v.on,.string v.ck,xI v.ca,.bool v.nt,.bool v.tm] 181 (0,0)
theorem dc (h:w.heap[b]?=some (bb v)):w.cell? (xD b 0)=some (.string v.nm)/\w.cell? (xD b 1)=some (xI v.a)/\w.cell? (xD b 2)=some (.bool v.bl)/\w.cell? (xD b 3)=some (.bool v.bn)/\w.cell? (xD b 4)=some (.bool v.out)/\w.cell? (xD b 5)=some (xI v.on)/\w.cell? (xD b 6)=some (.string v.ck)/\w.cell? (xD b 7)=some (xI v.ca)/\w.cell? (xD b 8)=some (.bool v.nt)/\w.cell? (xD b 9)=some (.bool v.tm):=by simp[World.cell?,h,bb]
theorem eZ (h:w.heap[b]?=some (bb v))(i:Nat):w.frozen? (xD b i)=false:=by simp[World.frozen?,h,bb]
theorem jA:∀u∈fh v,u.oneCell'=true:=by intro u a;simp only[fh,cC,List.not_mem_nil,or_false] at a;rcases a with rfl|rfl|rfl|rfl|rfl|rfl|rfl|rfl|rfl|rfl <;> rfl
theorem Tryz.lN:(prog.info? 181).map (λi=>(i.zero,i.size,i.bytes))=some (some (.agg #[.string ⟨#[]⟩,xI 0,.bool false,.bool false,.bool false,xI 0,.string ⟨#[]⟩,xI 0,.bool false,.bool false]),10,72):=by kernel_rfl
def bg (c:Nat)(vs:Xv)(w d:Xw):Prop:=Fr (λk=>k=c∨vs.ownBlock=some k) w d
theorem bg.bA (h:Fr (·=c) w d):bg c vs w d:=h.mono (λ_ _ h=>ao h)
theorem cg.fr (h:cg w c vs l)(hF:Fr (·=c) w d):cg d c vs l :=
 zi h (λk e a _=>hF.block k a (by omega))
theorem cg.alloc (h:cg w c vs l)(o:Obj):cg (w.alloc o) c vs l:=zD h o
theorem cg.aO (h:cg w c vs l)(f:vs.ownBlock≠some b)(i:Nat)(v:Xv):cg (w.setCell (xD b i) v) c vs l:=by refine zi h (λk _ _ g=>Below.heap_setCell _ _ _ _ ?_);intro e;have a:k=b:=e;exact f (a▸g)
def iV (c:Nat)(F:Fx)(h:Rw)(w:Xw)(f:St)(g:List Vr)(e:Ending)(d:Xw):Prop :=
 ∃a,e=.returned (.tuple #[])/\zs d c { F with vs:=a } h f/\cg d c a g/\bg c F.vs w d/\∀k,a.ownBlock=some k->F.vs.ownBlock=some k∨w.heap.size<=k
theorem jx {F:Fx}{r:Rw}{g i:Xw}{o:St}{f:Xv}{B:Obj}
 (t:zs i c F r o) (hF:bg c F.vs w g)
 (n:i.ownsRow (c+1) 181 10 f (l.length+1) (fg l++fh v)) (j:(g.alloc B).drew.grownBy i F.vs.ownBlock) (m:∀k,f.ownBlock=some k->F.vs.ownBlock=some k∨(g.alloc B).drew.heap.size<=k) :
 zs (i.setCell (xD c 12) f) c { F with vs:=f } r o/\cg (i.setCell (xD c 12) f) c f (l++[v])/\bg c F.vs w (i.setCell (xD c 12) f)/\∀k,f.ownBlock=some k->F.vs.ownBlock=some k∨w.heap.size<=k:=by
 refine⟨t.tB f,?_,?_,?_⟩
 . have h:=ownsRow_setCell_below n (a:=(xD c 12)) (cf c) f;unfold cg;rw[BZ];simpa using h
 . have q:bg c F.vs w (g.alloc B).drew:=(Fr.alloc hF _).drew;have s:Fr (λk=>k=c∨F.vs.ownBlock=some k) (g.alloc B).drew i:=⟨j.os,j.tape,j.output,j.size,λk p u=>j.block k p (λe=>u (ap e.symm))⟩;exact (Fr.trans q s).setCell (ao (ao rfl)) f
 intro k p;have x:=hF.size;rcases m k p with h|h
 . exact ao h
 have q:(g.alloc B).drew.heap.size=g.heap.size+1:=by show (g.heap.push B).size=_;simp
 exact ap (by omega)
theorem ff {a e f n:Nat}{v:Xv}{g:Xm}(h:w.ownsRow a e f v n g)(B:Obj):(w.alloc B).drew.ownsRow a e f v n g:=zD h B
theorem gx (w:Xw)(B:Obj):(w.alloc B).drew.heap[w.heap.size]?=some B:=zc w B
theorem gw (h:c<w.heap.size)(B:Obj):c+1<=(w.alloc B).drew.heap.size:=by
 have a:(w.alloc B).drew.heap.size=w.heap.size+1:=by show (w.heap.push B).size=_;simp
 omega
theorem BX (c:Nat)(F:Fx)(y:Rw)(f:St)(a:List Vr)(p:Nat)(w:Xw)(_hI:Inv p f)(t:zs w c F y f)(u:cg w c F.vs a)(i o:Bool)(A:16<=a.length):xK 258 #[xP c,.bool i,.bool o] w (iV c F y w (zx i o f a).1 (zx i o f a).2):=by
 have z:zx i o f a=(f.fail 2 f.t.a,a):=by unfold zx;rw[ag A]
 rw[z];obtain⟨N,O,P,Q,R,S,T,U,V,W,H,I,s,J,K⟩:=t.cells;rcases u.2 with ⟨_,G⟩|⟨g,D,E,q,X,L,n,x,_⟩
 . omega
 rw[q] at s;have M:(16:Int)<=(a.length:Int):=by omega
 have B:=za t;have C:=za u;clear t u _hI z q L n x A;go_enter func258,ntmps258;go_wp2_with fail;refine (lB c F y f _ 2 f.t.a rfl _ B.o).mono ?_;rintro e Y ⟨rfl,m,k⟩;have r:=za m;have j:=za k;clear m k;go_wp2_with fail;exact bodyPost_ret (results_none rfl _ _ _) rfl ⟨F.vs,rfl,r.o,C.o.fr j.o,bg.bA j.o,λ_ h=>ao h⟩
end
section
open Go.RowKit
theorem B2 (l:Nat)(F:Fx)(H:Rw)(b:St)(a:List Vr)(p:Nat)(w:Xw)(fv:Inv p b)(hR:zs w l F H b)(fx:cg w l F.vs a)(i o:Bool)(g0:¬16<=a.length)(gt:(b.name.ac 4 [58]).is 5 cD=true)(g3:((z9 (b.name.ac 4 [58])).is 5 cF&&!i&&!o)=false):xK 258 #[xP l,.bool i,.bool o] w (iV l F H w (zx i o b a).1 (zx i o b a).2):=by
 have gs:zx i o b a=(z9 (b.name.ac 4 [58]),a++[⟨b.t.s,b.t.a,true,i,o,0,sE,0,false,false⟩]):=by unfold zx;rw[ae g0];simp only;rw[ae (by rw[g3];simp),gt]
 rw[gs];have i4:aa (z9 (b.name.ac 4 [58])=(b.name.ac 4 [58]).ad):=by unfold aa z9;rw[ag gt]
 clear gs;have T:(z9 (b.name.ac 4 [58])).is 5 cF=false∨((z9 (b.name.ac 4 [58])).is 5 cF=true/\i=true)∨((z9 (b.name.ac 4 [58])).is 5 cF=true/\i=false/\o=true):=by cases h:(z9 (b.name.ac 4 [58])).is 5 cF <;> cases i <;> cases o <;> simp_all
 clear g3;obtain⟨m6,h1,h2,m7,m8,m9,na,nb,nd,ne,lk,ln,a2,lo,ls⟩:=hR.cells;have bs:∃gl A,F.vs=.slice gl a.length A:=by
  rcases fx.2 with ⟨h1,h2⟩|⟨g,A,le,G,_⟩
  . exact⟨none,0,by rw[h1,h2]⟩
  exact⟨_,A,G⟩
 obtain⟨gl,ip,G⟩:=bs;have a3:=a2;rw[G] at a2;have lv:(a.length:Int)<16:=by omega
 have gc:a.length+1<=maxLen:=by unfold maxLen;omega
 have O:(a.length+1)*72<=140737488355328:=by omega
 obtain⟨i0,fV,U,V,W⟩:=info_parts Tryz.lN;have ex:=ai.name fv;have fd:=ai.ac ex.af 4 [58];have fq:=ai.type fd.af;have fr:=ai.ad fq.af;have go:=ai.hb fr.af;have it:=za ex.af.ok;have iR:=za fd.af.ok;have l1:=za fq.af.ok;have l2:=za fr.af.ok;have l3:=za go.af.ok;have i3:=za hR;have i5:=za fx;have i2:=za fv.ok;have i6:=za G;clear hR fx fv ex fd fq fr go G a3 g0;go_enter func258,ntmps258;go_wp2_with fail;refine (e0 l F H b _ i2.o i3.o).mono ?_;rintro e z ⟨rfl,Q,P⟩;have g1:=Q.lt;have n1:¬z.heap.size+1=l:=by omega
 have n2:¬l=z.heap.size+1:=by omega
 have n3:¬z.heap.size=l:=by omega
 have S:=i5.o.fr P;have bt:∀k,F.vs.ownBlock=some k->k<z.heap.size:=λk lt=>(S.lt k lt).2;have es:=za bt;clear bt;have em:=za Q;have Y:=za P;have eq:=za S;clear Q P S;go_wp2_with fail;have a4:((z.alloc (z8 b.t)).alloc (bb ⟨b.t.s,b.t.a,false,i,o,0,sE,0,false,false⟩)).heap[z.heap.size+1]?=some (bb ⟨b.t.s,b.t.a,false,i,o,0,sE,0,false,false⟩):=by have h:=zc (z.alloc (z8 b.t)) (bb ⟨b.t.s,b.t.a,false,i,o,0,sE,0,false,false⟩);rw[show (z.alloc (z8 b.t)).heap.size=z.heap.size+1 by simp] at h;exact h
 have ds:=za a4;have Z:aa (Fr (·=l) w ((z.alloc (z8 b.t)).alloc (bb ⟨b.t.s,b.t.a,false,i,o,0,sE,0,false,false⟩))):=((Y.o.alloc _).alloc _);have a0:=za ((eq.o.alloc (z8 b.t)).alloc (bb ⟨b.t.s,b.t.a,false,i,o,0,sE,0,false,false⟩));have al:=za ((em.o.alloc (z8 b.t)).alloc (bb ⟨b.t.s,b.t.a,false,i,o,0,sE,0,false,false⟩));clear a4;refine (cO l F H b.name 4 4 rfl ⟨#[58]⟩ [58] (by decide +kernel) _ it.o al.o).mono ?_;rintro e nm ⟨rfl,be,E⟩;have J:=(E.block (z.heap.size+1) (by simp) n1).trans ds.o;have bl:=a0.o.fr E;have a5:=Z.o.trans E;obtain⟨cs,cv,c0,c1,c2,c3,c4,c5,c9,dn⟩:=dc J;have lb:=eZ J;have ar:=za be;have i1:=za E;have X:=za J;have er:=za bl;have eb:=za a5;clear be E J bl a5;go_wp2_with fail;refine (cb l F H (b.name.ac 4 [58]) 5 5 rfl ⟨#[98,111,111,108]⟩ cD (by decide +kernel) _ ar.o).mono ?_;rintro e w' ⟨rfl,rfl⟩;go_wp2_with fail;have bx:F.vs.ownBlock≠some (z.heap.size+1):=λh=>by have:=es.o _ h;omega
 have ev:=za bx;clear bx;refine (dH l F H (b.name.ac 4 [58]) _ iR.o (ar.o.aU n2 _ _)).mono ?_;rintro e ge ⟨rfl,bk,K⟩;have D:ge.heap[z.heap.size+1]?=some (bb ⟨b.t.s,b.t.a,true,i,o,0,sE,0,false,false⟩):=(K.block (z.heap.size+1) (zA (zh _ _ _ _ X.o)) n1).trans (zh _ _ _ _ X.o);have bp:=(er.o.aO ev.o 2 (.bool true)).fr K;have a9:bg l F.vs w ge:=bg.bA ((eb.o.aO (by have:=Y.o.size;omega) 2 (.bool true)).trans K);have R:zs ge l F H (z9 (b.name.ac 4 [58])):=by rw[i4.o];exact bk
 obtain⟨d0,d1,d2,d3,d4,d5,d6,d7,d8,d9⟩:=dc D;have m5:=eZ D;obtain⟨l5,l6,md,mk,mp,m0,m1,m2,m3,m4,i7,i8,i9,kd,kw⟩:=R.cells;have g2:=zA D;clear cs cv c0 c1 c2 c3 c4 c5 c9 dn lb bk K;have L:=za D;have N:=za bp;have M:=za a9;have I:=za R;clear D bp a9 R;go_wp2_with fail;refine (cb l F H (z9 (b.name.ac 4 [58])) 5 5 rfl ⟨#[111,110]⟩ cF (by decide +kernel) _ I.o).mono ?_;rintro e w' ⟨rfl,rfl⟩;rcases T with g4|⟨g4,rfl⟩|⟨g4,rfl,rfl⟩
 . go_wp2_with fail;refine zn (λn=>zs n l F H (z9 (b.name.ac 4 [58]))/\cg n l F.vs a/\n.heap[z.heap.size+1]?=some (bb ⟨b.t.s,b.t.a,true,i,o,0,sE,0,false,false⟩)/\bg l F.vs w n) ⟨I.o,N.o,L.o,M.o⟩ ?_;rintro n ⟨f,x,u,v⟩;obtain⟨cs,cv,c0,c1,c2,c3,c4,c5,c9,dn⟩:=dc u;obtain⟨hQ,hT,h0,h3,h4,h5,h6,h7,h8,h9,b3,b4,ca,ck,cm⟩:=f.cells;have io:=f.frozen;have y:=f.lt;have C:=za f;have t:=za x;have B:=za v;clear f x u v
   go_region_law (
    refine zJ _ rfl (.tmp 84) (.tmp 86) 99 rfl (l+1) 181 i0 _ 10 72 underlying99 fV U V W rfl (by decide) F.vs a.length (fg a) rfl (ff t.o _) (xD n.heap.size 0) 1 1 (fh ⟨b.t.s,b.t.a,true,i,o,0,sE,0,false,false⟩) rfl rfl (zN (gx n _) rfl) jA gc O (gw y _) ?_;intro v' cn j c m;have s:=za j;have r:=za m;have ak:=za c;have d:=(C.o.alloc _).drew.grown c (eW t.o (cf _));obtain⟨g5,g6,g7,g8,g9,he,hm,hu,hv,hw,bE,bL,b0,b1,b2⟩:=d.cells;have hN:=d.frozen;have q:=za d;obtain⟨g,A,rfl,hg⟩:=zM j (by omega);clear j c d m)
   all_goals go_wp2_with fail
   all_goals go_end0
   all_goals exact⟨_,rfl,jx q.o B.o s.o ak.o r.o⟩
 . go_wp2_with fail;refine zn (λn=>zs n l F H (z9 (b.name.ac 4 [58]))/\cg n l F.vs a/\n.heap[z.heap.size+1]?=some (bb ⟨b.t.s,b.t.a,true,true,o,0,sE,0,false,false⟩)/\bg l F.vs w n) ⟨I.o,N.o,L.o,M.o⟩ ?_;rintro n ⟨f,x,u,v⟩;obtain⟨cs,cv,c0,c1,c2,c3,c4,c5,c9,dn⟩:=dc u;obtain⟨hQ,hT,h0,h3,h4,h5,h6,h7,h8,h9,b3,b4,ca,ck,cm⟩:=f.cells;have io:=f.frozen;have y:=f.lt;have C:=za f;have t:=za x;have B:=za v;clear f x u v
   go_region_law (
    refine zJ _ rfl (.tmp 84) (.tmp 86) 99 rfl (l+1) 181 i0 _ 10 72 underlying99 fV U V W rfl (by decide) F.vs a.length (fg a) rfl (ff t.o _) (xD n.heap.size 0) 1 1 (fh ⟨b.t.s,b.t.a,true,true,o,0,sE,0,false,false⟩) rfl rfl (zN (gx n _) rfl) jA gc O (gw y _) ?_;intro v' cn j c m;have s:=za j;have r:=za m;have ak:=za c;have d:=(C.o.alloc _).drew.grown c (eW t.o (cf _));obtain⟨g5,g6,g7,g8,g9,he,hm,hu,hv,hw,bE,bL,b0,b1,b2⟩:=d.cells;have hN:=d.frozen;have q:=za d;obtain⟨g,A,rfl,hg⟩:=zM j (by omega);clear j c d m)
   all_goals go_wp2_with fail
   all_goals go_end0
   all_goals exact⟨_,rfl,jx q.o B.o s.o ak.o r.o⟩
 go_wp2_with fail;refine zn (λn=>zs n l F H (z9 (b.name.ac 4 [58]))/\cg n l F.vs a/\n.heap[z.heap.size+1]?=some (bb ⟨b.t.s,b.t.a,true,false,true,0,sE,0,false,false⟩)/\bg l F.vs w n) ⟨I.o,N.o,L.o,M.o⟩ ?_;rintro n ⟨f,x,u,v⟩;obtain⟨cs,cv,c0,c1,c2,c3,c4,c5,c9,dn⟩:=dc u;obtain⟨hQ,hT,h0,h3,h4,h5,h6,h7,h8,h9,b3,b4,ca,ck,cm⟩:=f.cells;have io:=f.frozen;have y:=f.lt;have C:=za f;have t:=za x;have B:=za v;clear f x u v
 go_region_law (
  refine zJ _ rfl (.tmp 84) (.tmp 86) 99 rfl (l+1) 181 i0 _ 10 72 underlying99 fV U V W rfl (by decide) F.vs a.length (fg a) rfl (ff t.o _) (xD n.heap.size 0) 1 1 (fh ⟨b.t.s,b.t.a,true,false,true,0,sE,0,false,false⟩) rfl rfl (zN (gx n _) rfl) jA gc O (gw y _) ?_;intro v' cn j c m;have s:=za j;have r:=za m;have ak:=za c;have d:=(C.o.alloc _).drew.grown c (eW t.o (cf _));obtain⟨g5,g6,g7,g8,g9,he,hm,hu,hv,hw,bE,bL,b0,b1,b2⟩:=d.cells;have hN:=d.frozen;have q:=za d;obtain⟨g,A,rfl,hg⟩:=zM j (by omega);clear j c d m)
 all_goals go_wp2_with fail
 all_goals go_end0
 all_goals exact⟨_,rfl,jx q.o B.o s.o ak.o r.o⟩
theorem L3 (c:Nat)(F:Fx)(j:Rw)(a:St)(b:List Vr)(p:Nat)(w:Xw)(g3:Inv p a)(hR:zs w c F j a)(g4:cg w c F.vs b)(hN:¬16<=b.length)(hw:(a.name.ac 4 [58]).is 5 cD=true)(m3:(z9 (a.name.ac 4 [58])).is 5 cF=true)(ck:(z9 (a.name.ac 4 [58])).ad.is 5 eL=true):xK 258 #[xP c,.bool false,.bool false] w (iV c F j w (zx false false a b).1 (zx false false a b).2):=by
 have hv:zx false false a b=((aS (z9 (a.name.ac 4 [58])).ad).name,b++[⟨a.t.s,a.t.a,true,false,false,(z9 (a.name.ac 4 [58])).t.a,(aS (z9 (a.name.ac 4 [58])).ad).t.s,(aS (z9 (a.name.ac 4 [58])).ad).t.a,true,true⟩]):=by unfold zx;rw[ae hN];simp only;rw[ag (by rw[m3];rfl),hw,ck]
 rw[hv];have i3:aa (z9 (a.name.ac 4 [58])=(a.name.ac 4 [58]).ad):=by unfold aa z9;rw[ag hw]
 have i1:aa (aS (z9 (a.name.ac 4 [58])).ad=(z9 (a.name.ac 4 [58])).ad.ad):=by unfold aa aS;rw[ag ck]
 clear hv;obtain⟨pb,h1,h2,pe,pl,po,pp,pr,ps,pt,l6,md,Z,mk,mp⟩:=hR.cells;have b4:∃hg v,F.vs=.slice hg b.length v:=by
  rcases g4.2 with ⟨h1,h2⟩|⟨g,v,kw,u,_⟩
  . exact⟨none,0,by rw[h1,h2]⟩
  exact⟨_,v,u⟩
 obtain⟨hg,h3,u⟩:=b4;have ak:=Z;rw[u] at Z;have m2:(b.length:Int)<16:=by omega
 have m6:b.length+1<=maxLen:=by unfold maxLen;omega
 have gs:(b.length+1)*72<=140737488355328:=by omega
 obtain⟨m5,m0,g5,g6,g7⟩:=info_parts Tryz.lN;have gt:=ai.name g3;have g0:=ai.ac gt.af 4 [58];have g1:=ai.type g0.af;have g2:=ai.ad g1.af;have hu:=ai.hb g2.af;have h5:=za gt.af.ok;have h6:=za g0.af.ok;have h7:=za g1.af.ok;have h8:=za g2.af.ok;have h9:=za hu.af.ok;have i2:=za hR;have i4:=za g4;have i0:=za g3.ok;have i5:=za u;clear hR g4 g3 gt g0 g1 g2 hu u ak hN;go_enter func258,ntmps258;go_wp2_with fail;refine (e0 c F j a _ i0.o i2.o).mono ?_;rintro e d ⟨rfl,E,D⟩;have hQ:=E.lt;have n1:¬d.heap.size+1=c:=by omega
 have J:¬c=d.heap.size+1:=by omega
 have qs:¬d.heap.size=c:=by omega
 have H:=i4.o.fr D;have cm:∀k,F.vs.ownBlock=some k->k<d.heap.size:=λk m1=>(H.lt k m1).2;have ex:=za cm;clear cm;have c5:=za E;have C:=za D;have eb:=za H;clear E D H;go_wp2_with fail;have al:((d.alloc (z8 a.t)).alloc (bb ⟨a.t.s,a.t.a,false,false,false,0,sE,0,false,false⟩)).heap[d.heap.size+1]?=some (bb ⟨a.t.s,a.t.a,false,false,false,0,sE,0,false,false⟩):=by have h:=zc (d.alloc (z8 a.t)) (bb ⟨a.t.s,a.t.a,false,false,false,0,sE,0,false,false⟩);rw[show (d.alloc (z8 a.t)).heap.size=d.heap.size+1 by simp] at h;exact h
 have cs:=za al;have P:aa (Fr (·=c) w ((d.alloc (z8 a.t)).alloc (bb ⟨a.t.s,a.t.a,false,false,false,0,sE,0,false,false⟩))):=((C.o.alloc _).alloc _);have X:=za ((eb.o.alloc (z8 a.t)).alloc (bb ⟨a.t.s,a.t.a,false,false,false,0,sE,0,false,false⟩));have R:=za ((c5.o.alloc (z8 a.t)).alloc (bb ⟨a.t.s,a.t.a,false,false,false,0,sE,0,false,false⟩));clear al;refine (cO c F j a.name 4 4 rfl ⟨#[58]⟩ [58] (by decide +kernel) _ h5.o R.o).mono ?_;rintro e ts ⟨rfl,bk,o⟩;have x:=(o.block (d.heap.size+1) (by simp) n1).trans cs.o;have bE:=X.o.fr o;have a3:=P.o.trans o;obtain⟨fd,fq,fr,fv,fx,fV,gc,ge,gl,go⟩:=dc x;have hm:=eZ x;have S:=za bk;have io:=za o;have K:=za x;have em:=za bE;have c0:=za a3;clear bk o x bE a3;go_wp2_with fail;refine (cb c F j (a.name.ac 4 [58]) 5 5 rfl ⟨#[98,111,111,108]⟩ cD (by decide +kernel) _ S.o).mono ?_;rintro e w' ⟨rfl,rfl⟩;go_wp2_with fail;have cn:F.vs.ownBlock≠some (d.heap.size+1):=λh=>by have:=ex.o _ h;omega
 have l:=za cn;clear cn;refine (dH c F j (a.name.ac 4 [58]) _ h6.o (S.o.aU J _ _)).mono ?_;rintro e g8 ⟨rfl,bl,z⟩;have m:g8.heap[d.heap.size+1]?=some (bb ⟨a.t.s,a.t.a,true,false,false,0,sE,0,false,false⟩):=(z.block (d.heap.size+1) (zA (zh _ _ _ _ K.o)) n1).trans (zh _ _ _ _ K.o);have bL:=(em.o.aO l.o 2 (.bool true)).fr z;have a4:bg c F.vs w g8:=bg.bA ((c0.o.aO (by have:=C.o.size;omega) 2 (.bool true)).trans z);have G:zs g8 c F j (z9 (a.name.ac 4 [58])):=by rw[i3.o];exact bl
 obtain⟨d0,d1,d2,d3,d4,d5,d6,d7,d8,d9⟩:=dc m;have lb:=eZ m;obtain⟨nx,n2,n3,of,ok,op,or,os,o7,o8,i6,i7,i8,i9,kd⟩:=G.cells;have hT:=zA m;clear fd fq fr fv fx fV gc ge gl go hm bl z;have L:=za m;have eq:=za bL;have c1:=za a4;have W:=za G;clear m bL a4 G;go_wp2_with fail;refine (cb c F j (z9 (a.name.ac 4 [58])) 5 5 rfl ⟨#[111,110]⟩ cF (by decide +kernel) _ W.o).mono ?_;rintro e w' ⟨rfl,rfl⟩;go_wp2_with fail;have m4:=C.o.size;refine (dH c F j (z9 (a.name.ac 4 [58])) _ h7.o ((W.o.aU J _ _).aU J _ _)).mono ?_;rintro e h4 ⟨rfl,bp,q⟩;have y:h4.heap[d.heap.size+1]?=some (bb ⟨a.t.s,a.t.a,true,false,false,(z9 (a.name.ac 4 [58])).t.a,sE,0,false,true⟩):=(q.block (d.heap.size+1) (zA (zh _ _ _ _ (zh _ _ _ _ L.o))) n1).trans (zh _ _ _ _ (zh _ _ _ _ L.o));have b0:=((eq.o.aO l.o 9 (.bool true)).aO l.o 5 (.int .i64 (z9 (a.name.ac 4 [58])).t.a)).fr q;have a5:bg c F.vs w h4:=Fr.trans (Fr.aO (Fr.aO c1.o (by omega) 9 (.bool true)) (by omega) 5 (.int .i64 (z9 (a.name.ac 4 [58])).t.a)) (bg.bA q);obtain⟨le,lk,ln,lo,ls,lt,lv,l1,l2,l3⟩:=dc y;have l5:=eZ y;clear d0 d1 d2 d3 d4 d5 d6 d7 d8 d9 lb;have T:=za bp;have ip:=za q;have M:=za y;have er:=za b0;have c2:=za a5;clear bp q y b0 a5;go_wp2_with fail;refine (cb c F j (z9 (a.name.ac 4 [58])).ad 5 5 rfl ⟨#[110,111,116]⟩ eL (by decide +kernel) _ T.o).mono ?_;rintro e w' ⟨rfl,rfl⟩;go_wp2_with fail;refine (dH c F j (z9 (a.name.ac 4 [58])).ad _ h8.o (T.o.aU J _ _)).mono ?_;rintro e g9 ⟨rfl,bs,A⟩;have ar:g9.heap[d.heap.size+1]?=some (bb ⟨a.t.s,a.t.a,true,false,false,(z9 (a.name.ac 4 [58])).t.a,sE,0,true,true⟩):=(A.block (d.heap.size+1) (zA (zh _ _ _ _ M.o)) n1).trans (zh _ _ _ _ M.o);have b1:=(er.o.aO l.o 8 (.bool true)).fr A;have a9:bg c F.vs w g9:=Fr.trans (Fr.aO c2.o (by omega) 8 (.bool true)) (bg.bA A);have bx:zs g9 c F j (aS (z9 (a.name.ac 4 [58])).ad):=by rw[i1.o];exact bs
 clear bs A le lk ln lo ls lt lv l1 l2 l3 l5;have N:=za ar;have es:=za b1;have c3:=za a9;have ds:=za bx;clear ar b1 a9 bx;go_wp2_with fail;refine (e0 c F j (aS (z9 (a.name.ac 4 [58])).ad) _ h9.o ds.o).mono ?_;rintro e he ⟨rfl,bt,r⟩;have n:=(r.block (d.heap.size+1) (zA N.o) n1).trans N.o;have b2:=es.o.fr r;have be:bg c F.vs w he:=Fr.trans c3.o (bg.bA r);have h0:=zA n;have qv:¬he.heap.size=d.heap.size+1:=by omega
 have rb:¬d.heap.size+1=he.heap.size:=by omega
 obtain⟨fd,fq,fr,fv,fx,fV,gc,ge,gl,go⟩:=dc n;have hm:=eZ n;have c9:=za bt;have it:=za r;have O:=za n;have ev:=za b2;have c4:=za be;clear bt r n b2 be;go_wp2_with fail;refine zn (λI=>zs I c F j (aS (z9 (a.name.ac 4 [58])).ad).name/\cg I c F.vs b/\I.heap[d.heap.size+1]?=some (bb ⟨a.t.s,a.t.a,true,false,false,(z9 (a.name.ac 4 [58])).t.a,(aS (z9 (a.name.ac 4 [58])).ad).t.s,(aS (z9 (a.name.ac 4 [58])).ad).t.a,true,true⟩)/\bg c F.vs w I) ⟨((c9.o.aU J _ _).aU J _ _).alloc _,((ev.o.aO l.o _ _).aO l.o _ _).alloc _,(Below.heap_alloc _ _ _ (zA (zh _ _ _ _ (zh _ _ _ _ O.o)))).trans (zh _ _ _ _ (zh _ _ _ _ O.o)),Fr.alloc (Fr.aO (Fr.aO c4.o (by omega) _ _) (by omega) _ _) _⟩ ?_;rintro I ⟨s,b3,a0,a2⟩;obtain⟨fd,fq,fr,fv,fx,fV,gc,ge,gl,go⟩:=dc a0;obtain⟨sh,sn,st,s1,s2,ta,te,tk,tm,tn,nd,ne,nm,no,ns⟩:=s.cells;have tr:=s.frozen;have ca:=s.lt;have dn:=za s;have Y:=za b3;have cv:=za a2;clear s b3 a0 a2
 go_region_law (
  refine zJ _ rfl (.tmp 84) (.tmp 86) 99 rfl (c+1) 181 m5 _ 10 72 underlying99 m0 g5 g6 g7 rfl (by decide) F.vs b.length (fg b) rfl (ff Y.o _) (xD I.heap.size 0) 1 1 (fh ⟨a.t.s,a.t.a,true,false,false,(z9 (a.name.ac 4 [58])).t.a,(aS (z9 (a.name.ac 4 [58])).ad).t.s,(aS (z9 (a.name.ac 4 [58])).ad).t.a,true,true⟩) rfl rfl (zN (gx I _) rfl) jA m6 gs (gw ca _) ?_;intro v' nt t f B;have V:=za t;have U:=za B;have iR:=za f;have i:=(dn.o.alloc _).drew.grown f (eW Y.o (cf _));obtain⟨rd,rg,ro,rp,rs,rt,rx,ry,rL,sc,m7,m8,m9,na,nb⟩:=i.cells;have sg:=i.frozen;have Q:=za i;obtain⟨g,v,rfl,qr⟩:=zM t (by omega);clear t f i B)
 all_goals go_wp2_with fail
 all_goals go_end0
 all_goals exact⟨_,rfl,jx Q.o cv.o V.o iR.o U.o⟩
theorem L6 (c:Nat)(F:Fx)(j:Rw)(a:St)(b:List Vr)(p:Nat)(w:Xw)(gs:Inv p a)(hR:zs w c F j a)(gt:cg w c F.vs b)(he:¬16<=b.length)(g9:(a.name.ac 4 [58]).is 5 cD=true)(lb:(z9 (a.name.ac 4 [58])).is 5 cF=true)(bL:(z9 (a.name.ac 4 [58])).ad.is 5 eL=false):xK 258 #[xP c,.bool false,.bool false] w (iV c F j w (zx false false a b).1 (zx false false a b).2):=by
 have g8:zx false false a b=((aS (z9 (a.name.ac 4 [58])).ad).name,b++[⟨a.t.s,a.t.a,true,false,false,(z9 (a.name.ac 4 [58])).t.a,(aS (z9 (a.name.ac 4 [58])).ad).t.s,(aS (z9 (a.name.ac 4 [58])).ad).t.a,false,true⟩]):=by unfold zx;rw[ae he];simp only;rw[ag (by rw[lb];rfl),g9,bL]
 rw[g8];have h9:aa (z9 (a.name.ac 4 [58])=(a.name.ac 4 [58]).ad):=by unfold aa z9;rw[ag g9]
 have h7:aa (aS (z9 (a.name.ac 4 [58])).ad=(z9 (a.name.ac 4 [58])).ad):=by unfold aa aS;rw[ae (by rw[bL];simp)]
 clear g8;obtain⟨ok,h1,h2,op,or,os,o7,o8,pb,pe,i5,i6,W,i7,i8⟩:=hR.cells;have bx:∃g5 v,F.vs=.slice g5 b.length v:=by
  rcases gt.2 with ⟨h1,h2⟩|⟨g,v,i3,u,_⟩
  . exact⟨none,0,by rw[h1,h2]⟩
  exact⟨_,v,u⟩
 obtain⟨g5,hv,u⟩:=bx;have X:=W;rw[u] at W;have kw:(b.length:Int)<16:=by omega
 have ln:b.length+1<=maxLen:=by unfold maxLen;omega
 have fV:(b.length+1)*72<=140737488355328:=by omega
 obtain⟨lk,i9,g0,g1,g2⟩:=info_parts Tryz.lN;have gc:=ai.name gs;have ge:=ai.ac gc.af 4 [58];have gl:=ai.type ge.af;have go:=ai.ad gl.af;have g7:=ai.hb go.af;have hw:=za gc.af.ok;have hN:=za ge.af.ok;have hQ:=za gl.af.ok;have mp:=za go.af.ok;have hT:=za g7.af.ok;have h8:=za hR;have io:=za gt;have h6:=za gs.ok;have ip:=za u;clear hR gt gs gc ge gl go g7 u X he;go_enter func258,ntmps258;go_wp2_with fail;refine (e0 c F j a _ h6.o h8.o).mono ?_;rintro e d ⟨rfl,D,C⟩;have hg:=D.lt;have n1:¬d.heap.size+1=c:=by omega
 have n2:¬c=d.heap.size+1:=by omega
 have po:¬d.heap.size=c:=by omega
 have G:=io.o.fr C;have b0:∀k,F.vs.ownBlock=some k->k<d.heap.size:=λk kd=>(G.lt k kd).2;have em:=za b0;clear b0;have c0:=za D;have B:=za C;have c4:=za G;clear D C G;go_wp2_with fail;have Y:((d.alloc (z8 a.t)).alloc (bb ⟨a.t.s,a.t.a,false,false,false,0,sE,0,false,false⟩)).heap[d.heap.size+1]?=some (bb ⟨a.t.s,a.t.a,false,false,false,0,sE,0,false,false⟩):=by have h:=zc (d.alloc (z8 a.t)) (bb ⟨a.t.s,a.t.a,false,false,false,0,sE,0,false,false⟩);rw[show (d.alloc (z8 a.t)).heap.size=d.heap.size+1 by simp] at h;exact h
 have b3:=za Y;have M:aa (Fr (·=c) w ((d.alloc (z8 a.t)).alloc (bb ⟨a.t.s,a.t.a,false,false,false,0,sE,0,false,false⟩))):=((B.o.alloc _).alloc _);have U:=za ((c4.o.alloc (z8 a.t)).alloc (bb ⟨a.t.s,a.t.a,false,false,false,0,sE,0,false,false⟩));have O:=za ((c0.o.alloc (z8 a.t)).alloc (bb ⟨a.t.s,a.t.a,false,false,false,0,sE,0,false,false⟩));clear Y;refine (cO c F j a.name 4 4 rfl ⟨#[58]⟩ [58] (by decide +kernel) _ hw.o O.o).mono ?_;rintro e ta ⟨rfl,a3,o⟩;have x:=(o.block (d.heap.size+1) (by simp) n1).trans b3.o;have bk:=U.o.fr o;have al:=M.o.trans o;obtain⟨eq,er,es,ev,ex,fd,fq,fr,fv,fx⟩:=dc x;have g6:=eZ x;have P:=za a3;have h0:=za o;have I:=za x;have c5:=za bk;have ck:=za al;clear a3 o x bk al;go_wp2_with fail;refine (cb c F j (a.name.ac 4 [58]) 5 5 rfl ⟨#[98,111,111,108]⟩ cD (by decide +kernel) _ P.o).mono ?_;rintro e w' ⟨rfl,rfl⟩;go_wp2_with fail;have b1:F.vs.ownBlock≠some (d.heap.size+1):=λh=>by have:=em.o _ h;omega
 have l:=za b1;clear b1;refine (dH c F j (a.name.ac 4 [58]) _ hN.o (P.o.aU n2 _ _)).mono ?_;rintro e g3 ⟨rfl,a4,z⟩;have m:g3.heap[d.heap.size+1]?=some (bb ⟨a.t.s,a.t.a,true,false,false,0,sE,0,false,false⟩):=(z.block (d.heap.size+1) (zA (zh _ _ _ _ I.o)) n1).trans (zh _ _ _ _ I.o);have bl:=(c5.o.aO l.o 2 (.bool true)).fr z;have ar:bg c F.vs w g3:=bg.bA ((ck.o.aO (by have:=B.o.size;omega) 2 (.bool true)).trans z);have E:zs g3 c F j (z9 (a.name.ac 4 [58])):=by rw[h9.o];exact a4
 obtain⟨d0,d1,d2,d3,d4,d5,d6,d7,d8,d9⟩:=dc m;have i4:=eZ m;obtain⟨m0,m1,m2,m3,m4,m5,m6,m7,m8,m9,it,iR,i0,i1,i2⟩:=E.cells;have hm:=zA m;clear eq er es ev ex fd fq fr fv fx g6 a4 z;have J:=za m;have c9:=za bl;have cm:=za ar;have T:=za E;clear m bl ar E;go_wp2_with fail;refine (cb c F j (z9 (a.name.ac 4 [58])) 5 5 rfl ⟨#[111,110]⟩ cF (by decide +kernel) _ T.o).mono ?_;rintro e w' ⟨rfl,rfl⟩;go_wp2_with fail;have le:=B.o.size;refine (dH c F j (z9 (a.name.ac 4 [58])) _ hQ.o ((T.o.aU n2 _ _).aU n2 _ _)).mono ?_;rintro e b2 ⟨rfl,a5,q⟩;have y:b2.heap[d.heap.size+1]?=some (bb ⟨a.t.s,a.t.a,true,false,false,(z9 (a.name.ac 4 [58])).t.a,sE,0,false,true⟩):=(q.block (d.heap.size+1) (zA (zh _ _ _ _ (zh _ _ _ _ J.o))) n1).trans (zh _ _ _ _ (zh _ _ _ _ J.o));have bp:=((c9.o.aO l.o 9 (.bool true)).aO l.o 5 (.int .i64 (z9 (a.name.ac 4 [58])).t.a)).fr q;have a0:bg c F.vs w b2:=Fr.trans (Fr.aO (Fr.aO cm.o (by omega) 9 (.bool true)) (by omega) 5 (.int .i64 (z9 (a.name.ac 4 [58])).t.a)) (bg.bA q);obtain⟨na,nb,nd,ne,nm,no,ns,nt,nx,n3⟩:=dc y;have of:=eZ y;clear d0 d1 d2 d3 d4 d5 d6 d7 d8 d9 i4;have Q:=za a5;have h3:=za q;have b4:=za y;have dn:=za bp;have cn:=za a0;clear a5 q y bp a0;go_wp2_with fail;refine (cb c F j (z9 (a.name.ac 4 [58])).ad 5 5 rfl ⟨#[110,111,116]⟩ eL (by decide +kernel) _ Q.o).mono ?_;rintro e w' ⟨rfl,rfl⟩;go_wp2_with fail;have be:zs b2 c F j (aS (z9 (a.name.ac 4 [58])).ad):=by rw[h7.o];exact Q.o
 have c3:=za be;have K:aa (b2.heap[d.heap.size+1]?=some (bb ⟨a.t.s,a.t.a,true,false,false,(z9 (a.name.ac 4 [58])).t.a,sE,0,false,true⟩)):=b4;have ds:=dn;have cs:=cn;clear be;refine (e0 c F j (aS (z9 (a.name.ac 4 [58])).ad) _ hT.o c3.o).mono ?_;rintro e g4 ⟨rfl,a9,r⟩;have n:=(r.block (d.heap.size+1) (zA K.o) n1).trans K.o;have bs:=ds.o.fr r;have a2:bg c F.vs w g4:=Fr.trans cs.o (bg.bA r);have hu:=zA n;have pp:¬g4.heap.size=d.heap.size+1:=by omega
 have pr:¬d.heap.size+1=g4.heap.size:=by omega
 obtain⟨eq,er,es,ev,ex,fd,fq,fr,fv,fx⟩:=dc n;have g6:=eZ n;have c1:=za a9;have h4:=za r;have L:=za n;have eb:=za bs;have cv:=za a2;clear a9 r n bs a2;go_wp2_with fail;refine zn (λH=>zs H c F j (aS (z9 (a.name.ac 4 [58])).ad).name/\cg H c F.vs b/\H.heap[d.heap.size+1]?=some (bb ⟨a.t.s,a.t.a,true,false,false,(z9 (a.name.ac 4 [58])).t.a,(aS (z9 (a.name.ac 4 [58])).ad).t.s,(aS (z9 (a.name.ac 4 [58])).ad).t.a,false,true⟩)/\bg c F.vs w H) ⟨((c1.o.aU n2 _ _).aU n2 _ _).alloc _,((eb.o.aO l.o _ _).aO l.o _ _).alloc _,(Below.heap_alloc _ _ _ (zA (zh _ _ _ _ (zh _ _ _ _ L.o)))).trans (zh _ _ _ _ (zh _ _ _ _ L.o)),Fr.alloc (Fr.aO (Fr.aO cv.o (by omega) _ _) (by omega) _ _) _⟩ ?_;rintro H ⟨s,bt,Z,ak⟩;obtain⟨eq,er,es,ev,ex,fd,fq,fr,fv,fx⟩:=dc Z;obtain⟨rt,rx,ry,rL,sc,sg,sh,sn,st,s1,l2,l3,l5,l6,md⟩:=s.cells;have s2:=s.frozen;have bE:=s.lt;have c2:=za s;have V:=za bt;have ca:=za ak;clear s bt Z ak
 go_region_law (
  refine zJ _ rfl (.tmp 84) (.tmp 86) 99 rfl (c+1) 181 lk _ 10 72 underlying99 i9 g0 g1 g2 rfl (by decide) F.vs b.length (fg b) rfl (ff V.o _) (xD H.heap.size 0) 1 1 (fh ⟨a.t.s,a.t.a,true,false,false,(z9 (a.name.ac 4 [58])).t.a,(aS (z9 (a.name.ac 4 [58])).ad).t.s,(aS (z9 (a.name.ac 4 [58])).ad).t.a,false,true⟩) rfl rfl (zN (gx H _) rfl) jA ln fV (gw bE _) ?_;intro v' mk t f A;have S:=za t;have R:=za A;have h5:=za f;have i:=(c2.o.alloc _).drew.grown f (eW V.o (cf _));obtain⟨ps,pt,qr,qs,qv,rb,rd,rg,ro,rp,lo,ls,lt,lv,l1⟩:=i.cells;have rs:=i.frozen;have N:=za i;obtain⟨g,v,rfl,pl⟩:=zM t (by omega);clear t f i A)
 all_goals go_wp2_with fail
 all_goals go_end0
 all_goals exact⟨_,rfl,jx N.o ca.o S.o h5.o R.o⟩
theorem BT (l:Nat)(F:Fx)(H:Rw)(b:St)(a:List Vr)(p:Nat)(w:Xw)(fr:Inv p b)(hR:zs w l F H b)(fv:cg w l F.vs a)(i o:Bool)(gt:¬16<=a.length)(gs:(b.name.ac 4 [58]).is 5 cD=false)(g2:((z9 (b.name.ac 4 [58])).is 5 cF&&!i&&!o)=false):xK 258 #[xP l,.bool i,.bool o] w (iV l F H w (zx i o b a).1 (zx i o b a).2):=by
 have go:zx i o b a=(z9 (b.name.ac 4 [58]),a++[⟨b.t.s,b.t.a,false,i,o,0,sE,0,false,false⟩]):=by unfold zx;rw[ae gt];simp only;rw[ae (by rw[g2];simp),gs]
 rw[go];have i3:aa (z9 (b.name.ac 4 [58])=(b.name.ac 4 [58]).ac 5 jo):=by unfold aa z9;rw[ae (by rw[gs];simp)]
 clear go;have T:(z9 (b.name.ac 4 [58])).is 5 cF=false∨((z9 (b.name.ac 4 [58])).is 5 cF=true/\i=true)∨((z9 (b.name.ac 4 [58])).is 5 cF=true/\i=false/\o=true):=by cases h:(z9 (b.name.ac 4 [58])).is 5 cF <;> cases i <;> cases o <;> simp_all
 clear g2;obtain⟨m6,h1,h2,m7,m8,m9,na,nb,nd,ne,lk,ln,a0,lo,ls⟩:=hR.cells;have bp:∃ge A,F.vs=.slice ge a.length A:=by
  rcases fv.2 with ⟨h1,h2⟩|⟨g,A,le,G,_⟩
  . exact⟨none,0,by rw[h1,h2]⟩
  exact⟨_,A,G⟩
 obtain⟨ge,io,G⟩:=bp;have a2:=a0;rw[G] at a0;have lv:(a.length:Int)<16:=by omega
 have fV:a.length+1<=maxLen:=by unfold maxLen;omega
 have O:(a.length+1)*72<=140737488355328:=by omega
 obtain⟨i0,fx,U,V,W⟩:=info_parts Tryz.lN;have ev:=ai.name fr;have ex:=ai.ac ev.af 4 [58];have fd:=ai.type ex.af;have fq:=ai.ad fd.af;have gl:=ai.hb fq.af;have ip:=za ev.af.ok;have it:=za ex.af.ok;have l1:=za fd.af.ok;have l2:=za fq.af.ok;have l3:=za gl.af.ok;have i2:=za hR;have i4:=za fv;have i1:=za fr.ok;have i6:=za G;clear hR fv fr ev ex fd fq gl G a2 gt;go_enter func258,ntmps258;go_wp2_with fail;refine (e0 l F H b _ i1.o i2.o).mono ?_;rintro e z ⟨rfl,Q,P⟩;have g0:=Q.lt;have n1:¬z.heap.size+1=l:=by omega
 have n2:¬l=z.heap.size+1:=by omega
 have n3:¬z.heap.size=l:=by omega
 have S:=i4.o.fr P;have bs:∀k,F.vs.ownBlock=some k->k<z.heap.size:=λk lt=>(S.lt k lt).2;have es:=za bs;clear bs;have em:=za Q;have ds:=za P;have eq:=za S;clear Q P S;go_wp2_with fail;have a3:((z.alloc (z8 b.t)).alloc (bb ⟨b.t.s,b.t.a,false,i,o,0,sE,0,false,false⟩)).heap[z.heap.size+1]?=some (bb ⟨b.t.s,b.t.a,false,i,o,0,sE,0,false,false⟩):=by have h:=zc (z.alloc (z8 b.t)) (bb ⟨b.t.s,b.t.a,false,i,o,0,sE,0,false,false⟩);rw[show (z.alloc (z8 b.t)).heap.size=z.heap.size+1 by simp] at h;exact h
 have dn:=za a3;have Y:aa (Fr (·=l) w ((z.alloc (z8 b.t)).alloc (bb ⟨b.t.s,b.t.a,false,i,o,0,sE,0,false,false⟩))):=((ds.o.alloc _).alloc _);have ar:=za ((eq.o.alloc (z8 b.t)).alloc (bb ⟨b.t.s,b.t.a,false,i,o,0,sE,0,false,false⟩));have ak:=za ((em.o.alloc (z8 b.t)).alloc (bb ⟨b.t.s,b.t.a,false,i,o,0,sE,0,false,false⟩));clear a3;refine (cO l F H b.name 4 4 rfl ⟨#[58]⟩ [58] (by decide +kernel) _ ip.o ak.o).mono ?_;rintro e nm ⟨rfl,a9,E⟩;have J:=(E.block (z.heap.size+1) (by simp) n1).trans dn.o;have bk:=ar.o.fr E;have a4:=Y.o.trans E;obtain⟨cn,cs,cv,c0,c1,c2,c3,c4,c5,c9⟩:=dc J;have lb:=eZ J;have al:=za a9;have iR:=za E;have X:=za J;have er:=za bk;have eb:=za a4;clear a9 E J bk a4;go_wp2_with fail;refine (cb l F H (b.name.ac 4 [58]) 5 5 rfl ⟨#[98,111,111,108]⟩ cD (by decide +kernel) _ al.o).mono ?_;rintro e w' ⟨rfl,rfl⟩;go_wp2_with fail;have bt:F.vs.ownBlock≠some (z.heap.size+1):=λh=>by have:=es.o _ h;omega
 have i5:=za bt;clear bt;refine (cO l F H (b.name.ac 4 [58]) 5 5 rfl ⟨#[105,110,116]⟩ jo (by decide +kernel) _ it.o al.o).mono ?_;rintro e gc ⟨rfl,be,K⟩;have D:gc.heap[z.heap.size+1]?=some (bb ⟨b.t.s,b.t.a,false,i,o,0,sE,0,false,false⟩):=(K.block (z.heap.size+1) (zA X.o) n1).trans X.o;have bl:=er.o.fr K;have a5:bg l F.vs w gc:=bg.bA (eb.o.trans K);have R:zs gc l F H (z9 (b.name.ac 4 [58])):=by rw[i3.o];exact be
 obtain⟨d0,d1,d2,d3,d4,d5,d6,d7,d8,d9⟩:=dc D;have m5:=eZ D;obtain⟨l5,l6,md,mk,mp,m0,m1,m2,m3,m4,i7,i8,i9,kd,kw⟩:=R.cells;have g1:=zA D;clear cn cs cv c0 c1 c2 c3 c4 c5 c9 lb be K;have L:=za D;have N:=za bl;have M:=za a5;have I:=za R;clear D bl a5 R;go_wp2_with fail;refine (cb l F H (z9 (b.name.ac 4 [58])) 5 5 rfl ⟨#[111,110]⟩ cF (by decide +kernel) _ I.o).mono ?_;rintro e w' ⟨rfl,rfl⟩;rcases T with g3|⟨g3,rfl⟩|⟨g3,rfl,rfl⟩
 . go_wp2_with fail;refine zn (λn=>zs n l F H (z9 (b.name.ac 4 [58]))/\cg n l F.vs a/\n.heap[z.heap.size+1]?=some (bb ⟨b.t.s,b.t.a,false,i,o,0,sE,0,false,false⟩)/\bg l F.vs w n) ⟨I.o,N.o,L.o,M.o⟩ ?_;rintro n ⟨f,x,u,v⟩;obtain⟨cn,cs,cv,c0,c1,c2,c3,c4,c5,c9⟩:=dc u;obtain⟨hN,hQ,hT,h0,h3,h4,h5,h6,h7,h8,b2,b3,b4,ca,ck⟩:=f.cells;have h9:=f.frozen;have y:=f.lt;have C:=za f;have t:=za x;have B:=za v;clear f x u v
   go_region_law (
    refine zJ _ rfl (.tmp 84) (.tmp 86) 99 rfl (l+1) 181 i0 _ 10 72 underlying99 fx U V W rfl (by decide) F.vs a.length (fg a) rfl (ff t.o _) (xD n.heap.size 0) 1 1 (fh ⟨b.t.s,b.t.a,false,i,o,0,sE,0,false,false⟩) rfl rfl (zN (gx n _) rfl) jA fV O (gw y _) ?_;intro v' cm j c m;have s:=za j;have r:=za m;have Z:=za c;have d:=(C.o.alloc _).drew.grown c (eW t.o (cf _));obtain⟨g4,g5,g6,g7,g8,g9,he,hm,hu,hv,bx,bE,bL,b0,b1⟩:=d.cells;have hw:=d.frozen;have q:=za d;obtain⟨g,A,rfl,hg⟩:=zM j (by omega);clear j c d m)
   all_goals go_wp2_with fail
   all_goals go_end0
   all_goals exact⟨_,rfl,jx q.o B.o s.o Z.o r.o⟩
 . go_wp2_with fail;refine zn (λn=>zs n l F H (z9 (b.name.ac 4 [58]))/\cg n l F.vs a/\n.heap[z.heap.size+1]?=some (bb ⟨b.t.s,b.t.a,false,true,o,0,sE,0,false,false⟩)/\bg l F.vs w n) ⟨I.o,N.o,L.o,M.o⟩ ?_;rintro n ⟨f,x,u,v⟩;obtain⟨cn,cs,cv,c0,c1,c2,c3,c4,c5,c9⟩:=dc u;obtain⟨hN,hQ,hT,h0,h3,h4,h5,h6,h7,h8,b2,b3,b4,ca,ck⟩:=f.cells;have h9:=f.frozen;have y:=f.lt;have C:=za f;have t:=za x;have B:=za v;clear f x u v
   go_region_law (
    refine zJ _ rfl (.tmp 84) (.tmp 86) 99 rfl (l+1) 181 i0 _ 10 72 underlying99 fx U V W rfl (by decide) F.vs a.length (fg a) rfl (ff t.o _) (xD n.heap.size 0) 1 1 (fh ⟨b.t.s,b.t.a,false,true,o,0,sE,0,false,false⟩) rfl rfl (zN (gx n _) rfl) jA fV O (gw y _) ?_;intro v' cm j c m;have s:=za j;have r:=za m;have Z:=za c;have d:=(C.o.alloc _).drew.grown c (eW t.o (cf _));obtain⟨g4,g5,g6,g7,g8,g9,he,hm,hu,hv,bx,bE,bL,b0,b1⟩:=d.cells;have hw:=d.frozen;have q:=za d;obtain⟨g,A,rfl,hg⟩:=zM j (by omega);clear j c d m)
   all_goals go_wp2_with fail
   all_goals go_end0
   all_goals exact⟨_,rfl,jx q.o B.o s.o Z.o r.o⟩
 go_wp2_with fail;refine zn (λn=>zs n l F H (z9 (b.name.ac 4 [58]))/\cg n l F.vs a/\n.heap[z.heap.size+1]?=some (bb ⟨b.t.s,b.t.a,false,false,true,0,sE,0,false,false⟩)/\bg l F.vs w n) ⟨I.o,N.o,L.o,M.o⟩ ?_;rintro n ⟨f,x,u,v⟩;obtain⟨cn,cs,cv,c0,c1,c2,c3,c4,c5,c9⟩:=dc u;obtain⟨hN,hQ,hT,h0,h3,h4,h5,h6,h7,h8,b2,b3,b4,ca,ck⟩:=f.cells;have h9:=f.frozen;have y:=f.lt;have C:=za f;have t:=za x;have B:=za v;clear f x u v
 go_region_law (
  refine zJ _ rfl (.tmp 84) (.tmp 86) 99 rfl (l+1) 181 i0 _ 10 72 underlying99 fx U V W rfl (by decide) F.vs a.length (fg a) rfl (ff t.o _) (xD n.heap.size 0) 1 1 (fh ⟨b.t.s,b.t.a,false,false,true,0,sE,0,false,false⟩) rfl rfl (zN (gx n _) rfl) jA fV O (gw y _) ?_;intro v' cm j c m;have s:=za j;have r:=za m;have Z:=za c;have d:=(C.o.alloc _).drew.grown c (eW t.o (cf _));obtain⟨g4,g5,g6,g7,g8,g9,he,hm,hu,hv,bx,bE,bL,b0,b1⟩:=d.cells;have hw:=d.frozen;have q:=za d;obtain⟨g,A,rfl,hg⟩:=zM j (by omega);clear j c d m)
 all_goals go_wp2_with fail
 all_goals go_end0
 all_goals exact⟨_,rfl,jx q.o B.o s.o Z.o r.o⟩
theorem L2 (c:Nat)(F:Fx)(j:Rw)(a:St)(b:List Vr)(p:Nat)(w:Xw)(g2:Inv p a)(hR:zs w c F j a)(g3:cg w c F.vs b)(hw:¬16<=b.length)(hv:(a.name.ac 4 [58]).is 5 cD=false)(m2:(z9 (a.name.ac 4 [58])).is 5 cF=true)(ca:(z9 (a.name.ac 4 [58])).ad.is 5 eL=true):xK 258 #[xP c,.bool false,.bool false] w (iV c F j w (zx false false a b).1 (zx false false a b).2):=by
 have hu:zx false false a b=((aS (z9 (a.name.ac 4 [58])).ad).name,b++[⟨a.t.s,a.t.a,false,false,false,(z9 (a.name.ac 4 [58])).t.a,(aS (z9 (a.name.ac 4 [58])).ad).t.s,(aS (z9 (a.name.ac 4 [58])).ad).t.a,true,true⟩]):=by unfold zx;rw[ae hw];simp only;rw[ag (by rw[m2];rfl),hv,ca]
 rw[hu];have i2:aa (z9 (a.name.ac 4 [58])=(a.name.ac 4 [58]).ac 5 jo):=by unfold aa z9;rw[ae (by rw[hv];simp)]
 have i0:aa (aS (z9 (a.name.ac 4 [58])).ad=(z9 (a.name.ac 4 [58])).ad.ad):=by unfold aa aS;rw[ag ca]
 clear hu;obtain⟨pb,h1,h2,pe,pl,po,pp,pr,ps,pt,l5,l6,Y,md,mk⟩:=hR.cells;have b3:∃he v,F.vs=.slice he b.length v:=by
  rcases g3.2 with ⟨h1,h2⟩|⟨g,v,kd,u,_⟩
  . exact⟨none,0,by rw[h1,h2]⟩
  exact⟨_,v,u⟩
 obtain⟨he,h0,u⟩:=b3;have Z:=Y;rw[u] at Y;have m1:(b.length:Int)<16:=by omega
 have m5:b.length+1<=maxLen:=by unfold maxLen;omega
 have go:(b.length+1)*72<=140737488355328:=by omega
 obtain⟨m4,mp,g4,g5,g6⟩:=info_parts Tryz.lN;have gs:=ai.name g2;have gt:=ai.ac gs.af 4 [58];have g0:=ai.type gt.af;have g1:=ai.ad g0.af;have hm:=ai.hb g1.af;have h4:=za gs.af.ok;have h5:=za gt.af.ok;have h6:=za g0.af.ok;have h7:=za g1.af.ok;have h8:=za hm.af.ok;have i1:=za hR;have i3:=za g3;have iR:=za g2.ok;have i4:=za u;clear hR g3 g2 gs gt g0 g1 hm u Z hw;go_enter func258,ntmps258;go_wp2_with fail;refine (e0 c F j a _ iR.o i1.o).mono ?_;rintro e d ⟨rfl,D,C⟩;have hN:=D.lt;have n1:¬d.heap.size+1=c:=by omega
 have n2:¬c=d.heap.size+1:=by omega
 have qs:¬d.heap.size=c:=by omega
 have G:=i3.o.fr C;have ck:∀k,F.vs.ownBlock=some k->k<d.heap.size:=λk m0=>(G.lt k m0).2;have ev:=za ck;clear ck;have c4:=za D;have N:=za C;have ds:=za G;clear D C G;go_wp2_with fail;have ak:((d.alloc (z8 a.t)).alloc (bb ⟨a.t.s,a.t.a,false,false,false,0,sE,0,false,false⟩)).heap[d.heap.size+1]?=some (bb ⟨a.t.s,a.t.a,false,false,false,0,sE,0,false,false⟩):=by have h:=zc (d.alloc (z8 a.t)) (bb ⟨a.t.s,a.t.a,false,false,false,0,sE,0,false,false⟩);rw[show (d.alloc (z8 a.t)).heap.size=d.heap.size+1 by simp] at h;exact h
 have cn:=za ak;have O:aa (Fr (·=c) w ((d.alloc (z8 a.t)).alloc (bb ⟨a.t.s,a.t.a,false,false,false,0,sE,0,false,false⟩))):=((N.o.alloc _).alloc _);have W:=za ((ds.o.alloc (z8 a.t)).alloc (bb ⟨a.t.s,a.t.a,false,false,false,0,sE,0,false,false⟩));have Q:=za ((c4.o.alloc (z8 a.t)).alloc (bb ⟨a.t.s,a.t.a,false,false,false,0,sE,0,false,false⟩));clear ak;refine (cO c F j a.name 4 4 rfl ⟨#[58]⟩ [58] (by decide +kernel) _ h4.o Q.o).mono ?_;rintro e ts ⟨rfl,be,o⟩;have x:=(o.block (d.heap.size+1) (by simp) n1).trans cn.o;have bx:=W.o.fr o;have a2:=O.o.trans o;obtain⟨ex,fd,fq,fr,fv,fx,fV,gc,ge,gl⟩:=dc x;have hg:=eZ x;have R:=za be;have h9:=za o;have I:=za x;have eb:=za bx;have cv:=za a2;clear be o x bx a2;go_wp2_with fail;refine (cb c F j (a.name.ac 4 [58]) 5 5 rfl ⟨#[98,111,111,108]⟩ cD (by decide +kernel) _ R.o).mono ?_;rintro e w' ⟨rfl,rfl⟩;go_wp2_with fail;have cm:F.vs.ownBlock≠some (d.heap.size+1):=λh=>by have:=ev.o _ h;omega
 have l:=za cm;clear cm;refine (cO c F j (a.name.ac 4 [58]) 5 5 rfl ⟨#[105,110,116]⟩ jo (by decide +kernel) _ h5.o R.o).mono ?_;rintro e g7 ⟨rfl,bk,z⟩;have m:g7.heap[d.heap.size+1]?=some (bb ⟨a.t.s,a.t.a,false,false,false,0,sE,0,false,false⟩):=(z.block (d.heap.size+1) (zA I.o) n1).trans I.o;have bE:=eb.o.fr z;have a3:bg c F.vs w g7:=bg.bA (cv.o.trans z);have E:zs g7 c F j (z9 (a.name.ac 4 [58])):=by rw[i2.o];exact bk
 obtain⟨d0,d1,d2,d3,d4,d5,d6,d7,d8,d9⟩:=dc m;have kw:=eZ m;obtain⟨nt,nx,n3,of,ok,op,or,os,o7,o8,i5,i6,i7,i8,i9⟩:=E.cells;have hQ:=zA m;clear ex fd fq fr fv fx fV gc ge gl hg bk z;have J:=za m;have em:=za bE;have c0:=za a3;have V:=za E;clear m bE a3 E;go_wp2_with fail;refine (cb c F j (z9 (a.name.ac 4 [58])) 5 5 rfl ⟨#[111,110]⟩ cF (by decide +kernel) _ V.o).mono ?_;rintro e w' ⟨rfl,rfl⟩;go_wp2_with fail;have m3:=N.o.size;refine (dH c F j (z9 (a.name.ac 4 [58])) _ h6.o ((V.o.aU n2 _ _).aU n2 _ _)).mono ?_;rintro e h3 ⟨rfl,bl,q⟩;have y:h3.heap[d.heap.size+1]?=some (bb ⟨a.t.s,a.t.a,false,false,false,(z9 (a.name.ac 4 [58])).t.a,sE,0,false,true⟩):=(q.block (d.heap.size+1) (zA (zh _ _ _ _ (zh _ _ _ _ J.o))) n1).trans (zh _ _ _ _ (zh _ _ _ _ J.o));have bL:=((em.o.aO l.o 9 (.bool true)).aO l.o 5 (.int .i64 (z9 (a.name.ac 4 [58])).t.a)).fr q;have a4:bg c F.vs w h3:=Fr.trans (Fr.aO (Fr.aO c0.o (by omega) 9 (.bool true)) (by omega) 5 (.int .i64 (z9 (a.name.ac 4 [58])).t.a)) (bg.bA q);obtain⟨lb,le,lk,ln,lo,ls,lt,lv,l1,l2⟩:=dc y;have l3:=eZ y;clear d0 d1 d2 d3 d4 d5 d6 d7 d8 d9 kw;have S:=za bl;have io:=za q;have K:=za y;have eq:=za bL;have c1:=za a4;clear bl q y bL a4;go_wp2_with fail;refine (cb c F j (z9 (a.name.ac 4 [58])).ad 5 5 rfl ⟨#[110,111,116]⟩ eL (by decide +kernel) _ S.o).mono ?_;rintro e w' ⟨rfl,rfl⟩;go_wp2_with fail;refine (dH c F j (z9 (a.name.ac 4 [58])).ad _ h7.o (S.o.aU n2 _ _)).mono ?_;rintro e g8 ⟨rfl,bp,A⟩;have al:g8.heap[d.heap.size+1]?=some (bb ⟨a.t.s,a.t.a,false,false,false,(z9 (a.name.ac 4 [58])).t.a,sE,0,true,true⟩):=(A.block (d.heap.size+1) (zA (zh _ _ _ _ K.o)) n1).trans (zh _ _ _ _ K.o);have b0:=(eq.o.aO l.o 8 (.bool true)).fr A;have a5:bg c F.vs w g8:=Fr.trans (Fr.aO c1.o (by omega) 8 (.bool true)) (bg.bA A);have bt:zs g8 c F j (aS (z9 (a.name.ac 4 [58])).ad):=by rw[i0.o];exact bp
 clear bp A lb le lk ln lo ls lt lv l1 l2 l3;have L:=za al;have er:=za b0;have c2:=za a5;have dn:=za bt;clear al b0 a5 bt;go_wp2_with fail;refine (e0 c F j (aS (z9 (a.name.ac 4 [58])).ad) _ h8.o dn.o).mono ?_;rintro e g9 ⟨rfl,bs,r⟩;have n:=(r.block (d.heap.size+1) (zA L.o) n1).trans L.o;have b1:=er.o.fr r;have a9:bg c F.vs w g9:=Fr.trans c2.o (bg.bA r);have hT:=zA n;have qv:¬g9.heap.size=d.heap.size+1:=by omega
 have rb:¬d.heap.size+1=g9.heap.size:=by omega
 obtain⟨ex,fd,fq,fr,fv,fx,fV,gc,ge,gl⟩:=dc n;have hg:=eZ n;have c5:=za bs;have ip:=za r;have M:=za n;have es:=za b1;have c3:=za a9;clear bs r n b1 a9;go_wp2_with fail;refine zn (λH=>zs H c F j (aS (z9 (a.name.ac 4 [58])).ad).name/\cg H c F.vs b/\H.heap[d.heap.size+1]?=some (bb ⟨a.t.s,a.t.a,false,false,false,(z9 (a.name.ac 4 [58])).t.a,(aS (z9 (a.name.ac 4 [58])).ad).t.s,(aS (z9 (a.name.ac 4 [58])).ad).t.a,true,true⟩)/\bg c F.vs w H) ⟨((c5.o.aU n2 _ _).aU n2 _ _).alloc _,((es.o.aO l.o _ _).aO l.o _ _).alloc _,(Below.heap_alloc _ _ _ (zA (zh _ _ _ _ (zh _ _ _ _ M.o)))).trans (zh _ _ _ _ (zh _ _ _ _ M.o)),Fr.alloc (Fr.aO (Fr.aO c3.o (by omega) _ _) (by omega) _ _) _⟩ ?_;rintro H ⟨s,b2,ar,a0⟩;obtain⟨ex,fd,fq,fr,fv,fx,fV,gc,ge,gl⟩:=dc ar;obtain⟨sh,sn,st,s1,s2,ta,te,tk,tm,tn,nb,nd,ne,nm,no⟩:=s.cells;have tr:=s.frozen;have b4:=s.lt;have c9:=za s;have X:=za b2;have cs:=za a0;clear s b2 ar a0
 go_region_law (
  refine zJ _ rfl (.tmp 84) (.tmp 86) 99 rfl (c+1) 181 m4 _ 10 72 underlying99 mp g4 g5 g6 rfl (by decide) F.vs b.length (fg b) rfl (ff X.o _) (xD H.heap.size 0) 1 1 (fh ⟨a.t.s,a.t.a,false,false,false,(z9 (a.name.ac 4 [58])).t.a,(aS (z9 (a.name.ac 4 [58])).ad).t.s,(aS (z9 (a.name.ac 4 [58])).ad).t.a,true,true⟩) rfl rfl (zN (gx H _) rfl) jA m5 go (gw b4 _) ?_;intro v' ns t f B;have U:=za t;have T:=za B;have it:=za f;have i:=(c9.o.alloc _).drew.grown f (eW X.o (cf _));obtain⟨rd,rg,ro,rp,rs,rt,rx,ry,rL,sc,m6,m7,m8,m9,na⟩:=i.cells;have sg:=i.frozen;have P:=za i;obtain⟨g,v,rfl,qr⟩:=zM t (by omega);clear t f i B)
 all_goals go_wp2_with fail
 all_goals go_end0
 all_goals exact⟨_,rfl,jx P.o cs.o U.o it.o T.o⟩
theorem L5 (c:Nat)(F:Fx)(j:Rw)(a:St)(b:List Vr)(p:Nat)(w:Xw)(gs:Inv p a)(hR:zs w c F j a)(gt:cg w c F.vs b)(he:¬16<=b.length)(g9:(a.name.ac 4 [58]).is 5 cD=false)(lb:(z9 (a.name.ac 4 [58])).is 5 cF=true)(bL:(z9 (a.name.ac 4 [58])).ad.is 5 eL=false):xK 258 #[xP c,.bool false,.bool false] w (iV c F j w (zx false false a b).1 (zx false false a b).2):=by
 have g8:zx false false a b=((aS (z9 (a.name.ac 4 [58])).ad).name,b++[⟨a.t.s,a.t.a,false,false,false,(z9 (a.name.ac 4 [58])).t.a,(aS (z9 (a.name.ac 4 [58])).ad).t.s,(aS (z9 (a.name.ac 4 [58])).ad).t.a,false,true⟩]):=by unfold zx;rw[ae he];simp only;rw[ag (by rw[lb];rfl),g9,bL]
 rw[g8];have h9:aa (z9 (a.name.ac 4 [58])=(a.name.ac 4 [58]).ac 5 jo):=by unfold aa z9;rw[ae (by rw[g9];simp)]
 have h7:aa (aS (z9 (a.name.ac 4 [58])).ad=(z9 (a.name.ac 4 [58])).ad):=by unfold aa aS;rw[ae (by rw[bL];simp)]
 clear g8;obtain⟨ok,h1,h2,op,or,os,o7,o8,pb,pe,i5,i6,W,i7,i8⟩:=hR.cells;have bx:∃g5 v,F.vs=.slice g5 b.length v:=by
  rcases gt.2 with ⟨h1,h2⟩|⟨g,v,i3,t,_⟩
  . exact⟨none,0,by rw[h1,h2]⟩
  exact⟨_,v,t⟩
 obtain⟨g5,hv,t⟩:=bx;have X:=W;rw[t] at W;have kw:(b.length:Int)<16:=by omega
 have ln:b.length+1<=maxLen:=by unfold maxLen;omega
 have fV:(b.length+1)*72<=140737488355328:=by omega
 obtain⟨lk,i9,g0,g1,g2⟩:=info_parts Tryz.lN;have gc:=ai.name gs;have ge:=ai.ac gc.af 4 [58];have gl:=ai.type ge.af;have go:=ai.ad gl.af;have g7:=ai.hb go.af;have hw:=za gc.af.ok;have hN:=za ge.af.ok;have hQ:=za gl.af.ok;have mp:=za go.af.ok;have hT:=za g7.af.ok;have h8:=za hR;have io:=za gt;have h6:=za gs.ok;have ip:=za t;clear hR gt gs gc ge gl go g7 t X he;go_enter func258,ntmps258;go_wp2_with fail;refine (e0 c F j a _ h6.o h8.o).mono ?_;rintro e d ⟨rfl,C,B⟩;have hg:=C.lt;have n1:¬d.heap.size+1=c:=by omega
 have n2:¬c=d.heap.size+1:=by omega
 have po:¬d.heap.size=c:=by omega
 have E:=io.o.fr B;have b0:∀k,F.vs.ownBlock=some k->k<d.heap.size:=λk kd=>(E.lt k kd).2;have em:=za b0;clear b0;have c0:=za C;have L:=za B;have c4:=za E;clear C B E;go_wp2_with fail;have Y:((d.alloc (z8 a.t)).alloc (bb ⟨a.t.s,a.t.a,false,false,false,0,sE,0,false,false⟩)).heap[d.heap.size+1]?=some (bb ⟨a.t.s,a.t.a,false,false,false,0,sE,0,false,false⟩):=by have h:=zc (d.alloc (z8 a.t)) (bb ⟨a.t.s,a.t.a,false,false,false,0,sE,0,false,false⟩);rw[show (d.alloc (z8 a.t)).heap.size=d.heap.size+1 by simp] at h;exact h
 have b3:=za Y;have M:aa (Fr (·=c) w ((d.alloc (z8 a.t)).alloc (bb ⟨a.t.s,a.t.a,false,false,false,0,sE,0,false,false⟩))):=((L.o.alloc _).alloc _);have U:=za ((c4.o.alloc (z8 a.t)).alloc (bb ⟨a.t.s,a.t.a,false,false,false,0,sE,0,false,false⟩));have O:=za ((c0.o.alloc (z8 a.t)).alloc (bb ⟨a.t.s,a.t.a,false,false,false,0,sE,0,false,false⟩));clear Y;refine (cO c F j a.name 4 4 rfl ⟨#[58]⟩ [58] (by decide +kernel) _ hw.o O.o).mono ?_;rintro e ta ⟨rfl,a3,n⟩;have x:=(n.block (d.heap.size+1) (by simp) n1).trans b3.o;have bk:=U.o.fr n;have al:=M.o.trans n;obtain⟨eq,er,es,ev,ex,fd,fq,fr,fv,fx⟩:=dc x;have g6:=eZ x;have P:=za a3;have h0:=za n;have H:=za x;have c5:=za bk;have ck:=za al;clear a3 n x bk al;go_wp2_with fail;refine (cb c F j (a.name.ac 4 [58]) 5 5 rfl ⟨#[98,111,111,108]⟩ cD (by decide +kernel) _ P.o).mono ?_;rintro e w' ⟨rfl,rfl⟩;go_wp2_with fail;have b1:F.vs.ownBlock≠some (d.heap.size+1):=λh=>by have:=em.o _ h;omega
 have u:=za b1;clear b1;refine (cO c F j (a.name.ac 4 [58]) 5 5 rfl ⟨#[105,110,116]⟩ jo (by decide +kernel) _ hN.o P.o).mono ?_;rintro e g3 ⟨rfl,a4,z⟩;have l:g3.heap[d.heap.size+1]?=some (bb ⟨a.t.s,a.t.a,false,false,false,0,sE,0,false,false⟩):=(z.block (d.heap.size+1) (zA H.o) n1).trans H.o;have bl:=c5.o.fr z;have ar:bg c F.vs w g3:=bg.bA (ck.o.trans z);have D:zs g3 c F j (z9 (a.name.ac 4 [58])):=by rw[h9.o];exact a4
 obtain⟨d0,d1,d2,d3,d4,d5,d6,d7,d8,d9⟩:=dc l;have i4:=eZ l;obtain⟨m0,m1,m2,m3,m4,m5,m6,m7,m8,m9,it,iR,i0,i1,i2⟩:=D.cells;have hm:=zA l;clear eq er es ev ex fd fq fr fv fx g6 a4 z;have I:=za l;have c9:=za bl;have cm:=za ar;have T:=za D;clear l bl ar D;go_wp2_with fail;refine (cb c F j (z9 (a.name.ac 4 [58])) 5 5 rfl ⟨#[111,110]⟩ cF (by decide +kernel) _ T.o).mono ?_;rintro e w' ⟨rfl,rfl⟩;go_wp2_with fail;have le:=L.o.size;refine (dH c F j (z9 (a.name.ac 4 [58])) _ hQ.o ((T.o.aU n2 _ _).aU n2 _ _)).mono ?_;rintro e b2 ⟨rfl,a5,o⟩;have y:b2.heap[d.heap.size+1]?=some (bb ⟨a.t.s,a.t.a,false,false,false,(z9 (a.name.ac 4 [58])).t.a,sE,0,false,true⟩):=(o.block (d.heap.size+1) (zA (zh _ _ _ _ (zh _ _ _ _ I.o))) n1).trans (zh _ _ _ _ (zh _ _ _ _ I.o));have bp:=((c9.o.aO u.o 9 (.bool true)).aO u.o 5 (.int .i64 (z9 (a.name.ac 4 [58])).t.a)).fr o;have a0:bg c F.vs w b2:=Fr.trans (Fr.aO (Fr.aO cm.o (by omega) 9 (.bool true)) (by omega) 5 (.int .i64 (z9 (a.name.ac 4 [58])).t.a)) (bg.bA o);obtain⟨na,nb,nd,ne,nm,no,ns,nt,nx,n3⟩:=dc y;have of:=eZ y;clear d0 d1 d2 d3 d4 d5 d6 d7 d8 d9 i4;have Q:=za a5;have h3:=za o;have b4:=za y;have dn:=za bp;have cn:=za a0;clear a5 o y bp a0;go_wp2_with fail;refine (cb c F j (z9 (a.name.ac 4 [58])).ad 5 5 rfl ⟨#[110,111,116]⟩ eL (by decide +kernel) _ Q.o).mono ?_;rintro e w' ⟨rfl,rfl⟩;go_wp2_with fail;have be:zs b2 c F j (aS (z9 (a.name.ac 4 [58])).ad):=by rw[h7.o];exact Q.o
 have c3:=za be;have J:aa (b2.heap[d.heap.size+1]?=some (bb ⟨a.t.s,a.t.a,false,false,false,(z9 (a.name.ac 4 [58])).t.a,sE,0,false,true⟩)):=b4;have ds:=dn;have cs:=cn;clear be;refine (e0 c F j (aS (z9 (a.name.ac 4 [58])).ad) _ hT.o c3.o).mono ?_;rintro e g4 ⟨rfl,a9,q⟩;have m:=(q.block (d.heap.size+1) (zA J.o) n1).trans J.o;have bs:=ds.o.fr q;have a2:bg c F.vs w g4:=Fr.trans cs.o (bg.bA q);have hu:=zA m;have pp:¬g4.heap.size=d.heap.size+1:=by omega
 have pr:¬d.heap.size+1=g4.heap.size:=by omega
 obtain⟨eq,er,es,ev,ex,fd,fq,fr,fv,fx⟩:=dc m;have g6:=eZ m;have c1:=za a9;have h4:=za q;have K:=za m;have eb:=za bs;have cv:=za a2;clear a9 q m bs a2;go_wp2_with fail;refine zn (λG=>zs G c F j (aS (z9 (a.name.ac 4 [58])).ad).name/\cg G c F.vs b/\G.heap[d.heap.size+1]?=some (bb ⟨a.t.s,a.t.a,false,false,false,(z9 (a.name.ac 4 [58])).t.a,(aS (z9 (a.name.ac 4 [58])).ad).t.s,(aS (z9 (a.name.ac 4 [58])).ad).t.a,false,true⟩)/\bg c F.vs w G) ⟨((c1.o.aU n2 _ _).aU n2 _ _).alloc _,((eb.o.aO u.o _ _).aO u.o _ _).alloc _,(Below.heap_alloc _ _ _ (zA (zh _ _ _ _ (zh _ _ _ _ K.o)))).trans (zh _ _ _ _ (zh _ _ _ _ K.o)),Fr.alloc (Fr.aO (Fr.aO cv.o (by omega) _ _) (by omega) _ _) _⟩ ?_;rintro G ⟨r,bt,Z,ak⟩;obtain⟨eq,er,es,ev,ex,fd,fq,fr,fv,fx⟩:=dc Z;obtain⟨rt,rx,ry,rL,sc,sg,sh,sn,st,s1,l2,l3,l5,l6,md⟩:=r.cells;have s2:=r.frozen;have bE:=r.lt;have c2:=za r;have V:=za bt;have ca:=za ak;clear r bt Z ak
 go_region_law (
  refine zJ _ rfl (.tmp 84) (.tmp 86) 99 rfl (c+1) 181 lk _ 10 72 underlying99 i9 g0 g1 g2 rfl (by decide) F.vs b.length (fg b) rfl (ff V.o _) (xD G.heap.size 0) 1 1 (fh ⟨a.t.s,a.t.a,false,false,false,(z9 (a.name.ac 4 [58])).t.a,(aS (z9 (a.name.ac 4 [58])).ad).t.s,(aS (z9 (a.name.ac 4 [58])).ad).t.a,false,true⟩) rfl rfl (zN (gx G _) rfl) jA ln fV (gw bE _) ?_;intro v' mk s f A;have S:=za s;have R:=za A;have h5:=za f;have i:=(c2.o.alloc _).drew.grown f (eW V.o (cf _));obtain⟨ps,pt,qr,qs,qv,rb,rd,rg,ro,rp,lo,ls,lt,lv,l1⟩:=i.cells;have rs:=i.frozen;have N:=za i;obtain⟨g,v,rfl,pl⟩:=zM s (by omega);clear s f i A)
 all_goals go_wp2_with fail
 all_goals go_end0
 all_goals exact⟨_,rfl,jx N.o ca.o S.o h5.o R.o⟩
end
section
variable {ab:List Vr} {p:Nat} {a:St}
def cK (i:Bool):Nat->St×List Vr->St×List Vr
 | 0,x=>x
 | f+1,x=>if x.1.er=0/\x.1.is 4 [44]=true then cK i f (zx i (!i) x.1.ad x.2) else x
def bW (i:Bool)(a:St)(ab:List Vr):St×List Vr :=
 let y:=cK i 1300 (zx i (!i) (a.ac 4 [40]) ab)
 (y.1.ac 4 [41],y.2)
def cz (a:St)(ab:List Vr):St×List Vr :=
 let x:=zx false false a ab
 (x.1.ac 4 [59],x.2)
theorem HN (i:Bool):∀(f p:Nat) (x:St×List Vr),Inv p x.1->ai p x.1 (cK i f x).1/\(cK i f x).1.op=x.1.op/\(cK i f x).1.L=x.1.L:=by
 intro f;induction f with
 | zero=>intro p x c;exact⟨ai.refl c,rfl,rfl⟩
 | succ f h =>
   intro p x c
   show ai p x.1 (if _ then _ else x).1/\(if _ then _ else x).1.op=x.1.op/\(if _ then _ else x).1.L=x.1.L;by_cases g:x.1.er=0/\x.1.is 4 [44]=true
   . rw[ag g];have e:=ai.ad c;have b:=jX (i:=i) (o:=!i) (ab:=x.2) e.af;have d:=h p _ b.1.af;exact⟨(e.trans b.1).trans d.1,d.2.1.trans (b.2.1.trans (St.bQ _)),d.2.2.trans (b.2.2.trans (St.bu _))⟩
   rw[ae g];exact⟨ai.refl c,rfl,rfl⟩
theorem kH {i:Bool}(f:Inv p a):ai p a (bW i a ab).1/\(bW i a ab).1.op=a.op/\(bW i a ab).1.L=a.L:=by
 have d:=ai.ac f 4 [40];have b:=jX (i:=i) (o:=!i) (ab:=ab) d.af;have c:=HN i 1300 p _ b.1.af;have e:=ai.ac c.1.af 4 [41];refine⟨((d.trans b.1).trans c.1).trans e,?_,?_⟩
 . unfold bW;simp only;rw[St.a8,c.2.1,b.2.1,St.a8]
 unfold bW;simp only;rw[St.bi,c.2.2,b.2.2,St.bi]
theorem mn (d:Inv p a):ai p a (cz a ab).1/\(cz a ab).1.op=a.op/\(cz a ab).1.L=a.L:=by
 have b:=jX (i:=false) (o:=false) (ab:=ab) d;have c:=ai.ac b.1.af 4 [59];refine⟨b.1.trans c,?_,?_⟩
 . unfold cz;simp only;rw[St.a8,b.2.1]
 unfold cz;simp only;rw[St.bi,b.2.2]
end
end Go.Proofs.YtmfkofhgdjechaaGreatDoor
