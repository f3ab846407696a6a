/- Part 23 of the proof. -/
import Derived.Test.YtmfkofhgdjechaaGreatDoorK21
set_option maxRecDepth 100000
set_option maxHeartbeats 8000000
namespace Go.Proofs.YtmfkofhgdjechaaGreatDoor
open Go.Proofs.Tryz
open Go.RowKit
section
variable {N E a r k t f m:Nat} {S:Xs} {B:Xo} {c:Sc} {u C A D:Xv} {w w':Xw}
attribute [local go_sem ↓] Go.wp_at_zero Go.wp_at_succ
structure e2 (S:Xs) (t f a m:Nat) (A u:Xv) (N:Nat) (c:Sc) (C D:Xv) (E r:Nat) (B:Xo) (w:Xw):Prop where
 rp:cl S t f a m A u B w
 sc:br w N c C D
 ck:dF w c r
 x1:w.heap[E]?=some (.cells #[C,D] 205 (0,0))
 d:∀b,b=E∨b=r->¬b=f/\¬b=a
 l1:N<=f
 l2:N<=a
 hN:N<=w.heap.size
theorem e2.aq (h:e2 S t f a m A u N c C D E r B w)(b:xB w w'):e2 S t f a m A u N c C D E r B w' :=
 ⟨h.rp.aq b,h.sc.am (zm b h.hN),h.ck.aq b,(b.block _ (ze h.x1)).trans h.x1,h.d,h.l1,h.l2,aJ h.hN b.size⟩
theorem e2.aX {d:Xo}(h:e2 S t f a m A u N c C D E r B w)(l:cl S t f a m A u d w')(g:Fr (RT f a) w w'):e2 S t f a m A u N c C D E r d w':=by
 have j:∀{b},(b=E∨b=r)->¬RT f a b:=λi e=>by rcases e with e|e;exact (h.d _ i).1 e;exact (h.d _ i).2 e
 exact⟨l,h.sc.am (g.am h.hN (λk e=>by rcases e with e|e;exact e▸h.l1;exact e▸h.l2)),h.ck.gh (g.block _ h.ck.lt (j (by simp))),(g.block _ (ze h.x1) (j (by simp))).trans h.x1,h.d,h.l1,h.l2,aJ h.hN g.size⟩
theorem e2.am (h:e2 S t f a m A u N c C D E r B w)(b:Fr (RT f a) w w'):bV N w w':=b.am h.hN (λk e=>by rcases e with e|e;exact e▸h.l1;exact e▸h.l2)
theorem e2.on (h:e2 S t f a m A u N c C D E r B w)(g:xB w w'){z:Nat}(n:w.heap.size<=z)
 (i:xH w' z #[C,D] 205) (j:xH w' (z+1) #[.map (some r)] 224) (l:xH w' (z+1+1) #[bT f a m] 200) :
 iq S t f a m A u N c C D r z (z+1) (z+1+1) B w':=by
 have d:=h.aq g;have o:=ze h.rp.l;have p:=ze h.rp.b;refine⟨d.rp,d.sc,d.ck,i,j,l,λb e=>?_,h.l1,h.l2,d.hN⟩;rcases e with e|e|e|e
 . subst e;exact⟨by omega,by omega⟩
 . subst e;exact⟨by omega,by omega⟩
 . subst e;exact⟨by omega,by omega⟩
 subst e;exact h.d _ (ap rfl)
theorem G4 {l:List Vr}{v:Vr}(h:l[k]?=some v):hZ c (l.drop k) k=(if c.jF k=true then [v.a] else [])++hZ c (l.drop (k+1)) (k+1):=by obtain⟨b,d⟩:=aB.1 h;rw[dE b,hZ,d]
theorem GU {q:Nat×Nat}{b:Xl}{d:Xn}{s:Xb}{p:Nat}(l:b[k]?=some s)(j:d[k]?=some p):fU c q (b.drop k) (d.drop k)=(if c.of (c.idx s)=q then [] else [p])++fU c q (b.drop (k+1)) (d.drop (k+1)):=by obtain⟨e,g⟩:=aB.1 l;obtain⟨h,i⟩:=aB.1 j;rw[dE e,dE h,fU,g,i]
theorem G3 (c:Sc)(q:Nat×Nat)(b:Xn):fU c q [] b=[]:=by cases b <;> rfl
theorem Jk (d n e b:Nat)(o:n=e+1)(p:n<=b):∃i g,(∀w,(Instr.slice 158 (xS d n b) (some (xI 1)) none none).run prog w=.ok (.slice i e g) w)/\(0<e->i=some ⟨d,2,none⟩):=by
 refine⟨if b=1 then some (xD d 0) else some (xD d 2),b-1,λw=>?_,λh=>ae (by omega)⟩;have l:(1:Int)<=(n:Int):=by omega
 have j:n-1=e:=by omega
 by_cases h:b=1
 . simp[Instr.slice,Instr.sliceBounds,Instr.sliceBound,run_underlying underlying158,asIntOf,l,h,j]
 simp[Instr.slice,Instr.sliceBounds,Instr.sliceBound,run_underlying underlying158,asIntOf,l,h,j,Addr.add]
theorem IL (r f a m:Nat)(w:Xw)(g:Xp)(n b:Nat)(d:Nat) :
 xK 118 #[.agg #[.slice g n b,xP d],.map (some r),.func (.func 124) #[] #[xP f,xP a,xP m]] w.drew (λe w'=>e=.returned (.func (.func 181) #[] #[xP (w.heap.size+1),xP w.heap.size,xP (w.heap.size+1+1)])/\xB w w'/\w'.heap[w.heap.size]?=some (.cells #[.slice g n b,xP d] 205 (0,0))/\w'.heap[w.heap.size+1]?=some (.cells #[.map (some r)] 224 (0,0))/\w'.heap[w.heap.size+1+1]?=some (.cells #[bT f a m] 200 (0,0))):=by
 refine (Jh (.slice g n b) (xP d) r f a m w.drew g n b d rfl rfl).mono ?_;rintro e w' ⟨h,i,j,l,o,p⟩;exact⟨h,zw i,j,l,o⟩
theorem Hn (S:Xs)(t f a m:Nat)(A u:Xv)(N:Nat)(c:Sc)(po:eU c)(C D:Xv)(B:Xo)(w:Xw)(i3:cl S t f a m A u B w)(h:br w N c C D)(hN:N<=w.heap.size)(l1:N<=f)(l2:N<=a) :
 xK 56 #[.agg #[C,D],bT f a m] w (λe w'=>e=.returned (.tuple #[])/\cl S t f a m A u (c.e4.foldl aj B) w'/\Fr (RT f a) w w'):=by
 obtain⟨a9,H,nb,rfl,rfl,tt⟩:=h.shape;have vv:=ze i3.l;have vs:=ze i3.b;have o8:=za i3;have le:=za h;obtain⟨v2,x1,xv,zs,mp,bL⟩:=h.nd;cases mp;obtain⟨zu,sg,rfl⟩:=zB bL.bZ;obtain⟨zi,sc,rfl⟩:=zB bL.own;have bk:=za bL;have pp:=bL.bO;have sE:c.nd.eqs.length<=9223372036854775807:=by
  rcases bL.own.2 with ⟨_,h⟩|⟨g,hR,hT,hv,_,_,pe,h4,_⟩
  . omega
  unfold maxLen at h4;omega
 have c9:=za (λo=>xf (w.alloc o) (h.am (mm hN o)) (by rw[au];omega));have HEq:=za po.nd.eqs;clear i3 h bL po;unfold bT;go_enter func56,ntmps56;go_upto_region 2 with (go_at_call 114;refine (c9.o _).mono ?_;rintro e a5 ⟨r,rfl,h9,h2,z⟩;have g9:=za h2;have F:=za z;clear h2 z);refine zn (λW=>e2 S t f a m A u N c (xE a9 c H) (xP nb) w.heap.size r B W/\Fr (RT f a) w W) ⟨⟨o8.o.aq (zE F.o),le.o.am (zm (zE F.o) hN),g9.o,(F.o.block _ (by simp)).trans (zc w _),λb e=>by rw[au] at h9;rcases e with e|e <;> exact⟨by omega,by omega⟩,l1,l2,by have:=(zE F.o).size;omega⟩,zy (zE F.o)⟩ ?_;rintro W ⟨d,I⟩;have m2:=d.am (Fr.refl _ _);obtain⟨ne,nm,no,ns,nt,nx,n1,n2⟩:=zt ((I.block nb (by omega) (λe=>by rcases e with e|e <;> omega)).trans bk.o.aC);obtain⟨em,s1,eq,er⟩:=zp d.x1;have G:=za d;have T:=za I;clear d I m2 F g9 c9 o8;go_wp2_with fail;go_loopg [22] (c.nd.ab.length+1) (λj i wr=>∃(k:Nat) (Z:Xo),k+j=c.nd.ab.length+1/\k<=c.nd.ab.length/\i=xI k/\aa (e2 S t f a m A u N c (xE a9 c H) (xP nb) w.heap.size r Z wr)/\aa ((hZ c c.nd.ab 0).foldl aj B=(hZ c (c.nd.ab.drop k) k).foldl aj Z)/\aa (Fr (RT f a) w wr));case atStart=>exact⟨0,B,by omega,aE _,rfl,G.o,rfl,T.o⟩
 case round =>
  clear G T em s1 eq er ne nm no ns nt nx n1 n2;obtain⟨k,Z,ip,pt,rfl,bt,cn,cs⟩:=hrel;have ds:=cs.o.am hN (λk e=>by rcases e with e|e;exact e▸l1;exact e▸l2);by_cases c3:k<c.nd.ab.length
  . obtain⟨v,hv⟩:∃v,c.nd.ab[k]?=some v:=⟨_,av c3⟩;obtain⟨g,rfl,l3,l5,l6,wd,wf,wn,wp⟩:=hj (bk.o.am ds).bZ hv;have m4:=bk.o.jc g rfl;have h6:=bt.o.hN;have g5:aa ((hZ c c.nd.ab 0).foldl aj B=(hZ c (c.nd.ab.drop (k+1)) (k+1)).foldl aj ((if c.jF k=true then [v.a] else []).foldl aj Z)):=by unfold aa;rw[cn.o,G4 hv,bc]
    have cv:=za (λo=>Ha k (wr.alloc o) (bt.o.aq (zq wr o)).ck (by omega));clear cn hv ds;cases c2:c.jF k with
    | false =>
      rw[c2] at g5 cv;clear c2;go_wp2_with (go_at_call 115;refine (cv.o _).mono ?_;rintro e b0 ⟨rfl,l⟩;have J:=za (zE l);clear l);go_roundg (gk-1);case measure=>omega
      exact⟨k+1,Z,by omega,by omega,by go_num,bt.o.aq J.o,g5.o,cs.o.trans (zy J.o)⟩
    | true =>
      rw[c2] at g5 cv;clear c2
      go_wp2_with (first
       | (go_at_call 124;refine (eg S t f a m A u Z v.a _ hm.o.rp).mono ?_;rintro e x2 ⟨rfl,a3,a0⟩;have b3:=za a3;have Q:=za a0;clear a3 a0)
       | (go_at_call 115;refine (cv.o _).mono ?_;rintro e b0 ⟨rfl,l⟩;have hm:=za (bt.o.aq (zE l));have x3:=zd l (eK (zc wr _)).2.1 (by simp);have J:=za (zE l);clear l))
      go_roundg (gk-1);case measure=>omega
      exact⟨k+1,aj Z v.a,by omega,by omega,by go_num,hm.o.aX b3.o Q.o,g5.o,(cs.o.trans (zy J.o)).trans Q.o⟩
  have h1:k=c.nd.ab.length:=by omega
  subst h1;rw[List.drop_length,hZ] at cn;have he:aa (c.e4.foldl aj B=(c.nd.eqs.flatMap (mr c)).foldl aj Z):=by unfold aa Sc.e4;rw[bc,cn.o];rfl
  clear cn;obtain⟨ne,nm,no,ns,nt,nx,n1,n2⟩:=zt ((ds nb bk.o.lo).trans bk.o.aC);obtain⟨em,s1,eq,er⟩:=zp bt.o.x1;clear ds;go_wp2_with fail;go_loopg [43] (c.nd.eqs.length+1) (λj i wr=>∃(k:Nat) (a4:Xo),k+j=c.nd.eqs.length+1/\k<=c.nd.eqs.length/\i=xI k/\aa (e2 S t f a m A u N c (xE a9 c H) (xP nb) w.heap.size r a4 wr)/\aa (c.e4.foldl aj B=((c.nd.eqs.drop k).flatMap (mr c)).foldl aj a4)/\aa (Fr (RT f a) w wr));case atStart=>exact⟨0,Z,by omega,aE _,rfl,bt.o,he.o,cs.o⟩
  case round =>
   clear bt cs he em s1 eq er ne nm no ns nt nx n1 n2 ip pt c3;obtain⟨k,a4,ip,pt,rfl,bt,cn,cs⟩:=hrel;have ds:=cs.o.am hN (λk e=>by rcases e with e|e;exact e▸l1;exact e▸l2);by_cases c3:k<c.nd.eqs.length
   . obtain⟨bs,rfl⟩:∃bs,bs=wr:=⟨_,rfl⟩;obtain⟨m0,rfl⟩:∃g,g=gk:=⟨_,rfl⟩;obtain⟨q,i5⟩:∃q,c.nd.eqs[k]?=some q:=⟨_,av c3⟩;have ge:=bk.o.am ds;obtain⟨g,xs,x0,rfl,l3,l5,l6,gc⟩:=lj ge.own ge.eqs i5 rfl;obtain⟨rb,_,_,rfl,_⟩:=gc.tt.ptr;obtain⟨zh,b4,rfl⟩:=zB gc.own;have m4:=bk.o.ko g rfl;have i7:=za gc;obtain⟨ck,bp,_⟩:=HEq.o q (aM i5);have m1:q.ns.length<=9223372036854775807:=by
      rcases gc.own.2 with ⟨_,h⟩|⟨g,hR,hT,hv,_,_,pe,h4,_⟩
      . omega
      unfold maxLen at h4;omega
     obtain⟨s,g8,cm⟩:∃s g8,q.ns=s::g8:=by
      cases m9:q.ns with
      | nil=>rw[m9] at bp;simp at bp
      | cons s g8=>exact⟨s,g8,rfl⟩
     obtain⟨p,rg,c4⟩:∃p rg,q.ps=p::rg:=by
      cases m9:q.ps with
      | nil=>rw[m9] at ck;simp at ck;rw[ck] at bp;simp at bp
      | cons s g8=>exact⟨s,g8,rfl⟩
     have m3:q.ns.length<=b4/\b4<=9223372036854775807:=by
      rcases gc.own.2 with ⟨w0,h⟩|⟨g,hR,hT,hv,_,_,pe,h4,_⟩
      . omega
      cases hv;unfold maxLen at h4;omega
     obtain⟨eb,io⟩:=m3;have vz:(1:Int)<=(q.ns.length:Int):=(by omega);have vG:(q.ns.length:Int)<=(b4:Int):=(by omega);have v0:(1:Int)<=(b4:Int):=(by omega);obtain⟨gl,rfl,n3,of⟩:=kG gc.own (k:=0) (s:=s) (p:=p) (by rw[cm];rfl) (by rw[c4];rfl) rfl;have pr:=i7.o.lo gl rfl;have te:=bt.o.hN;obtain⟨P,gt⟩:∃P,c.of (c.idx s)=P:=⟨_,rfl⟩;have g5:aa (c.e4.foldl aj B=((c.nd.eqs.drop (k+1)).flatMap (mr c)).foldl aj ((fQ c q.r P).foldl aj ((fU c P (q.ns.drop 1) (q.ps.drop 1)).foldl aj a4))):=(by unfold aa;obtain⟨sn,ta⟩:=aB.1 i5;rw[cn.o,dE sn,List.flatMap_cons,ta,bc];congr 1;unfold mr;rw[cm,c4];simp only[List.headD_cons,List.tail_cons,List.drop_one];rw[gt,bc]);have fv:=za (bt.o.aq (zq bs (.cells #[xS gl q.ns.length b4,xI q.a,xP rb] 161)));have fV:=za (cs.o.alloc (.cells #[xS gl q.ns.length b4,xI q.a,xP rb] 161));have g0:1<=q.ns.length:=bp;have m5:(0:Int)<(q.ns.length:Int):=(by omega);have m7:0<q.ns.length:=bp;have m6:¬q.ns=[]:=(by rw[cm];simp);have ry:=za cm;have rx:=za c4;have lt:=za ck;have ls:=za gt;clear ge gc i5 cn ds cm c4 ck gt bp;go_upto_region 11 with fail;go_cut [9,43] from 43 to 88 (λx y i6=>∃bE,x=xP bE/\y=xI k/\bs.heap.size<bE/\aa (e2 S t f a m A u N c (xE a9 c H) (xP nb) w.heap.size r a4 i6)/\aa (Fr (RT f a) w i6)/\aa (xH i6 bs.heap.size #[xS gl q.ns.length b4,xI q.a,xP rb] 161)/\aa (xH i6 bE #[xI (P.1:Nat),xI (P.2:Nat)] 228))
     case first =>
      refine zn (λW=>e2 S t f a m A u N c (xE a9 c H) (xP nb) w.heap.size r a4 W/\Fr (RT f a) w W/\xH W bs.heap.size #[xS gl q.ns.length b4,xI q.a,xP rb] 161/\xC W gl 0 (.string s)/\xC W gl 1 (xI p)) ⟨fv.o,fV.o,zc bs _,zj _ n3,zj _ of⟩ ?_;rintro W ⟨d,I,gs,lv,hQ⟩;obtain⟨em,s1,eq,er⟩:=zp d.x1;obtain⟨ok,op,or,os,g7⟩:=zL gs;have ps:gl<W.heap.size:=(by have:=d.hN;omega);have V:=za (λW' (i2:xB W W')=>hW s (p:Int) W' (d.aq i2).sc (d.aq i2).hN);have U:=za (λW' (i2:xB W W')=>jW (c.idx s) W' (d.aq i2).ck);rw[ls.o] at U;have G:=za d;have T:=za I;have hu:=za gs;clear d I gs fv fV n3 of l3 l5 l6
      go_region_held3 (λw'=>w'.cell? (xD w.heap.size 0)=some (xE a9 c H)/\w'.cell? (xD w.heap.size 1)=some (xP nb)/\w'.cell? (xD bs.heap.size 0)=some (xS gl q.ns.length b4)/\w'.cell? (xD gl 0)=some (.string s)/\w'.cell? (xD gl 1)=some (xI p))
       (first|(with_reducible (refine⟨?_,?_,?_,?_,?_⟩ <;> repeat (first|assumption|refine zg ?_|refine zj _ ?_|refine zk (by omega) ?_|refine zd L.o ?_ (by first|omega|(rw[au];omega))|refine zd K.o ?_ (by first|omega|(rw[au];omega)))))|go_keep)
       (first
         | (go_at_call 116;refine (U.o _ (by first|exact K.o|exact jh K.o (an _) _)).mono ?_;rintro e b0 ⟨rfl,l⟩;have J:=za l;(first|(have X:xH b0 W.heap.size #[xI 0,xI 0] 228:=(l.block _ v9).trans lo.o;have hw:=za X;obtain⟨t0,t1,v4,v5⟩:=zp X;clear X)|(have X:xH b0 a5.heap.size #[xI 0,xI 0] 228:=(l.block a5.heap.size (by simp)).trans (zc a5 _);have hw:=za X;obtain⟨t0,t1,v4,v5⟩:=zp X;clear X)|skip);(first|have L:=za (K.o.trans (l.mono K.o.size))|have L:=za (K.o.trans ((zE l).mono K.o.size)));have rd:=L.o.size;clear l)
         | (go_at_call 103;refine (V.o _ (by first|exact zo (Below.refl _ _)|exact jh (zo (Below.refl _ _)) (an _) _)).mono ?_;rintro e a5 ⟨rfl,z⟩;have F:=za z;(first|(have Y:xH a5 W.heap.size #[xI 0,xI 0] 228:=(z.block W.heap.size (by simp)).trans (zc W.drew _);have lo:=za Y;obtain⟨zv,o7,zx,v9⟩:=zp Y;clear Y;have K:=za (zw (zE z)))|have K:=za (zw z));have qv:=K.o.size;clear z))
      all_goals go_wp2_with fail
      all_goals go_meet
      . exact⟨_,rfl,rfl,by omega,G.o.aq (jh L.o (an _) _),T.o.trans (zy (jh L.o (an _) _)),((jh L.o (an _) _).block _ g7).trans hu.o,zc b0 _⟩
      iterate 2
       . exact⟨_,rfl,rfl,by omega,G.o.aq (zC (zC L.o (by omega) _) (by omega) _),T.o.trans (zy (zC (zC L.o (by omega) _) (by omega) _)),zr (by omega) (zr (by omega) ((L.o.block _ g7).trans hu.o)),pa hw.o _ _⟩
     case rest =>
      obtain⟨bE,rfl,rfl,tk,V,hg,fr,fq⟩:=hcut;clear fv fV n3 of l3 l5 l6;obtain⟨ok,op,or,os,g7⟩:=zL fr.o;obtain⟨c5,g1⟩:∃c5,q.ns.length=c5+1:=⟨q.ns.length-1,by omega⟩;obtain⟨SA,rL,un,h7⟩:=Jk gl q.ns.length c5 b4 g1 eb;have s2:c5<=9223372036854775807:=(by omega);have fx:=za g1;have kw:=za h7;have i0:bs.heap.size<wc.heap.size:=g7;have it:=ze fq.o;have iR:f<bs.heap.size/\a<bs.heap.size:=⟨ze bt.o.rp.l,ze bt.o.rp.b⟩;obtain⟨ts,tm⟩:=iR;clear g1 h7 eb io vz vG v0 m1 g0;go_wp2_with fail;go_loopg [60] (c5+1) (λj i wr=>∃(ak:Nat) (R:Xo),ak+j=c5+1/\ak<=c5/\i=xI ak/\aa (e2 S t f a m A u N c (xE a9 c H) (xP nb) w.heap.size r R wr)/\aa ((fU c P (q.ns.drop 1) (q.ps.drop 1)).foldl aj a4=(fU c P (q.ns.drop (1+ak)) (q.ps.drop (1+ak))).foldl aj R)/\aa (Fr (RT f a) w wr)/\aa (xH wr bs.heap.size #[xS gl q.ns.length b4,xI q.a,xP rb] 161)/\aa (xH wr bE #[xI (P.1:Nat),xI (P.2:Nat)] 228));case atStart=>exact⟨0,a4,by omega,aE _,rfl,V.o,rfl,hg.o,fr.o,fq.o⟩
      case round =>
       clear V hg fr fq ok op or os g7 i0 it;obtain⟨ak,R,qr,tr,rfl,be,c0,b2,ar,M⟩:=hrel;have tx:=ze ar.o;have tn:=ze M.o;have h6:=be.o.hN;have go:bV N w wr:=b2.o.am hN (λk e=>by rcases e with e|e;exact e▸l1;exact e▸l2);have c1:bV N bs wr:=λb pl=>(go b pl).trans ((cs.o.am hN (λk e=>by rcases e with e|e;exact e▸l1;exact e▸l2)) b pl).symm;by_cases qs:ak<c5
       . obtain⟨s',g3⟩:∃s,q.ns[1+ak]?=some s:=⟨_,av (by have:=fx.o;omega)⟩;obtain⟨p',g2⟩:∃p,q.ps[1+ak]?=some p:=⟨_,av (by have:=fx.o;have:=lt.o;omega)⟩;obtain⟨sh,mp,d0,d1⟩:=kG (i7.o.am c1).own g3 g2 rfl;cases mp;rw[show (1+ak)*2=2+ak*2 by omega] at d0 d1;obtain rfl:=kw.o (by omega);obtain⟨o,i4⟩:∃o,c.of (c.idx s')=o:=⟨_,rfl⟩;have bx:=za c0.o;rw[GU g3 g2,bc,show 1+ak+1=1+(ak+1) by omega,i4] at bx;clear c0 go c1 g3 g2;by_cases dn:o=P
         . rw[ag dn] at bx;have h0:(o.1:Int)=(P.1:Int):=(by rw[dn]);have mk:(o.2:Int)=(P.2:Int):=(by rw[dn]);clear dn;go_upto_region 15 with fail;refine zn (λW=>e2 S t f a m A u N c (xE a9 c H) (xP nb) w.heap.size r R W/\Fr (RT f a) w W/\xB wr W/\xH W wr.heap.size #[.string s',xI p'] 144) ⟨be.o.aq (zq wr _),b2.o.alloc _,zq wr _,zc wr _⟩ ?_;rintro W ⟨d,I,O,a2⟩;obtain⟨em,s1,eq,er⟩:=zp d.x1;obtain⟨lv,hQ,pb,i1⟩:=zp a2;obtain⟨na,g4,nd,g6⟩:=zp ((O.block _ (ze M.o)).trans M.o);have V:=za (hW s' (p':Int) W.drew (d.sc.am (λ_ _=>rfl)) d.hN);have G:=za d;have T:=za I;have al:=za O;have h8:=O.size;clear d I O a2
           go_region_held3 (λw'=>w'.cell? (xD w.heap.size 0)=some (xE a9 c H)/\w'.cell? (xD w.heap.size 1)=some (xP nb)/\w'.cell? (xD wr.heap.size 0)=some (.string s')/\w'.cell? (xD wr.heap.size 1)=some (xI p')/\w'.cell? (xD bE 0)=some (xI (P.1:Nat))/\w'.cell? (xD bE 1)=some (xI (P.2:Nat)))
            (first|(with_reducible (refine⟨?_,?_,?_,?_,?_,?_⟩ <;> repeat (first|assumption|refine zg ?_|refine zj _ ?_|refine zk (by omega) ?_|refine zd J.o ?_ (by first|omega|(rw[au];omega))|refine zd F.o ?_ (by first|omega|(rw[au];omega)))))|go_keep)
            (first
              | (go_at_call 116;refine U.o.mono ?_;rintro e b0 ⟨rfl,l⟩;have J:=za l;have X:a5.heap.size<=b0.heap.size:=l.size;clear l)
              | (go_at_call 103;refine V.o.mono ?_;rintro e a5 ⟨rfl,z⟩;have F:=za (zw z);have Y:W.heap.size<=a5.heap.size:=z.size;have U:=za (jW (c.idx s') a5 (G.o.ck.aq F.o));(rw[i4] at U);clear z))
           have n:=za (F.o.trans (J.o.mono Y));go_wp2_with fail;go_roundg (gk-1);case measure=>omega
           exact⟨ak+1,R,by omega,by omega,by go_num,G.o.aq n.o,bx.o,T.o.trans (zy n.o),(n.o.block _ (by omega)).trans ((al.o.block _ (ze ar.o)).trans ar.o),(n.o.block _ g6).trans ((al.o.block _ (ze M.o)).trans M.o)⟩
         rw[ae dn] at bx;by_cases md:o.1=P.1
         . have h0:(o.1:Int)=(P.1:Int):=(by omega);have mk:¬(o.2:Int)=(P.2:Int):=λe=>dn (Prod.ext md (by omega));clear dn md;go_upto_region 15 with fail;refine zn (λW=>e2 S t f a m A u N c (xE a9 c H) (xP nb) w.heap.size r R W/\Fr (RT f a) w W/\xB wr W/\xH W wr.heap.size #[.string s',xI p'] 144) ⟨be.o.aq (zq wr _),b2.o.alloc _,zq wr _,zc wr _⟩ ?_;rintro W ⟨d,I,O,a2⟩;obtain⟨em,s1,eq,er⟩:=zp d.x1;obtain⟨lv,hQ,pb,i1⟩:=zp a2;obtain⟨na,g4,nd,g6⟩:=zp ((O.block _ (ze M.o)).trans M.o);have V:=za (hW s' (p':Int) W.drew (d.sc.am (λ_ _=>rfl)) d.hN);have G:=za d;have T:=za I;have al:=za O;have h8:=O.size;clear d I O a2
           go_region_held3 (λw'=>w'.cell? (xD w.heap.size 0)=some (xE a9 c H)/\w'.cell? (xD w.heap.size 1)=some (xP nb)/\w'.cell? (xD wr.heap.size 0)=some (.string s')/\w'.cell? (xD wr.heap.size 1)=some (xI p')/\w'.cell? (xD bE 0)=some (xI (P.1:Nat))/\w'.cell? (xD bE 1)=some (xI (P.2:Nat)))
            (first|(with_reducible (refine⟨?_,?_,?_,?_,?_,?_⟩ <;> repeat (first|assumption|refine zg ?_|refine zj _ ?_|refine zk (by omega) ?_|refine zd J.o ?_ (by first|omega|(rw[au];omega))|refine zd F.o ?_ (by first|omega|(rw[au];omega)))))|go_keep)
            (first
              | (go_at_call 116;refine U.o.mono ?_;rintro e b0 ⟨rfl,l⟩;have J:=za l;have X:a5.heap.size<=b0.heap.size:=l.size;clear l)
              | (go_at_call 103;refine V.o.mono ?_;rintro e a5 ⟨rfl,z⟩;have F:=za (zw z);have Y:W.heap.size<=a5.heap.size:=z.size;have U:=za (jW (c.idx s') a5 (G.o.ck.aq F.o));(rw[i4] at U);clear z))
           have n:=za (F.o.trans (J.o.mono Y));have v3:=zd n.o hQ i1;have bl:=za (eg S t f a m A u R p' b0 (G.o.aq n.o).rp);have m8:=n.o.size;go_wp2_with (go_at_call 124;refine bl.o.mono ?_;rintro e rp ⟨rfl,a3,a0⟩;have b3:=za a3;have Q:=za a0;clear a3 a0);go_roundg (gk-1);case measure=>omega
           exact⟨ak+1,aj R p',by omega,by omega,by go_num,(G.o.aq n.o).aX b3.o Q.o,bx.o,(T.o.trans (zy n.o)).trans Q.o,(Q.o.block _ (by omega) (λe=>by rcases e with e|e <;> omega)).trans ((n.o.block _ (by omega)).trans ((al.o.block _ (ze ar.o)).trans ar.o)),(Q.o.block _ (by omega) (λe=>by rcases e with e|e <;> omega)).trans ((n.o.block _ g6).trans ((al.o.block _ (ze M.o)).trans M.o))⟩
         have h0:¬(o.1:Int)=(P.1:Int):=(by omega);clear dn md;go_upto_region 15 with fail;refine zn (λW=>e2 S t f a m A u N c (xE a9 c H) (xP nb) w.heap.size r R W/\Fr (RT f a) w W/\xB wr W/\xH W wr.heap.size #[.string s',xI p'] 144) ⟨be.o.aq (zq wr _),b2.o.alloc _,zq wr _,zc wr _⟩ ?_;rintro W ⟨d,I,O,a2⟩;obtain⟨em,s1,eq,er⟩:=zp d.x1;obtain⟨lv,hQ,pb,i1⟩:=zp a2;obtain⟨na,g4,nd,g6⟩:=zp ((O.block _ (ze M.o)).trans M.o);have V:=za (hW s' (p':Int) W.drew (d.sc.am (λ_ _=>rfl)) d.hN);have G:=za d;have T:=za I;have al:=za O;have h8:=O.size;clear d I O a2
         go_region_held3 (λw'=>w'.cell? (xD w.heap.size 0)=some (xE a9 c H)/\w'.cell? (xD w.heap.size 1)=some (xP nb)/\w'.cell? (xD wr.heap.size 0)=some (.string s')/\w'.cell? (xD wr.heap.size 1)=some (xI p')/\w'.cell? (xD bE 0)=some (xI (P.1:Nat))/\w'.cell? (xD bE 1)=some (xI (P.2:Nat)))
          (first|(with_reducible (refine⟨?_,?_,?_,?_,?_,?_⟩ <;> repeat (first|assumption|refine zg ?_|refine zj _ ?_|refine zk (by omega) ?_|refine zd J.o ?_ (by first|omega|(rw[au];omega))|refine zd F.o ?_ (by first|omega|(rw[au];omega)))))|go_keep)
          (first
            | (go_at_call 116;refine U.o.mono ?_;rintro e b0 ⟨rfl,l⟩;have J:=za l;have X:a5.heap.size<=b0.heap.size:=l.size;clear l)
            | (go_at_call 103;refine V.o.mono ?_;rintro e a5 ⟨rfl,z⟩;have F:=za (zw z);have Y:W.heap.size<=a5.heap.size:=z.size;have U:=za (jW (c.idx s') a5 (G.o.ck.aq F.o));(rw[i4] at U);clear z))
         have n:=za (F.o.trans (J.o.mono Y));have v3:=zd n.o hQ i1;have bl:=za (eg S t f a m A u R p' b0 (G.o.aq n.o).rp);have m8:=n.o.size;go_wp2_with (go_at_call 124;refine bl.o.mono ?_;rintro e rp ⟨rfl,a3,a0⟩;have b3:=za a3;have Q:=za a0;clear a3 a0);go_roundg (gk-1);case measure=>omega
         exact⟨ak+1,aj R p',by omega,by omega,by go_num,(G.o.aq n.o).aX b3.o Q.o,bx.o,(T.o.trans (zy n.o)).trans Q.o,(Q.o.block _ (by omega) (λe=>by rcases e with e|e <;> omega)).trans ((n.o.block _ (by omega)).trans ((al.o.block _ (ze ar.o)).trans ar.o)),(Q.o.block _ (by omega) (λe=>by rcases e with e|e <;> omega)).trans ((n.o.block _ g6).trans ((al.o.block _ (ze M.o)).trans M.o))⟩
       have h1:ak=c5:=(by omega);subst h1;rw[show q.ns.drop (1+ak)=[] from List.drop_of_length_le (by have:=fx.o;omega),G3] at c0;obtain⟨em,s1,eq,er⟩:=zp be.o.x1;obtain⟨ok,op,or,os,g7⟩:=zL ar.o;obtain⟨na,g4,nd,g6⟩:=zp M.o;have i9:=za (IL r f a m wr a9 c.er.length H nb);have lk:=za ((i7.o.am c1).tt);clear go c1;go_upto_region 18 with fail
       go_region_held3 (λw'=>w'.cell? (xD w.heap.size 0)=some (xE a9 c H)/\w'.cell? (xD w.heap.size 1)=some (xP nb)/\w'.cell? (xD bs.heap.size 2)=some (xP rb)/\w'.cell? (xD bE 0)=some (xI (P.1:Nat))/\w'.cell? (xD bE 1)=some (xI (P.2:Nat)))
        (first|(with_reducible (refine⟨?_,?_,?_,?_,?_⟩ <;> repeat (first|assumption|refine zg ?_|refine zS fd.o ?_ (by omega) (by omega)|refine zd es.o ?_ (by omega))))|go_keep)
        (first
          | (go_at_call 117;refine ln.o.mono ?_;rintro e rp ⟨rfl,h5,h3⟩;have i8:=za h5.rp;have fd:=za h3.fr;clear h5 h3)
          | (go_at_call 118;refine i9.o.mono ?_;rintro e ro ⟨rfl,ca,o7,rs,rt⟩;have es:=za ca;have ex:=za (be.o.on ca (an _) o7 rs rt);have up:wr.heap.size<=ro.heap.size:=ca.size;have ln:=za (HA (KN S t f a m A u N c (xE a9 c H) (xP nb) r wr.heap.size (wr.heap.size+1) (wr.heap.size+1+1)) q.r P (xP rb) R ro (lk.o.am (zm ca h6)) (by omega) ex.o.sc ex.o.ck ex.o trivial trivial);(rw[J4] at ln);(unfold hG at ln);clear ca o7 rs rt))
       go_wp2_with fail;go_roundg (m0-1);case measure=>omega
       refine⟨k+1,_,by omega,by omega,by go_num,(be.o.aq es.o).aX i8.o fd.o,?_,(b2.o.trans (zy es.o)).trans fd.o⟩;rw[g5.o,c0.o];rfl
   have h1:k=c.nd.eqs.length:=(by omega);subst h1;rw[List.drop_length,List.flatMap_nil] at cn;clear ds;go_wp2_with fail;first|go_end0|refine bodyPost_ret (results_none rfl _ _ _) rfl ?_
   refine⟨rfl,?_,cs.o⟩;rw[cn.o];exact bt.o.rp
end
section
variable {L:List (Nat×Nat)} {b:Nat} {w w':Xw}
attribute [local go_sem ↓] Go.wp_at_zero Go.wp_at_succ
def dN (w:Xw)(b:Nat)(L:List (Nat×Nat)):Prop :=
 ∃l:List ((Int×Int)×Value),fb w b pr l/\(∀p:Nat×Nat,(db (eD p) l).isSome=true↔p∈L)/\(∀k v,db k l=some v->v=.agg #[])
theorem dN.gh (h:dN w b L)(e:w'.heap[b]?=w.heap[b]?):dN w' b L:=by obtain⟨l,a,c,d⟩:=h;exact⟨l,a.of e,c,d⟩
theorem dN.lt (h:dN w b L):b<w.heap.size:=by obtain⟨l,a,_⟩:=h;exact a.lt
theorem dN.aq (h:dN w b L)(a:xB w w'):dN w' b L:=h.gh (a.block _ h.lt)
theorem Kd {p q:Nat×Nat}(h:eD p=eD q):p=q:=by simp only[eD,Prod.mk.injEq] at h;exact Prod.ext (by omega) (by omega)
theorem KJ (h:dN w b L)(p:Nat×Nat) :
 ∃w',(Instr.mapUpdate 235 (.map (some b)) (.agg #[xI (p.1:Nat),xI (p.2:Nat)]) (.agg #[])).run prog w=.ok () w'/\dN w' b (L++[p])/\Fr (·=b) w w':=by
 obtain⟨l,c,d,g⟩:=h;obtain⟨w',r,m,f⟩:=pq Tryz.tg underlying235 c (eD p) (.agg #[]);refine⟨w',r,⟨_,m,λq=>?_,λk v a=>?_⟩,f⟩
 . rw[rJ,bj];by_cases e:eD p=eD q
   . rw[ag e];simp[Kd e]
   rw[ae e,d q];refine⟨ao,λh=>h.resolve_right (λh=>e ?_)⟩;rw[cu.1 h]
 rw[rJ] at a;split at a
 . exact (Option.some.inj a).symm
 exact g k v a
theorem Tryz.GS (w:Xw):(zeroValue 323).run prog w=.ok (.agg #[]) w:=by kernel_rfl
theorem KZ (h:dN w b L)(p:Nat×Nat) :
 (Instr.lookup 235 (.map (some b)) (.agg #[xI (p.1:Nat),xI (p.2:Nat)]) true).run prog w=.ok (.tuple #[.agg #[],.bool (decide (p∈L))]) w:=by
 obtain⟨l,d,e,f⟩:=h;refine (rN Tryz.tg underlying235 Tryz.GS d (eD p) true).trans ?_;rw[ag rfl];have a:(db (eD p) l).getD (.agg #[])=.agg #[]:=by
  cases g:db (eD p) l with
  | none=>rfl
  | some v=>exact f _ _ g
 have c:(db (eD p) l).isSome=decide (p∈L):=by rw[Bool.eq_iff_iff,e p];simp
 rw[a,c]
theorem rX (i j:Nat)(w:Xw)(h:dN w b L) :
 xK 183 #[.map (some b),xI (i:Int),xI (j:Int)] w (λe w'=>e=.returned (.tuple #[])/\dN w' b (L++[(i,j)])/\Fr (·=b) w w'):=by
 obtain⟨f,d,c,a⟩:=KJ h (i,j);simp only at d;go_enter func183,ntmps183;go_wp2_with fail;first|go_end0|refine bodyPost_ret (results_none rfl _ _ _) rfl ?_
 exact⟨rfl,c,a⟩
theorem pc (i j:Nat)(w:Xw)(h:dN w b L) :
 xK 122 #[.map (some b),xI (i:Int),xI (j:Int)] w (λe w'=>e=.returned (.bool (decide ((i,j)∈L)))/\xB w w'):=by
 have a:=KZ h (i,j);simp only at a;go_enter func122,ntmps122;go_wp2_with fail;go_ret;exact⟨rfl,zq w _⟩
theorem Hv (a c n m:Nat)(L:List (Nat×Nat)):iE a c n (m+1) L=iE a c n m (if (c,a)∈L/\(a,n-(m+1))∈L then L++[(c,n-(m+1))] else L):=rfl
theorem Hm (a n m:Nat)(L:List (Nat×Nat)):iD a n (m+1) L=iD a n m (iE a (n-(m+1)) n n L):=rfl
theorem Hu (n m:Nat)(L:List (Nat×Nat)):kK n (m+1) L=kK n m (iD (n-(m+1)) n n L):=rfl
theorem pu {a:Xw}(h:xB w a):Fr (·=b) w a:=Fr.dp h
theorem HY (n:Nat)(ar:n<=1000)(w:Xw)(V:dN w b L) :
 xK 121 #[.map (some b),xI (n:Int)] w (λe w'=>e=.returned (.tuple #[])/\dN w' b (jm n L)/\Fr (·=b) w w'):=by
 go_enter func121,ntmps121;go_wp2_with fail;go_loopg [8] (n+1) (λj i wr=>∃(k:Nat) (s:List (Nat×Nat)),k+j=n+1/\k<=n/\i=xI k/\aa (dN wr b s)/\aa (jm n L=kK n (j-1) s)/\aa (Fr (·=b) w wr));case atStart=>exact⟨0,L,by omega,aE _,rfl,V,rfl,Fr.refl _ _⟩
 case round =>
  obtain⟨k,s,Z,al,rfl,C,v,z⟩:=hrel;by_cases ak:k<n
  . obtain⟨a0,rfl⟩:∃M,M=wr:=⟨_,rfl⟩;obtain⟨E,rfl⟩:∃g,g=gk:=⟨_,rfl⟩;go_wp2_with fail;go_loopg [12] (n+1) (λj i wr=>∃(d:Nat) (r:List (Nat×Nat)),d+j=n+1/\d<=n/\i=xI d/\aa (dN wr b r)/\aa (iD k n n s=iD k n (j-1) r)/\aa (Fr (·=b) w wr));case atStart=>exact⟨0,s,by omega,aE _,rfl,C.o,rfl,z.o⟩
    case round =>
     obtain⟨d,r,O,X,rfl,D,x,A⟩:=hrel;by_cases Q:d<n
     . obtain⟨a2,rfl⟩:∃M,M=wr:=⟨_,rfl⟩;obtain⟨F,rfl⟩:∃g,g=gk:=⟨_,rfl⟩;go_wp2_with fail;go_loopg [16] (n+1) (λj i wr=>∃(f:Nat) (p:List (Nat×Nat)),f+j=n+1/\f<=n/\i=xI f/\aa (dN wr b p)/\aa (iE k d n n r=iE k d n (j-1) p)/\aa (Fr (·=b) w wr));case atStart=>exact⟨0,r,by omega,aE _,rfl,D.o,rfl,A.o⟩
       case round =>
        obtain⟨f,p,P,Y,rfl,h,y,q⟩:=hrel;by_cases R:f<n
        . obtain⟨m,rfl⟩:∃m,gk=m+1+1:=⟨gk-1-1,by omega⟩;have N:=y.o;rw[show m+1+1-1=m+1 from rfl,Hv,show n-(m+1)=f by omega] at N;have l:=za N;have B:=za (pc d k wr h.o);by_cases G:(d,k)∈p
          . rw[decide_eq_true G] at B;by_cases H:(k,f)∈p
            . rw[ag ⟨G,H⟩] at l;have u:=za (λW (K:xB wr W)=>pc k f W (h.o.aq K));rw[decide_eq_true H] at u
              go_wp2_with (first
               | (go_at_call 183;refine U.o.mono ?_;rintro e a3 ⟨rfl,J,I⟩)
               | (go_at_call 122;refine (u.o _ c).mono ?_;rintro e T ⟨rfl,t⟩;have o:=za (c.trans (t.mono c.size));have U:=za (rX d f T (h.o.aq o.o)))
               | (go_at_call 122;refine B.o.mono ?_;rintro e S ⟨rfl,c⟩))
              go_roundg (m+1);case measure=>omega
              exact⟨f+1,p++[(d,f)],by omega,by omega,by go_num,J,l.o,(q.o.trans (pu o.o)).trans I⟩
            rw[ae (λe=>H e.2)] at l;have u:=za (λW (K:xB wr W)=>pc k f W (h.o.aq K));rw[decide_eq_false H] at u
            go_wp2_with (first
             | (go_at_call 122;refine (u.o _ c).mono ?_;rintro e T ⟨rfl,t⟩;have o:=za (c.trans (t.mono c.size)))
             | (go_at_call 122;refine B.o.mono ?_;rintro e S ⟨rfl,c⟩))
            go_roundg (m+1);case measure=>omega
            exact⟨f+1,p,by omega,by omega,by go_num,h.o.aq o.o,l.o,q.o.trans (pu o.o)⟩
          rw[ae (λe=>G e.1)] at l;rw[decide_eq_false G] at B;go_wp2_with (go_at_call 122;refine B.o.mono ?_;rintro e S ⟨rfl,c⟩);go_roundg (m+1);case measure=>omega
          exact⟨f+1,p,by omega,by omega,by go_num,h.o.aq c,l.o,q.o.trans (pu c)⟩
        have:f=n:=by omega
        subst this;have:gk=1:=by omega
        subst this;have l:aa (iE k d f f r=p):=y.o;go_wp2_with fail;go_roundg (F-1);case measure=>omega
        refine⟨d+1,p,by omega,by omega,by go_num,h.o,?_,q.o⟩;have a:=x.o;rw[show F-1=(F-1-1)+1 by omega,Hm,show f-(F-1-1+1)=d by omega,l.o] at a;exact a
     have:d=n:=by omega
     subst this;have:gk=1:=by omega
     subst this;have l:aa (iD k d d s=r):=x.o;go_wp2_with fail;go_roundg (E-1);case measure=>omega
     refine⟨k+1,r,by omega,by omega,by go_num,D.o,?_,A.o⟩;have a:=v.o;rw[show E-1=(E-1-1)+1 by omega,Hu,show d-(E-1-1+1)=k by omega,l.o] at a;exact a
  have:k=n:=by omega
  subst this;have:gk=1:=by omega
  subst this;have l:aa (jm k L=s):=v.o;go_wp2_with fail;first|go_end0|refine bodyPost_ret (results_none rfl _ _ _) rfl ?_
  exact⟨rfl,by rw[l.o];exact C.o,z.o⟩
end
section
variable {L:List (Nat×Nat)} {N n i o d j:Nat} {c:Sc} {p q:Xv} {w g:Xw}
attribute [local go_sem ↓] Go.wp_at_zero Go.wp_at_succ
structure jC (N:Nat) (c:Sc) (p q:Xv) (i d n o j:Nat) (L:List (Nat×Nat)) (w:Xw):Prop where
 lk:dN w d L
 sc:br w N c p q
 x1:w.heap[n]?=some (.cells #[.map (some d)] 235 (0,0))
 x2:w.heap[o]?=some (.cells #[xI (i:Int)] 3 (0,0))
 x3:w.heap[j]?=some (.cells #[p,q] 202 (0,0))
 d1:¬n=d
 d2:¬o=d
 d3:¬j=d
 l:N<=d
 hN:N<=w.heap.size
theorem jC.aq (h:jC N c p q i d n o j L w)(a:xB w g):jC N c p q i d n o j L g :=
 ⟨h.lk.aq a,h.sc.am (zm a h.hN),(a.block _ (ze h.x1)).trans h.x1,(a.block _ (ze h.x2)).trans h.x2,(a.block _ (ze h.x3)).trans h.x3,h.d1,h.d2,h.d3,h.l,aJ h.hN a.size⟩
theorem jC.put {b:List (Nat×Nat)}(h:jC N c p q i d n o j L w)(f:dN g d b)(a:Fr (·=d) w g):jC N c p q i d n o j b g :=
 ⟨f,h.sc.am (a.am h.hN (λ_ e=>e▸h.l)),(a.block _ (ze h.x1) h.d1).trans h.x1,(a.block _ (ze h.x2) h.d2).trans h.x2,(a.block _ (ze h.x3) h.d3).trans h.x3,h.d1,h.d2,h.d3,h.l,aJ h.hN a.size⟩
theorem rM {m:Nat}{W:Xw}{b:Nat}{v:Xv}(h:Fr (·=m) w W)(e:w.cell? (xD b i)=some v)(f:¬b=m):W.cell? (xD b i)=some v:=by
 have a:b<w.heap.size:=by
  rcases Nat.lt_or_ge b w.heap.size with h|h
  . exact h
  simp[World.cell?,Array.getElem?_eq_none h] at e
 exact (World.cell?_of_block (w:=w) (h.block b a f)).trans e
theorem KA:zH 184:=λ_ _=>by kernel_rfl
theorem Jd (N:Nat)(c:Sc)(p q:Xv)(i d n o j:Nat)(G:N<=d) :
 p4 N (·=d) 184 #[xP n,xP o,xP j] (λ_ _=>True) gH (λL t=>L++j0 c i t) (jC N c p q i d n o j) where
 enters:=KA
 hT:=λk e=>e▸G
 aq:=λs w g h K=>h.aq K
 sub:=λ_ _ _ _ _ _=>trivial
 call:=by
  intro t v L w hT M f _;obtain⟨V,D,T,rfl,rfl,P⟩:=f.sc.shape;have m:=za (rq w hT);obtain⟨b,H,vs,rfl,O,z,_⟩:=hT.ptr;obtain⟨I,m1,m2,m3,m4,m5,al,S⟩:=zt z;obtain⟨W,X,Y⟩:=zu f.x1;obtain⟨Z,Q,ak⟩:=zu f.x2;obtain⟨a0,s1,a2,a3⟩:=zp f.x3;have d1:=f.d1;have d2:=f.d2;have d3:=f.d3;have F:¬b=d:=by omega
  have B:=za (hW t.s (t.nm:Int) w.drew (f.sc.am (λ_ _=>rfl)) M)
  show Calls prog _ #[xP b,xP n,xP o,xP j] w _;cases a:ch t.k with
  | true =>
    have y:¬t.k=9:=(by intro e;rw[e] at a;cases a);have A:aa (j0 c i t=[(i,c.idx t.s)]):=(by unfold aa j0;rw[ag a]);have x:aa (gH t=true):=(by unfold aa gH;simp[y]);rw[a] at m;have u:¬(t.k:Int)=9:=(by omega);go_enter func184,ntmps184;go_upto_region 2 with (go_at_call 106;refine m.o.mono ?_;rintro e g ⟨rfl,rfl⟩)
    go_region_held3 (λg=>g.cell? (xD n 0)=some (.map (some d))/\g.cell? (xD o 0)=some (xI (i:Int))/\g.cell? (xD j 0)=some (xE V c D)/\g.cell? (xD j 1)=some (xP T)/\g.cell? (xD b 2)=some (.string t.s)/\g.cell? (xD b 3)=some (xI t.nm))
     (first|(with_reducible (refine⟨?_,?_,?_,?_,?_,?_⟩ <;> repeat (first|assumption|refine zg ?_|refine rM r ?_ (by omega)|refine zd l.o ?_ (by omega))))|go_keep)
     (first
       | (go_at_call 183;refine J.o.mono ?_;rintro e a4 ⟨rfl,C,r⟩;have ar:=rM r (zd l.o I S) F)
       | (go_at_call 103;refine B.o.mono ?_;rintro e U ⟨rfl,E⟩;have l:=za (zw E);have J:=za (rX i (c.idx t.s) U (f.lk.aq l.o))))
    go_wp2_with fail;go_ret;rw[A.o,x.o];exact⟨by simp[u],(f.aq l.o).put C r,(pu l.o).trans r⟩
  | false =>
    have A:aa (j0 c i t=[]):=(by unfold aa j0;rw[a];rfl);rw[a] at m;by_cases y:t.k=9
    . have x:aa (gH t=false):=(by unfold aa gH;simp[y]);have R:w.cell? (xD b 0)=some (xI 9):=(by rw[I,y];rfl);go_enter func184,ntmps184;go_wp2_with (go_at_call 106;refine m.o.mono ?_;rintro e g ⟨rfl,rfl⟩);go_ret;rw[A.o,x.o,List.append_nil];exact⟨rfl,f,Fr.refl _ _⟩
    have x:aa (gH t=true):=(by unfold aa gH;simp[y]);have u:¬(t.k:Int)=9:=(by omega);go_enter func184,ntmps184;go_wp2_with (go_at_call 106;refine m.o.mono ?_;rintro e g ⟨rfl,rfl⟩);go_ret;rw[A.o,x.o,List.append_nil];exact⟨by simp[u],f,Fr.refl _ _⟩
theorem xO {α β:Type}(f:α->List β):∀(l:List α) (L:List β),l.foldl (λL t=>L++f t) L=L++l.flatMap f:=by
 intro l;induction l with
 | nil=>intro L;simp
 | cons a l b=>intro L;rw[List.foldl_cons,b,List.flatMap_cons,bw]
end
end Go.Proofs.YtmfkofhgdjechaaGreatDoor
