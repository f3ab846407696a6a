/- Part 32 of the proof. -/
import Derived.Test.YtbicmofihhjgbaaGreatDoorK12
set_option maxRecDepth 100000
set_option maxHeartbeats 8000000
namespace Go.Proofs.YtbicmofihhjgbaaGreatDoor
open Go.Proofs.Tryz
open Go.RowKit
section
variable {c:Cd} {D l u:List Int} {R:Ms} {N q d r E k b:Nat} {i:Nat×Int} {a:Xp} {z A C f y:Xv} {w w' wr:Xw}
attribute [local go_sem ↓] Go.wp_at_zero Go.wp_at_succ
def Q6:ByteArray:=⟨#[115,116,101,112]⟩
theorem YJ (S:Xs)(N b r:Nat)(m n o z A C:Xv)(c:Cd)(w:Xw)(v:Xv)(g:Nat)(l:List Int)(t:Gl S w)(x:xH w b #[xP r,m,n,o] 138)(h:CB w N r z A C c)(B:Nm w v g l)(F:(Nk c.dn l).isSome=true) :
 xK 33 #[xP b,v] w (λe w'=>∃p:Int,e=.returned (.tuple #[.slice none 0 0,ew Q6 (.iface 71 (.agg #[aW S 11,xI p]))])/\xB w w'):=by
 have j:=S9 S N b r m n o z A C c w v g l t x h B;rw[F] at j;go_enter func33,ntmps33;go_wp2_with (first|(go_at_call 58;refine j.mono ?_;rintro e G ⟨⟨p,rfl⟩,s⟩)|(go_at_call 41;refine (rm _ _ _ _).mono ?_;rintro e H ⟨rfl,rfl⟩));exact bodyPost_ret (v:=.tuple #[.slice none 0 0,ew Q6 (.iface 71 (.agg #[aW S 11,xI p]))]) (by simp[results,results33,go_sem,Q6]) rfl ⟨p,rfl,s⟩
theorem VQ (S:Xs)(N b r:Nat)(m n o z A C:Xv)(c:Cd)(w:Xw)(v:Xv)(g:Nat)(l:List Int)(s:Gl S w)(t:xH w b #[xP r,m,n,o] 138)(h:CB w N r z A C c)(x:Nm w v g l)(B:Nk c.dn l=none) :
 xK 58 #[xP b,v] w (λe w'=>e=.returned .nilIface/\xB w w'):=by
 refine (S9 S N b r m n o z A C c w v g l s t h x).mono ?_;rintro e w' ⟨j,p⟩;refine⟨?_,p⟩;rw[B] at j;unfold QX at j;simpa using j
theorem Tryz.VE (w:Xw):(zeroValue 2).run prog w=.ok (xI 0) w:=by kernel_rfl
theorem Wx (e:u.length=c.al):zK l++(List.replicate u.length (xI 0)).drop (zK l).length=zK (Oa c.al l):=by unfold Oa zK;rw[List.map_append,e];simp[List.drop_replicate]
theorem XT {p o:Nat}:∀(l:List (Nat×Int)) (h m k:Nat) (i:Nat×Int),Mt p o h l=some m->l[k]?=some i->∃g H,Mt p o h (l.take k)=some g/\Nl p o g i=some H/\g<=h+k:=by
 intro l;induction l with
 | nil=>intro h m k i _ j;simp at j
 | cons a l K =>
   intro h m k i n j;unfold Mt at n;split at n
   . cases n
   rename_i g e
   cases k with
   | zero => simp at j;subst j;exact⟨h,g,rfl,e,by omega⟩
   | succ k =>
     simp at j;obtain⟨x,B,F,G,L⟩:=K g m k i n j;refine⟨x,B,?_,G,?_⟩
     . rw[cI];unfold Mt;rw[e];exact F
     have:g<=h+1:=by
      unfold Nl at e;split at e
      . cases e
      rename_i s v
      split at e
      . cases e;have:s.2.2<=1:=by have I:=PM v;have J:s∈zY:=aM v;have:∀t∈zY,t.2.2<=1:=(by decide);exact this s J
        omega
      cases e
     omega
theorem WA {m:Ms}{l:List (Nat×Int)}(h:l[k]?=some i):Oc m (l.take (k+1))=Oh (Oc m (l.take k)) i:=by obtain⟨e,g⟩:=aB.1 h;rw[List.take_succ_eq_append_getElem e,g];unfold Oc;rw[bc];rfl
theorem fV.Pf {T:Xj}(h:Fr T w w')(g:∀k,T k->k=b∨k=q∨k=d):fV b q d w f w' f :=
 ⟨h.mono (λk _ e=>by rcases g k e with e|e|e;exact ao e;exact ap (ao e);exact ap (ap (ao e))),λ_ e=>ao e⟩
theorem fV.am (h:fV b q d w f w' y)(g:N<=w.heap.size)(m:N<=b)(n:N<=q)(o:N<=d)(j:∀k,f.ownBlock=some k->N<=k):bV N w w' :=
 h.fr.am g (λk e=>by rcases e with e|e|e|e;omega;omega;omega;exact j k e)
theorem Ww {B n:Nat}{e:Xy}{l:List (Nat×Int)}(h:w.ownsRow B e 2 (.slice a n E) n (MU l))(p:l[k]?=some i):∃g,a=some (xD g 0)/\xC w g (k*2) (.int .u8 i.1)/\xC w g (k*2+1) (xI i.2):=by
 have H:l.length=n:=by have:=h.1;rw[SP] at this;omega
 have F:=(aB.1 p).1;obtain⟨g,s,G,_⟩:=zM h (by omega);cases G;obtain⟨v,x⟩:=Ta l k i p;have m:=h.cells (g:=g) rfl _ _ v;have o:=h.cells (g:=g) rfl _ _ x;have t:∀j,((xD g 0):Addr).add j=⟨g,j,none⟩:=λj=>by cases j <;> simp[Addr.add]
 rw[t] at m o;exact⟨g,rfl,m,o⟩
theorem Xi {F:Xw}{g:Nat}(H:xB w F)(h:Mc w N b r q d z A C f c D u [])(aV:Nm w (.slice a l.length E) g l)(S:l≠[]->g≠d)(a0:l.length=c.dn.length) :
 ∃m G,(Builtin.clear_ #[32] 0 #[xS d u.length u.length]).run prog F=.ok (.tuple #[]) m /\
  (Builtin.copy_ #[32,32] 3 #[xS d u.length u.length,.slice a l.length E]).run prog m=.ok (goInt l.length) G /\
  F.cell? (xD b 2)=some (xS d u.length u.length)/\m.cell? (xD b 2)=some (xS d u.length u.length) /\
  Mc G N b r q d z A C f c D (Oa c.al l) []/\fV b q d w f G f:=by
 have hz:=h.mem.lt;have s:=h.mem.fr (λk aL=>H.block k aL) H.size;obtain⟨m,n,B,t⟩:=VO (P:=prog) F 32 2 0 (xI 0) underlying32 Tryz.VE rfl rfl d u.length (zK u) 2 s.sl;rw[N8] at n B;have I:=s.slots' (slots':=List.replicate u.length 0) (by simp) (by simpa [zK] using B) t;have a3:=h.code.NF;have W:=h.ls;obtain⟨a',ab,hv,aA,a1,U⟩:=aV.ex;cases hv;have O:0<(zK l).length->∃X,a=some X/\∀j v,(zK l)[j]?=some v->m.cell? (X.add j)=some v:=by
  intro a2;have M:l≠[]:=by intro e;subst e;simp[zK] at a2
  obtain⟨o,e1,ar⟩:=U M;refine⟨_,e1,λj v V=>?_⟩;have e0:((xD g o):Addr).add j=⟨g,o+j,none⟩:=by cases j <;> simp[Addr.add]
  rw[e0];unfold zK at V;rw[List.getElem?_map] at V;obtain⟨x,hx,rfl⟩:=Option.map_eq_some_iff.1 V;have Z:=ar j x hx;have L:g<w.heap.size:=World.block_lt_of_cell? w (xD g (o+j)) Z;exact (World.cell?_of_block (w:=F) (t.block g (dD L H.size) (S M))).trans ((World.cell?_of_block (w:=w) (H.block g L)).trans Z)
 obtain⟨G,p,K,J⟩:=Rx (P:=prog) m 32 32 3 2 d u.length u.length a l.length E (List.replicate u.length (xI 0)) 2 (zK l) underlying32 Tryz.Rf B (by rw[N8];exact (Nat.min_eq_left (by omega)).symm) O (by rw[N8];simp;omega) Pk;rw[N8] at p;rw[Wx W] at K;have Q:=I.slots' (slots':=Oa c.al l) (by unfold Oa;simp;omega) K J;have hF:fV b q d w f G f:=by have f1:fV b q d w f F f:=fV.Pf (T:=λ_=>False) (Fr.Mo H) (λ_ e=>e.elim);have f2:fV b q d F f m f:=fV.Pf t (λ_ e=>ap (ap e));have f3:fV b q d m f G f:=fV.Pf J (λ_ e=>ap (ap e));exact (f1.trans f2).trans f3
 have Y:=(zU I.aC).2.2.1;rw[List.length_replicate] at Y;refine⟨m,G,n,p,(zU s.aC).2.2.1,Y,⟨h.code.am (hF.am h.mem.hB h.n0 h.n1 h.n2 (λk e=>(h.mem.own.lt k e).1)),Q,h.n0,h.n1,h.n2,h.lc,by unfold Oa;simp;omega⟩,hF⟩
theorem Tr (e:R.al.length=c.al)(g:c.dn.length+c.aG<=c.al):(M5 c R).length=c.aG:=by unfold M5;simp;omega
theorem WE (h:MB wr b r q d N f R.cells R.al [])(s:R.al.length=c.al)(O:c.dn.length+c.aG<=c.al)(o:Xp)(G K:Nat)(F:0<c.aG->o=some (xD d c.dn.length))(B:G=c.al-c.dn.length) :
 ∃m,(Builtin.copy_ #[32,32] 3 #[xS wr.heap.size c.aG c.aG,.slice o G K]).run prog (wr.alloc (.cells (M7 c.aG) 2)).drew=.ok (goInt c.aG) m /\
  m.heap[wr.heap.size]?=some (.cells (zK (M5 c R)).toArray 2 (0,0))/\Fr (·=wr.heap.size) (wr.alloc (.cells (M7 c.aG) 2)) m:=by
 have n:=Tr s O;have e:0<(zK (M5 c R)).length->∃H,o=some H/\∀j v,(zK (M5 c R))[j]?=some v->(wr.alloc (.cells (M7 c.aG) 2)).drew.cell? (H.add j)=some v:=by
  intro J;rw[N8,n] at J;refine⟨_,F J,λj v t=>?_⟩;have L:((xD d c.dn.length):Addr).add j=⟨d,c.dn.length+j,none⟩:=by cases j <;> simp[Addr.add]
  rw[L];unfold zK at t;rw[List.getElem?_map] at t;obtain⟨x,g,rfl⟩:=Option.map_eq_some_iff.1 t;refine zg (zj _ (OG h.sl (k:=c.dn.length+j) (v:=x) ?_));unfold M5 at g;rw[List.getElem?_take] at g;split at g
  . rwa [List.getElem?_drop] at g
  cases g
 obtain⟨m,I,p,M⟩:=Rx (P:=prog) (wr.alloc (.cells (M7 c.aG) 2)).drew 32 32 3 2 wr.heap.size c.aG c.aG o G K (zK (List.replicate c.aG 0)) 2 (zK (M5 c R)) underlying32 Tryz.Rf (zc wr _) (by rw[N8,n,B];exact (Nat.min_eq_right (by omega)).symm) e (by rw[N8,n,N8];simp) Pk;rw[N8,n] at I p;rw[List.drop_eq_nil_of_le (by rw[N8];simp),List.append_nil] at p;exact⟨m,I,p,M.cQ⟩
theorem S3 {G j:Xw}(h:Mc w N b r q d z A C f c D u [])(p:fV b q d w f G f)(s:fV b q d G f wr y)(v:MB wr b r q d N y R.cells R.al [])(H:CB wr N r z A C c)(x:R.cells.length=c.cells.length)(B:R.al.length=c.al)
 (t:j.heap[wr.heap.size]?=some (.cells (zK (M5 c R)).toArray 2 (0,0))) (g:Fr (·=wr.heap.size) (wr.alloc (.cells (M7 c.aG) 2)) j) :
 ∃o y,Ending.returned (.tuple #[xS wr.heap.size c.aG c.aG,.nilIface])=.returned (.tuple #[xS o c.aG c.aG,.nilIface])/\w.heap.size<=o/\j.heap[o]?=some (.cells (zK (M5 c R)).toArray 2 (0,0))/\(∀k,y.ownBlock=some k->k≠o)/\Mc j N b r q d z A C y c R.cells R.al []/\fV b q d w f j y:=by
 have m:∀k,k<wr.heap.size->j.heap[k]?=wr.heap[k]?:=λk m=>(g.block k (by rw[au];omega) (by omega)).trans (Below.heap_alloc _ _ _ m);have F:wr.heap.size<=j.heap.size:=by have:=g.size;rw[au] at this;omega
 have hF:fV b q d w f wr y:=p.trans s;refine⟨wr.heap.size,y,rfl,hF.fr.size,t,λk e=>?_,⟨H.am (λk n=>m k (by have:=v.hB;omega)),v.fr m F,h.n0,h.n1,h.n2,x,B⟩,?_⟩
 . have:=(v.own.lt k e).2;omega
 refine hF.trans ⟨⟨g.os,g.tape,g.output,F,λk n _=>m k n⟩,λ_ e=>ao e⟩
theorem VX (S:Xs)(N b r q d:Nat)(z A C f:Xv)(c:Cd)(D u:List Int)(w:Xw)(v:Xv)(g:Nat)(l:List Int)(cm:Gl S w)(h:Mc w N b r q d z A C f c D u [])(bs:Nm w v g l)(a9:l≠[]->g≠d)(bl:Nk c.dn l=none)(K:Mt c.al c.cells.length 0 c.row=some 0) :
 xK 33 #[xP b,v] w (λe w'=>∃ob y,e=.returned (.tuple #[xS ob c.aG c.aG,.nilIface])/\w.heap.size<=ob/\w'.heap[ob]?=some (.cells (zK (M5 c (M1 c D l))).toArray 2 (0,0))/\(∀k,y.ownBlock=some k->k≠ob)/\Mc w' N b r q d z A C y c (M1 c D l).cells (M1 c D l).al []/\fV b q d w f w' y):=by
 have ch:=za (VQ S N b r _ _ _ z A C c w v g l cm h.mem.aC h.code bs bl);have be:l.length=c.dn.length:=by
  unfold Nk at bl;split at bl
  . assumption
  cases bl
 obtain⟨h0,h1,h2,h3,hf,hz⟩:=zU h.mem.aC;obtain⟨c1,c2,c3,c4⟩:=h.mem.lt;obtain⟨xr,cA,rfl⟩:=zB h.code.zA;obtain⟨a,E,rfl,cE,b3,bY⟩:=bs.ex;unfold maxLen at b3;have bk:=h.ls;have bb:=h.lc;have b4:=h.code.NF;have cR:=h.code.NW;have c0:=h.code.PC;have H:=za h;have co:=za bs;have bB:=za a9;have J:=za K;have cB:=h.mem.hB;have n0:=h.n0;have n1:=h.n1;have n2:=h.n2;have bC:=za be;have cz:=za bk;have ct:=za bb;have dp:c.dn.length+c.aG<=u.length:=by omega
 have q2:u.length<=255:=by omega
 have q3:l.length<=u.length:=by omega
 clear h bs bl cm bY a9 K be bk bb;go_enter func33,ntmps33;go_wp2_with (go_at_call 58;refine ch.o.mono ?_;rintro e w1 ⟨rfl,hB⟩;obtain⟨w2,w3,a4,a6,bE,bK,I,aV⟩:=Xi hB H.o co.o bB.o bC.o;obtain⟨p0,dc,di,p3,dk,dl⟩:=zU I.mem.aC;obtain⟨d0,d1,d2,d3,d4,d5,c6,dz⟩:=zt I.code.aC;have n:=za I;have W:=za aV;clear hB I aV);obtain⟨s,t⟩:∃s:Ms,s=⟨D,Oa c.al l,[]⟩:=⟨_,rfl⟩;have a2:MB w3 b r q d N f s.cells s.al s.st:=by rw[t];exact n.o.mem
 have Y:=za a2;have ck:aa (M1 c D l=Oc s c.row):=by rw[t];exact rfl
 have bg:s.cells.length=c.cells.length:=by rw[t];exact n.o.lc
 have bo:s.al.length=c.al:=by rw[t];exact n.o.ls
 have bp:s.st.length=0:=by rw[t];rfl
 have ar:=za bg;have aA:=za bo;have aL:=za bp;clear a2 t bg bo bp ch a4 a6 bE bK;go_loopg [35] (c.row.length+1) (λj i wr=>∃(k:Nat) (y:Xv),i=xI k/\k+j=c.row.length+1/\k<=c.row.length/\aa (MB wr b r q d N y (Oc s (c.row.take k)).cells (Oc s (c.row.take k)).al (Oc s (c.row.take k)).st)/\aa (fV b q d w3 f wr y));case atStart=>exact⟨0,f,rfl,by omega,by omega,Y.o,fV.refl _ _ _ _ _⟩
 case round =>
  obtain⟨k,y,rfl,cK,cO,m,F⟩:=hrel;have hO:bV N w3 wr:=F.o.am n.o.mem.hB n0 n1 n2 (λk e=>(n.o.mem.own.lt k e).1);have V:=n.o.code.am hO;have bq:=za V;clear hO;by_cases b0:k<c.row.length
  . obtain⟨i,hi⟩:∃i,c.row[k]?=some i:=⟨_,av b0⟩;obtain⟨c9,rfl,ca,cd⟩:=Ww V.zA hi;obtain⟨f1,f2,e1,cl,e3⟩:=XT c.row 0 0 k i J.o hi;obtain⟨P,Q,T⟩:=Q1 _ _ _ s e1 aL.o;have hD:=λo=>X7 b r q d N y (Oc s (c.row.take k)) i f1 f2 (wr.alloc o) (m.o.alloc o) (by rw[Q,T,ar.o,aA.o];exact cl) P (by omega);rw[<- WA hi] at hD;have cg:=za hD;clear hi e1 cl P Q T hD V;obtain⟨op,x⟩:=i;simp only at ca cd cg;go_wp2_with (go_at_call 59;refine (cg.o _).mono ?_;rintro e w4 ⟨rfl,ce,a1,a0⟩;have bx:=za a1;have bt:=za (F.o.trans a0.Oi);clear a1 a0);go_roundg (gk-1);case measure=>omega
    exact⟨k+1,ce,by go_num,by omega,by omega,bx.o,bt.o⟩
  have ek:k=c.row.length:=by omega
  subst ek;rw[List.take_length,<- ck.o] at m;obtain⟨P,Q,T⟩:=Q1 _ _ _ s J.o aL.o;rw[<- ck.o] at P Q T;obtain⟨R,hR⟩:∃R,M1 c D l=R:=⟨_,rfl⟩;rw[hR] at m P Q T;have es:R.st=[]:=List.eq_nil_of_length_eq_zero P;rw[es] at m;have a3:R.cells.length=c.cells.length:=Q.trans ar.o;have U:R.al.length=c.al:=T.trans aA.o;have Z:=za hR;obtain⟨t0,t1,t2,t3,dq,tz⟩:=zU m.o.aC;obtain⟨_,_,c5,_⟩:=m.o.lt;rw[U] at t2;have bA:=za (S5 b r N _ _ _ z A _ c wr m.o.aC V);have X:=za (λo=>Qc b r N _ _ _ z A _ c (wr.alloc o).drew (m.o.alloc o).aC (V.am (λk da=>Below.heap_alloc _ _ _ (by have:=m.o.hB;omega))));have mk:=Qj c.aG c.aG (by omega) (by omega);have ab:=za a3;have O:=za U;have i1:(0:Int)<=(c.dn.length:Int):=by omega
  have i2:(c.dn.length:Int)<=(c.al:Int):=by omega
  clear V hR es P Q T a3 U n Y;go_upto_region 12 with (go_at_call 35;refine bA.o.mono ?_;rintro e w5 ⟨rfl,rfl⟩);have u2:=zj (.cells (M7 c.aG) 2) t2;have cs:=za (m.o.alloc (.cells (M7 c.aG) 2));have G:=za (WE (c:=c) m.o O.o b4);by_cases cn:c.dn.length<c.al
  . obtain⟨w7,a5,B,p⟩:=G.o (some (xD d c.dn.length)) (c.al-c.dn.length) (c.al-c.dn.length) (λ_=>rfl) rfl;have bL:=bq.o.h0;have i3:(c.dn.length:Int)<(c.al:Int):=by omega
    have i4:¬((c.dn.length:Int)=(c.al:Int)):=(by omega);have i5:¬(c.dn.length=c.al):=(by omega);have v2:w7.cell? (xD b 2)=some (xS d c.al c.al):=(World.cell?_of_block (w:=wr.alloc (.cells (M7 c.aG) 2)) (p.block b (by rw[au];omega) (by omega))).trans u2;have M:=za B;have L:=za p;clear B p G
    go_region_held3 (λw'=>w'.cell? (xD b 2)=some (xS d c.al c.al)) (first|with_reducible exact zg u2|with_reducible exact v2|go_keep)
     (first
       | (go_at_call 32;refine (X.o _).mono ?_;rintro e w6 ⟨rfl,rfl⟩))
    all_goals go_wp2_with fail
    all_goals
     refine bodyPost_ret (v:=.tuple #[xS wr.heap.size c.aG c.aG,.nilIface]) (by simp[results,results33,go_sem]) rfl ?_;rw[Z.o];exact S3 H.o W.o F.o m.o bq.o ab.o O.o M.o L.o
  obtain⟨w7,a5,B,p⟩:=G.o (some (xD d 0)) 0 0 (λh=>by omega) (by omega);have bL:=bq.o.h0;have i3:(c.dn.length:Int)=(c.al:Int):=by omega
  have i5:c.dn.length=c.al:=by omega
  have v2:w7.cell? (xD b 2)=some (xS d c.al c.al):=(World.cell?_of_block (w:=wr.alloc (.cells (M7 c.aG) 2)) (p.block b (by rw[au];omega) (by omega))).trans u2;have M:=za B;have L:=za p;clear B p G
  go_region_held3 (λw'=>w'.cell? (xD b 2)=some (xS d c.al c.al)) (first|with_reducible exact zg u2|with_reducible exact v2|go_keep)
   (first
     | (go_at_call 32;refine (X.o _).mono ?_;rintro e w6 ⟨rfl,rfl⟩))
  all_goals go_wp2_with fail
  all_goals
   refine bodyPost_ret (v:=.tuple #[xS wr.heap.size c.aG c.aG,.nilIface]) (by simp[results,results33,go_sem]) rfl ?_;rw[Z.o];exact S3 H.o W.o F.o m.o bq.o ab.o O.o M.o L.o
end
end Go.Proofs.YtbicmofihhjgbaaGreatDoor
