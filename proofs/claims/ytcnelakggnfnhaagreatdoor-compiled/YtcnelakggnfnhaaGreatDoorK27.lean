/- Part 28. -/
import Derived.Test.YtcnelakggnfnhaaGreatDoorK26
set_option maxRecDepth 100000
set_option maxHeartbeats 8000000
namespace Go.Proofs.YtcnelakggnfnhaaGreatDoor
open Go.Proofs.Tryz
section
open Go.RowKit
variable {c:Cd} {E l r:List Int} {R:Ms} {N q d y F k f:Nat} {i:Nat×Int} {a:Xp} {C A D p z:Xv} {w w' wr:Xw}
attribute [local go_sem ↓] Go.wp_at_zero Go.wp_at_succ
theorem VQ (N f y:Nat)(H I J C A D:Xv)(c:Cd)(w:Xw)(v:Xv)(g:Nat)(l:List Int)(o:xH w f #[xP y,H,I,J] 196)(h:CB w N y C A D c)(L:Nm w v g l)(T:l.length=c.dn.length)(m:∀b∈c.dn,b=false) :
 xK 91 #[xP f,v] w (λe w'=>e=.returned .nilIface/\xB w w'):=by
 obtain⟨V,W,X,Y,Z,hz⟩:=zU o;obtain⟨k0,aA,aL,aV,k4,a0,kf,kz⟩:=zt h.aC;obtain⟨x,P,rfl⟩:=zB h.xv;obtain⟨a,F,rfl,t,G,_⟩:=L.ex;unfold maxLen at G;have Q:=h.NW;have K:=h.NF;have M:=za (Qc f y N H I J _ A D c w o h);have O:=za h.xv;have n:=za m;rw[T] at t ⊢;clear L o h m;go_enter func91,ntmps91;go_wp2_with (go_at_call 94;refine M.o.mono ?_;rintro e w1 ⟨rfl,rfl⟩);go_loop [28] (λi=>∃k:Nat,k<=c.dn.length/\i=xI k) (λi=>c.dn.length-(intOf i).toNat)
 case atStart=>exact⟨0,aE _,rfl⟩
 case round =>
  obtain⟨k,ar,rfl⟩:=hrel;by_cases B:k<c.dn.length
  . obtain⟨b,j⟩:∃b,c.dn[k]?=some b:=⟨_,av B⟩;have s:=n.o b (aM j);subst s;obtain⟨U,rfl,S⟩:=nB O.o (k:=k) (u:=.bool false) (by simp[j]);clear j;go_wp2_with fail;go_round
    case rel=>exact⟨k+1,by omega,by go_num⟩
    case measure=>simp[intOf];omega
  go_wp2_with fail;go_ret;exact⟨rfl,yS _ _⟩
theorem Tryz.VE (w:Xw):(zeroValue 2).run prog w=.ok (xI 0) w:=by kernel_rfl
theorem Wx (b:r.length=c.al):zK l++(List.replicate r.length (xI 0)).drop (zK l).length=zK (Oa c.al l):=by unfold Oa zK;rw[List.map_append,b];simp[List.drop_replicate]
theorem XT {o n:Nat}:∀(l:List (Nat×Int)) (h j k:Nat) (i:Nat×Int),Mt o n h l=some j->l[k]?=some i->∃e H,Mt o n h (l.take k)=some e/\Nl o n e i=some H/\e<=h+k:=by
 intro l;induction l with
 | nil=>intro h j k i _ g;simp at g
 | cons a l K =>
   intro h j k i m g;unfold Mt at m;split at m
   . cases m
   rename_i e b
   cases k with
   | zero => simp at g;subst g;exact⟨h,e,rfl,b,by omega⟩
   | succ k =>
     simp at g;obtain⟨v,x,B,G,L⟩:=K e j k i m g;refine⟨v,x,?_,G,?_⟩
     . rw[cI];unfold Mt;rw[b];exact B
     have:e<=h+1:=by
      unfold Nl at b;split at b
      . cases b
      rename_i s u
      split at b
      . cases b;have:s.2.2<=1:=by have I:=PM u;have J:s∈zY:=aM u;have:∀t∈zY,t.2.2<=1:=(by decide);exact this s J
        omega
      cases b
     omega
theorem WA {m:Ms}{l:List (Nat×Int)}(g:l[k]?=some i):Oc m (l.take (k+1))=Oh (Oc m (l.take k)) i:=by obtain⟨b,e⟩:=aB.1 g;rw[List.take_succ_eq_append_getElem b,e];unfold Oc;rw[bc];rfl
theorem fV.Pf {T:Xj}(h:Fr T w w')(b:∀k,T k->k=f∨k=q∨k=d):fV f q d w p w' p :=
 ⟨h.mono (λk _ e=>by rcases b k e with e|e|e;exact ao e;exact ap (ao e);exact ap (ap (ao e))),λ_ e=>ao e⟩
theorem fV.am (h:fV f q d w p w' z)(b:N<=w.heap.size)(j:N<=f)(m:N<=q)(n:N<=d)(g:∀k,p.ownBlock=some k->N<=k):bV N w w' :=
 h.fr.am b (λk e=>by rcases e with e|e|e|e;omega;omega;omega;exact g k e)
theorem Ww {B n:Nat}{e:Xy}{l:List (Nat×Int)}(h:w.ownsRow B e 2 (.slice a n F) n (MU l))(o:l[k]?=some i):∃g,a=some (xD g 0)/\xC w g (k*2) (.int .u8 i.1)/\xC w g (k*2+1) (xI i.2):=by
 have H:l.length=n:=by have:=h.1;rw[SP] at this;omega
 have x:=(aB.1 o).1;obtain⟨g,s,G,_⟩:=zM h (by omega);cases G;obtain⟨u,v⟩:=Ta l k i o;have b:=h.cells (g:=g) rfl _ _ u;have m:=h.cells (g:=g) rfl _ _ v;have t:∀j,((xD g 0):Addr).add j=⟨g,j,none⟩:=λj=>by cases j <;> simp[Addr.add]
 rw[t] at b m;exact⟨g,rfl,b,m⟩
theorem Xi {B:Xw}{g:Nat}(H:xB w B)(h:Mc w N f y q d C A D p c E r [])(a0:Nm w (.slice a l.length F) g l)(S:l≠[]->g≠d)(a1:l.length=c.dn.length) :
 ∃b G,(Builtin.clear_ #[36] 0 #[xS d r.length r.length]).run prog B=.ok (.tuple #[]) b /\
  (Builtin.copy_ #[36,36] 3 #[xS d r.length r.length,.slice a l.length F]).run prog b=.ok (goInt l.length) G /\
  B.cell? (xD f 2)=some (xS d r.length r.length)/\b.cell? (xD f 2)=some (xS d r.length r.length) /\
  Mc G N f y q d C A D p c E (Oa c.al l) []/\fV f q d w p G p:=by
 have hz:=h.mem.lt;have s:=h.mem.fr (λk aV=>H.block k aV) H.size;obtain⟨b,m,u,t⟩:=VO (P:=prog) B 36 2 0 (xI 0) underlying36 Tryz.VE rfl rfl d r.length (zK r) 2 s.sl;rw[N8] at m u;have I:=s.slots' (slots':=List.replicate r.length 0) (by simp) (by simpa [zK] using u) t;have a4:=h.code.NF;have W:=h.ls;obtain⟨a',ar,hv,aL,a2,U⟩:=a0.ex;cases hv;have O:0<(zK l).length->∃X,a=some X/\∀j v,(zK l)[j]?=some v->b.cell? (X.add j)=some v:=by
  intro a3;have M:l≠[]:=by intro e;subst e;simp[zK] at a3
  obtain⟨o,e1,aA⟩:=U M;refine⟨_,e1,λj v V=>?_⟩;have e0:((xD g o):Addr).add j=⟨g,o+j,none⟩:=by cases j <;> simp[Addr.add]
  rw[e0];unfold zK at V;rw[List.getElem?_map] at V;obtain⟨x,hx,rfl⟩:=Option.map_eq_some_iff.1 V;have Z:=aA j x hx;have L:g<w.heap.size:=World.block_lt_of_cell? w (xD g (o+j)) Z;exact (Z6 (w:=B) (t.block g (dD L H.size) (S M))).trans ((Z6 (w:=w) (H.block g L)).trans Z)
 obtain⟨G,n,K,J⟩:=Rx (P:=prog) b 36 36 3 2 d r.length r.length a l.length F (List.replicate r.length (xI 0)) 2 (zK l) underlying36 Tryz.Rf u (by rw[N8];exact (Nat.min_eq_left (by omega)).symm) O (by rw[N8];simp;omega) Pk;rw[N8] at n;rw[Wx W] at K;have Q:=I.slots' (slots':=Oa c.al l) (by unfold Oa;simp;omega) K J;have hF:fV f q d w p G p:=by have f1:fV f q d w p B p:=fV.Pf (T:=λ_=>False) (Fr.Mo H) (λ_ e=>e.elim);have f2:fV f q d B p b p:=fV.Pf t (λ_ e=>ap (ap e));have f3:fV f q d b p G p:=fV.Pf J (λ_ e=>ap (ap e));exact (f1.trans f2).trans f3
 have Y:=(zU I.aC).2.2.1;rw[List.length_replicate] at Y;refine⟨b,G,m,n,(zU s.aC).2.2.1,Y,⟨h.code.am (hF.am h.mem.hB h.n0 h.n1 h.n2 (λk e=>(h.mem.own.lt k e).1)),Q,h.n0,h.n1,h.n2,h.lc,by unfold Oa;simp;omega⟩,hF⟩
theorem Tr (b:R.al.length=c.al)(e:c.dn.length+c.aG<=c.al):(M5 c R).length=c.aG:=by unfold M5;simp;omega
theorem WE (h:MB wr f y q d N p R.cells R.al [])(s:R.al.length=c.al)(O:c.dn.length+c.aG<=c.al)(n:Xp)(G K:Nat)(B:0<c.aG->n=some (xD d c.dn.length))(u:G=c.al-c.dn.length) :
 ∃g,(Builtin.copy_ #[36,36] 3 #[xS wr.heap.size c.aG c.aG,.slice n G K]).run prog (wr.alloc (.cells (M7 c.aG) 2)).drew=.ok (goInt c.aG) g /\
  g.heap[wr.heap.size]?=some (.cells (zK (M5 c R)).toArray 2 (0,0))/\Fr (·=wr.heap.size) (wr.alloc (.cells (M7 c.aG) 2)) g:=by
 have m:=Tr s O;have b:0<(zK (M5 c R)).length->∃H,n=some H/\∀j v,(zK (M5 c R))[j]?=some v->(wr.alloc (.cells (M7 c.aG) 2)).drew.cell? (H.add j)=some v:=by
  intro J;rw[N8,m] at J;refine⟨_,B J,λj v t=>?_⟩;have L:((xD d c.dn.length):Addr).add j=⟨d,c.dn.length+j,none⟩:=by cases j <;> simp[Addr.add]
  rw[L];unfold zK at t;rw[List.getElem?_map] at t;obtain⟨x,e,rfl⟩:=Option.map_eq_some_iff.1 t;refine zg (zj _ (OG h.sl (k:=c.dn.length+j) (v:=x) ?_));unfold M5 at e;rw[List.getElem?_take] at e;split at e
  . rwa [List.getElem?_drop] at e
  cases e
 obtain⟨g,I,o,M⟩:=Rx (P:=prog) (wr.alloc (.cells (M7 c.aG) 2)).drew 36 36 3 2 wr.heap.size c.aG c.aG n G K (zK (List.replicate c.aG 0)) 2 (zK (M5 c R)) underlying36 Tryz.Rf (zc wr _) (by rw[N8,m,u];exact (Nat.min_eq_right (by omega)).symm) b (by rw[N8,m,N8];simp) Pk;rw[N8,m] at I o;rw[List.drop_eq_nil_of_le (by rw[N8];simp),List.append_nil] at o;exact⟨g,I,o,M.cQ⟩
theorem S3 {G g:Xw}(h:Mc w N f y q d C A D p c E r [])(o:fV f q d w p G p)(s:fV f q d G p wr z)(u:MB wr f y q d N z R.cells R.al [])(H:CB wr N y C A D c)(v:R.cells.length=c.cells.length)(x:R.al.length=c.al)
 (t:g.heap[wr.heap.size]?=some (.cells (zK (M5 c R)).toArray 2 (0,0))) (b:Fr (·=wr.heap.size) (wr.alloc (.cells (M7 c.aG) 2)) g) :
 ∃n z,Ending.returned (.tuple #[xS wr.heap.size c.aG c.aG,.nilIface])=.returned (.tuple #[xS n c.aG c.aG,.nilIface])/\w.heap.size<=n/\g.heap[n]?=some (.cells (zK (M5 c R)).toArray 2 (0,0))/\(∀k,z.ownBlock=some k->k≠n)/\Mc g N f y q d C A D z c R.cells R.al []/\fV f q d w p g z:=by
 have j:∀k,k<wr.heap.size->g.heap[k]?=wr.heap[k]?:=λk j=>(b.block k (by rw[au];omega) (by omega)).trans (mm _ _ _ j);have B:wr.heap.size<=g.heap.size:=by have:=b.size;rw[au] at this;omega
 have hF:fV f q d w p wr z:=o.trans s;refine⟨wr.heap.size,z,rfl,hF.fr.size,t,λk e=>?_,⟨H.am (λk m=>j k (by have:=u.hB;omega)),u.fr j B,h.n0,h.n1,h.n2,v,x⟩,?_⟩
 . have:=(u.own.lt k e).2;omega
 refine hF.trans ⟨⟨b.os,b.tape,b.output,B,λk m _=>j k m⟩,λ_ e=>ao e⟩
theorem VX (S:Xs)(N f y q d:Nat)(C A D p:Xv)(c:Cd)(E r:List Int)(w:Xw)(v:Xv)(g:Nat)(l:List Int)(_hG:Gl S w)(h:Mc w N f y q d C A D p c E r [])(bg:Nm w v g l)(a3:l≠[]->g≠d)(bk:Nk c.dn l=none)(B:Mt c.al c.cells.length 0 c.row=some 0)(P:abn c) :
 xK 40 #[xP f,v] w (λe w'=>∃bl z,e=.returned (.tuple #[xS bl c.aG c.aG,.nilIface])/\w.heap.size<=bl/\w'.heap[bl]?=some (.cells (zK (M5 c (M1 c E l))).toArray 2 (0,0))/\(∀k,z.ownBlock=some k->k≠bl)/\Mc w' N f y q d C A D z c (M1 c E l).cells (M1 c E l).al []/\fV f q d w p w' z):=by
 have O:l.length=c.dn.length:=by
  unfold Nk at bk;split at bk
  . assumption
  cases bk
 have cl:=za (VQ N f y _ _ _ C A D c w v g l h.mem.aC h.code bg O P.2.1);obtain⟨h0,h1,h2,h3,hf,hz⟩:=zU h.mem.aC;obtain⟨c4,c5,c6,c9⟩:=h.mem.lt;obtain⟨xr,cE,rfl⟩:=zB h.code.zA;obtain⟨a,F,rfl,cR,b4,b0⟩:=bg.ex;unfold maxLen at b4;have a9:=h.ls;have a5:=h.lc;have ca:=h.code.NF;have c2:=h.code.NW;have c3:=h.code.PC;have H:=za h;have ct:=za bg;have bE:=za a3;have u:=za B;have X:=za P;clear P;have cK:=h.mem.hB;have n0:=h.n0;have n1:=h.n1;have n2:=h.n2;have bK:=za O;have cB:=za a9;have cA:=za a5;have du:c.dn.length+c.aG<=r.length:=by omega
 have q2:r.length<=255:=by omega
 have q3:l.length<=r.length:=by omega
 clear h bg bk _hG b0 a3 B O a9 a5;go_enter func40,ntmps40;go_wp2_with (go_at_call 91;refine cl.o.mono ?_;rintro e w1 ⟨rfl,hB⟩;obtain⟨w2,w3,a1,a2,bL,bY,t,ar⟩:=Xi hB H.o ct.o bE.o bK.o;obtain⟨p0,dl,dp,p3,dq,ds⟩:=zU t.mem.aC;obtain⟨d0,d1,d2,d3,d4,d5,dc,dz⟩:=zt t.code.aC;have m:=za t;have bo:=za ar;clear hB t ar);obtain⟨n,s⟩:∃n:Ms,n=⟨E,Oa c.al l,[]⟩:=⟨_,rfl⟩;have aV:MB w3 f y q d N p n.cells n.al n.st:=by rw[s];exact m.o.mem
 have T:=za aV;have cm:aa (M1 c E l=Oc n c.row):=by rw[s];exact rfl
 have a6:n.cells.length=c.cells.length:=by rw[s];exact m.o.lc
 have bb:n.al.length=c.al:=by rw[s];exact m.o.ls
 have be:n.st.length=0:=by rw[s];rfl
 have W:=za a6;have Y:=za bb;have Z:=za be;clear aV s a6 bb be cl a1 a2 bL bY;go_loopg [35] (c.row.length+1) (λj i wr=>∃(k:Nat) (z:Xv),i=xI k/\k+j=c.row.length+1/\k<=c.row.length/\aa (MB wr f y q d N z (Oc n (c.row.take k)).cells (Oc n (c.row.take k)).al (Oc n (c.row.take k)).st)/\aa (fV f q d w3 p wr z));case atStart=>exact⟨0,p,rfl,by omega,by omega,T.o,fV.refl _ _ _ _ _⟩
 case round =>
  obtain⟨k,z,rfl,c0,c1,b,G⟩:=hrel;have hO:bV N w3 wr:=G.o.am m.o.mem.hB n0 n1 n2 (λk e=>(m.o.mem.own.lt k e).1);have Q:=m.o.code.am hO;have ch:=za Q;clear hO;by_cases b3:k<c.row.length
  . obtain⟨i,hi⟩:∃i,c.row[k]?=some i:=⟨_,av b3⟩;obtain⟨di,rfl,cd,ce⟩:=Ww Q.zA hi;obtain⟨f1,f2,e1,cn,e3⟩:=XT c.row 0 0 k i u.o hi;obtain⟨I,J,K⟩:=Q1 _ _ _ n e1 Z.o;have hD:=λo=>X7 f y q d N z (Oc n (c.row.take k)) i f1 f2 (wr.alloc o) (b.o.alloc o) (by rw[J,K,W.o,Y.o];exact cn) I (by omega) (X.o.1 i (aM hi));rw[<- WA hi] at hD;have ck:=za hD;clear hi e1 cn I J K hD Q;obtain⟨op,x⟩:=i;simp only at cd ce ck;go_wp2_with (go_at_call 92;refine (ck.o _).mono ?_;rintro e w4 ⟨rfl,cg,aL,aA⟩;have bx:=za aL;have bp:=za (G.o.trans aA.Oi);clear aL aA);go_roundg (gk-1);case measure=>omega
    exact⟨k+1,cg,by go_num,by omega,by omega,bx.o,bp.o⟩
  have ek:k=c.row.length:=by omega
  subst ek;rw[List.take_length,<- cm.o] at b;obtain⟨I,J,K⟩:=Q1 _ _ _ n u.o Z.o;rw[<- cm.o] at I J K;obtain⟨R,hR⟩:∃R,M1 c E l=R:=⟨_,rfl⟩;rw[hR] at b I J K;have es:R.st=[]:=List.eq_nil_of_length_eq_zero I;rw[es] at b;have a0:R.cells.length=c.cells.length:=J.trans W.o;have L:R.al.length=c.al:=K.trans Y.o;have bB:=za hR;obtain⟨t0,t1,t2,t3,dw,tz⟩:=zU b.o.aC;obtain⟨_,_,da,_⟩:=b.o.lt;rw[L] at t2;have bA:=za (S5 f y N _ _ _ C A _ c wr b.o.aC Q);have bt:=za (λo=>Qc f y N _ _ _ C A _ c (wr.alloc o).drew (b.o.alloc o).aC (Q.am (λk dk=>mm _ _ _ (by have:=b.o.hB;omega))));have mk:=Qj c.aG c.aG (by omega) (by omega);have bC:=za a0;have U:=za L;have i1:(0:Int)<=(c.dn.length:Int):=by omega
  have i2:(c.dn.length:Int)<=(c.al:Int):=by omega
  clear Q hR es I J K a0 L m T;go_upto_region 12 with (go_at_call 93;refine bA.o.mono ?_;rintro e w5 ⟨rfl,rfl⟩);have u2:=zj (.cells (M7 c.aG) 2) t2;have cz:=za (b.o.alloc (.cells (M7 c.aG) 2));have V:=za (WE (c:=c) b.o U.o ca);have cs:=X.o.2.2;obtain⟨w7,co,a4,M⟩:=V.o (some (xD d c.dn.length)) (c.al-c.dn.length) (c.al-c.dn.length) (λ_=>rfl) rfl;have cO:=ch.o.h0;have i3:(c.dn.length:Int)<(c.al:Int):=by omega
  have i4:¬((c.dn.length:Int)=(c.al:Int)):=by omega
  have i5:¬(c.dn.length=c.al):=by omega
  have v2:w7.cell? (xD f 2)=some (xS d c.al c.al):=(Z6 (w:=wr.alloc (.cells (M7 c.aG) 2)) (M.block f (by rw[au];omega) (by omega))).trans u2;have bs:=za a4;have bq:=za M;clear a4 M V
  go_region_held3 (λw'=>w'.cell? (xD f 2)=some (xS d c.al c.al)) (first|with_reducible exact zg u2|with_reducible exact v2|go_keep)
   (first
     | (go_at_call 94;refine (bt.o _).mono ?_;rintro e w6 ⟨rfl,rfl⟩))
  all_goals go_wp2_with fail
  all_goals
   refine ab (v:=.tuple #[xS wr.heap.size c.aG c.aG,.nilIface]) (by simp[results,results40,go_sem]) rfl ?_;rw[bB.o];exact S3 H.o bo.o G.o b.o ch.o bC.o U.o bs.o bq.o
end
section
open Go.RowKit
def N2 (l:Xn)(s:Ir):Ir:=[99,100,110,50].foldl (λs m=>MT ((zG l s).1==m) (zG l s).2) s
def Pa (b:Xn):Option Cd :=
 let h:=M2 b (N2 b ⟨0,none⟩)
 let r:=MX b h.1.al h.1.cells.length (b.length+2) ⟨h.2,0,0,[]⟩
 if r.s.er=none then some { h.1 with depth:=r.mx,row:=r.row } else none
def NY (l:Xn):Option Cd:=(NZ l).bind Pa
def Qh:ByteArray:=⟨#[108,111,97,100,105,110,103]⟩
def Qf (S:Xs)(w:Xw)(o:Option Cd)(e:Ending)(b:Xw):Prop :=
 match o with
 | none=>∃p,e=.returned (.tuple #[.pointer none,ew Qh (Oq S p)])
 | some c=>∃a B,e=.returned (.tuple #[xP a,.nilIface])/\w.heap.size<=a/\w.heap.size<=B/\UC B a c b
theorem V6 (l:Xn)(s:Ir)(h:∀x∈l,x<256):(M2 l s).1.al<=1000000/\(M2 l s).1.cells.length<=1000000/\(M2 l s).1.depth=0/\(M2 l s).1.row=[]:=by
 have a:∀n t,(Nj l n t).1.length=n:=by
  intro n;induction n with
  | zero=>intro t;rfl
  | succ n b=>intro t;show (_::_).length=_;rw[bJ,b]
 refine⟨?_,?_,rfl,rfl⟩
 . have:=OS l (zG l (M8 l (zG l s).1 (zG l s).2).2).2 h
   show (zG l _).1<=_;omega
 show (Nj l _ _).1.length<=_;rw[a];have:=QN l 61 (MT (decide ((M8 l (zG l s).1 (zG l s).2).1.length+(zG l (M8 l (zG l s).1 (zG l s).2).2).1<=(zG l (zG l (M8 l (zG l s).1 (zG l s).2).2).2).1)) (zG l (zG l (M8 l (zG l s).1 (zG l s).2).2).2).2) h;omega
theorem QU (y m:Nat):((y:Int)==(m:Int))=(y==m):=by
 by_cases h:y=m
 . subst h;rw[beq_self_eq_true,beq_self_eq_true]
 have a:¬(y:Int)=(m:Int):=by omega
 rw[bf.2 h,bf.2 a]
theorem VZ (S:Xs)(a:Xp)(c g:Nat)(l:Xn)(w:Xw)(a3:Gl S w)(bs:Nq w)(X:By w (.slice a l.length c) g l)(hg:g<w.heap.size) :
 xK 38 #[.slice a l.length c] w (λe w'=>(xB w w')/\Qf S w (NY l) e w'):=by
 have L:=za (VU S a c g l w a3 bs X hg);obtain⟨P,aV⟩:∃P,P=Qf S w (NY l):=⟨_,rfl⟩;rw[<- aV];cases u:NZ l with
 | none =>
   rw[u] at L;unfold RG at L;have a6:aa (P=Qf S w none):=(by unfold aa;rw[aV];unfold NY;rw[u];rfl);clear u aV X hg;go_enter func38,ntmps38
   go_wp2_with (first
    | (go_at_call 85;refine L.o.mono ?_;rintro e w1 ⟨Z,p,rfl⟩;unfold Oq;have I:=za Z;clear Z)
    | (go_at_call 29;refine (rm _ _ _ _).mono ?_;rintro e w3 ⟨rfl,rfl⟩))
   exact ab (v:=.tuple #[.pointer none,ew Qh (Oq S p)]) (by simp[results,results38,go_sem,Qh,Oq]) rfl ⟨I.o,by rw[a6.o];exact⟨p,rfl⟩⟩
 | some b =>
   rw[u] at L;unfold RG at L;have a0:P=Qf S w (Pa b):=(by rw[aV];unfold NY;rw[u];rfl);obtain⟨Q,bl⟩:b=l.take (l.length-8)/\b.length<=1048576:=by
    unfold NZ at u;split at u
    . cases u
    split at u
    . cases u;exact⟨rfl,by rw[List.length_take];omega⟩
    cases u
   have bt:By w (.slice a b.length c) g b:=(by have:=X.take (n:=b.length) (by rw[Q,List.length_take];omega);rwa [show l.take b.length=b by rw[Q,List.length_take];congr 1;omega] at this);obtain⟨_,cA,bo,cb,a1,_⟩:=bt.ex;cases bo;have cd:c<=9223372036854775807:=(by unfold maxLen at a1;omega);have bk:=a3.size;have hi:=a3.mS;have a6:=za a0;clear aV a0 u Q X a1;go_enter func38,ntmps38;go_wp2_with (go_at_call 85;refine L.o.mono ?_;rintro e D ⟨Z,rfl,-,-⟩;have cn:=Z.size;have I:=za Z;clear Z);have F:aa (RL S (D.alloc (.cells #[.slice a b.length c,xI 0,.nilIface] 190)) D.heap.size (.slice a b.length c) g b ⟨0,none⟩):=RL.new (a3.of (T:=λ_=>False) (Fr.Mo I.o) (λ_ e=>e.elim)) (bs.am (zm I.o (an _)) bk) (bt.of (I.o.block g hg)) (by omega) bl 0 (aE _);have aL:xB w (D.alloc (.cells #[.slice a b.length c,xI 0,.nilIface] 190)):=I.o.alloc (by omega) _;have E:=za aL;clear aL L;obtain⟨bg,O⟩:∃W,W=(D.alloc (.cells #[.slice a b.length c,xI 0,.nilIface] 190)):=⟨_,rfl⟩;obtain⟨r,U⟩:∃r,r=D.heap.size:=⟨_,rfl⟩;have bp:bg.heap.size=r+1:=(by rw[O,U];simp);have bB:r<bg.heap.size:=(by omega);rw[<- O] at F E ⊢;rw[<- U] at F ⊢;have V:w.heap.size<=r:=(by omega);clear O U I bp;go_loopg [20] 5 (λj i wr=>∃(k:Nat) (t:Ir),k+j=5/\k<=4/\i=xI k/\aa (N2 b ⟨0,none⟩=([99,100,110,50].drop k).foldl (λs m=>MT ((zG b s).1==m) (zG b s).2) t)/\aa (RL S wr r (.slice a b.length c) g b t)/\aa (Fr (·=r) bg wr));case atStart=>exact⟨0,⟨0,none⟩,rfl,by omega,rfl,za rfl,F.o,Fr.refl _ _⟩
   case round =>
    obtain⟨k,t,cB,ce,rfl,a5,Y,a9⟩:=hrel;by_cases cg:k<4
    . have J:=za (PN S r _ g b t wr.drew (Y.o.below (zo (yS _ _))));have X:=OS b t Y.o.fq.lt;have bA:=Y.o.gl.mS;rcases N:zG b t with ⟨y,t1⟩;rw[N] at J X;simp only at J X;obtain⟨q,ar⟩:∃q:Bool,q=(y==[99,100,110,50].getD k 0):=⟨_,rfl⟩;have bb:aa (N2 b ⟨0,none⟩=([99,100,110,50].drop (k+1)).foldl (λs m=>MT ((zG b s).1==m) (zG b s).2) (MT q t1)):=by
       unfold aa;rw[a5.o,ar];have:k=0∨k=1∨k=2∨k=3:=by omega
       rcases this with rfl|rfl|rfl|rfl <;> simp[N]
      have bL:=za (λw1 (d:RL S w1 r (.slice a b.length c) g b t1)=>QP S r _ g b t1 q w1 d);unfold aW at bA;have bC:=Y.o.gl.size;clear N a5;have:k=0∨k=1∨k=2∨k=3:=(by omega);rcases this with rfl|rfl|rfl|rfl
      all_goals
       first
        | have C:((y:Int)==99)=q:=by rw[ar];exact QU y 99
        | have C:((y:Int)==100)=q:=by rw[ar];exact QU y 100
        | have C:((y:Int)==110)=q:=by rw[ar];exact QU y 110
        | have C:((y:Int)==50)=q:=by rw[ar];exact QU y 50
       have ch:(⟨#[99,100,110,50]⟩:Xb)[0].toNat=99:=rfl;have ck:(⟨#[99,100,110,50]⟩:Xb)[1].toNat=100:=rfl;have cl:(⟨#[99,100,110,50]⟩:Xb)[2].toNat=110:=rfl;have cm:(⟨#[99,100,110,50]⟩:Xb)[3].toNat=50:=rfl;clear ar;go_wp2_with fail
       go_region_held3 (λw'=>w'.cell? (xD 10 0)=some (.iface 316 (.pointer (some (S 10)))))
        (repeat (first|with_reducible exact bA|with_reducible exact g2|with_reducible exact g1|with_reducible refine zg ?_))
        (first
          | (go_at_call 86;revert x;intro x;refine (bL.o w1 x.o).mono ?_;rintro e G ⟨rfl,d,h⟩;have g2:=d.gl.mS;unfold aW at g2;have H:=za d;have bK:=za (aA.o.trans h);clear d h)
          | (go_at_call 87;refine J.o.mono ?_;rintro e w1 ⟨rfl,d,h⟩;have g1:=d.gl.mS;unfold aW at g1;have x:=za d;have aA:=za (a9.o.trans h.cQ);clear d h))
       all_goals go_wp2_with fail
       all_goals go_roundg (gk-1)
       all_goals first
        | omega
        | exact⟨_,_,by omega,by omega,by go_num,bb,H.o,bK.o⟩
    have ca:k=4:=(by omega);subst ca;have hM:N2 b ⟨0,none⟩=t:=a5.o;obtain⟨f1,f2,f3,f4⟩:=V6 b t Y.o.fq.lt;have a4:=za (X5 S r (.slice a b.length c) g b t wr Y.o);have f:=a6.o;unfold Pa at f;simp only[hM] at f;rcases hhd:M2 b t with ⟨⟨bx,o,ns,cs,b4,cz⟩,t2⟩;rw[hhd] at a4 f1 f2 f3 f4 f;simp only at a4 f1 f2 f3 f4 f;subst f3;subst f4;obtain⟨R,N⟩:∃R,R=MX b ns cs.length (b.length+2) ⟨t2,0,0,[]⟩:=⟨_,rfl⟩;rw[<- N] at f;have co:=a9.o.size;have M:=za (λG (d:RL S G r (.slice a b.length c) g b t2) (h:UC (wr.heap.size+1) wr.heap.size ⟨bx,o,ns,cs,0,[]⟩ G)=>Yz S r wr.heap.size (wr.heap.size+1) (.slice a b.length c) g b t2 bx o ns cs G d h (by omega) (λ_=>by omega) (by omega) f1 f2 R N);have K:=za (E.o.trans (a9.o.below (B:=w.heap.size) (by have:=E.o.size;omega) (λk e=>e▸V)));have A:w.heap.size<=wr.heap.size:=K.o.size;clear hM a5 hhd N a6 F E;obtain⟨⟨rp,bq⟩,ct,cv,bE⟩:=R;simp only at M f;cases bq with
    | none =>
      rw[ag rfl] at f
      go_wp2_with (first
       | (go_at_call 89;revert x;intro x;refine (M.o G x.o aA.o).mono ?_;rintro e w3 ⟨rfl,d,h,z⟩;obtain⟨b0,b1,a2,b2,b3⟩:=zL d.aC;unfold Nb at a2;simp only at a2;have bY:=za d;have bv:=za h;have be:=za (H.o.trans (z.below (B:=w.heap.size) (by have:=H.o.size;omega) (λk e=>by rcases e with e|e <;> omega)));clear d h z)
       | (go_at_call 88;refine a4.o.mono ?_;rintro e G ⟨rfl,d,h,z⟩;have x:=za d;have aA:=za h;have H:=za (K.o.trans (z.below (B:=w.heap.size) A (λk e=>e▸V)));clear d h z))
      exact ab (v:=.tuple #[xP wr.heap.size,.nilIface]) (by simp[results,results38,go_sem]) rfl ⟨be.o,by rw[f];exact⟨_,_,rfl,A,by omega,bv.o⟩⟩
    | some p =>
      rw[ae (by simp)] at f
      go_wp2_with (first
       | (go_at_call 29;refine (rm _ _ _ _).mono ?_;rintro e w4 ⟨rfl,rfl⟩)
       | (go_at_call 89;revert x;intro x;refine (M.o G x.o aA.o).mono ?_;rintro e w3 ⟨rfl,d,h,z⟩;obtain⟨b0,b1,a2,b2,b3⟩:=zL d.aC;unfold Nb at a2;simp only at a2;have bY:=za d;have bv:=za h;have be:=za (H.o.trans (z.below (B:=w.heap.size) (by have:=H.o.size;omega) (λk e=>by rcases e with e|e <;> omega)));clear d h z)
       | (go_at_call 88;refine a4.o.mono ?_;rintro e G ⟨rfl,d,h,z⟩;have x:=za d;have aA:=za h;have H:=za (K.o.trans (z.below (B:=w.heap.size) A (λk e=>e▸V)));clear d h z))
      exact ab (v:=.tuple #[.pointer none,ew Qh (Oq S p)]) (by simp[results,results38,go_sem,Qh,Oq]) rfl ⟨be.o,by rw[f];exact⟨p,rfl⟩⟩
structure Q2 (src:Xb) (ns:List ay):Prop where
 size:src.size<=1200
 rd:∃R,dm (fx 17).ex (fx 18).ex 1300 src=R/\R.1.er=0/\R.2.length<=6/\dS R.2 ns
 wf:∀n∈ns,gP n
 Rk:∀n∈ns,n.Nh.length<=1000000
 Za:dh ns=none
theorem Wa (S:Xs)(src:Xb)(m:List ay)(h:Q2 src m)(w:Xw)(C:Gl S w) :
 xK 10 #[.string src] w (λe d=>∃b N,e=.returned (.tuple #[xP b,.nilIface])/\PT d N m (xP b)/\w.heap.size<=N/\N<=d.heap.size/\xB w d):=by
 obtain⟨U,V,o,p,H,G,q,r⟩:=pE;obtain⟨O,⟨R,u,D,E,F⟩,I,J,K⟩:=h;rw[<- o,<- p] at u;have j:=za (yG H G q r S 1300 (by decide) (by decide) src w C O (R:=R) u);have B:=za F;clear u F H G;have n:xK 14 #[.string src] w (λe d=>∃b,e=.returned (.tuple #[xP b,.nilIface])/\PT d d.heap.size m (xP b)/\xB w d):=by refine j.o.mono ?_;rintro e d ⟨_,y,f⟩;obtain⟨a,rfl,s⟩:=y D;obtain⟨Q,x,t⟩:=Ku s E;have:=uR x B.o;subst this;obtain⟨b,M,W,L,l⟩:=t;cases L;exact⟨b,rfl,⟨b,M,W,rfl,l⟩,f⟩
 clear j B D E;go_enter func10,ntmps10
 go_wp2_with (first
  | (go_at_call 18;revert c;intro c;refine (HF S A.heap.size m I J b A (C.of (T:=λ_=>False) (Fr.Mo g.o) (λ_ e=>e.elim)) c.o (an _)).mono ?_;rw[K];rintro e X ⟨rfl,f⟩;unfold sv;have z:=f.size;have i:=za f)
  | (go_at_call 14;refine n.mono ?_;rintro e A ⟨b,rfl,P,f⟩;have k:=f.size;have c:=za P;have g:=za f))
 exact ab (v:=.tuple #[xP b,.nilIface]) (by simp[results,results10,go_sem]) rfl ⟨b,A.heap.size,rfl,c.o.am (zm i.o (an _)),k,z,g.o.trans (i.o.mono k)⟩
theorem KW.pk {B k d:Nat}{K:Cd}{w:Xw}(h:KW B k d K w)(e:K.dn.length<=1000000)(f:K.cells.length<=1000000)(g:K.row.length<=1000000)(j:∀i∈K.row,i.1<=20):∃a b c,PV w d a b c K:=by obtain⟨a,b,c,h⟩:=h;exact⟨a,b,c,h.aC,zR h.xv (aE _),zR h.hQ (aE _),zR h.zA (aE _),e,f,g,j⟩
structure RS (fu gas f:Nat) (pre:List ay) (n:ay) (K:Cd):Prop where
 hK:MQ fu gas f ⟨pre,n⟩ 0 ((Pb ⟨pre,n⟩).add 0 1)=K
 Py:gas<=1000000
 hf:17*f<=100000
 gd:Pr fu gas f ⟨pre,n⟩
 b:K.dn.length<=1000000
 c:K.cells.length<=1000000
 r:K.row.length<=1000000
 ops:∀i∈K.row,i.1<=20
theorem Wd (S:Xs)(src:Xb)(a:List ay)(n:ay)(h:Q2 src (a++[n]))(L j f:Nat)(K:Cd)(hc:RS L j f a n K)(w:Xw)(M:Gl S w)(J:M9 w)(H:Nq w) :
 xK 5 #[.string src] w (λe P=>∃v B,e=.returned (.tuple #[v,xI 0,xI 0])/\BR B P v (Nr (MW K))/\w.heap.size<=B/\xB w P):=by
 obtain⟨C,o,hf,I,aA,m,a0,aV⟩:=hc;have s:=za (Wa S src (a++[n]) h w M);have k:=M.size;have x:=za J;have T:=za H;have i:=za (λN (Y:21<=N) y W F hNW hopW=>VT (N:=N) L j f o Y hf a n (xP y) W F hNW hopW I ⟨by rw[C];omega,by rw[C];exact m⟩);rw[C] at i;have t:=za (λB R q W (ar:KW B R q K W) (H:Nq W) (hz:21<=W.heap.size)=>(by
  obtain⟨U,V,rv,X⟩:=ar.pk aA m a0 aV;exact XA q U V rv K W X H hz:xK 12 #[xP q] W (Qk W.heap.size (Nr (MW K)) W)))
 go_enter func5,ntmps5
 go_wp2_with (first
  | (go_at_call 12;revert c;intro c;refine (t.o _ _ _ Q c.o (T.o.am ((zm b.o (an _)).trans (zm g.o p)) k) (by omega)).mono ?_;rintro e w3 ⟨O,rfl,G,A⟩;have u:=za G;have r:=za A)
  | (go_at_call 13;revert d;intro d;refine (i.o N (by omega) y w1 d.o E (x.o.am (zm b.o (an _)) k)).mono ?_;rintro e Q ⟨B,R,q,rfl,aL,z,D,l⟩;have a1:=l.size;have c:=za D;have g:=za l)
  | (go_at_call 10;refine s.o.mono ?_;rintro e w1 ⟨y,N,rfl,F,Z,E,z⟩;have p:=z.size;have d:=za F;have b:=za z))
 exact ab (v:=.tuple #[O,xI 0,xI 0]) (by simp[results,results5,go_sem]) rfl ⟨O,Q.heap.size,rfl,u.o,by omega,(b.o.trans (g.o.mono p)).trans (r.o.mono (by omega))⟩
end
section
open Go.RowKit
variable {c:Cd} {f i:List Int} {b:Xv} {w d:Xw}
structure OW (c:Cd):Prop where
 NF:c.dn.length+c.aG<=c.al
 NW:c.al<=255
 Pu:c.cells.length<=255
 Pw:c.depth<=3145728
 PC:c.row.length<=1048576
theorem UC.cb {B m:Nat}(h:UC B m c w)(a:OW c):∃g j l,CB w w.heap.size m g j l c/\(∀k,g.ownBlock=some k∨j.ownBlock=some k∨l.ownBlock=some k->B<=k):=by
 obtain⟨g,j,l,h⟩:=h;refine⟨g,j,l,⟨h.aC,zR h.xv (aE _),zR h.hQ (aE _),zR h.zA (aE _),ze h.aC,λk e=>(h.xv.lt k e).2,λk e=>(h.hQ.lt k e).2,λk e=>(h.zA.lt k e).2,a.NF,a.NW,a.Pu,a.Pw,a.PC⟩,?_⟩;rintro k (e|e|e)
 . exact (h.xv.lt k e).1
 . exact (h.hQ.lt k e).1
 exact (h.zA.lt k e).1
structure Ma where
 M:Nat
 N:Nat
 mb:Nat
 cb:Nat
 b1:Nat
 b2:Nat
 bv:Value
 cv:Value
 rv:Value
def Ma.own (a:Ma)(b:Xv)(k:Nat):Prop:=k=a.M∨k=a.mb∨k=a.cb∨k=a.b1∨k=a.b2∨a.bv.ownBlock=some k∨a.cv.ownBlock=some k∨a.rv.ownBlock=some k∨b.ownBlock=some k
structure MM (w:Xw) (a:Ma) (b:Xv) (c:Cd) (f i:List Int):Prop where
 aC:w.heap[a.M]?=some (.cells #[xP a.mb] 124 (0,0))
 mc:Mc w a.N a.mb a.cb a.b1 a.b2 a.bv a.cv a.rv b c f i []
 m0:¬a.M=a.mb
 m1:¬a.M=a.b1
 m2:¬a.M=a.b2
 ms:¬b.ownBlock=some a.M
theorem Mc.aq {N n l e g:Nat}{j m o:Xv}{p:List Int}(h:Mc w N n l e g j m o b c f i p)(a:xB w d):Mc d N n l e g j m o b c f i p :=
 ⟨h.code.am (zm a h.mem.hB),h.mem.fr (λk q=>a.block k q) a.size,h.n0,h.n1,h.n2,h.lc,h.ls⟩
theorem MM.aq {a:Ma}(h:MM w a b c f i)(e:xB w d):MM d a b c f i :=
 ⟨(e.block _ (ze h.aC)).trans h.aC,h.mc.aq e,h.m0,h.m1,h.m2,h.ms⟩
theorem UT (S:Xs)(a:Xp)(z g:Nat)(l:Xn)(c:Cd)(L:OW c)(P:NY l=some c)(w:Xw)(M:Gl S w)(N:Nq w)(Q:By w (.slice a l.length z) g l)(O:g<w.heap.size) :
 xK 16 #[.slice a l.length z] w (λe d=>∃(m:Ma) (b:Xv),e=.returned (.tuple #[xP m.M,xI 0])/\MM d m b c c.cells (List.replicate c.al 0)/\w.heap.size<=m.N/\xB w d/\∀k,m.own b k->w.heap.size<=k):=by
 have y:=za (VZ S a z g l w M N Q O);rw[P] at y;unfold Qf at y;go_enter func16,ntmps16
 go_wp2_with (first
  | (go_at_call 39;revert p;intro p;refine (Xr E.heap.size I H J K c E x (an _)).mono ?_;rintro e n ⟨D,F,G,b,rfl,r,s⟩;have R:=s.size;have u:=za s)
  | (go_at_call 38;refine y.o.mono ?_;rintro e E ⟨s,I,B,rfl,C,q,A⟩;have h:=s.size;obtain⟨H,J,K,x,o⟩:=A.cb L;have j:=za o;clear o;have p:=za s))
 obtain⟨U,V,W,T⟩:=r.mem.lt;have t:=zq n (.cells #[xP D] 124)
 refine ab (v:=.tuple #[xP n.heap.size,xI 0]) (by simp[results,results16,go_sem]) rfl
  ⟨⟨n.heap.size,E.heap.size,D,I,F,G,H,J,K⟩,b,rfl,⟨zc n _,r.aq t,(by show ¬n.heap.size=D;omega),(by show ¬n.heap.size=F;omega),(by show ¬n.heap.size=G;omega),λe=>Nat.lt_irrefl n.heap.size (T n.heap.size e)⟩,h,(p.o.trans (u.o.mono h)).trans (t.mono (by omega)),?_⟩
 rintro k (e|e|e|e|e|e|e|e|e)
 . exact e▸(show w.heap.size<=n.heap.size by omega)
 . exact e▸aJ h r.n0
 . exact e▸C
 . exact e▸aJ h r.n1
 . exact e▸aJ h r.n2
 . exact aJ q (j.o k (.inl e))
 . exact aJ q (j.o k (.inr (.inl e)))
 . exact aJ q (j.o k (.inr (.inr e)))
 exact aJ h (r.mem.own.lt k e).1
end
section
open Go.RowKit
def QK (c b:Nat)(i:Nat×Int):Prop:=∃a,zY[i.1]?=some a/\(a.1=0->i.2=0)/\(a.1=1->-9223372036854775808<=i.2/\i.2<=9223372036854775807)/\(a.1=2->0<=i.2/\i.2.toNat<c)/\(a.1=3->0<=i.2/\i.2.toNat<b)
structure PZ (K:Cd):Prop where
 aG:K.dn.length+K.aG<=K.al
 al:K.al<=255
 bO:K.cells.length<=60
 Uq:∀x∈K.cells,-9223372036854775808<=x/\x<=9223372036854775807
 row:∀i∈K.row,QK K.al K.cells.length i
 fit:Mt K.al K.cells.length 0 K.row=some 0
 len:(MW K).length+8<=1048576
end
section
variable {x:Int} {c:Nat}
def ML (R:List (Nat×Int)):Nat:=(R.flatMap Ak).length
theorem OB (a b:List (Nat×Int)):ML (a++b)=ML a+ML b:=by unfold ML;rw[List.flatMap_append,aP]
structure Pc (S N h h':Nat) (R:List (Nat×Int)):Prop where
 fit:Mt S N h R=some h'
 ok:∀i∈R,QK S N i
theorem SC {S N:Nat}:∀{R b:List (Nat×Int)} {h d f:Nat},Mt S N h R=some d->Mt S N d b=some f->Mt S N h (R++b)=some f
 | [],b,h,d,f,a,g=>by cases a;exact g
 | i::l,b,h,d,f,a,g=>by
   rw[Mt] at a;rw[List.cons_append,Mt];cases e:Nl S N h i with
   | none=>rw[e] at a;cases a
   | some j=>rw[e] at a;exact SC a g
section
variable {S N h d f:Nat} {R g:List (Nat×Int)}
theorem Pc.nil:Pc S N h h []:=⟨rfl,λi a=>by cases a⟩
theorem Pc.kZ (a:Pc S N h d R)(b:Pc S N d f g):Pc S N h f (R++g) :=
 ⟨SC a.fit b.fit,λi e=>(bj.1 e).elim (a.ok i) (b.ok i)⟩
theorem Pc.one {sh:Nat×Nat×Nat}(e:zY[c]?=some sh)(n:sh.2.1<=h)(l:h-sh.2.1+sh.2.2=d)(j:sh.1=0->x=0)(k:sh.1=1->-9223372036854775808<=x/\x<=9223372036854775807)(a:sh.1=2->0<=x/\x.toNat<S)(b:sh.1=3->0<=x/\x.toNat<N):Pc S N h d [(c,x)]:=by
 refine⟨?_,λi m=>?_⟩
 . rw[Mt,Nl,e];simp only;rw[ag ⟨n,a,b⟩,l];rfl
 rw[cu.1 m];exact⟨sh,e,j,k,a,b⟩
theorem Pc.push (a:-9223372036854775808<=x/\x<=9223372036854775807):Pc S N h (h+1) [(0,x)]:=Pc.one (sh:=(1,0,1)) rfl (aE _) rfl (λe=>by cases e) (λ_=>a) (λe=>by cases e) (λe=>by cases e)
theorem Pc.load {n:Nat}(a:n<S):Pc S N h (h+1) [(1,(n:Int))]:=Pc.one (sh:=(2,0,1)) rfl (aE _) rfl (λe=>by cases e) (λe=>by cases e) (λ_=>⟨by omega,by simpa using a⟩) (λe=>by cases e)
theorem Pc.store {n:Nat}(a:n<S):Pc S N (h+1) h [(2,(n:Int))]:=Pc.one (sh:=(2,1,0)) rfl (by simp) rfl (λe=>by cases e) (λe=>by cases e) (λ_=>⟨by omega,by simpa using a⟩) (λe=>by cases e)
theorem Pc.Ur {n:Nat}(a:n<N):Pc S N h (h+1) [(3,(n:Int))]:=Pc.one (sh:=(3,0,1)) rfl (aE _) rfl (λe=>by cases e) (λe=>by cases e) (λe=>by cases e) (λ_=>⟨by omega,by simpa using a⟩)
theorem Pc.aq {n:Nat}(a:n<N):Pc S N (h+2) h [(4,(n:Int))]:=Pc.one (sh:=(3,2,0)) rfl (by simp) rfl (λe=>by cases e) (λe=>by cases e) (λe=>by cases e) (λ_=>⟨by omega,by simpa using a⟩)
theorem Pc.choose {n:Nat}(a:n<S):Pc S N (h+2) (h+1) [(6,(n:Int))]:=Pc.one (sh:=(2,2,1)) rfl (by simp) rfl (λe=>by cases e) (λe=>by cases e) (λ_=>⟨by omega,by simpa using a⟩) (λe=>by cases e)
theorem Pc.oper {a:Nat}(b:zY[c]?=some (0,a,1)):Pc S N (h+a) (h+1) [(c,0)]:=Pc.one b (by simp) (by simp) (λ_=>rfl) (λe=>by cases e) (λe=>by cases e) (λe=>by cases e)
end
theorem U8:((List.range 24).all λk=>decide (k<10∨(zY[k-3]?=some (0,if k<=11 then 1 else 2,1))))=true:=by decide +kernel
theorem Vu {k:Nat}(h:10<=k)(a:k<24):zY[Pq k]?=some (0,if k<=11 then 1 else 2,1):=by
 have:=List.all_eq_true.1 U8 k (List.mem_range.2 a);simp only[decide_eq_true_eq] at this;unfold Pq;rw[ae (by omega)];rcases this with e|e
 . omega
 exact e
theorem OR (c:Nat)(x:Int)(h:c≠0):ML [(c,x)]<=2:=by
 have:∀c,c≠0->(zY.getD c (0,0,0)).1≠1:=by
  intro c h
  match c,h with
  | 1,_=>decide
  | 2,_=>decide
  | 3,_=>decide
  | 4,_=>decide
  | 5,_=>decide
  | 6,_=>decide
  | n+7,_ =>
    by_cases a:n<14
    . have:∀n,n<14->(zY.getD (n+7) (0,0,0)).1≠1:=by decide
      exact this n a
    rw[List.getD_eq_getElem?_getD,List.getElem?_eq_none (by simp[zY];omega)];decide
 unfold ML Ak;simp only[List.flatMap_cons,List.flatMap_nil,List.append_nil,bJ];unfold Na;rw[ae (this c h)];split <;> simp
theorem Ro (c:Nat)(x:Int):ML [(c,x)]<=9:=by unfold ML Ak;simp only[List.flatMap_cons,List.flatMap_nil,List.append_nil,bJ];have:=Ti (zY.getD c (0,0,0)).1 x;omega
def PU (x:Int):Prop:=-9223372036854775808<=x/\x<=9223372036854775807
structure Ly (K K':Cd) (lo hi a b w n:Nat):Prop where
 ex:∃R C,K'.row=K.row++R/\K'.cells=K.cells++C/\(∀x∈C,PU x)/\C.length<=n/\ML R<=w/\∀S N h,lo<=S->K'.al<=S->K'.cells.length<=N->Pc S N (h+a) (h+b) R
 dn:K'.dn=K.dn
 aG:K'.aG=K.aG
 s1:K.al<=K'.al
 s2:K'.al<=max K.al hi
section
variable {K i j:Cd} {f g a b d w n k l:Nat}
theorem Ly.cl (h:Ly K i f g a b w n):K.cells.length<=i.cells.length:=by obtain⟨R,C,_,e,_⟩:=h.ex;rw[e,aP];omega
theorem Ly.refl:Ly K K f g a a 0 0:=⟨⟨[],[],by simp,by simp,(λx e=>by cases e),an _,an _,λS N h _ _ _=>Pc.nil⟩,rfl,rfl,an _,by omega⟩
theorem Ly.trans (h:Ly K i f g a b w n)(e:Ly i j f g b d k l):Ly K j f g a d (w+k) (n+l):=by
 have y:=e.cl;obtain⟨R,C,s,t,u,A,B,v⟩:=h.ex;obtain⟨r,q,f1,f2,f3,f4,f5,f6⟩:=e.ex;refine⟨⟨R++r,C++q,by rw[f1,s,bw],by rw[f2,t,bw],λx z=>(bj.1 z).elim (u x) (f3 x),by rw[aP];omega,by rw[OB];omega,λS N x m o p=>?_⟩,e.dn.trans h.dn,e.aG.trans h.aG,aJ h.s1 e.s1,?_⟩
 . exact (v S N x m (aJ e.s1 o) (aJ y p)).kZ (f6 S N x m o p)
 have:=h.s2;have:=e.s2;omega
theorem Ly.up (h:Ly K i f g a b w n)(m:Nat):Ly K i f g (m+a) (m+b) w n:=by obtain⟨R,C,e,o,p,q,r,s⟩:=h.ex;exact⟨⟨R,C,e,o,p,q,r,λS N x t u v=>by have:=s S N (x+m) t u v;rwa [Nat.add_assoc,Nat.add_assoc] at this⟩,h.dn,h.aG,h.s1,h.s2⟩
theorem Ly.mono {lo' hi' w' n':Nat}(h:Ly K i f g a b w n)(v:f<=lo')(y:g<=hi')(z:w<=w')(A:n<=n'):Ly K i lo' hi' a b w' n':=by obtain⟨R,C,e,m,o,s,t,p⟩:=h.ex;exact⟨⟨R,C,e,m,o,by omega,by omega,λS N x u q r=>p S N x (by omega) q r⟩,h.dn,h.aG,h.s1,by have:=h.s2;omega⟩
theorem Ly.fv {R:List (Nat×Int)}(o:ML R<=w)(h:∀S N x,f<=S->K.cells.length<=N->Pc S N (x+a) (x+b) R):Ly K (K.fv R) f g a b w 0 :=
 ⟨⟨R,[],rfl,by show K.cells=_;simp,(λx p=>by cases p),an _,o,λS N x e _ m=>h S N x e m⟩,rfl,rfl,an _,by show K.al<=_;omega⟩
end
end
section
open Go.RowKit Go.Shelf
variable {N S:Nat} {k:Nat×Nat} {t:Tm}
theorem Rn:∀(l:List (Nat×Int)) (h:Nat),(∀i∈l,∃m:Nat,i=(2,(m:Int))/\m<S)->Pc S N (h+l.length) h l
 | [],h,_=>Pc.nil
 | i::l,h,a=>by obtain⟨m,rfl,c⟩:=a i (Mx ..);exact Pc.kZ (R:=[(2,(m:Int))]) (Pc.store c) (Rn l h (λj b=>a j (cS _ b)))
theorem Sd {S N:Nat}:∀(l:List (Nat×Int)) (h:Nat),(∀i∈l,∃m:Nat,i=(1,(m:Int))/\m<S)->Pc S N h (h+l.length) l
 | [],h,_=>Pc.nil
 | i::l,h,a=>by obtain⟨m,rfl,c⟩:=a i (Mx ..);have:=Sd (S:=S) (N:=N) l (h+1) (λj b=>a j (cS _ b));rw[show h+1+l.length=h+(l.length+1) by omega] at this;exact Pc.kZ (R:=[(1,(m:Int))]) (Pc.load c) this
theorem QJ:∀(l:List (Nat×Int)),(∀i∈l,i.1≠0)->ML l<=2*l.length
 | [],_=>an 0
 | i::l,h=>by have a:=OR i.1 i.2 (h i (Mx ..));have d:=QJ l (λj c=>h j (cS _ c));have:ML (i::l)=ML [i]+ML l:=OB [i] l;rw[this,bJ];have b:ML [i]<=2:=a;omega
def Oy (c:Sc)(k:Nat×Nat):Prop:=k.2=0∨k.1<=c.nd.ak.length
theorem QE (c:Sc)(i:Nat):Oy c (c.of i):=by
 unfold Oy Sc.of;cases c.nd.ak[i]? with
 | none=>exact .inl rfl
 | some v =>
   show (c.own v).2=0∨(c.own v).1<=c.nd.ak.length;unfold Sc.own;split
   . exact .inl rfl
   exact .inr (O8 c v.ck)
theorem UO (c:Sc)(k:Nat×Nat):Oy c (c.up k):=by
 unfold Sc.up;split
 . exact QE c _
 exact .inl rfl
theorem US {c:Sc}{i:Nat}(h:Oy c k):Oy c (c.operand t i k):=by
 unfold Sc.operand;split
 . exact QE c _
 split
 . exact .inr (O8 c t.s)
 exact h
theorem Rs (c:Sc)(b:Nat):∀(f:Nat) (k:Nat×Nat),Oy c k->ML (z8 c b f k)<=2+4*f/\∀S N h,b+c.nd.ak.length+1<=S->Pc S N h (h+1) (z8 c b f k)
 | 0,k,_=>⟨OR 1 _ (by decide),λS N h d=>Pc.load (by omega)⟩
 | f+1,k,j=>by
   rw[z8];split
   . exact⟨aJ (OR 1 _ (by decide)) (by omega),λS N h d=>Pc.load (by omega)⟩
   rename_i i
   obtain⟨q,m⟩:=Rs c b f (c.up k) (UO c k);have l:k.1<=c.nd.ak.length:=j.resolve_left i;have n:=OR 1 ((b+k.1:Nat):Int) (by decide);have e:z8 c b f (c.up k)++(1,((b+k.1:Nat):Int))::((if k.2=2 then [(8,0)] else [])++[(9,0)])=z8 c b f (c.up k)++([(1,((b+k.1:Nat):Int))]++((if k.2=2 then [(8,0)] else [])++[(9,0)])):=rfl;rw[e];refine⟨?_,λS N h d=>(m S N h d).kZ (Pc.kZ (Pc.load (by omega)) ?_)⟩
   . rw[OB,OB,OB];have o:ML (if k.2=2 then [((8:Nat),(0:Int))] else [])<=1:=(by split <;> decide);have p:ML [((9:Nat),(0:Int))]<=1:=(by decide);omega
   have g:Pc S N (h+1+1) (h+1) [(9,0)]:=Pc.oper (h:=h) (a:=2) rfl;split
   . exact (Pc.oper (h:=h+1) (a:=1) rfl).kZ g
   exact g
theorem Sf:∀t:Tm,Bk t=true->PU (MI t)
 | .mk k a s b n c,h=>by
   rw[Bk,Bool.and_eq_true,decide_eq_true_eq] at h;rw[MI];unfold PU;split
   . omega
   split
   . unfold wrap64;omega
   split <;> omega
theorem Vm:∀a:List Tm,ti a=true->PU (N1 a)
 | [],_=>by rw[N1];unfold PU;omega
 | t::l,h=>by rw[ti,Bool.and_eq_true] at h;rw[N1];exact Sf t h.1
def cz (m:List (ByteArray×Nat))(t:Tm):Nat:=((bh b8 t).map (fE m)).sum
def Og (m:List (ByteArray×Nat))(a:List Tm):Nat:=((cN b8 a).map (fE m)).sum
theorem Sx (m:List (ByteArray×Nat))(k a:Nat)(s:Xb)(c n:Nat)(b:List Tm):cz m (.mk k a s c n b)=fE m (.mk k a s c n b)+Og m b:=by unfold cz Og;rw[bh,ag (show b8 (.mk k a s c n b)=true from rfl),List.map_cons,List.sum_cons]
theorem QH (m:List (ByteArray×Nat))(t:Tm)(a:List Tm):Og m (t::a)=cz m t+Og m a:=by unfold cz Og;rw[cN,List.map_append,List.sum_append]
section
variable (c:Sc) (m:List (ByteArray×Nat)) (e:Sc->Nat->Prop)
inductive Gt:Tm->Nat->Prop
 | mk (k a:Nat) (s:Xb) (nm n:Nat) (ts:List Tm) (o:Nat) (ar:dJ k ts.length=true) (nn:Bk (.mk k a s nm n ts)=true)
    (cl:k=4->∃d,c.called s=some d/\d.nd.ah=ts.length/\d.nd.aG=o/\d.nd.ah+d.nd.aG<=d.nd.ak.length/\d.nd.ak.length<=16/\e d (fa s m)) (o1:k≠4->o=1) (hr:∀u∈ts,Gt u 1):Gt (.mk k a s nm n ts) o
structure SA (l:Lt):Prop where
 gt:Gt c m e l.next 1
 ck:Oy c l.clock
def Nv:List Lt->Nat
 | []=>0
 | l::r=>9*vz l.next+13600*cz m l.next+90+Nv r
def Nu:List Lt->Nat
 | []=>0
 | l::r=>cz m l.next+Nu r
theorem P3:∀(a b:List Lt),Nv m (a++b)=Nv m a+Nv m b
 | [],b=>by rw[List.nil_append];show _=0+_;omega
 | l::a,b=>by rw[List.cons_append,Nv,Nv,P3 a b];omega
theorem P4:∀(a b:List Lt),Nu m (a++b)=Nu m a+Nu m b
 | [],b=>by rw[List.nil_append];show _=0+_;omega
 | l::a,b=>by rw[List.cons_append,Nu,Nu,P4 a b];omega
end
structure Pt (c:Sc) (m:List (ByteArray×Nat)) (BD:Sc->Nat->Prop) (lo hi o pw pc:Nat) (s s':Cd×List Lt):Prop where
 ex:∃new w n,s'.2=s.2++new/\Ly s.1 s'.1 lo hi 0 o w n/\w+Nv m new<=pw/\n+Nu m new<=pc/\∀x∈new,SA c m BD x/\x.cell<s'.1.cells.length
def O2 (a:Sc->Nat->Cd->Cd)(b e:Nat)(d:Sc)(c:Nat):Prop:=∀K,Ly K (a d b K) 0 e 1 0 (13300+13600*c) c/\b+d.nd.ak.length+1<=(a d b K).al
section
variable {g:Sc->Nat->Cd->Cd} {c:Sc} {e f hi:Nat} {m:List (ByteArray×Nat)}
theorem UR {k n:Nat}(h:dJ k n=true):k<24:=by
 unfold dJ at h
 repeat' split at h
 all_goals first|omega|cases h
theorem Vq {d:Sc}{K:Cd}(V:f<=18)(U:c.called t.s=some d)(W:d.nd.ah=t.ts.length)(X:d.nd.ah+d.nd.aG<=d.nd.ak.length)(O:d.nd.ak.length<=16)(Y:Oy c k){z:Nat}(A:O2 g (e+c.nd.ak.length+1) hi d z) :
 Ly K (NK g c e f K t k) (e+c.nd.ak.length+1) hi t.ts.length d.nd.aG (13440+13600*z) z:=by
 unfold NK;rw[U];simp only;obtain⟨b,x⟩:∃b,b=e+c.nd.ak.length+1:=⟨_,rfl⟩;rw[<- x] at A ⊢;obtain⟨a,p⟩:∃a,(List.range t.ts.length).reverse.map (λi=>((2:Nat),((b+i:Nat):Int)))=a:=⟨_,rfl⟩;obtain⟨l,o⟩:∃l,(List.range d.nd.aG).map (λi=>((1:Nat),((b+(d.nd.ah+i):Nat):Int)))=l:=⟨_,rfl⟩;rw[p,o];have ls:a.length=t.ts.length:=by rw[<- p];simp
 have Z:l.length=d.nd.aG:=by rw[<- o];simp
 obtain⟨w1,w2⟩:=Rs c e f k Y;obtain⟨q,G⟩:=A ((K.fv a).fv (z8 c e f k));obtain⟨v,w⟩:∃v,g d b ((K.fv a).fv (z8 c e f k))=v:=⟨_,rfl⟩;rw[w] at q G ⊢;have B:∀S,b+d.nd.ak.length+1<=S->∀i∈a,∃n:Nat,i=(2,(n:Int))/\n<S:=λS Q i hi=>by rw[<- p] at hi;obtain⟨j,y,rfl⟩:=List.mem_map.1 hi;have:=List.mem_range.1 (List.mem_reverse.1 y);exact⟨b+j,rfl,by omega⟩
 have D:∀S,b+d.nd.ak.length+1<=S->∀i∈l,∃n:Nat,i=(1,(n:Int))/\n<S:=λS Q i hi=>by rw[<- o] at hi;obtain⟨j,y,rfl⟩:=List.mem_map.1 hi;have:=List.mem_range.1 y;exact⟨b+(d.nd.ah+j),rfl,by omega⟩
 have aA:=QJ a (λi hi=>by obtain⟨n,rfl,_⟩:=B _ (an _) i hi;exact (by decide:(2:Nat)≠0));have z2:=QJ l (λi hi=>by obtain⟨n,rfl,_⟩:=D _ (an _) i hi;exact (by decide:(1:Nat)≠0));obtain⟨R,C,H,I,J,L,e5,M⟩:=q.ex;have u:v.row=K.row++(a++z8 c e f k++R):=by
  rw[H]
  show K.row++a++z8 c e f k++R=_;simp
 refine⟨⟨a++z8 c e f k++R++l,C,?_,I,J,L,?_,λS N h T r P=>?_⟩,q.dn,q.aG,q.s1,q.s2⟩
 . show v.row++l=_;rw[u,bw]
 . rw[OB,OB,OB];omega
 have s:b+d.nd.ak.length+1<=S:=aJ G r;have E:=Rn (S:=S) (N:=N) a h (B S s);rw[ls] at E;have ar:=w2 S N h (by omega);have p3:=M S N h (aE _) r P;have F:=Sd (S:=S) (N:=N) l h (D S s);rw[Z] at F;exact ((E.kZ ar).kZ p3).kZ F
theorem UN {I:Sc->Nat->Prop}(X:f<=18)(V:∀d md,I d md->O2 g (e+c.nd.ak.length+1) hi d md){o:Nat}(hg:Gt c m I t o)(aV:Oy c k){s l:Cd×List Lt}(a0:Pt c m I (e+c.nd.ak.length+1) hi (if t.k=9 then 0 else t.ts.length) (if t.k=9 then 0 else 9*k8 t.ts+13600*Og m t.ts) (if t.k=9 then 0 else Og m t.ts) s l) :
 Pt c m I (e+c.nd.ak.length+1) hi o (9*vz t+13600*cz m t-2*(o-1)) (cz m t) s (zs g c e f l t k):=by
 cases hg with
 | mk x a q p n j o i nn cl o1 a4 =>
   have F:(Tm.mk x a q p n j).ts=j:=rfl;have hx:(Tm.mk x a q p n j).k=x:=rfl;have ar:(Tm.mk x a q p n j).s=q:=rfl;rw[F,hx] at a0;have Z:=UR i;obtain⟨A,w,M,P,C,Q,R,H⟩:=a0.ex;rw[qz,Sx];have B:∀(O:Nat) (y:Int) (b:Nat),ML [(O,y)]<=9->x≠4->x≠9->(∀S N h,e+c.nd.ak.length+1<=S->Pc S N (h+j.length) (h+1) [(O,y)])->Pt c m I (e+c.nd.ak.length+1) hi o (9*(1+k8 j)+13600*(fE m (.mk x a q p n j)+Og m j)-2*(o-1)) (fE m (.mk x a q p n j)+Og m j) s (l.1.add O y,l.2):=(by intro O y b a1 J T a3;rw[ae T] at C Q R;have L:=o1 J;subst L;have G:Ly l.1 (l.1.add O y) (e+c.nd.ak.length+1) hi j.length 1 9 0:=Ly.fv a1 (λS N h W _=>a3 S N h W);exact⟨A,w+9,M+0,P,C.trans G,by omega,by omega,λz hz=>⟨(H z hz).1,(H z hz).2⟩⟩);unfold zs;rw[hx,ar,F];split
   . rename_i h2
     refine B 0 _ 1 (Ro _ _) (by omega) (by omega) (λS N h _=>?_);have r:j.length=0:=(by unfold dJ at i;rw[ag (by omega)] at i;simpa using i);rw[r];exact Pc.push (Sf _ nn)
   split
   . rename_i h3
     refine B 1 _ 1 (aJ (OR 1 _ (by decide)) (by decide)) (by omega) (by omega) (λS N h W=>?_);have r:j.length=0:=(by unfold dJ at i;rw[ag (by omega)] at i;simpa using i);rw[r];exact Pc.load (by have:=O8 c q;omega)
   split
   . rename_i h7
     have r:j.length=1:=(by unfold dJ at i;rw[ae (by omega),ae (by omega),ae (by omega),ae (by omega),ag (by omega)] at i;simpa using i);rw[ae (by omega),r] at C;rw[ae (by omega)] at Q R;have L:=o1 (by omega);subst L;exact⟨A,w,M,P,C,by omega,by omega,H⟩
   split
   . rename_i h6
     refine B 6 _ 1 (aJ (OR 6 _ (by decide)) (by decide)) (by omega) (by omega) (λS N h W=>?_);have r:j.length=2:=(by unfold dJ at i;rw[ae (by omega),ae (by omega),ae (by omega),ag (by omega)] at i;simpa using i);rw[r];exact Pc.choose (by have:=O8 c q;omega)
   split
   . rename_i T
     have r:j.length=2:=(by unfold dJ at i;rw[ae (by omega),ae (by omega),ae (by omega),ae (by omega),ae (by omega),ag (by omega)] at i;simpa using i);rw[ag T] at C Q R;have L:=o1 (by omega);subst L;obtain⟨u,v,rfl⟩:∃u v,j=[u,v]:=by
      match j,r with
      | [u,v],_=>exact⟨u,v,rfl⟩
     have E:fE m (.mk x a q p n [u,v])=1:=(by unfold fE;rw[ag (show (Tm.mk x a q p n [u,v]).k=9 from T)]);have aL:ti [u,v]=true:=(by rw[Bk,Bool.and_eq_true] at nn;exact nn.2);have G:Ly l.1 ((l.1.cell (N1 [u,v])).add 3 l.1.cells.length) (e+c.nd.ak.length+1) hi 0 1 2 1:=by
      refine⟨⟨[(3,(l.1.cells.length:Int))],[N1 [u,v]],rfl,rfl,λz hz=>?_,an _,OR 3 _ (by decide),λS N h _ _ hN=>?_⟩,rfl,rfl,an _,by show l.1.al<=_;omega⟩
      . rw[cu.1 hz];exact Vm _ aL
      refine Pc.Ur ?_;have:(l.1.cells++[N1 [u,v]]).length<=N:=hN;simp at this;omega
     have Y:((l.1.cell (N1 [u,v])).add 3 l.1.cells.length).cells.length=l.1.cells.length+1:=(by show (l.1.cells++[N1 [u,v]]).length=_;simp);rw[E];have a5:=zf u [v];have q2:=zf v [];have q3:=QH m u [v];have q4:=QH m v [];have q5:=Y9;refine⟨A++[⟨l.1.cells.length,v,k⟩],w+2,M+1,by show l.2++_=_;rw[P,bw],C.trans G,?_,?_,λz hz=>?_⟩
     . rw[P3,Nv,Nv];show w+2+(Nv m A+(9*vz v+13600*cz m v+90+0))<=_;omega
     . rw[P4,Nu,Nu];show M+1+(Nu m A+(cz m v+0))<=_;omega
     show _/\_<((l.1.cell (N1 [u,v])).add 3 l.1.cells.length).cells.length;rw[Y];rcases bj.1 hz with hz|hz
     . have:=H z hz;exact⟨this.1,by omega⟩
     rw[cu.1 hz];exact⟨⟨a4 v (by simp),aV⟩,cf _⟩
   split
   . rename_i J
     obtain⟨d,d1,d2,d3,d4,d5,d6⟩:=cl J;rw[ae (by omega)] at C Q R;have G:=Vq (t:=.mk x a q p n j) (K:=l.1) X d1 d2 d4 d5 aV (V d _ d6);rw[F,d3] at G;have E:fE m (.mk x a q p n j)=1+fa q m:=(by unfold fE;rw[ae (show ¬(Tm.mk x a q p n j).k=9 by rw[hx];omega),ag (show (Tm.mk x a q p n j).k=4 from J)];rfl);have a2:=G.cl;rw[E];refine⟨A,w+(13440+13600*fa q m),M+fa q m,P,C.trans G,by omega,by omega,λz hz=>⟨(H z hz).1,by have:=(H z hz).2;show z.cell<(NK g c e f l.1 _ k).cells.length;omega⟩⟩
   rename_i h1 h2 h3 J h5 h6
   refine B (Pq x) 0 1 (Ro _ _) h6 h5 (λS N h _=>?_);by_cases U:x=5
   . have r:j.length=3:=(by unfold dJ at i;rw[ae (by omega),ae (by omega),ag (by omega)] at i;simpa using i);rw[r,U];exact Pc.oper (a:=3) rfl
   have aA:=Vu (k:=x) (by omega) Z;have r:j.length=if x<=11 then 1 else 2:=by
    unfold dJ at i;rw[ae (by omega),ae (by omega),ae (by omega),ae (by omega),ae (by omega),ae (by omega)] at i;by_cases D:x<=11
    . rw[ag D] at i ⊢;simpa using i
    rw[ae D,ag (by omega)] at i;rw[ae D];simpa using i
   rw[r];exact Pc.oper aA
theorem Sw {r:Sc->Nat->Prop}(D:f<=18)(C:∀d P,r d P->O2 g (e+c.nd.ak.length+1) hi d P):∀(t:Tm) (o:Nat),Gt c m r t o->∀(k:Nat×Nat),Oy c k->∀s:Cd×List Lt,
 Pt c m r (e+c.nd.ak.length+1) hi o (9*vz t+13600*cz m t-2*(o-1)) (cz m t) s (My g c e f s t k):=by
 intro t;induction t using Tm.ind with
 | h x a q p n b Z =>
   intro o M k O s;have X:∀u∈b,Gt c m r u 1:=(by cases M;assumption);have W:∀(l:List Tm) (i:Nat) (s:Cd×List Lt),(∀u∈l,u∈b)->Pt c m r (e+c.nd.ak.length+1) hi l.length (9*k8 l+13600*Og m l) (Og m l) s (gu c (λt _=>gH t) (λs _ _=>s) (zs g c e f) (.mk x a q p n b) k l i s):=by
    intro l;induction l with
    | nil=>intro i s _;rw[gu];exact⟨[],0,0,by simp,Ly.refl,by show 0+0<=_;omega,by show 0+0<=_;omega,λz hz=>by cases hz⟩
    | cons u l I =>
      intro i s w;rw[gu];obtain⟨n1,w1,T,y,A,a3,a4,B⟩:=(Z u (w u (Mx ..)) 1 (X u (w u (Mx ..))) (c.operand (.mk x a q p n b) i k) (US O) s).ex;unfold My at y A B;obtain⟨J,F⟩:∃J,gK c (λt _=>gH t) (λs _ _=>s) (zs g c e f) u (c.operand (.mk x a q p n b) i k) s=J:=⟨_,rfl⟩;rw[F] at y A B ⊢;obtain⟨n2,w2,U,Q,K,b3,b4,R⟩:=(I (i+1) J (λv Y=>w v (cS _ Y))).ex;have L:=K.up 1;rw[show 1+0=1 from rfl,Nat.add_comm 1 l.length] at L;have V:=K.cl;refine⟨n1++n2,w1+w2,T+U,by rw[Q,y,bw],A.trans L,?_,?_,λz hz=>?_⟩
      . rw[P3,zf,QH];omega
      . rw[P4,QH];omega
      rcases bj.1 hz with hz|hz
      . have:=B z hz;exact⟨this.1,by omega⟩
      exact R z hz
   unfold My;rw[gK];refine UN D C M O ?_;have H:(Tm.mk x a q p n b).k=x:=rfl;have G:(Tm.mk x a q p n b).ts=b:=rfl;rw[H,G];by_cases j:x=9
   . have E:gH (.mk x a q p n b)=false:=(by unfold gH;rw[H,j];rfl);rw[ae (show ¬(gH (Tm.mk x a q p n b)=true) by rw[E];decide),ag j,ag j,ag j];exact⟨[],0,0,by simp,Ly.refl,an _,an _,λz hz=>by cases hz⟩
   have E:gH (.mk x a q p n b)=true:=(by unfold gH;rw[H];simpa using j);rw[ag E,ae j,ae j,ae j];exact W b 0 s (λu w=>w)
end
end
section
section
variable (g:Qn->Nat)
def OC:List Bool->List Qn->Nat
 | b::a,q::c=>(if b=true then 0 else g q)+OC a c
 | _,_=>0
theorem Sb:∀{bs:Xk} {qs:List Qn} {i:Nat} {q:Qn},bs[i]?=some false->qs[i]?=some q->OC g (bs.set i true) qs+g q=OC g bs qs
 | b::bs,x::qs,0,q,a,c=>by simp at a c;subst a c;rw[Mb,OC,OC,ag rfl,ae (by decide)];omega
 | b::bs,x::qs,i+1,q,a,c=>by have:=Sb (bs:=bs) (qs:=qs) (i:=i) (q:=q) (by simpa using a) (by simpa using c);rw[Q5,OC,OC];omega
 | [],_,_,_,a,_=>by simp at a
 | _::_,[],_,_,_,c=>by simp at c
def O3 (s:Os)(a:List Qn):Nat:=(s.2.map g).sum+OC g s.1 a
theorem Sp (c:Sc)(L:List (Nat×Nat))(a:List Qn):∀(f i:Nat) (s:Os),s.1.length=a.length->O3 g (Mv c L a f i s) a<=O3 g s a
 | 0,i,s,_=>an _
 | f+1,i,s,b=>by
   have p:∀(q:Qn) (l:List Qn) (j:Nat) (s:Os),s.1.length=a.length->O3 g (Nc (Mv c L a f) c L q l j s) a<=O3 g s a:=by
    intro q l;induction l with
    | nil=>intro j s _;exact an _
    | cons o l m =>
      intro j s b;rw[Nc];split
      . exact aJ (m (j+1) _ (by rw[(QW c L a f j s).1];exact b)) (Sp c L a f j s b)
      exact m (j+1) s b
   rw[Mv];cases k:a[i]? with
   | none=>exact an _
   | some q =>
     simp only;split
     . exact an _
     rename_i d
     have u:=(aB.1 k).1;have n:s.1[i]?=some false:=by
      have e:=av (show i<s.1.length by omega);rw[List.getD_eq_getElem?_getD,e] at d;rw[e];cases r:s.1[i] with
      | false=>rfl
      | true=>rw[r] at d;exact absurd rfl d
     have t:=Sb g n k;have h:=p q a 0 (s.1.set i true,s.2) (by simpa using b);generalize Nc (Mv c L a f) c L q a 0 (s.1.set i true,s.2)=P at *;unfold O3 at h ⊢;simp only[List.map_append,List.map_cons,List.map_nil,List.sum_append,List.sum_cons,List.sum_nil] at h ⊢;omega
theorem Rt (c:Sc):((Mr c).map g).sum<=(c.nd.eqs.map g).sum:=by
 have e:∀(n m:Nat) (s:Os),s.1.length=c.nd.eqs.length->O3 g (OV (Mv c c.hI c.nd.eqs c.nd.eqs.length) n m s) c.nd.eqs<=O3 g s c.nd.eqs:=by
  intro n m;induction m with
  | zero=>intro s _;exact an _
  | succ m b => intro s d;rw[OV];exact aJ (b _ (by rw[(QW c c.hI c.nd.eqs c.nd.eqs.length _ s).1];exact d)) (Sp g c _ _ _ _ s d)
 have f:∀a:List Qn,OC g (List.replicate a.length false) a=(a.map g).sum:=by
  intro a;induction a with
  | nil=>rfl
  | cons q a b=>rw[bJ,List.replicate_succ,OC,b,ae (by decide),List.map_cons,List.sum_cons]
 have:=e c.nd.eqs.length c.nd.eqs.length (List.replicate c.nd.eqs.length false,[]) (by simp);unfold O3 at this;unfold Mr;rw[f] at this;simp only[List.map_nil,List.sum_nil] at this;omega
end
section
variable {u:Sc->Nat->Cd->Cd} {c:Sc} {b p f:Nat} {m:List (ByteArray×Nat)} {v:Sc->Nat->Prop}
theorem Vy {t:Tm}{o:Nat}(h:Gt c m v t o)(r:2<=o):1<=cz m t:=by
 cases h with
 | mk k a s d n g o l x q j w =>
   have i:k=4:=Classical.byContradiction λe=>by have:=j e;omega
   rw[Sx];unfold fE;rw[ae (show ¬(Tm.mk k a s d n g).k=9 by show ¬k=9;omega),ag (show (Tm.mk k a s d n g).k=4 from i)];omega
def PY (m:List (ByteArray×Nat))(q:Qn):Nat:=9*vz q.r+13600*cz m q.r+2
theorem SI (r:p<=18)(o:∀d F,v d F->O2 u (b+c.nd.ak.length+1) f d F):∀(l:List Qn),(∀q∈l,Gt c m v q.r q.ns.length/\1<=q.ns.length/\q.ns.length<=16)->∀s:Cd×List Lt,
 Pt c m v (b+c.nd.ak.length+1) f 0 (l.map (PY m)).sum (l.map λq=>cz m q.r).sum s (ME u c b p l s)
 | [],_,s=>⟨[],0,0,by simp[ME],by rw[ME];exact Ly.refl,an _,an _,λz hz=>by cases hz⟩
 | q::l,D,s=>by
   obtain⟨G,q2,q3⟩:=D q (Mx ..);rw[ME];obtain⟨R,U,K,x,y,W,X,A⟩:=(Sw (hi:=f) r o q.r q.ns.length G (c.of (c.idx (q.ns.headD ⟨#[]⟩))) (QE c _) s).ex;obtain⟨a,w⟩:∃a,My u c b p s q.r (c.of (c.idx (q.ns.headD ⟨#[]⟩)))=a:=⟨_,rfl⟩;rw[w] at x y A ⊢;obtain⟨g,k⟩:∃g,Ny c b (MS (NJ q.ns q.ps) q.ns.length q.ns.length)=g:=⟨_,rfl⟩;rw[k];have Q:g.length=q.ns.length:=(by rw[<- k];unfold Ny;rw[List.length_map,QO]);have E:∀i∈g,∃n:Nat,i=(2,(n:Int))/\n<b+c.nd.ak.length+1:=λi f=>by rw[<- k] at f;unfold Ny at f;obtain⟨j,_,rfl⟩:=List.mem_map.1 f;exact⟨b+c.idx j.2.1,rfl,by have:=O8 c j.2.1;omega⟩
   have aA:=QJ g (λi f=>by obtain⟨n,rfl,_⟩:=E i f;exact (by decide:(2:Nat)≠0));have P:Ly a.1 (a.1.fv g) (b+c.nd.ak.length+1) f q.ns.length 0 (2*q.ns.length) 0:=Ly.fv (by omega) (λS N h Z _=>by
    have:=Rn (S:=S) (N:=N) g h (λi f=>by obtain⟨n,e,ar⟩:=E i f;exact⟨n,e,by omega⟩);rw[Q] at this;exact this)
   obtain⟨T,V,L,H,B,I,Y,J⟩:=(SI r o l (λq O=>D q (cS _ O)) (a.1.fv g,a.2)).ex;have t:=B.cl;have C:a.1.cells.length<=(ME u c b p l (a.1.fv g,a.2)).1.cells.length:=t;refine⟨R++T,U+2*q.ns.length+V,K+0+L,by rw[H,x,bw],(y.trans P).trans B,?_,?_,λz hz=>?_⟩
   . rw[P3,List.map_cons,List.sum_cons];unfold PY at I ⊢;by_cases M:2<=q.ns.length
     . have:=Vy G M;omega
     omega
   . rw[P4,List.map_cons,List.sum_cons];omega
   rcases bj.1 hz with hz|hz
   . have:=A z hz;exact⟨this.1,by omega⟩
   exact J z hz
theorem So (i:p<=18)(e:∀d w,v d w->O2 u (b+c.nd.ak.length+1) f d w):∀(g:Nat) (s:Cd×List Lt),(∀x∈s.2,SA c m v x/\x.cell<s.1.cells.length) ->
 Ly s.1 (NI u c b p g s) (b+c.nd.ak.length+1) f 0 0 (Nv m s.2) (Nu m s.2)
 | 0,s,_=>Ly.refl.mono (an _) (an _) (aE _) (aE _)
 | g+1,s,t=>by
   obtain⟨K,G⟩:=s;cases G with
   | nil=>exact Ly.refl.mono (an _) (an _) (aE _) (aE _)
   | cons x r =>
     obtain⟨o,J⟩:=t x (Mx ..);obtain⟨U,H⟩:=Rs c b p x.clock o.ck;have C:Ly K (K.fv (z8 c b p x.clock)) (b+c.nd.ak.length+1) f 0 1 74 0:=Ly.fv (by omega) (λS N h A _=>H S N h A);obtain⟨j,I,y,k,l,M,O,q⟩:=(Sw (hi:=f) i e x.next 1 o.gt x.clock o.ck (K.fv (z8 c b p x.clock),r)).ex
     show Ly K (NI u c b p g ((My u c b p (K.fv (z8 c b p x.clock),r) x.next x.clock).1.add 4 x.cell,(My u c b p (K.fv (z8 c b p x.clock),r) x.next x.clock).2)) _ _ 0 0 (Nv m (x::r)) (Nu m (x::r));obtain⟨a,n⟩:∃a,My u c b p (K.fv (z8 c b p x.clock),r) x.next x.clock=a:=⟨_,rfl⟩;rw[n] at k l q ⊢;have B:K.cells.length<=a.1.cells.length:=l.cl;have L:x.cell<K.cells.length:=J;have D:=l.up 1;have E:Ly a.1 (a.1.add 4 x.cell) (b+c.nd.ak.length+1) f 2 0 2 0:=Ly.fv (OR 4 _ (by decide)) (λS N h _ T=>Pc.aq (by omega));have F:=So i e g (a.1.add 4 x.cell,a.2) (λz hz=>by
      show _/\z.cell<a.1.cells.length;rw[show a.2=r++j from k] at hz;rcases bj.1 hz with hz|hz
      . have:=t z (cS _ hz);exact⟨this.1,by have R:z.cell<K.cells.length:=this.2;omega⟩
      exact q z hz)
     have P:Nv m a.2=Nv m r+Nv m j:=(by rw[show a.2=r++j from k,P3]);have Q:Nu m a.2=Nu m r+Nu m j:=(by rw[show a.2=r++j from k,P4]);have:=((C.trans D).trans E).trans F;refine this.mono (an _) (an _) ?_ ?_
     . show 74+I+2+Nv m a.2<=9*vz x.next+13600*cz m x.next+90+Nv m r;omega
     show 0+y+0+Nu m a.2<=cz m x.next+Nu m r;omega
end
theorem UY {i b f:Nat}{c:Sc}{a s j:Nat}{m:List (ByteArray×Nat)}{BD:Sc->Nat->Prop}(r:i<=18)(p:∀d j,BD d j->O2 (MQ i b f) (a+c.nd.ak.length+1) s d j)(T:a+c.nd.ak.length+1<=s)(V:∀q∈c.nd.eqs,Gt c m BD q.r q.ns.length/\1<=q.ns.length/\q.ns.length<=16)(hv:(c.nd.eqs.map λq=>vz q.r).sum<=1201)(hm:(c.nd.eqs.map λq=>cz m q.r).sum=j):O2 (MQ i b (f+1)) a s c j:=by
 intro K;rw[MQ];obtain⟨g,e⟩:∃g,(K.NR (a+c.nd.ak.length+1)).add 2 ((a+c.nd.ak.length:Nat):Int)=g:=⟨_,rfl⟩;rw[e];have ar:g.al=max K.al (a+c.nd.ak.length+1):=by rw[<- e];rfl
 have W:Ly K g (a+c.nd.ak.length+1) s 1 0 2 0:=by refine⟨⟨[(2,((a+c.nd.ak.length:Nat):Int))],[],by rw[<- e];rfl,by rw[<- e];show K.cells=_;simp,(λx t=>by cases t),an _,OR 2 _ (by decide),λS N h v _ _=>Pc.store (by omega)⟩,by rw[<- e];rfl,by rw[<- e];rfl,by omega,by omega⟩
 obtain⟨A,w1,c1,B,u,Y,Z,D⟩:=(SI r p (Mr c) (λq w=>V q (RN c q w)) (g,[])).ex;obtain⟨k,y⟩:∃k,ME (MQ i b f) c a i (Mr c) (g,[])=k:=⟨_,rfl⟩;rw[y] at B u D ⊢;have o:k.2=A:=B;have z:=So (m:=m) r p b k (λx t=>D x (by rw[o] at t;exact t));rw[o] at z;have X:=Rt (PY m) c;have o2:=Rt (λq=>cz m q.r) c;have P:∀l:List Qn,(l.map (PY m)).sum=9*(l.map λq=>vz q.r).sum+13600*(l.map λq=>cz m q.r).sum+2*l.length:=by
  intro l;induction l with
  | nil=>rfl
  | cons q l F=>simp only[List.map_cons,List.sum_cons,bJ,F];unfold PY;omega
 have U:c.nd.eqs.length<=(c.nd.eqs.map λq=>vz q.r).sum:=by
  have:∀l:List Qn,l.length<=(l.map λq=>vz q.r).sum:=by
   intro l;induction l with
   | nil=>exact an _
   | cons q l F =>
     have:1<=vz q.r:=by cases q.r;rw[qz];omega
     simp only[List.map_cons,List.sum_cons,bJ];omega
  exact this _
 rw[P c.nd.eqs] at X;have L:=(W.trans u).trans z;have E:a+c.nd.ak.length+1<=(NI (MQ i b f) c a i b k).al:=by have h1:g.al<=k.1.al:=u.s1;have h2:=z.s1;omega
 refine⟨?_,E⟩;have n:=L.mono (lo':=a+c.nd.ak.length+1) (hi':=s) (w':=13300+13600*j) (n':=j) (an _) (an _) (by omega) (by omega);obtain⟨R,C,G,H,I,J,M,O⟩:=n.ex;exact⟨⟨R,C,G,H,I,J,M,λS N h _ v Q=>O S N h (aJ E v) v Q⟩,n.dn,n.aG,n.s1,n.s2⟩
end
section
variable {ns:List ay}
theorem Fe (l:Xn):iK l=l.sum:=by
 have:∀(l:Xn) (a:Nat),l.foldl (·+·) a=a+l.sum:=by
  intro l;induction l with
  | nil=>intro a;simp
  | cons x l b=>intro a;rw[List.foldl_cons,b,List.sum_cons];omega
 unfold iK;rw[this];omega
def ha (ns:List ay):Nat->List (ByteArray×Nat)
 | 0=>[]
 | k+1=>match ns[k]? with
   | none=>ha ns k
   | some n=>(n.nm,hl n (ha ns k))::ha ns k
def MK (ns:List ay)(k:Nat):Nat:=match ns[k]? with
 | none=>0
 | some n=>hl n (ha ns k)
def q9 (ns:List ay):Prop:=∀(i j:Nat) (n m:ay),ns[i]?=some n->ns[j]?=some m->n.nm=m.nm->i=j
theorem wE (g:q9 ns):∀(k:Nat),k<=ns.length->∀(f:Nat) (n:ay),f<k->ns[f]?=some n->fa n.nm (ha ns k)=MK ns f
 | 0,_,f,n,h,_=>by omega
 | k+1,i,f,n,h,c=>by
   obtain⟨m,b⟩:∃m,ns[k]?=some m:=⟨_,av (by omega)⟩;rw[ha,b];simp only;rw[fa];by_cases a:f=k
   . subst a;rw[b] at c;cases c;rw[ag rfl,MK,b]
   have d:¬m.nm=n.nm:=λe=>a (g f k n m c b e.symm);rw[ae d];exact wE g k (by omega) f n (by omega) c
theorem E7 {ns:List ay}:∀(j k x:Nat),k+j+1=ns.length->hr (ns.drop k) (ha ns k) x=MK ns (ns.length-1)
 | 0,k,x,h=>by obtain⟨n,a⟩:∃n,ns[k]?=some n:=⟨_,av (by omega)⟩;rw[dE (show k<ns.length by omega),(aB.1 a).2,hr,List.drop_of_length_le (by omega),hr,show ns.length-1=k by omega,MK,a]
 | j+1,k,x,h=>by obtain⟨n,a⟩:∃n,ns[k]?=some n:=⟨_,av (show k<ns.length by omega)⟩;have:=E7 (ns:=ns) j (k+1) (hl n (ha ns k)) (by omega);rw[ha,a] at this;rw[dE (show k<ns.length by omega),(aB.1 a).2,hr];exact this
end
section
theorem wu:∀(n:Nat) (l:Xn),(∀x∈l,x<n)->l.Nodup->l.length<=n
 | 0,l,h,_=>by
   cases l with
   | nil=>exact an _
   | cons x l=>exact absurd (h x (Mx ..)) (Nat.not_lt_zero _)
 | n+1,l,h,b=>by
   have a:=wu n (l.erase n) (λx c=>by
    have:=h x (List.mem_of_mem_erase c);have:=(b.mem_erase_iff.1 c).1;omega) (b.erase n)
   rw[List.length_erase] at a;split at a <;> omega
end
section
variable {n:Nat} {g:Nat->Option Nat}
def c7 (g:Nat->Option Nat):Nat->Nat->Option Nat
 | 0,p=>some p
 | m+1,p=>(g p).bind (c7 g m)
theorem oM (b:Nat):∀(a p:Nat),c7 g (a+b) p=(c7 g a p).bind (c7 g b)
 | 0,p=>by rw[Nat.zero_add];rfl
 | a+1,p=>by rw[show a+1+b=(a+b)+1 by omega,c7,c7,Option.bind_assoc];congr 1;funext q;exact oM b a q
theorem FI {m p x:Nat}(c:∀i j,g i=some j->j<n)(d:p<n)(h:c7 g m p=some x):x<n:=by
 induction m generalizing p with
 | zero=>cases h;exact d
 | succ m e => rw[c7] at h;obtain⟨j,a,b⟩:=Option.bind_eq_some_iff.1 h;exact e (c _ _ a) b
theorem FF {f:Nat->Nat}(k:∀x,x<=n->f x<n):∃a b,a<b/\b<=n/\f a=f b:=by
 refine Classical.byContradiction λh=>?_;have d:((List.range (n+1)).map f).Nodup:=by rw[List.Nodup,List.pairwise_map];refine List.Pairwise.imp_of_mem ?_ List.pairwise_lt_range;intro a b _ j c e;exact h ⟨a,b,c,by have:=List.mem_range.1 j;omega,e⟩
 have:=wu n _ (λx l=>by obtain⟨a,i,rfl⟩:=List.mem_map.1 l;exact k a (by have:=List.mem_range.1 i;omega)) d;simp at this;omega
end
section
variable {s:Xb} {m:List (ByteArray×Nat)} {gas k:Nat} {n:ay} {q:Qn} {w:Sc->Nat->Prop} {t u:Tm} {g:Tm->Bool}
structure P0 (ns:List ay):Prop where
 wf:∀n∈ns,gP n
 mW:ns.length<=6
 sz:∀n∈ns,(n.eqs.map λq=>vz q.r).sum<=1201
 nm:∀n∈ns,∀q∈n.eqs,Bk q.r=true
 names:∀k n,ns[k]?=some n->(Sc.mk (ns.take k) n).cG=[]
 R8:∀k n,ns[k]?=some n->(Sc.mk (ns.take k) n).e4=[]
section
variable {b:List ay}
theorem Sm {d:Sc}(h:(Sc.mk (b.take k) n).called s=some d):∃i f,i<k/\b[i]?=some f/\d=⟨b.take i,f⟩/\f.nm=s:=by
 unfold Sc.called at h;simp only at h;cases e:fX s (b.take k) 0 with
 | none=>rw[e] at h;cases h
 | some i => rw[e] at h;simp only at h;obtain⟨_,j,v,c,l⟩:=iC e;rw[Nat.sub_zero] at c;rw[c] at h;simp only at h;have a:i<k:=(by rw[Nat.zero_add,List.length_take] at j;omega);rw[List.getElem?_take,ag a] at c;refine⟨i,v,a,c,?_,l⟩;cases h;rw[List.take_take,Nat.min_eq_left (by omega)]
theorem Se:∀{l:List ay} {i:Nat} {n:ay},n∈l->n.nm=s->(fX s l i).isSome=true
 | m::l,i,n,h,a=>by
   unfold fX;split
   . rfl
   rename_i c
   rcases cC.1 h with rfl|h
   . exact absurd a c
   exact Se h a
theorem UK (h:P0 b):q9 b:=by
 have a:∀(i j:Nat) (n m:ay),i<j->b[i]?=some n->b[j]?=some m->n.nm=m.nm->False:=by
  intro i j n m f d c e;have h1:=h.names j m c;unfold Sc.cG at h1;rw[ec,ec,ec] at h1;have o:=h1.1.1.1;have y:=Se (s:=m.nm) (l:=b.take j) (i:=0) (n:=n) (aM (i:=i) (by rw[List.getElem?_take,ag f];exact d)) e;obtain⟨x,r⟩:=Option.isSome_iff_exists.1 y;obtain⟨_,A,v,p,_⟩:=iC r;rw[Nat.sub_zero] at p;have z:((Sc.mk (b.take j) m).called m.nm).isSome=true:=by unfold Sc.called;simp only;rw[r];simp only;rw[p];rfl
  rw[ag z] at o;cases o
 intro i j n m d c e;rcases Nat.lt_trichotomy i j with h1|h1|h1
 . exact (a i j n m h1 d c e).elim
 . exact h1
 exact (a j i m n h1 c d e.symm).elim
theorem Ss {c:Sc}(h:c.cG=[])(l:q∈c.nd.eqs)(o:u∈bh b8 q.r)(j:u.k=4):∃d,c.called u.s=some d/\d.nd.ah=u.ts.length/\d.nd.aG=hp q u:=by
 unfold Sc.cG at h;rw[ec] at h;have e:=mw (mw h.2 q l) u o;unfold fF at e;rw[ec] at e;have f:=e.2;cases a:c.fits u (hp q u) with
 | false=>rw[a,j] at f;simp at f
 | true =>
   unfold Sc.fits at a;split at a
   . cases a
   rename_i d i
   simp only[Bool.and_eq_true,beq_iff_eq] at a;exact⟨d,i,a.1,a.2⟩
theorem vS:∀{l:List Tm},u∈cN g l->∃t∈l,u∈bh g t
 | [],h=>by rw[cN] at h;cases h
 | t::l,h=>by
   rw[cN] at h;rcases bj.1 h with h|h
   . exact⟨t,Mx ..,h⟩
   obtain⟨d,a,c⟩:=vS h;exact⟨d,cS _ a,c⟩
theorem Rq:∀{l:List Tm},t∈l->u∈bh g t->u∈cN g l
 | x::l,h,a=>by
   rw[cN];rcases cC.1 h with rfl|h
   . exact List.mem_append_left _ a
   exact List.mem_append_right _ (Rq h a)
theorem P1 (t:Tm):t∈bh b8 t:=by cases t;rw[bh];exact Mx ..
theorem QD (h:u∈t.ts):u∈bh b8 t:=by
 cases t with
 | mk k a s c n d => rw[bh,ag (show b8 (.mk k a s c n d)=true from rfl)];exact cS _ (Rq h (P1 u))
theorem QG:∀(r:Tm) {t u:Tm},t∈bh b8 r->u∈bh b8 t->u∈bh b8 r:=by
 intro r;induction r using Tm.ind with
 | h k a s e n f j =>
   intro t u ht d;rw[bh,ag (show b8 (.mk k a s e n f)=true from rfl)] at ht;rcases cC.1 ht with rfl|ht
   . exact d
   obtain⟨l,c,i⟩:=vS ht;rw[bh,ag (show b8 (.mk k a s e n f)=true from rfl)];exact cS _ (Rq c (j l c i d))
theorem Vs:∀(r:Tm) {t:Tm},t∈bh b8 r->cc t<=cc r:=by
 intro r;induction r using Tm.ind with
 | h k a s f n j e =>
   intro t ht;rw[bh,ag (show b8 (.mk k a s f n j)=true from rfl)] at ht;rcases cC.1 ht with rfl|ht
   . exact an _
   obtain⟨i,c,d⟩:=vS ht;have:=e i c d;have:=mA c;rw[cc];omega
theorem SH {l:Xn}{x:Nat}(h:x∈l):x<=l.sum:=by
 induction l with
 | nil=>cases h
 | cons y l a =>
   rw[List.sum_cons];rcases cC.1 h with rfl|h
   . omega
   have:=a h;omega
theorem U4 (h:u∈bh b8 t):fE m u<=cz m t:=SH (List.mem_map.2 ⟨u,h,rfl⟩)
def Rv (c:Sc)(m:List (ByteArray×Nat))(w:Sc->Nat->Prop)(u:Tm)(o:Nat):Prop:=∃d,c.called u.s=some d/\d.nd.ah=u.ts.length/\d.nd.aG=o/\d.nd.ah+d.nd.aG<=d.nd.ak.length/\d.nd.ak.length<=16/\w d (fa u.s m)
theorem UM {c:Sc}:∀t:Tm,Wf t->Bk t=true->(∀u∈bh b8 t,u.k=4->Rv c m w u 1)->Gt c m w t 1:=by
 intro t;induction t using Tm.ind with
 | h k a s o n p v => intro l j i;have d:=j;rw[Bk,Bool.and_eq_true] at d;exact .mk k a s o n p 1 l.ar j (λf=>i _ (P1 _) f) (λ_=>rfl) (λu e=>v u e (l.sub e) (TU d.2 e) (λx r f=>i x (QG _ (QD (show u∈(Tm.mk k a s o n p).ts from e)) r) f))
theorem Vv {c:Sc}(r:Wf q.r)(p:Bk q.r=true)(C:1<=q.ns.length)(v:2<=q.ns.length->q.r.k=4)(o:∀u∈bh b8 q.r,u.k=4->Rv c m w u (hp q u)):Gt c m w q.r q.ns.length:=by
 have d:hp q q.r=q.ns.length:=by unfold hp;rw[ag rfl]
 have e:∀u∈bh b8 q.r,cc u<cc q.r->hp q u=1:=λu _ h=>by unfold hp;rw[ae (by omega)]
 cases B:q.r with
 | mk k a s z n A =>
   rw[B] at r p o d e v;have i:=p;rw[Bk,Bool.and_eq_true] at i;refine .mk k a s z n A _ r.ar p (λf=>?_) (λf=>?_) (λu l=>UM u (r.sub l) (TU i.2 l) (λx y f=>?_))
   . have:=o _ (P1 _) f;rw[d] at this;exact this
   . have:¬2<=q.ns.length:=λh=>f (v h);omega
   have j:=QG _ (QD (show u∈(Tm.mk k a s z n A).ts from l)) y;have:=o x j f;rw[e x j (by have:=Vs u y;have:=mA l;rw[cc];omega)] at this;exact this
theorem Vp (a:b[k]?=some n)(h:MK b k<=60):(n.eqs.map λq=>cz (ha b k) q.r).sum=MK b k:=by
 have e:∀l:List Qn,((l.flatMap λq=>bh b8 q.r).map (fE (ha b k))).sum=(l.map λq=>cz (ha b k) q.r).sum:=by
  intro l;induction l with
  | nil=>rfl
  | cons q l c=>rw[List.flatMap_cons,List.map_append,List.sum_append,c,List.map_cons,List.sum_cons];rfl
 unfold MK at h ⊢;rw[a] at h ⊢;simp only at h ⊢;unfold hl at h ⊢;rw[Fe,e] at h ⊢;omega
theorem Sl (h:P0 b){fu:Nat}(r:fu<=18):∀(f k:Nat) (n:ay),b[k]?=some n->k<f->MK b k<=60->∀a,O2 (MQ fu gas f) a (a+17*(k+1)) ⟨b.take k,n⟩ (MK b k)
 | 0,k,n,_,O,_,_=>by omega
 | f+1,k,n,z,O,B,a=>by
   have o:=aM z;have H:=h.wf n o;have x:=Vp z B;have N:=H.bO;refine UY (m:=ha b k) (BD:=λd p=>∃i j,i<k/\b[i]?=some j/\d=⟨b.take i,j⟩/\p=MK b i/\p<=60) r ?_ (by show a+n.ak.length+1<=_;omega) (λq A=>?_) (h.sz n o) x
   . rintro d p ⟨i,j,C,e,rfl,rfl,D⟩ K;obtain⟨L,M⟩:=Sl h r f i j e (by omega) D (a+n.ak.length+1) K;exact⟨L.mono (an _) (by omega) (an _) (an _),M⟩
   obtain⟨S,I,P,J⟩:=H.eqs q A;have l:∀u∈bh b8 q.r,u.k=4->Rv ⟨b.take k,n⟩ (ha b k) (λd p=>∃i j,i<k/\b[i]?=some j/\d=⟨b.take i,j⟩/\p=MK b i/\p<=60) u (hp q u):=(by intro u G F;obtain⟨d,d1,d2,d3⟩:=Ss (h.names k n z) A G F;obtain⟨i,j,C,e,rfl,v⟩:=Sm d1;have y:=h.wf j (aM e);have c:fa u.s (ha b k)=MK b i:=(by rw[<- v];exact wE (UK h) k (by have:=(aB.1 z).1;omega) i j C e);have Q:fE (ha b k) u=1+MK b i:=(by unfold fE;rw[ae (by omega),ag F,c]);have E:=U4 (m:=ha b k) G;have R:cz (ha b k) q.r<=(n.eqs.map λq=>cz (ha b k) q.r).sum:=SH (List.mem_map.2 ⟨q,A,rfl⟩);exact⟨_,d1,d2,d3,y.io,y.bO,i,j,C,e,rfl,c,by omega⟩);refine⟨Vv P (h.nm n o q A) I J l,I,?_⟩;by_cases E:2<=q.ns.length
   . obtain⟨d,_,_,d3,d4,d5,_⟩:=l q.r (P1 _) (J E);have:hp q q.r=q.ns.length:=by unfold hp;rw[ag rfl]
     omega
   omega
end
section
variable {c:Sc}
def gC (c:Sc)(i:Nat):Option Nat:=if (c.of i).2=0 then none else some (c.of i).1
theorem Si:∀{l:List Vr} {i:Nat},hZ c l i=[]->∀j,j<l.length->c.jF (i+j)=false
 | v::l,i,h,j,a=>by
   rw[hZ,ec] at h;cases j with
   | zero =>
     cases e:c.jF i with
     | false=>rfl
     | true=>rw[ag e] at h;cases h.1
   | succ j => have:=Si h.2 j (by simpa using a);rwa [show i+1+j=i+(j+1) by omega] at this
theorem U1 (c:Sc)(i:Nat):((c.of i).2=0/\c.of i=(0,0))∨((c.of i).2=1∨(c.of i).2=2):=by
 unfold Sc.of;cases c.nd.ak[i]? with
 | none=>exact .inl ⟨rfl,rfl⟩
 | some v =>
   show ((c.own v).2=0/\c.own v=(0,0))∨((c.own v).2=1∨(c.own v).2=2);have a:ba v=0∨ba v=1∨ba v=2:=by
    unfold ba;split
    . split
      . exact .inr (.inr rfl)
      exact .inr (.inl rfl)
    exact .inl rfl
   unfold Sc.own;split
   . exact .inl ⟨rfl,rfl⟩
   rename_i h;exact .inr (a.resolve_left h)
theorem Sy (c:Sc){i:Nat}(h:(c.of i).2≠0):c.up (c.of i)=c.of (c.of i).1:=by unfold Sc.up;rw[ag ((U1 c i).resolve_left (λe=>h e.1))]
theorem SF (c:Sc)(v:Nat):∀(m f p:Nat),c7 (gC c) (m+1) p=some v->m<f->lx c v f (c.of p)=true
 | m,0,p,_,i=>by omega
 | 0,f+1,p,h,_=>by
   rw[c7] at h;obtain⟨j,a,d⟩:=Option.bind_eq_some_iff.1 h;cases d;unfold gC at a;split at a
   . cases a
   rename_i b
   cases a;rw[lx,ae (λe=>b (by rw[e])),ag rfl]
 | m+1,f+1,p,h,i=>by
   rw[c7] at h;obtain⟨j,a,d⟩:=Option.bind_eq_some_iff.1 h;unfold gC at a;split at a
   . cases a
   rename_i b
   cases a;rw[lx,ae (λe=>b (by rw[e]))];split
   . rfl
   rw[Sy c b];exact SF c v m f _ d (by omega)
theorem U6 (h:c.e4=[])(H:c.nd.ak.length<=16)(i:Nat):c7 (gC c) 17 i=none:=by
 unfold Sc.e4 at h;rw[ec] at h;have p:=Si h.1;have l:∀a b,gC c a=some b->b<c.nd.ak.length:=λa b d=>by
  unfold gC Sc.of at d;cases A:c.nd.ak[a]? with
  | none=>rw[A] at d;rw[ag rfl] at d;cases d
  | some v =>
    have M:=(aB.1 A).1;rw[A] at d;unfold Sc.own at d;simp only at d;split at d
    . cases d
    cases d
    show c.idx v.ck < _;unfold Sc.idx;cases K:c.nd.find v.ck with
    | none=>show 0 < _;omega
    | some x=>have:=kP K;show x < _;omega
 by_cases E:i<c.nd.ak.length
 . cases L:c7 (gC c) 17 i with
   | none=>rfl
   | some x =>
     exfalso;have r:∀a,a<=17->∃x,c7 (gC c) a i=some x:=λa I=>by have e:c7 (gC c) 17 i=(c7 (gC c) a i).bind (c7 (gC c) (17-a)):=(by rw[<- oM,show a+(17-a)=17 by omega]);rw[L] at e;obtain⟨y,j,_⟩:=Option.bind_eq_some_iff.1 e.symm;exact⟨y,j⟩
     obtain⟨a,b,d,N,J⟩:=FF (n:=c.nd.ak.length) (f:=λa=>(c7 (gC c) a i).getD 0) (λa I=>by
      obtain⟨y,j⟩:=r a (by omega)
      show (c7 (gC c) a i).getD 0 < _;rw[j];exact FI l E j)
     obtain⟨y,j⟩:=r a (by omega);obtain⟨z,F⟩:=r b (by omega);have C:y=z:=(by have:(c7 (gC c) a i).getD 0=(c7 (gC c) b i).getD 0:=J;rw[j,F] at this;exact this);subst C;have e:c7 (gC c) ((b-a-1)+1) y=some y:=(by have D:c7 (gC c) b i=(c7 (gC c) a i).bind (c7 (gC c) (b-a)):=(by rw[<- oM,show a+(b-a)=b by omega]);rw[F,j] at D;rw[show b-a-1+1=b-a by omega];exact D.symm);have B:=FI l E j;have G:=SF c y (b-a-1) (2*c.nd.ak.length) y e (by omega);have o:=p y B;rw[Nat.zero_add] at o;unfold Sc.jF at o;rw[G] at o;cases o
 have:gC c i=none:=by unfold gC Sc.of;rw[List.getElem?_eq_none (by omega)];rfl
 rw[c7,this];rfl
theorem Sz:∀(f i:Nat),c7 (gC c) (f+1) i=none->c.nd.ak.length<=16->Oe c f (c.of i)
 | 0,i,h,_=>by
   rw[c7] at h;unfold gC at h
   show (c.of i).2=0;split at h
   . assumption
   simp[c7] at h
 | f+1,i,h,a=>by
   rw[c7] at h;unfold gC at h
   show (c.of i).2=0∨_;split at h
   . left;assumption
   rename_i b
   right;refine⟨?_,?_⟩
   . have:=(QE c i).resolve_left b;omega
   rw[Sy c b];exact Sz f _ h a
theorem Rr (h:c.e4=[])(a:c.nd.ak.length<=16)(f i:Nat)(b:16<=f):Oe c f (c.of i):=by refine Sz f i ?_ a;rw[show f+1=17+(f-16) by omega,oM,U6 h a i];rfl
def R7 (c:Sc)(t:Tm)(k:Nat×Nat):Prop:=(∃q∈c.nd.eqs,t∈bh b8 q.r)/\(k.2=0∨(k.1<=1000000/\Oe c 17 (c.up k)))
theorem VA (v:gP c.nd)(z:c.cG=[])(r:c.e4=[]):Ps c 18 (R7 c):=by
 have e:=v.bO;have o:∀j,(c.of j).2=0∨((c.of j).1<=1000000/\Oe c 17 (c.up (c.of j))):=λj=>Rr r e 18 j (by omega);refine⟨λt k h=>?_,λt k h=>h.2,λt k h y=>?_,λt k i u h _ A=>?_,λt k x u l h B p=>?_⟩
 . obtain⟨⟨q,a,b⟩,_⟩:=h;exact (v.eqs q a).2.2.1.BP b
 . obtain⟨⟨q,a,b⟩,_⟩:=h;obtain⟨d,d1,_⟩:=Ss z a b y;exact⟨d,d1⟩
 . obtain⟨⟨q,a,b⟩,f⟩:=h;refine⟨⟨q,a,QG _ b (QD (aM A))⟩,?_⟩;unfold Sc.operand;split
   . exact o _
   split
   . right;refine⟨by have:=O8 c t.s;show c.idx t.s<=_;omega,?_⟩;unfold Sc.up;rw[ag (by show (if 0<i then 2 else 1)=1∨(if 0<i then 2 else 1)=2;split <;> simp)];exact Rr r e 17 _ (by omega)
   exact f
 obtain⟨⟨q,a,b⟩,f⟩:=h;exact⟨⟨q,a,QG _ b (QD (by rw[p];simp))⟩,f⟩
theorem Vw:∀t:Tm,N5 t<=vz t:=by
 intro t;induction t using Tm.ind with
 | h k a s p n i f =>
   have d:∀l:List Tm,(∀u∈l,N5 u<=vz u)->OY l<=k8 l:=by
    intro l;induction l with
    | nil=>intro _;rw[OY];exact aE _
    | cons u l b => intro h;have j:=h u (Mx ..);have o:=b (λx e=>h x (cS _ e));rw[OY,zf];omega
   have:=d i f;rw[N5,qz];split <;> omega
end
theorem SD:∀l:List Qn,OZ l=(l.map λq=>N5 q.r).sum
 | []=>rfl
 | q::l=>by rw[OZ,SD l,List.map_cons,List.sum_cons]
theorem Sv {e:List ay}(h:P0 e)(r:1201<=gas):∀(f k:Nat) (n:ay),e[k]?=some n->k<f->Pr 18 gas f ⟨e.take k,n⟩
 | 0,k,n,_,x=>by omega
 | f+1,k,n,a,x=>by
   have b:=aM a;have p:=h.wf n b;have y:=(aB.1 a).1;have D:=h.mW;have o:=h.sz n b;refine⟨⟨R7 _,⟨⟨λm z=>h.wf m (List.mem_of_mem_take z),p,by show (e.take k).length<=6;rw[List.length_take];omega⟩,?_,VA p (h.names k n a) (h.R8 k n a),λq A=>⟨⟨q,A,P1 _⟩,Rr (c:=⟨e.take k,n⟩) (h.R8 k n a) p.bO 18 _ (by omega)⟩,?_⟩⟩,λs d v=>?_⟩
   . show n.eqs.length<=1000000;have:∀l:List Qn,l.length<=(l.map λq=>vz q.r).sum:=by
      intro l;induction l with
      | nil=>exact an _
      | cons q l B =>
        have:1<=vz q.r:=by cases q.r;rw[qz];omega
        simp only[List.map_cons,List.sum_cons,bJ];omega
     have:=this n.eqs;omega
   . rw[SD];refine aJ (Rt (λq=>N5 q.r) _) (aJ ?_ (aJ o r));have:∀l:List Qn,(l.map λq=>N5 q.r).sum<=(l.map λq=>vz q.r).sum:=by
      intro l;induction l with
      | nil=>exact an _
      | cons q l B=>have:=Vw q.r;simp only[List.map_cons,List.sum_cons];omega
     exact this n.eqs
   obtain⟨i,C,E,j,rfl,_⟩:=Sm v;exact Sv h r f i C j (by omega)
end
section
variable {a:List ay}
theorem SG:∀l:List (Nat×Int),l.length<=ML l
 | []=>an 0
 | i::l=>by have h:=SG l;have:ML (i::l)=ML [i]+ML l:=OB [i] l;have b:1<=ML [i]:=(by unfold ML Ak;simp);rw[this,bJ];omega
def OE (c:Nat)(b:List ay)(n:ay):Cd:=MQ 18 c 6 ⟨b,n⟩ 0 ((Pb ⟨b,n⟩).add 0 1)
theorem U5 {b:List ay}{n:ay}(h:P0 a)(d:a=b++[n])(c:Nat)(g:MK a b.length<=60):PZ (OE c b n)/\qv (OE c b n)/\(OE c b n).dn.length=n.ah:=by
 have s:a[b.length]?=some n:=by rw[d];simp
 have p:a.take b.length=b:=by rw[d];simp
 have A:b.length<6:=by have:=h.mW;rw[d] at this;simp at this;omega
 have q:=h.wf n (aM s);have j:=Sl h (gas:=c) (fu:=18) (an _) 6 b.length n s A g 0 ((Pb ⟨b,n⟩).add 0 1);rw[p] at j;obtain⟨K,i⟩:∃K,OE c b n=K:=⟨_,rfl⟩;unfold OE at i;rw[i] at j;unfold OE;rw[i];obtain⟨L,D⟩:=j;obtain⟨R,C,t,u,v,I,J,w⟩:=L.ex;have e:K.row=[(0,1)]++R:=t;have f:K.cells=C:=by rw[u];show []++C=C;simp
 have k:K.dn.length=n.ah:=by
  rw[L.dn]
  show ((n.ak.take n.ah).map (·.bl)).length=_;rw[List.length_map,List.length_take];have:=q.io;omega
 have B:K.aG=n.aG:=L.aG;have E:n.ak.length+1<=K.al:=by have:0+n.ak.length+1<=K.al:=D;omega
 have F:K.al<=102:=by have:K.al<=max 0 (0+17*(b.length+1)):=L.s2;omega
 have o:K.cells.length<=60:=by rw[f];omega
 have r:Pc K.al K.cells.length 0 0 K.row:=by rw[e];exact (Pc.push (h:=0) (by omega)).kZ (w K.al K.cells.length 0 (aE _) (an _) (an _))
 have m:ML K.row<=9+(13300+13600*MK a b.length):=by rw[e,OB];have:=Ro 0 1;omega
 have M:=q.io;have y:=q.bO;refine⟨⟨by omega,by omega,o,λx G=>v x (by rw[<- f];exact G),r.ok,r.fit,?_⟩,⟨?_,by omega⟩,k⟩
 . unfold MW Nf Ov OL;have z:(K.cells.flatMap na).length=8*K.cells.length:=by
    have:∀l:List Int,(l.flatMap na).length=8*l.length:=by
     intro l;induction l with
     | nil=>rfl
     | cons x l H=>rw[List.flatMap_cons,aP,H,PO,bJ];omega
    exact this _
   simp only[aP,bJ,cw,List.length_map,z];have:(K.row.flatMap Ak).length<=9+(13300+13600*MK a b.length):=m;omega
 have:=SG K.row;omega
theorem U3 (h:dh a=none):(∀c∈kd a,c.cG=[]/\c.e4=[])/\hr a [] 0<=60:=by
 unfold dh at h;split at h
 . cases h
 rename_i d
 split at h
 . cases h
 split at h
 . cases h
 rename_i e
 split at h
 . cases h
 split at h
 . cases h
 split at h
 . cases h
 rename_i f
 refine⟨λc b=>⟨mw (yz d) c b,mw (yz e) c b⟩,?_⟩;have:=yz f;unfold ih at this;split at this
 . cases this
 omega
theorem Vx (h:dh a=none)(g:∀n∈a,gP n)(l:a.length<=6)(f:∀n∈a,n.Nh.length<=1201)(d:∀n∈a,∀q∈n.eqs,Bk q.r=true):P0 a/\(∀b n,a=b++[n]->MK a b.length<=60):=by
 obtain⟨i,j⟩:=U3 h;refine⟨⟨g,l,λn m=>?_,d,λk n c=>(i _ (J8 c)).1,λk n c=>(i _ (J8 c)).2⟩,λb n e=>?_⟩
 . have:=f n m;unfold ay.Nh at this;rw[List.length_flatMap] at this;exact this
 have o:a.length=b.length+1:=by rw[e];simp
 have:=E7 (ns:=a) b.length 0 0 (by omega);rw[List.drop_zero] at this;rw[show ha a 0=[] from rfl] at this;rw[show b.length=a.length-1 by omega,<- this];exact j
end
section
open Go.RowKit
variable {a b:Fn}
structure SK (ds:List Nd) (ns:List ay):Prop where
 of:dS ds ns
 wf:∀n∈ns,gP n
 nm:∀n∈ns,∀q∈n.eqs,Bk q.r=true
 one:1<=ns.length
 bO:ns.length<=6
 Rk:∀n∈ns,n.Nh.length<=1201
theorem UX:∀{l:List Nd} {c:List ay},dS l c->∀n∈c,∃d∈l,ht d n:=by
 intro l;induction l with
 | nil=>rintro c rfl n h;cases h
 | cons d l j =>
   rintro c ⟨m,k,rfl,i,g⟩ n h;rcases cC.1 h with rfl|h
   . exact⟨d,Mx ..,i⟩
   obtain⟨d2,e,f⟩:=j g n h;exact⟨d2,cS _ e,f⟩
theorem U2 {L:List Ex}:∀{l:List ax} {c:List Qn},fM L l c->∀q∈c,∃x,bX L x q.r:=by
 intro l;induction l with
 | nil=>rintro c rfl q h;cases h
 | cons j l f =>
   rintro c ⟨i,g,rfl,e,d⟩ q h;rcases cC.1 h with rfl|h
   . exact⟨_,e.r⟩
   exact f d q h
theorem Sj {g:Nat}:∀(f:Nat) (x:St×List Nd),1<=x.2.length->1<=(Mq a b g f x).2.length
 | 0,_,h=>h
 | f+1,x,h=>by
   unfold Mq;split
   . exact Sj f _ (by simp)
   exact h
theorem Vh (a b:Fn)(g:Nat)(s:Xb):1<=(dm a b g s).2.length:=by unfold dm;exact Sj g _ (by simp)
theorem ag4 (c:a=(fx 17).ex)(e:b=(fx 18).ex)(f:zv 17 a)(g:zv 18 b){src:Xb}(r:src.size<=1200){R:St×List Nd}(h:dm a b 1300 src=R)(m:R.1.er=0):∃j,SK R.2 j:=by have k:=Vh a b 1300 src;rw[h] at k;obtain⟨f1,f2,j,f3,f4,f5⟩:=oH c e f g r h m;clear h c e f g;have t:=f3.len;refine⟨j,f3,f4,λn o q p=>?_,by omega,by omega,f5⟩;obtain⟨d,l,i⟩:=UX f3 n o;obtain⟨x,s⟩:=U2 i.eqs q p;exact UA (f1 d l).1.s.az s
end
section
open Go.RowKit
structure Qr (src:Xb) (c:Cd):Prop where
 ex:∃pre n fu gas f K,Q2 src (pre++[n])/\RS fu gas f pre n K/\NY (Nr (MW K))=some c
 ok:OW c
 fit:Mt c.al c.cells.length 0 c.row=some 0
theorem Tj (l:Xn)(h:∀x∈l,x<256):∀x∈Nr l,x<256:=by
 intro x hx;rcases bj.1 hx with hx|hx
 . exact h x hx
 exact QV _ x hx
theorem Sk (S:Xs)(src:Xb)(c:Cd)(h:Qr src c)(w:Xw)(A:Gl S w)(E:M9 w)(I:Nq w) :
 xK 8 #[.string src] w (λe r=>∃(m:Ma) (i:Xv),e=.returned (xP m.M)/\MM r m i c c.cells (List.replicate c.al 0)/\w.heap.size<=m.N/\xB w r/\∀k,m.own i k->w.heap.size<=k):=by
 obtain⟨G,n,N,y,f,K,hF,H,J⟩:=h.ex;have j:=za (Wd S src G n hF N y f K H w A E I);have o:=Tj _ (RQ K H.ops);have b:(Nr (MW K)).length=(MW K).length+8:=by unfold Nr;rw[aP,PO]
 obtain⟨l,P⟩:∃l,l=Nr (MW K):=⟨_,rfl⟩;rw[<- P] at j J o b;have D:l≠[]:=by intro e;rw[e] at b;simp at b
 have t:=za (λW (a:xB w W) v B (C:BR B W v l)=>(by
  obtain⟨g,F⟩:=C.by o;obtain⟨x,M,e,_⟩:=F.ex;subst e
  exact UT S x M g l c h.ok J W (A.of (T:=λ_=>False) (Fr.Mo a) (λ_ e=>e.elim)) (I.am (zm a (an _)) A.size) F (F.Bd D) :
   xK 16 #[v] W (λe r=>∃(m:Ma) (i:Xv),e=.returned (.tuple #[xP m.M,xI 0])/\MM r m i c c.cells (List.replicate c.al 0)/\W.heap.size<=m.N/\xB W r/\∀k,m.own i k->W.heap.size<=k)))
 go_enter func8,ntmps8
 go_wp2_with (first
  | (go_at_call 16;revert d;intro d;refine (t.o Q a _ _ d.o).mono ?_;rintro e V ⟨m,i,rfl,L,R,z,p⟩;have u:=za p;clear p;have s:=za (a.trans (z.mono q)))
  | (go_at_call 5;refine j.o.mono ?_;rintro e Q ⟨U,B,rfl,C,O,a⟩;have q:=a.size;have d:=za C))
 go_ret;exact⟨m,i,rfl,L,by omega,s.o,λk e=>aJ q (u.o k e)⟩
theorem V1 (S:Xs)(src:Xb)(c:Cd)(h:Qr src c)(w:Xw)(k:Gl S w)(a:M9 w)(l:Nq w) :
 xK 8 #[.string src] w (λe d=>∃(m:Ma) (b:Xv),e=.returned (xP m.M)/\MM d m b c c.cells (List.replicate c.al 0)/\w.heap.size<=m.N/\xB w d) :=
 (Sk S src c h w k a l).mono (λ_ _ ⟨m,b,f,g,i,j,_⟩=>⟨m,b,f,g,i,j⟩)
structure Ru (src:Xb) (ns pre:List ay) (n:ay) (gas:Nat):Prop where
 eq:ns=pre++[n]
 fix:Q2 src (pre++[n])
 code:RS 18 gas 6 pre n (OE gas pre n)
 rt:PZ (OE gas pre n)
 bo:1<=(OE gas pre n).dn.length
theorem Vt {h j:Fn}(k:h=(fx 17).ex)(l:j=(fx 18).ex){gas:Nat}(x:1201<=gas)(m:gas<=1000000){src:Xb}(A:src.size<=1200){R:St×List Nd}(t:dm h j 1300 src=R)(w:R.1.er=0){b:List ay}(a:SK R.2 b)(u:dh b=none):∃r n,Ru src b r n gas:=by
 obtain⟨s,v⟩:=Vx u a.wf a.bO a.Rk a.nm;have d:b≠[]:=by intro e;have:=a.one;rw[e] at this;simp at this
 have c:=List.dropLast_concat_getLast d;refine⟨b.dropLast,b.getLast d,c.symm,?_,?_,?_,?_⟩
 . rw[c];rw[k,l] at t;exact⟨A,⟨R,t,w,by have:=a.of.len;have:=a.bO;omega,a.of⟩,a.wf,λn o=>aJ (a.Rk n o) (by decide),u⟩
 all_goals
  obtain⟨g,C,D⟩:=U5 s c.symm gas (v _ _ c.symm)
 . have o:b[b.dropLast.length]?=some (b.getLast d):=by rw[List.length_dropLast,List.getLast_eq_getElem];exact av _
   have f:=Sv s (gas:=gas) x 6 b.dropLast.length _ o (by have:=a.bO;have:=a.one;rw[List.length_dropLast];omega);have q:b.take b.dropLast.length=b.dropLast:=(by rw[List.length_dropLast,List.dropLast_eq_take]);rw[q] at f;have B:=g.al;have z:=g.aG;refine⟨rfl,m,by decide,f,by omega,by have:=g.bO;omega,C.1,λi y=>?_⟩;obtain⟨E,p,_⟩:=g.row i y;exact PM p
 . exact g
 rw[D];exact (a.wf _ (List.getLast_mem d)).ah
end
section
variable {s x y:Xb} {a:Nat} {P:Xh}
def abh (s:Xb):Nat->List ByteArray->Prop
 | p,[]=>zQ cM s p=s.size
 | p,x::l=>zQ cM s p+x.size<s.size/\(∀i,i<x.size->bt s (zQ cM s p+i)=bt x i)/\cM (bt s (zQ cM s p+x.size))=true/\abh s (zQ cM s p+x.size) l
def Rw:ByteArray:=⟨#[32]⟩
def rb (x:Xb):Tk:=zZ (x++Rw) 0
def acE (x:Xb):Prop:=1<=x.size/\∀i,i<x.size->cM (bt x i)=false
theorem aaJ {i:Nat}(h:i<x.size):bt (x++y) i=bt x i:=by unfold bt;rw[dif_pos h,dif_pos (by rw[ByteArray.size_append];omega),ByteArray.getElem_append_left h]
theorem ab6 (x:Xb):bt (x++Rw) x.size=32:=by unfold bt;rw[dif_pos (by rw[ByteArray.size_append];show x.size<x.size+1;omega),ByteArray.getElem_append_right (an _)];simp[Rw];rfl
theorem aaW (x:Xb):(x++Rw).size=x.size+1:=by rw[ByteArray.size_append];rfl
theorem acr (d:∀c,cM c=true->P c=false)(k:a+x.size<s.size)(e:∀i,i<x.size->bt s (a+i)=bt x i)(f:cM (bt s (a+x.size))=true):∀(n j:Nat),j+n=x.size->zQ P s (a+j)=a+zQ P (x++Rw) j
 | 0,j,h=>by rw[Nat.add_zero] at h;subst h;rw[nW (d _ f),nW (d _ (by rw[ab6];rfl))]
 | n+1,j,h=>by
   have g:bt s (a+j)=bt (x++Rw) j:=(by rw[e j (by omega),aaJ (by omega)]);cases b:P (bt (x++Rw) j) with
   | true => rw[kJ (by omega) (by rw[g];exact b),kJ (by rw[aaW];omega) b];exact acr d k e f n (j+1) (by omega)
   | false=>rw[nW (by rw[g];exact b),nW b]
theorem aeH (d:∀c,cM c=true->P c=false)(x:Xb):zQ P (x++Rw) 0<=x.size:=by
 have:∀(n j:Nat),j+n=x.size->zQ P (x++Rw) j<=x.size:=by
  intro n;induction n with
  | zero=>intro j h;rw[Nat.add_zero] at h;subst h;rw[nW (d _ (by rw[ab6];rfl))];exact an _
  | succ n e =>
    intro j h;cases b:P (bt (x++Rw) j) with
    | true=>rw[kJ (by rw[aaW];omega) b];exact e (j+1) (by omega)
    | false=>rw[nW b];omega
 exact this x.size 0 (by omega)
theorem aa7 {m:Nat}(j:a+m<=s.size)(k:m<=y.size)(h:∀i,i<m->bt s (a+i)=bt y i):s.extract a (a+m)=y.extract 0 m:=by
 apply ByteArray.ext;apply Array.ext
 . have b:(s.extract a (a+m)).data.size=(s.extract a (a+m)).size:=rfl;have c:(y.extract 0 m).data.size=(y.extract 0 m).size:=rfl;rw[b,c,ByteArray.size_extract,ByteArray.size_extract];omega
 intro i f l;have b:(s.extract a (a+m)).data.size=(s.extract a (a+m)).size:=rfl;have g:i<m:=by rw[b,ByteArray.size_extract] at f;omega
 have:=h i g;unfold bt at this;rw[dif_pos (by omega),dif_pos (by omega)] at this;have d:(s.extract a (a+m)).data[i]=s[a+i]'(by omega):=by show (s.extract a (a+m))[i]=_;rw[ByteArray.getElem_extract]
 have e:(y.extract 0 m).data[i]=y[i]'(by omega):=by show (y.extract 0 m)[i]=_;rw[ByteArray.getElem_extract];simp
 rw[d,e];exact UInt8.toNat_inj.1 this
theorem acv (c:Nat)(h:cM c=true):b6 c=false:=by unfold cM at h;simp only[Bool.or_eq_true,beq_iff_eq] at h;rcases h with rfl|rfl <;> rfl
theorem aeF (c:Nat)(h:cM c=true):zT c=false:=by unfold cM at h;simp only[Bool.or_eq_true,beq_iff_eq] at h;rcases h with rfl|rfl <;> rfl
theorem aeC (h:a+2<=s.size):(s.extract a (a+2)).toList=[UInt8.ofNat (bt s a),UInt8.ofNat (bt s (a+1))]:=by rw[ByteArray.toList_eq];have e:=SQ s a (a+2) (by omega) h;have b:=SQ s (a+1) (a+2) (by omega) h;unfold j1 at e b;rw[e,b];have:((s.extract (a+1+1) (a+2)).data.toList)=[]:=xl s (a+2);rw[this];unfold bt;rw[dif_pos (by omega),dif_pos (by omega)];simp
theorem lex {l:Xl}{p:Nat}(h:abh s p (x::l))(H:acE x):zZ s p=⟨(rb x).k,zQ cM s p,zQ cM s p+(rb x).t,(rb x).s,(rb x).n⟩/\(rb x).a=0:=by
 obtain⟨q,n,c,_⟩:=h;obtain⟨K,D⟩:=H;obtain⟨a,v⟩:∃a,zQ cM s p=a:=⟨_,rfl⟩;rw[v] at q n c ⊢;have g:∀i,i<x.size->bt s (a+i)=bt (x++Rw) i:=λi d=>by rw[n i d,aaJ d]
 have I:zQ cM (x++Rw) 0=0:=nW (by rw[aaJ (by omega)];exact D 0 (by omega));have t:bt (x++Rw) 0=bt s a:=(g 0 (by omega)).symm;have zx:=aaW x;have f:rb x=if gv (bt s a)=true then eM (x++Rw) 0 else if zT (bt s a)=true then fc (x++Rw) 0 else dT (x++Rw) 0:=by unfold rb zZ;simp only;rw[I,ae (by omega),t]
 have J:zZ s p=if gv (bt s a)=true then eM s a else if zT (bt s a)=true then fc s a else dT s a:=by unfold zZ;simp only;rw[v,ae (by omega)]
 rw[J];by_cases z:gv (bt s a)=true
 . rw[ag z] at f ⊢;rw[f];have b:=acr acv q n c x.size 0 (by omega);have E:=aeH acv x;rw[Nat.add_zero] at b;unfold eM;simp only;rw[b,Nat.sub_zero,show a+zQ b6 (x++Rw) 0-a=zQ b6 (x++Rw) 0 by omega,aa7 (y:=x++Rw) (by omega) (by omega) (λi d=>g i (by omega))];exact⟨rfl,trivial⟩
 rw[ae z] at f ⊢;by_cases w:zT (bt s a)=true
 . rw[ag w] at f ⊢;rw[f];have b:=acr aeF q n c x.size 0 (by omega);have E:=aeH aeF x;rw[Nat.add_zero] at b;unfold fc;simp only;rw[(I8 s _ a _ rfl).1,(I8 (x++Rw) _ 0 _ rfl).1,b];unfold j1;rw[aa7 (y:=x++Rw) (by omega) (by omega) (λi d=>g i (by omega))];exact⟨rfl,trivial⟩
 rw[ae w] at f ⊢;rw[f];have r:((s.extract a (a+2)).toList==[45,62]||(s.extract a (a+2)).toList==[60,62]||(s.extract a (a+2)).toList==[60,61])=(((x++Rw).extract 0 (0+2)).toList==[45,62]||((x++Rw).extract 0 (0+2)).toList==[60,62]||((x++Rw).extract 0 (0+2)).toList==[60,61])/\(2<=x.size∨(((x++Rw).extract 0 (0+2)).toList==[45,62]||((x++Rw).extract 0 (0+2)).toList==[60,62]||((x++Rw).extract 0 (0+2)).toList==[60,61])=false):=by
  by_cases j:2<=x.size
  . rw[aa7 (y:=x++Rw) (by omega) (by omega) (λi d=>g i (by omega)),Nat.zero_add];exact⟨rfl,ao j⟩
  have k:x.size=1:=by omega
  rw[aeC (by omega),aeC (s:=x++Rw) (by omega)];have b:bt (x++Rw) (0+1)=32:=by have:=ab6 x;rw[k] at this;exact this
  rw[b];rw[k] at c;unfold cM at c;simp only[Bool.or_eq_true,beq_iff_eq] at c;rcases c with e|e <;> rw[e] <;> simp
 obtain⟨A,C⟩:=r;obtain⟨B,u⟩:∃B,(((x++Rw).extract 0 (0+2)).toList==[45,62]||((x++Rw).extract 0 (0+2)).toList==[60,62]||((x++Rw).extract 0 (0+2)).toList==[60,61])=B:=⟨_,rfl⟩;rw[u] at A C;have F:dT s a=if B=true then ⟨4,a,a+2,s.extract a (a+2),0⟩ else if hs (bt s a)=true then ⟨4,a,a+1,s.extract a (a+1),0⟩ else ⟨1,a,a,⟨#[]⟩,0⟩:=by
  unfold dT;rw[A];cases B
  . rw[ae (λh=>by cases h.2)];rfl
  rw[ag ⟨by omega,rfl⟩,ag rfl]
 have G:dT (x++Rw) 0=if B=true then ⟨4,0,2,(x++Rw).extract 0 2,0⟩ else if hs (bt s a)=true then ⟨4,0,1,(x++Rw).extract 0 1,0⟩ else ⟨1,0,0,⟨#[]⟩,0⟩:=by
  unfold dT;rw[u,t];cases B
  . rw[ae (λh=>by cases h.2)];rfl
  rw[ag ⟨by omega,rfl⟩,ag rfl]
 rw[F,G];cases B with
 | true => have j:2<=x.size:=(by rcases C with h|h;exact h;cases h);rw[ag rfl,ag rfl,aa7 (y:=x++Rw) (by omega) (by omega) (λi d=>g i (by omega))];exact⟨rfl,rfl⟩
 | false =>
   rw[ae (show ¬false=true by simp),ae (show ¬false=true by simp)];by_cases o:hs (bt s a)=true
   . rw[ag o,ag o,aa7 (m:=1) (y:=x++Rw) (by omega) (by omega) (λi d=>g i (by omega))];exact⟨rfl,rfl⟩
   rw[ae o,ae o];exact⟨rfl,rfl⟩
end
end Go.Proofs.YtcnelakggnfnhaaGreatDoor
