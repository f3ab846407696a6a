/- Part 22. -/
import Derived.StillTailTactics
import Derived.Test.YtcnelakggnfnhaaGreatDoorK20
set_option maxRecDepth 100000
set_option maxHeartbeats 8000000
namespace Go.Proofs.YtcnelakggnfnhaaGreatDoor
open Go.Proofs.Tryz
open Go.RowKit Go.Shelf
section
variable {K K':Cd} {ls:List Lt} {B N x cb C y A G z:Nat} {c:Sc} {E:Sc->Nat->Cd->Cd} {ev lv nv:Xv} {W W' w:Xw}
attribute [local go_sem ↓] Go.wp_at_zero Go.wp_at_succ
def Cd.NR (K:Cd)(n:Nat):Cd:={ K with al:=max K.al n }
def ME (E:Sc->Nat->Cd->Cd)(c:Sc)(x C:Nat):List Qn->Cd×List Lt->Cd×List Lt
 | [],s=>s
 | q::l,s=>ME E c x C l (((My E c x C s q.r (c.of (c.idx (q.ns.headD ⟨#[]⟩)))).1.fv (Ny c x (MS (NJ q.ns q.ps) q.ns.length q.ns.length))),(My E c x C s q.r (c.of (c.idx (q.ns.headD ⟨#[]⟩)))).2)
def NI (E:Sc->Nat->Cd->Cd)(c:Sc)(x C:Nat):Nat->Cd×List Lt->Cd
 | 0,s=>s.1
 | g+1,s=>match s.2 with
   | []=>s.1
   | m::r=>NI E c x C g ((My E c x C (s.1.fv (z8 c x C m.clock),r) m.next m.clock).1.add 4 m.cell,(My E c x C (s.1.fv (z8 c x C m.clock),r) m.next m.clock).2)
def OU (a:Tm->Nat×Nat->Prop)(E:Sc->Nat->Cd->Cd)(c:Sc)(x C:Nat):Nat->Cd×List Lt->Prop
 | 0,s=>s.2=[]
 | g+1,s=>match s.2 with
   | []=>True
   | m::r=>s.1.row.length+(z8 c x C m.clock).length<=1000000/\Nn (My E c x C (s.1.fv (z8 c x C m.clock),r) m.next m.clock)/\a m.next m.clock/\Oe c C m.clock /\
     OU a E c x C g ((My E c x C (s.1.fv (z8 c x C m.clock),r) m.next m.clock).1.add 4 m.cell,(My E c x C (s.1.fv (z8 c x C m.clock),r) m.next m.clock).2)
theorem Wb (c:Sc)(L:List (Nat×Nat))(a:List Qn):∀(f i:Nat) (s:Os),(∀q∈s.2,q∈a)->∀q∈(Mv c L a f i s).2,q∈a:=by
 intro f;induction f with
 | zero=>intro i s h;exact h
 | succ f p =>
   have m:∀(q:Qn) (l:List Qn) (j:Nat) (s:Os),(∀q∈s.2,q∈a)->∀g∈(Nc (Mv c L a f) c L q l j s).2,g∈a:=by
    intro q l;induction l with
    | nil=>intro j s h;exact h
    | cons o l b =>
      intro j s h;rw[Nc];by_cases k:Oo c L q o=true
      . rw[ag k];exact b _ _ (p j s h)
      rw[ae k];exact b _ _ h
   intro i s h;rw[Mv];split
   . exact h
   rename_i q n
   split
   . exact h
   intro g d;rcases bj.1 d with e|e
   . exact m q a 0 (s.1.set i true,s.2) h g e
   rw[cu.1 e];exact aM n
theorem RN (c:Sc):∀q∈Mr c,q∈c.nd.eqs:=by
 unfold Mr;have:∀(m:Nat) (s:Os),(∀q∈s.2,q∈c.nd.eqs)->∀q∈(OV (Mv c c.hI c.nd.eqs c.nd.eqs.length) c.nd.eqs.length m s).2,q∈c.nd.eqs:=by
  intro m;induction m with
  | zero=>intro s h;exact h
  | succ m a=>intro s h;rw[OV];exact a _ (Wb _ _ _ _ _ _ h)
 exact this _ _ (λq h=>by simp at h)
theorem Yy (a:∀d b K,qv (E d b K)->qv K){s:Cd×List Lt}{t:Tm}{k:Nat×Nat}(h:Nn (My E c x C s t k)):Nn s:=G9 (λ_ _ _ h=>h) (λs t k h=>RO a s t k h) t k s h
theorem XQ (e:∀d b K,qv (E d b K)->qv K):∀(l:List Qn) (s:Cd×List Lt),Nn (ME E c x C l s)->Nn s:=by
 intro l;induction l with
 | nil=>intro s h;exact h
 | cons q l f => intro s h;rw[ME] at h;have a:=f _ h;exact Yy e ⟨On a.1,a.2⟩
theorem Ws {l:List Qn}{k:Nat}{q:Qn}(h:l[k]?=some q)(s:Cd×List Lt):ME E c x C (l.drop k) s=ME E c x C (l.drop (k+1)) (((My E c x C s q.r (c.of (c.idx (q.ns.headD ⟨#[]⟩)))).1.fv (Ny c x (MS (NJ q.ns q.ps) q.ns.length q.ns.length))),(My E c x C s q.r (c.of (c.idx (q.ns.headD ⟨#[]⟩)))).2):=by obtain⟨a,b⟩:=aB.1 h;rw[dE a,ME,b]
theorem KI.Uw {b d f:Xv}(h:KI B G y b d f K W)(n:Nat):KI B G y b d f (K.NR n) (W.setCell (xD y 2) (xI ((max K.al n:Nat):Int)))/\FT (KT y) W (W.setCell (xD y 2) (xI ((max K.al n:Nat):Int))):=by
 have a:∀k,¬k=y->(W.setCell (xD y 2) (xI ((max K.al n:Nat):Int))).heap[k]?=W.heap[k]?:=λk a=>zr a rfl;have j:(W.setCell (xD y 2) (xI ((max K.al n:Nat):Int))).heap.size=W.heap.size:=by simp
 have l:=h.MC
 have i:KI B G y b d f (K.NR n) (W.setCell (xD y 2) (xI ((max K.al n:Nat):Int))) :=
  ⟨(a _ h.dk).trans h.wr,zh _ _ _ _ h.aC,zi h.xv (λk g _ _=>a k (by omega)),zi h.hQ (λk g _ _=>a k (by omega)),zi h.zA (λk g _ _=>a k (by omega)),h.MF,h.MC,h.dk,h.d1,h.d2,by rw[j];exact h.hB⟩
 refine⟨i,⟨⟨rfl,rfl,rfl,by rw[j];exact an _,λk _ m=>a k (λe=>m ((h.kt k).2 (ao e)))⟩,λk e=>ao ((h.kt k).2 ((i.kt k).1 e))⟩⟩
theorem S7 (w:Xw)(h:Ng N A cb x c ev nv lv w)(d:x<=1000000) :
 xK 56 #[xP A] w (λe a=>e=.returned (xI ((x+c.nd.ak.length+1:Nat):Int))/\xB w a):=by
 refine (XN w h d).mono ?_;rintro e a ⟨b,n,rfl⟩;exact⟨b,zI (yS _ _) n⟩
structure M6 (N B G y A cb x:Nat) (c:Sc) (ev nv lv:Xv) (K:Cd) (ls:List Lt) (z:Nat) (w W:Xw):Prop where
 wl:WL N B G y A cb x c ev nv lv K ls W
 ops:M9 W
 ft:FT (CT y A) w W
 x1:W.heap[z]?=some (.cells #[xP G] 152 (0,0))
 x2:W.heap[z+1]?=some (.cells #[xP A] 68 (0,0))
 n1:¬CT y A W z
 n2:¬CT y A W (z+1)
theorem M6.ad {d:Xv}{b:List Lt}(f:21<=N)(h:M6 N B G y A cb x c ev nv lv K ls z w W)(g:WL N B G y A cb x c ev nv d K' b W')(a:FT (CT y A) W W'):M6 N B G y A cb x c ev nv d K' b z w W' :=
 ⟨g,h.ops.am (a.am h.wl.wi.qi.hN (λk e=>(h.wl.lt k e).1)) f,h.ft.trans a,(a.fr.block _ (ze h.x1) h.n1).trans h.x1,(a.fr.block _ (ze h.x2) h.n2).trans h.x2,a.not (ze h.x1) h.n1,a.not (ze h.x2) h.n2⟩
theorem M6.Om (d:21<=N)(h:M6 N B G y A cb x c ev nv lv K ls z w W)(b:KW B G y K' W')(a:FT (KT y) W W'):M6 N B G y A cb x c ev nv lv K' ls z w W':=h.ad d (h.wl.N6 b a).1 (h.wl.N6 b a).2
theorem M6.aq (b:21<=N)(h:M6 N B G y A cb x c ev nv lv K ls z w W)(a:xB W W'):M6 N B G y A cb x c ev nv lv K ls z w W':=h.ad b (h.wl.aq a) (FT.below a (h.wl.tk a))
theorem WZ (kw:eU c)(lB:c.nd.eqs.length<=1000000)(E:Sc->Nat->Cd->Cd)(C aL:Nat)(cd:Tm->Nat×Nat->Prop)(f:21<=N)(be:x<=100000)
 (fA:∀t k,cd t k->Wf t) (fz:∀t k i u,cd t k->gH t=true->t.ts[i]?=some u->cd u (c.operand t i k)) (b1:∀d b K,qv (E d b K)->qv K) (km:RU N B G y A cb x c ev nv E C cd)
 (K:Cd) (w:Xw) (h:WL N B G y A cb x c ev nv (.slice none 0 0) K [] w) (gm:M9 w)
 (fD:K.row.length<=1000000) (jw:∀q∈c.nd.eqs,cd q.r (c.of (c.idx (q.ns.headD ⟨#[]⟩)))) (jr:OU cd E c x C aL (ME E c x C (Mr c) ((K.NR (x+c.nd.ak.length+1)).add 2 ((x+c.nd.ak.length:Nat):Int),[]))) (jx:Nn (ME E c x C (Mr c) ((K.NR (x+c.nd.ak.length+1)).add 2 ((x+c.nd.ak.length:Nat):Int),[]))) :
 xK 28 #[xP G,xP A] w (λe X=>e=.returned (.tuple #[])/\(∃bC,WL N B G y A cb x c ev nv bC (NI E c x C aL (ME E c x C (Mr c) ((K.NR (x+c.nd.ak.length+1)).add 2 ((x+c.nd.ak.length:Nat):Int),[]))) [] X)/\FT (CT y A) w X):=by
 obtain⟨bk,P,nb,rfl,rfl,lF⟩:=h.wi.qi.sc.shape;have fj:∀o1 o2,o1=Obj.cells #[xP G] 152 (0,0)->o2=Obj.cells #[xP A] 68 (0,0)->M6 N B G y A cb x c (xE bk c P) (xP nb) (.slice none 0 0) K [] w.heap.size w ((w.alloc o1).alloc o2):=by
  intro o1 o2 ff hR;have hB:=cT w o1 o2;refine⟨h.aq hB,gm.am (zm hB h.wi.qi.hN) f,FT.below hB (h.tk hB),by rw[(mh w o1 o2).1,ff],by rw[(mh w o1 o2).2,hR],λe=>?_,λe=>?_⟩
  . have:=(h.lt _ (h.tk hB _ e)).2.1;omega
  have:=(h.lt _ (h.tk hB _ e)).2.1;omega
 have eP:=za fj;have dH:=h.wi.qi.hN;have da:=za h;clear fj h gm;refine callsIn_wide.1 (callsIn_of_wp_marks (F:=Fence.wide) (n:=9) func28 rfl trivial (wpIn_wide.2 ?_) rfl);simp only[ntmps28,List.size_toArray,bJ,cw,Nat.reduceAdd,Nat.reduceSub,Array.replicate_succ,Array.replicate_zero,List.push_toArray,List.append_toArray,List.nil_append,List.cons_append];obtain⟨kg,dV⟩:∃kg,bodyPostM Fence.wide 9 prog Tryz.f28 (λe X=>e=.returned (.tuple #[])/\(∃bC,WL N B G y A cb x c (xE bk c P) (xP nb) bC (NI E c x C aL (ME E c x C (Mr c) ((K.NR (x+c.nd.ak.length+1)).add 2 ((x+c.nd.ak.length:Nat):Int),[]))) [] X)/\FT (CT y A) w X)=kg:=⟨_,rfl⟩;rw[dV];have i2:=za dV;clear dV;go_upto_region 1 with fail;refine zn (λW=>M6 N B G y A cb x c (xE bk c P) (xP nb) (.slice none 0 0) K [] w.heap.size w W) (eP.o _ _ rfl rfl) ?_;intro W kv;have cz:=za kv;clear kv eP;go_cut [] from 9 to 24 (λwx=>aa (M6 N B G y A cb x c (xE bk c P) (xP nb) (.slice none 0 0) (K.NR (x+c.nd.ak.length+1)) [] w.heap.size w wx))
 case first =>
  obtain⟨lZ,l1,rv,dp⟩:=cz.o.wl.wi.kw;obtain⟨x0,hJ,hK⟩:=zu cz.o.x1;obtain⟨c1,c2,c3⟩:=zu cz.o.x2;obtain⟨p0,mp,ms⟩:=zu dp.wr;obtain⟨m0,m1,m2,m3,m4,m5,gz,a0⟩:=zt dp.aC;have ce:=za (S7 W.drew (cz.o.aq f (zo (yS _ _))).wl.wi.qi (by omega));have R:=za dp;have lT:¬w.heap.size=y:=λe=>cz.o.n1 (ao ((dp.kt _).2 (ao e)));have kV:¬w.heap.size+1=y:=λe=>cz.o.n2 (ao ((dp.kt _).2 (ao e)));have lK:=dp.dk;clear dp m0 m1 m3 m4 m5;refine wp_region_noPanic ?_;refine wp_region_held_drew (S:=(λX=>X.cell? (xD w.heap.size 0)=some (xP G)/\X.cell? (xD (w.heap.size+1) 0)=some (xP A)/\X.cell? (xD G 0)=some (xP y))) (by kernel_rfl) ?_ (λH=>?_)
  . (try dsimp only);(first|(with_reducible (refine⟨?_,?_,?_⟩ <;> repeat (first|assumption|refine zg ?_|refine zd l.o ?_ (by omega)|refine zk (by omega) ?_)))|go_keep)
  refine aR 0 rfl (v:=?v1) (ao ⟨by rfl,?h1⟩) ?_;case h1=>(intro w I;(try dsimp only at I);go_simp;try with_reducible rfl)
  try simp only[Act.put,aD]
  refine aR 1 rfl (v:=?v2) (ao ⟨by rfl,?h2⟩) ?_;case h2=>(intro w I;(try dsimp only at I);go_simp;try with_reducible rfl)
  try simp only[Act.put,aD]
  refine aR 2 rfl (v:=?v3) (ao ⟨by rfl,?h3⟩) ?_;case h3=>(intro w I;(try dsimp only at I);go_simp;try with_reducible rfl)
  try simp only[Act.put,aD]
  refine aR 3 rfl (v:=?v4) (ao ⟨by rfl,?h4⟩) ?_;case h4=>(intro w I;(try dsimp only at I);go_simp;try with_reducible rfl)
  try simp only[Act.put,aD]
  refine aR 4 rfl (v:=?v5) (ao ⟨by rfl,?h5⟩) ?_;case h5=>(intro w I;(try dsimp only at I);go_simp;try with_reducible rfl)
  try simp only[Act.put,aD]
  refine aR 5 rfl (v:=?v6) (ao ⟨by rfl,?h6⟩) ?_;case h6=>(intro w I;(try dsimp only at I);go_simp;try with_reducible rfl)
  try simp only[Act.put,aD]
  refine aR 6 rfl (v:=?v7) (ao ⟨by rfl,?h7⟩) ?_;case h7=>(intro w I;(try dsimp only at I);go_simp;try with_reducible rfl)
  try simp only[Act.put,aD]
  refine aR 7 rfl (v:=?v8) (ao ⟨by rfl,?h8⟩) ?_;case h8=>(intro w I;(try dsimp only at I);go_simp;try with_reducible rfl)
  try simp only[Act.put,aD]
  refine aR 8 rfl (v:=?v9) (ao ⟨by rfl,?h9⟩) ?_;case h9=>(intro w I;(try dsimp only at I);go_simp;try with_reducible rfl)
  try simp only[Act.put,aD]
  refine aR 9 rfl (v:=?v10) (ao ⟨by rfl,?h10⟩) ?_;case h10=>(intro w I;(try dsimp only at I);go_simp;try with_reducible rfl)
  try simp only[Act.put,aD]
  refine aR 11 rfl (v:=?v11) (ao ⟨by rfl,?h11⟩) ?_;case h11=>(intro w I;(try dsimp only at I);go_simp;try with_reducible rfl)
  try simp only[Act.put,aD]
  refine wpAnyH_ready (rs:=[10,12]) (by kernel_rfl) (by simp) ?_;refine AllReadyH.cons rfl (λa5 L=>?_) ?_;go_simp;refine L.out _ _ ?_ (λh9=>?_)
  . (try dsimp only);(first|(with_reducible (refine⟨?_,?_,?_⟩ <;> repeat (first|assumption|refine zg ?_|refine zd l.o ?_ (by omega)|refine zk (by omega) ?_)))|go_keep)
  clear L a5 H;have H:=h9;clear h9;try simp only[Act.put,aD]
  refine wpAnyH_ready (rs:=[12]) (by kernel_rfl) (by simp) ?_;refine AllReadyH.cons rfl (λa5 L=>?_) ?_;go_simp;first|go_at_K|(((go_at_call 56;refine ce.o.mono ?_;rintro e w1 ⟨rfl,O⟩;have l:=za (zw O);have gV:=zd l.o m2 a0;have rf:=lh ((l.o.block _ a0).trans R.o.aC);have gW:y<w1.heap.size:=dD a0 l.o.size;clear O));first|go_at_K|go_wp2_with fail)
  refine L.out _ _ ?_ (λh9=>?_)
  . (try dsimp only);(first|(with_reducible (refine⟨?_,?_,?_⟩ <;> repeat (first|assumption|refine zg ?_|refine zd l.o ?_ (by omega)|refine zk (by omega) ?_)))|go_keep)
  clear L a5 H;have H:=h9;clear h9;try simp only[Act.put,aD]
  refine wpAnyH_ready (rs:=[13]) (by kernel_rfl) (by simp) ?_;refine AllReadyH.cons rfl (λa5 L=>?_) ?_;go_simp;first|go_at_K|(((go_at_call 56;refine ce.o.mono ?_;rintro e w1 ⟨rfl,O⟩;have l:=za (zw O);have gV:=zd l.o m2 a0;have rf:=lh ((l.o.block _ a0).trans R.o.aC);have gW:y<w1.heap.size:=dD a0 l.o.size;clear O));first|go_at_K|go_wp2_with fail)
  refine L.out _ _ ?_ (λh9=>?_)
  . (try dsimp only);(first|(with_reducible (refine⟨?_,?_,?_⟩ <;> repeat (first|assumption|refine zg ?_|refine zd l.o ?_ (by omega)|refine zk (by omega) ?_)))|go_keep)
  clear L a5 H;have H:=h9;clear h9;try simp only[Act.put,aD]
  refine aR 14 rfl (v:=?v12) (ao ⟨by rfl,?h12⟩) ?_;case h12=>(intro w I;(try dsimp only at I);go_simp;try with_reducible rfl)
  try simp only[Act.put,aD]
  refine aR 15 rfl (v:=?v13) (ao ⟨by rfl,?h13⟩) ?_;case h13=>(intro w I;(try dsimp only at I);go_simp;try with_reducible rfl)
  try simp only[Act.put,aD]
  refine wpAnyH_ready (rs:=[16]) (by kernel_rfl) (by simp) ?_;refine AllReadyH.cons rfl (λa5 L=>?_) ?_;go_simp;refine L.out _ _ ?_ (λh9=>?_)
  . (try dsimp only);(first|(with_reducible (refine⟨?_,?_,?_⟩ <;> repeat (first|assumption|refine zg ?_|refine zd l.o ?_ (by omega)|refine zk (by omega) ?_)))|go_keep)
  clear L a5 H;have H:=h9;clear h9;try simp only[Act.put,aD]
  refine wpAnyH_done (by kernel_rfl) ?_ _;rotate_left;exact AllReadyH.nil;exact AllReadyH.nil;exact AllReadyH.nil;refine AllReadyH.cons rfl (λa5 L=>?_) ?_;go_simp;first|go_at_K|(((go_at_call 56;refine ce.o.mono ?_;rintro e w1 ⟨rfl,O⟩;have l:=za (zw O);have gV:=zd l.o m2 a0;have rf:=lh ((l.o.block _ a0).trans R.o.aC);have gW:y<w1.heap.size:=dD a0 l.o.size;clear O));first|go_at_K|go_wp2_with fail)
  refine L.out _ _ ?_ (λh9=>?_)
  . (try dsimp only);(first|(with_reducible (refine⟨?_,?_,?_⟩ <;> repeat (first|assumption|refine zg ?_|refine zd l.o ?_ (by omega)|refine zk (by omega) ?_)))|go_keep)
  clear L a5 H;have H:=h9;clear h9;try simp only[Act.put,aD]
  refine wpAnyH_ready (rs:=[10]) (by kernel_rfl) (by simp) ?_;refine AllReadyH.cons rfl (λa5 L=>?_) ?_;go_simp;refine L.out _ _ ?_ (λh9=>?_)
  . (try dsimp only);(first|(with_reducible (refine⟨?_,?_,?_⟩ <;> repeat (first|assumption|refine zg ?_|refine zd l.o ?_ (by omega)|refine zk (by omega) ?_)))|go_keep)
  clear L a5 H;have H:=h9;clear h9;try simp only[Act.put,aD]
  refine wpAnyH_ready (rs:=[13]) (by kernel_rfl) (by simp) ?_;refine AllReadyH.cons rfl (λa5 L=>?_) ?_;go_simp;first|go_at_K|(((go_at_call 56;refine ce.o.mono ?_;rintro e w1 ⟨rfl,O⟩;have l:=za (zw O);have gV:=zd l.o m2 a0;have rf:=lh ((l.o.block _ a0).trans R.o.aC);have gW:y<w1.heap.size:=dD a0 l.o.size;clear O));first|go_at_K|go_wp2_with fail)
  refine L.out _ _ ?_ (λh9=>?_)
  . (try dsimp only);(first|(with_reducible (refine⟨?_,?_,?_⟩ <;> repeat (first|assumption|refine zg ?_|refine zd l.o ?_ (by omega)|refine zk (by omega) ?_)))|go_keep)
  clear L a5 H;have H:=h9;clear h9;try simp only[Act.put,aD]
  refine aR 14 rfl (v:=?v14) (ao ⟨by rfl,?h14⟩) ?_;case h14=>(intro w I;(try dsimp only at I);go_simp;try with_reducible rfl)
  try simp only[Act.put,aD]
  refine aR 15 rfl (v:=?v15) (ao ⟨by rfl,?h15⟩) ?_;case h15=>(intro w I;(try dsimp only at I);go_simp;try with_reducible rfl)
  try simp only[Act.put,aD]
  refine wpAnyH_ready (rs:=[16]) (by kernel_rfl) (by simp) ?_;refine AllReadyH.cons rfl (λa5 L=>?_) ?_;go_simp;refine L.out _ _ ?_ (λh9=>?_)
  . (try dsimp only);(first|(with_reducible (refine⟨?_,?_,?_⟩ <;> repeat (first|assumption|refine zg ?_|refine zd l.o ?_ (by omega)|refine zk (by omega) ?_)))|go_keep)
  clear L a5 H;have H:=h9;clear h9;try simp only[Act.put,aD]
  refine wpAnyH_done (by kernel_rfl) ?_ _;rotate_left;exact AllReadyH.nil;exact AllReadyH.nil;exact AllReadyH.nil;exact AllReadyH.nil;all_goals refine NoPanic.normal ?_
  all_goals go_wp2_with fail
  all_goals go_meet
  all_goals
   have kt:=(R.o.aq l.o).Uw (x+c.nd.ak.length+1);have e:(max (K.al:Int) ((x:Int)+(c.nd.ak.length:Int)+1))=((max K.al (x+c.nd.ak.length+1):Nat):Int):=(by omega);rw[e];exact (cz.o.aq f l.o).Om f ⟨_,_,_,kt.1⟩ kt.2
 case rest =>
  have ar:aa (M6 N B G y A cb x c (xE bk c P) (xP nb) (.slice none 0 0) (K.NR (x+c.nd.ak.length+1)) [] w.heap.size w wc):=hcut;clear hcut cz;obtain⟨es,ch⟩:∃es,K.NR (x+c.nd.ak.length+1)=es:=⟨_,rfl⟩;rw[ch] at ar;have fC:es.row.length<=1000000:=by rw[<- ch];exact fD
  have c6:=za ch;clear ch;go_upto_region 2 with fail;go_cut [] from 25 to 28 (λwx=>aa (M6 N B G y A cb x c (xE bk c P) (xP nb) (.slice none 0 0) (es.add 2 ((x+c.nd.ak.length:Nat):Int)) [] w.heap.size w wx))
  case first =>
   obtain⟨x0,hJ,hK⟩:=zu ar.o.x1;obtain⟨c1,c2,c3⟩:=zu ar.o.x2;have lC:¬KT y wc w.heap.size:=λe=>ar.o.n1 (ao e);have lE:¬KT y wc (w.heap.size+1):=λe=>ar.o.n2 (ao e);have ij:=za (SV wc.drew (ar.o.aq f (zo (yS _ _))).wl.wi.qi (by omega));have c4:=za (O5 B G y es 2 ((x+c.nd.ak.length:Nat):Int) wc.drew (ar.o.aq f (zo (yS _ _))).wl.wi.kw fC)
   go_region_held3 (λX=>X.cell? (xD w.heap.size 0)=some (xP G)/\X.cell? (xD (w.heap.size+1) 0)=some (xP A))
    (first|(with_reducible (refine⟨?_,?_⟩ <;> repeat (first|assumption|refine zg ?_|refine FT.cell eL.o ?_ (by assumption))))|go_keep)
    (first
      | (go_at_call 27;refine c4.o.mono ?_;rintro e w2 ⟨rfl,bx,di⟩;have bL:=za bx;have eL:aa (FT (KT y) wc w2):=⟨di.fr.cQ,di.tk⟩;clear bx di)
      | (go_at_call 57;refine ij.o.mono ?_;rintro e w1 ⟨rfl,rfl⟩))
   all_goals go_wp2_with fail
   all_goals go_meet
   all_goals exact ar.o.Om f bL.o eL.o
  case rest =>
   obtain⟨e7,bx⟩:∃e7,es.add 2 ((x+c.nd.ak.length:Nat):Int)=e7:=⟨_,rfl⟩;have a4:aa (M6 N B G y A cb x c (xE bk c P) (xP nb) (.slice none 0 0) e7 [] w.heap.size w wc):=(by rw[<- bx];exact hcut);have bL:=za bx;clear hcut ar fC bx;obtain⟨c1,c2,c3⟩:=zu a4.o.x2;obtain⟨m0,m1,m2,m3,m4,gz,a0⟩:=bz a4.o.wl.wi.qi.aC;have eQ:=za (V4 kw lB wc a4.o.wl.wi.qi.sc a4.o.wl.wi.qi.hN);clear m2 m3 m4;go_wp2_with (go_at_call 58;refine eQ.o.mono ?_;rintro e w1 ⟨ov,xs,rfl,b4,gt,O⟩;obtain⟨jU,kj,rfl⟩:=O6 b4;have cA:=za b4;have i5:=za gt;have eY:=za (a4.o.aq f O);have l:=za O;clear b4 gt O);obtain⟨eq,aV⟩:∃eq,ME E c x C (Mr c) (e7,[])=eq:=⟨_,rfl⟩;have cK:Nn eq:=(by rw[<- aV,<- bL.o,<- c6.o];exact jx);have e0:=za cK;have iW:aa (OU cd E c x C aL eq):=(by unfold aa;rw[<- aV,<- bL.o,<- c6.o];exact jr);have eV:=za aV;clear aV cK eQ m0 m1 gz a0 c1 c2 c3 fD;refine wp_loop_ghost_k (λj a W=>∃(gX v5 gY gZ g0 g1 g2 g3 g4 g5 g6 g7 g8 g9 hc he hf hg hh hi hm hu hv hw hx hy hz hD:Xv) (ds:List Deferred) (k:Nat) (lv:Xv) (s:Cd×List Lt),(gX=xI (k:Nat)/\k+j=(Mr c).length+1/\k<=(Mr c).length/\aa (M6 N B G y A cb x c (xE bk c P) (xP nb) lv s.1 s.2 w.heap.size w W)/\aa (ME E c x C ((Mr c).drop k) s=eq)/\aa (W.ownsRow wc.heap.size 159 3 (.slice jU (Mr c).length kj) (Mr c).length xs/\(∀g,jU=some (xD g 0)->¬CT y A W g))/\aa (NS w.heap.size W ds))/\a={ tmps:=#[xP G,xP A,xP w.heap.size,xP (w.heap.size+1),undef,v5,undef,undef,undef,u9,u10,u11,u12,u13,u14,u15,u16,u17,u18,u19,u20,u21,u22,u23,u24,u25,u26,u27,u28,xP A,xP A,xP A,.agg #[xE bk c P,xP nb],.slice jU (Mr c).length kj,xI ((Mr c).length:Nat),gX,gY,gZ,g0,g1,g2,g3,g4,g5,g6,g7,g8,g9,hc,he,hf,hg,hh,hi,hm,hu,hv,hw,hx,hy,hz,undef,undef,undef,undef,undef,undef,undef,hD,undef,undef,undef,undef,undef,undef,undef,undef,undef,undef,undef,undef,undef,undef,undef,undef,undef,undef,undef,undef,undef,undef,undef,undef,undef,undef,undef,undef,undef,undef,undef,undef,undef,undef,undef,undef],defers:=ds }) ((Mr c).length+1) ?_ ?_
   . refine⟨xI 0,undef,undef,undef,undef,undef,undef,undef,undef,undef,undef,undef,undef,undef,undef,undef,undef,undef,undef,undef,undef,undef,undef,undef,undef,undef,undef,undef,[],0,.slice none 0 0,(e7,[]),⟨rfl,by omega,aE _,eY.o,eV.o,⟨cA.o,?_⟩,.nil⟩,rfl⟩;intro g lo e;have ff:=a4.o.wl.tk l.o g e;have hR:=(a4.o.wl.lt g ff).2.1;have kk:=(cA.o.lt g (by rw[lo];rfl)).1;omega
   rintro gk a wr ⟨_,v5,gY,gZ,g0,g1,g2,g3,g4,g5,g6,g7,g8,g9,hc,he,hf,hg,hh,hi,hm,hu,hv,hw,hx,hy,hz,hD,ds,k,lv,s,⟨rfl,lA,l2,R,eG,er,a1⟩,rfl⟩ J Kn lg lk;by_cases jG:k<(Mr c).length
   . obtain⟨q,h0⟩:∃q,(Mr c)[k]?=some q:=⟨_,av jG⟩;have fr:bV N w w1:=eY.o.ft.am dH (λk e=>(da.o.lt k e).1);have ft:bV N w wr:=R.o.ft.am dH (λk e=>(da.o.lt k e).1);have ks:bV N w1 wr:=λb hU=>(ft b hU).trans (fr b hU).symm;obtain⟨g,mk,mx,rfl,hO,i7,i8,cB⟩:=lj (zR er.o.1 (aE _)) (i5.o.am ks) h0 rfl;obtain⟨jS,_,_,rfl,_⟩:=cB.tt.ptr;obtain⟨kX,eE,rfl⟩:=zB cB.own;have em:=RN c q (aM h0);obtain⟨cs,bB,_⟩:=kw.nd.eqs q em;obtain⟨c0,eF,ct⟩:∃s eF,q.ns=s::eF:=by
      cases jO:q.ns with
      | nil=>rw[jO] at bB;simp at bB
      | cons s eF=>exact⟨s,eF,rfl⟩
     obtain⟨p0,pp,go⟩:∃p pp,q.ps=p::pp:=by
      cases jO:q.ps with
      | nil=>rw[jO] at cs;simp at cs;rw[cs] at bB;simp at bB
      | cons s eF=>exact⟨s,eF,rfl⟩
     obtain⟨gl,rfl,n0,n1⟩:=kG cB.own (k:=0) (s:=c0) (p:=p0) (by rw[ct];rfl) (by rw[go];rfl) rfl;have fS:=cB.lo gl rfl;have gc:c.of (c.idx (q.ns.headD ⟨#[]⟩))=c.of (c.idx c0):=(by rw[ct];rfl);obtain⟨ii,b2⟩:∃ii,c.of (c.idx c0)=ii:=⟨_,rfl⟩;have dM:=jw q em;have bq:=eG.o;rw[Ws h0] at bq;rw[gc,b2] at dM bq;obtain⟨aA,bg⟩:∃aA,My E c x C s q.r ii=aA:=⟨_,rfl⟩;rw[bg] at bq;have cl:Nn ((aA.1.fv (Ny c x (MS (NJ q.ns q.ps) q.ns.length q.ns.length))),aA.2):=XQ b1 _ _ (by rw[bq];exact e0.o);have fP:Nn aA:=⟨On cl.1,cl.2⟩;have jJ:aA.1.row.length+q.ns.length<=1000000:=(by have:=cl.1.1;rw[Cd.ON] at this;simpa [Ny,QO] using this);have jI:q.ns.length<=1000000:=(by omega);have bp:∀j,j<q.ns.length->wr.cell? (xD gl (j*2))=some (.string (q.ns[j]?.getD ⟨#[]⟩))/\wr.cell? (xD gl (j*2+1))=some (xI (q.ps[j]?.getD 0:Nat)):=(by intro j hV;obtain⟨s',gs⟩:∃s,q.ns[j]?=some s:=⟨_,av hV⟩;obtain⟨p',gn⟩:∃p,q.ps[j]?=some p:=⟨_,av (by omega)⟩;obtain⟨le,lc,h1,h2⟩:=kG cB.own gs gn rfl;cases lc;rw[gs,gn];exact⟨h1,h2⟩);have bl:=za bp;have lY:=za cB;have im:=za bq;have i4:=za fP;have i1:=za dM;have bY:=za bg;have e1:=za b2;have jB:(0:Int)<(q.ns.length:Int):=(by omega);have jE:0<q.ns.length:=bB;have jD:¬q.ns=[]:=(by rw[ct];simp);have l4:(0:Int)<=(k:Int):=(by omega);have l5:(k:Int)<((Mr c).length:Int):=(by omega);have lf:(Mr c).length<=9223372036854775807:=by
      rcases er.o.1.2 with ⟨_,h⟩|⟨g,la,lb,l3,_,_,h3,h4,_⟩
      . omega
      unfold maxLen at h4;omega
     have eW:=za cB.tt;have fl:=R.o.wl.wi.qi.hN;have lt:=ze R.o.x1;clear fr ft ks cB h0 em cs bB ct go gc b2 dM bq bg cl fP bp eG;go_upto_region 6 with fail;refine zn (λV=>M6 N B G y A cb x c (xE bk c P) (xP nb) lv s.1 s.2 w.heap.size w V/\xB wr V/\xH V wr.heap.size #[xS gl q.ns.length eE,xI q.a,xP jS] 159) ⟨R.o.aq f (zq wr _),zq wr _,zc wr _⟩ ?_;rintro V ⟨bv,a6,b0⟩;have M:=za bv;have Q:=za a6;have a2:=za b0;have co:¬CT y A V wr.heap.size:=λe=>by have:=(R.o.wl.lt _ (R.o.wl.tk a6 _ e)).2.1;omega
     have gd:¬CT y A V gl:=λe=>by have:=(bv.wl.lt _ e).1;omega
     clear bv a6 b0;go_cut [] from 39 to 57 (λwx=>∃cv,aa (M6 N B G y A cb x c (xE bk c P) (xP nb) cv aA.1 aA.2 w.heap.size w wx)/\aa (FT (CT y A) V wx))
     case first =>
      obtain⟨x0,hJ,hK⟩:=zu M.o.x1;obtain⟨c1,c2,c3⟩:=zu M.o.x2;obtain⟨m0,m1,m2,m3,m4,gz,a0⟩:=bz M.o.wl.wi.qi.aC;obtain⟨q0,gC,q2,qf,gU⟩:=zL a2.o;have lR:=Q.o.size;have d0:=zd Q.o n0 (by omega);have d1:=zd Q.o n1 (by omega);have kx:gl<V.heap.size:=(by omega);have lN:=M.o.n1;have lO:=M.o.n2;have Z:=za (hW c0 (p0:Int) V.drew (M.o.wl.wi.qi.sc.am (λ_ _=>rfl)) M.o.wl.wi.qi.hN);have a3:=za (λ(W':Xw) (hB:xB V W')=>S2 E C cd f be fA fz b1 km q.r (xP jS) ii s W' (eW.o.am (λb hU=>((hB.block b (by omega)).trans (Q.o.block b (by omega))))) (M.o.aq f hB).wl (M.o.aq f hB).ops i1.o (by rw[bY.o];exact i4.o));rw[bY.o] at a3;unfold hG at a3;clear m3 m4
      go_region_held3 (λX=>X.cell? (xD w.heap.size 0)=some (xP G)/\X.cell? (xD (w.heap.size+1) 0)=some (xP A)/\X.cell? (xD A 0)=some (xE bk c P)/\X.cell? (xD A 1)=some (xP nb)/\X.cell? (xD A 2)=some (.map (some cb))/\X.cell? (xD wr.heap.size 0)=some (xS gl q.ns.length eE)/\X.cell? (xD wr.heap.size 2)=some (xP jS)/\X.cell? (xD gl 0)=some (.string c0)/\X.cell? (xD gl 1)=some (xI p0))
       (first|(with_reducible (refine⟨?_,?_,?_,?_,?_,?_,?_,?_,?_⟩ <;> repeat (first|assumption|refine zg ?_|refine FT.cell eN.o ?_ (by assumption)|refine zd bE.o ?_ (by omega)|refine zd l.o ?_ (by omega))))|go_keep)
       (first
         | (go_at_call 59;refine (a3.o _ bE.o).mono ?_;rintro e w4 ⟨rfl,⟨jQ,dw⟩,dk⟩;have iB:=za ((M.o.aq f bE.o).ad f dw dk);have eN:=za ((FT.below bE.o (M.o.wl.tk bE.o)).trans dk);obtain⟨l6,l7,l8,l9,mb,mc,md⟩:=bz dw.wi.qi.aC;clear dw dk)
         | (go_at_call 60;refine eS.o.mono ?_;rintro e w3 ⟨rfl,fg⟩;have bE:=za (l.o.trans (fg.mono l.o.size));clear fg)
         | (go_at_call 61;refine Z.o.mono ?_;rintro e w2 ⟨rfl,O⟩;have l:=za (zw O);have eS:=za (jW (c.idx c0) w2 (M.o.wl.wi.qi.ck.aq l.o));(rw[e1.o] at eS);clear O))
      all_goals go_wp2_with fail
      all_goals go_meet
      all_goals exact⟨jQ,iB.o,eN.o⟩
     case rest => obtain⟨cv,U,Y⟩:=hcut;obtain⟨w5,rfl⟩:∃w5,w5=wc:=⟨_,rfl⟩;have bA:=(Y.o.fr.block _ (ze a2.o) co).trans a2.o;obtain⟨q0,gC,q2,qf,gU⟩:=zL bA;clear bA n0 n1 hO i7 i8 eW;go_wp2_with (go_at_call 62;refine (WB _ _ _ _).mono ?_;rintro e w6 ⟨rfl,rfl⟩);have bb:=U.o.aq f (zq w5 (.cells #[xS gl q.ns.length eE] 156));have Z:=za bb;have bs:FT (CT y A) wr (w5.alloc (.cells #[xS gl q.ns.length eE] 156)):=((FT.below Q.o (R.o.wl.tk Q.o)).trans Y.o).trans (FT.below (zq w5 _) (U.o.wl.tk (zq w5 _)));have io:=za bs;refine VY (z:=w.heap.size) (Bs:=w5.heap.size) (gl:=gl) (cl:=eE) (lv:=cv) (K:=aA.1) (ls:=aA.2) q.ns q.ps be fS jI jJ _ ⟨by rw[show Ny c x []=[] from rfl,Cd.Rc];exact bb.wl,FT.below (yS _ _) (λ_ e=>e),bb.x1,bb.x2,bb.n1,bb.n2⟩ (by simp) (λe=>by have:=(U.o.wl.lt _ (U.o.wl.tk (zq w5 _) _ e)).2.1;omega) (zu (zc w5 _)).1 (λj hV=>⟨zj _ (Y.o.cell (zd Q.o (bl.o j hV).1 (by omega)) gd),zj _ (Y.o.cell (zd Q.o (bl.o j hV).2 (by omega)) gd)⟩) ?_;intro D k0 hT ck fh;have fk:=Z.o.ad f ck.wl ck.ft;have a9:=io.o.trans ck.ft;have bK:=za fk;have c5:=za a9;have il:=za fh;have kT:w5.heap.size+1<=D:=(by rw[au] at hT;exact hT);clear bb bs fk a9 ck fh q0 gC q2 qf gU;go_wp2_with fail;have ga:=er.o.2 g rfl;have jA:KeepsOthers wr k0:=R.o.wl.others c5.o;refine Handed.intro (gk-1) (by omega) (lg _ _ _ ⟨_,_,_,_,_,_,_,_,_,_,_,_,_,_,_,_,_,_,_,_,_,_,_,_,_,_,_,_,{ target:=.collected D,args:=#[] }::ds,k+1,cv,(aA.1.fv (Ny c x (MS (NJ q.ns q.ps) q.ns.length q.ns.length)),aA.2),⟨by go_num,by omega,by omega,bK.o,im.o,⟨zi er.o.1 (λb h1 h2 e=>c5.o.fr.block b h2 (by cases e;exact ga)),λg' e=>by cases e;exact c5.o.not (er.o.1.lt g rfl).2 ga⟩,?_⟩,rfl⟩);refine NS.cons D ds (by have:=U.o.ft.fr.size;omega) il.o (λD' jb=>?_) (a1.o.others jA);have h1:=a1.o.lt D' jb;have h2:=Q.o.size;have h3:=Y.o.fr.size;omega
   have ld:k=(Mr c).length:=(by omega);subst ld;rw[List.drop_length,ME] at eG;have aV:=eG.o;clear eG;go_wp2_with fail;go_loopg [] (aL+1) (λj wr=>∃(g:Nat) (gw:Xv) (s2:Cd×List Lt),g+1=j/\aa (OU cd E c x C g s2)/\aa (NI E c x C aL eq=NI E c x C g s2)/\aa (M6 N B G y A cb x c (xE bk c P) (xP nb) gw s2.1 s2.2 w.heap.size w wr)/\aa (NS w.heap.size wr ds));case atStart=>exact⟨aL,lv,s,rfl,by unfold aa;rw[aV];exact iW.o,by unfold aa;rw[aV],R.o,a1.o⟩
   case round =>
    clear R er a1 aV;obtain⟨g,gw,s2,rfl,cg,hN,R,a1⟩:=hrel;obtain⟨ex,ls⟩:=s2;obtain⟨mF,T,cO⟩:=R.o.wl.row;obtain⟨kX,dc,rfl⟩:=QM T;obtain⟨c1,c2,c3⟩:=zu R.o.x2;obtain⟨m0,m1,m2,m3,m4,gz,a0⟩:=bz R.o.wl.wi.qi.aC;cases ls with
    | nil => have i0:aa (NI E c x C aL eq=ex):=(by unfold aa;rw[hN.o];cases g <;> rfl);have gx:xC wr A 4 (.slice kX 0 dc):=m4;clear T cO m0 m1 m2 m3 m4 cg hN;go_wp2_with fail;rw[<- i2.o];refine SM (B0:=w.heap.size) ?_ (λW=>results_none rfl _ _ _) ds wr a1.o ⟨rfl,⟨_,by rw[c6.o,bL.o,eV.o,i0.o];exact R.o.wl⟩,R.o.ft⟩;rintro W D o hT ln ⟨_,⟨bC,jL⟩,jy⟩;have kz:M4 w.heap.size W (W.putObj D o):=M4.of (grownBy_putObj' W D o) (λr e=>by cases e;exact⟨hT,_,ln,rfl⟩);have h2:=jL.sc kz da.o.wi.qi.ck.lt dH;exact⟨rfl,⟨bC,h2.1⟩,jy.sc kz (λk e=>(h2.2 k).1 e) rfl rfl rfl⟩
    | cons m r =>
      obtain⟨v,kf,rfl,dY,b3⟩:=cO;obtain⟨bt,_,_,rfl,_⟩:=dY.ptr;obtain⟨i9,ox,rfl,hO⟩:=P8 T (j:=0) rfl;obtain⟨_,_,ff,i7⟩:=P8 T (j:=1) rfl;cases ff;obtain⟨_,_,hR,i8⟩:=P8 T (j:=2) rfl;cases hR;obtain⟨_,_,kk,k4⟩:=P8 T (j:=3) rfl;cases kk;obtain⟨a',fd,lH,ca,cE⟩:=Wc underlying85 Tryz.Uu (n:=r.length) T;cases g with
      | zero=>exact absurd cg.o (by unfold OU;simp)
      | succ g =>
        have kp:=cg.o;rw[OU] at kp;obtain⟨ea,cm,eb,ek,cn⟩:=kp;have hM:=hN.o;rw[NI] at hM;simp only at ea cm eb ek cn hM;obtain⟨aA,bg⟩:∃aA,My E c x C (ex.fv (z8 c x C m.clock),r) m.next m.clock=aA:=⟨_,rfl⟩;rw[bg] at cm cn hM;have iS:=za ea;have eR:=za cm;have iT:=za eb;have iU:=za ek;have iV:=za cn;have iZ:=za hM;have bY:=za bg;have i3:=za dY;have e3:=za b3;have e5:=za ca;have eZ:=za cE;have i6:xC wr i9 ox (xI (m.cell:Int)):=hO;have ky:(0:Int)<((r.length:Int)+1):=(by omega);have gx:xC wr A 4 (.slice (some (xD i9 ox)) (r.length+1) dc):=m4;have fl:=R.o.wl.wi.qi.hN;clear T ca cE dY b3 bg hM ea cm eb ek cn hN cg hO m0 m1 m2 m3 m4;go_upto_region 13 with fail;refine zn (λV=>M6 N B G y A cb x c (xE bk c P) (xP nb) (.slice (some (xD i9 ox)) (r.length+1) dc) ex (m::r) w.heap.size w V/\xB wr V/\xH V wr.heap.size #[xI (m.cell:Int),xP bt,xI (m.clock.1:Nat),xI (m.clock.2:Nat)] 170) ⟨R.o.aq f (zq wr _),zq wr _,zc wr _⟩ ?_;rintro V ⟨bv,a6,b0⟩;have M:=za bv;have Q:=za a6;have a2:=za b0;have co:¬CT y A V wr.heap.size:=λe=>by have:=(R.o.wl.lt _ (R.o.wl.tk a6 _ e)).2.1;omega
        clear bv a6 b0 i6 i7 i8 k4 gx;go_cut [] from 81 to 88 (λwx=>aa (M6 N B G y A cb x c (xE bk c P) (xP nb) (.slice a' r.length fd) ex r w.heap.size w wx)/\aa (FT (CT y A) V wx))
        case first =>
         obtain⟨c1,c2,c3⟩:=zu M.o.x2;obtain⟨m0,m1,m2,m3,m4,gz,a0⟩:=bz M.o.wl.wi.qi.aC;have jP:¬w.heap.size+1=A:=λe=>M.o.n2 (ap (ao e));have kW:¬A=w.heap.size+1:=λe=>jP e.symm;clear m0 m1 m2 m3;go_still_tail 6,(by kernel_rfl)
         all_goals go_wp2_with fail
         all_goals go_meet
         all_goals
          have jv:bV N wr V:=λb hU=>Q.o.block b (by omega);have dL:=M.o.wl.pop (lv':=.slice a' r.length fd) kf (e3.o.am jv) (O4 e5.o (λk _ h2 _=>Q.o.block k h2)) eZ.o;first|exact⟨M.o.ad f dL.1 dL.2,dL.2⟩|exact⟨(M.o.ad f dL.1 dL.2).aq f (zo (yS _ _)),dL.2.trans (FT.below (zo (yS _ _)) (dL.1.tk (zo (yS _ _))))⟩
        case rest =>
         obtain⟨U,Y⟩:=hcut;have bA:=(Y.o.fr.block _ (ze a2.o) co).trans a2.o;obtain⟨q0,gC,q2,q3,qf,gU⟩:=zU bA;have c9:=za bA;have cR:=Y.o.not (ze a2.o) co;obtain⟨x0,hJ,hK⟩:=zu U.o.x1;obtain⟨c1,c2,c3⟩:=zu U.o.x2;have eX:=za (SR (by omega) C m.clock ex wc iU.o U.o.wl.wi iS.o);unfold hG at eX;have ip:=za ((FT.below Q.o (R.o.wl.tk Q.o)).trans Y.o);clear bA
         go_wp2_with (first
          | (go_at_call 64
             refine eX.o.mono ?_;rintro e w6 ⟨rfl,dq,bs⟩;have Z:=za (U.o.Om f dq bs);have bo:=(U.o.wl.N6 dq bs).2;have eO:=za (ip.o.trans bo);have dP:=(bo.fr.block _ (ze c9.o) cR).trans c9.o;have eT:=za dP;have ge:=bo.not (ze c9.o) cR;obtain⟨lU,lV,gV,lW,rf,gW⟩:=zU dP;obtain⟨c0,jT,sz⟩:=zu Z.o.x1;obtain⟨t0,lX,tz⟩:=zu Z.o.x2;have a3:=za (S2 E C cd f be fA fz b1 km m.next (xP bt) m.clock (ex.fv (z8 c x C m.clock),r) w6 (i3.o.am (eO.o.am fl (λk e=>(R.o.wl.lt k e).1))) Z.o.wl Z.o.ops iT.o (by rw[bY.o];exact eR.o));rw[bY.o] at a3;unfold hG at a3;clear dq bs bo dP q0 gC q2 q3 qf gU x0 hJ hK c1 c2 c3)
          | (go_at_call 59
             refine a3.o.mono ?_;rintro e w7 ⟨rfl,⟨jR,dz⟩,a9⟩;have bK:=za (Z.o.ad f dz a9);have ir:=za (eO.o.trans a9);have fB:=(a9.fr.block _ (ze eT.o) ge).trans eT.o;obtain⟨q0,gC,q2,q3,qf,gU⟩:=zU fB;obtain⟨x0,hJ,hK⟩:=zu bK.o.x1;have c4:=za (O5 B G y aA.1 4 (m.cell:Int) w7 dz.wi.kw eR.o.1.1);clear dz a9 fB lU lV gV lW rf gW c0 jT sz t0 lX tz)
          | (go_at_call 27
             refine c4.o.mono ?_;rintro e w8 ⟨rfl,du,dl⟩;have iR:=za (bK.o.Om f du dl);have it:=za (ir.o.trans (bK.o.wl.N6 du dl).2);clear du dl))
         go_roundg (g+1);case measure=>omega
         exact⟨g,jR,(aA.1.add 4 (m.cell:Int),aA.2),rfl,iV.o,iZ.o,iR.o,a1.o.others (R.o.wl.others it.o)⟩
end
end Go.Proofs.YtcnelakggnfnhaaGreatDoor
