/- Part 24 of the proof. -/
import Derived.StillTailTactics
import Derived.Test.YtbicmofihhjgbaaGreatDoorK22
set_option maxRecDepth 100000
set_option maxHeartbeats 8000000
namespace Go.Proofs.YtbicmofihhjgbaaGreatDoor
open Go.Proofs.Tryz
open Go.RowKit Go.Shelf
section
variable {K K':Cd} {ls:List Lt} {B N x cb C y A G z:Nat} {c:Sc} {E:Sc->Nat->Cd->Cd} {ev lv nv:Xv} {W W' w:Xw}
attribute [local go_sem ↓] Go.wp_at_zero Go.wp_at_succ
def Cd.NR (K:Cd)(n:Nat):Cd:={ K with al:=max K.al n }
def ME (E:Sc->Nat->Cd->Cd)(c:Sc)(x C:Nat):List Qn->Cd×List Lt->Cd×List Lt
 | [],s=>s
 | q::l,s=>ME E c x C l (((My E c x C s q.r (c.of (c.idx (q.ns.headD ⟨#[]⟩)))).1.fv (Ny c x (MS (NJ q.ns q.ps) q.ns.length q.ns.length))),(My E c x C s q.r (c.of (c.idx (q.ns.headD ⟨#[]⟩)))).2)
def NI (E:Sc->Nat->Cd->Cd)(c:Sc)(x C:Nat):Nat->Cd×List Lt->Cd
 | 0,s=>s.1
 | g+1,s=>match s.2 with
   | []=>s.1
   | m::r=>NI E c x C g ((My E c x C (s.1.fv (z8 c x C m.clock),r) m.next m.clock).1.add 4 m.cell,(My E c x C (s.1.fv (z8 c x C m.clock),r) m.next m.clock).2)
def OU (a:Tm->Nat×Nat->Prop)(E:Sc->Nat->Cd->Cd)(c:Sc)(x C:Nat):Nat->Cd×List Lt->Prop
 | 0,s=>s.2=[]
 | g+1,s=>match s.2 with
   | []=>True
   | m::r=>s.1.row.length+(z8 c x C m.clock).length<=1000000/\Nn (My E c x C (s.1.fv (z8 c x C m.clock),r) m.next m.clock)/\a m.next m.clock/\Oe c C m.clock /\
     OU a E c x C g ((My E c x C (s.1.fv (z8 c x C m.clock),r) m.next m.clock).1.add 4 m.cell,(My E c x C (s.1.fv (z8 c x C m.clock),r) m.next m.clock).2)
theorem Wb (c:Sc)(L:List (Nat×Nat))(a:List Qn):∀(f i:Nat) (s:Os),(∀q∈s.2,q∈a)->∀q∈(Mv c L a f i s).2,q∈a:=by
 intro f;induction f with
 | zero=>intro i s h;exact h
 | succ f p =>
   have m:∀(q:Qn) (l:List Qn) (j:Nat) (s:Os),(∀q∈s.2,q∈a)->∀g∈(Nc (Mv c L a f) c L q l j s).2,g∈a:=by
    intro q l;induction l with
    | nil=>intro j s h;exact h
    | cons o l b =>
      intro j s h;rw[Nc];by_cases k:Oo c L q o=true
      . rw[ag k];exact b _ _ (p j s h)
      rw[ae k];exact b _ _ h
   intro i s h;rw[Mv];split
   . exact h
   rename_i q n
   split
   . exact h
   intro g d;rcases bj.1 d with e|e
   . exact m q a 0 (s.1.set i true,s.2) h g e
   rw[cu.1 e];exact aM n
theorem RN (c:Sc):∀q∈Mr c,q∈c.nd.eqs:=by
 unfold Mr;have:∀(m:Nat) (s:Os),(∀q∈s.2,q∈c.nd.eqs)->∀q∈(OV (Mv c c.hI c.nd.eqs c.nd.eqs.length) c.nd.eqs.length m s).2,q∈c.nd.eqs:=by
  intro m;induction m with
  | zero=>intro s h;exact h
  | succ m a=>intro s h;rw[OV];exact a _ (Wb _ _ _ _ _ _ h)
 exact this _ _ (λq h=>by simp at h)
theorem Yy (a:∀d b K,qv (E d b K)->qv K){s:Cd×List Lt}{t:Tm}{k:Nat×Nat}(h:Nn (My E c x C s t k)):Nn s:=G9 (λ_ _ _ h=>h) (λs t k h=>RO a s t k h) t k s h
theorem XQ (e:∀d b K,qv (E d b K)->qv K):∀(l:List Qn) (s:Cd×List Lt),Nn (ME E c x C l s)->Nn s:=by
 intro l;induction l with
 | nil=>intro s h;exact h
 | cons q l f => intro s h;rw[ME] at h;have a:=f _ h;exact Yy e ⟨On a.1,a.2⟩
theorem Ws {l:List Qn}{k:Nat}{q:Qn}(h:l[k]?=some q)(s:Cd×List Lt):ME E c x C (l.drop k) s=ME E c x C (l.drop (k+1)) (((My E c x C s q.r (c.of (c.idx (q.ns.headD ⟨#[]⟩)))).1.fv (Ny c x (MS (NJ q.ns q.ps) q.ns.length q.ns.length))),(My E c x C s q.r (c.of (c.idx (q.ns.headD ⟨#[]⟩)))).2):=by obtain⟨a,b⟩:=aB.1 h;rw[dE a,ME,b]
theorem KI.Uw {b d f:Xv}(h:KI B G y b d f K W)(n:Nat):KI B G y b d f (K.NR n) (W.setCell (xD y 2) (xI ((max K.al n:Nat):Int)))/\FT (KT y) W (W.setCell (xD y 2) (xI ((max K.al n:Nat):Int))):=by
 have a:∀k,¬k=y->(W.setCell (xD y 2) (xI ((max K.al n:Nat):Int))).heap[k]?=W.heap[k]?:=λk a=>zr a rfl;have j:(W.setCell (xD y 2) (xI ((max K.al n:Nat):Int))).heap.size=W.heap.size:=by simp
 have l:=h.MC
 have i:KI B G y b d f (K.NR n) (W.setCell (xD y 2) (xI ((max K.al n:Nat):Int))) :=
  ⟨(a _ h.dk).trans h.wr,zh _ _ _ _ h.aC,zi h.xv (λk g _ _=>a k (by omega)),zi h.hQ (λk g _ _=>a k (by omega)),zi h.zA (λk g _ _=>a k (by omega)),h.MF,h.MC,h.dk,h.d1,h.d2,by rw[j];exact h.hB⟩
 refine⟨i,⟨⟨rfl,rfl,rfl,by rw[j];exact an _,λk _ m=>a k (λe=>m ((h.kt k).2 (ao e)))⟩,λk e=>ao ((h.kt k).2 ((i.kt k).1 e))⟩⟩
theorem S7 (w:Xw)(h:Ng N A cb x c ev nv lv w)(d:x<=1000000) :
 xK 100 #[xP A] w (λe a=>e=.returned (xI ((x+c.nd.ak.length+1:Nat):Int))/\xB w a):=by
 refine (XN w h d).mono ?_;rintro e a ⟨b,n,rfl⟩;exact⟨b,zI (Below.refl _ _) n⟩
structure M6 (N B G y A cb x:Nat) (c:Sc) (ev nv lv:Xv) (K:Cd) (ls:List Lt) (z:Nat) (w W:Xw):Prop where
 wl:WL N B G y A cb x c ev nv lv K ls W
 ops:M9 W
 ft:FT (CT y A) w W
 x1:W.heap[z]?=some (.cells #[xP G] 193 (0,0))
 x2:W.heap[z+1]?=some (.cells #[xP A] 111 (0,0))
 n1:¬CT y A W z
 n2:¬CT y A W (z+1)
theorem M6.ad {d:Xv}{b:List Lt}(f:21<=N)(h:M6 N B G y A cb x c ev nv lv K ls z w W)(g:WL N B G y A cb x c ev nv d K' b W')(a:FT (CT y A) W W'):M6 N B G y A cb x c ev nv d K' b z w W' :=
 ⟨g,h.ops.am (a.am h.wl.wi.qi.hN (λk e=>(h.wl.lt k e).1)) f,h.ft.trans a,(a.fr.block _ (ze h.x1) h.n1).trans h.x1,(a.fr.block _ (ze h.x2) h.n2).trans h.x2,a.not (ze h.x1) h.n1,a.not (ze h.x2) h.n2⟩
theorem M6.Om (d:21<=N)(h:M6 N B G y A cb x c ev nv lv K ls z w W)(b:KW B G y K' W')(a:FT (KT y) W W'):M6 N B G y A cb x c ev nv lv K' ls z w W':=h.ad d (h.wl.N6 b a).1 (h.wl.N6 b a).2
theorem M6.aq (b:21<=N)(h:M6 N B G y A cb x c ev nv lv K ls z w W)(a:xB W W'):M6 N B G y A cb x c ev nv lv K ls z w W':=h.ad b (h.wl.aq a) (FT.below a (h.wl.tk a))
theorem WZ (kz:eU c)(lF:c.nd.eqs.length<=1000000)(E:Sc->Nat->Cd->Cd)(C aA:Nat)(ca:Tm->Nat×Nat->Prop)(f:21<=N)(bb:x<=100000)
 (fP:∀t k,ca t k->Wf t) (fD:∀t k i u,ca t k->gH t=true->t.ts[i]?=some u->ca u (c.operand t i k)) (b0:∀d b K,qv (E d b K)->qv K) (kt:RU N B G y A cb x c ev nv E C ca)
 (K:Cd) (w:Xw) (h:WL N B G y A cb x c ev nv (.slice none 0 0) K [] w) (gt:M9 w)
 (gc:K.row.length<=1000000) (jB:∀q∈c.nd.eqs,ca q.r (c.of (c.idx (q.ns.headD ⟨#[]⟩)))) (jy:OU ca E c x C aA (ME E c x C (Mr c) ((K.NR (x+c.nd.ak.length+1)).add 2 ((x+c.nd.ak.length:Nat):Int),[]))) (jD:Nn (ME E c x C (Mr c) ((K.NR (x+c.nd.ak.length+1)).add 2 ((x+c.nd.ak.length:Nat):Int),[]))) :
 xK 57 #[xP G,xP A] w (λe X=>e=.returned (.tuple #[])/\(∃bB,WL N B G y A cb x c ev nv bB (NI E c x C aA (ME E c x C (Mr c) ((K.NR (x+c.nd.ak.length+1)).add 2 ((x+c.nd.ak.length:Nat):Int),[]))) [] X)/\FT (CT y A) w X):=by
 obtain⟨bg,P,nb,rfl,rfl,lN⟩:=h.wi.qi.sc.shape;have ft:∀o1 o2,o1=Obj.cells #[xP G] 193 (0,0)->o2=Obj.cells #[xP A] 111 (0,0)->M6 N B G y A cb x c (xE bg c P) (xP nb) (.slice none 0 0) K [] w.heap.size w ((w.alloc o1).alloc o2):=by
  intro o1 o2 fk h0;have hB:=cT w o1 o2;refine⟨h.aq hB,gt.am (zm hB h.wi.qi.hN) f,FT.below hB (h.tk hB),by rw[(mh w o1 o2).1,fk],by rw[(mh w o1 o2).2,h0],λe=>?_,λe=>?_⟩
  . have:=(h.lt _ (h.tk hB _ e)).2.1;omega
  have:=(h.lt _ (h.tk hB _ e)).2.1;omega
 have eR:=za ft;have dz:=h.wi.qi.hN;have c9:=za h;clear ft h gt;refine callsIn_wide.1 (callsIn_of_wp_marks (F:=Fence.wide) (n:=9) func57 rfl trivial (wpIn_wide.2 ?_) rfl);simp only[ntmps57,List.size_toArray,bJ,cw,Nat.reduceAdd,Nat.reduceSub,Array.replicate_succ,Array.replicate_zero,List.push_toArray,List.append_toArray,List.nil_append,List.cons_append];obtain⟨km,dP⟩:∃km,bodyPostM Fence.wide 9 prog Tryz.f57 (λe X=>e=.returned (.tuple #[])/\(∃bB,WL N B G y A cb x c (xE bg c P) (xP nb) bB (NI E c x C aA (ME E c x C (Mr c) ((K.NR (x+c.nd.ak.length+1)).add 2 ((x+c.nd.ak.length:Nat):Int),[]))) [] X)/\FT (CT y A) w X)=km:=⟨_,rfl⟩;rw[dP];have i6:=za dP;clear dP;go_upto_region 1 with fail;refine zn (λW=>M6 N B G y A cb x c (xE bg c P) (xP nb) (.slice none 0 0) K [] w.heap.size w W) (eR.o _ _ rfl rfl) ?_;intro W ky;have cv:=za ky;clear ky eR;go_cut [] from 9 to 24 (λwx=>aa (M6 N B G y A cb x c (xE bg c P) (xP nb) (.slice none 0 0) (K.NR (x+c.nd.ak.length+1)) [] w.heap.size w wx))
 case first =>
  obtain⟨l3,l4,rv,dl⟩:=cv.o.wl.wi.kw;obtain⟨x0,hR,hT⟩:=zu cv.o.x1;obtain⟨c0,c1,c2⟩:=zu cv.o.x2;obtain⟨p0,mx,mF⟩:=zu dl.wr;obtain⟨m0,m1,m2,m3,m4,m5,gW,aV⟩:=zt dl.aC;have cd:=za (S7 W.drew (cv.o.aq f (zo (Below.refl _ _))).wl.wi.qi (by omega));have R:=za dl;have lW:¬w.heap.size=y:=λe=>cv.o.n1 (ao ((dl.kt _).2 (ao e)));have k0:¬w.heap.size+1=y:=λe=>cv.o.n2 (ao ((dl.kt _).2 (ao e)));have lR:=dl.dk;clear dl m0 m1 m3 m4 m5;refine wp_region_noPanic ?_;refine wp_region_held_drew (S:=(λX=>X.cell? (xD w.heap.size 0)=some (xP G)/\X.cell? (xD (w.heap.size+1) 0)=some (xP A)/\X.cell? (xD G 0)=some (xP y))) (by kernel_rfl) ?_ (λH=>?_)
  . (try dsimp only);(first|(with_reducible (refine⟨?_,?_,?_⟩ <;> repeat (first|assumption|refine zg ?_|refine zd l.o ?_ (by omega)|refine zk (by omega) ?_)))|go_keep)
  refine aR 0 rfl (v:=?v1) (ao ⟨by rfl,?h1⟩) ?_;case h1=>(intro w I;(try dsimp only at I);go_simp;try with_reducible rfl)
  try simp only[Act.put,aD]
  refine aR 1 rfl (v:=?v2) (ao ⟨by rfl,?h2⟩) ?_;case h2=>(intro w I;(try dsimp only at I);go_simp;try with_reducible rfl)
  try simp only[Act.put,aD]
  refine aR 2 rfl (v:=?v3) (ao ⟨by rfl,?h3⟩) ?_;case h3=>(intro w I;(try dsimp only at I);go_simp;try with_reducible rfl)
  try simp only[Act.put,aD]
  refine aR 3 rfl (v:=?v4) (ao ⟨by rfl,?h4⟩) ?_;case h4=>(intro w I;(try dsimp only at I);go_simp;try with_reducible rfl)
  try simp only[Act.put,aD]
  refine aR 4 rfl (v:=?v5) (ao ⟨by rfl,?h5⟩) ?_;case h5=>(intro w I;(try dsimp only at I);go_simp;try with_reducible rfl)
  try simp only[Act.put,aD]
  refine aR 5 rfl (v:=?v6) (ao ⟨by rfl,?h6⟩) ?_;case h6=>(intro w I;(try dsimp only at I);go_simp;try with_reducible rfl)
  try simp only[Act.put,aD]
  refine aR 6 rfl (v:=?v7) (ao ⟨by rfl,?h7⟩) ?_;case h7=>(intro w I;(try dsimp only at I);go_simp;try with_reducible rfl)
  try simp only[Act.put,aD]
  refine aR 7 rfl (v:=?v8) (ao ⟨by rfl,?h8⟩) ?_;case h8=>(intro w I;(try dsimp only at I);go_simp;try with_reducible rfl)
  try simp only[Act.put,aD]
  refine aR 8 rfl (v:=?v9) (ao ⟨by rfl,?h9⟩) ?_;case h9=>(intro w I;(try dsimp only at I);go_simp;try with_reducible rfl)
  try simp only[Act.put,aD]
  refine aR 9 rfl (v:=?v10) (ao ⟨by rfl,?h10⟩) ?_;case h10=>(intro w I;(try dsimp only at I);go_simp;try with_reducible rfl)
  try simp only[Act.put,aD]
  refine aR 11 rfl (v:=?v11) (ao ⟨by rfl,?h11⟩) ?_;case h11=>(intro w I;(try dsimp only at I);go_simp;try with_reducible rfl)
  try simp only[Act.put,aD]
  refine wpAnyH_ready (rs:=[10,12]) (by kernel_rfl) (by simp) ?_;refine AllReadyH.cons rfl (λa4 L=>?_) ?_;go_simp;refine L.out _ _ ?_ (λh9=>?_)
  . (try dsimp only);(first|(with_reducible (refine⟨?_,?_,?_⟩ <;> repeat (first|assumption|refine zg ?_|refine zd l.o ?_ (by omega)|refine zk (by omega) ?_)))|go_keep)
  clear L a4 H;have H:=h9;clear h9;try simp only[Act.put,aD]
  refine wpAnyH_ready (rs:=[12]) (by kernel_rfl) (by simp) ?_;refine AllReadyH.cons rfl (λa4 L=>?_) ?_;go_simp;first|go_at_K|(((go_at_call 100;refine cd.o.mono ?_;rintro e w1 ⟨rfl,O⟩;have l:=za (zw O);have gZ:=zd l.o m2 aV;have rf:=lh ((l.o.block _ aV).trans R.o.aC);have g0:y<w1.heap.size:=dD aV l.o.size;clear O));first|go_at_K|go_wp2_with fail)
  refine L.out _ _ ?_ (λh9=>?_)
  . (try dsimp only);(first|(with_reducible (refine⟨?_,?_,?_⟩ <;> repeat (first|assumption|refine zg ?_|refine zd l.o ?_ (by omega)|refine zk (by omega) ?_)))|go_keep)
  clear L a4 H;have H:=h9;clear h9;try simp only[Act.put,aD]
  refine wpAnyH_ready (rs:=[13]) (by kernel_rfl) (by simp) ?_;refine AllReadyH.cons rfl (λa4 L=>?_) ?_;go_simp;first|go_at_K|(((go_at_call 100;refine cd.o.mono ?_;rintro e w1 ⟨rfl,O⟩;have l:=za (zw O);have gZ:=zd l.o m2 aV;have rf:=lh ((l.o.block _ aV).trans R.o.aC);have g0:y<w1.heap.size:=dD aV l.o.size;clear O));first|go_at_K|go_wp2_with fail)
  refine L.out _ _ ?_ (λh9=>?_)
  . (try dsimp only);(first|(with_reducible (refine⟨?_,?_,?_⟩ <;> repeat (first|assumption|refine zg ?_|refine zd l.o ?_ (by omega)|refine zk (by omega) ?_)))|go_keep)
  clear L a4 H;have H:=h9;clear h9;try simp only[Act.put,aD]
  refine aR 14 rfl (v:=?v12) (ao ⟨by rfl,?h12⟩) ?_;case h12=>(intro w I;(try dsimp only at I);go_simp;try with_reducible rfl)
  try simp only[Act.put,aD]
  refine aR 15 rfl (v:=?v13) (ao ⟨by rfl,?h13⟩) ?_;case h13=>(intro w I;(try dsimp only at I);go_simp;try with_reducible rfl)
  try simp only[Act.put,aD]
  refine wpAnyH_ready (rs:=[16]) (by kernel_rfl) (by simp) ?_;refine AllReadyH.cons rfl (λa4 L=>?_) ?_;go_simp;refine L.out _ _ ?_ (λh9=>?_)
  . (try dsimp only);(first|(with_reducible (refine⟨?_,?_,?_⟩ <;> repeat (first|assumption|refine zg ?_|refine zd l.o ?_ (by omega)|refine zk (by omega) ?_)))|go_keep)
  clear L a4 H;have H:=h9;clear h9;try simp only[Act.put,aD]
  refine wpAnyH_done (by kernel_rfl) ?_ _;rotate_left;exact AllReadyH.nil;exact AllReadyH.nil;exact AllReadyH.nil;refine AllReadyH.cons rfl (λa4 L=>?_) ?_;go_simp;first|go_at_K|(((go_at_call 100;refine cd.o.mono ?_;rintro e w1 ⟨rfl,O⟩;have l:=za (zw O);have gZ:=zd l.o m2 aV;have rf:=lh ((l.o.block _ aV).trans R.o.aC);have g0:y<w1.heap.size:=dD aV l.o.size;clear O));first|go_at_K|go_wp2_with fail)
  refine L.out _ _ ?_ (λh9=>?_)
  . (try dsimp only);(first|(with_reducible (refine⟨?_,?_,?_⟩ <;> repeat (first|assumption|refine zg ?_|refine zd l.o ?_ (by omega)|refine zk (by omega) ?_)))|go_keep)
  clear L a4 H;have H:=h9;clear h9;try simp only[Act.put,aD]
  refine wpAnyH_ready (rs:=[10]) (by kernel_rfl) (by simp) ?_;refine AllReadyH.cons rfl (λa4 L=>?_) ?_;go_simp;refine L.out _ _ ?_ (λh9=>?_)
  . (try dsimp only);(first|(with_reducible (refine⟨?_,?_,?_⟩ <;> repeat (first|assumption|refine zg ?_|refine zd l.o ?_ (by omega)|refine zk (by omega) ?_)))|go_keep)
  clear L a4 H;have H:=h9;clear h9;try simp only[Act.put,aD]
  refine wpAnyH_ready (rs:=[13]) (by kernel_rfl) (by simp) ?_;refine AllReadyH.cons rfl (λa4 L=>?_) ?_;go_simp;first|go_at_K|(((go_at_call 100;refine cd.o.mono ?_;rintro e w1 ⟨rfl,O⟩;have l:=za (zw O);have gZ:=zd l.o m2 aV;have rf:=lh ((l.o.block _ aV).trans R.o.aC);have g0:y<w1.heap.size:=dD aV l.o.size;clear O));first|go_at_K|go_wp2_with fail)
  refine L.out _ _ ?_ (λh9=>?_)
  . (try dsimp only);(first|(with_reducible (refine⟨?_,?_,?_⟩ <;> repeat (first|assumption|refine zg ?_|refine zd l.o ?_ (by omega)|refine zk (by omega) ?_)))|go_keep)
  clear L a4 H;have H:=h9;clear h9;try simp only[Act.put,aD]
  refine aR 14 rfl (v:=?v14) (ao ⟨by rfl,?h14⟩) ?_;case h14=>(intro w I;(try dsimp only at I);go_simp;try with_reducible rfl)
  try simp only[Act.put,aD]
  refine aR 15 rfl (v:=?v15) (ao ⟨by rfl,?h15⟩) ?_;case h15=>(intro w I;(try dsimp only at I);go_simp;try with_reducible rfl)
  try simp only[Act.put,aD]
  refine wpAnyH_ready (rs:=[16]) (by kernel_rfl) (by simp) ?_;refine AllReadyH.cons rfl (λa4 L=>?_) ?_;go_simp;refine L.out _ _ ?_ (λh9=>?_)
  . (try dsimp only);(first|(with_reducible (refine⟨?_,?_,?_⟩ <;> repeat (first|assumption|refine zg ?_|refine zd l.o ?_ (by omega)|refine zk (by omega) ?_)))|go_keep)
  clear L a4 H;have H:=h9;clear h9;try simp only[Act.put,aD]
  refine wpAnyH_done (by kernel_rfl) ?_ _;rotate_left;exact AllReadyH.nil;exact AllReadyH.nil;exact AllReadyH.nil;exact AllReadyH.nil;all_goals refine NoPanic.normal ?_
  all_goals go_wp2_with fail
  all_goals go_meet
  all_goals
   have kx:=(R.o.aq l.o).Uw (x+c.nd.ak.length+1);have e:(max (K.al:Int) ((x:Int)+(c.nd.ak.length:Int)+1))=((max K.al (x+c.nd.ak.length+1):Nat):Int):=(by omega);rw[e];exact (cv.o.aq f l.o).Om f ⟨_,_,_,kx.1⟩ kx.2
 case rest =>
  have ab:aa (M6 N B G y A cb x c (xE bg c P) (xP nb) (.slice none 0 0) (K.NR (x+c.nd.ak.length+1)) [] w.heap.size w wc):=hcut;clear hcut cv;obtain⟨er,cg⟩:∃er,K.NR (x+c.nd.ak.length+1)=er:=⟨_,rfl⟩;rw[cg] at ab;have ga:er.row.length<=1000000:=by rw[<- cg];exact gc
  have c5:=za cg;clear cg;go_upto_region 2 with fail;go_cut [] from 25 to 28 (λwx=>aa (M6 N B G y A cb x c (xE bg c P) (xP nb) (.slice none 0 0) (er.add 2 ((x+c.nd.ak.length:Nat):Int)) [] w.heap.size w wx))
  case first =>
   obtain⟨x0,hR,hT⟩:=zu ab.o.x1;obtain⟨c0,c1,c2⟩:=zu ab.o.x2;have lH:¬KT y wc w.heap.size:=λe=>ab.o.n1 (ao e);have lK:¬KT y wc (w.heap.size+1):=λe=>ab.o.n2 (ao e);have ip:=za (SV wc.drew (ab.o.aq f (zo (Below.refl _ _))).wl.wi.qi (by omega));have c3:=za (O5 B G y er 2 ((x+c.nd.ak.length:Nat):Int) wc.drew (ab.o.aq f (zo (Below.refl _ _))).wl.wi.kw ga)
   go_region_held3 (λX=>X.cell? (xD w.heap.size 0)=some (xP G)/\X.cell? (xD (w.heap.size+1) 0)=some (xP A))
    (first|(with_reducible (refine⟨?_,?_⟩ <;> repeat (first|assumption|refine zg ?_|refine FT.cell eG.o ?_ (by assumption))))|go_keep)
    (first
      | (go_at_call 56;refine c3.o.mono ?_;rintro e w2 ⟨rfl,bv,dc⟩;have bK:=za bv;have eG:aa (FT (KT y) wc w2):=⟨dc.fr.cQ,dc.tk⟩;clear bv dc)
      | (go_at_call 101;refine ip.o.mono ?_;rintro e w1 ⟨rfl,rfl⟩))
   all_goals go_wp2_with fail
   all_goals go_meet
   all_goals exact ab.o.Om f bK.o eG.o
  case rest =>
   obtain⟨fh,bv⟩:∃fh,er.add 2 ((x+c.nd.ak.length:Nat):Int)=fh:=⟨_,rfl⟩;have a3:aa (M6 N B G y A cb x c (xE bg c P) (xP nb) (.slice none 0 0) fh [] w.heap.size w wc):=(by rw[<- bv];exact hcut);have bK:=za bv;clear hcut ab ga bv;obtain⟨c0,c1,c2⟩:=zu a3.o.x2;obtain⟨m0,m1,m2,m3,m4,gW,aV⟩:=bz a3.o.wl.wi.qi.aC;have eS:=za (V4 kz lF wc a3.o.wl.wi.qi.sc a3.o.wl.wi.qi.hN);clear m2 m3 m4;go_wp2_with (go_at_call 102;refine eS.o.mono ?_;rintro e w1 ⟨ov,xs,rfl,b3,gC,O⟩;obtain⟨kj,kp,rfl⟩:=O6 b3;have cz:=za b3;have i9:=za gC;have e3:=za (a3.o.aq f O);have l:=za O;clear b3 gC O);obtain⟨em,aL⟩:∃em,ME E c x C (Mr c) (fh,[])=em:=⟨_,rfl⟩;have cE:Nn em:=(by rw[<- aL,<- bK.o,<- c5.o];exact jD);have e7:=za cE;have i2:aa (OU ca E c x C aA em):=(by unfold aa;rw[<- aL,<- bK.o,<- c5.o];exact jy);have eZ:=za aL;clear aL cE eS m0 m1 gW aV c0 c1 c2 gc;refine wp_loop_ghost_k (λj a W=>∃(g1 v5 g2 g3 g4 g5 g6 g7 g8 g9 hc he hf hg hh hi hm hu hv hw hx hy hz hD hJ hK hN hO:Xv) (ds:List Deferred) (k:Nat) (lv:Xv) (s:Cd×List Lt),(g1=xI (k:Nat)/\k+j=(Mr c).length+1/\k<=(Mr c).length/\aa (M6 N B G y A cb x c (xE bg c P) (xP nb) lv s.1 s.2 w.heap.size w W)/\aa (ME E c x C ((Mr c).drop k) s=em)/\aa (W.ownsRow wc.heap.size 184 3 (.slice kj (Mr c).length kp) (Mr c).length xs/\(∀g,kj=some (xD g 0)->¬CT y A W g))/\aa (NS w.heap.size W ds))/\a={ tmps:=#[xP G,xP A,xP w.heap.size,xP (w.heap.size+1),undef,v5,undef,undef,undef,u9,u10,u11,u12,u13,u14,u15,u16,u17,u18,u19,u20,u21,u22,u23,u24,u25,u26,u27,u28,xP A,xP A,xP A,.agg #[xE bg c P,xP nb],.slice kj (Mr c).length kp,xI ((Mr c).length:Nat),g1,g2,g3,g4,g5,g6,g7,g8,g9,hc,he,hf,hg,hh,hi,hm,hu,hv,hw,hx,hy,hz,hD,hJ,hK,hN,undef,undef,undef,undef,undef,undef,undef,hO,undef,undef,undef,undef,undef,undef,undef,undef,undef,undef,undef,undef,undef,undef,undef,undef,undef,undef,undef,undef,undef,undef,undef,undef,undef,undef,undef,undef,undef,undef,undef,undef,undef,undef,undef,undef],defers:=ds }) ((Mr c).length+1) ?_ ?_
   . refine⟨xI 0,undef,undef,undef,undef,undef,undef,undef,undef,undef,undef,undef,undef,undef,undef,undef,undef,undef,undef,undef,undef,undef,undef,undef,undef,undef,undef,undef,[],0,.slice none 0 0,(fh,[]),⟨rfl,by omega,aE _,e3.o,eZ.o,⟨cz.o,?_⟩,.nil⟩,rfl⟩;intro g lB e;have fk:=a3.o.wl.tk l.o g e;have h0:=(a3.o.wl.lt g fk).2.1;have ks:=(cz.o.lt g (by rw[lB];rfl)).1;omega
   rintro gk a wr ⟨_,v5,g2,g3,g4,g5,g6,g7,g8,g9,hc,he,hf,hg,hh,hi,hm,hu,hv,hw,hx,hy,hz,hD,hJ,hK,hN,hO,ds,k,lv,s,⟨rfl,lE,l5,R,eF,eq,a0⟩,rfl⟩ J Kn lo lt;by_cases jO:k<(Mr c).length
   . obtain⟨q,im⟩:∃q,(Mr c)[k]?=some q:=⟨_,av jO⟩;have fB:bV N w w1:=e3.o.ft.am dz (λk e=>(c9.o.lt k e).1);have fC:bV N w wr:=R.o.ft.am dz (λk e=>(c9.o.lt k e).1);have kw:bV N w1 wr:=λb ij=>(fC b ij).trans (fB b ij).symm;obtain⟨g,ms,mG,rfl,hV,jr,jv,cA⟩:=lj (zR eq.o.1 (aE _)) (i9.o.am kw) im rfl;obtain⟨rb,_,_,rfl,_⟩:=cA.tt.ptr;obtain⟨la,ex,rfl⟩:=zB cA.own;have ek:=RN c q (aM im);obtain⟨co,bA,_⟩:=kz.nd.eqs q ek;obtain⟨cR,eE,cs⟩:∃s eE,q.ns=s::eE:=by
      cases jS:q.ns with
      | nil=>rw[jS] at bA;simp at bA
      | cons s eE=>exact⟨s,eE,rfl⟩
     obtain⟨p0,pp,gx⟩:∃p pp,q.ps=p::pp:=by
      cases jS:q.ps with
      | nil=>rw[jS] at co;simp at co;rw[co] at bA;simp at bA
      | cons s eE=>exact⟨s,eE,rfl⟩
     obtain⟨gl,rfl,n0,n1⟩:=kG cA.own (k:=0) (s:=cR) (p:=p0) (by rw[cs];rfl) (by rw[gx];rfl) rfl;have ge:=cA.lo gl rfl;have gn:c.of (c.idx (q.ns.headD ⟨#[]⟩))=c.of (c.idx cR):=(by rw[cs];rfl);obtain⟨io,b1⟩:∃io,c.of (c.idx cR)=io:=⟨_,rfl⟩;have dL:=jB q ek;have bp:=eF.o;rw[Ws im] at bp;rw[gn,b1] at dL bp;obtain⟨ar,be⟩:∃ar,My E c x C s q.r io=ar:=⟨_,rfl⟩;rw[be] at bp;have ck:Nn ((ar.1.fv (Ny c x (MS (NJ q.ns q.ps) q.ns.length q.ns.length))),ar.2):=XQ b0 _ _ (by rw[bp];exact e7.o);have gd:Nn ar:=⟨On ck.1,ck.2⟩;have jQ:ar.1.row.length+q.ns.length<=1000000:=(by have:=ck.1.1;rw[Cd.ON] at this;simpa [Ny,QO] using this);have jP:q.ns.length<=1000000:=(by omega);have bo:∀j,j<q.ns.length->wr.cell? (xD gl (j*2))=some (.string (q.ns[j]?.getD ⟨#[]⟩))/\wr.cell? (xD gl (j*2+1))=some (xI (q.ps[j]?.getD 0:Nat)):=(by intro j il;obtain⟨s',gz⟩:∃s,q.ns[j]?=some s:=⟨_,av il⟩;obtain⟨p',gw⟩:∃p,q.ps[j]?=some p:=⟨_,av (by omega)⟩;obtain⟨lk,lf,h1,h2⟩:=kG cA.own gz gw rfl;cases lf;rw[gz,gw];exact⟨h1,h2⟩);have bk:=za bo;have l2:=za cA;have it:=za bp;have i8:=za gd;have i5:=za dL;have bL:=za be;have fd:=za b1;have jI:(0:Int)<(q.ns.length:Int):=(by omega);have jL:0<q.ns.length:=bA;have jJ:¬q.ns=[]:=(by rw[cs];simp);have l7:(0:Int)<=(k:Int):=(by omega);have l8:(k:Int)<((Mr c).length:Int):=(by omega);have ln:(Mr c).length<=9223372036854775807:=by
      rcases eq.o.1.2 with ⟨_,h⟩|⟨g,ld,le,l6,_,_,h3,h4,_⟩
      . omega
      unfold maxLen at h4;omega
     have e0:=za cA.tt;have fA:=R.o.wl.wi.qi.hN;have lC:=ze R.o.x1;clear fB fC kw cA im ek co bA cs gx gn b1 dL bp be ck gd bo eF;go_upto_region 6 with fail;refine zn (λV=>M6 N B G y A cb x c (xE bg c P) (xP nb) lv s.1 s.2 w.heap.size w V/\xB wr V/\xH V wr.heap.size #[xS gl q.ns.length ex,xI q.a,xP rb] 184) ⟨R.o.aq f (zq wr _),zq wr _,zc wr _⟩ ?_;rintro V ⟨bs,a5,bY⟩;have M:=za bs;have Q:=za a5;have a1:=za bY;have cn:¬CT y A V wr.heap.size:=λe=>by have:=(R.o.wl.lt _ (R.o.wl.tk a5 _ e)).2.1;omega
     have go:¬CT y A V gl:=λe=>by have:=(bs.wl.lt _ e).1;omega
     clear bs a5 bY;go_cut [] from 39 to 57 (λwx=>∃ct,aa (M6 N B G y A cb x c (xE bg c P) (xP nb) ct ar.1 ar.2 w.heap.size w wx)/\aa (FT (CT y A) V wx))
     case first =>
      obtain⟨x0,hR,hT⟩:=zu M.o.x1;obtain⟨c0,c1,c2⟩:=zu M.o.x2;obtain⟨m0,m1,m2,m3,m4,gW,aV⟩:=bz M.o.wl.wi.qi.aC;obtain⟨q0,gX,q2,qf,gY⟩:=zL a1.o;have lV:=Q.o.size;have d0:=zd Q.o n0 (by omega);have d1:=zd Q.o n1 (by omega);have kT:gl<V.heap.size:=(by omega);have lT:=M.o.n1;have lU:=M.o.n2;have Z:=za (hW cR (p0:Int) V.drew (M.o.wl.wi.qi.sc.am (λ_ _=>rfl)) M.o.wl.wi.qi.hN);have a2:=za (λ(W':Xw) (hB:xB V W')=>S2 E C ca f bb fP fD b0 kt q.r (xP rb) io s W' (e0.o.am (λb ij=>((hB.block b (by omega)).trans (Q.o.block b (by omega))))) (M.o.aq f hB).wl (M.o.aq f hB).ops i5.o (by rw[bL.o];exact i8.o));rw[bL.o] at a2;unfold hG at a2;clear m3 m4
      go_region_held3 (λX=>X.cell? (xD w.heap.size 0)=some (xP G)/\X.cell? (xD (w.heap.size+1) 0)=some (xP A)/\X.cell? (xD A 0)=some (xE bg c P)/\X.cell? (xD A 1)=some (xP nb)/\X.cell? (xD A 2)=some (.map (some cb))/\X.cell? (xD wr.heap.size 0)=some (xS gl q.ns.length ex)/\X.cell? (xD wr.heap.size 2)=some (xP rb)/\X.cell? (xD gl 0)=some (.string cR)/\X.cell? (xD gl 1)=some (xI p0))
       (first|(with_reducible (refine⟨?_,?_,?_,?_,?_,?_,?_,?_,?_⟩ <;> repeat (first|assumption|refine zg ?_|refine FT.cell eN.o ?_ (by assumption)|refine zd bC.o ?_ (by omega)|refine zd l.o ?_ (by omega))))|go_keep)
       (first
         | (go_at_call 103;refine (a2.o _ bC.o).mono ?_;rintro e w4 ⟨rfl,⟨jU,du⟩,di⟩;have iU:=za ((M.o.aq f bC.o).ad f du di);have eN:=za ((FT.below bC.o (M.o.wl.tk bC.o)).trans di);obtain⟨l9,mb,mc,md,mk,mm,mp⟩:=bz du.wi.qi.aC;clear du di)
         | (go_at_call 104;refine eX.o.mono ?_;rintro e w3 ⟨rfl,fl⟩;have bC:=za (l.o.trans (fl.mono l.o.size));clear fl)
         | (go_at_call 105;refine Z.o.mono ?_;rintro e w2 ⟨rfl,O⟩;have l:=za (zw O);have eX:=za (jW (c.idx cR) w2 (M.o.wl.wi.qi.ck.aq l.o));(rw[fd.o] at eX);clear O))
      all_goals go_wp2_with fail
      all_goals go_meet
      all_goals exact⟨jU,iU.o,eN.o⟩
     case rest => obtain⟨ct,U,Y⟩:=hcut;obtain⟨w5,rfl⟩:∃w5,w5=wc:=⟨_,rfl⟩;have bx:=(Y.o.fr.block _ (ze a1.o) cn).trans a1.o;obtain⟨q0,gX,q2,qf,gY⟩:=zL bx;clear bx n0 n1 hV jr jv e0;go_wp2_with (go_at_call 106;refine (WB _ _ _ _).mono ?_;rintro e w6 ⟨rfl,rfl⟩);have a9:=U.o.aq f (zq w5 (.cells #[xS gl q.ns.length ex] 181));have Z:=za a9;have bq:FT (CT y A) wr (w5.alloc (.cells #[xS gl q.ns.length ex] 181)):=((FT.below Q.o (R.o.wl.tk Q.o)).trans Y.o).trans (FT.below (zq w5 _) (U.o.wl.tk (zq w5 _)));have iB:=za bq;refine VY (z:=w.heap.size) (Bs:=w5.heap.size) (gl:=gl) (cl:=ex) (lv:=ct) (K:=ar.1) (ls:=ar.2) q.ns q.ps bb ge jP jQ _ ⟨by rw[show Ny c x []=[] from rfl,Cd.Rc];exact a9.wl,FT.below (Below.refl _ _) (λ_ e=>e),a9.x1,a9.x2,a9.n1,a9.n2⟩ (by simp) (λe=>by have:=(U.o.wl.lt _ (U.o.wl.tk (zq w5 _) _ e)).2.1;omega) (zu (zc w5 _)).1 (λj il=>⟨zj _ (Y.o.cell (zd Q.o (bk.o j il).1 (by omega)) go),zj _ (Y.o.cell (zd Q.o (bk.o j il).2 (by omega)) go)⟩) ?_;intro D lb ii ch fr;have fz:=Z.o.ad f ch.wl ch.ft;have a6:=iB.o.trans ch.ft;have bE:=za fz;have c4:=za a6;have ir:=za fr;have kX:w5.heap.size+1<=D:=(by rw[au] at ii;exact ii);clear a9 bq fz a6 ch fr q0 gX q2 qf gY;go_wp2_with fail;have gm:=eq.o.2 g rfl;have jG:KeepsOthers wr lb:=R.o.wl.others c4.o;refine Handed.intro (gk-1) (by omega) (lo _ _ _ ⟨_,_,_,_,_,_,_,_,_,_,_,_,_,_,_,_,_,_,_,_,_,_,_,_,_,_,_,_,{ target:=.collected D,args:=#[] }::ds,k+1,ct,(ar.1.fv (Ny c x (MS (NJ q.ns q.ps) q.ns.length q.ns.length)),ar.2),⟨by go_num,by omega,by omega,bE.o,it.o,⟨zi eq.o.1 (λb h1 h2 e=>c4.o.fr.block b h2 (by cases e;exact gm)),λg' e=>by cases e;exact c4.o.not (eq.o.1.lt g rfl).2 gm⟩,?_⟩,rfl⟩);refine NS.cons D ds (by have:=U.o.ft.fr.size;omega) ir.o (λD' jx=>?_) (a0.o.others jG);have h1:=a0.o.lt D' jx;have h2:=Q.o.size;have h3:=Y.o.fr.size;omega
   have lg:k=(Mr c).length:=(by omega);subst lg;rw[List.drop_length,ME] at eF;have aL:=eF.o;clear eF;go_wp2_with fail;go_loopg [] (aA+1) (λj wr=>∃(g:Nat) (gU:Xv) (s2:Cd×List Lt),g+1=j/\aa (OU ca E c x C g s2)/\aa (NI E c x C aA em=NI E c x C g s2)/\aa (M6 N B G y A cb x c (xE bg c P) (xP nb) gU s2.1 s2.2 w.heap.size w wr)/\aa (NS w.heap.size wr ds));case atStart=>exact⟨aA,lv,s,rfl,by unfold aa;rw[aL];exact i2.o,by unfold aa;rw[aL],R.o,a0.o⟩
   case round =>
    clear R eq a0 aL;obtain⟨g,gU,s2,rfl,ce,hU,R,a0⟩:=hrel;obtain⟨es,ls⟩:=s2;obtain⟨mJ,T,cK⟩:=R.o.wl.row;obtain⟨la,da,rfl⟩:=QM T;obtain⟨c0,c1,c2⟩:=zu R.o.x2;obtain⟨m0,m1,m2,m3,m4,gW,aV⟩:=bz R.o.wl.wi.qi.aC;cases ls with
    | nil => have i4:aa (NI E c x C aA em=es):=(by unfold aa;rw[hU.o];cases g <;> rfl);have gV:xC wr A 4 (.slice la 0 da):=m4;clear T cK m0 m1 m2 m3 m4 ce hU;go_wp2_with fail;rw[<- i6.o];refine SM (B0:=w.heap.size) ?_ (λW=>results_none rfl _ _ _) ds wr a0.o ⟨rfl,⟨_,by rw[c5.o,bK.o,eZ.o,i4.o];exact R.o.wl⟩,R.o.ft⟩;rintro W D o ii lA ⟨_,⟨bB,jR⟩,jE⟩;have kW:M4 w.heap.size W (W.putObj D o):=M4.of (grownBy_putObj' W D o) (λr e=>by cases e;exact⟨ii,_,lA,rfl⟩);have h2:=jR.sc kW c9.o.wi.qi.ck.lt dz;exact⟨rfl,⟨bB,h2.1⟩,jE.sc kW (λk e=>(h2.2 k).1 e) rfl rfl rfl⟩
    | cons m r =>
      obtain⟨v,kk,rfl,dV,b2⟩:=cK;obtain⟨bt,_,_,rfl,_⟩:=dV.ptr;obtain⟨jw,ox,rfl,hV⟩:=P8 T (j:=0) rfl;obtain⟨_,_,fk,jr⟩:=P8 T (j:=1) rfl;cases fk;obtain⟨_,_,h0,jv⟩:=P8 T (j:=2) rfl;cases h0;obtain⟨_,_,ks,lc⟩:=P8 T (j:=3) rfl;cases ks;obtain⟨a',fj,lO,b4,cB⟩:=Wc underlying124 Tryz.Uu (n:=r.length) T;cases g with
      | zero=>exact absurd ce.o (by unfold OU;simp)
      | succ g =>
        have kv:=ce.o;rw[OU] at kv;obtain⟨dY,cl,ea,eb,cm⟩:=kv;have hM:=hU.o;rw[NI] at hM;simp only at dY cl ea eb cm hM;obtain⟨ar,be⟩:∃ar,My E c x C (es.fv (z8 c x C m.clock),r) m.next m.clock=ar:=⟨_,rfl⟩;rw[be] at cl cm hM;have iW:=za dY;have eW:=za cl;have iZ:=za ea;have i0:=za eb;have i1:=za cm;have i3:=za hM;have bL:=za be;have i7:=za dV;have ff:=za b2;have fg:=za b4;have e5:=za cB;have jb:xC wr jw ox (xI (m.cell:Int)):=hV;have kV:(0:Int)<((r.length:Int)+1):=(by omega);have gV:xC wr A 4 (.slice (some (xD jw ox)) (r.length+1) da):=m4;have fA:=R.o.wl.wi.qi.hN;clear T b4 cB dV b2 be hM dY cl ea eb cm hU ce hV m0 m1 m2 m3 m4;go_upto_region 13 with fail;refine zn (λV=>M6 N B G y A cb x c (xE bg c P) (xP nb) (.slice (some (xD jw ox)) (r.length+1) da) es (m::r) w.heap.size w V/\xB wr V/\xH V wr.heap.size #[xI (m.cell:Int),xP bt,xI (m.clock.1:Nat),xI (m.clock.2:Nat)] 206) ⟨R.o.aq f (zq wr _),zq wr _,zc wr _⟩ ?_;rintro V ⟨bs,a5,bY⟩;have M:=za bs;have Q:=za a5;have a1:=za bY;have cn:¬CT y A V wr.heap.size:=λe=>by have:=(R.o.wl.lt _ (R.o.wl.tk a5 _ e)).2.1;omega
        clear bs a5 bY jb jr jv lc gV;go_cut [] from 81 to 88 (λwx=>aa (M6 N B G y A cb x c (xE bg c P) (xP nb) (.slice a' r.length fj) es r w.heap.size w wx)/\aa (FT (CT y A) V wx))
        case first =>
         obtain⟨c0,c1,c2⟩:=zu M.o.x2;obtain⟨m0,m1,m2,m3,m4,gW,aV⟩:=bz M.o.wl.wi.qi.aC;have jT:¬w.heap.size+1=A:=λe=>M.o.n2 (ap (ao e));have k4:¬A=w.heap.size+1:=λe=>jT e.symm;clear m0 m1 m2 m3;go_still_tail 6,(by kernel_rfl)
         all_goals go_wp2_with fail
         all_goals go_meet
         all_goals
          have jA:bV N wr V:=λb ij=>Q.o.block b (by omega);have dH:=M.o.wl.pop (lv':=.slice a' r.length fj) kk (ff.o.am jA) (O4 fg.o (λk _ h2 _=>Q.o.block k h2)) e5.o;first|exact⟨M.o.ad f dH.1 dH.2,dH.2⟩|exact⟨(M.o.ad f dH.1 dH.2).aq f (zo (Below.refl _ _)),dH.2.trans (FT.below (zo (Below.refl _ _)) (dH.1.tk (zo (Below.refl _ _))))⟩
        case rest =>
         obtain⟨U,Y⟩:=hcut;have bx:=(Y.o.fr.block _ (ze a1.o) cn).trans a1.o;obtain⟨q0,gX,q2,q3,qf,gY⟩:=zU bx;have c6:=za bx;have cO:=Y.o.not (ze a1.o) cn;obtain⟨x0,hR,hT⟩:=zu U.o.x1;obtain⟨c0,c1,c2⟩:=zu U.o.x2;have e1:=za (SR (by omega) C m.clock es wc i0.o U.o.wl.wi iW.o);unfold hG at e1;have iR:=za ((FT.below Q.o (R.o.wl.tk Q.o)).trans Y.o);clear bx
         go_wp2_with (first
          | (go_at_call 108
             refine e1.o.mono ?_;rintro e w6 ⟨rfl,dp,bq⟩;have Z:=za (U.o.Om f dp bq);have bl:=(U.o.wl.N6 dp bq).2;have eQ:=za (iR.o.trans bl);have dM:=(bl.fr.block _ (ze c6.o) cO).trans c6.o;have eY:=za dM;have gs:=bl.not (ze c6.o) cO;obtain⟨lX,lY,gZ,lZ,rf,g0⟩:=zU dM;obtain⟨cR,kg,sz⟩:=zu Z.o.x1;obtain⟨t0,l1,tz⟩:=zu Z.o.x2;have a2:=za (S2 E C ca f bb fP fD b0 kt m.next (xP bt) m.clock (es.fv (z8 c x C m.clock),r) w6 (i7.o.am (eQ.o.am fA (λk e=>(R.o.wl.lt k e).1))) Z.o.wl Z.o.ops iZ.o (by rw[bL.o];exact eW.o));rw[bL.o] at a2;unfold hG at a2;clear dp bq bl dM q0 gX q2 q3 qf gY x0 hR hT c0 c1 c2)
          | (go_at_call 103
             refine a2.o.mono ?_;rintro e w7 ⟨rfl,⟨kf,dw⟩,a6⟩;have bE:=za (Z.o.ad f dw a6);have iS:=za (eQ.o.trans a6);have fS:=(a6.fr.block _ (ze eY.o) gs).trans eY.o;obtain⟨q0,gX,q2,q3,qf,gY⟩:=zU fS;obtain⟨x0,hR,hT⟩:=zu bE.o.x1;have c3:=za (O5 B G y ar.1 4 (m.cell:Int) w7 dw.wi.kw eW.o.1.1);clear dw a6 fS lX lY gZ lZ rf g0 cR kg sz t0 l1 tz)
          | (go_at_call 56
             refine c3.o.mono ?_;rintro e w8 ⟨rfl,dq,dk⟩;have iV:=za (bE.o.Om f dq dk);have iT:=za (iS.o.trans (bE.o.wl.N6 dq dk).2);clear dq dk))
         go_roundg (g+1);case measure=>omega
         exact⟨g,kf,(ar.1.add 4 (m.cell:Int),ar.2),rfl,i1.o,i3.o,iV.o,a0.o.others (R.o.wl.others iT.o)⟩
end
end Go.Proofs.YtbicmofihhjgbaaGreatDoor
