/- Part 22 of the proof: CofC CofD CofE CofF. -/
import Derived.Test.YtmfkofhgdjechaaGreatDoorK20
set_option maxRecDepth 100000
set_option maxHeartbeats 8000000
namespace Go.Proofs.YtmfkofhgdjechaaGreatDoor
open Go.Proofs.Tryz
open Go.RowKit
section
variable {st:St}
def za4 (st:St)(n:Nat):St:=z9 ((st.decl0 n).name.must 4 [58])
theorem zfH (S:Nat->Addr)(pb:Nat)(st:St)(w:World)(nb:Nat)(x:Option Addr)(n c:Nat)(hB:Bad st)(hn:n<=100)(hnb:nb<w.heap.size)(hc:xC w nb 2 (.slice x n c))(hR:PL S w pb st) :
 xK 191 #[xP pb,xP nb] w λe w'=>∃(ns:ByteArray) (na ty:Nat),e=.returned (.agg #[.string ns,xI na,xI ty,xI 0,xI 0,.string ⟨#[]⟩,xI 0])/\Hid (((st.decl0 n).t.k=2->ns=(st.decl0 n).t.s/\na=(st.decl0 n).t.a)/\ty=if ((st.decl0 n).name.must 4 [58]).is 5 zbq=true then 1 else 0)/\PL S w' pb (za4 st n)/\Fr (·=pb) w w':=by
 refine (zjk S pb st w nb x n c hB hn hnb hc hR).mono ?_;rintro e w1 ⟨ns,na,h1,h2,h3,h4⟩;exact⟨ns,na,_,h1,⟨h2,rfl⟩,h3,h4⟩
theorem Bad.type (h:Bad st):Bad (z9 st):=by
 unfold z9;split
 . exact h.step
 . exact h.must _ _
theorem Bad.nott (h:Bad st):Bad (za3 st):=by
 unfold za3;split
 . exact h.step
 . exact h
theorem Bad.decl0 (h:Bad st)(n:Nat):Bad (st.decl0 n):=by
 unfold St.decl0;split
 . exact h.fail (by omega)
 . exact h
theorem Bad.declS (h:Bad st)(n:Nat):Bad (za4 st n):=((h.decl0 n).name.must _ _).type
def onM (s:St):St:=if s.is 5 kOn=true then (za3 s.step).name else s
def zkT (s:St)(sg pl:Nat)(os:ByteArray)(oa:Nat):Prop :=
 (s.is 5 kOn=true->sg=(if s.step.is 5 zet=true then 2 else 1)/\pl=s.t.a/\((za3 s.step).t.k=2->os=(za3 s.step).t.s/\oa=(za3 s.step).t.a))/\(s.is 5 kOn=false->sg=0/\pl=0/\os=⟨#[]⟩/\oa=0)
theorem Tryz.infoVar:(prog.info? 156).map (λi=>(i.zero,i.size,i.bytes))=some (some (.agg #[.string ⟨#[]⟩,xI 0,xI 0,xI 0,xI 0,.string ⟨#[]⟩,xI 0]),7,72):=by kernel_rfl
theorem zoU {s t:ByteArray}{a b c d e:Int}:∀u∈[Value.string s,xI a,xI b,xI c,xI d,.string t,xI e],u.oneCell'=true:=by intro u hu;simp at hu;rcases hu with rfl|rfl|rfl|rfl|rfl|rfl|rfl <;> rfl
def zkn (S:Nat->Addr)(pb nb B:Nat)(st:St)(w:World)(c0 c1 c3 c4 c5 vs:Value)(n:Nat)(xs:List Value)(e:Ending)(w':World):Prop :=
 ∃(ns os:ByteArray) (na ty sg pl oa:Nat) (v':Value),e=.returned (.tuple #[])/\PL S w' pb ((onM (za4 st n)).must 4 [59])/\w'.heap[nb]?=some (.cells #[c0,c1,v',c3,c4,c5] 147 (0,0)) /\
    w'.ownsRow B 156 7 v' (n+1) (xs++[.string ns,xI na,xI ty,xI sg,xI pl,.string os,xI oa])/\Hid (((st.decl0 n).t.k=2->ns=(st.decl0 n).t.s/\na=(st.decl0 n).t.a)/\ty=if ((st.decl0 n).name.must 4 [58]).is 5 zbq=true then 1 else 0)/\Hid (zkT (za4 st n) sg pl os oa) /\
    Fr (λk=>k=pb∨k=nb∨vs.ownBlock=some k) w w'/\Hid (∀k,v'.ownBlock=some k->vs.ownBlock=some k∨w.heap.size<=k)
theorem zkq {S:Nat->Addr}{pb nb B:Nat}{w w2 w9:World}{c0 c1 c3 c4 c5 vs v':Value}{n:Nat}{xs:List Value}{ns os:ByteArray}{na ty sg pl oa:Nat}{X:Obj}
 (h1:Hid (((st.decl0 n).t.k=2->ns=(st.decl0 n).t.s/\na=(st.decl0 n).t.a)/\ty=if ((st.decl0 n).name.must 4 [58]).is 5 zbq=true then 1 else 0)) (h2:zkT (za4 st n) sg pl os oa) (h3:PL S w9 pb ((onM (za4 st n)).must 4 [59])) (hnp:pb<nb) (h4:xH w9 nb #[c0,c1,vs,c3,c4,c5] 147)
 (h5:w9.ownsRow B 156 7 v' (n+1) (xs++[.string ns,xI na,xI ty,xI sg,xI pl,.string os,xI oa])) (h6:∀k,v'.ownBlock=some k->vs.ownBlock=some k∨(w2.alloc X).drew.heap.size<=k) (hBn:nb<B) (_hBw:B<=w.heap.size) (h7:Fr (·=pb) w w2) (h8:Fr (λk=>vs.ownBlock=some k) (w2.alloc X) w9) :
 zkn S pb nb B st w c0 c1 c3 c4 c5 vs n xs (.returned (.tuple #[])) (w9.setCell (xD nb 2) v'):=by
 have hz:=h7.size;refine⟨ns,os,na,ty,sg,pl,oa,v',rfl,h3.setOther hnp _ _,zh _ _ _ _ h4,zi h5 (λk h _ _=>zr (by omega) rfl),h1,h2,?_,?_⟩
 . have g1:Fr (λk=>k=pb∨k=nb∨vs.ownBlock=some k) w (w2.alloc X):=(h7.mono (λ_ _ h=>Or.inl h)).alloc X;exact (g1.trans' h8 (λ_ _ h=>Or.inr (Or.inr h))).setCell (Or.inl (Or.inr (Or.inl rfl))) _
 . intro k hk;rcases h6 k hk with h|h
   . exact Or.inl h
   . right;have:(w2.alloc X).drew.heap.size=w2.heap.size+1:=by show (w2.alloc X).heap.size=_;simp
     omega
theorem zm1 (S:Nat->Addr)(pb nb B:Nat)(st:St)(w:World)(c0 c1 c3 c4 c5 vs:Value)(n:Nat)(xs:List Value)(hB:Bad st)(hn:n<=50)(hR:PL S w pb st)(hblk:xH w nb #[c0,c1,vs,c3,c4,c5] 147)(hown:w.ownsRow B 156 7 vs n xs)(hnp:pb<nb)(hBn:nb<B)(hBw:B<=w.heap.size) :
 xK 138 #[xP pb,xP nb] w (zkn S pb nb B st w c0 c1 c3 c4 c5 vs n xs):=by
 obtain⟨x,cp,hvs⟩:∃x cp,vs=.slice x n cp:=by
  rcases hown.2 with ⟨h1,h2⟩|⟨g,cap,cur,h1,_⟩
  . exact⟨none,0,by rw[h1,h2]⟩
  . exact⟨_,cap,h1⟩
 obtain⟨q0,q1,q2,q3,q4,q5,qf,qz⟩:=zt hblk;have hlt:=hR.lt;have HR:=za hR;have HB:=za hB;rw[hvs] at q2;have HD:=za (zfH S pb st w nb x n cp hB (by omega) qz q2 hR);have Hown:=za hown;have Hblk:=za hblk;have HBs:=za (hB.declS n);have Hvs:=za hvs;obtain⟨s3,hs3⟩:∃s3,za4 st n=s3:=⟨_,rfl⟩;rw[hs3] at HD HBs;have Hs3:=za hs3;obtain⟨i0,hi,hi0,hi1,hi2⟩:=info_parts Tryz.infoVar;have mx:n+1<=maxLen:=by unfold maxLen;omega
 have by':(n+1)*72<=140737488355328:=by omega
 clear hR hB hown hblk hs3 q0 q1 q2 q3 q4 q5 qf hvs;cases hb:s3.is 5 kOn with
 | false =>
   have hE:onM s3=s3:=(by unfold onM;rw[if_neg (by rw[hb];simp)]);have HE0:=za hE;have Hb:=za hb;clear hb hE;go_enter func138,ntmps138;go_wp2_with fail;refine HD.o.mono ?_;rintro e w1 ⟨ns,na,ty,rfl,HK1,hL1,hF1⟩;have hz1:=hF1.size;have hlt1:=hL1.lt;have hh1:=(hF1.block nb qz (by omega)).trans Hblk.o;have Hh1:=za hh1;have HA:=za (zaP S pb s3 ⟨#[111,110]⟩ _ zq9 (w1.alloc (.cells #[.string ns,xI na,xI ty,xI 0,xI 0,.string ⟨#[]⟩,xI 0] 156)) HBs.o.ok.tk (hL1.alloc _));rw[zar hL1.tx (by decide),Hb.o] at HA;have HE:=za (zP S pb s3 ⟨#[59]⟩ _ zl1 (w1.alloc (.cells #[.string ns,xI na,xI ty,xI 0,xI 0,.string ⟨#[]⟩,xI 0] 156)) HBs.o (hL1.alloc _));rw[zan hL1.tx (by decide)] at HE;have HF1:=za hF1;clear hL1 hF1 hh1;go_wp2_with (first|(go_at_call 73;refine HA.o.mono ?_;rintro e w' ⟨rfl,rfl⟩)|(go_at_call 134;refine HE.o.mono ?_;rintro e w2 ⟨rfl,hL2,hF2⟩;have hz2:=hF2.size;have hv2:=(hF2.block w1.heap.size (by rw[zsb];omega) (by omega)).trans (zc w1 _);have hn2:=(hF2.block nb (by rw[zsb];omega) (by omega)).trans ((Below.heap_alloc _ _ _ (by omega)).trans Hh1.o);obtain⟨a0,a1,a2,a3,a4,a5,a6,af,az⟩:=zbZ hv2;obtain⟨q0,q1,q2,q3,q4,q5,qf,qz2⟩:=zt hn2;have Hn2:=za hn2;have Hv2:=za hv2;have HL2:=za hL2;have HF2:=za hF2;clear hL2 hF2 hv2 hn2));have Hown2:=za (zi Hown.o (λk h1 h2 _=>(HF2.o.block k (by rw[zsb];omega) (by omega)).trans ((Below.heap_alloc _ _ _ (by omega)).trans (HF1.o.block k h2 (by omega)))));have hBw2:B<=w2.heap.size:=(by rw[zsb] at hz2;omega);clear HA HE HD a0 a1 a2 a3 a4 a5 a6 af az;obtain⟨a0,a1,a2,a3,a4,a5,a6,af,az⟩:=zbZ Hv2.o
   go_region_law (
    refine zJ _ rfl (.tmp 19) (.tmp 21) 141 rfl B 156 i0 _ 7 72 underlying141 hi hi0 hi1 hi2 rfl (by decide) vs n xs rfl (zD (Hown2.o) _) (xD w2.heap.size 0) 1 1 [.string ns,xI na,xI ty,xI 0,xI 0,.string ⟨#[]⟩,xI 0] rfl rfl (zN (zc w2 _) rfl) zoU mx by' (by simp;omega) ?_;intro v' w9 hown9 hgrow hnew;obtain⟨g9,cap9,rfl,hg9⟩:=zM hown9 (by omega);have hF9:=(Fr.of_grown hgrow).undrew;have hb9:∀k,k<B->w9.heap[k]?=w2.heap[k]?:=(λk hk=>(hF9.block k (by simp;omega) (λh=>by have:=(Hown2.o.lt k h).1;omega)).trans (Below.heap_alloc _ _ _ (by omega)));have Hn9:=za ((hb9 nb hBn).trans Hn2.o);obtain⟨q0,q1,q2,q3,q4,q5,qf,qz2⟩:=zt Hn9.o;have HL9:=za (PL.fr (HL2.o.alloc _) hF9 (λk hk=>by have:=(Hown2.o.lt k hk).1;omega));have HF9:=za hF9;have Hown9:=za hown9;have Hnew9:=za hnew;clear hown9 hgrow hnew hF9 hb9)
   all_goals go_wp2_with fail
   all_goals go_end0
   all_goals exact zkq HK1 (by rw[Hs3.o];exact⟨λh=>(by rw[Hb.o] at h;cases h),λ_=>⟨rfl,rfl,rfl,rfl⟩⟩) (by rw[Hs3.o,HE0.o];exact HL9.o) hnp Hn9.o Hown9.o Hnew9.o hBn (by omega) (HF1.o.trans ((Fr.refl _ w1).alloc _ |>.trans HF2.o)) HF9.o
 | true =>
   have hE:onM s3=(za3 s3.step).name:=(by unfold onM;rw[if_pos hb]);have HE0:=za hE;have Hb:=za hb;have hk5:s3.t.k=5:=Inv.is_k hb;have HOn:=za (λw1 h=>zqH S pb s3 w1 HBs.o hk5 h);have HBn:=za HBs.o.step.nott.name;clear hb hE hk5;go_enter func138,ntmps138;go_wp2_with fail;refine HD.o.mono ?_;rintro e w1 ⟨ns,na,ty,rfl,HK1,hL1,hF1⟩;have hz1:=hF1.size;have hlt1:=hL1.lt;have hh1:=(hF1.block nb qz (by omega)).trans Hblk.o;have Hh1:=za hh1;have HA:=za (zaP S pb s3 ⟨#[111,110]⟩ _ zq9 (w1.alloc (.cells #[.string ns,xI na,xI ty,xI 0,xI 0,.string ⟨#[]⟩,xI 0] 156)) HBs.o.ok.tk (hL1.alloc _));rw[zar hL1.tx (by decide),Hb.o] at HA;have HF1:=za hF1;have HL1:=za hL1;clear hL1 hF1 hh1;go_wp2_with (go_at_call 73;refine HA.o.mono ?_;rintro e w' ⟨rfl,rfl⟩);refine (HOn.o _ (HL1.o.alloc _)).mono ?_;rintro e w4 ⟨os,oa,rfl,hk4,hL4,hF4⟩;obtain⟨sg,hsg⟩:∃sg:Nat,(if s3.step.is 5 zet=true then 2 else 1)=sg:=⟨_,rfl⟩;have hsg':(if s3.step.is 5 zet=true then (2:Int) else 1)=(sg:Nat):=(by rw[<- hsg];split <;> rfl);rw[hsg'];have hz4:=hF4.size;have hv4:=(hF4.block w1.heap.size (by rw[zsb];omega) (by omega)).trans (zc w1 _);have hn4:=(hF4.block nb (by rw[zsb];omega) (by omega)).trans ((Below.heap_alloc _ _ _ (by omega)).trans Hh1.o);have HK4:Hid (zkT s3 sg s3.t.a os oa):=⟨λ_=>⟨hsg.symm,rfl,hk4⟩,λh=>(by rw[Hb.o] at h;cases h)⟩;obtain⟨a0,a1,a2,a3,a4,a5,a6,af,az⟩:=zbZ hv4;have Hn4:=za hn4;have Hv4:=za hv4;have HL4:=za hL4;have HF4:=za hF4;clear hL4 hF4 hv4 hn4 hsg hsg' hk4;go_wp2_with fail;have hL5:=(((HL4.o.setOther (b:=w1.heap.size) hlt1 3 (xI sg)).setOther (b:=w1.heap.size) hlt1 4 (xI s3.t.a)).setOther (b:=w1.heap.size) hlt1 5 (.string os)).setOther (b:=w1.heap.size) hlt1 6 (xI oa);have hv5:=zh _ w1.heap.size 6 (xI oa) (zh _ w1.heap.size 5 (.string os) (zh _ w1.heap.size 4 (xI s3.t.a) (zh w4 w1.heap.size 3 (xI sg) Hv4.o)));have hn5:=zr (b:=w1.heap.size) (i:=6) (v:=(xI oa)) (by omega:¬nb=w1.heap.size) (zr (b:=w1.heap.size) (i:=5) (v:=.string os) (by omega:¬nb=w1.heap.size) (zr (b:=w1.heap.size) (i:=4) (v:=(xI s3.t.a)) (by omega:¬nb=w1.heap.size) (zr (b:=w1.heap.size) (i:=3) (v:=(xI sg)) (by omega:¬nb=w1.heap.size) Hn4.o)));have hF5:Fr (·=pb) w ((((w4.setCell (xD w1.heap.size 3) (xI sg)).setCell (xD w1.heap.size 4) (xI s3.t.a)).setCell (xD w1.heap.size 5) (.string os)).setCell (xD w1.heap.size 6) (xI oa)):=(((((HF1.o.alloc _).trans HF4.o).setNew hz1 _ _).setNew hz1 _ _).setNew hz1 _ _).setNew hz1 _ _;obtain⟨w5,hw5⟩:∃w5,((((w4.setCell (xD w1.heap.size 3) (xI sg)).setCell (xD w1.heap.size 4) (xI s3.t.a)).setCell (xD w1.heap.size 5) (.string os)).setCell (xD w1.heap.size 6) (xI oa))=w5:=⟨_,rfl⟩;rw[hw5] at hL5 hv5 hn5 hF5;have HE:=za (zP S pb (za3 s3.step).name ⟨#[59]⟩ _ zl1 w5 HBn.o hL5);rw[zan hL5.tx (by decide)] at HE;refine Eq.mpr (congrArg (λz=>xK 134 _ z _) hw5) ?_;refine HE.o.mono ?_;rintro e w2 ⟨rfl,hL2,hF2⟩;have hz2:=hF2.size;have hz5:=hF5.size;have hv5':xH w5 w1.heap.size #[.string ns,xI na,xI ty,xI sg,xI s3.t.a,.string os,xI oa] 156:=hv5;have Hv2:=za ((hF2.block w1.heap.size (ze hv5') (by omega)).trans hv5');have Hn2:=za ((hF2.block nb (ze hn5) (by omega)).trans hn5);have HL2:=za hL2;have HF2:=za (hF5.trans hF2);have Hown2:=za (zi Hown.o (λk h1 h2 _=>(hF5.trans hF2).block k h2 (by omega)));have hBw2:B<=w2.heap.size:=(by omega);clear hL2 hF2 hL5 hv5 hn5 hF5 hw5 hv5' a0 a1 a2 a3 a4 a5 a6 af az HL4 HF4 Hv4 Hn4;go_wp2_with fail;clear HA HE HD HOn;obtain⟨a0,a1,a2,a3,a4,a5,a6,af,az⟩:=zbZ Hv2.o;obtain⟨q0,q1,q2,q3,q4,q5,qf,qz2⟩:=zt Hn2.o
   go_region_law (
    refine zJ _ rfl (.tmp 19) (.tmp 21) 141 rfl B 156 i0 _ 7 72 underlying141 hi hi0 hi1 hi2 rfl (by decide) vs n xs rfl (zD (Hown2.o) _) (xD w2.heap.size 0) 1 1 [.string ns,xI na,xI ty,xI sg,xI s3.t.a,.string os,xI oa] rfl rfl (zN (zc w2 _) rfl) zoU mx by' (by simp;omega) ?_;intro v' w9 hown9 hgrow hnew;obtain⟨g9,cap9,rfl,hg9⟩:=zM hown9 (by omega);have hF9:=(Fr.of_grown hgrow).undrew;have hb9:∀k,k<B->w9.heap[k]?=w2.heap[k]?:=(λk hk=>(hF9.block k (by simp;omega) (λh=>by have:=(Hown2.o.lt k h).1;omega)).trans (Below.heap_alloc _ _ _ (by omega)));have Hn9:=za ((hb9 nb hBn).trans Hn2.o);obtain⟨q0,q1,q2,q3,q4,q5,qf,qz2⟩:=zt Hn9.o;have HL9:=za (PL.fr (HL2.o.alloc _) hF9 (λk hk=>by have:=(Hown2.o.lt k hk).1;omega));have HF9:=za hF9;have Hown9:=za hown9;have Hnew9:=za hnew;clear hown9 hgrow hnew hF9 hb9)
   all_goals go_wp2_with fail
   all_goals go_end0
   all_goals exact zkq HK1 (by rw[Hs3.o];exact HK4.o) (by rw[Hs3.o,HE0.o];exact HL9.o) hnp Hn9.o Hown9.o Hnew9.o hBn (by omega) HF2.o HF9.o
end
section
variable {ns:ByteArray} {l:List UInt8} {vars:List Vr} {k n na ty:Nat} {st:St}
theorem zfC (he:st.er≠0)(e a:Nat):st.fail e a=st.bad:=by unfold St.fail St.bad;rw[if_neg he]
theorem zhq (hk:st.t.k=1)(h:k≠1):st.is k l=false:=zeN (by omega)
theorem zgX (he:st.er≠0)(hk:st.t.k=1):st.name=st.bad:=by unfold St.name;rw[if_neg (by omega),zfC he]
theorem zfp (he:st.er≠0)(hk:st.t.k=1)(h:k≠1):st.must k l=st.bad:=by unfold St.must;rw[zhq hk h];exact zfC he _ _
theorem zgM (he:st.er≠0)(hk:st.t.k=1):z9 st=st.bad:=by unfold z9;rw[zhq hk (by decide)];exact zfp he hk (by decide)
theorem zmu (he:st.er≠0)(n:Nat):st.decl0 n=st.bad∨st.decl0 n=st:=by
 unfold St.decl0;split
 . exact Or.inl (zfC he _ _)
 . exact Or.inr rfl
theorem zio (he:st.er≠0)(hk:st.t.k=1)(n:Nat):za4 st n=st.bad:=by
 unfold za4;have hb:st.bad.er≠0:=he;have hbk:st.bad.t.k=1:=rfl;rcases zmu he n with h|h
 . rw[h,zgX hb hbk,zfp (st:=st.bad.bad) hb hbk (by decide),zgM (st:=st.bad.bad.bad) hb hbk];rfl
 . rw[h,zgX he hk,zfp (st:=st.bad) hb hbk (by decide),zgM (st:=st.bad.bad) hb hbk];rfl
theorem zkJ (he:st.er≠0)(hk:st.t.k=1)(i o:Bool)(vars:List Vr):(zx i o st vars).1=st.bad:=by
 unfold zx;split
 . exact zfC he _ _
 . have hb:st.bad.er≠0:=he;have hbk:st.bad.t.k=1:=rfl;have h3:z9 (st.name.must 4 [58])=st.bad:=by rw[zgX he hk,zfp (st:=st.bad) hb hbk (by decide),zgM (st:=st.bad.bad) hb hbk];rfl
   simp only[h3];rw[zhq hbk (by decide)];rfl
theorem zhb (n:Nat)(h:n=16):za4 st n=st.fail 2 st.t.a:=by unfold za4 St.decl0;rw[if_pos h,St.fail_name' _ (by decide),St.fail_must' _ (by decide) (by decide)];unfold z9;rw[St.fail_is _ (by decide)];exact St.fail_must' _ (by decide) (by decide)
theorem zj1 (i:Bool)(hB:Bad st)(hn:st.er=0->n=vars.length/\vars.length<=16):za4 st n=(zx i (!i) st vars).1:=by
 by_cases he:st.er=0
 . obtain⟨h1,h2⟩:=hn he;by_cases h16:n=16
   . rw[zhb n h16];unfold zx;rw[if_pos (by omega)]
   . unfold zx;rw[if_neg (by omega)];have hc:((z9 (st.name.must 4 [58])).is 5 kOn&&!i&&!!i)=false:=(by cases i <;> simp);simp only[hc];unfold za4 St.decl0;rw[if_neg h16];rfl
 . rw[zio he (hB.bad he),zkJ he (hB.bad he)]
theorem zk2 (hB:Bad st)(hn:st.er=0->n=vars.length/\vars.length<=16):onM (za4 st n)=(zx false false st vars).1:=by
 by_cases he:st.er=0
 . obtain⟨h1,h2⟩:=hn he;by_cases h16:n=16
   . rw[zhb n h16];have h1:onM (st.fail 2 st.t.a)=st.fail 2 st.t.a:=(by unfold onM;rw[St.fail_is _ (by decide)];rfl);rw[h1];unfold zx;rw[if_pos (by omega)]
   . unfold zx;rw[if_neg (by omega)];have hd:za4 st n=z9 (st.name.must 4 [58]):=(by unfold za4 St.decl0;rw[if_neg h16]);rw[hd];unfold onM;cases hc:(z9 (st.name.must 4 [58])).is 5 kOn with
     | true=>simp only[hc,Bool.not_false,Bool.and_self,if_true]
     | false=>simp only[hc,Bool.not_false,Bool.false_and];rfl
 . rw[zio he (hB.bad he),zkJ he (hB.bad he)];unfold onM;rw[zhq rfl (by decide)];rfl
def zaA (v:Vr):Nat:=if v.tm=true then (if v.nt=true then 2 else 1) else 0
def vrC (v:Vr):List Value:=[.string v.nm,xI v.a,xI (if v.bl=true then 1 else 0:Nat),xI (zaA v:Nat),xI v.on,.string v.ck,xI v.ca]
def zb0 (l:List Vr):List Value:=l.flatMap vrC
theorem zf4 (l:List Vr)(v:Vr):zb0 (l++[v])=zb0 l++vrC v:=by simp[zb0]
theorem zeH (h:st.name.er=0):st.t.k=2:=by
 by_cases h2:st.t.k=2
 . exact h2
 . exfalso;unfold St.name at h;rw[if_neg h2] at h;exact St.fail_er _ (by decide) h
theorem zay (h:(st.must k l).er=0):st.er=0:=by
 unfold St.must at h;split at h
 . rwa [St.step_er] at h
 . exact absurd h (St.fail_er _ (by decide))
theorem zeo (h:(z9 st).er=0):st.er=0:=by
 unfold z9 at h;split at h
 . rwa [St.step_er] at h
 . exact zay h
theorem zel (h:st.name.er=0):st.er=0:=by have:=zeH h;unfold St.name at h;rw[if_pos this,St.step_er] at h;exact h
theorem zpY (i:Bool)(hn:st.er=0->n=vars.length/\vars.length<=16)(hk:(st.decl0 n).t.k=2->ns=(st.decl0 n).t.s/\na=(st.decl0 n).t.a)(hty:ty=if ((st.decl0 n).name.must 4 [58]).is 5 zbq=true then 1 else 0)
 (he:(zx i (!i) st vars).1.er=0):st.er=0/\(zx i (!i) st vars).2.length=n+1/\n+1<=16/\zb0 (zx i (!i) st vars).2=zb0 vars++[.string ns,xI na,xI ty,xI (0:Nat),xI (0:Nat),.string ⟨#[]⟩,xI (0:Nat)]:=by
 by_cases h16:16<=vars.length
 . unfold zx at he;rw[if_pos h16] at he;exact absurd he (St.fail_er _ (by decide))
 . have hc:((z9 (st.name.must 4 [58])).is 5 kOn&&!i&&!!i)=false:=by cases i <;> simp
   have hV:zx i (!i) st vars=(z9 (st.name.must 4 [58]),vars++[⟨st.t.s,st.t.a,(st.name.must 4 [58]).is 5 zbq,i,!i,0,sE,0,false,false⟩]):=(by unfold zx;rw[if_neg h16];simp only[hc];rfl);rw[hV] at he ⊢;have e0:st.er=0:=zel (zay (zeo he));obtain⟨h1,h2⟩:=hn e0;have hd:st.decl0 n=st:=(by unfold St.decl0;rw[if_neg (by omega)]);rw[hd] at hk hty;obtain⟨k1,k2⟩:=hk (zeH (zay (zeo he)));refine⟨e0,by simp[h1],by omega,?_⟩;simp only[zf4];unfold vrC zaA;subst k1 k2 hty;rfl
theorem ziI (hn:st.er=0->n=vars.length/\vars.length<=16){os:ByteArray}{sg pl oa:Nat}(hk:(st.decl0 n).t.k=2->ns=(st.decl0 n).t.s/\na=(st.decl0 n).t.a)(hty:ty=if ((st.decl0 n).name.must 4 [58]).is 5 zbq=true then 1 else 0)(hon:zkT (za4 st n) sg pl os oa)
 (he:(zx false false st vars).1.er=0):st.er=0/\(zx false false st vars).2.length=n+1/\n+1<=16/\zb0 (zx false false st vars).2=zb0 vars++[.string ns,xI na,xI ty,xI sg,xI pl,.string os,xI oa]:=by
 by_cases h16:16<=vars.length
 . unfold zx at he;rw[if_pos h16] at he;exact absurd he (St.fail_er _ (by decide))
 . cases hc:(z9 (st.name.must 4 [58])).is 5 kOn with
   | false => have hV:zx false false st vars=(z9 (st.name.must 4 [58]),vars++[⟨st.t.s,st.t.a,(st.name.must 4 [58]).is 5 zbq,false,false,0,sE,0,false,false⟩]):=(by unfold zx;rw[if_neg h16];simp only[hc,Bool.false_and];rfl);rw[hV] at he ⊢;have e0:st.er=0:=zel (zay (zeo he));obtain⟨h1,h2⟩:=hn e0;have hd:st.decl0 n=st:=(by unfold St.decl0;rw[if_neg (by omega)]);have hdS:za4 st n=z9 (st.name.must 4 [58]):=(by unfold za4;rw[hd]);rw[hd] at hk hty;rw[hdS] at hon;obtain⟨k1,k2⟩:=hk (zeH (zay (zeo he)));obtain⟨o1,o2,o3,o4⟩:=hon.2 hc;refine⟨e0,by simp[h1],by omega,?_⟩;simp only[zf4];unfold vrC zaA;subst k1 k2 hty o1 o2 o3 o4;rfl
   | true =>
     have hV:zx false false st vars=((za3 (z9 (st.name.must 4 [58])).step).name,vars++[⟨st.t.s,st.t.a,(st.name.must 4 [58]).is 5 zbq,false,false,(z9 (st.name.must 4 [58])).t.a,(za3 (z9 (st.name.must 4 [58])).step).t.s,(za3 (z9 (st.name.must 4 [58])).step).t.a,(z9 (st.name.must 4 [58])).step.is 5 zet,true⟩]):=(by unfold zx;rw[if_neg h16];simp only[hc,Bool.not_false,Bool.and_self,if_true]);rw[hV] at he ⊢;have hne:(za3 (z9 (st.name.must 4 [58])).step).er=0:=zel he;have hne2:(z9 (st.name.must 4 [58])).er=0:=by
      unfold za3 at hne;split at hne
      . rw[St.step_er,St.step_er] at hne;exact hne
      . rw[St.step_er] at hne;exact hne
     have e0:st.er=0:=zel (zay (zeo hne2));obtain⟨h1,h2⟩:=hn e0;have hd:st.decl0 n=st:=(by unfold St.decl0;rw[if_neg (by omega)]);have hdS:za4 st n=z9 (st.name.must 4 [58]):=(by unfold za4;rw[hd]);rw[hd] at hk hty;rw[hdS] at hon;obtain⟨k1,k2⟩:=hk (zeH (zay (zeo hne2)));obtain⟨o1,o2,o3⟩:=hon.1 hc;obtain⟨o4,o5⟩:=o3 (zeH he);refine⟨e0,by simp[h1],by omega,?_⟩;simp only[zf4];unfold vrC zaA;subst k1 k2 hty o1 o2 o4 o5;rfl
end
section
structure VI (S:Nat->Addr) (pb nb B p:Nat) (w wr:World) (c0 c1 c3 c4 c5:Value) (s:St) (vars:List Vr) (vs:Value) (n:Nat) (xs:List Value):Prop where
 inv:Inv p s
 pl:PL S wr pb s
 blk:xH wr nb #[c0,c1,vs,c3,c4,c5] 147
 own:wr.ownsRow B 156 7 vs n xs
 ok:s.er=0->n=vars.length/\vars.length<=16/\xs=zb0 vars
 fr:Fr (λk=>k=pb∨k=nb∨B<=k) w wr
theorem VI.dec {S:Nat->Addr}{pb nb B p:Nat}{w wr:World}{c0 c1 c3 c4 c5:Value}{s:St}{vars:List Vr}{vs:Value}{n:Nat}{xs:List Value}(h:VI S pb nb B p w wr c0 c1 c3 c4 c5 s vars vs n xs):s.er=0->n=vars.length/\vars.length<=16:=λhe=>⟨(h.ok he).1,(h.ok he).2.1⟩
theorem ziY (S:Nat->Addr)(pb nb B p:Nat)(w wr:World)(c0 c1 c3 c4 c5:Value)(s:St)(vars:List Vr)(vs:Value)(n:Nat)(xs:List Value)(hn:n<=50)(hnp:pb<nb)(hBn:nb<B)(hBw:B<=w.heap.size)(h:VI S pb nb B p w wr c0 c1 c3 c4 c5 s vars vs n xs) :
 xK 138 #[xP pb,xP nb] wr λe w'=>e=.returned (.tuple #[])/\∃vs' xs',VI S pb nb B p w w' c0 c1 c3 c4 c5 (zaR s vars).1 (zaR s vars).2 vs' (n+1) xs':=by
 have hzr:=h.fr.size;refine (zm1 S pb nb B s wr c0 c1 c3 c4 c5 vs n xs h.inv.toBad hn h.pl h.blk h.own hnp hBn (by omega)).mono ?_;rintro e w' ⟨ns,os,na,ty,sg,pl,oa,v',rfl,h1,h2,h3,⟨h4,h5⟩,h6,h7,_⟩;have hg:=zej (vars:=vars) h.inv;rw[zk2 h.inv.toBad h.dec] at h1;refine⟨rfl,v',_,hg.1.inv,h1,h2,h3,?_,?_⟩
 . intro he;have he1:(zx false false s vars).1.er=0:=zay he;obtain⟨r1,r2,r3,r4⟩:=ziI h.dec h4 h5 h6.out he1;obtain⟨k1,k2,k3⟩:=h.ok r1;refine⟨?_,?_,?_⟩
   . show n+1=(zx false false s vars).2.length;omega
   . show (zx false false s vars).2.length<=16;omega
   . show xs++_=zb0 (zx false false s vars).2;rw[r4,k3]
 . exact h.fr.trans' h7 (λi hi hs=>by
    rcases hs with hs|hs|hs
    . exact Or.inl hs
    . exact Or.inr (Or.inl hs)
    . exact Or.inr (Or.inr (h.own.lt i hs).1))
end
section
variable {xs:List Value} {vars:List Vr} {B n nb p pb:Nat} {S:Nat->Addr} {s:St} {c0 c1 c3 c4 c5 vs:Value} {w wr:World}
theorem zjY:zH 191:=λ_ _=>by kernel_rfl
theorem zpn {w1 w9:World}{v':Value}{X:Obj}{ns:ByteArray}{na ty:Nat}(i:Bool)
 (h:VI S pb nb B p w wr c0 c1 c3 c4 c5 s vars vs n xs) (hnp:pb<nb) (hBn:nb<B) (_hBw:B<=w.heap.size) (hk:Hid (((s.decl0 n).t.k=2->ns=(s.decl0 n).t.s/\na=(s.decl0 n).t.a)/\ty=if ((s.decl0 n).name.must 4 [58]).is 5 zbq=true then 1 else 0))
 (hF1:Fr (·=pb) wr w1) (hL9:PL S w9 pb (za4 s n)) (h4:xH w9 nb #[c0,c1,vs,c3,c4,c5] 147) (h5:w9.ownsRow B 156 7 v' (n+1) (xs++[.string ns,xI na,xI ty,xI 0,xI 0,.string ⟨#[]⟩,xI 0]))
 (h8:Fr (λk=>vs.ownBlock=some k) (w1.alloc X) w9):VI S pb nb B p w (w9.setCell (xD nb 2) v') c0 c1 c3 c4 c5 (zx i (!i) s vars).1 (zx i (!i) s vars).2 v' (n+1) (xs++[.string ns,xI na,xI ty,xI 0,xI 0,.string ⟨#[]⟩,xI 0]):=by
 rw[zj1 i h.inv.toBad h.dec] at hL9;have hg:=zbI (i:=i) (o:=!i) (vars:=vars) h.inv;refine⟨hg.1.inv,hL9.setOther hnp _ _,zh _ _ _ _ h4,zi h5 (λk hk _ _=>zr (by omega) rfl),?_,?_⟩
 . intro he;obtain⟨r1,r2,r3,r4⟩:=zpY i h.dec hk.out.1 hk.out.2 he;obtain⟨k1,k2,k3⟩:=h.ok r1;exact⟨by omega,by omega,by rw[r4,k3];rfl⟩
 . have g1:Fr (λk=>k=pb∨k=nb∨B<=k) w (w1.alloc X):=(h.fr.trans' hF1 (λ_ _ h=>Or.inl h)).alloc X;exact (g1.trans' h8 (λk _ hs=>Or.inr (Or.inr (h.own.lt k hs).1))).setCell (Or.inl (Or.inr (Or.inl rfl))) _
theorem zii {e:TypeId}(h:w.ownsRow B e 7 vs n xs):∃x cp,vs=.slice x n cp:=by
 rcases h.2 with ⟨h1,h2⟩|⟨g,cap,cur,h1,_⟩
 . exact⟨none,0,by rw[h1,h2]⟩
 . exact⟨_,cap,h1⟩
theorem VI.goes {w':World}{s':St}(h:VI S pb nb B p w wr c0 c1 c3 c4 c5 s vars vs n xs)(hnp:pb<nb)(hBn:nb<B)(hI:Inv p s')(he:s'.er=0->s.er=0)(hL:PL S w' pb s')(hF:Fr (·=pb) wr w'):VI S pb nb B p w w' c0 c1 c3 c4 c5 s' vars vs n xs :=
 ⟨hI,hL,(hF.block nb (ze h.blk) (by omega)).trans h.blk,zi h.own (λk h1 h2 _=>hF.block k h2 (by omega)),λh'=>h.ok (he h'),h.fr.trans' hF (λ_ _ h=>Or.inl h)⟩
theorem zhz (S:Nat->Addr)(pb nb B p m:Nat)(i:Bool)(w wr:World)(c0 c1 c3 c4 c5:Value)(st:St)(vars:List Vr)(vs:Value)(n:Nat)(xs:List Value)(hn:n<=m)(hm:m<=40)(hm6:16<=m)(hnp:pb<nb)(hBn:nb<B)(hBw:B<=w.heap.size)(H:VI S pb nb B p w wr c0 c1 c3 c4 c5 st vars vs n xs) :
 xK 136 #[xP pb,xP nb] wr λe w'=>∃(vs':Value) (n':Nat) (xs':List Value),e=.returned (xI ((n':Int)-(n:Int)))/\n'<=m+1/\VI S pb nb B p w w' c0 c1 c3 c4 c5 (zab i st vars).1 (zab i st vars).2 vs' n' xs':=by
 obtain⟨x,cp,hvs⟩:∃x cp,vs=.slice x n cp:=by
  rcases H.own.2 with ⟨h1,h2⟩|⟨g,cap,cur,h1,_⟩
  . exact⟨none,0,by rw[h1,h2]⟩
  . exact⟨_,cap,h1⟩
 have hblk:=H.blk;rw[hvs] at hblk;obtain⟨q0,q1,q2,q3,q4,q5,qf,qz⟩:=zt hblk;have HBd:=za H.inv.toBad;have hlt:=H.pl.lt;clear hblk;go_enter func136,ntmps136;go_wp2_with fail;refine (zP S pb st _ _ zfn _ HBd.o H.pl).mono ?_;rintro e w1 ⟨rfl,HL1,HF1⟩;rw[zan H.pl.tx (by decide)] at HL1;have f1:=Fwd.must H.inv 4 [40];have HV1:=H.goes hnp hBn f1.inv (λHer=>zay Her) HL1 HF1;have hRes0:zab i st vars=((zaG i 1300 (zx i (!i) (st.must 4 [40]) vars)).1.must 4 [41],(zaG i 1300 (zx i (!i) (st.must 4 [40]) vars)).2):=rfl;have HPM:=za hRes0;obtain⟨R,HR0⟩:∃R,zaG i 1300 (zx i (!i) (st.must 4 [40]) vars)=R:=⟨_,rfl⟩;rw[HR0] at HPM;have Hta:Hid (1201-(st.must 4 [40]).t.a<1300):=by unfold Hid;omega
 generalize st.must 4 [40]=s0 at *;obtain⟨i0,hi,hi0,hi1,hi2⟩:=info_parts Tryz.infoVar;clear q0 q1 q2 q3 q4 q5 qf f1 hRes0;go_wp2_with fail;go_loopg [6] 1300 (λk mo wx=>∃(b:Bool) (s:St) (vl:List Vr) (vv:Value) (nn:Nat) (xx:List Value),mo=.bool b/\Hid (VI S pb nb B p w wx c0 c1 c3 c4 c5 s vl vv nn xx)/\nn<=m+1/\Hid (b=true->nn<=m/\zaG i k (zx i (!i) s vl)=R/\1201-s.t.a<k)/\Hid (b=false->(s,vl)=R));case atStart=>exact⟨true,s0,vars,vs,n,xs,rfl,HV1,by omega,λ_=>⟨hn,HR0,Hta.o⟩,λH=>by cases H⟩
 case round =>
  obtain⟨b,s,vl,vv,nn,xx,rfl,HA,hnn,HT,HFa⟩:=hrel;have hzr:=HA.o.fr.size;have hltr:=HA.o.pl.lt;have HBs:=za HA.o.inv.toBad;cases b with
  | false => have HQ:=za (HFa.o rfl);obtain⟨x2,cp2,hvv⟩:=zii HA.o.own;have Hb2:=HA.o.blk;rw[hvv] at Hb2;clear HT HFa hvv;go_wp2_with (go_at_call 134;refine (zP S pb s _ [41] zlq _ HBs.o HA.o.pl).mono ?_;rintro e w2 ⟨rfl,HL2,HF2⟩;have hn2:=(HF2.block nb (ze Hb2) (by omega)).trans Hb2;obtain⟨q0,q1,q2,q3,q4,q5,qf,qz2⟩:=zt hn2;clear hn2);go_ret;have hm':=zan HA.o.pl.tx (l:=[41]) (by decide);have HL2:=HL2;rw[hm'] at HL2;rw[HPM.o,<- HQ.o];refine⟨vv,nn,xx,?_,hnn,HA.o.goes hnp hBn (Fwd.must HA.o.inv 4 [41]).inv (λHer=>zay Her) HL2 HF2⟩;first|rfl|(congr 2;go_num)
  | true =>
    obtain⟨hnm,hR1,Hrem⟩:=HT.o rfl;obtain⟨x2,cp2,hvv⟩:=zii HA.o.own;have Hb2:=HA.o.blk;have hb2':=Hb2;rw[hvv] at hb2';obtain⟨q0,q1,q2,q3,q4,q5,qf,qz2⟩:=zt Hb2;have HDc:=za (λw1 (hh:w1.heap[nb]?=wr.heap[nb]?) H=>zfH S pb s w1 nb x2 nn cp2 HBs.o (by omega) (ze (hh.trans hb2')) (zt (hh.trans hb2')).2.2.1 H);have HR1:=za hR1;have mx:nn+1<=maxLen:=(by unfold maxLen;omega);have by':(nn+1)*72<=140737488355328:=(by omega);have Hnm:=za hnm;clear HT HFa hR1 hvv hb2';go_upto_block 1 with fail;go_cut [] (λwy=>∃vs' xs',Hid (VI S pb nb B p w wy c0 c1 c3 c4 c5 (zx i (!i) s vl).1 (zx i (!i) s vl).2 vs' (nn+1) xs'));case first =>
     go_wp2_with fail;go_region_law (first|(refine zde rfl 191 (.tmp 22) (.tmp 23) 136 78 rfl zjY (xP pb) (xP nb) rfl rfl (HDc.o _ rfl HA.o.pl.drew) ?_;rintro e w1 ⟨ns,na,ty,rfl,HK1,HL1,hF1'⟩;refine⟨_,rfl,?_⟩;have HF1:Fr (·=pb) wr w1:=hF1'.undrew;have hzc:=HF1.size;have Hn1:=(HF1.block nb (ze Hb2) (by omega)).trans Hb2;obtain⟨f0,f1,f2,f3,f4,f5,ff,fz⟩:=zt Hn1;have Hown1:=za (zi HA.o.own (λk h1 h2 _=>HF1.block k h2 (by omega)));have hzw:B<=w1.heap.size+1:=(by omega);clear hF1')|(refine zJ _ rfl (.tmp 21) (.tmp 25) 141 rfl B 156 i0 _ 7 72 underlying141 hi hi0 hi1 hi2 rfl (by decide) vv nn xx rfl (zD Hown1.o _) (xD w1.heap.size 0) 1 1 [.string ns,xI na,xI ty,xI 0,xI 0,.string ⟨#[]⟩,xI 0] rfl rfl (zN (zc w1 _) rfl) zoU mx by' (by simpa using hzw) ?_;intro v' w9 Hown9 hgrow hnew;obtain⟨g9,cap9,rfl,hg9⟩:=zM Hown9 (by omega);have HF9:=Fr.of_grown hgrow;have hb9:w9.heap[nb]?=w1.heap[nb]?:=((HF9.block nb (by rw[zsb];omega) (λH=>by have:=(Hown1.o.lt nb H).1;omega)).trans (Below.heap_alloc _ _ _ (by omega)));have Hn9:=za (hb9.trans Hn1);obtain⟨m0,m1,m2,m3,m4,m5,mf,mz⟩:=zt Hn9.o;have HL9:=za (PL.fr (HL1.alloc _) HF9 (λk hk=>by have:=(Hown1.o.lt k hk).1;omega));clear hgrow hnew hb9));all_goals go_wp2_with fail
     all_goals go_meet
     all_goals exact⟨_,_,zpn i HA.o hnp hBn hBw HK1 HF1 HL9.o Hn9.o Hown9 HF9⟩
    case rest =>
     obtain⟨vs2,xs2,HA2⟩:=hcut;have hzq:=HA2.o.fr.size;have HBd2:=za HA2.o.inv.toBad;generalize Hy:zx i (!i) s vl=y at *;have HSk:=za (zbg S pb y.1 ⟨#[44]⟩ [44] zlz wc HBd2.o HA2.o.pl);have hska:y.1.skipM [44]=if y.1.is 4 [44]=true then y.1.step else y.1:=(by unfold St.skipM;rw[zaB HA2.o.pl.tx (by decide)]);rw[zaB HA2.o.pl.tx (by decide),hska] at HSk;clear q0 q1 q2 q3 q4 q5 qf qz2 hska;obtain⟨g,rfl⟩:∃g,gk=g+1:=⟨gk-1,by have:=Hrem;omega⟩;have hR1:=HR1.o;have hunf:zaG i (g+1) y=if y.1.er=0/\y.1.is 4 [44]=true then zaG i g (zx i (!i) y.1.step y.2) else y:=rfl;rw[hunf] at hR1;cases hc:y.1.is 4 [44] with
     | true =>
       have Her:y.1.er=0:=HBd2.o.er (by rw[Inv.is_k hc];decide);rw[if_pos ⟨Her,hc⟩] at hR1;rw[hc,if_pos rfl] at HSk;have e5:=Fwd.step HA2.o.inv;have hta:y.1.t.a+1<=y.1.step.t.a:=(by have h1:=HA2.o.inv.tok (by rw[Inv.is_k hc];decide);have h2:=zV y.1.src y.1.t.t HA2.o.inv.ok.tt;rw[St.step_ok Her];simp only;omega);have HN:Hid (nn+1<=m/\zaG i g (zx i (!i) y.1.step y.2)=R/\1201-y.1.step.t.a<g):=(by have h1:s.t.a<=y.1.t.a:=(by have:=(zbI (i:=i) (o:=!i) (vars:=vl) HA.o.inv).1.ta;rwa [Hy] at this);have h2:=Hrem;have h3:=HA.o.inv.ok.ta_le;have h4:=e5.inv.ok.ta_le;have h5:=(HA2.o.ok Her);exact⟨by omega,hR1,by omega⟩);have HI5:=za e5.inv;clear hR1 hunf hc e5 hta;go_wp2_with (go_at_call 137;refine HSk.o.mono ?_;rintro e w3 ⟨rfl,HL3,HF3⟩);go_roundg g;case measure=>omega
       exact⟨true,y.1.step,y.2,vs2,nn+1,xs2,rfl,HA2.o.goes hnp hBn HI5.o (λ_=>Her) HL3 HF3,by have:=HN.o.1;omega,λ_=>HN.o,λH=>by cases H⟩
     | false =>
       rw[if_neg (by rw[hc];simp)] at hR1;have HR2:=za hR1;rw[hc,if_neg (by simp)] at HSk;clear hR1 hunf hc;go_wp2_with (go_at_call 137;refine HSk.o.mono ?_;rintro e w3 ⟨rfl,HL3,HF3⟩);go_roundg g;case measure=>omega
       exact⟨false,y.1,y.2,vs2,nn+1,xs2,rfl,HA2.o.goes hnp hBn HA2.o.inv (λH=>H) HL3 HF3,by have:=Hnm.o;omega,(λH=>by cases H),λ_=>HR2.o⟩
end
end Go.Proofs.YtmfkofhgdjechaaGreatDoor
