/- Part 5. -/
import Derived.Test.YtenadialhccdiaaGreatDoorK03
set_option maxRecDepth 100000
set_option maxHeartbeats 8000000
namespace Go.Proofs.YtenadialhccdiaaGreatDoor
open Go.Proofs.Tryz
section
open Go.RowKit
variable {ns:Xl} {ps:Xn} {xs:Xm} {B b k p pb qb rb:Nat} {S:Xs} {s:St} {e:Xy} {c1 c2 lv:Xv} {w wr:Xw}
theorem zqX:(⟨#[61]⟩:Xb).toList=[61]:=by decide +kernel
theorem zhF:zH 129:=λ_ _=>by kernel_rfl
theorem Tryz.infoNm:(prog.info? 84).map (λi=>(i.zero,i.size,i.bytes))=some (some (.agg #[.string ⟨#[]⟩,xI 0]),2,24):=by kernel_rfl
theorem zor {s:Xb}{a:Int}:∀u∈[Value.string s,xI a],u.oneCell'=true:=by intro u hu;simp at hu;rcases hu with rfl|rfl <;> rfl
def nmC:List ByteArray->List Nat->List Value
 | s::ns,a::ps=>.string s::(xI a)::nmC ns ps
 | _,_=>[]
theorem zoa:∀(ns:Xl) (ps:Xn) (s:Xb) (a:Nat),ns.length=ps.length->nmC (ns++[s]) (ps++[a])=nmC ns ps++[.string s,xI a]:=by
 intro ns;induction ns with
 | nil=>intro ps s a h;cases ps with
   | nil=>rfl
   | cons _ _=>simp at h
 | cons x ns ih=>intro ps s a h;cases ps with
   | nil=>simp at h
   | cons y ps=>simp only[List.cons_append,nmC,ih ps s a (by simpa using h)]
structure QI (S:Xs) (pb rb qb B p:Nat) (w wr:Xw) (s:St) (ns:Xl) (ps:Xn) (lv:Xv) (k:Nat) (xs:Xm) (c1 c2:Xv):Prop where
 inv:Inv p s
 pl:PL S wr pb s
 q:xH wr qb #[lv,c1,c2] 158
 r:xH wr rb #[.slice none 0 0,xI 0,.pointer none] 158
 own:wr.ownsRow B 84 2 lv k xs
 len:ns.length=ps.length
 ok:s.er=0->k=ns.length/\xs=nmC ns ps
 fr:Fr (·=pb) w wr
theorem QI.goes {w':Xw}{s':St}(h:QI S pb rb qb B p w wr s ns ps lv k xs c1 c2)(h1:pb<rb)(h2:pb<qb)(h3:pb<B)(hI:Inv p s')(he:s'.er=0->s.er=0)(hL:PL S w' pb s')(hF:Fr (·=pb) wr w'):QI S pb rb qb B p w w' s' ns ps lv k xs c1 c2 :=
 ⟨hI,hL,(hF.block qb (ze h.q) (by omega)).trans h.q,(hF.block rb (ze h.r) (by omega)).trans h.r,zi h.own (λk h1 h2 _=>hF.block k h2 (by omega)),h.len,λh'=>h.ok (he h'),h.fr.trans hF⟩
theorem zhG {w1 w9:Xw}{v':Xv}{X:Obj}{nx:Xb}{na:Nat}
 (h:QI S pb rb qb B p w wr s ns ps lv k xs c1 c2) (h1:pb<rb) (h2:pb<qb) (_h3:pb<B) (hrq:¬rb=qb) (hqB:qb<B) (hrB:rb<B) (hwq:w.heap.size<=qb) (_hwB:w.heap.size<=B) (hnk:Hid (s.t.k=2->nx=s.t.s/\na=s.t.a)) (hF1:Fr (·=pb) wr w1) (hL9:PL S w9 pb s.name) (hq9:xH w9 qb #[lv,c1,c2] 158)
 (hown:w9.ownsRow B 84 2 v' (k+1) (xs++[.string nx,xI na])) (hF9:Fr (λk=>lv.ownBlock=some k) (w1.alloc X) w9):QI S pb rb qb B p w (w9.setCell (xD qb 0) v') s.name (ns++[s.t.s]) (ps++[s.t.a]) v' (k+1) (xs++[.string nx,xI na]) c1 c2:=by
 have hz1:=hF1.size;have hr9:xH w9 rb #[.slice none 0 0,xI 0,.pointer none] 158:=by have hzr:=ze h.r;exact (hF9.block rb (by rw[zsb];omega) (λhk=>by have:=(h.own.lt rb hk).1;omega)).trans ((zWP _ _ _ (by omega)).trans ((hF1.block rb hzr (by omega)).trans h.r))
 refine⟨(Fwd.name h.inv).inv,hL9.setOther h2 _ _,zh _ _ _ _ hq9,zr hrq hr9,zi hown (λk hk _ _=>zr (by omega) rfl),by simp[h.len],?_,?_⟩
 . intro he;obtain⟨k1,k2⟩:=h.ok (zel he);obtain⟨n1,n2⟩:=hnk.out (zeH he);subst n1 n2;exact⟨by simp[k1],by rw[zoa _ _ _ _ h.len,k2]⟩
 have g1:Fr (·=pb) w (w1.alloc X):=(h.fr.trans hF1).alloc X;exact (g1.trans' hF9 (λi hi hs=>by have:=(h.own.lt i hs).1;omega)).setNew hwq _ _
theorem zjt (h:QI S pb rb qb B p w wr s ns ps lv k xs c1 c2)(h2:pb<qb)(hrq:¬rb=qb)(hqB:qb<B)(hwq:w.heap.size<=qb)(_hwB:w.heap.size<=B)(a:Nat):QI S pb rb qb B p w (wr.setCell (xD qb 1) (xI a)) s ns ps lv k xs (xI a) c2 :=
 ⟨h.inv,h.pl.setOther h2 _ _,zh _ _ _ _ h.q,zr hrq h.r,zi h.own (λk hk _ _=>zr (by omega) rfl),h.len,h.ok,h.fr.setNew hwq _ _⟩
theorem zjs (h:QI S pb rb qb B p w wr s ns ps lv k xs c1 c2)(h2:pb<qb)(hrq:¬rb=qb)(hqB:qb<B)(hwq:w.heap.size<=qb)(a:Xp):QI S pb rb qb B p w (wr.setCell (xD qb 2) (.pointer a)) s ns ps lv k xs c1 (.pointer a) :=
 ⟨h.inv,h.pl.setOther h2 _ _,zh _ _ _ _ h.q,zr hrq h.r,zi h.own (λk hk _ _=>zr (by omega) rfl),h.len,h.ok,h.fr.setNew hwq _ _⟩
theorem zie {u0 u1 u2:Xv}(h:xH w b #[u0,u1,u2] e)(v0 v1 v2:Xv):(((w.setCell (xD b 0) v0).setCell (xD b 1) v1).setCell (xD b 2) v2).heap[b]?=some (.cells #[v0,v1,v2] e (0,0)) :=
 zh _ _ _ _ (zh _ _ _ _ (zh _ _ _ _ h))
def zlQ (S:Xs)(pb:Nat)(w:Xw)(st':St)(q:Eqn)(e:Ending)(w':Xw):Prop :=
 ∃(lv:Xv) (k:Nat) (xs:Xm) (pl:Nat) (a:Xp),e=.returned (.agg #[lv,xI pl,.pointer a])/\(∃x cp,lv=.slice x k cp)/\PL S w' pb st'/\w'.ownsRow w.heap.size 84 2 lv k xs /\
  Hid (st'.er=0->k=q.ns.length/\xs=nmC q.ns q.ps/\pl=q.a/\TR w' w.heap.size st'.L q.ex (.pointer a))/\Fr (·=pb) w w'
theorem zgB {fn:Func}{p:Tmp}(h:fn.results=#[.cell p 158]){tmps:Xa}(hp:tmps[p]?.getD undef=xP b){v0 v1 v2:Xv}(hh:xH w b #[v0,v1,v2] 158):(results fn tmps).run prog w=.ok (.agg #[v0,v1,v2]) w:=by obtain⟨c0,c1,c2,_⟩:=zL hh;simp[results,h,hp,go_sem,c0,c1,c2]
theorem zg3 {n:Nat}{vs:Xv}(h:w.ownsRow B e 2 vs n xs):∃x cp,vs=.slice x n cp:=by
 rcases h.2 with ⟨h1,h2⟩|⟨g,cap,cur,h1,_⟩
 . exact⟨none,0,by rw[h1,h2]⟩
 exact⟨_,cap,h1⟩
theorem zgK {r18:Fn}(HX:zX 18 159 r18)(GX:zv 18 r18)(S:Xs)(pb p:Nat)(st:St)(w:Xw)(HI:Inv p st)(hc:st.is 4 [40]=false)(HR:PL S w pb st) :
 xK 133 #[xP pb] w (zlQ S pb w ((r18 (st.name.must 4 [61])).1.must 4 [59]) ⟨[st.t.s],[st.t.a],st.name.t.a,(r18 (st.name.must 4 [61])).2⟩):=by
 have hlt:=HR.lt;have HSk:=za (λw1 h=>zbg S pb st ⟨#[40]⟩ _ zfn w1 HI.toBad h);have hsk:st.skipM [40]=st:=by unfold St.skipM;rw[zaB HR.tx (by decide),hc];rfl
 rw[zaB HR.tx (by decide),hc,hsk] at HSk;obtain⟨nx,na,hnv,hnk⟩:=zbw st;have HNk:=za hnk;have HN:=za (λw1 h=>zaZ S pb st w1 HI.toBad h);rw[hnv] at HN;obtain⟨i0,hi,hi0,hi1,hi2⟩:=info_parts Tryz.infoNm;go_enter func133,ntmps133;go_wp2_with fail;refine (HSk.o _ ((HR.alloc _).alloc _)).mono ?_;rintro e w1 ⟨rfl,hL1,hF1⟩;have hQ1:QI S pb w.heap.size (w.heap.size+1) (w.heap.size+1+1) p w w1 st [] [] (.slice none 0 0) 0 [] (xI 0) (.pointer none):=by
  refine⟨HI,hL1,?_,?_,World.ownsRow_nil _ _ _ _,rfl,λ_=>⟨rfl,rfl⟩,(((Fr.refl _ w).alloc _).alloc _).trans hF1⟩
  . refine (hF1.block _ (by simp) (by omega)).trans ?_;have:=zc (w.alloc (.cells #[.slice none 0 0,xI 0,.pointer none] 158)) (.cells #[.slice none 0 0,xI 0,.pointer none] 158);simpa using this
  exact (hF1.block _ (by simp;omega) (by omega)).trans ((zWP _ _ _ (by simp)).trans (zc w _))
 have HQ1:=za hQ1;obtain⟨q0,q1,q2,qf,qz⟩:=zL hQ1.q;go_upto_region 12 with fail;go_cut [] (λwy=>∃lv k xs,Hid (QI S pb w.heap.size (w.heap.size+1) (w.heap.size+1+1) p w wy st.name [st.t.s] [st.t.a] lv k xs (xI 0) (.pointer none))/\k<=1);case first =>
  have mx:0+1<=maxLen:=by unfold maxLen;omega
  have by':(0+1)*24<=140737488355328:=by omega
  have hltw1:=HQ1.o.pl.lt;go_region_law (first|(refine zbL rfl 129 (.tmp 38) 181 rfl zhF (xP pb) rfl (HN.o _ HQ1.o.pl.drew) ?_;rintro e w2 ⟨rfl,HL2,hF2'⟩;refine⟨_,rfl,?_⟩;have HF2:Fr (·=pb) w1 w2:=hF2'.undrew;have hzc:=HF2.size;have Hq2:=(HF2.block (w.heap.size+1) qz (by omega)).trans HQ1.o.q;obtain⟨f0,f1,f2,ff,fz⟩:=zL Hq2;have hzw:w.heap.size+1+1<=w2.heap.size+1:=(by omega))|(refine zJ _ rfl (.tmp 37) (.tmp 40) 155 rfl (w.heap.size+1+1) 84 i0 _ 2 24 underlying155 hi hi0 hi1 hi2 rfl (by decide) (.slice none 0 0) 0 [] rfl (World.ownsRow_nil _ _ _ _) (xD w2.heap.size 0) 1 1 [.string nx,xI na] rfl rfl (zN (zc w2 _) rfl) zor mx by' (by simpa using hzw) ?_;intro v' w9 Hown9 hgrow hnew;obtain⟨g9,cap9,rfl,hg9⟩:=zM Hown9 (by omega);have HF9:=Fr.of_grown hgrow;have hb9:w9.heap[w.heap.size+1]?=w2.heap[w.heap.size+1]?:=((HF9.block (w.heap.size+1) (by rw[zsb];omega) (λh=>by cases h)).trans (zWP _ _ _ fz));have Hq9:=za (hb9.trans Hq2);obtain⟨m0,m1,m2,mf,mz⟩:=zL Hq9.o;have HL9:=za (PL.fr (HL2.alloc _) HF9 (λk hk=>by cases hk))));all_goals go_wp2_with fail
  all_goals go_meet
  all_goals exact⟨_,_,_,zhG HQ1.o (by omega) (by omega) (by omega) (by omega) (by omega) (by omega) (by omega) (by omega) HNk HF2 HL9.o Hq9.o Hown9 HF9,by omega⟩
 case rest => obtain⟨lv,k,xs,HQ2,hk1⟩:=hcut;have hzq:=HQ2.o.fr.size;have hltc:=HQ2.o.pl.lt;obtain⟨q0,q1,q2,qf,qz⟩:=zL HQ2.o.q;have hBd:=HQ2.o.inv.toBad;have HEx:=za (zP S pb st.name ⟨#[61]⟩ _ zqX wc hBd HQ2.o.pl);rw[zan HQ2.o.pl.tx (by decide)] at HEx;go_wp2_with (go_at_call 128;refine HEx.o.mono ?_;rintro e w3 ⟨rfl,hL3,hF3⟩;have HQ3:=za (HQ2.o.goes (by omega) (by omega) (by omega) (Fwd.must HQ2.o.inv 4 [61]).inv (λhe=>zay he) hL3 hF3);obtain⟨m0,m1,m2,mf,mz⟩:=zL HQ3.o.q;have hz3:=hF3.size);obtain⟨s2,Hs2⟩:∃s2,st.name.must 4 [61]=s2:=⟨_,rfl⟩;rw[Hs2] at HQ3;have H4:=zjt HQ3.o (by omega) (by omega) (by omega) (by omega) (by omega) st.name.t.a;have g5:=GX s2 p H4.inv (by omega);have HX5:=za (HX S pb s2 p _ H4.inv (by omega) H4.pl);have hz4:=H4.fr.size;refine HX5.o.mono ?_;rintro e w5 ⟨a5,rfl,hL5,hT5,HF5⟩;have hz5:=HF5.size;have HQ5:=za (H4.goes (by omega) (by omega) (by omega) g5.inv (λhe=>g5.fwd.er0 he) hL5 HF5);obtain⟨q0,q1,q2,qf,qz⟩:=zL HQ5.o.q;have hBd5:=za g5.inv.toBad;obtain⟨y,Hy⟩:∃y,r18 s2=y:=⟨_,rfl⟩;rw[Hy] at HQ5 hBd5 hT5;have HT5:=za hT5.out;have Hg5:=g5.inv;rw[Hy] at Hg5;go_wp2_with fail;have H6:=zjs HQ5.o (by omega) (by omega) (by omega) (by omega) a5;have HEx6:=za (zP S pb y.1 ⟨#[59]⟩ _ zl1 _ hBd5.out H6.pl);rw[zan H6.pl.tx (by decide)] at HEx6;refine HEx6.o.mono ?_;rintro e w7 ⟨rfl,hL7,HF7⟩;have HQ7:=za (H6.goes (by omega) (by omega) (by omega) (Fwd.must H6.inv 4 [59]).inv (λhe=>zay he) hL7 HF7);obtain⟨x7,cp7,Hlv7⟩:=zg3 HQ7.o.own;have hq7:=HQ7.o.q;rw[Hlv7] at hq7;obtain⟨q0,q1,q2,qf,qz⟩:=zL hq7;obtain⟨r0,r1,r2,rf,rz⟩:=zL HQ7.o.r;go_wp2_with fail;have hF57:Fr (·=pb) (w5.setCell (xD (w.heap.size+1) 2) (.pointer a5)) w7:=HF7;refine zWR (v:=.agg #[lv,xI st.name.t.a,.pointer a5]) (by rw[Hlv7];exact zgB rfl rfl (zie HQ7.o.r _ _ _)) rfl ?_;rw[Hs2,Hy];refine⟨lv,k,xs,st.name.t.a,a5,rfl,⟨x7,cp7,Hlv7⟩,((HQ7.o.pl.setOther hlt _ _).setOther hlt _ _).setOther hlt _ _,zR (zi HQ7.o.own (λk h1 _ _=>zr (by omega) (zr (by omega) (zr (by omega) rfl)))) (by omega:w.heap.size<=w.heap.size+1+1),?_,((HQ7.o.fr.setNew (zMK _) _ _).setNew (zMK _) _ _).setNew (zMK _) _ _⟩;intro he';obtain⟨e1,e2⟩:=HQ7.o.ok he';refine⟨e1,e2,rfl,?_⟩;rw[St.must_L];have t5:=HT5.o (zay he');have hq4:=ze H4.q;have Fa:Fr (·=w.heap.size+1) w5 (w5.setCell (xD (w.heap.size+1) 2) (.pointer a5)):=(Fr.refl _ w5).set1 _ _;have Fb:Fr (·=w.heap.size) w7 (((w7.setCell (xD w.heap.size 0) lv).setCell (xD w.heap.size 1) (xI st.name.t.a)).setCell (xD w.heap.size 2) (.pointer a5)):=((((Fr.refl _ w7).set1 _ _).set1 _ _).set1 _ _);have t7:=(t5.fr Fa (λk h1 _ h2=>by omega)).fr hF57 (λk h1 _ h2=>by omega);have t8:=t7.fr Fb (λk h1 _ h2=>by omega);rw[Hlv7] at t8;exact t8.down (by omega)
end
section
open Go.RowKit
variable {r17:Fn} {st:St}
theorem zoj {nx:Xb}{na:Nat}(h:st.t.k=2->nx=st.t.s/\na=st.t.a):zao r17 ⟨2,na,0,nx,0⟩ st.name=zao r17 st.t st.name:=by
 by_cases hk:st.t.k=2
 . obtain⟨h1,h2⟩:=h hk;unfold zao;simp only[h1,h2]
 have hn:st.name=st.fail 2 st.t.a:=by unfold St.name;rw[zM1 hk]
 rw[hn];unfold zao;rw[St.fail_is _ (by decide)];rfl
theorem zpL {p:Nat}(hI:Inv p st)(h:(zao r17 st.t st.name).1.er=0):st.name.er=0:=by
 by_cases he:st.name.er=0
 . exact he
 have h1:=Fwd.name hI;have hb:st.name.is 4 [40]=false:=by have:=h1.inv.bad he;simp[St.is,this]
 have e:zao r17 st.t st.name=(st.name.fail 2 st.name.t.a,0):=by unfold zao;rw[zM1 (by rw[hb];simp)]
 rw[e] at h;exact (Fwd.fail h1.inv (by omega) (by omega) h1.inv.ok.ta_le:Fwd p st.name (st.name.fail 2 st.name.t.a)).er0 h
theorem zgv {r18:Fn}(HK:zdI 18 r17)(g17:zv 17 r17)(g18:zv 18 r18)(S:Xs)(pb p f:Nat)(R:Nms)(st:St)(w:Xw)(HI:Inv p st)(ho:st.op=0)(hc:st.is 4 [40]=true)(hf:f=1300)(hRR:zbO f (zeh st)=R)(HR:PL S w pb st) :
 xK 133 #[xP pb] w (zlQ S pb w ((zao r17 ((R.st.must 4 [41]).must 4 [61]).t ((R.st.must 4 [41]).must 4 [61]).name).1.must 4 [59]) ⟨R.ns,R.ps,(R.st.must 4 [41]).t.a,(zao r17 ((R.st.must 4 [41]).must 4 [61]).t ((R.st.must 4 [41]).must 4 [61]).name).2⟩):=by
 have hlt:=HR.lt;have hMF:=zkV HI hc hf hRR;have HSk:=za (λw1 h=>zbg S pb st ⟨#[40]⟩ _ zfn w1 HI.toBad h);have hsk:st.skipM [40]=st.step:=by unfold St.skipM;rw[zaB HR.tx (by decide),hc];rfl
 rw[zaB HR.tx (by decide),hc,hsk] at HSk;have e1:=Fwd.step HI;have e2:=Fwd.name e1.inv;have e3:=Fwd.must e2.inv 4 [44];obtain⟨nx,na,hnv,hnk⟩:=zbw st.step;have HNk:=za hnk;have HN:=za (λw1 h=>zaZ S pb st.step w1 e1.inv.toBad h);rw[hnv] at HN;obtain⟨i0,hi,hi0,hi1,hi2⟩:=info_parts Tryz.infoNm;have f41:=Fwd.must hMF.r 4 [41];have f61:=Fwd.must f41.inv 4 [61];have f62:=Fwd.name f61.inv;have hta61:1<=((R.st.must 4 [41]).must 4 [61]).t.a:=zMO hMF.ta (zMO f41.ta f61.ta);have hop61:((R.st.must 4 [41]).must 4 [61]).op=0:=by rw[St.must_op,St.must_op,hMF.rop,ho]
 have hrg:=zfx g17 g18 (many:=true) f61.inv hop61 (λ_=>hta61);have hrr:zck r17 r18 true ((R.st.must 4 [41]).must 4 [61])=zao r17 ((R.st.must 4 [41]).must 4 [61]).t ((R.st.must 4 [41]).must 4 [61]).name:=rfl;rw[hrr] at hrg;have HI1:=za e1.inv;have HI3:=za e3.inv;have HI41:=za f41.inv;have HI61:=za f61.inv;have HI62:=za f62.inv;have Hta62:=za (zMO hta61 f62.ta);have Hrg:=za hrg.1;have HRR:Hid (zbO 1300 ⟨(st.step.name.must 4 [44]).name,[st.step.t.s]++[(st.step.name.must 4 [44]).t.s],[st.step.t.a]++[(st.step.name.must 4 [44]).t.a]⟩=R):=by rw[<- hf];exact hRR
 generalize hs3:st.step.name.must 4 [44]=s3 at *;have Hs3:=za hs3;go_enter func133,ntmps133;go_wp2_with fail;refine (HSk.o _ ((HR.alloc _).alloc _)).mono ?_;rintro e w1 ⟨rfl,hL1,hF1⟩;have hQ1:QI S pb w.heap.size (w.heap.size+1) (w.heap.size+1+1) p w w1 st.step [] [] (.slice none 0 0) 0 [] (xI 0) (.pointer none):=by
  refine⟨HI1.o,hL1,?_,?_,World.ownsRow_nil _ _ _ _,rfl,λ_=>⟨rfl,rfl⟩,(((Fr.refl _ w).alloc _).alloc _).trans hF1⟩
  . refine (hF1.block _ (by simp) (by omega)).trans ?_;have:=zc (w.alloc (.cells #[.slice none 0 0,xI 0,.pointer none] 158)) (.cells #[.slice none 0 0,xI 0,.pointer none] 158);simpa using this
  exact (hF1.block _ (by simp;omega) (by omega)).trans ((zWP _ _ _ (by simp)).trans (zc w _))
 have HQ1:=za hQ1;obtain⟨q0,q1,q2,qf,qz⟩:=zL hQ1.q;have hltw1:=hQ1.pl.lt;go_upto_region 3 with fail;go_cut [] (λwy=>∃lv xs,Hid (QI S pb w.heap.size (w.heap.size+1) (w.heap.size+1+1) p w wy st.step.name [st.step.t.s] [st.step.t.a] lv (0+1) xs (xI 0) (.pointer none)));case first =>
  have mx:0+1<=maxLen:=by unfold maxLen;omega
  have by':(0+1)*24<=140737488355328:=by omega
  go_region_law (first|(refine zbL rfl 129 (.tmp 9) 181 rfl zhF (xP pb) rfl (HN.o _ HQ1.o.pl.drew) ?_;rintro e w2 ⟨rfl,HL2,hF2'⟩;refine⟨_,rfl,?_⟩;have HF2:Fr (·=pb) w1 w2:=hF2'.undrew;have hzc:=HF2.size;have Hq2:=(HF2.block (w.heap.size+1) qz (by omega)).trans HQ1.o.q;obtain⟨f0,f1,f2,ff,fz⟩:=zL Hq2;have Hown2:=za (zi HQ1.o.own (λk h1 h2 _=>HF2.block k h2 (by omega)));have hzw:w.heap.size+1+1<=w2.heap.size+1:=(by omega))|(refine zJ _ rfl (.tmp 8) (.tmp 11) 155 rfl (w.heap.size+1+1) 84 i0 _ 2 24 underlying155 hi hi0 hi1 hi2 rfl (by decide) (.slice none 0 0) 0 [] rfl (zD Hown2.o _) (xD w2.heap.size 0) 1 1 [.string nx,xI na] rfl rfl (zN (zc w2 _) rfl) zor mx by' (by simpa using hzw) ?_;intro v' w9 Hown9 hgrow hnew;obtain⟨g9,cap9,rfl,hg9⟩:=zM Hown9 (by omega);have HF9:=Fr.of_grown hgrow;have hb9:w9.heap[w.heap.size+1]?=w2.heap[w.heap.size+1]?:=((HF9.block (w.heap.size+1) (by rw[zsb];omega) (λh=>by have:=(Hown2.o.lt _ h).1;omega)).trans (zWP _ _ _ fz));have Hq9:=za (hb9.trans Hq2);obtain⟨m0,m1,m2,mf,mz⟩:=zL Hq9.o;have HL9:=za (PL.fr (HL2.alloc _) HF9 (λk hk=>by have:=(Hown2.o.lt k hk).1;omega))));all_goals go_wp2_with fail
  all_goals go_meet
  all_goals exact⟨_,_,zhG HQ1.o (by omega) (by omega) (by omega) (by omega) (by omega) (by omega) (by omega) (by omega) HNk HF2 HL9.o Hq9.o Hown9 HF9⟩
 case rest =>
  obtain⟨lv2,xs2,HQ2⟩:=hcut;have hzq:=HQ2.o.fr.size;have hltc:=HQ2.o.pl.lt;have hBd:=HQ2.o.inv.toBad;have HEx:=za (zP S pb st.step.name ⟨#[44]⟩ _ zlz wc hBd HQ2.o.pl);rw[zan HQ2.o.pl.tx (by decide),Hs3.o] at HEx;go_wp2_with (go_at_call 128;refine HEx.o.mono ?_;rintro e w3 ⟨rfl,HL3,HF3⟩;have HQ3:=za (HQ2.o.goes (by omega) (by omega) (by omega) HI3.o (λHer=>zay (Hs3.o▸Her)) HL3 HF3);have hz3:=HF3.size);go_loopg [4] 1300 (λk mo wx=>∃(b:Bool) (s:St) (ns:Xl) (ps:Xn) (lv:Xv) (kk:Nat) (xs:Xm),mo=.bool b/\Hid (QI S pb w.heap.size (w.heap.size+1) (w.heap.size+1+1) p w wx s ns ps lv kk xs (xI 0) (.pointer none))/\kk+k<=1301/\Hid (b=true->zbO k ⟨s.name,ns++[s.t.s],ps++[s.t.a]⟩=R/\1201-s.t.a<k)/\Hid (b=false->(⟨s,ns,ps⟩:Nms)=R));case atStart=>exact⟨true,s3,[st.step.t.s],[st.step.t.a],lv2,0+1,xs2,rfl,HQ3,by omega,λ_=>⟨HRR.o,by omega⟩,λh=>by cases h⟩
  case round =>
   obtain⟨b,s,ns,ps,lv,kk,xs,rfl,HA,hnn,HT,HFa⟩:=hrel;have hzr:=HA.o.fr.size;have hltr:=HA.o.pl.lt;have HBs:=za HA.o.inv.toBad;cases b with
   | false => have HQ:=za (HFa.o rfl);have hA:QI S pb w.heap.size (w.heap.size+1) (w.heap.size+1+1) p w wr R.st R.ns R.ps lv kk xs (xI 0) (.pointer none):=(by rw[<- HQ.o];exact HA.o);have HA1:=za hA;have HEx:=za (zP S pb R.st ⟨#[41]⟩ _ zlq wr hA.inv.toBad hA.pl);rw[zan hA.pl.tx (by decide)] at HEx;go_wp2_with fail;refine HEx.o.mono ?_;rintro e w4 ⟨rfl,hL4,hF4⟩;have hz4:=hF4.size;have HQ4:=za (HA1.o.goes (by omega) (by omega) (by omega) HI41.o (λHer=>zay Her) hL4 hF4);have HEx5:=za (zP S pb (R.st.must 4 [41]) ⟨#[61]⟩ _ zqX w4 HI41.o.toBad hL4);rw[zan hL4.tx (by decide)] at HEx5;go_wp2_with fail;refine HEx5.o.mono ?_;rintro e w5 ⟨rfl,hL5,hF5⟩;have hz5:=hF5.size;have HQ5:=za (HQ4.o.goes (by omega) (by omega) (by omega) HI61.o (λHer=>zay Her) hL5 hF5);obtain⟨q0,q1,q2,qf,qz⟩:=zL HQ5.o.q;go_upto_region 11 with fail;have h6:=zjt HQ5.o (by omega) (by omega) (by omega) (by omega) (by omega) (R.st.must 4 [41]).t.a;have H6:=za h6;obtain⟨s61,Hs61⟩:∃s61,(R.st.must 4 [41]).must 4 [61]=s61:=⟨_,rfl⟩;rw[Hs61] at H6 HI61 HI62 Hta62 Hrg;obtain⟨nx,na,hnv,hnk⟩:=zbw s61;have HN:=za (zaZ S pb s61 _ HI61.o.toBad H6.o.pl);rw[hnv] at HN;have Hct:=za (zoj (r17:=r17) hnk);go_wp2_with fail;refine HN.o.mono ?_;rintro e w7 ⟨rfl,hL7,hF7⟩;have hz6:=H6.o.fr.size;have hz7:=hF7.size;have HQ7:=za (H6.o.goes (by omega) (by omega) (by omega) HI62.o (λHer=>zel Her) hL7 hF7);obtain⟨y,Hy⟩:∃y,zao r17 s61.t s61.name=y:=⟨_,rfl⟩;have hK8:=HK S pb s61.name p w7 ⟨2,na,0,nx,0⟩ HI62.o (by omega) Hta62.o hL7;rw[Hct.o,Hy] at hK8;rw[Hy] at Hrg;have HK8:=za hK8;go_wp2_with fail;refine HK8.o.mono ?_;rintro e w8 ⟨a8,rfl,hL8,hT8,HF8⟩;have hz8:=HF8.size;have HQ8:=za (HQ7.o.goes (by omega) (by omega) (by omega) Hrg.o.inv (λHer=>zpL HI61.o (by rw[Hy];exact Her)) hL8 HF8);obtain⟨q0,q1,q2,qf,qz⟩:=zL HQ8.o.q;have HT8:=za hT8.out;go_wp2_with fail;have H9:=zjs HQ8.o (by omega) (by omega) (by omega) (by omega) a8;have HEx9:=za (zP S pb y.1 ⟨#[59]⟩ _ zl1 _ Hrg.o.inv.toBad H9.pl);rw[zan H9.pl.tx (by decide)] at HEx9;refine HEx9.o.mono ?_;rintro e w10 ⟨rfl,hL10,HF10⟩;have hz10:=HF10.size;have HQ10:=za (H9.goes (by omega) (by omega) (by omega) (Fwd.must H9.inv 4 [59]).inv (λHer=>zay Her) hL10 HF10);obtain⟨x10,cp10,Hlv10⟩:=zg3 HQ10.o.own;have hq10:=HQ10.o.q;rw[Hlv10] at hq10;obtain⟨q0,q1,q2,qf,qz⟩:=zL hq10;obtain⟨r0,r1,r2,rf,rz⟩:=zL HQ10.o.r;go_wp2_with fail;refine zWR (v:=.agg #[lv,.int .i64 (R.st.must 4 [41]).t.a,.pointer a8]) (by rw[Hlv10];exact zgB rfl rfl (zie HQ10.o.r _ _ _)) rfl ?_;rw[Hs61,Hy];refine⟨lv,kk,xs,(R.st.must 4 [41]).t.a,a8,rfl,⟨x10,cp10,Hlv10⟩,((HQ10.o.pl.setOther hlt _ _).setOther hlt _ _).setOther hlt _ _,zR (zi HQ10.o.own (λk h1 _ _=>zr (by omega) (zr (by omega) (zr (by omega) rfl)))) (by omega:w.heap.size<=w.heap.size+1+1),?_,((HQ10.o.fr.setNew (zMK _) _ _).setNew (zMK _) _ _).setNew (zMK _) _ _⟩;intro he';obtain⟨e1,e2⟩:=HQ10.o.ok he';refine⟨e1,e2,rfl,?_⟩;rw[St.must_L];have t8:=HT8.o (zay he');have hq7:=ze HQ7.o.q;have Fa:Fr (·=w.heap.size+1) w8 (w8.setCell (xD (w.heap.size+1) 2) (.pointer a8)):=(Fr.refl _ w8).set1 _ _;have Fb:Fr (·=w.heap.size) w10 (((w10.setCell (xD w.heap.size 0) lv).setCell (xD w.heap.size 1) (.int .i64 (R.st.must 4 [41]).t.a)).setCell (xD w.heap.size 2) (.pointer a8)):=((((Fr.refl _ w10).set1 _ _).set1 _ _).set1 _ _);have hF10':Fr (·=pb) (w8.setCell (xD (w.heap.size+1) 2) (.pointer a8)) w10:=HF10;have t9:=(t8.fr Fa (λk h1 _ h2=>by omega)).fr hF10' (λk h1 _ h2=>by omega);have t10:=t9.fr Fb (λk h1 _ h2=>by omega);rw[Hlv10] at t10;exact t10.down (by omega)
   | true =>
     obtain⟨hR1,Hrem⟩:=HT.o rfl;obtain⟨nx,na,hnv,hnk⟩:=zbw s;have HNk:=za hnk;have HN:=za (λw1 h=>zaZ S pb s w1 HBs.o h);rw[hnv] at HN;obtain⟨q0,q1,q2,qf,qz⟩:=zL HA.o.q;have HR1:=za hR1;have mx:kk+1<=maxLen:=(by unfold maxLen;omega);have by':(kk+1)*24<=140737488355328:=(by omega);go_upto_block 1 with fail;go_cut [] (λwy=>∃lv' xs',Hid (QI S pb w.heap.size (w.heap.size+1) (w.heap.size+1+1) p w wy s.name (ns++[s.t.s]) (ps++[s.t.a]) lv' (kk+1) xs' (xI 0) (.pointer none)));case first =>
      go_wp2_with fail;go_region_law (first|(refine zbL rfl 129 (.tmp 21) 181 rfl zhF (xP pb) rfl (HN.o _ HA.o.pl.drew) ?_;rintro e w2 ⟨rfl,HL2,hF2'⟩;refine⟨_,rfl,?_⟩;have HF2:Fr (·=pb) wr w2:=hF2'.undrew;have hzc:=HF2.size;have Hq2:=(HF2.block (w.heap.size+1) qz (by omega)).trans HA.o.q;obtain⟨f0,f1,f2,ff,fz⟩:=zL Hq2;have Hown2:=za (zi HA.o.own (λk h1 h2 _=>HF2.block k h2 (by omega)));have hzw:w.heap.size+1+1<=w2.heap.size+1:=(by omega))|(refine zJ _ rfl (.tmp 20) (.tmp 23) 155 rfl (w.heap.size+1+1) 84 i0 _ 2 24 underlying155 hi hi0 hi1 hi2 rfl (by decide) lv kk xs rfl (zD Hown2.o _) (xD w2.heap.size 0) 1 1 [.string nx,xI na] rfl rfl (zN (zc w2 _) rfl) zor mx by' (by simpa using hzw) ?_;intro v' w9 Hown9 hgrow hnew;obtain⟨g9,cap9,rfl,hg9⟩:=zM Hown9 (by omega);have HF9:=Fr.of_grown hgrow;have hb9:w9.heap[w.heap.size+1]?=w2.heap[w.heap.size+1]?:=((HF9.block (w.heap.size+1) (by rw[zsb];omega) (λh=>by have:=(Hown2.o.lt _ h).1;omega)).trans (zWP _ _ _ fz));have Hq9:=za (hb9.trans Hq2);obtain⟨m0,m1,m2,mf,mz⟩:=zL Hq9.o;have HL9:=za (PL.fr (HL2.alloc _) HF9 (λk hk=>by have:=(Hown2.o.lt k hk).1;omega))));all_goals go_wp2_with fail
      all_goals go_meet
      all_goals exact⟨_,_,zhG HA.o (by omega) (by omega) (by omega) (by omega) (by omega) (by omega) (by omega) (by omega) HNk HF2 HL9.o Hq9.o Hown9 HF9⟩
     case rest =>
      obtain⟨lv4,xs4,HA2⟩:=hcut;have hzq:=HA2.o.fr.size;have HBd2:=za HA2.o.inv.toBad;generalize Hy:(⟨s.name,ns++[s.t.s],ps++[s.t.a]⟩:Nms)=y at *;have Hys:s.name=y.st:=(by rw[<- Hy]);have hyn:ns++[s.t.s]=y.ns:=(by rw[<- Hy]);have hyp:ps++[s.t.a]=y.ps:=(by rw[<- Hy]);rw[Hys,hyn,hyp] at HA2;rw[Hys] at HBd2;have HSk:=za (zbg S pb y.st ⟨#[44]⟩ [44] zlz wc HBd2.o HA2.o.pl);have hska:y.st.skipM [44]=if y.st.is 4 [44]=true then y.st.step else y.st:=(by unfold St.skipM;rw[zaB HA2.o.pl.tx (by decide)]);rw[zaB HA2.o.pl.tx (by decide),hska] at HSk;obtain⟨g,rfl⟩:∃g,gk=g+1:=⟨gk-1,by have:=Hrem;omega⟩;have hR1:=HR1.o;have hunf:zbO (g+1) y=if y.st.er=0/\y.st.is 4 [44]=true then zbO g y.more else y:=rfl;rw[hunf] at hR1;cases hc:y.st.is 4 [44] with
      | true =>
        have Her:y.st.er=0:=HBd2.o.er (by rw[Inv.is_k hc];decide);rw[zM2 ⟨Her,hc⟩] at hR1;rw[hc,zM2 rfl] at HSk;have e5:=Fwd.step HA2.o.inv;have hta:y.st.t.a+1<=y.st.step.t.a:=(by have h1:=HA2.o.inv.tok (by rw[Inv.is_k hc];decide);have h2:=zV y.st.src y.st.t.t HA2.o.inv.ok.tt;rw[St.step_ok Her];simp only;omega);have HN:Hid (zbO g ⟨y.st.step.name,y.ns++[y.st.step.t.s],y.ps++[y.st.step.t.a]⟩=R/\1201-y.st.step.t.a<g):=(by have h1:s.t.a<=y.st.t.a:=(by rw[<- Hys];exact (Fwd.name HA.o.inv).ta);have h2:=Hrem;have h3:=HA.o.inv.ok.ta_le;have h4:=e5.inv.ok.ta_le;exact⟨hR1,by omega⟩);have HI5:=za e5.inv;go_wp2_with (go_at_call 131;refine HSk.o.mono ?_;rintro e w3 ⟨rfl,HL3,HF3⟩);go_roundg g;case measure=>omega
        exact⟨true,y.st.step,y.ns,y.ps,lv4,kk+1,xs4,rfl,HA2.o.goes (by omega) (by omega) (by omega) HI5.o (λ_=>Her) HL3 HF3,by omega,λ_=>HN.o,λh=>by cases h⟩
      | false =>
        rw[zM1 (by rw[hc];simp)] at hR1;have HR2:=za hR1;rw[hc,zM1 (by simp)] at HSk;go_wp2_with (go_at_call 131;refine HSk.o.mono ?_;rintro e w3 ⟨rfl,HL3,HF3⟩);go_roundg g;case measure=>omega
        exact⟨false,y.st,y.ns,y.ps,lv4,kk+1,xs4,rfl,HA2.o.goes (by omega) (by omega) (by omega) HA2.o.inv (λh=>h) HL3 HF3,by omega,λh=>(by cases h),λ_=>HR2.o⟩
end
section
open Go.RowKit
def zgH (r17 r18:Fn)(st:St):Eqn:=⟨(zaH st).ns,(zaH st).ps,(zaH st).st.t.a,(zck r17 r18 (st.is 4 [40]) ((zaH st).st.must 4 [61])).2⟩
theorem ziE (r17 r18:Fn)(st:St)(eqs:List Eqn):(zF r17 r18 st eqs).2=eqs++[zgH r17 r18 st]:=rfl
theorem zj4 (r17 r18:Fn)(st:St)(eqs:List Eqn):(zF r17 r18 st eqs).1=(zF r17 r18 st []).1:=rfl
theorem zje {r17 r18:Fn}(hX:zX 18 159 r18)(hK:zdI 18 r17)(g17:zv 17 r17)(g18:zv 18 r18)(S:Xs)(pb p:Nat)(st:St)(w:Xw)(hI:Inv p st)(ho:st.op=0)(hR:PL S w pb st) :
 xK 133 #[xP pb] w (zlQ S pb w (zF r17 r18 st []).1 (zgH r17 r18 st)):=by
 cases hc:st.is 4 [40] with
 | true => obtain⟨f,hf⟩:∃f,f=1300:=⟨_,rfl⟩;obtain⟨R,hRR⟩:∃R,zbO f (zeh st)=R:=⟨_,rfl⟩;have hm:=zko hf hRR;have hl:zaH st=⟨R.st.must 4 [41],R.ns,R.ps⟩:=(by unfold zaH;rw[zM2 hc,hm]);have h:=zgv hK g17 g18 S pb p f R st w hI ho hc hf hRR hR;have e1:=zjK (r17:=r17) (r18:=r18) (eqs:=[]) hc hm;have e2:zgH r17 r18 st=⟨R.ns,R.ps,(R.st.must 4 [41]).t.a,(zao r17 ((R.st.must 4 [41]).must 4 [61]).t ((R.st.must 4 [41]).must 4 [61]).name).2⟩:=(by unfold zgH zck;rw[hl,zM2 hc]);rw[e1,e2];exact h
 | false => have h:=zgK hX g18 S pb p st w hI hc hR;have hl:zaH st=⟨st.name,[st.t.s],[st.t.a]⟩:=(by unfold zaH;rw[zM1 (by rw[hc];simp)]);have e1:(zF r17 r18 st []).1=(r18 (st.name.must 4 [61])).1.must 4 [59]:=(by unfold zF zck;simp only[hl];rw[zM1 (by rw[hc];simp)]);have e2:zgH r17 r18 st=⟨[st.t.s],[st.t.a],st.name.t.a,(r18 (st.name.must 4 [61])).2⟩:=(by unfold zgH zck;rw[hl,zM1 (by rw[hc];simp)]);rw[e1,e2];exact h
end
section
variable {r17 r18:Fn} {f p:Nat} {st:St} {x:St×List Eqn}
def zb5 (r17 r18:Fn):Nat->St×List Eqn->St×List Eqn
 | 0,x=>x
 | f+1,x=>if x.1.t.k=2∨x.1.is 4 [40]=true then zb5 r17 r18 f (zF r17 r18 x.1 x.2) else x
def zdr (r17 r18:Fn)(f:Nat)(st:St):St×List Eqn :=
 let x:=zb5 r17 r18 f (zF r17 r18 (st.must 4 [123]) [])
 (x.1.must 4 [125],x.2)
def zax (r17 r18:Fn)(f:Nat)(st:St):St×Nd :=
 let h:=zaI st.fresh
 let v:=zaS f h.1 h.2
 let b:=zdr r17 r18 f v.1
 (b.1,⟨(st.fresh.must 5 zW).t.s,(st.fresh.must 5 zW).t.a,v.2,b.1.L,b.2⟩)
def zdZ (r17 r18:Fn)(g:Nat):Nat->St×List Nd->St×List Nd
 | 0,x=>x
 | f+1,x=>if x.1.is 5 zW=true/\x.2.length<6 then zdZ r17 r18 g f ((zax r17 r18 g x.1).1,x.2++[(zax r17 r18 g x.1).2]) else x
def zbB (st:St):St:=if st.t.k=0 then st else st.fail 2 st.t.a
def zgo (r17 r18:Fn)(g:Nat)(s:Xb):St×List Nd :=
 let x0:St:=⟨s,zZ s 0,0,0,0,[]⟩
 let x:=zdZ r17 r18 g g ((zax r17 r18 g x0).1,[(zax r17 r18 g x0).2])
 (zbB x.1,x.2)
def zbu (a b:St):Prop:=a.er≠0->b.er=a.er/\b.at'=a.at'
theorem zbu.refl (a:St):zbu a a:=λ_=>⟨rfl,rfl⟩
theorem zbu.trans {a b c:St}(h:zbu a b)(k:zbu b c):zbu a c:=λe=>by obtain⟨h1,h2⟩:=h e;obtain⟨k1,k2⟩:=k (by rw[h1];exact e);exact⟨k1.trans h1,k2.trans h2⟩
theorem zbu.fail (st:St)(e a:Nat):zbu st (st.fail e a):=λh=>by unfold St.fail;rw[zM1 h];exact⟨rfl,rfl⟩
theorem zbu.step (st:St):zbu st st.step:=λh=>by rw[St.step_bad h];exact⟨rfl,rfl⟩
theorem zbu.must (st:St)(k:Nat)(l:Xu):zbu st (st.must k l):=by
 unfold St.must;split
 . exact zbu.step st
 exact zbu.fail st _ _
theorem zbu.name (st:St):zbu st st.name:=by
 unfold St.name;split
 . exact zbu.step st
 exact zbu.fail st _ _
theorem zkv (h:st.er=0){e a:Nat}:(st.fail e a).er=e/\(st.fail e a).at'=a:=by unfold St.fail;rw[zM2 h];exact⟨rfl,rfl⟩
theorem zbu.right (g18:zv 18 r18){many:Bool}(hI:Inv p st)(ho:st.op=0):zbu st (zck r17 r18 many st).1:=by
 intro he;unfold zck;split
 . have h1:=Fwd.name hI;have hn:st.name.er≠0:=h1.er he;have hb:st.name.is 4 [40]=false:=by have:=h1.inv.bad hn;simp[St.is,this]
   have e:zao r17 st.t st.name=(st.name.fail 2 st.name.t.a,0):=(by unfold zao;rw[zM1 (by rw[hb];simp)]);rw[e];exact ((zbu.name st).trans (zbu.fail _ _ _)) he
 have h2:=(g18 st p hI (by omega)).er he;rw[h2];exact⟨rfl,rfl⟩
theorem zx6:∀(f:Nat) (x:Nms),zbu x.st (zbO f x).st:=by
 intro f;induction f with
 | zero=>intro x;exact zbu.refl _
 | succ f _ => intro x he;rw[show zbO (f+1) x=if x.st.er=0/\x.st.is 4 [44]=true then zbO f x.more else x from rfl,zM1 (λh=>he h.1)];exact⟨rfl,rfl⟩
theorem zbu.left (st:St):zbu st (zaH st).st:=by
 unfold zaH;split
 . have h:=zx6 1300 (zeh st);have h0:zbu st (zeh st).st:=(((zbu.step st).trans (zbu.name _)).trans (zbu.must _ 4 [44])).trans (zbu.name _);rw[zko rfl rfl];exact h0.trans (h.trans (zbu.must _ 4 [41]))
 exact zbu.name st
theorem zbu.equation (g18:zv 18 r18)(hI:Inv p st)(ho:st.op=0)(eqs:List Eqn):zbu st (zF r17 r18 st eqs).1:=by
 have h1:=zfO hI;have h2:=Fwd.must h1.1.inv 4 [61];have o2:((zaH st).st.must 4 [61]).op=0:=by rw[St.must_op,h1.2.1,ho]
 exact (((zbu.left st).trans (zbu.must _ 4 [61])).trans (zbu.right g18 h2.inv o2)).trans (zbu.must _ 4 [59])
structure zeL (a b:St):Prop where
 er:a.er=b.er
 at':a.at'=b.at'
 eq:a.er=0->a=b
theorem zeL.refl (a:St):zeL a a:=⟨rfl,rfl,λ_=>rfl⟩
theorem zlf (he:st.er≠0)(k:Nat)(l:Xu):(st.must k l).er=st.er/\(st.must k l).at'=st.at':=zbu.must st k l he
theorem zjT (g18:zv 18 r18)(hI:Inv p st)(ho:st.op=0)(he:st.er=0)(hk:¬st.t.k=2)(hp:st.is 4 [40]=false)(eqs:List Eqn):(zF r17 r18 st eqs).1.er=2/\(zF r17 r18 st eqs).1.at'=st.t.a:=by
 have hl:(zaH st).st=st.fail 2 st.t.a:=by unfold zaH;rw[zM1 (by rw[hp];simp)];unfold St.name;rw[zM1 hk]
 have h1:=zfO hI;have h2:=Fwd.must h1.1.inv 4 [61];have o2:((zaH st).st.must 4 [61]).op=0:=by rw[St.must_op,h1.2.1,ho]
 have hs:=((zbu.must (zaH st).st 4 [61]).trans (zbu.right (r17:=r17) (many:=st.is 4 [40]) g18 h2.inv o2)).trans (zbu.must _ 4 [59]);have hf:=zkv he (e:=2) (a:=st.t.a);rw[<- hl] at hf;have:=hs (by rw[hf.1];decide);exact⟨this.1.trans hf.1,this.2.trans hf.2⟩
theorem zim (he:x.1.er≠0):zd6 r17 r18 f x=x:=by
 cases f with
 | zero=>rfl
 | succ f=>show (if _ then _ else x)=x;rw[zM1 (λh=>he h.1)]
theorem zl3 (hI:Inv p x.1)(he:x.1.er≠0):zb5 r17 r18 f x=x:=by
 cases f with
 | zero=>rfl
 | succ f =>
   show (if _ then _ else x)=x;have hb:=hI.bad he;rw[zM1];rintro (h|h)
   . rw[hb] at h;simp at h
   simp[St.is,hb] at h
theorem zmm (g17:zv 17 r17)(g18:zv 18 r18):∀(f p:Nat) (x:St×List Eqn),Inv p x.1->x.1.op=0 ->
 zeL ((zb5 r17 r18 f x).1.must 4 [125]) ((zd6 r17 r18 f x).1.must 4 [125])/\(((zb5 r17 r18 f x).1.must 4 [125]).er=0->(zb5 r17 r18 f x).2=(zd6 r17 r18 f x).2):=by
 intro f;induction f with
 | zero=>intro p x _ _;exact⟨zeL.refl _,λ_=>rfl⟩
 | succ f ih =>
   intro p x hI ho;by_cases he:x.1.er=0
   . have hc:zb5 r17 r18 (f+1) x=if x.1.t.k=2∨x.1.is 4 [40]=true then zb5 r17 r18 f (zF r17 r18 x.1 x.2) else x:=rfl;have hd:zd6 r17 r18 (f+1) x=if x.1.er=0/\x.1.is 4 [125]=false then zd6 r17 r18 f (zF r17 r18 x.1 x.2) else x:=rfl;have g:=za1 g17 g18 (eqs:=x.2) hI ho;by_cases h1:x.1.t.k=2∨x.1.is 4 [40]=true
     . have h2:x.1.is 4 [125]=false:=by
        rcases h1 with h1|h1
        . simp[St.is,h1]
        cases h3:x.1.is 4 [125] with
        | false=>rfl
        | true => simp only[St.is,Bool.and_eq_true,beq_iff_eq] at h1 h3;have:=h1.2.symm.trans h3.2;simp at this
       rw[hc,hd,zM2 h1,zM2 ⟨he,h2⟩];exact ih p _ g.1.inv (g.2.trans ho)
     rw[hc,hd,zM1 h1];cases h2:x.1.is 4 [125] with
     | true=>rw[zM1 (λh=>by cases h.2)];exact⟨zeL.refl _,λ_=>rfl⟩
     | false =>
       rw[zM2 ⟨he,rfl⟩];have hk:¬x.1.t.k=2:=λh=>h1 (.inl h)
       have hp:x.1.is 4 [40]=false:=by cases h:x.1.is 4 [40] with
        | false=>rfl
        | true=>exact absurd (.inr h) h1
       have hn:=zjT (r17:=r17) g18 hI ho he hk hp x.2;have hne:(zF r17 r18 x.1 x.2).1.er≠0:=(by rw[hn.1];decide);rw[zim hne];have hm:=zlf hne 4 [125];have hl:x.1.must 4 [125]=x.1.fail 2 x.1.t.a:=(by unfold St.must;rw[zM1 (by rw[h2];simp)]);have hf:=zkv he (e:=2) (a:=x.1.t.a);rw[hl];refine⟨⟨by rw[hf.1,hm.1,hn.1],by rw[hf.2,hm.2,hn.2],λh=>?_⟩,λh=>?_⟩
       . rw[hf.1] at h;cases h
       rw[hf.1] at h;cases h
   rw[zim he,zl3 hI he];exact⟨zeL.refl _,λ_=>rfl⟩
end
section
variable {r17 r18:Fn} {f p:Nat} {st:St} {x:St×List Vr}
theorem zEj (st:St):zbu st (z9 st):=by
 unfold z9;split
 . exact zbu.step st
 exact zbu.must st _ _
theorem zFA (st:St):zbu st (za3 st):=by
 unfold za3;split
 . exact zbu.step st
 exact zbu.refl st
theorem zAi (i o:Bool)(st:St)(vars:List Vr):zbu st (zx i o st vars).1:=by
 unfold zx;split
 . exact zbu.fail st _ _
 have h:=((zbu.name st).trans (zbu.must _ 4 [58])).trans (zEj _);simp only;split
 . exact ((h.trans (zbu.step _)).trans (zFA _)).trans (zbu.name _)
 exact h
theorem zCP {i:Bool}(he:x.1.er≠0):zaG i f x=x:=by
 cases f with
 | zero=>rfl
 | succ f=>show (if _ then _ else x)=x;rw[zM1 (λh=>he h.1)]
theorem zzJ (i:Bool)(f:Nat)(x:St×List Vr):zbu x.1 (zaG i f x).1:=λhe=>by rw[zCP he];exact⟨rfl,rfl⟩
theorem zip (hf:f=1300)(i:Bool)(st:St)(vars:List Vr):zab i st vars=((zaG i f (zx i (!i) (st.must 4 [40]) vars)).1.must 4 [41],(zaG i f (zx i (!i) (st.must 4 [40]) vars)).2):=by subst hf;rfl
theorem zzV (i:Bool)(st:St)(vars:List Vr):zbu st (zab i st vars).1:=by obtain⟨f,hf⟩:∃f,f=1300:=⟨_,rfl⟩;rw[zip hf];exact (((zbu.must st 4 [40]).trans (zAi _ _ _ _)).trans (zzJ i f _)).trans (zbu.must _ 4 [41])
theorem zzY (he:x.1.er≠0):zbA f x=x:=by
 cases f with
 | zero=>rfl
 | succ f=>show (if _ then _ else x)=x;rw[zM1 (λh=>he h.1)]
theorem zBR (f:Nat)(st:St)(vars:List Vr):zbu st (zaS f st vars).1:=by
 unfold zaS;split
 . have h:zbu st (zaR st.step vars).1:=((zbu.step st).trans (zAi false false _ vars)).trans (zbu.must _ 4 [59]);exact h.trans (λhe=>by rw[zzY he];exact⟨rfl,rfl⟩)
 exact zbu.refl st
theorem zfZ (g17:zv 17 r17)(g18:zv 18 r18):∀(f p:Nat) (x:St×List Eqn),Inv p x.1->x.1.op=0->Fwd p x.1 (zb5 r17 r18 f x).1/\(zb5 r17 r18 f x).1.op=0:=by
 intro f;induction f with
 | zero=>intro p x hI ho;exact⟨Fwd.refl hI,ho⟩
 | succ f ih =>
   intro p x hI ho
   show Fwd p x.1 (if _ then _ else x).1/\(if _ then _ else x).1.op=0;by_cases hc:x.1.t.k=2∨x.1.is 4 [40]=true
   . rw[zM2 hc];have h2:=za1 g17 g18 (eqs:=x.2) hI ho;have h3:=ih p _ h2.1.inv (h2.2.trans ho);exact⟨h2.1.trans h3.1,h3.2⟩
   rw[zM1 hc];exact⟨Fwd.refl hI,ho⟩
theorem zkQ (g17:zv 17 r17)(g18:zv 18 r18)(hI:Inv p st)(ho:st.op=0) :
 zeL (zdr r17 r18 f st).1 (zeO r17 r18 f st).1/\((zdr r17 r18 f st).1.er=0->zdr r17 r18 f st=zeO r17 r18 f st)/\Fwd p st (zdr r17 r18 f st).1/\(zdr r17 r18 f st).1.op=0:=by
 have h1:=Fwd.must hI 4 [123];have h2:=za1 g17 g18 (eqs:=[]) h1.inv (by rw[St.must_op,ho]);have o2:(zF r17 r18 (st.must 4 [123]) []).1.op=0:=by rw[h2.2,St.must_op,ho]
 have h3:=zmm g17 g18 f p _ h2.1.inv o2;have h4:=zfZ g17 g18 f p _ h2.1.inv o2;have h5:=Fwd.must h4.1.inv 4 [125];refine⟨h3.1,λhe=>?_,((h1.trans h2.1).trans h4.1).trans h5,?_⟩
 . exact Prod.ext (h3.1.eq he) (h3.2 he)
 show ((zb5 r17 r18 f (zF r17 r18 (st.must 4 [123]) [])).1.must 4 [125]).op=0;rw[St.must_op,h4.2]
theorem zhx (g17:zv 17 r17)(g18:zv 18 r18){nodes:List Nd}(hI:Inv p st)(ho:st.op=0)(hl:¬6<=nodes.length) :
 zeL (zax r17 r18 f st).1 (zei r17 r18 f st nodes).1/\((zax r17 r18 f st).1.er=0->zei r17 r18 f st nodes=((zax r17 r18 f st).1,nodes++[(zax r17 r18 f st).2]))/\Inv 0 (zax r17 r18 f st).1/\(zax r17 r18 f st).1.op=0/\(st.er=0->(zax r17 r18 f st).1.er=0->st.t.a+1<=(zax r17 r18 f st).1.t.a):=by
 have h0:=Fwd.fresh hI;have hop:st.fresh.op=0:=ho;have h1:=zit h0;have h2:=zeP (f:=f) (vars:=(zaI st.fresh).2) h1.1.inv;have h3:=zkQ g17 g18 (f:=f) h2.1.inv (by rw[h2.2.1,h1.2.1];exact hop);have hn:zei r17 r18 f st nodes=((zeO r17 r18 f (zaS f (zaI st.fresh).1 (zaI st.fresh).2).1).1,nodes++[⟨(st.fresh.must 5 zW).t.s,(st.fresh.must 5 zW).t.a,(zaS f (zaI st.fresh).1 (zaI st.fresh).2).2,(zeO r17 r18 f (zaS f (zaI st.fresh).1 (zaI st.fresh).2).1).1.L,(zeO r17 r18 f (zaS f (zaI st.fresh).1 (zaI st.fresh).2).1).2⟩]):=by unfold zei;rw[zM1 hl]
 have hc:zax r17 r18 f st=((zdr r17 r18 f (zaS f (zaI st.fresh).1 (zaI st.fresh).2).1).1,⟨(st.fresh.must 5 zW).t.s,(st.fresh.must 5 zW).t.a,(zaS f (zaI st.fresh).1 (zaI st.fresh).2).2,(zdr r17 r18 f (zaS f (zaI st.fresh).1 (zaI st.fresh).2).1).1.L,(zdr r17 r18 f (zaS f (zaI st.fresh).1 (zaI st.fresh).2).1).2⟩):=rfl;generalize hv:zaS f (zaI st.fresh).1 (zaI st.fresh).2=v at *;rw[hn,hc];refine⟨h3.1,λhe=>?_,h3.2.2.1.inv,h3.2.2.2,λhe he'=>?_⟩
 . rw[h3.2.1 he]
 have e1:=Fwd.must h0 5 zW;have e2:=Fwd.name e1.inv;have e3:=zbx (i:=true) (vars:=[]) e2.inv;have e4:=Fwd.must e3.1.inv 4 [45,62];have e5:=zbx (i:=false) (vars:=(zab true (st.fresh.must 5 zW).name []).2) e4.inv;have hw:Fwd 0 (st.fresh.must 5 zW) (zdr r17 r18 f v.1).1:=((((e2.trans e3.1).trans e4).trans e5.1).trans h2.1).trans h3.2.2.1;have hb:=hw.back he';have hta:=hw.ta;have hk:st.fresh.is 5 zW=true:=by
  cases h:st.fresh.is 5 zW with
  | true=>rfl
  | false =>
    have:st.fresh.must 5 zW=st.fresh.fail 2 st.fresh.t.a:=by unfold St.must;rw[zM1 (by rw[h];simp)]
    rw[this] at hb;exact absurd hb (St.fail_er _ (by decide))
 have hst:st.fresh.must 5 zW=st.fresh.step:=by unfold St.must;rw[zM2 hk]
 have he0:st.fresh.er=0:=he;have h6:=h0.tok (by rw[Inv.is_k hk];decide);have h7:=zV st.fresh.src st.fresh.t.t h0.ok.tt;have h8:st.fresh.t.a+1<=st.fresh.step.t.a:=by rw[St.step_ok he0];simp only;omega
 rw[hst] at hta;exact zMO h8 hta
theorem zze {g:Nat}{x:St×List Nd}(hI:Inv p x.1)(he:x.1.er≠0):zdZ r17 r18 g f x=x:=by
 cases f with
 | zero=>rfl
 | succ f => show (if _ then _ else x)=x;have hb:=hI.bad he;rw[zM1];rintro⟨h,_⟩;simp[St.is,hb] at h
theorem zzQ (st:St):zbu st (zbB st):=by
 unfold zbB;split
 . exact zbu.refl st
 exact zbu.fail st _ _
end
section
open Go.RowKit
variable {q:Eqn} {eqs:List Eqn} {L:List Ex} {vx xs:Xm} {B m nb nv p pb:Nat} {S:Xs} {T:Xj} {a:Xp} {s s':St} {av av' c0 c1 c2 c3 c4 ev lv:Xv} {w w' wr:Xw} {P:World->Nat->Prop}
def Was (B:Nat)(wr:Xw)(av:Xv)(P:World->Nat->Prop):Prop :=
 ∃(wi:Xw) (Bi:Nat),B<=Bi/\P wi Bi/\(∀k,Bi<=k->k<wi.heap.size->wr.heap[k]?=wi.heap[k]?)/\(∀g,av.ownBlock=some g->g<Bi∨wi.heap.size<=g)/\wi.heap.size<=wr.heap.size
theorem Was.imp {Q:World->Nat->Prop}(h:Was B wr av P)(hi:∀w b,P w b->Q w b):Was B wr av Q:=by obtain⟨wi,Bi,h1,h2,h3,h4,h5⟩:=h;exact⟨wi,Bi,h1,hi _ _ h2,h3,h4,h5⟩
theorem Was.next (h:Was B wr av P)(hf:Fr T wr w')(hT:∀k,T k->k<B∨av.ownBlock=some k)(ha:∀k,av'.ownBlock=some k->av.ownBlock=some k∨wr.heap.size<=k):Was B w' av' P:=by
 obtain⟨wi,Bi,h1,h2,h3,h4,h5⟩:=h;refine⟨wi,Bi,h1,h2,λk hk1 hk2=>?_,λg hg=>?_,zMO h5 hf.size⟩
 . refine (hf.block k (zM9 hk2 h5) (λht=>?_)).trans (h3 k hk1 hk2);rcases hT k ht with h|h
   . omega
   rcases h4 k h with h|h <;> omega
 rcases ha g hg with h|h
 . exact h4 g h
 exact zM4 (zMO h5 h)
structure EQ (L:List Ex) (q:Eqn) (lv:Xv) (a:Xp) (w:Xw) (B:Nat):Prop where
 own:w.ownsRow B 84 2 lv q.ns.length (nmC q.ns q.ps)
 tr:TR w B L q.ex (.pointer a)
theorem EQ.kept (h:EQ L q lv a w B)(hk:∀k,B<=k->k<w.heap.size->w'.heap[k]?=w.heap[k]?):EQ L q lv a w' B :=
 ⟨zi h.own (λk h1 h2 _=>hk k h1 h2),h.tr.kept hk⟩
theorem EQ.down {B':Nat}(h:EQ L q lv a w B)(hb:B'<=B):EQ L q lv a w B':=⟨zR h.own hb,h.tr.down hb⟩
theorem EQ.more (h:EQ L q lv a w B)(E:List Ex):EQ (L++E) q lv a w B:=⟨h.own,h.tr.more E⟩
theorem zq4 (h:Was B wr av (EQ L q lv a)):EQ L q lv a wr B:=by obtain⟨wi,Bi,h1,h2,h3,_,_⟩:=h;exact (h2.kept h3).down h1
def zcJ (B:Nat)(wr:Xw)(av:Xv)(L:List Ex):List Eqn->List Value->Prop
 | [],xs=>xs=[]
 | q::qs,xs=>∃lv a ys,xs=lv::(xI q.a)::.pointer a::ys/\Was B wr av (EQ L q lv a)/\zcJ B wr av L qs ys
theorem zcJ.next (E:List Ex)(hf:Fr T wr w')(hT:∀k,T k->k<B∨av.ownBlock=some k)(ha:∀k,av'.ownBlock=some k->av.ownBlock=some k∨wr.heap.size<=k) :
 ∀(qs:List Eqn) (xs:Xm),zcJ B wr av L qs xs->zcJ B w' av' (L++E) qs xs:=by
 intro qs;induction qs with
 | nil=>intro xs h;exact h
 | cons q qs ih => rintro xs ⟨lv,a,ys,h1,h2,h3⟩;exact⟨lv,a,ys,h1,(h2.next hf hT ha).imp (λ_ _ h=>h.more E),ih ys h3⟩
theorem zcJ.snoc (h2:Was B wr av (EQ L q lv a)):∀(qs:List Eqn) (xs:Xm),zcJ B wr av L qs xs->zcJ B wr av L (qs++[q]) (xs++[lv,xI q.a,.pointer a]):=by
 intro qs;induction qs with
 | nil=>rintro xs rfl;exact⟨lv,a,[],rfl,h2,rfl⟩
 | cons q' qs ih => rintro xs ⟨lv',a',ys,rfl,h4,h3⟩;exact⟨lv',a',_,rfl,h4,ih ys h3⟩
structure EI (S:Xs) (pb nb B p:Nat) (w wr:Xw) (c0 c1 c2 c3 c4:Xv) (nv:Nat) (vx:Xm) (s:St) (eqs:List Eqn) (ev:Xv) (m:Nat) (xs:Xm):Prop where
 inv:Inv p s
 op:s.op=0
 pl:PL S wr pb s
 blk:xH wr nb #[c0,c1,c2,c3,c4,ev] 88
 vown:wr.ownsRow B 101 7 c2 nv vx
 vne:∀k,c2.ownBlock=some k->¬ev.ownBlock=some k
 own:wr.ownsRow B 158 3 ev m xs
 ok:s.er=0->m=eqs.length/\zcJ B wr ev s.L eqs xs
 fr:Fr (·=pb) w wr
theorem EI.goes (h:EI S pb nb B p w wr c0 c1 c2 c3 c4 nv vx s eqs ev m xs)(hnp:pb<nb)(hBn:nb<B)(hI:Inv p s')(ho:s'.op=0)(hl:s'.L=s.L)(he:s'.er=0->s.er=0)(hL:PL S w' pb s')(hF:Fr (·=pb) wr w'):EI S pb nb B p w w' c0 c1 c2 c3 c4 nv vx s' eqs ev m xs:=by refine⟨hI,ho,hL,(hF.block nb (ze h.blk) (by omega)).trans h.blk,zi h.vown (λk h1 h2 _=>hF.block k h2 (by omega)),h.vne,zi h.own (λk h1 h2 _=>hF.block k h2 (by omega)),λh'=>?_,h.fr.trans hF⟩;obtain⟨k1,k2⟩:=h.ok (he h');refine⟨k1,?_⟩;have:=zcJ.next (av':=ev) [] hF (λk hk=>zM3 (by omega)) (λk hk=>zM3 hk) _ _ k2;rw[hl];simpa using this
theorem zph {w1 w9:Xw}{v':Xv}{k1 pl:Nat}{ys:Xm}{X:Obj}
 (h:EI S pb nb B p w wr c0 c1 c2 c3 c4 nv vx s eqs ev m xs) (hnp:pb<nb) (hBn:nb<B) (hwn:w.heap.size<=nb) (hBw:B<=wr.heap.size) (g:Fwd p s s') (ho:s'.op=0)
 (hF1:Fr (·=pb) wr w1) (hown1:w1.ownsRow wr.heap.size 84 2 lv k1 ys) (hok:s'.er=0->k1=q.ns.length/\ys=nmC q.ns q.ps/\pl=q.a/\TR w1 wr.heap.size s'.L q.ex (.pointer a))
 (hL9:PL S w9 pb s') (hF9:Fr (λk=>ev.ownBlock=some k) (w1.alloc X) w9) (hn9:w9.heap[nb]?=some (.cells #[c0,c1,c2,c3,c4,ev] 88 (0,0)))
 (hown:w9.ownsRow B 158 3 v' (m+1) (xs++[lv,xI pl,.pointer a])) (hnew:∀k,v'.ownBlock=some k->ev.ownBlock=some k∨(w1.alloc X).heap.size<=k) :
 EI S pb nb B p w (w9.setCell (xD nb 5) v') c0 c1 c2 c3 c4 nv vx s' (eqs++[q]) v' (m+1) (xs++[lv,xI pl,.pointer a]):=by
 have hev:∀k,ev.ownBlock=some k->B<=k/\k<wr.heap.size:=λk hk=>h.own.lt k hk;have hvv:∀k,c2.ownBlock=some k->B<=k/\k<wr.heap.size:=λk hk=>h.vown.lt k hk;have hz1:=hF1.size;have hz9:=hF9.size;have hzx:(w1.alloc X).heap.size=w1.heap.size+1:=by simp
 have hFa:Fr (λk=>k=pb∨k=nb∨ev.ownBlock=some k) wr (w9.setCell (xD nb 5) v'):=by have h1:Fr (λk=>k=pb∨k=nb∨ev.ownBlock=some k) wr (w1.alloc X):=(hF1.mono (λ_ _ h=>zM3 h)).alloc X;exact (h1.trans' hF9 (λ_ _ h=>zM4 (zM4 h))).setCell (zM3 (zM4 (zM3 rfl))) _
 obtain⟨E,hE⟩:=g.L;refine⟨g.inv,ho,hL9.setOther hnp _ _,zh _ _ _ _ hn9,?_,?_,zi hown (λk h1 _ _=>zr (by omega) rfl),?_,?_⟩
 . exact zi h.vown (λk h1 h2 h3=>hFa.block k h2 (λhk=>by
    rcases hk with hk|hk|hk
    . omega
    . omega
    exact h.vne k h3 hk))
 . intro k hk hk';rcases hnew k hk' with h1|h1
   . exact h.vne k hk h1
   have:=(hvv k hk).2;omega
 . intro he;obtain⟨e1,e2⟩:=h.ok (g.er0' he);obtain⟨o1,o2,o3,o4⟩:=hok he;subst o1 o2 o3;refine⟨by simp[e1],?_⟩;have hE2:=zcJ.next (av':=v') E hFa (λk hk=>by
    rcases hk with hk|hk|hk
    . left;omega
    . left;omega
    . exact zM4 hk) (λk hk=>by
    rcases hnew k hk with h1|h1
    . exact zM3 h1
    right;omega) _ _ e2
   rw[<- hE] at hE2;refine zcJ.snoc ?_ _ _ hE2;refine⟨w1,wr.heap.size,hBw,⟨hown1,o4⟩,λk h1 h2=>?_,λg hg=>?_,?_⟩
   . exact zr (by omega) ((hF9.block k (by omega) (λh=>by have:=(hev k h).2;omega)).trans (zWP _ _ _ h2))
   . rcases hnew g hg with h|h
     . left;exact (hev g h).2
     right;omega
   simp[World.setCell];omega
 have h1:Fr (·=pb) w (w1.alloc X):=(h.fr.trans hF1).alloc X;exact (h1.trans' hF9 (λi hi hs=>by have:=(hev i hs).1;omega)).setNew hwn _ _
end
end Go.Proofs.YtenadialhccdiaaGreatDoor
