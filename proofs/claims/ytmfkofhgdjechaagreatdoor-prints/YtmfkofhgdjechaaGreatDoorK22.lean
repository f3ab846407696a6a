/- Part 23 of the proof: CofG CofH CofI. -/
import Derived.Test.YtmfkofhgdjechaaGreatDoorK21
set_option maxRecDepth 100000
set_option maxHeartbeats 8000000
namespace Go.Proofs.YtmfkofhgdjechaaGreatDoor
open Go.Proofs.Tryz
open Go.RowKit
section
variable {ns:List ByteArray} {ps:List Nat} {xs:List Value} {B b k p pb qb rb:Nat} {S:Nat->Addr} {s:St} {e:TypeId} {c1 c2 lv:Value} {w wr:World}
theorem zqX:(⟨#[61]⟩:ByteArray).toList=[61]:=by decide +kernel
theorem zhF:zH 135:=λ_ _=>by kernel_rfl
theorem Tryz.infoNm:(prog.info? 144).map (λi=>(i.zero,i.size,i.bytes))=some (some (.agg #[.string ⟨#[]⟩,xI 0]),2,24):=by kernel_rfl
theorem zor {s:ByteArray}{a:Int}:∀u∈[Value.string s,xI a],u.oneCell'=true:=by intro u hu;simp at hu;rcases hu with rfl|rfl <;> rfl
def nmC:List ByteArray->List Nat->List Value
 | s::ns,a::ps=>.string s::(xI a)::nmC ns ps
 | _,_=>[]
theorem zoa:∀(ns:List ByteArray) (ps:List Nat) (s:ByteArray) (a:Nat),ns.length=ps.length->nmC (ns++[s]) (ps++[a])=nmC ns ps++[.string s,xI a]:=by
 intro ns;induction ns with
 | nil=>intro ps s a h;cases ps with
   | nil=>rfl
   | cons _ _=>simp at h
 | cons x ns ih=>intro ps s a h;cases ps with
   | nil=>simp at h
   | cons y ps=>simp only[List.cons_append,nmC,ih ps s a (by simpa using h)]
structure QI (S:Nat->Addr) (pb rb qb B p:Nat) (w wr:World) (s:St) (ns:List ByteArray) (ps:List Nat) (lv:Value) (k:Nat) (xs:List Value) (c1 c2:Value):Prop where
 inv:Inv p s
 pl:PL S wr pb s
 q:xH wr qb #[lv,c1,c2] 161
 r:xH wr rb #[.slice none 0 0,xI 0,.pointer none] 161
 own:wr.ownsRow B 144 2 lv k xs
 len:ns.length=ps.length
 ok:s.er=0->k=ns.length/\xs=nmC ns ps
 fr:Fr (·=pb) w wr
theorem QI.goes {w':World}{s':St}(h:QI S pb rb qb B p w wr s ns ps lv k xs c1 c2)(h1:pb<rb)(h2:pb<qb)(h3:pb<B)(hI:Inv p s')(he:s'.er=0->s.er=0)(hL:PL S w' pb s')(hF:Fr (·=pb) wr w'):QI S pb rb qb B p w w' s' ns ps lv k xs c1 c2 :=
 ⟨hI,hL,(hF.block qb (ze h.q) (by omega)).trans h.q,(hF.block rb (ze h.r) (by omega)).trans h.r,zi h.own (λk h1 h2 _=>hF.block k h2 (by omega)),h.len,λh'=>h.ok (he h'),h.fr.trans hF⟩
theorem zhG {w1 w9:World}{v':Value}{X:Obj}{nx:ByteArray}{na:Nat}
 (h:QI S pb rb qb B p w wr s ns ps lv k xs c1 c2) (h1:pb<rb) (h2:pb<qb) (_h3:pb<B) (hrq:¬rb=qb) (hqB:qb<B) (hrB:rb<B) (hwq:w.heap.size<=qb) (_hwB:w.heap.size<=B) (hnk:Hid (s.t.k=2->nx=s.t.s/\na=s.t.a)) (hF1:Fr (·=pb) wr w1) (hL9:PL S w9 pb s.name) (hq9:xH w9 qb #[lv,c1,c2] 161)
 (hown:w9.ownsRow B 144 2 v' (k+1) (xs++[.string nx,xI na])) (hF9:Fr (λk=>lv.ownBlock=some k) (w1.alloc X) w9):QI S pb rb qb B p w (w9.setCell (xD qb 0) v') s.name (ns++[s.t.s]) (ps++[s.t.a]) v' (k+1) (xs++[.string nx,xI na]) c1 c2:=by
 have hz1:=hF1.size;have hr9:xH w9 rb #[.slice none 0 0,xI 0,.pointer none] 161:=by have hzr:=ze h.r;exact (hF9.block rb (by rw[zsb];omega) (λhk=>by have:=(h.own.lt rb hk).1;omega)).trans ((Below.heap_alloc _ _ _ (by omega)).trans ((hF1.block rb hzr (by omega)).trans h.r))
 refine⟨(Fwd.name h.inv).inv,hL9.setOther h2 _ _,zh _ _ _ _ hq9,zr hrq hr9,zi hown (λk hk _ _=>zr (by omega) rfl),by simp[h.len],?_,?_⟩
 . intro he;obtain⟨k1,k2⟩:=h.ok (zel he);obtain⟨n1,n2⟩:=hnk.out (zeH he);subst n1 n2;exact⟨by simp[k1],by rw[zoa _ _ _ _ h.len,k2]⟩
 . have g1:Fr (·=pb) w (w1.alloc X):=(h.fr.trans hF1).alloc X;exact (g1.trans' hF9 (λi hi hs=>by have:=(h.own.lt i hs).1;omega)).setNew hwq _ _
theorem zjt (h:QI S pb rb qb B p w wr s ns ps lv k xs c1 c2)(h2:pb<qb)(hrq:¬rb=qb)(hqB:qb<B)(hwq:w.heap.size<=qb)(_hwB:w.heap.size<=B)(a:Nat):QI S pb rb qb B p w (wr.setCell (xD qb 1) (xI a)) s ns ps lv k xs (xI a) c2 :=
 ⟨h.inv,h.pl.setOther h2 _ _,zh _ _ _ _ h.q,zr hrq h.r,zi h.own (λk hk _ _=>zr (by omega) rfl),h.len,h.ok,h.fr.setNew hwq _ _⟩
theorem zjs (h:QI S pb rb qb B p w wr s ns ps lv k xs c1 c2)(h2:pb<qb)(hrq:¬rb=qb)(hqB:qb<B)(hwq:w.heap.size<=qb)(a:Option Addr):QI S pb rb qb B p w (wr.setCell (xD qb 2) (.pointer a)) s ns ps lv k xs c1 (.pointer a) :=
 ⟨h.inv,h.pl.setOther h2 _ _,zh _ _ _ _ h.q,zr hrq h.r,zi h.own (λk hk _ _=>zr (by omega) rfl),h.len,h.ok,h.fr.setNew hwq _ _⟩
theorem zie {u0 u1 u2:Value}(h:xH w b #[u0,u1,u2] e)(v0 v1 v2:Value):(((w.setCell (xD b 0) v0).setCell (xD b 1) v1).setCell (xD b 2) v2).heap[b]?=some (.cells #[v0,v1,v2] e (0,0)) :=
 zh _ _ _ _ (zh _ _ _ _ (zh _ _ _ _ h))
def zlQ (S:Nat->Addr)(pb:Nat)(w:World)(st':St)(q:Eqn)(e:Ending)(w':World):Prop :=
 ∃(lv:Value) (k:Nat) (xs:List Value) (pl:Nat) (a:Option Addr),e=.returned (.agg #[lv,xI pl,.pointer a])/\(∃x cp,lv=.slice x k cp)/\PL S w' pb st'/\w'.ownsRow w.heap.size 144 2 lv k xs /\
  Hid (st'.er=0->k=q.ns.length/\xs=nmC q.ns q.ps/\pl=q.a/\TR w' w.heap.size st'.L q.ex (.pointer a))/\Fr (·=pb) w w'
theorem zgB {fn:Func}{p:Tmp}(h:fn.results=#[.cell p 161]){tmps:Array Value}(hp:tmps[p]?.getD undef=xP b){v0 v1 v2:Value}(hh:xH w b #[v0,v1,v2] 161):(results fn tmps).run prog w=.ok (.agg #[v0,v1,v2]) w:=by obtain⟨c0,c1,c2,_⟩:=zL hh;simp[results,h,hp,go_sem,c0,c1,c2]
theorem zg3 {n:Nat}{vs:Value}(h:w.ownsRow B e 2 vs n xs):∃x cp,vs=.slice x n cp:=by
 rcases h.2 with ⟨h1,h2⟩|⟨g,cap,cur,h1,_⟩
 . exact⟨none,0,by rw[h1,h2]⟩
 . exact⟨_,cap,h1⟩
theorem zgK {r18:Fn}(HX:zX 18 194 r18)(GX:zv 18 r18)(S:Nat->Addr)(pb p:Nat)(st:St)(w:World)(HI:Inv p st)(hc:st.is 4 [40]=false)(HR:PL S w pb st) :
 xK 139 #[xP pb] w (zlQ S pb w ((r18 (st.name.must 4 [61])).1.must 4 [59]) ⟨[st.t.s],[st.t.a],st.name.t.a,(r18 (st.name.must 4 [61])).2⟩):=by
 have hlt:=HR.lt;have HSk:=za (λw1 h=>zbg S pb st ⟨#[40]⟩ _ zfn w1 HI.toBad h);have hsk:st.skipM [40]=st:=by unfold St.skipM;rw[zaB HR.tx (by decide),hc];rfl
 rw[zaB HR.tx (by decide),hc,hsk] at HSk;obtain⟨nx,na,hnv,hnk⟩:=zbw st;have HNk:=za hnk;have HN:=za (λw1 h=>zaZ S pb st w1 HI.toBad h);rw[hnv] at HN;obtain⟨i0,hi,hi0,hi1,hi2⟩:=info_parts Tryz.infoNm;go_enter func139,ntmps139;go_wp2_with fail;refine (HSk.o _ ((HR.alloc _).alloc _)).mono ?_;rintro e w1 ⟨rfl,hL1,hF1⟩;have hQ1:QI S pb w.heap.size (w.heap.size+1) (w.heap.size+1+1) p w w1 st [] [] (.slice none 0 0) 0 [] (xI 0) (.pointer none):=by
  refine⟨HI,hL1,?_,?_,World.ownsRow_nil _ _ _ _,rfl,λ_=>⟨rfl,rfl⟩,(((Fr.refl _ w).alloc _).alloc _).trans hF1⟩
  . refine (hF1.block _ (by simp) (by omega)).trans ?_;have:=zc (w.alloc (.cells #[.slice none 0 0,xI 0,.pointer none] 161)) (.cells #[.slice none 0 0,xI 0,.pointer none] 161);simpa using this
  . exact (hF1.block _ (by simp;omega) (by omega)).trans ((Below.heap_alloc _ _ _ (by simp)).trans (zc w _))
 have HQ1:=za hQ1;obtain⟨q0,q1,q2,qf,qz⟩:=zL hQ1.q;go_upto_region 12 with fail;go_cut [] (λwy=>∃lv k xs,Hid (QI S pb w.heap.size (w.heap.size+1) (w.heap.size+1+1) p w wy st.name [st.t.s] [st.t.a] lv k xs (xI 0) (.pointer none))/\k<=1);case first =>
  have mx:0+1<=maxLen:=by unfold maxLen;omega
  have by':(0+1)*24<=140737488355328:=by omega
  have hltw1:=HQ1.o.pl.lt;go_region_law (first|(refine zbL rfl 135 (.tmp 38) 136 rfl zhF (xP pb) rfl (HN.o _ HQ1.o.pl.drew) ?_;rintro e w2 ⟨rfl,HL2,hF2'⟩;refine⟨_,rfl,?_⟩;have HF2:Fr (·=pb) w1 w2:=hF2'.undrew;have hzc:=HF2.size;have Hq2:=(HF2.block (w.heap.size+1) qz (by omega)).trans HQ1.o.q;obtain⟨f0,f1,f2,ff,fz⟩:=zL Hq2;have hzw:w.heap.size+1+1<=w2.heap.size+1:=(by omega))|(refine zJ _ rfl (.tmp 37) (.tmp 40) 158 rfl (w.heap.size+1+1) 144 i0 _ 2 24 underlying158 hi hi0 hi1 hi2 rfl (by decide) (.slice none 0 0) 0 [] rfl (World.ownsRow_nil _ _ _ _) (xD w2.heap.size 0) 1 1 [.string nx,xI na] rfl rfl (zN (zc w2 _) rfl) zor mx by' (by simpa using hzw) ?_;intro v' w9 Hown9 hgrow hnew;obtain⟨g9,cap9,rfl,hg9⟩:=zM Hown9 (by omega);have HF9:=Fr.of_grown hgrow;have hb9:w9.heap[w.heap.size+1]?=w2.heap[w.heap.size+1]?:=((HF9.block (w.heap.size+1) (by rw[zsb];omega) (λh=>by cases h)).trans (Below.heap_alloc _ _ _ fz));have Hq9:=za (hb9.trans Hq2);obtain⟨m0,m1,m2,mf,mz⟩:=zL Hq9.o;have HL9:=za (PL.fr (HL2.alloc _) HF9 (λk hk=>by cases hk))));all_goals go_wp2_with fail
  all_goals go_meet
  all_goals exact⟨_,_,_,zhG HQ1.o (by omega) (by omega) (by omega) (by omega) (by omega) (by omega) (by omega) (by omega) HNk HF2 HL9.o Hq9.o Hown9 HF9,by omega⟩
 case rest => obtain⟨lv,k,xs,HQ2,hk1⟩:=hcut;have hzq:=HQ2.o.fr.size;have hltc:=HQ2.o.pl.lt;obtain⟨q0,q1,q2,qf,qz⟩:=zL HQ2.o.q;have hBd:=HQ2.o.inv.toBad;have HEx:=za (zP S pb st.name ⟨#[61]⟩ _ zqX wc hBd HQ2.o.pl);rw[zan HQ2.o.pl.tx (by decide)] at HEx;go_wp2_with (go_at_call 134;refine HEx.o.mono ?_;rintro e w3 ⟨rfl,hL3,hF3⟩;have HQ3:=za (HQ2.o.goes (by omega) (by omega) (by omega) (Fwd.must HQ2.o.inv 4 [61]).inv (λhe=>zay he) hL3 hF3);obtain⟨m0,m1,m2,mf,mz⟩:=zL HQ3.o.q;have hz3:=hF3.size);obtain⟨s2,Hs2⟩:∃s2,st.name.must 4 [61]=s2:=⟨_,rfl⟩;rw[Hs2] at HQ3;have H4:=zjt HQ3.o (by omega) (by omega) (by omega) (by omega) (by omega) st.name.t.a;have g5:=GX s2 p H4.inv (by omega);have HX5:=za (HX S pb s2 p _ H4.inv (by omega) H4.pl);have hz4:=H4.fr.size;refine HX5.o.mono ?_;rintro e w5 ⟨a5,rfl,hL5,hT5,HF5⟩;have hz5:=HF5.size;have HQ5:=za (H4.goes (by omega) (by omega) (by omega) g5.inv (λhe=>g5.fwd.er0 he) hL5 HF5);obtain⟨q0,q1,q2,qf,qz⟩:=zL HQ5.o.q;have hBd5:=za g5.inv.toBad;obtain⟨y,Hy⟩:∃y,r18 s2=y:=⟨_,rfl⟩;rw[Hy] at HQ5 hBd5 hT5;have HT5:=za hT5.out;have Hg5:=g5.inv;rw[Hy] at Hg5;go_wp2_with fail;have H6:=zjs HQ5.o (by omega) (by omega) (by omega) (by omega) a5;have HEx6:=za (zP S pb y.1 ⟨#[59]⟩ _ zl1 _ hBd5.out H6.pl);rw[zan H6.pl.tx (by decide)] at HEx6;refine HEx6.o.mono ?_;rintro e w7 ⟨rfl,hL7,HF7⟩;have HQ7:=za (H6.goes (by omega) (by omega) (by omega) (Fwd.must H6.inv 4 [59]).inv (λhe=>zay he) hL7 HF7);obtain⟨x7,cp7,Hlv7⟩:=zg3 HQ7.o.own;have hq7:=HQ7.o.q;rw[Hlv7] at hq7;obtain⟨q0,q1,q2,qf,qz⟩:=zL hq7;obtain⟨r0,r1,r2,rf,rz⟩:=zL HQ7.o.r;go_wp2_with fail;have hF57:Fr (·=pb) (w5.setCell (xD (w.heap.size+1) 2) (.pointer a5)) w7:=HF7;refine bodyPost_ret (v:=.agg #[lv,xI st.name.t.a,.pointer a5]) (by rw[Hlv7];exact zgB rfl rfl (zie HQ7.o.r _ _ _)) rfl ?_;rw[Hs2,Hy];refine⟨lv,k,xs,st.name.t.a,a5,rfl,⟨x7,cp7,Hlv7⟩,((HQ7.o.pl.setOther hlt _ _).setOther hlt _ _).setOther hlt _ _,zR (zi HQ7.o.own (λk h1 _ _=>zr (by omega) (zr (by omega) (zr (by omega) rfl)))) (by omega:w.heap.size<=w.heap.size+1+1),?_,((HQ7.o.fr.setNew (Nat.le_refl _) _ _).setNew (Nat.le_refl _) _ _).setNew (Nat.le_refl _) _ _⟩;intro he';obtain⟨e1,e2⟩:=HQ7.o.ok he';refine⟨e1,e2,rfl,?_⟩;rw[St.must_L];have t5:=HT5.o (zay he');have hq4:=ze H4.q;have Fa:Fr (·=w.heap.size+1) w5 (w5.setCell (xD (w.heap.size+1) 2) (.pointer a5)):=(Fr.refl _ w5).set1 _ _;have Fb:Fr (·=w.heap.size) w7 (((w7.setCell (xD w.heap.size 0) lv).setCell (xD w.heap.size 1) (xI st.name.t.a)).setCell (xD w.heap.size 2) (.pointer a5)):=((((Fr.refl _ w7).set1 _ _).set1 _ _).set1 _ _);have t7:=(t5.fr Fa (λk h1 _ h2=>by omega)).fr hF57 (λk h1 _ h2=>by omega);have t8:=t7.fr Fb (λk h1 _ h2=>by omega);rw[Hlv7] at t8;exact t8.down (by omega)
end
section
variable {r17:Fn} {st:St}
theorem zoj {nx:ByteArray}{na:Nat}(h:st.t.k=2->nx=st.t.s/\na=st.t.a):zao r17 ⟨2,na,0,nx,0⟩ st.name=zao r17 st.t st.name:=by
 by_cases hk:st.t.k=2
 . obtain⟨h1,h2⟩:=h hk;unfold zao;simp only[h1,h2]
 . have hn:st.name=st.fail 2 st.t.a:=by unfold St.name;rw[if_neg hk]
   rw[hn];unfold zao;rw[St.fail_is _ (by decide)];rfl
theorem zpL {p:Nat}(hI:Inv p st)(h:(zao r17 st.t st.name).1.er=0):st.name.er=0:=by
 by_cases he:st.name.er=0
 . exact he
 have h1:=Fwd.name hI;have hb:st.name.is 4 [40]=false:=by have:=h1.inv.bad he;simp[St.is,this]
 have e:zao r17 st.t st.name=(st.name.fail 2 st.name.t.a,0):=by unfold zao;rw[if_neg (by rw[hb];simp)]
 rw[e] at h;exact (Fwd.fail h1.inv (by omega) (by omega) h1.inv.ok.ta_le:Fwd p st.name (st.name.fail 2 st.name.t.a)).er0 h
theorem zgv {r18:Fn}(HK:zdI 18 r17)(g17:zv 17 r17)(g18:zv 18 r18)(S:Nat->Addr)(pb p f:Nat)(R:Nms)(st:St)(w:World)(HI:Inv p st)(ho:st.op=0)(hc:st.is 4 [40]=true)(hf:f=1300)(hRR:zbO f (zeh st)=R)(HR:PL S w pb st) :
 xK 139 #[xP pb] w (zlQ S pb w ((zao r17 ((R.st.must 4 [41]).must 4 [61]).t ((R.st.must 4 [41]).must 4 [61]).name).1.must 4 [59]) ⟨R.ns,R.ps,(R.st.must 4 [41]).t.a,(zao r17 ((R.st.must 4 [41]).must 4 [61]).t ((R.st.must 4 [41]).must 4 [61]).name).2⟩):=by
 have hlt:=HR.lt;have hMF:=zkV HI hc hf hRR;have HSk:=za (λw1 h=>zbg S pb st ⟨#[40]⟩ _ zfn w1 HI.toBad h);have hsk:st.skipM [40]=st.step:=by unfold St.skipM;rw[zaB HR.tx (by decide),hc];rfl
 rw[zaB HR.tx (by decide),hc,hsk] at HSk;have e1:=Fwd.step HI;have e2:=Fwd.name e1.inv;have e3:=Fwd.must e2.inv 4 [44];obtain⟨nx,na,hnv,hnk⟩:=zbw st.step;have HNk:=za hnk;have HN:=za (λw1 h=>zaZ S pb st.step w1 e1.inv.toBad h);rw[hnv] at HN;obtain⟨i0,hi,hi0,hi1,hi2⟩:=info_parts Tryz.infoNm;have f41:=Fwd.must hMF.r 4 [41];have f61:=Fwd.must f41.inv 4 [61];have f62:=Fwd.name f61.inv;have hta61:1<=((R.st.must 4 [41]).must 4 [61]).t.a:=Nat.le_trans hMF.ta (Nat.le_trans f41.ta f61.ta);have hop61:((R.st.must 4 [41]).must 4 [61]).op=0:=by rw[St.must_op,St.must_op,hMF.rop,ho]
 have hrg:=zfx g17 g18 (many:=true) f61.inv hop61 (λ_=>hta61);have hrr:zck r17 r18 true ((R.st.must 4 [41]).must 4 [61])=zao r17 ((R.st.must 4 [41]).must 4 [61]).t ((R.st.must 4 [41]).must 4 [61]).name:=rfl;rw[hrr] at hrg;have HI1:=za e1.inv;have HI3:=za e3.inv;have HI41:=za f41.inv;have HI61:=za f61.inv;have HI62:=za f62.inv;have Hta62:=za (Nat.le_trans hta61 f62.ta);have Hrg:=za hrg.1;have HRR:Hid (zbO 1300 ⟨(st.step.name.must 4 [44]).name,[st.step.t.s]++[(st.step.name.must 4 [44]).t.s],[st.step.t.a]++[(st.step.name.must 4 [44]).t.a]⟩=R):=by rw[<- hf];exact hRR
 generalize hs3:st.step.name.must 4 [44]=s3 at *;have Hs3:=za hs3;go_enter func139,ntmps139;go_wp2_with fail;refine (HSk.o _ ((HR.alloc _).alloc _)).mono ?_;rintro e w1 ⟨rfl,hL1,hF1⟩;have hQ1:QI S pb w.heap.size (w.heap.size+1) (w.heap.size+1+1) p w w1 st.step [] [] (.slice none 0 0) 0 [] (xI 0) (.pointer none):=by
  refine⟨HI1.o,hL1,?_,?_,World.ownsRow_nil _ _ _ _,rfl,λ_=>⟨rfl,rfl⟩,(((Fr.refl _ w).alloc _).alloc _).trans hF1⟩
  . refine (hF1.block _ (by simp) (by omega)).trans ?_;have:=zc (w.alloc (.cells #[.slice none 0 0,xI 0,.pointer none] 161)) (.cells #[.slice none 0 0,xI 0,.pointer none] 161);simpa using this
  . exact (hF1.block _ (by simp;omega) (by omega)).trans ((Below.heap_alloc _ _ _ (by simp)).trans (zc w _))
 have HQ1:=za hQ1;obtain⟨q0,q1,q2,qf,qz⟩:=zL hQ1.q;have hltw1:=hQ1.pl.lt;go_upto_region 3 with fail;go_cut [] (λwy=>∃lv xs,Hid (QI S pb w.heap.size (w.heap.size+1) (w.heap.size+1+1) p w wy st.step.name [st.step.t.s] [st.step.t.a] lv (0+1) xs (xI 0) (.pointer none)));case first =>
  have mx:0+1<=maxLen:=by unfold maxLen;omega
  have by':(0+1)*24<=140737488355328:=by omega
  go_region_law (first|(refine zbL rfl 135 (.tmp 9) 136 rfl zhF (xP pb) rfl (HN.o _ HQ1.o.pl.drew) ?_;rintro e w2 ⟨rfl,HL2,hF2'⟩;refine⟨_,rfl,?_⟩;have HF2:Fr (·=pb) w1 w2:=hF2'.undrew;have hzc:=HF2.size;have Hq2:=(HF2.block (w.heap.size+1) qz (by omega)).trans HQ1.o.q;obtain⟨f0,f1,f2,ff,fz⟩:=zL Hq2;have Hown2:=za (zi HQ1.o.own (λk h1 h2 _=>HF2.block k h2 (by omega)));have hzw:w.heap.size+1+1<=w2.heap.size+1:=(by omega))|(refine zJ _ rfl (.tmp 8) (.tmp 11) 158 rfl (w.heap.size+1+1) 144 i0 _ 2 24 underlying158 hi hi0 hi1 hi2 rfl (by decide) (.slice none 0 0) 0 [] rfl (zD Hown2.o _) (xD w2.heap.size 0) 1 1 [.string nx,xI na] rfl rfl (zN (zc w2 _) rfl) zor mx by' (by simpa using hzw) ?_;intro v' w9 Hown9 hgrow hnew;obtain⟨g9,cap9,rfl,hg9⟩:=zM Hown9 (by omega);have HF9:=Fr.of_grown hgrow;have hb9:w9.heap[w.heap.size+1]?=w2.heap[w.heap.size+1]?:=((HF9.block (w.heap.size+1) (by rw[zsb];omega) (λh=>by have:=(Hown2.o.lt _ h).1;omega)).trans (Below.heap_alloc _ _ _ fz));have Hq9:=za (hb9.trans Hq2);obtain⟨m0,m1,m2,mf,mz⟩:=zL Hq9.o;have HL9:=za (PL.fr (HL2.alloc _) HF9 (λk hk=>by have:=(Hown2.o.lt k hk).1;omega))));all_goals go_wp2_with fail
  all_goals go_meet
  all_goals exact⟨_,_,zhG HQ1.o (by omega) (by omega) (by omega) (by omega) (by omega) (by omega) (by omega) (by omega) HNk HF2 HL9.o Hq9.o Hown9 HF9⟩
 case rest =>
  obtain⟨lv2,xs2,HQ2⟩:=hcut;have hzq:=HQ2.o.fr.size;have hltc:=HQ2.o.pl.lt;have hBd:=HQ2.o.inv.toBad;have HEx:=za (zP S pb st.step.name ⟨#[44]⟩ _ zlz wc hBd HQ2.o.pl);rw[zan HQ2.o.pl.tx (by decide),Hs3.o] at HEx;go_wp2_with (go_at_call 134;refine HEx.o.mono ?_;rintro e w3 ⟨rfl,HL3,HF3⟩;have HQ3:=za (HQ2.o.goes (by omega) (by omega) (by omega) HI3.o (λHer=>zay (Hs3.o▸Her)) HL3 HF3);have hz3:=HF3.size);go_loopg [4] 1300 (λk mo wx=>∃(b:Bool) (s:St) (ns:List ByteArray) (ps:List Nat) (lv:Value) (kk:Nat) (xs:List Value),mo=.bool b/\Hid (QI S pb w.heap.size (w.heap.size+1) (w.heap.size+1+1) p w wx s ns ps lv kk xs (xI 0) (.pointer none))/\kk+k<=1301/\Hid (b=true->zbO k ⟨s.name,ns++[s.t.s],ps++[s.t.a]⟩=R/\1201-s.t.a<k)/\Hid (b=false->(⟨s,ns,ps⟩:Nms)=R));case atStart=>exact⟨true,s3,[st.step.t.s],[st.step.t.a],lv2,0+1,xs2,rfl,HQ3,by omega,λ_=>⟨HRR.o,by omega⟩,λh=>by cases h⟩
  case round =>
   obtain⟨b,s,ns,ps,lv,kk,xs,rfl,HA,hnn,HT,HFa⟩:=hrel;have hzr:=HA.o.fr.size;have hltr:=HA.o.pl.lt;have HBs:=za HA.o.inv.toBad;cases b with
   | false => have HQ:=za (HFa.o rfl);have hA:QI S pb w.heap.size (w.heap.size+1) (w.heap.size+1+1) p w wr R.st R.ns R.ps lv kk xs (xI 0) (.pointer none):=(by rw[<- HQ.o];exact HA.o);have HA1:=za hA;have HEx:=za (zP S pb R.st ⟨#[41]⟩ _ zlq wr hA.inv.toBad hA.pl);rw[zan hA.pl.tx (by decide)] at HEx;go_wp2_with fail;refine HEx.o.mono ?_;rintro e w4 ⟨rfl,hL4,hF4⟩;have hz4:=hF4.size;have HQ4:=za (HA1.o.goes (by omega) (by omega) (by omega) HI41.o (λHer=>zay Her) hL4 hF4);have HEx5:=za (zP S pb (R.st.must 4 [41]) ⟨#[61]⟩ _ zqX w4 HI41.o.toBad hL4);rw[zan hL4.tx (by decide)] at HEx5;go_wp2_with fail;refine HEx5.o.mono ?_;rintro e w5 ⟨rfl,hL5,hF5⟩;have hz5:=hF5.size;have HQ5:=za (HQ4.o.goes (by omega) (by omega) (by omega) HI61.o (λHer=>zay Her) hL5 hF5);obtain⟨q0,q1,q2,qf,qz⟩:=zL HQ5.o.q;go_upto_region 11 with fail;have h6:=zjt HQ5.o (by omega) (by omega) (by omega) (by omega) (by omega) (R.st.must 4 [41]).t.a;have H6:=za h6;obtain⟨s61,Hs61⟩:∃s61,(R.st.must 4 [41]).must 4 [61]=s61:=⟨_,rfl⟩;rw[Hs61] at H6 HI61 HI62 Hta62 Hrg;obtain⟨nx,na,hnv,hnk⟩:=zbw s61;have HN:=za (zaZ S pb s61 _ HI61.o.toBad H6.o.pl);rw[hnv] at HN;have Hct:=za (zoj (r17:=r17) hnk);go_wp2_with fail;refine HN.o.mono ?_;rintro e w7 ⟨rfl,hL7,hF7⟩;have hz6:=H6.o.fr.size;have hz7:=hF7.size;have HQ7:=za (H6.o.goes (by omega) (by omega) (by omega) HI62.o (λHer=>zel Her) hL7 hF7);obtain⟨y,Hy⟩:∃y,zao r17 s61.t s61.name=y:=⟨_,rfl⟩;have hK8:=HK S pb s61.name p w7 ⟨2,na,0,nx,0⟩ HI62.o (by omega) Hta62.o hL7;rw[Hct.o,Hy] at hK8;rw[Hy] at Hrg;have HK8:=za hK8;go_wp2_with fail;refine HK8.o.mono ?_;rintro e w8 ⟨a8,rfl,hL8,hT8,HF8⟩;have hz8:=HF8.size;have HQ8:=za (HQ7.o.goes (by omega) (by omega) (by omega) Hrg.o.inv (λHer=>zpL HI61.o (by rw[Hy];exact Her)) hL8 HF8);obtain⟨q0,q1,q2,qf,qz⟩:=zL HQ8.o.q;have HT8:=za hT8.out;go_wp2_with fail;have H9:=zjs HQ8.o (by omega) (by omega) (by omega) (by omega) a8;have HEx9:=za (zP S pb y.1 ⟨#[59]⟩ _ zl1 _ Hrg.o.inv.toBad H9.pl);rw[zan H9.pl.tx (by decide)] at HEx9;refine HEx9.o.mono ?_;rintro e w10 ⟨rfl,hL10,HF10⟩;have hz10:=HF10.size;have HQ10:=za (H9.goes (by omega) (by omega) (by omega) (Fwd.must H9.inv 4 [59]).inv (λHer=>zay Her) hL10 HF10);obtain⟨x10,cp10,Hlv10⟩:=zg3 HQ10.o.own;have hq10:=HQ10.o.q;rw[Hlv10] at hq10;obtain⟨q0,q1,q2,qf,qz⟩:=zL hq10;obtain⟨r0,r1,r2,rf,rz⟩:=zL HQ10.o.r;go_wp2_with fail;refine bodyPost_ret (v:=.agg #[lv,.int .i64 (R.st.must 4 [41]).t.a,.pointer a8]) (by rw[Hlv10];exact zgB rfl rfl (zie HQ10.o.r _ _ _)) rfl ?_;rw[Hs61,Hy];refine⟨lv,kk,xs,(R.st.must 4 [41]).t.a,a8,rfl,⟨x10,cp10,Hlv10⟩,((HQ10.o.pl.setOther hlt _ _).setOther hlt _ _).setOther hlt _ _,zR (zi HQ10.o.own (λk h1 _ _=>zr (by omega) (zr (by omega) (zr (by omega) rfl)))) (by omega:w.heap.size<=w.heap.size+1+1),?_,((HQ10.o.fr.setNew (Nat.le_refl _) _ _).setNew (Nat.le_refl _) _ _).setNew (Nat.le_refl _) _ _⟩;intro he';obtain⟨e1,e2⟩:=HQ10.o.ok he';refine⟨e1,e2,rfl,?_⟩;rw[St.must_L];have t8:=HT8.o (zay he');have hq7:=ze HQ7.o.q;have Fa:Fr (·=w.heap.size+1) w8 (w8.setCell (xD (w.heap.size+1) 2) (.pointer a8)):=(Fr.refl _ w8).set1 _ _;have Fb:Fr (·=w.heap.size) w10 (((w10.setCell (xD w.heap.size 0) lv).setCell (xD w.heap.size 1) (.int .i64 (R.st.must 4 [41]).t.a)).setCell (xD w.heap.size 2) (.pointer a8)):=((((Fr.refl _ w10).set1 _ _).set1 _ _).set1 _ _);have hF10':Fr (·=pb) (w8.setCell (xD (w.heap.size+1) 2) (.pointer a8)) w10:=HF10;have t9:=(t8.fr Fa (λk h1 _ h2=>by omega)).fr hF10' (λk h1 _ h2=>by omega);have t10:=t9.fr Fb (λk h1 _ h2=>by omega);rw[Hlv10] at t10;exact t10.down (by omega)
   | true =>
     obtain⟨hR1,Hrem⟩:=HT.o rfl;obtain⟨nx,na,hnv,hnk⟩:=zbw s;have HNk:=za hnk;have HN:=za (λw1 h=>zaZ S pb s w1 HBs.o h);rw[hnv] at HN;obtain⟨q0,q1,q2,qf,qz⟩:=zL HA.o.q;have HR1:=za hR1;have mx:kk+1<=maxLen:=(by unfold maxLen;omega);have by':(kk+1)*24<=140737488355328:=(by omega);go_upto_block 1 with fail;go_cut [] (λwy=>∃lv' xs',Hid (QI S pb w.heap.size (w.heap.size+1) (w.heap.size+1+1) p w wy s.name (ns++[s.t.s]) (ps++[s.t.a]) lv' (kk+1) xs' (xI 0) (.pointer none)));case first =>
      go_wp2_with fail;go_region_law (first|(refine zbL rfl 135 (.tmp 21) 136 rfl zhF (xP pb) rfl (HN.o _ HA.o.pl.drew) ?_;rintro e w2 ⟨rfl,HL2,hF2'⟩;refine⟨_,rfl,?_⟩;have HF2:Fr (·=pb) wr w2:=hF2'.undrew;have hzc:=HF2.size;have Hq2:=(HF2.block (w.heap.size+1) qz (by omega)).trans HA.o.q;obtain⟨f0,f1,f2,ff,fz⟩:=zL Hq2;have Hown2:=za (zi HA.o.own (λk h1 h2 _=>HF2.block k h2 (by omega)));have hzw:w.heap.size+1+1<=w2.heap.size+1:=(by omega))|(refine zJ _ rfl (.tmp 20) (.tmp 23) 158 rfl (w.heap.size+1+1) 144 i0 _ 2 24 underlying158 hi hi0 hi1 hi2 rfl (by decide) lv kk xs rfl (zD Hown2.o _) (xD w2.heap.size 0) 1 1 [.string nx,xI na] rfl rfl (zN (zc w2 _) rfl) zor mx by' (by simpa using hzw) ?_;intro v' w9 Hown9 hgrow hnew;obtain⟨g9,cap9,rfl,hg9⟩:=zM Hown9 (by omega);have HF9:=Fr.of_grown hgrow;have hb9:w9.heap[w.heap.size+1]?=w2.heap[w.heap.size+1]?:=((HF9.block (w.heap.size+1) (by rw[zsb];omega) (λh=>by have:=(Hown2.o.lt _ h).1;omega)).trans (Below.heap_alloc _ _ _ fz));have Hq9:=za (hb9.trans Hq2);obtain⟨m0,m1,m2,mf,mz⟩:=zL Hq9.o;have HL9:=za (PL.fr (HL2.alloc _) HF9 (λk hk=>by have:=(Hown2.o.lt k hk).1;omega))));all_goals go_wp2_with fail
      all_goals go_meet
      all_goals exact⟨_,_,zhG HA.o (by omega) (by omega) (by omega) (by omega) (by omega) (by omega) (by omega) (by omega) HNk HF2 HL9.o Hq9.o Hown9 HF9⟩
     case rest =>
      obtain⟨lv4,xs4,HA2⟩:=hcut;have hzq:=HA2.o.fr.size;have HBd2:=za HA2.o.inv.toBad;generalize Hy:(⟨s.name,ns++[s.t.s],ps++[s.t.a]⟩:Nms)=y at *;have Hys:s.name=y.st:=(by rw[<- Hy]);have hyn:ns++[s.t.s]=y.ns:=(by rw[<- Hy]);have hyp:ps++[s.t.a]=y.ps:=(by rw[<- Hy]);rw[Hys,hyn,hyp] at HA2;rw[Hys] at HBd2;have HSk:=za (zbg S pb y.st ⟨#[44]⟩ [44] zlz wc HBd2.o HA2.o.pl);have hska:y.st.skipM [44]=if y.st.is 4 [44]=true then y.st.step else y.st:=(by unfold St.skipM;rw[zaB HA2.o.pl.tx (by decide)]);rw[zaB HA2.o.pl.tx (by decide),hska] at HSk;obtain⟨g,rfl⟩:∃g,gk=g+1:=⟨gk-1,by have:=Hrem;omega⟩;have hR1:=HR1.o;have hunf:zbO (g+1) y=if y.st.er=0/\y.st.is 4 [44]=true then zbO g y.more else y:=rfl;rw[hunf] at hR1;cases hc:y.st.is 4 [44] with
      | true =>
        have Her:y.st.er=0:=HBd2.o.er (by rw[Inv.is_k hc];decide);rw[if_pos ⟨Her,hc⟩] at hR1;rw[hc,if_pos rfl] at HSk;have e5:=Fwd.step HA2.o.inv;have hta:y.st.t.a+1<=y.st.step.t.a:=(by have h1:=HA2.o.inv.tok (by rw[Inv.is_k hc];decide);have h2:=zV y.st.src y.st.t.t HA2.o.inv.ok.tt;rw[St.step_ok Her];simp only;omega);have HN:Hid (zbO g ⟨y.st.step.name,y.ns++[y.st.step.t.s],y.ps++[y.st.step.t.a]⟩=R/\1201-y.st.step.t.a<g):=(by have h1:s.t.a<=y.st.t.a:=(by rw[<- Hys];exact (Fwd.name HA.o.inv).ta);have h2:=Hrem;have h3:=HA.o.inv.ok.ta_le;have h4:=e5.inv.ok.ta_le;exact⟨hR1,by omega⟩);have HI5:=za e5.inv;go_wp2_with (go_at_call 137;refine HSk.o.mono ?_;rintro e w3 ⟨rfl,HL3,HF3⟩);go_roundg g;case measure=>omega
        exact⟨true,y.st.step,y.ns,y.ps,lv4,kk+1,xs4,rfl,HA2.o.goes (by omega) (by omega) (by omega) HI5.o (λ_=>Her) HL3 HF3,by omega,λ_=>HN.o,λh=>by cases h⟩
      | false =>
        rw[if_neg (by rw[hc];simp)] at hR1;have HR2:=za hR1;rw[hc,if_neg (by simp)] at HSk;go_wp2_with (go_at_call 137;refine HSk.o.mono ?_;rintro e w3 ⟨rfl,HL3,HF3⟩);go_roundg g;case measure=>omega
        exact⟨false,y.st,y.ns,y.ps,lv4,kk+1,xs4,rfl,HA2.o.goes (by omega) (by omega) (by omega) HA2.o.inv (λh=>h) HL3 HF3,by omega,λh=>(by cases h),λ_=>HR2.o⟩
end
section
def zgH (r17 r18:Fn)(st:St):Eqn:=⟨(zaH st).ns,(zaH st).ps,(zaH st).st.t.a,(zck r17 r18 (st.is 4 [40]) ((zaH st).st.must 4 [61])).2⟩
theorem ziE (r17 r18:Fn)(st:St)(eqs:List Eqn):(zF r17 r18 st eqs).2=eqs++[zgH r17 r18 st]:=rfl
theorem zj4 (r17 r18:Fn)(st:St)(eqs:List Eqn):(zF r17 r18 st eqs).1=(zF r17 r18 st []).1:=rfl
theorem zje {r17 r18:Fn}(hX:zX 18 194 r18)(hK:zdI 18 r17)(g17:zv 17 r17)(g18:zv 18 r18)(S:Nat->Addr)(pb p:Nat)(st:St)(w:World)(hI:Inv p st)(ho:st.op=0)(hR:PL S w pb st) :
 xK 139 #[xP pb] w (zlQ S pb w (zF r17 r18 st []).1 (zgH r17 r18 st)):=by
 cases hc:st.is 4 [40] with
 | true => obtain⟨f,hf⟩:∃f,f=1300:=⟨_,rfl⟩;obtain⟨R,hRR⟩:∃R,zbO f (zeh st)=R:=⟨_,rfl⟩;have hm:=zko hf hRR;have hl:zaH st=⟨R.st.must 4 [41],R.ns,R.ps⟩:=(by unfold zaH;rw[if_pos hc,hm]);have h:=zgv hK g17 g18 S pb p f R st w hI ho hc hf hRR hR;have e1:=zjK (r17:=r17) (r18:=r18) (eqs:=[]) hc hm;have e2:zgH r17 r18 st=⟨R.ns,R.ps,(R.st.must 4 [41]).t.a,(zao r17 ((R.st.must 4 [41]).must 4 [61]).t ((R.st.must 4 [41]).must 4 [61]).name).2⟩:=(by unfold zgH zck;rw[hl,if_pos hc]);rw[e1,e2];exact h
 | false => have h:=zgK hX g18 S pb p st w hI hc hR;have hl:zaH st=⟨st.name,[st.t.s],[st.t.a]⟩:=(by unfold zaH;rw[if_neg (by rw[hc];simp)]);have e1:(zF r17 r18 st []).1=(r18 (st.name.must 4 [61])).1.must 4 [59]:=(by unfold zF zck;simp only[hl];rw[if_neg (by rw[hc];simp)]);have e2:zgH r17 r18 st=⟨[st.t.s],[st.t.a],st.name.t.a,(r18 (st.name.must 4 [61])).2⟩:=(by unfold zgH zck;rw[hl,if_neg (by rw[hc];simp)]);rw[e1,e2];exact h
end
end Go.Proofs.YtmfkofhgdjechaaGreatDoor
