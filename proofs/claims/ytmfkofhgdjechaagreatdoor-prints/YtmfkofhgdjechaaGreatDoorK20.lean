/- Part 21 of the proof: CoeN CoeO CoeP CoeQ CoeR. -/
import Derived.Test.YtmfkofhgdjechaaGreatDoorK19
set_option maxRecDepth 100000
set_option maxHeartbeats 8000000
namespace Go.Proofs.YtmfkofhgdjechaaGreatDoor
open Go.Proofs.Tryz
open Go.RowKit
section
variable {rx:Fn} {L:List Ex} {d p y:Nat} {av u:Value} {w wr:World}
theorem zpl:zH 194:=λ_ _=>by kernel_rfl
theorem Tryz.infoXp:(prog.info? 159).map (λi=>(i.zero,i.size,i.bytes))=some (some (.pointer none),1,8):=by kernel_rfl
theorem zlz:(⟨#[44]⟩:ByteArray).toList=[44]:=by decide +kernel
theorem Fwd.er0' {a b:St}(h:Fwd p a b)(hb:b.er=0):a.er=0:=h.er0 hb
def TRI (w wr:World)(av:Value)(L:List Ex)(y:Nat)(u:Value):Prop :=
 ∃(wi:World) (Bi:Nat),w.heap.size<=Bi/\TR wi Bi L y u/\(∀k,Bi<=k->k<wi.heap.size->wr.heap[k]?=wi.heap[k]?)/\(∀g,av.ownBlock=some g->g<Bi∨wi.heap.size<=g)/\wi.heap.size<=wr.heap.size
theorem TRI.now (h:TRI w wr av L y u):TR wr w.heap.size L y u:=by obtain⟨wi,Bi,h1,h2,h3,_,_⟩:=h;exact (h2.kept h3).down h1
theorem TRI.next {w':World}{av':Value}(h:TRI w wr av L y u)(E:List Ex){T:Nat->Prop}(hf:Fr T wr w')(hT:∀k,T k->k<w.heap.size∨av.ownBlock=some k)(ha:∀k,av'.ownBlock=some k->av.ownBlock=some k∨wr.heap.size<=k):TRI w w' av' (L++E) y u:=by
 obtain⟨wi,Bi,h1,h2,h3,h4,h5⟩:=h;refine⟨wi,Bi,h1,h2.more E,λk hk1 hk2=>?_,λg hg=>?_,Nat.le_trans h5 hf.size⟩
 . refine (hf.block k (Nat.lt_of_lt_of_le hk2 h5) (λht=>?_)).trans (h3 k hk1 hk2);rcases hT k ht with h|h
   . omega
   . rcases h4 k h with h|h <;> omega
 . rcases ha g hg with h|h
   . exact h4 g h
   . exact Or.inr (Nat.le_trans h5 h)
structure zjp (S:Nat->Addr) (pb eb p d:Nat) (w wr:World) (v0 v1 v2 v3 v4:Value) (s:St) (l:List Nat) (vs:List Value) (av:Value):Prop where
 inv:Inv p s
 op:18<=s.op+d
 pl:PL S wr pb s
 blk:xH wr eb #[v0,v1,v2,v3,v4,av] 216
 own:wr.ownsRow w.heap.size 159 1 av vs.length vs
 len:vs.length=l.length
 tr:s.er=0->∀(i y:Nat) (u:Value),l[i]?=some y->vs[i]?=some u->TRI w wr av s.L y u
 fr:Fr (λk=>k=pb∨k=eb) w wr
 few:l.length<=s.t.a
theorem zmt {S:Nat->Addr}{pb eb:Nat}{w1 w9:World}{v0 v1 v2 v3 v4:Value}{s:St}{l:List Nat}{vs:List Value}{v':Value}{a1:Option Addr}{X:Obj}
 (HA:zjp S pb eb p d w wr v0 v1 v2 v3 v4 s l vs av) (g1:zaN rx s p) (hll:l.length+1<=s.t.a) (n3:pb<eb) (hzb:eb<w.heap.size) (hF1:Fr (·=pb) wr w1) (hT1:(rx s).1.er=0->TR w1 wr.heap.size (rx s).1.L (rx s).2 (.pointer a1))
 (hL9:PL S w9 pb (rx s).1) (hF9:Fr (λk=>av.ownBlock=some k) (w1.alloc X) w9) (heb9:w9.heap[eb]?=some (.cells #[v0,v1,v2,v3,v4,av] 216 (0,0))) (hown:w9.ownsRow w.heap.size 159 1 v' (vs.length+1) (vs++[.pointer a1]))
 (hnew:∀k,v'.ownBlock=some k->av.ownBlock=some k∨(w1.alloc X).heap.size<=k):zjp S pb eb p d w (w9.setCell (xD eb 5) v') v0 v1 v2 v3 v4 (rx s).1 (l++[(rx s).2]) (vs++[.pointer a1]) v':=by
 have hav:∀k,av.ownBlock=some k->w.heap.size<=k/\k<wr.heap.size:=λk hk=>HA.own.lt k hk;have hzr:=HA.fr.size;have hz1:=hF1.size;have hplt:=HA.pl.lt;have hzx:(w1.alloc X).heap.size=w1.heap.size+1:=by simp
 have hFa:Fr (λk=>k=pb∨k=eb∨av.ownBlock=some k) wr (w9.setCell (xD eb 5) v'):=by have h1:Fr (λk=>k=pb∨k=eb∨av.ownBlock=some k) wr (w1.alloc X):=(hF1.mono (λ_ _ h=>Or.inl h)).alloc X;exact (h1.trans' hF9 (λ_ _ h=>Or.inr (Or.inr h))).setCell (Or.inl (Or.inr (Or.inl rfl))) _
 obtain⟨E,hE⟩:=g1.L;have hv':∀k,v'.ownBlock=some k->w.heap.size<=k:=λk hk=>(hown.lt k hk).1;refine⟨g1.inv,by rw[g1.op];exact HA.op,hL9.setOther n3 _ _,zh _ _ _ _ heb9,?_,by simp[HA.len],?_,?_,?_⟩
 . rw[List.length_append];exact zi hown (λk h1 _ _=>zr (by omega) rfl)
 . intro he i y u hi hu;rcases Nat.lt_or_ge i l.length with h|h
   . rw[List.getElem?_append_left h] at hi;rw[List.getElem?_append_left (by rw[HA.len];exact h)] at hu;rw[hE];refine (HA.tr (g1.fwd.er0' he) i y u hi hu).next E hFa (λk hk=>?_) (λk hk=>?_)
     . rcases hk with h|h|h
       . left;omega
       . left;omega
       . exact Or.inr h
     . rcases hnew k hk with h|h
       . exact Or.inl h
       . right;omega
   . have h2:i=l.length:=(by have:=(List.getElem?_eq_some_iff.1 hi).1;simp at this;omega);subst h2;rw[List.getElem?_append_right (Nat.le_refl _)] at hi;rw[<- HA.len,List.getElem?_append_right (Nat.le_refl _)] at hu;simp at hi hu;subst hi hu;refine⟨w1,wr.heap.size,hzr,hT1 he,λk h1 h2=>?_,λg hg=>?_,?_⟩
     . refine zr (by omega) ((hF9.block k (by omega) (λh=>by have:=(hav k h).2;omega)).trans (Below.heap_alloc _ _ _ h2))
     . rcases hnew g hg with h|h
       . left;exact (hav g h).2
       . right;omega
     . have:=hF9.size;simp[World.setCell];omega
 . have h1:Fr (λk=>k=pb∨k=eb) w (w1.alloc X):=(HA.fr.trans' hF1 (λ_ _ h=>Or.inl h)).alloc X;exact (h1.trans' hF9 (λi hi h=>by have:=(hav i h).1;omega)).setCell (Or.inl (Or.inr rfl)) _
 . have:=g1.ta;simp;omega
theorem zku {a:Option Addr}:∀u∈[Value.pointer a],u.oneCell'=true:=by intro u hu;simp at hu;subst hu;rfl
theorem zmh (HX:zX d 194 rx)(GX:zv d rx)(S:Nat->Addr)(pb:Nat)(st:St)(p:Nat)(w:World)(bp be eb:Nat)(v0 v1 v2 v3 v4:Value)(hI:Inv p st)(ho:18<=st.op+d)(ha:1<=st.t.a)(hR:PL S w pb st)(Hbp:Box w bp 136 (xP pb))(Hbe:Box w be 159 (xP eb))(heb:xH w eb #[v0,v1,v2,v3,v4,.slice none 0 0] 216)(n0:¬bp=pb)(n1:¬be=pb)(n3:pb<eb)(n4:¬bp=eb)(n5:¬be=eb) :
 xK 240 #[xP bp,xP be] w λe w'=>e=.returned (.tuple #[])/\∃vs av,PL S w' pb ((zbG rx st).1.must 4 [41])/\xH w' eb #[v0,v1,v2,v3,v4,av] 216/\w'.ownsRow w.heap.size 159 1 av vs.length vs/\vs.length=(zbG rx st).2.length /\
  Hid (((zbG rx st).1.must 4 [41]).er=0->∀(i y:Nat) (u:Value),(zbG rx st).2[i]?=some y->vs[i]?=some u->TR w' w.heap.size (zbG rx st).1.L y u)/\Fr (λk=>k=pb∨k=eb) w w':=by
 have n2:¬eb=pb:=by omega
 have hzb:=ze heb;have hlt:=hR.lt;have HA0:zjp S pb eb p d w w v0 v1 v2 v3 v4 st [] [] (.slice none 0 0):=⟨hI,ho,hR,heb,World.ownsRow_nil _ _ _ _,rfl,λ_ i y u h _=>by simp at h,Fr.refl _ _,by simp⟩;have Hst:Hid (1201-st.t.a<1300):=by unfold Hid;omega
 have hRes0:zbG rx st=zc1 rx 1300 ((rx st).1,[]++[(rx st).2]):=rfl;obtain⟨i0,hi,hz0,hz1,hz2⟩:=info_parts Tryz.infoXp;obtain⟨R,hRes⟩:∃R,zbG rx st=R:=⟨_,rfl⟩;rw[hRes];rw[hRes] at hRes0;have HRes:=za hRes0.symm;clear hRes hRes0 hR hI ho heb;go_enter func240,ntmps240;go_wp2_with fail;go_loopg [2] 1300 (λk m wr=>∃(b:Bool) (s:St) (l:List Nat) (vs:List Value) (av:Value),m=.bool b/\Hid (zjp S pb eb p d w wr v0 v1 v2 v3 v4 s l vs av)/\Hid (b=true->zc1 rx k ((rx s).1,l++[(rx s).2])=R/\1201-s.t.a<k/\l.length+1<=s.t.a)/\Hid (b=false->(s,l)=R));case atStart=>exact⟨true,st,[],[],_,rfl,HA0,λ_=>⟨HRes.o,Hst.o,by simpa using ha⟩,λh=>by cases h⟩
 case round =>
  obtain⟨b,s,l,vs,av,rfl,HA,HT,HFa⟩:=hrel;have hz:=HA.o.fr.size;have hltr:=HA.o.pl.lt;have Hbp1:=HA.o.fr.keep2 Hbp n0 n4;have Hbe1:=HA.o.fr.keep2 Hbe n1 n5;obtain⟨p0,pf,pz⟩:=zu Hbp1;obtain⟨e0,ef,ez⟩:=zu Hbe1;cases b with
  | false => have HQ:=HFa.o rfl;have HBd:=za HA.o.inv.toBad;clear HT HFa;go_wp2_with (go_at_call 134;refine (zP S pb s _ [41] zlq _ HBd.o HA.o.pl).mono ?_;rintro e w2 ⟨rfl,HL2,HF2⟩);go_end0;rw[<- HQ];have hm:s.expM [41]=s.must 4 [41]:=zan HA.o.pl.tx (by decide);refine⟨rfl,vs,av,hm▸HL2,(HF2.block eb (ze HA.o.blk) n2).trans HA.o.blk,zi HA.o.own (λk h1 h2 _=>HF2.block k h2 (by omega)),HA.o.len,?_,HA.o.fr.trans' HF2 (λ_ _ h=>Or.inl h)⟩;intro Her i y u h1 h2;exact (HA.o.tr ((Fwd.must HA.o.inv 4 [41]).er0 Her) i y u h1 h2).now.fr HF2 (λk h1 _ h2=>by omega)
  | true =>
    obtain⟨hR1,Hrem,Hll⟩:=HT.o rfl;have Hg:=GX s p HA.o.inv HA.o.op;have HXs:=za (λw1 h=>HX S pb s p w1 HA.o.inv HA.o.op h);obtain⟨E,HE⟩:=Hg.L;have HR1:=za hR1;have hvl:vs.length<=1200:=(by have:=HA.o.few;have:=HA.o.inv.ok.ta_le;have:=HA.o.len;omega);have mx:vs.length+1<=maxLen:=(by unfold maxLen;omega);have by':(vs.length+1)*8<=140737488355328:=(by omega);obtain⟨d0,d1,d2,d3,d4,Hd5,df,dz⟩:=zt HA.o.blk;clear HT HFa hR1;go_upto_block 1 with fail;go_cut [] (λwx=>∃vs' av',Hid (zjp S pb eb p d w wx v0 v1 v2 v3 v4 (rx s).1 (l++[(rx s).2]) vs' av'));case first =>
     go_wp2_with fail;go_region_law (first|(refine zbL rfl 194 (.tmp 11) 136 rfl zpl (xP pb) rfl (HXs.o _ HA.o.pl.drew) ?_;rintro e w1 ⟨a1,rfl,HL1,hT1,hF1'⟩;refine⟨_,rfl,?_⟩;have HF1:Fr (·=pb) wr w1:=hF1'.undrew;have hzc:=HF1.size;have Heb1:=(HF1.block eb (ze HA.o.blk) n2).trans HA.o.blk;obtain⟨f0,f1,f2,f3,f4,f5,ff,fz⟩:=zt Heb1;obtain⟨j0,jf,jz⟩:=zu (Hbe1.fr HF1 n1);obtain⟨k0,kf,kz⟩:=zu (Hbp1.fr HF1 n0);have Hown1:=za (zi HA.o.own (λk h1 h2 _=>HF1.block k h2 (by omega)));have hzw:w.heap.size<=w1.heap.size+1:=(by omega);clear hF1')|(refine zJ _ rfl (.tmp 10) (.tmp 13) 214 rfl w.heap.size 159 i0 _ 1 8 underlying214 hi hz0 hz1 hz2 rfl (by decide) av vs.length vs rfl (zD Hown1.o _) (xD w1.heap.size 0) 1 1 [.pointer a1] rfl rfl (zN (zc w1 _) rfl) zku mx by' (by simpa using hzw) ?_;intro v' w9 Hown9 hgrow Hnew9;obtain⟨g9,cap9,rfl,hg9⟩:=zM Hown9 (by omega);have Hav:∀k,av.ownBlock=some k->w.heap.size<=k:=λk hk=>(Hown1.o.lt k hk).1;have HF9:=Fr.of_grown hgrow;have hb9:∀k,k<w.heap.size->w9.heap[k]?=w1.heap[k]?:=(λk hk=>(HF9.block k (by rw[zsb];omega) (λh=>by have:=Hav k h;omega)).trans (Below.heap_alloc _ _ _ (by omega)));obtain⟨m0,m1,m2,m3,m4,m5,mf,mz⟩:=zt ((hb9 eb hzb).trans Heb1);have Heb9:=za ((hb9 eb hzb).trans Heb1);obtain⟨o0,of',oz⟩:=zu ((hb9 be (ze Hbe)).trans (Hbe1.fr HF1 n1));have Hbp9:=za ((hb9 bp (ze Hbp)).trans (Hbp1.fr HF1 n0));have HL9:Hid (PL S w9 pb (rx s).1):=(HL1.alloc _).fr HF9 (λk hk=>by have:=Hav k hk;omega);clear hgrow hb9));all_goals go_wp2_with fail
     all_goals go_meet
     all_goals exact⟨_,_,zmt HA.o Hg Hll n3 hzb HF1 hT1.out HL9.o HF9 Heb9.o Hown9 Hnew9⟩
    case rest =>
     obtain⟨vs2,av2,HA2⟩:=hcut;have hzq:=HA2.o.fr.size;obtain⟨p2,pf2,pz2⟩:=zu (HA2.o.fr.keep2 Hbp n0 n4);have HBd:=za HA2.o.inv.toBad;have HSk:=za (zbg S pb (rx s).1 ⟨#[44]⟩ [44] zlz wc HBd.o HA2.o.pl);rw[zaB HA2.o.pl.tx (by decide)] at HSk;have hska:(rx s).1.skipM [44]=if (rx s).1.is 4 [44]=true then (rx s).1.step else (rx s).1:=(by unfold St.skipM;rw[zaB HA2.o.pl.tx (by decide)]);rw[hska] at HSk;clear p0 pf pz e0 ef ez d0 d1 d2 d3 d4 df dz hska;obtain⟨g,rfl⟩:∃g,gk=g+1:=⟨gk-1,by have:=Hrem;omega⟩;have hR1:=HR1.o;have hunf:zc1 rx (g+1) ((rx s).1,l++[(rx s).2])=if (rx s).1.er=0/\(rx s).1.is 4 [44]=true then zc1 rx g ((rx (rx s).1.step).1,(l++[(rx s).2])++[(rx (rx s).1.step).2]) else ((rx s).1,l++[(rx s).2]):=rfl;rw[hunf] at hR1;cases hc:(rx s).1.is 4 [44] with
     | true =>
       have Her:(rx s).1.er=0:=HBd.o.er (by rw[Inv.is_k hc];decide);rw[if_pos ⟨Her,hc⟩] at hR1;have HR2:=za hR1;rw[hc,if_pos rfl] at HSk;have e5:=Fwd.use HA2.o.inv Her (by rw[Inv.is_k hc];decide);have e5':=Fwd.step HA2.o.inv;have Hta:(rx s).1.t.a+1<=(rx s).1.step.t.a:=(by have h1:=HA2.o.inv.tok (by rw[Inv.is_k hc];decide);have h2:=zV (rx s).1.src (rx s).1.t.t HA2.o.inv.ok.tt;rw[St.step_ok Her];simp only;omega);have HS5:(rx s).1.step.L=(rx s).1.L:=St.step_L _;have HN:Hid (zc1 rx g ((rx (rx s).1.step).1,(l++[(rx s).2])++[(rx (rx s).1.step).2])=R/\1201-(rx s).1.step.t.a<g/\(l++[(rx s).2]).length+1<=(rx s).1.step.t.a):=by
        refine⟨HR2.o,?_,?_⟩
        . have h1:=Hg.ta;have h2:=Hrem;have h3:=HA.o.inv.ok.ta_le;have h4:=e5'.inv.ok.ta_le;omega
        . have h1:=HA2.o.few;omega
       have HI5:=za e5'.inv;clear hR1 hunf hc e5 e5';go_wp2_with (go_at_call 137;refine HSk.o.mono ?_;rintro e w3 ⟨rfl,HL3,HF3⟩);go_roundg g;case measure=>omega
       refine⟨true,(rx s).1.step,l++[(rx s).2],vs2,av2,rfl,⟨HI5.o,by rw[St.step_op];exact HA2.o.op,HL3,(HF3.block eb (ze HA2.o.blk) n2).trans HA2.o.blk,zi HA2.o.own (λk h1 h2 _=>HF3.block k h2 (by omega)),HA2.o.len,?_,HA2.o.fr.trans' HF3 (λ_ _ h=>Or.inl h),?_⟩,λ_=>HN.o,λh=>by cases h⟩
       . intro _ i y u h1 h2;rw[HS5];have:=(HA2.o.tr Her i y u h1 h2).next [] HF3 (av':=av2) (λk hk=>by left;omega) (λk hk=>Or.inl hk);rwa [List.append_nil] at this
       . have h1:=HA2.o.few;have h2:=Hta;omega
     | false =>
       rw[if_neg (by rw[hc];simp)] at hR1;have HR2:=za hR1;rw[hc,if_neg (by simp)] at HSk;clear hR1 hunf hc;go_wp2_with (go_at_call 137;refine HSk.o.mono ?_;rintro e w3 ⟨rfl,HL3,HF3⟩);go_roundg g;case measure=>omega
       refine⟨false,(rx s).1,l++[(rx s).2],vs2,av2,rfl,⟨HA2.o.inv,HA2.o.op,HL3,(HF3.block eb (ze HA2.o.blk) n2).trans HA2.o.blk,zi HA2.o.own (λk h1 h2 _=>HF3.block k h2 (by omega)),HA2.o.len,?_,HA2.o.fr.trans' HF3 (λ_ _ h=>Or.inl h),HA2.o.few⟩,(λh=>by cases h),λ_=>HR2.o⟩;intro Her i y u h1 h2;have:=(HA2.o.tr Her i y u h1 h2).next [] HF3 (av':=av2) (λk hk=>by left;omega) (λk hk=>Or.inl hk);rwa [List.append_nil] at this
end
section
theorem zol:zH 240:=λ_ _=>by kernel_rfl
theorem zrg:zag zef.toList 0=4:=by decide +kernel
structure zrS (w w0:World) (pb:Nat) (s:ByteArray) (a:Nat):Prop where
 bp:Box w0 w.heap.size 136 (xP pb)
 eb:xH w0 (w.heap.size+1+1) #[xI 4,xI a,.string s,xI a,xI 0,.slice none 0 0] 216
 be:Box w0 (w.heap.size+1+1+1) 159 (xP (w.heap.size+1+1))
 fr:Fr (·=pb) w w0
 size:w0.heap.size=w.heap.size+1+1+1+1
def zee (w:World)(pb:Nat)(s:ByteArray)(a:Nat):World:=(((w.alloc (.cells #[xP pb] 136)).alloc (.cells #[.string s,xI a] 144)).alloc (.cells #[xI 4,xI a,.string s,xI a,xI 0,.slice none 0 0] 216)).alloc (.cells #[xP (w.heap.size+1+1)] 159)
theorem zrN (w:World)(pb:Nat)(s:ByteArray)(a:Nat):zrS w (zee w pb s a) pb s a:=by
 unfold zee;refine⟨?_,?_,?_,((((Fr.refl _ w).alloc _).alloc _).alloc _).alloc _,by simp⟩
 . exact (Below.heap_alloc _ _ _ (by simp;omega)).trans ((Below.heap_alloc _ _ _ (by simp;omega)).trans ((Below.heap_alloc _ _ _ (by simp)).trans (zc w _)))
 . refine (Below.heap_alloc _ _ _ (by simp)).trans ?_;have:=zc ((w.alloc (.cells #[xP pb] 136)).alloc (.cells #[.string s,xI a] 144)) (.cells #[xI 4,xI a,.string s,xI a,xI 0,.slice none 0 0] 216);simpa using this
 . have:=zc (((w.alloc (.cells #[xP pb] 136)).alloc (.cells #[.string s,xI a] 144)).alloc (.cells #[xI 4,xI a,.string s,xI a,xI 0,.slice none 0 0] 216)) (.cells #[xP (w.heap.size+1+1)] 159);unfold Box;simpa using this
theorem zpo {S:Nat->Addr}{w:World}{pb:Nat}{st:St}(h:PL S w pb st)(s:ByteArray)(a:Nat):PL S (zee w pb s a) pb st:=(((h.alloc _).alloc _).alloc _).alloc _
theorem zof {d:Nat}{rx:Fn}(hX:zX d 194 rx)(gX:zv d rx):zdI (d+1) rx:=by
 intro S pb st p w t HI ho hta hR;have hlt:=hR.lt;have hmf:∀(fn:Go.Fn) (first cap:Array Value) (w:World),(Instr.makeFunc fn first cap).run prog w=.ok (.func fn first cap) w:=λ_ _ _ _=>rfl;have HF4:=zrN w pb t.s t.a;have HL4:=zpo hR t.s t.a;have HAt:=za (zaP S pb st ⟨#[40]⟩ _ zfn (zee w pb t.s t.a) HI.ok.tk HL4);rw[zaB hR.tx (by decide)] at HAt;have hg8:8<w.heap.size:=Nat.lt_of_lt_of_le (by decide) hR.gl.size;have hsyn:xC (zee w pb t.s t.a) 8 0 (.iface 399 (.pointer (some (S 2)))):=HL4.gl.syn;obtain⟨be0,bef,bez⟩:=zu HF4.be;obtain⟨bp0,bpf,bpz⟩:=zu HF4.bp;cases hc:st.is 4 [40] with
 | true =>
   have Hk4:st.t.k=4:=Inv.is_k hc;have he:=HI.toBad.er (by omega);have e1:=Fwd.enter HI he (by omega:2<=st.t.k);have hoE:18<=st.enter.op+d:=(by rw[St.enter_op];omega);have htaE:1<=st.enter.t.a:=(by have:=e1.ta;omega);obtain⟨ag1,HgO,ag3⟩:=zid gX e1.inv hoE htaE;have HC:=za (λw1 b0 b1 b2 hR1=>zmh hX gX S pb st.enter (p+1) w1 w.heap.size (w.heap.size+1+1+1) (w.heap.size+1+1) (xI 4) (xI t.a) (.string t.s) (xI t.a) (xI 0) e1.inv hoE htaE hR1 b0 b1 b2 (by omega) (by omega) (by omega) (by omega) (by omega));have hM:zao rx t st=(((zbG rx st.enter).1.must 4 [41]).leave.put ⟨zef,t.a,t.a,(zbG rx st.enter).2,t.s,0⟩):=(by unfold zao;rw[if_pos hc]);rw[hM];have HD:Hid (st.op=16->((zbG rx st.enter).1.must 4 [41]).leave=st.fail 3 st.t.a):=by
    intro h16;have hE:=St.enter_deep h16;have he3:st.enter.er≠0:=(by rw[hE];exact St.fail_er _ (by decide));have q1:(rx st.enter).1=st.enter:=(by rw[(gX st.enter (p+1) e1.inv hoE).er he3]);have q2:(zbG rx st.enter).1=st.enter:=by
     show (zc1 rx 1300 ((rx st.enter).1,[(rx st.enter).2])).1=st.enter
     show (if (rx st.enter).1.er=0/\(rx st.enter).1.is 4 [44]=true then _ else ((rx st.enter).1,[(rx st.enter).2])).1=st.enter;rw[if_neg (by rw[q1];exact λh=>he3 h.1)];exact q1
    have q3:(zbG rx st.enter).1.must 4 [41]=st.enter:=(by rw[q2,hE];exact St.fail_must _ (by decide) (by decide));rw[q3,zd0 h16]
   rw[hc] at HAt;generalize zbG rx st.enter=A at *;go_enter func193,ntmps193;go_wp2_with fail;refine Eq.mpr (congrArg (λz=>xK 73 _ z _) (show _=zee w pb t.s t.a from rfl)) ?_;refine HAt.o.mono ?_;rintro e w' ⟨rfl,rfl⟩;generalize zee w pb t.s t.a=w0 at *;go_wp2_with fail;refine (zdz _ _ zol S pb st p w0 HI (by rw[Hk4];decide) HL4 (λe w'=>e=.returned (.tuple #[])/\Box w' (w.heap.size+1+1+1) 159 (xP (w.heap.size+1+1))/\zaW S pb w.heap.size w ((A.1.must 4 [41]).leave.put ⟨zef,t.a,t.a,A.2,t.s,0⟩).1 ((A.1.must 4 [41]).leave.put ⟨zef,t.a,t.a,A.2,t.s,0⟩).2 (.returned (xP (w.heap.size+1+1))) w') ?_ ?_).mono ?_
   . intro hlt16 w2 hL2 hF2;have T1:=HF4;refine (HC.o w2 (T1.bp.fr hF2 (by omega)) (T1.be.fr hF2 (by omega)) ((hF2.block _ (ze T1.eb) (by omega)).trans T1.eb) hL2).mono ?_;rintro e w3 ⟨rfl,vs,av,hL3,hb3,hown3,hlen3,hT3,hF3⟩;refine⟨rfl,A.1.must 4 [41],hL3,by rw[St.must_op,HgO,St.enter_op];omega,by rw[St.must_op,HgO,St.enter_op];omega,?_⟩;intro w4 HL4 hF4;have hFw:Fr (·=pb) w w4:=(Fr.drop2 (T1.fr.trans hF2) hF3 (by omega)).trans hF4;have hz02:w0.heap.size<=w2.heap.size:=hF2.size;have hz0:=T1.size;refine⟨rfl,Box.fr (Fr.keep2 hF3 (T1.be.fr hF2 (by omega)) (by omega) (by omega)) hF4 (by omega),_,rfl,HL4.put _,?_,hFw⟩;intro he';have hLL:(A.1.must 4 [41]).leave.L=A.1.L:=St.must_L _ _ _
     show TR w4 w.heap.size ((A.1.must 4 [41]).leave.L++[⟨zef,t.a,t.a,A.2,t.s,0⟩]) (A.1.must 4 [41]).leave.L.length _;rw[hLL];have hown4:=zR (zi hown3 (λk h1 h2 _=>hF4.block k h2 (by omega))) (by omega:w.heap.size<=w2.heap.size);refine TR.mk A.1.L.length ⟨zef,t.a,t.a,A.2,t.s,0⟩ _ av vs (by simp) (by omega) ?_ hown4 hlen3 ?_
     . show _=some (Obj.cells #[xI (zag zef.toList 0:Nat),xI t.a,.string t.s,xI t.a,xI (zbF zef.toList 0:Nat),av] 216 (0,0));rw[zrg,zbK];exact (hF4.block _ (ze hb3) (by omega)).trans hb3
     . intro i y u hi hu;exact (((hT3.out he' i y u hi hu).fr hF4 (λk h1 _ h2=>by omega)).down (by omega)).more _
   . intro h16 w3 hL3 hF3;rw[HD.o h16];exact⟨rfl,HF4.be.fr hF3 (by omega),_,rfl,hL3.put _,λhe'=>absurd he' (St.fail_er st (by decide)),HF4.fr.trans hF3⟩
   . rintro e w4 ⟨rfl,hb4,HQ⟩;obtain⟨f0,ff,fz⟩:=zu hb4;go_wp2_with fail;go_ret;exact HQ
 | false => have hM:zao rx t st=(st.fail 2 st.t.a,0):=(by unfold zao;rw[if_neg (by rw[hc];simp)]);rw[hM];rw[hc] at HAt;go_enter func193,ntmps193;go_wp2_with fail;refine Eq.mpr (congrArg (λz=>xK 73 _ z _) (show _=zee w pb t.s t.a from rfl)) ?_;refine HAt.o.mono ?_;rintro e w' ⟨rfl,rfl⟩;generalize zee w pb t.s t.a=w0 at *;go_wp2_with (go_at_call 75;refine (zc5 S pb st 2 (by decide) _ HL4).mono ?_;rintro e w1 ⟨rfl,HL1,HF1⟩;obtain⟨f0,ff,fz⟩:=zu (HF4.be.fr HF1 (by omega)));go_ret;exact⟨_,rfl,HL1,λhe'=>absurd he' (St.fail_er st (by decide)),HF4.fr.trans HF1⟩
theorem PL.unfail {S:Nat->Addr}{w:World}{pb:Nat}{st:St}{e a:Nat}(h:PL S w pb (st.fail e a))(he:st.er≠0)(hk:st.t.k=1):PL S w pb st:=by
 have hf:st.fail e a={ st with t:=⟨1,st.t.a,st.t.t,⟨#[]⟩,0⟩ }:=by unfold St.fail;rw[if_neg he]
 rw[hf] at h;refine⟨⟨λh1=>by omega,λh1=>by omega,λh1=>by omega⟩,?_,h.gl,h.pb⟩;have:=h.heap;unfold zgL at this ⊢;simp only[ck,cs,cn] at this ⊢;rw[hk];exact this
theorem zls (st:St)(hT:Tx st.src st.t):opM st [1,2]=if st.is 5 [116,114,117,101]=true then some 1 else if st.is 5 [102,97,108,115,101]=true then some 2 else none:=by obtain⟨_,_,_,_,_,_,_,_,_,_,_,_,_,_,_,_,e1,e2⟩:=wdl;simp only[opM,e1,e2];rw[zar hT (by decide),zar hT (by decide)]
theorem zrY (n:Nat):zag zcq.toList n=0:=by
 have:zcq.toList=[110,117,109,98,101,114]:=by decide +kernel
 rw[this];rfl
theorem zrW (n:Nat):zbF zcq.toList n=n:=by
 have:zcq.toList=[110,117,109,98,101,114]:=by decide +kernel
 rw[this];rfl
theorem zrx:zag zcb.toList 1=1:=by decide +kernel
theorem zqG:zag zcb.toList 0=2:=by decide +kernel
theorem zrs (n:Nat):zbF zcb.toList n=0:=by
 have:zcb.toList=[98,111,111,108]:=by decide +kernel
 rw[this];rfl
theorem zqA:(⟨#[105,102]⟩:ByteArray).toList=[105,102]:=by decide +kernel
theorem zkr:(⟨#[109,101,114,103,101]⟩:ByteArray).toList=[109,101,114,103,101]:=by decide +kernel
theorem ziT {t:Tk}:(((ck t:Nat):Int)==4)=(t.k==3):=by
 by_cases h:t.k=3
 . simp[ck,h]
 . have:ck t≠4:=by unfold ck;(repeat' split) <;> first|decide|(exfalso;omega)
   have h2:(t.k==3)=false:=(by simp[h]);rw[h2];simp;omega
theorem zlD (M:Fn)(S:Nat->Addr)(pb:Nat)(st:St)(p:Nat)(w:World)(HI:Inv p st)(Hk:st.t.k=3)(hM:M st=zdP zcq st.t.n st)(HR:PL S w pb st) :
 xK 317 #[xP pb] w (zaW S pb w.heap.size w (M st).1 (M st).2):=by
 rw[hM];obtain⟨q0,q1,q2,q3,q4,q5,q6⟩:=HR.cells;have hck:=ziT (t:=st.t);rw[show (st.t.k==3)=true by simp[Hk]] at hck;have Hcn:cn st.t=st.t.n:=by simp[cn,Hk]
 have hlt:=HR.lt;have hne:¬w.heap.size=pb:=by omega
 have hfv:=zka;have HB:=za HI.toBad;have Hs:=za (zc8 HI.toBad (by omega:st.t.k≠1));clear hM;go_enter func317,ntmps317;go_wp2_with (go_at_call 242;refine (zb8 S pb st 0 _ HR).mono ?_;rintro e w' ⟨rfl,rfl⟩);refine (zb9 S pb st _ HB.o.ok (by rw[Hk];decide) (HR.alloc _)).mono ?_;rintro e w1 ⟨rfl,HL1,HF1⟩;rw[Hs.o] at HL1;have Hh1:=(HF1.block w.heap.size (Nat.lt_of_lt_of_eq (Nat.lt_succ_self _) (by simp)) hne).trans (zc w _);obtain⟨d0,d1,d2,d3,d4,d5,df,dz⟩:=zt Hh1;simp only[Tk.cval];go_wp2_with fail;go_ret;refine⟨some (xD w.heap.size 0),rfl,(HL1.setOther hlt _ _).put _,λ_=>TR.leaf (b:=w.heap.size) (ex:=⟨zcq,st.t.a,0,[],sE,st.t.n⟩) (Nat.le_refl _) ?_ rfl,(((Fr.refl _ w).alloc _).trans HF1).setNew (Nat.le_refl _) _ _⟩
 show _=some (Obj.cells #[xI (zag zcq.toList st.t.n:Nat),xI st.t.a,.string ⟨#[]⟩,xI (0:Nat),xI (zbF zcq.toList st.t.n:Nat),.slice none 0 0] 216 (0,0));rw[zrY,zrW,<- Hcn];exact zh _ _ _ _ Hh1
theorem zil (M:Fn)(n kk:Nat)(S:Nat->Addr)(pb:Nat)(st:St)(p:Nat)(w:World)(hI:Inv p st)(Hk:st.t.k=5)(hop:opM st [1,2]=some kk)(Hkk:zag zcb.toList n=kk)(hM:M st=zdP zcb n st)(HR:PL S w pb st) :
 xK 317 #[xP pb] w (zaW S pb w.heap.size w (M st).1 (M st).2):=by
 rw[hM];obtain⟨q0,q1,q2,q3,q4,q5,q6⟩:=HR.cells;have hck:=ziT (t:=st.t);rw[show (st.t.k==3)=false by simp[Hk]] at hck;have hlt:=HR.lt;have hne:¬w.heap.size+1=pb:=by omega
 have HOp:=za (zbd S pb st _ 2 [1,2] rfl (by decide) (w.alloc (.cells #[xI 1,xI 2] 213)) (zcD _ _ _ _ rfl) (by decide) hI.ok.tk (HR.alloc _));rw[hop] at HOp;simp only[opV] at HOp;have HB:=za hI.toBad;have Hs:=za (zc8 hI.toBad (by omega:st.t.k≠1));clear hI hM hop;go_enter func317,ntmps317;go_wp2_with (first|(go_at_call 289;refine HOp.o.mono ?_;rintro e w' ⟨rfl,rfl⟩)|(go_at_call 242;refine (zb8 S pb st kk _ (HR.alloc _)).mono ?_;rintro e w' ⟨rfl,rfl⟩)|(go_at_call 190;refine (zb9 S pb st _ HB.o.ok (by rw[Hk];decide) ((HR.alloc _).alloc _)).mono ?_;rintro e w1 ⟨rfl,HL1,HF1⟩;rw[Hs.o] at HL1));go_ret;have hh1:xH w1 (w.heap.size+1) #[xI kk,xI st.t.a,.string ⟨#[]⟩,xI 0,xI 0,.slice none 0 0] 216:=by refine (HF1.block (w.heap.size+1) (by simp) hne).trans ?_;have:=zc (w.alloc (.cells #[xI 1,xI 2] 213)) (.cells #[xI kk,xI st.t.a,.string ⟨#[]⟩,xI 0,xI 0,.slice none 0 0] 216);simpa using this
 refine⟨some (xD (w.heap.size+1) 0),rfl,HL1.put _,λ_=>TR.leaf (b:=w.heap.size+1) (ex:=⟨zcb,st.t.a,0,[],sE,n⟩) (by omega) ?_ rfl,((((Fr.refl _ w).alloc _).alloc _).trans HF1)⟩
 show _=some (Obj.cells #[xI (zag zcb.toList n:Nat),xI st.t.a,.string ⟨#[]⟩,xI (0:Nat),xI (zbF zcb.toList n:Nat),.slice none 0 0] 216 (0,0));rw[Hkk,zrs];exact hh1
theorem hn3 {t:Tk}(h3:t.k≠3):(((ck t:Nat):Int)==4)=false:=by rw[ziT];simp[h3]
theorem zeN {st:St}{k:Nat}{l:List UInt8}(h:st.t.k≠k):st.is k l=false:=by
 unfold St.is;have:(st.t.k==k)=false:=by simp[h]
 rw[this];rfl
theorem zdG (f:FuncId)(M:Fn)(b1 b2 b3:Bool)(S:Nat->Addr)(pb:Nat)(st:St)(p:Nat)(w:World)(hI:Inv p st)(hk:st.t.k≠3)(hop:opM st [1,2]=none)(hR:PL S w pb st)(hb1:st.is 4 [40]=b1)(hb2:st.is 5 [105,102]=b2)(hb3:st.is 5 [109,101,114,103,101]=b3)
 (hf:(b1=true/\f=320)∨(b1=false/\b2=true/\f=321)∨(b1=false/\b2=false/\b3=true/\f=322))
 (h:∀w1,PL S w1 pb st->xK f #[xP pb] w1 (zaW S pb w1.heap.size w1 (M st).1 (M st).2)) :
 xK 317 #[xP pb] w (zaW S pb w.heap.size w (M st).1 (M st).2):=by
 obtain⟨q0,q1,q2,q3,q4,q5,q6⟩:=hR.cells;have hck:=hn3 hk;have hlt:=hR.lt;have HOp:=za (zbd S pb st _ 2 [1,2] rfl (by decide) (w.alloc (.cells #[xI 1,xI 2] 213)) (zcD _ _ _ _ rfl) (by decide) hI.ok.tk (hR.alloc _));rw[hop] at HOp;simp only[opV] at HOp;have HA1:=za (zaP S pb st ⟨#[40]⟩ _ zfn (w.alloc (.cells #[xI 1,xI 2] 213)) hI.ok.tk (hR.alloc _));have HA2:=za (zaP S pb st ⟨#[105,102]⟩ _ zqA (w.alloc (.cells #[xI 1,xI 2] 213)) hI.ok.tk (hR.alloc _));have HA3:=za (zaP S pb st ⟨#[109,101,114,103,101]⟩ _ zkr (w.alloc (.cells #[xI 1,xI 2] 213)) hI.ok.tk (hR.alloc _));rw[zaB hR.tx (by decide),hb1] at HA1;rw[zar hR.tx (by decide),hb2] at HA2;rw[zar hR.tx (by decide),hb3] at HA3;have H1:=za (h (w.alloc (.cells #[xI 1,xI 2] 213)) (hR.alloc _));generalize M st=R at *;rcases hf with ⟨rfl,rfl⟩|⟨rfl,rfl,rfl⟩|⟨rfl,rfl,rfl,rfl⟩
 all_goals
  go_enter func317,ntmps317;go_wp2_with (first|(go_at_call 289;refine HOp.o.mono ?_;rintro e w' ⟨rfl,rfl⟩)|(go_at_call 73;first|(with_reducible refine HA1.o.mono ?_;rintro e w' ⟨rfl,rfl⟩)|(with_reducible refine HA2.o.mono ?_;rintro e w' ⟨rfl,rfl⟩)|(with_reducible refine HA3.o.mono ?_;rintro e w' ⟨rfl,rfl⟩)));refine H1.o.mono ?_;rintro e w1 h1;obtain⟨a,rfl,h2,h3,h4⟩:=h1.alloc (zaF _ _);go_wp2_with fail;go_ret;exact⟨a,rfl,h2,h3,h4⟩
theorem ze8 (S:Nat->Addr)(pb:Nat)(st:St)(p:Nat)(w:World)(hI:Inv p st)(hk:st.t.k≠3)(hop:opM st [1,2]=none)(HR:PL S w pb st)(hb1:st.is 4 [40]=false)(hb2:st.is 5 [105,102]=false)(hb3:st.is 5 [109,101,114,103,101]=false) :
 xK 317 #[xP pb] w (zaW S pb w.heap.size w (st.fail 2 st.t.a) 0):=by
 obtain⟨q0,q1,q2,q3,q4,q5,q6⟩:=HR.cells;have hck:=hn3 hk;have hlt:=HR.lt;have hg8:8<w.heap.size:=Nat.lt_of_lt_of_le (by decide) HR.gl.size;have hsyn:xC w 8 0 (.iface 399 (.pointer (some (S 2)))):=HR.gl.syn;have HOp:=za (zbd S pb st _ 2 [1,2] rfl (by decide) (w.alloc (.cells #[xI 1,xI 2] 213)) (zcD _ _ _ _ rfl) (by decide) hI.ok.tk (HR.alloc _));rw[hop] at HOp;simp only[opV] at HOp;have HA1:=za (zaP S pb st ⟨#[40]⟩ _ zfn (w.alloc (.cells #[xI 1,xI 2] 213)) hI.ok.tk (HR.alloc _));have HA2:=za (zaP S pb st ⟨#[105,102]⟩ _ zqA (w.alloc (.cells #[xI 1,xI 2] 213)) hI.ok.tk (HR.alloc _));have HA3:=za (zaP S pb st ⟨#[109,101,114,103,101]⟩ _ zkr (w.alloc (.cells #[xI 1,xI 2] 213)) hI.ok.tk (HR.alloc _));rw[zaB HR.tx (by decide),hb1] at HA1;rw[zar HR.tx (by decide),hb2] at HA2;rw[zar HR.tx (by decide),hb3] at HA3;go_enter func317,ntmps317;go_wp2_with (first|(go_at_call 242;refine (zb8 S pb (st.fail 2 st.t.a) 0 _ HL1).mono ?_;rintro e w' ⟨rfl,rfl⟩)|(go_at_call 289;refine HOp.o.mono ?_;rintro e w' ⟨rfl,rfl⟩)|(go_at_call 73;first|(with_reducible refine HA1.o.mono ?_;rintro e w' ⟨rfl,rfl⟩)|(with_reducible refine HA2.o.mono ?_;rintro e w' ⟨rfl,rfl⟩)|(with_reducible refine HA3.o.mono ?_;rintro e w' ⟨rfl,rfl⟩))|(go_at_call 75;refine (zc5 S pb st 2 (by decide) _ (HR.alloc _)).mono ?_;rintro e w1 ⟨rfl,HL1,HF1⟩));go_ret;exact⟨_,rfl,HL1.alloc _,λhe'=>absurd he' (St.fail_er st (by decide)),(((Fr.refl _ w).alloc _).trans HF1).alloc _⟩
theorem zhV {st:St}(hT:Tx st.src st.t)(h1:st.is 5 [116,114,117,101]=false)(h2:st.is 5 [102,97,108,115,101]=false):opM st [1,2]=none:=by rw[zls st hT,h1,h2];rfl
theorem zj9 {d:Nat}{rx ra:Fn}(hX:zX d 194 rx)(gX:zv d rx)(hS:zX d 326 (zch ra))(gA:zv d ra):ziL (d+1) (zap rx ra):=by
 intro S pb st p w hI hk2 ho hR;by_cases he:st.er=0
 . have h0:∀M:Fn,(M st=zap rx ra st)->zap rx ra st=M st:=λ_ h=>h.symm;by_cases h3:st.t.k=3
   . exact zlD (zap rx ra) S pb st p w hI h3 (by unfold zap;rw[if_neg (by simp[he]),if_pos h3]) hR
   have hM3:zap rx ra st=if st.is 4 [40]=true then zfQ rx st else if st.is 5 [116,114,117,101]=true then zdP zcb 1 st else if st.is 5 [102,97,108,115,101]=true then zdP zcb 0 st else if st.is 5 [105,102]=true then zdx rx st else if st.is 5 [109,101,114,103,101]=true then zeE ra st else (st.fail 2 st.t.a,0):=(by unfold zap;rw[if_neg (by simp[he]),if_neg h3,if_neg hk2]);cases hp:st.is 4 [40] with
   | true => have hk4:st.t.k=4:=Inv.is_k hp;rw[if_pos hp] at hM3;refine zdG 320 (zap rx ra) _ _ _ S pb st p w hI h3 (zhV hR.tx (zeN (by omega)) (zeN (by omega))) hR hp rfl rfl (Or.inl ⟨rfl,rfl⟩) ?_;intro w1 h1;rw[hM3];exact zme hX gX S pb st p w1 hI (by omega) ho h1
   | false =>
     rw[hp,if_neg (by simp)] at hM3;cases ht:st.is 5 [116,114,117,101] with
     | true => rw[ht,if_pos rfl] at hM3;exact zil (zap rx ra) 1 1 S pb st p w hI (Inv.is_k ht) (by rw[zls st hR.tx,ht];rfl) zrx hM3 hR
     | false =>
       rw[ht,if_neg (by simp)] at hM3;cases hf:st.is 5 [102,97,108,115,101] with
       | true => rw[hf,if_pos rfl] at hM3;exact zil (zap rx ra) 0 2 S pb st p w hI (Inv.is_k hf) (by rw[zls st hR.tx,ht,hf];rfl) zqG hM3 hR
       | false =>
         rw[hf,if_neg (by simp)] at hM3;have hop:=zhV hR.tx ht hf;cases hi:st.is 5 [105,102] with
         | true => have hk5:st.t.k=5:=Inv.is_k hi;rw[hi,if_pos rfl] at hM3;refine zdG 321 (zap rx ra) _ _ _ S pb st p w hI h3 hop hR hp hi rfl (Or.inr (Or.inl ⟨rfl,rfl,rfl⟩)) ?_;intro w1 h1;rw[hM3];exact zkZ hX gX S pb st p w1 hI (by omega) ho h1
         | false =>
           rw[hi,if_neg (by simp)] at hM3;cases hm:st.is 5 [109,101,114,103,101] with
           | true => have hk5:st.t.k=5:=Inv.is_k hm;rw[hm,if_pos rfl] at hM3;refine zdG 322 (zap rx ra) _ _ _ S pb st p w hI h3 hop hR hp hi hm (Or.inr (Or.inr ⟨rfl,rfl,rfl,rfl⟩)) ?_;intro w1 h1;rw[hM3];exact zmk hS gA S pb st p w1 hI (by omega) ho h1
           | false => rw[hm,if_neg (by simp)] at hM3;rw[hM3];exact ze8 S pb st p w hI h3 hop hR hp hi hm
 . have hk1:=hI.bad he;have hM:zap rx ra st=(st,0):=by unfold zap;rw[if_pos he]
   rw[hM];refine (ze8 S pb st p w hI (by omega) (zhV hR.tx (zeN (by omega)) (zeN (by omega))) hR (zeN (by omega)) (zeN (by omega)) (zeN (by omega))).mono ?_;rintro e w1 ⟨a,h1,h2,_,h4⟩;exact⟨a,h1,h2.unfail he hk1,λh=>absurd h he,h4⟩
theorem znu:∀d,zX d 194 (lev d).ex/\zX d 308 (lev d).un/\ziL d (lev d).at'/\zdI d (if d=0 then (lev 0).ex else (lev (d-1)).ex):=by
 intro d;induction d with
 | zero =>
   have h:∀(f:FuncId) (M:Fn),zX 0 f M:=λf M S pb st p w hI ho _=>by have:=hI.op1;omega
   exact⟨h _ _,h _ _,λS pb st p w hI _ ho _=>by have:=hI.op1;omega,λS pb st p w t hI ho _ _=>by have:=hI.op1;omega⟩
 | succ d ih => obtain⟨g1,g2,g3⟩:=zgP d;obtain⟨h1,h2,h3,_⟩:=ih;have hK:=zof h1 g1;have hN:=zj9 h1 g1 (znY h3) g3;have ga:=zh7 g1 g3;have ha:=znf hN hK;have gs:=zfY ga;have hs:=zjM ha ga;have gu:=zhu g2 gs;have hu:=zm9 h2 g2 hs;have r3:=zkb hu gu;have s3:=zcF (lv:=3) gu;have r2:=zp2 r3 s3;have s2:=zcF (lv:=2) s3;have tt:=zne r2 s2;have st:=zh6 s2;have r1:=znl tt st;have s1:=zcF (lv:=1) st;have r0:=zlW r1 s1;have s0:=zcF (lv:=0) s1;exact⟨zoz h1 g1 r0 s0,hu,hN,hK⟩
end
end Go.Proofs.YtmfkofhgdjechaaGreatDoor
