/- Part 5 of the proof. -/
import Derived.Test.YtbicmofihhjgbaaGreatDoorK03
set_option maxRecDepth 100000
set_option maxHeartbeats 8000000
namespace Go.Proofs.YtbicmofihhjgbaaGreatDoor
open Go.Proofs.Tryz
open Go.RowKit
section
variable {rx:Fn} {L:List Ex} {d p y:Nat} {av u:Xv} {w wr:Xw}
theorem zpl:zH 190:=λ_ _=>by kernel_rfl
theorem Tryz.infoXp:(prog.info? 182).map (λi=>(i.zero,i.size,i.bytes))=some (some (.pointer none),1,8):=by kernel_rfl
theorem zlz:(⟨#[44]⟩:Xb).toList=[44]:=by decide +kernel
theorem Fwd.er0' {a b:St}(h:Fwd p a b)(hb:b.er=0):a.er=0:=h.er0 hb
def TRI (w wr:Xw)(av:Xv)(L:List Ex)(y:Nat)(u:Xv):Prop :=
 ∃(wi:Xw) (Bi:Nat),w.heap.size<=Bi/\TR wi Bi L y u/\(∀k,Bi<=k->k<wi.heap.size->wr.heap[k]?=wi.heap[k]?)/\(∀g,av.ownBlock=some g->g<Bi∨wi.heap.size<=g)/\wi.heap.size<=wr.heap.size
theorem TRI.now (h:TRI w wr av L y u):TR wr w.heap.size L y u:=by obtain⟨wi,Bi,h1,h2,h3,_,_⟩:=h;exact (h2.kept h3).down h1
theorem TRI.next {w':Xw}{av':Xv}(h:TRI w wr av L y u)(E:List Ex){T:Xj}(hf:Fr T wr w')(hT:∀k,T k->k<w.heap.size∨av.ownBlock=some k)(ha:∀k,av'.ownBlock=some k->av.ownBlock=some k∨wr.heap.size<=k):TRI w w' av' (L++E) y u:=by
 obtain⟨wi,Bi,h1,h2,h3,h4,h5⟩:=h;refine⟨wi,Bi,h1,h2.more E,λk hk1 hk2=>?_,λg hg=>?_,zMO h5 hf.size⟩
 . refine (hf.block k (zM9 hk2 h5) (λht=>?_)).trans (h3 k hk1 hk2);rcases hT k ht with h|h
   . omega
   rcases h4 k h with h|h <;> omega
 rcases ha g hg with h|h
 . exact h4 g h
 exact zM4 (zMO h5 h)
structure zjp (S:Xs) (pb eb p d:Nat) (w wr:Xw) (v0 v1 v2 v3 v4:Xv) (s:St) (l:Xn) (vs:Xm) (av:Xv):Prop where
 inv:Inv p s
 op:18<=s.op+d
 pl:PL S wr pb s
 blk:xH wr eb #[v0,v1,v2,v3,v4,av] 226
 own:wr.ownsRow w.heap.size 182 1 av vs.length vs
 len:vs.length=l.length
 tr:s.er=0->∀(i y:Nat) (u:Xv),l[i]?=some y->vs[i]?=some u->TRI w wr av s.L y u
 fr:Fr (λk=>k=pb∨k=eb) w wr
 few:l.length<=s.t.a
theorem zmt {S:Xs}{pb eb:Nat}{w1 w9:Xw}{v0 v1 v2 v3 v4:Xv}{s:St}{l:Xn}{vs:Xm}{v':Xv}{a1:Xp}{X:Obj}
 (HA:zjp S pb eb p d w wr v0 v1 v2 v3 v4 s l vs av) (g1:zaN rx s p) (hll:l.length+1<=s.t.a) (n3:pb<eb) (hzb:eb<w.heap.size) (hF1:Fr (·=pb) wr w1) (hT1:(rx s).1.er=0->TR w1 wr.heap.size (rx s).1.L (rx s).2 (.pointer a1))
 (hL9:PL S w9 pb (rx s).1) (hF9:Fr (λk=>av.ownBlock=some k) (w1.alloc X) w9) (heb9:w9.heap[eb]?=some (.cells #[v0,v1,v2,v3,v4,av] 226 (0,0))) (hown:w9.ownsRow w.heap.size 182 1 v' (vs.length+1) (vs++[.pointer a1]))
 (hnew:∀k,v'.ownBlock=some k->av.ownBlock=some k∨(w1.alloc X).heap.size<=k):zjp S pb eb p d w (w9.setCell (xD eb 5) v') v0 v1 v2 v3 v4 (rx s).1 (l++[(rx s).2]) (vs++[.pointer a1]) v':=by
 have hav:∀k,av.ownBlock=some k->w.heap.size<=k/\k<wr.heap.size:=λk hk=>HA.own.lt k hk;have hzr:=HA.fr.size;have hz1:=hF1.size;have hplt:=HA.pl.lt;have hzx:(w1.alloc X).heap.size=w1.heap.size+1:=by simp
 have hFa:Fr (λk=>k=pb∨k=eb∨av.ownBlock=some k) wr (w9.setCell (xD eb 5) v'):=by have h1:Fr (λk=>k=pb∨k=eb∨av.ownBlock=some k) wr (w1.alloc X):=(hF1.mono (λ_ _ h=>zM3 h)).alloc X;exact (h1.trans' hF9 (λ_ _ h=>zM4 (zM4 h))).setCell (zM3 (zM4 (zM3 rfl))) _
 obtain⟨E,hE⟩:=g1.L;have hv':∀k,v'.ownBlock=some k->w.heap.size<=k:=λk hk=>(hown.lt k hk).1;refine⟨g1.inv,by rw[g1.op];exact HA.op,hL9.setOther n3 _ _,zh _ _ _ _ heb9,?_,by simp[HA.len],?_,?_,?_⟩
 . rw[zMM];exact zi hown (λk h1 _ _=>zr (by omega) rfl)
 . intro he i y u hi hu;rcases Nat.lt_or_ge i l.length with h|h
   . rw[zM6 h] at hi;rw[zM6 (by rw[HA.len];exact h)] at hu;rw[hE];refine (HA.tr (g1.fwd.er0' he) i y u hi hu).next E hFa (λk hk=>?_) (λk hk=>?_)
     . rcases hk with h|h|h
       . left;omega
       . left;omega
       exact zM4 h
     rcases hnew k hk with h|h
     . exact zM3 h
     right;omega
   have h2:i=l.length:=(by have:=(zMJ.1 hi).1;simp at this;omega);subst h2;rw[zM5 (zMK _)] at hi;rw[<- HA.len,zM5 (zMK _)] at hu;simp at hi hu;subst hi hu;refine⟨w1,wr.heap.size,hzr,hT1 he,λk h1 h2=>?_,λg hg=>?_,?_⟩
   . refine zr (by omega) ((hF9.block k (by omega) (λh=>by have:=(hav k h).2;omega)).trans (Below.heap_alloc _ _ _ h2))
   . rcases hnew g hg with h|h
     . left;exact (hav g h).2
     right;omega
   have:=hF9.size;simp[World.setCell];omega
 . have h1:Fr (λk=>k=pb∨k=eb) w (w1.alloc X):=(HA.fr.trans' hF1 (λ_ _ h=>zM3 h)).alloc X;exact (h1.trans' hF9 (λi hi h=>by have:=(hav i h).1;omega)).setCell (zM3 (zM4 rfl)) _
 have:=g1.ta;simp;omega
theorem zku {a:Xp}:∀u∈[Value.pointer a],u.oneCell'=true:=by intro u hu;simp at hu;subst hu;rfl
theorem zmh (HX:zX d 190 rx)(GX:zv d rx)(S:Xs)(pb:Nat)(st:St)(p:Nat)(w:Xw)(bp be eb:Nat)(v0 v1 v2 v3 v4:Xv)(hI:Inv p st)(ho:18<=st.op+d)(ha:1<=st.t.a)(hR:PL S w pb st)(Hbp:Box w bp 172 (xP pb))(Hbe:Box w be 182 (xP eb))(heb:xH w eb #[v0,v1,v2,v3,v4,.slice none 0 0] 226)(n0:¬bp=pb)(n1:¬be=pb)(n3:pb<eb)(n4:¬bp=eb)(n5:¬be=eb) :
 xK 206 #[xP bp,xP be] w λe w'=>e=.returned (.tuple #[])/\∃vs av,PL S w' pb ((zbG rx st).1.must 4 [41])/\xH w' eb #[v0,v1,v2,v3,v4,av] 226/\w'.ownsRow w.heap.size 182 1 av vs.length vs/\vs.length=(zbG rx st).2.length /\
  Hid (((zbG rx st).1.must 4 [41]).er=0->∀(i y:Nat) (u:Xv),(zbG rx st).2[i]?=some y->vs[i]?=some u->TR w' w.heap.size (zbG rx st).1.L y u)/\Fr (λk=>k=pb∨k=eb) w w':=by
 have n2:¬eb=pb:=by omega
 have hzb:=ze heb;have hlt:=hR.lt;have HA0:zjp S pb eb p d w w v0 v1 v2 v3 v4 st [] [] (.slice none 0 0):=⟨hI,ho,hR,heb,World.ownsRow_nil _ _ _ _,rfl,λ_ i y u h _=>by simp at h,Fr.refl _ _,by simp⟩;have Hst:Hid (1201-st.t.a<1300):=by unfold Hid;omega
 have hRes0:zbG rx st=zc1 rx 1300 ((rx st).1,[]++[(rx st).2]):=rfl;obtain⟨i0,hi,hz0,hz1,hz2⟩:=info_parts Tryz.infoXp;obtain⟨R,hRes⟩:∃R,zbG rx st=R:=⟨_,rfl⟩;rw[hRes];rw[hRes] at hRes0;have HRes:=za hRes0.symm;clear hRes hRes0 hR hI ho heb;go_enter func206,ntmps206;go_wp2_with fail;go_loopg [2] 1300 (λk m wr=>∃(b:Bool) (s:St) (l:Xn) (vs:Xm) (av:Xv),m=.bool b/\Hid (zjp S pb eb p d w wr v0 v1 v2 v3 v4 s l vs av)/\Hid (b=true->zc1 rx k ((rx s).1,l++[(rx s).2])=R/\1201-s.t.a<k/\l.length+1<=s.t.a)/\Hid (b=false->(s,l)=R));case atStart=>exact⟨true,st,[],[],_,rfl,HA0,λ_=>⟨HRes.o,Hst.o,by simpa using ha⟩,λh=>by cases h⟩
 case round =>
  obtain⟨b,s,l,vs,av,rfl,HA,HT,HFa⟩:=hrel;have hz:=HA.o.fr.size;have hltr:=HA.o.pl.lt;have Hbp1:=HA.o.fr.keep2 Hbp n0 n4;have Hbe1:=HA.o.fr.keep2 Hbe n1 n5;obtain⟨p0,pf,pz⟩:=zu Hbp1;obtain⟨e0,ef,ez⟩:=zu Hbe1;cases b with
  | false => have HQ:=HFa.o rfl;have HBd:=za HA.o.inv.toBad;clear HT HFa;go_wp2_with (go_at_call 150;refine (zP S pb s _ [41] zlq _ HBd.o HA.o.pl).mono ?_;rintro e w2 ⟨rfl,HL2,HF2⟩);go_end0;rw[<- HQ];have hm:s.expM [41]=s.must 4 [41]:=zan HA.o.pl.tx (by decide);refine⟨rfl,vs,av,hm▸HL2,(HF2.block eb (ze HA.o.blk) n2).trans HA.o.blk,zi HA.o.own (λk h1 h2 _=>HF2.block k h2 (by omega)),HA.o.len,?_,HA.o.fr.trans' HF2 (λ_ _ h=>zM3 h)⟩;intro Her i y u h1 h2;exact (HA.o.tr ((Fwd.must HA.o.inv 4 [41]).er0 Her) i y u h1 h2).now.fr HF2 (λk h1 _ h2=>by omega)
  | true =>
    obtain⟨hR1,Hrem,Hll⟩:=HT.o rfl;have Hg:=GX s p HA.o.inv HA.o.op;have HXs:=za (λw1 h=>HX S pb s p w1 HA.o.inv HA.o.op h);obtain⟨E,HE⟩:=Hg.L;have HR1:=za hR1;have hvl:vs.length<=1200:=(by have:=HA.o.few;have:=HA.o.inv.ok.ta_le;have:=HA.o.len;omega);have mx:vs.length+1<=maxLen:=(by unfold maxLen;omega);have by':(vs.length+1)*8<=140737488355328:=(by omega);obtain⟨d0,d1,d2,d3,d4,Hd5,df,dz⟩:=zt HA.o.blk;clear HT HFa hR1;go_upto_block 1 with fail;go_cut [] (λwx=>∃vs' av',Hid (zjp S pb eb p d w wx v0 v1 v2 v3 v4 (rx s).1 (l++[(rx s).2]) vs' av'));case first =>
     go_wp2_with fail;go_region_law (first|(refine zbL rfl 190 (.tmp 11) 172 rfl zpl (xP pb) rfl (HXs.o _ HA.o.pl.drew) ?_;rintro e w1 ⟨a1,rfl,HL1,hT1,hF1'⟩;refine⟨_,rfl,?_⟩;have HF1:Fr (·=pb) wr w1:=hF1'.undrew;have hzc:=HF1.size;have Heb1:=(HF1.block eb (ze HA.o.blk) n2).trans HA.o.blk;obtain⟨f0,f1,f2,f3,f4,f5,ff,fz⟩:=zt Heb1;obtain⟨j0,jf,jz⟩:=zu (Hbe1.fr HF1 n1);obtain⟨k0,kf,kz⟩:=zu (Hbp1.fr HF1 n0);have Hown1:=za (zi HA.o.own (λk h1 h2 _=>HF1.block k h2 (by omega)));have hzw:w.heap.size<=w1.heap.size+1:=(by omega);clear hF1')|(refine zJ _ rfl (.tmp 10) (.tmp 13) 224 rfl w.heap.size 182 i0 _ 1 8 underlying224 hi hz0 hz1 hz2 rfl (by decide) av vs.length vs rfl (zD Hown1.o _) (xD w1.heap.size 0) 1 1 [.pointer a1] rfl rfl (zN (zc w1 _) rfl) zku mx by' (by simpa using hzw) ?_;intro v' w9 Hown9 hgrow Hnew9;obtain⟨g9,cap9,rfl,hg9⟩:=zM Hown9 (by omega);have Hav:∀k,av.ownBlock=some k->w.heap.size<=k:=λk hk=>(Hown1.o.lt k hk).1;have HF9:=Fr.of_grown hgrow;have hb9:∀k,k<w.heap.size->w9.heap[k]?=w1.heap[k]?:=(λk hk=>(HF9.block k (by rw[zsb];omega) (λh=>by have:=Hav k h;omega)).trans (Below.heap_alloc _ _ _ (by omega)));obtain⟨m0,m1,m2,m3,m4,m5,mf,mz⟩:=zt ((hb9 eb hzb).trans Heb1);have Heb9:=za ((hb9 eb hzb).trans Heb1);obtain⟨o0,of',oz⟩:=zu ((hb9 be (ze Hbe)).trans (Hbe1.fr HF1 n1));have Hbp9:=za ((hb9 bp (ze Hbp)).trans (Hbp1.fr HF1 n0));have HL9:Hid (PL S w9 pb (rx s).1):=(HL1.alloc _).fr HF9 (λk hk=>by have:=Hav k hk;omega);clear hgrow hb9));all_goals go_wp2_with fail
     all_goals go_meet
     all_goals exact⟨_,_,zmt HA.o Hg Hll n3 hzb HF1 hT1.out HL9.o HF9 Heb9.o Hown9 Hnew9⟩
    case rest =>
     obtain⟨vs2,av2,HA2⟩:=hcut;have hzq:=HA2.o.fr.size;obtain⟨p2,pf2,pz2⟩:=zu (HA2.o.fr.keep2 Hbp n0 n4);have HBd:=za HA2.o.inv.toBad;have HSk:=za (zbg S pb (rx s).1 ⟨#[44]⟩ [44] zlz wc HBd.o HA2.o.pl);rw[zaB HA2.o.pl.tx (by decide)] at HSk;have hska:(rx s).1.skipM [44]=if (rx s).1.is 4 [44]=true then (rx s).1.step else (rx s).1:=(by unfold St.skipM;rw[zaB HA2.o.pl.tx (by decide)]);rw[hska] at HSk;clear p0 pf pz e0 ef ez d0 d1 d2 d3 d4 df dz hska;obtain⟨g,rfl⟩:∃g,gk=g+1:=⟨gk-1,by have:=Hrem;omega⟩;have hR1:=HR1.o;have hunf:zc1 rx (g+1) ((rx s).1,l++[(rx s).2])=if (rx s).1.er=0/\(rx s).1.is 4 [44]=true then zc1 rx g ((rx (rx s).1.step).1,(l++[(rx s).2])++[(rx (rx s).1.step).2]) else ((rx s).1,l++[(rx s).2]):=rfl;rw[hunf] at hR1;cases hc:(rx s).1.is 4 [44] with
     | true =>
       have Her:(rx s).1.er=0:=HBd.o.er (by rw[Inv.is_k hc];decide);rw[zM2 ⟨Her,hc⟩] at hR1;have HR2:=za hR1;rw[hc,zM2 rfl] at HSk;have e5:=Fwd.use HA2.o.inv Her (by rw[Inv.is_k hc];decide);have e5':=Fwd.step HA2.o.inv;have Hta:(rx s).1.t.a+1<=(rx s).1.step.t.a:=(by have h1:=HA2.o.inv.tok (by rw[Inv.is_k hc];decide);have h2:=zV (rx s).1.src (rx s).1.t.t HA2.o.inv.ok.tt;rw[St.step_ok Her];simp only;omega);have HS5:(rx s).1.step.L=(rx s).1.L:=St.step_L _;have HN:Hid (zc1 rx g ((rx (rx s).1.step).1,(l++[(rx s).2])++[(rx (rx s).1.step).2])=R/\1201-(rx s).1.step.t.a<g/\(l++[(rx s).2]).length+1<=(rx s).1.step.t.a):=by
        refine⟨HR2.o,?_,?_⟩
        . have h1:=Hg.ta;have h2:=Hrem;have h3:=HA.o.inv.ok.ta_le;have h4:=e5'.inv.ok.ta_le;omega
        have h1:=HA2.o.few;omega
       have HI5:=za e5'.inv;clear hR1 hunf hc e5 e5';go_wp2_with (go_at_call 153;refine HSk.o.mono ?_;rintro e w3 ⟨rfl,HL3,HF3⟩);go_roundg g;case measure=>omega
       refine⟨true,(rx s).1.step,l++[(rx s).2],vs2,av2,rfl,⟨HI5.o,by rw[St.step_op];exact HA2.o.op,HL3,(HF3.block eb (ze HA2.o.blk) n2).trans HA2.o.blk,zi HA2.o.own (λk h1 h2 _=>HF3.block k h2 (by omega)),HA2.o.len,?_,HA2.o.fr.trans' HF3 (λ_ _ h=>zM3 h),?_⟩,λ_=>HN.o,λh=>by cases h⟩
       . intro _ i y u h1 h2;rw[HS5];have:=(HA2.o.tr Her i y u h1 h2).next [] HF3 (av':=av2) (λk hk=>by left;omega) (λk hk=>zM3 hk);rwa [List.append_nil] at this
       have h1:=HA2.o.few;have h2:=Hta;omega
     | false =>
       rw[zM1 (by rw[hc];simp)] at hR1;have HR2:=za hR1;rw[hc,zM1 (by simp)] at HSk;clear hR1 hunf hc;go_wp2_with (go_at_call 153;refine HSk.o.mono ?_;rintro e w3 ⟨rfl,HL3,HF3⟩);go_roundg g;case measure=>omega
       refine⟨false,(rx s).1,l++[(rx s).2],vs2,av2,rfl,⟨HA2.o.inv,HA2.o.op,HL3,(HF3.block eb (ze HA2.o.blk) n2).trans HA2.o.blk,zi HA2.o.own (λk h1 h2 _=>HF3.block k h2 (by omega)),HA2.o.len,?_,HA2.o.fr.trans' HF3 (λ_ _ h=>zM3 h),HA2.o.few⟩,(λh=>by cases h),λ_=>HR2.o⟩;intro Her i y u h1 h2;have:=(HA2.o.tr Her i y u h1 h2).next [] HF3 (av':=av2) (λk hk=>by left;omega) (λk hk=>zM3 hk);rwa [List.append_nil] at this
end
section
theorem zol:zH 206:=λ_ _=>by kernel_rfl
theorem zrg:zag zef.toList 0=4:=by decide +kernel
structure zrS (w w0:Xw) (pb:Nat) (s:Xb) (a:Nat):Prop where
 bp:Box w0 w.heap.size 172 (xP pb)
 eb:xH w0 (w.heap.size+1+1) #[xI 4,xI a,.string s,xI a,xI 0,.slice none 0 0] 226
 be:Box w0 (w.heap.size+1+1+1) 182 (xP (w.heap.size+1+1))
 fr:Fr (·=pb) w w0
 size:w0.heap.size=w.heap.size+1+1+1+1
def zee (w:Xw)(pb:Nat)(s:Xb)(a:Nat):World:=(((w.alloc (.cells #[xP pb] 172)).alloc (.cells #[.string s,xI a] 117)).alloc (.cells #[xI 4,xI a,.string s,xI a,xI 0,.slice none 0 0] 226)).alloc (.cells #[xP (w.heap.size+1+1)] 182)
theorem zrN (w:Xw)(pb:Nat)(s:Xb)(a:Nat):zrS w (zee w pb s a) pb s a:=by
 unfold zee;refine⟨?_,?_,?_,((((Fr.refl _ w).alloc _).alloc _).alloc _).alloc _,by simp⟩
 . exact (Below.heap_alloc _ _ _ (by simp;omega)).trans ((Below.heap_alloc _ _ _ (by simp;omega)).trans ((Below.heap_alloc _ _ _ (by simp)).trans (zc w _)))
 . refine (Below.heap_alloc _ _ _ (by simp)).trans ?_;have:=zc ((w.alloc (.cells #[xP pb] 172)).alloc (.cells #[.string s,xI a] 117)) (.cells #[xI 4,xI a,.string s,xI a,xI 0,.slice none 0 0] 226);simpa using this
 have:=zc (((w.alloc (.cells #[xP pb] 172)).alloc (.cells #[.string s,xI a] 117)).alloc (.cells #[xI 4,xI a,.string s,xI a,xI 0,.slice none 0 0] 226)) (.cells #[xP (w.heap.size+1+1)] 182);unfold Box;simpa using this
theorem zpo {S:Xs}{w:Xw}{pb:Nat}{st:St}(h:PL S w pb st)(s:Xb)(a:Nat):PL S (zee w pb s a) pb st:=(((h.alloc _).alloc _).alloc _).alloc _
theorem zof {d:Nat}{rx:Fn}(hX:zX d 190 rx)(gX:zv d rx):zdI (d+1) rx:=by
 intro S pb st p w t HI ho hta hR;have hlt:=hR.lt;have hmf:∀(fn:Go.Fn) (first cap:Xa) (w:Xw),(Instr.makeFunc fn first cap).run prog w=.ok (.func fn first cap) w:=λ_ _ _ _=>rfl;have HF4:=zrN w pb t.s t.a;have HL4:=zpo hR t.s t.a;have HAt:=za (zaP S pb st ⟨#[40]⟩ _ zfn (zee w pb t.s t.a) HI.ok.tk HL4);rw[zaB hR.tx (by decide)] at HAt;have hg8:8<w.heap.size:=zM9 (by decide) hR.gl.size;have hsyn:xC (zee w pb t.s t.a) 8 0 (.iface 324 (.pointer (some (S 2)))):=HL4.gl.syn;obtain⟨be0,bef,bez⟩:=zu HF4.be;obtain⟨bp0,bpf,bpz⟩:=zu HF4.bp;cases hc:st.is 4 [40] with
 | true =>
   have Hk4:st.t.k=4:=Inv.is_k hc;have he:=HI.toBad.er (by omega);have e1:=Fwd.enter HI he (by omega:2<=st.t.k);have hoE:18<=st.enter.op+d:=(by rw[St.enter_op];omega);have htaE:1<=st.enter.t.a:=(by have:=e1.ta;omega);obtain⟨ag1,HgO,ag3⟩:=zid gX e1.inv hoE htaE;have HC:=za (λw1 b0 b1 b2 hR1=>zmh hX gX S pb st.enter (p+1) w1 w.heap.size (w.heap.size+1+1+1) (w.heap.size+1+1) (xI 4) (xI t.a) (.string t.s) (xI t.a) (xI 0) e1.inv hoE htaE hR1 b0 b1 b2 (by omega) (by omega) (by omega) (by omega) (by omega));have hM:zao rx t st=(((zbG rx st.enter).1.must 4 [41]).leave.put ⟨zef,t.a,t.a,(zbG rx st.enter).2,t.s,0⟩):=(by unfold zao;rw[zM2 hc]);rw[hM];have HD:Hid (st.op=16->((zbG rx st.enter).1.must 4 [41]).leave=st.fail 3 st.t.a):=by
    intro h16;have hE:=St.enter_deep h16;have he3:st.enter.er≠0:=(by rw[hE];exact St.fail_er _ (by decide));have q1:(rx st.enter).1=st.enter:=(by rw[(gX st.enter (p+1) e1.inv hoE).er he3]);have q2:(zbG rx st.enter).1=st.enter:=by
     show (zc1 rx 1300 ((rx st.enter).1,[(rx st.enter).2])).1=st.enter
     show (if (rx st.enter).1.er=0/\(rx st.enter).1.is 4 [44]=true then _ else ((rx st.enter).1,[(rx st.enter).2])).1=st.enter;rw[zM1 (by rw[q1];exact λh=>he3 h.1)];exact q1
    have q3:(zbG rx st.enter).1.must 4 [41]=st.enter:=(by rw[q2,hE];exact St.fail_must _ (by decide) (by decide));rw[q3,zd0 h16]
   rw[hc] at HAt;generalize zbG rx st.enter=A at *;go_enter func189,ntmps189;go_wp2_with fail;refine Eq.mpr (congrArg (λz=>xK 85 _ z _) (show _=zee w pb t.s t.a from rfl)) ?_;refine HAt.o.mono ?_;rintro e w' ⟨rfl,rfl⟩;generalize zee w pb t.s t.a=w0 at *;go_wp2_with fail;refine (zdz _ _ zol S pb st p w0 HI (by rw[Hk4];decide) HL4 (λe w'=>e=.returned (.tuple #[])/\Box w' (w.heap.size+1+1+1) 182 (xP (w.heap.size+1+1))/\zaW S pb w.heap.size w ((A.1.must 4 [41]).leave.put ⟨zef,t.a,t.a,A.2,t.s,0⟩).1 ((A.1.must 4 [41]).leave.put ⟨zef,t.a,t.a,A.2,t.s,0⟩).2 (.returned (xP (w.heap.size+1+1))) w') ?_ ?_).mono ?_
   . intro hlt16 w2 hL2 hF2;have T1:=HF4;refine (HC.o w2 (T1.bp.fr hF2 (by omega)) (T1.be.fr hF2 (by omega)) ((hF2.block _ (ze T1.eb) (by omega)).trans T1.eb) hL2).mono ?_;rintro e w3 ⟨rfl,vs,av,hL3,hb3,hown3,hlen3,hT3,hF3⟩;refine⟨rfl,A.1.must 4 [41],hL3,by rw[St.must_op,HgO,St.enter_op];omega,by rw[St.must_op,HgO,St.enter_op];omega,?_⟩;intro w4 HL4 hF4;have hFw:Fr (·=pb) w w4:=(Fr.drop2 (T1.fr.trans hF2) hF3 (by omega)).trans hF4;have hz02:w0.heap.size<=w2.heap.size:=hF2.size;have hz0:=T1.size;refine⟨rfl,Box.fr (Fr.keep2 hF3 (T1.be.fr hF2 (by omega)) (by omega) (by omega)) hF4 (by omega),_,rfl,HL4.put _,?_,hFw⟩;intro he';have hLL:(A.1.must 4 [41]).leave.L=A.1.L:=St.must_L _ _ _
     show TR w4 w.heap.size ((A.1.must 4 [41]).leave.L++[⟨zef,t.a,t.a,A.2,t.s,0⟩]) (A.1.must 4 [41]).leave.L.length _;rw[hLL];have hown4:=zR (zi hown3 (λk h1 h2 _=>hF4.block k h2 (by omega))) (by omega:w.heap.size<=w2.heap.size);refine TR.mk A.1.L.length ⟨zef,t.a,t.a,A.2,t.s,0⟩ _ av vs (by simp) (by omega) ?_ hown4 hlen3 ?_
     . show _=some (Obj.cells #[xI (zag zef.toList 0:Nat),xI t.a,.string t.s,xI t.a,xI (zbF zef.toList 0:Nat),av] 226 (0,0));rw[zrg,zbK];exact (hF4.block _ (ze hb3) (by omega)).trans hb3
     intro i y u hi hu;exact (((hT3.out he' i y u hi hu).fr hF4 (λk h1 _ h2=>by omega)).down (by omega)).more _
   . intro h16 w3 hL3 hF3;rw[HD.o h16];exact⟨rfl,HF4.be.fr hF3 (by omega),_,rfl,hL3.put _,λhe'=>absurd he' (St.fail_er st (by decide)),HF4.fr.trans hF3⟩
   rintro e w4 ⟨rfl,hb4,HQ⟩;obtain⟨f0,ff,fz⟩:=zu hb4;go_wp2_with fail;go_ret;exact HQ
 | false => have hM:zao rx t st=(st.fail 2 st.t.a,0):=(by unfold zao;rw[zM1 (by rw[hc];simp)]);rw[hM];rw[hc] at HAt;go_enter func189,ntmps189;go_wp2_with fail;refine Eq.mpr (congrArg (λz=>xK 85 _ z _) (show _=zee w pb t.s t.a from rfl)) ?_;refine HAt.o.mono ?_;rintro e w' ⟨rfl,rfl⟩;generalize zee w pb t.s t.a=w0 at *;go_wp2_with (go_at_call 87;refine (zc5 S pb st 2 (by decide) _ HL4).mono ?_;rintro e w1 ⟨rfl,HL1,HF1⟩;obtain⟨f0,ff,fz⟩:=zu (HF4.be.fr HF1 (by omega)));go_ret;exact⟨_,rfl,HL1,λhe'=>absurd he' (St.fail_er st (by decide)),HF4.fr.trans HF1⟩
theorem PL.unfail {S:Xs}{w:Xw}{pb:Nat}{st:St}{e a:Nat}(h:PL S w pb (st.fail e a))(he:st.er≠0)(hk:st.t.k=1):PL S w pb st:=by
 have hf:st.fail e a={ st with t:=⟨1,st.t.a,st.t.t,⟨#[]⟩,0⟩ }:=by unfold St.fail;rw[zM1 he]
 rw[hf] at h;refine⟨⟨λh1=>by omega,λh1=>by omega,λh1=>by omega⟩,?_,h.gl,h.pb⟩;have:=h.heap;unfold zgL at this ⊢;simp only[ck,cs,cn] at this ⊢;rw[hk];exact this
theorem zls (st:St)(hT:Tx st.src st.t):opM st [1,2]=if st.is 5 [116,114,117,101]=true then some 1 else if st.is 5 [102,97,108,115,101]=true then some 2 else none:=by obtain⟨_,_,_,_,_,_,_,_,_,_,_,_,_,_,_,_,e1,e2⟩:=wdl;simp only[opM,e1,e2];rw[zar hT (by decide),zar hT (by decide)]
theorem zrY (n:Nat):zag zcq.toList n=0:=by
 have:zcq.toList=[110,117,109,98,101,114]:=by decide +kernel
 rw[this];rfl
theorem zrW (n:Nat):zbF zcq.toList n=n:=by
 have:zcq.toList=[110,117,109,98,101,114]:=by decide +kernel
 rw[this];rfl
theorem zrx:zag zcb.toList 1=1:=by decide +kernel
theorem zqG:zag zcb.toList 0=2:=by decide +kernel
theorem zrs (n:Nat):zbF zcb.toList n=0:=by
 have:zcb.toList=[98,111,111,108]:=by decide +kernel
 rw[this];rfl
theorem zqA:(⟨#[105,102]⟩:Xb).toList=[105,102]:=by decide +kernel
theorem zkr:(⟨#[109,101,114,103,101]⟩:Xb).toList=[109,101,114,103,101]:=by decide +kernel
theorem ziT {t:Tk}:(((ck t:Nat):Int)==4)=(t.k==3):=by
 by_cases h:t.k=3
 . simp[ck,h]
 have:ck t≠4:=by unfold ck;(repeat' split) <;> first|decide|(exfalso;omega)
 have h2:(t.k==3)=false:=by simp[h]
 rw[h2];simp;omega
theorem zlD (M:Fn)(S:Xs)(pb:Nat)(st:St)(p:Nat)(w:Xw)(HI:Inv p st)(Hk:st.t.k=3)(hM:M st=zdP zcq st.t.n st)(HR:PL S w pb st) :
 xK 242 #[xP pb] w (zaW S pb w.heap.size w (M st).1 (M st).2):=by
 rw[hM];obtain⟨q0,q1,q2,q3,q4,q5,q6⟩:=HR.cells;have hck:=ziT (t:=st.t);rw[show (st.t.k==3)=true by simp[Hk]] at hck;have Hcn:cn st.t=st.t.n:=by simp[cn,Hk]
 have hlt:=HR.lt;have hne:¬w.heap.size=pb:=by omega
 have hfv:=zka;have HB:=za HI.toBad;have Hs:=za (zc8 HI.toBad (by omega:st.t.k≠1));clear hM;go_enter func242,ntmps242;go_wp2_with (go_at_call 208;refine (zb8 S pb st 0 _ HR).mono ?_;rintro e w' ⟨rfl,rfl⟩);refine (zb9 S pb st _ HB.o.ok (by rw[Hk];decide) (HR.alloc _)).mono ?_;rintro e w1 ⟨rfl,HL1,HF1⟩;rw[Hs.o] at HL1;have Hh1:=(HF1.block w.heap.size (Nat.lt_of_lt_of_eq (zMV _) (by simp)) hne).trans (zc w _);obtain⟨d0,d1,d2,d3,d4,d5,df,dz⟩:=zt Hh1;simp only[Tk.cval];go_wp2_with fail;go_ret;refine⟨some (xD w.heap.size 0),rfl,(HL1.setOther hlt _ _).put _,λ_=>TR.leaf (b:=w.heap.size) (ex:=⟨zcq,st.t.a,0,[],sE,st.t.n⟩) (zMK _) ?_ rfl,(((Fr.refl _ w).alloc _).trans HF1).setNew (zMK _) _ _⟩
 show _=some (Obj.cells #[xI (zag zcq.toList st.t.n:Nat),xI st.t.a,.string ⟨#[]⟩,xI (0:Nat),xI (zbF zcq.toList st.t.n:Nat),.slice none 0 0] 226 (0,0));rw[zrY,zrW,<- Hcn];exact zh _ _ _ _ Hh1
theorem zil (M:Fn)(n kk:Nat)(S:Xs)(pb:Nat)(st:St)(p:Nat)(w:Xw)(hI:Inv p st)(Hk:st.t.k=5)(hop:opM st [1,2]=some kk)(Hkk:zag zcb.toList n=kk)(hM:M st=zdP zcb n st)(HR:PL S w pb st) :
 xK 242 #[xP pb] w (zaW S pb w.heap.size w (M st).1 (M st).2):=by
 rw[hM];obtain⟨q0,q1,q2,q3,q4,q5,q6⟩:=HR.cells;have hck:=ziT (t:=st.t);rw[show (st.t.k==3)=false by simp[Hk]] at hck;have hlt:=HR.lt;have hne:¬w.heap.size+1=pb:=by omega
 have HOp:=za (zbd S pb st _ 2 [1,2] rfl (by decide) (w.alloc (.cells #[xI 1,xI 2] 223)) (zcD _ _ _ _ rfl) (by decide) hI.ok.tk (HR.alloc _));rw[hop] at HOp;simp only[opV] at HOp;have HB:=za hI.toBad;have Hs:=za (zc8 hI.toBad (by omega:st.t.k≠1));clear hI hM hop;go_enter func242,ntmps242;go_wp2_with (first|(go_at_call 226;refine HOp.o.mono ?_;rintro e w' ⟨rfl,rfl⟩)|(go_at_call 208;refine (zb8 S pb st kk _ (HR.alloc _)).mono ?_;rintro e w' ⟨rfl,rfl⟩)|(go_at_call 186;refine (zb9 S pb st _ HB.o.ok (by rw[Hk];decide) ((HR.alloc _).alloc _)).mono ?_;rintro e w1 ⟨rfl,HL1,HF1⟩;rw[Hs.o] at HL1));go_ret;have hh1:xH w1 (w.heap.size+1) #[xI kk,xI st.t.a,.string ⟨#[]⟩,xI 0,xI 0,.slice none 0 0] 226:=by refine (HF1.block (w.heap.size+1) (by simp) hne).trans ?_;have:=zc (w.alloc (.cells #[xI 1,xI 2] 223)) (.cells #[xI kk,xI st.t.a,.string ⟨#[]⟩,xI 0,xI 0,.slice none 0 0] 226);simpa using this
 refine⟨some (xD (w.heap.size+1) 0),rfl,HL1.put _,λ_=>TR.leaf (b:=w.heap.size+1) (ex:=⟨zcb,st.t.a,0,[],sE,n⟩) (by omega) ?_ rfl,((((Fr.refl _ w).alloc _).alloc _).trans HF1)⟩
 show _=some (Obj.cells #[xI (zag zcb.toList n:Nat),xI st.t.a,.string ⟨#[]⟩,xI (0:Nat),xI (zbF zcb.toList n:Nat),.slice none 0 0] 226 (0,0));rw[Hkk,zrs];exact hh1
theorem hn3 {t:Tk}(h3:t.k≠3):(((ck t:Nat):Int)==4)=false:=by rw[ziT];simp[h3]
theorem zeN {st:St}{k:Nat}{l:Xu}(h:st.t.k≠k):st.is k l=false:=by
 unfold St.is;have:(st.t.k==k)=false:=by simp[h]
 rw[this];rfl
theorem zdG (f:FuncId)(M:Fn)(b1 b2 b3:Bool)(S:Xs)(pb:Nat)(st:St)(p:Nat)(w:Xw)(hI:Inv p st)(hk:st.t.k≠3)(hop:opM st [1,2]=none)(hR:PL S w pb st)(hb1:st.is 4 [40]=b1)(hb2:st.is 5 [105,102]=b2)(hb3:st.is 5 [109,101,114,103,101]=b3)
 (hf:(b1=true/\f=244)∨(b1=false/\b2=true/\f=245)∨(b1=false/\b2=false/\b3=true/\f=246))
 (h:∀w1,PL S w1 pb st->xK f #[xP pb] w1 (zaW S pb w1.heap.size w1 (M st).1 (M st).2)) :
 xK 242 #[xP pb] w (zaW S pb w.heap.size w (M st).1 (M st).2):=by
 obtain⟨q0,q1,q2,q3,q4,q5,q6⟩:=hR.cells;have hck:=hn3 hk;have hlt:=hR.lt;have HOp:=za (zbd S pb st _ 2 [1,2] rfl (by decide) (w.alloc (.cells #[xI 1,xI 2] 223)) (zcD _ _ _ _ rfl) (by decide) hI.ok.tk (hR.alloc _));rw[hop] at HOp;simp only[opV] at HOp;have HA1:=za (zaP S pb st ⟨#[40]⟩ _ zfn (w.alloc (.cells #[xI 1,xI 2] 223)) hI.ok.tk (hR.alloc _));have HA2:=za (zaP S pb st ⟨#[105,102]⟩ _ zqA (w.alloc (.cells #[xI 1,xI 2] 223)) hI.ok.tk (hR.alloc _));have HA3:=za (zaP S pb st ⟨#[109,101,114,103,101]⟩ _ zkr (w.alloc (.cells #[xI 1,xI 2] 223)) hI.ok.tk (hR.alloc _));rw[zaB hR.tx (by decide),hb1] at HA1;rw[zar hR.tx (by decide),hb2] at HA2;rw[zar hR.tx (by decide),hb3] at HA3;have H1:=za (h (w.alloc (.cells #[xI 1,xI 2] 223)) (hR.alloc _));generalize M st=R at *;rcases hf with ⟨rfl,rfl⟩|⟨rfl,rfl,rfl⟩|⟨rfl,rfl,rfl,rfl⟩
 all_goals
  go_enter func242,ntmps242;go_wp2_with (first|(go_at_call 226;refine HOp.o.mono ?_;rintro e w' ⟨rfl,rfl⟩)|(go_at_call 85;first|(with_reducible refine HA1.o.mono ?_;rintro e w' ⟨rfl,rfl⟩)|(with_reducible refine HA2.o.mono ?_;rintro e w' ⟨rfl,rfl⟩)|(with_reducible refine HA3.o.mono ?_;rintro e w' ⟨rfl,rfl⟩)));refine H1.o.mono ?_;rintro e w1 h1;obtain⟨a,rfl,h2,h3,h4⟩:=h1.alloc (zaF _ _);go_wp2_with fail;go_ret;exact⟨a,rfl,h2,h3,h4⟩
theorem ze8 (S:Xs)(pb:Nat)(st:St)(p:Nat)(w:Xw)(hI:Inv p st)(hk:st.t.k≠3)(hop:opM st [1,2]=none)(HR:PL S w pb st)(hb1:st.is 4 [40]=false)(hb2:st.is 5 [105,102]=false)(hb3:st.is 5 [109,101,114,103,101]=false) :
 xK 242 #[xP pb] w (zaW S pb w.heap.size w (st.fail 2 st.t.a) 0):=by
 obtain⟨q0,q1,q2,q3,q4,q5,q6⟩:=HR.cells;have hck:=hn3 hk;have hlt:=HR.lt;have hg8:8<w.heap.size:=zM9 (by decide) HR.gl.size;have hsyn:xC w 8 0 (.iface 324 (.pointer (some (S 2)))):=HR.gl.syn;have HOp:=za (zbd S pb st _ 2 [1,2] rfl (by decide) (w.alloc (.cells #[xI 1,xI 2] 223)) (zcD _ _ _ _ rfl) (by decide) hI.ok.tk (HR.alloc _));rw[hop] at HOp;simp only[opV] at HOp;have HA1:=za (zaP S pb st ⟨#[40]⟩ _ zfn (w.alloc (.cells #[xI 1,xI 2] 223)) hI.ok.tk (HR.alloc _));have HA2:=za (zaP S pb st ⟨#[105,102]⟩ _ zqA (w.alloc (.cells #[xI 1,xI 2] 223)) hI.ok.tk (HR.alloc _));have HA3:=za (zaP S pb st ⟨#[109,101,114,103,101]⟩ _ zkr (w.alloc (.cells #[xI 1,xI 2] 223)) hI.ok.tk (HR.alloc _));rw[zaB HR.tx (by decide),hb1] at HA1;rw[zar HR.tx (by decide),hb2] at HA2;rw[zar HR.tx (by decide),hb3] at HA3;go_enter func242,ntmps242;go_wp2_with (first|(go_at_call 208;refine (zb8 S pb (st.fail 2 st.t.a) 0 _ HL1).mono ?_;rintro e w' ⟨rfl,rfl⟩)|(go_at_call 226;refine HOp.o.mono ?_;rintro e w' ⟨rfl,rfl⟩)|(go_at_call 85;first|(with_reducible refine HA1.o.mono ?_;rintro e w' ⟨rfl,rfl⟩)|(with_reducible refine HA2.o.mono ?_;rintro e w' ⟨rfl,rfl⟩)|(with_reducible refine HA3.o.mono ?_;rintro e w' ⟨rfl,rfl⟩))|(go_at_call 87;refine (zc5 S pb st 2 (by decide) _ (HR.alloc _)).mono ?_;rintro e w1 ⟨rfl,HL1,HF1⟩));go_ret;exact⟨_,rfl,HL1.alloc _,λhe'=>absurd he' (St.fail_er st (by decide)),(((Fr.refl _ w).alloc _).trans HF1).alloc _⟩
theorem zhV {st:St}(hT:Tx st.src st.t)(h1:st.is 5 [116,114,117,101]=false)(h2:st.is 5 [102,97,108,115,101]=false):opM st [1,2]=none:=by rw[zls st hT,h1,h2];rfl
theorem zj9 {d:Nat}{rx ra:Fn}(hX:zX d 190 rx)(gX:zv d rx)(hS:zX d 250 (zch ra))(gA:zv d ra):ziL (d+1) (zap rx ra):=by
 intro S pb st p w hI hk2 ho hR;by_cases he:st.er=0
 . have h0:∀M:Fn,(M st=zap rx ra st)->zap rx ra st=M st:=λ_ h=>h.symm;by_cases h3:st.t.k=3
   . exact zlD (zap rx ra) S pb st p w hI h3 (by unfold zap;rw[zM1 (by simp[he]),zM2 h3]) hR
   have hM3:zap rx ra st=if st.is 4 [40]=true then zfQ rx st else if st.is 5 [116,114,117,101]=true then zdP zcb 1 st else if st.is 5 [102,97,108,115,101]=true then zdP zcb 0 st else if st.is 5 [105,102]=true then zdx rx st else if st.is 5 [109,101,114,103,101]=true then zeE ra st else (st.fail 2 st.t.a,0):=(by unfold zap;rw[zM1 (by simp[he]),zM1 h3,zM1 hk2]);cases hp:st.is 4 [40] with
   | true => have hk4:st.t.k=4:=Inv.is_k hp;rw[zM2 hp] at hM3;refine zdG 244 (zap rx ra) _ _ _ S pb st p w hI h3 (zhV hR.tx (zeN (by omega)) (zeN (by omega))) hR hp rfl rfl (zM3 ⟨rfl,rfl⟩) ?_;intro w1 h1;rw[hM3];exact zme hX gX S pb st p w1 hI (by omega) ho h1
   | false =>
     rw[hp,zM1 (by simp)] at hM3;cases ht:st.is 5 [116,114,117,101] with
     | true => rw[ht,zM2 rfl] at hM3;exact zil (zap rx ra) 1 1 S pb st p w hI (Inv.is_k ht) (by rw[zls st hR.tx,ht];rfl) zrx hM3 hR
     | false =>
       rw[ht,zM1 (by simp)] at hM3;cases hf:st.is 5 [102,97,108,115,101] with
       | true => rw[hf,zM2 rfl] at hM3;exact zil (zap rx ra) 0 2 S pb st p w hI (Inv.is_k hf) (by rw[zls st hR.tx,ht,hf];rfl) zqG hM3 hR
       | false =>
         rw[hf,zM1 (by simp)] at hM3;have hop:=zhV hR.tx ht hf;cases hi:st.is 5 [105,102] with
         | true => have hk5:st.t.k=5:=Inv.is_k hi;rw[hi,zM2 rfl] at hM3;refine zdG 245 (zap rx ra) _ _ _ S pb st p w hI h3 hop hR hp hi rfl (zM4 (zM3 ⟨rfl,rfl,rfl⟩)) ?_;intro w1 h1;rw[hM3];exact zkZ hX gX S pb st p w1 hI (by omega) ho h1
         | false =>
           rw[hi,zM1 (by simp)] at hM3;cases hm:st.is 5 [109,101,114,103,101] with
           | true => have hk5:st.t.k=5:=Inv.is_k hm;rw[hm,zM2 rfl] at hM3;refine zdG 246 (zap rx ra) _ _ _ S pb st p w hI h3 hop hR hp hi hm (zM4 (zM4 ⟨rfl,rfl,rfl,rfl⟩)) ?_;intro w1 h1;rw[hM3];exact zmk hS gA S pb st p w1 hI (by omega) ho h1
           | false => rw[hm,zM1 (by simp)] at hM3;rw[hM3];exact ze8 S pb st p w hI h3 hop hR hp hi hm
 have hk1:=hI.bad he;have hM:zap rx ra st=(st,0):=by unfold zap;rw[zM2 he]
 rw[hM];refine (ze8 S pb st p w hI (by omega) (zhV hR.tx (zeN (by omega)) (zeN (by omega))) hR (zeN (by omega)) (zeN (by omega)) (zeN (by omega))).mono ?_;rintro e w1 ⟨a,h1,h2,_,h4⟩;exact⟨a,h1,h2.unfail he hk1,λh=>absurd h he,h4⟩
theorem znu:∀d,zX d 190 (lev d).ex/\zX d 238 (lev d).un/\ziL d (lev d).at'/\zdI d (if d=0 then (lev 0).ex else (lev (d-1)).ex):=by
 intro d;induction d with
 | zero =>
   have h:∀(f:FuncId) (M:Fn),zX 0 f M:=λf M S pb st p w hI ho _=>by have:=hI.op1;omega
   exact⟨h _ _,h _ _,λS pb st p w hI _ ho _=>by have:=hI.op1;omega,λS pb st p w t hI ho _ _=>by have:=hI.op1;omega⟩
 | succ d ih => obtain⟨g1,g2,g3⟩:=zgP d;obtain⟨h1,h2,h3,_⟩:=ih;have hK:=zof h1 g1;have hN:=zj9 h1 g1 (znY h3) g3;have ga:=zh7 g1 g3;have ha:=znf hN hK;have gs:=zfY ga;have hs:=zjM ha ga;have gu:=zhu g2 gs;have hu:=zm9 h2 g2 hs;have r3:=zkb hu gu;have s3:=zcF (lv:=3) gu;have r2:=zp2 r3 s3;have s2:=zcF (lv:=2) s3;have tt:=zne r2 s2;have st:=zh6 s2;have r1:=znl tt st;have s1:=zcF (lv:=1) st;have r0:=zlW r1 s1;have s0:=zcF (lv:=0) s1;exact⟨zoz h1 g1 r0 s0,hu,hN,hK⟩
end
section
variable {st:St}
def za4 (st:St)(n:Nat):St:=z9 ((st.decl0 n).name.must 4 [58])
theorem zfH (S:Xs)(pb:Nat)(st:St)(w:Xw)(nb:Nat)(x:Xp)(n c:Nat)(hB:Bad st)(hn:n<=100)(hnb:nb<w.heap.size)(hc:xC w nb 2 (.slice x n c))(hR:PL S w pb st) :
 xK 187 #[xP pb,xP nb] w λe w'=>∃(ns:Xb) (na ty:Nat),e=.returned (.agg #[.string ns,xI na,xI ty,xI 0,xI 0,.string ⟨#[]⟩,xI 0])/\Hid (((st.decl0 n).t.k=2->ns=(st.decl0 n).t.s/\na=(st.decl0 n).t.a)/\ty=if ((st.decl0 n).name.must 4 [58]).is 5 zbq=true then 1 else 0)/\PL S w' pb (za4 st n)/\Fr (·=pb) w w':=by
 refine (zjk S pb st w nb x n c hB hn hnb hc hR).mono ?_;rintro e w1 ⟨ns,na,h1,h2,h3,h4⟩;exact⟨ns,na,_,h1,⟨h2,rfl⟩,h3,h4⟩
theorem Bad.type (h:Bad st):Bad (z9 st):=by
 unfold z9;split
 . exact h.step
 exact h.must _ _
theorem Bad.nott (h:Bad st):Bad (za3 st):=by
 unfold za3;split
 . exact h.step
 exact h
theorem Bad.decl0 (h:Bad st)(n:Nat):Bad (st.decl0 n):=by
 unfold St.decl0;split
 . exact h.fail (by omega)
 exact h
theorem Bad.declS (h:Bad st)(n:Nat):Bad (za4 st n):=((h.decl0 n).name.must _ _).type
def onM (s:St):St:=if s.is 5 kOn=true then (za3 s.step).name else s
def zkT (s:St)(sg pl:Nat)(os:Xb)(oa:Nat):Prop :=
 (s.is 5 kOn=true->sg=(if s.step.is 5 zet=true then 2 else 1)/\pl=s.t.a/\((za3 s.step).t.k=2->os=(za3 s.step).t.s/\oa=(za3 s.step).t.a))/\(s.is 5 kOn=false->sg=0/\pl=0/\os=⟨#[]⟩/\oa=0)
theorem Tryz.infoVar:(prog.info? 134).map (λi=>(i.zero,i.size,i.bytes))=some (some (.agg #[.string ⟨#[]⟩,xI 0,xI 0,xI 0,xI 0,.string ⟨#[]⟩,xI 0]),7,72):=by kernel_rfl
theorem zoU {s t:Xb}{a b c d e:Int}:∀u∈[Value.string s,xI a,xI b,xI c,xI d,.string t,xI e],u.oneCell'=true:=by intro u hu;simp at hu;rcases hu with rfl|rfl|rfl|rfl|rfl|rfl|rfl <;> rfl
def zkn (S:Xs)(pb nb B:Nat)(st:St)(w:Xw)(c0 c1 c3 c4 c5 vs:Xv)(n:Nat)(xs:Xm)(e:Ending)(w':Xw):Prop :=
 ∃(ns os:Xb) (na ty sg pl oa:Nat) (v':Xv),e=.returned (.tuple #[])/\PL S w' pb ((onM (za4 st n)).must 4 [59])/\w'.heap[nb]?=some (.cells #[c0,c1,v',c3,c4,c5] 121 (0,0)) /\
    w'.ownsRow B 134 7 v' (n+1) (xs++[.string ns,xI na,xI ty,xI sg,xI pl,.string os,xI oa])/\Hid (((st.decl0 n).t.k=2->ns=(st.decl0 n).t.s/\na=(st.decl0 n).t.a)/\ty=if ((st.decl0 n).name.must 4 [58]).is 5 zbq=true then 1 else 0)/\Hid (zkT (za4 st n) sg pl os oa) /\
    Fr (λk=>k=pb∨k=nb∨vs.ownBlock=some k) w w'/\Hid (∀k,v'.ownBlock=some k->vs.ownBlock=some k∨w.heap.size<=k)
theorem zkq {S:Xs}{pb nb B:Nat}{w w2 w9:Xw}{c0 c1 c3 c4 c5 vs v':Xv}{n:Nat}{xs:Xm}{ns os:Xb}{na ty sg pl oa:Nat}{X:Obj}
 (h1:Hid (((st.decl0 n).t.k=2->ns=(st.decl0 n).t.s/\na=(st.decl0 n).t.a)/\ty=if ((st.decl0 n).name.must 4 [58]).is 5 zbq=true then 1 else 0)) (h2:zkT (za4 st n) sg pl os oa) (h3:PL S w9 pb ((onM (za4 st n)).must 4 [59])) (hnp:pb<nb) (h4:xH w9 nb #[c0,c1,vs,c3,c4,c5] 121)
 (h5:w9.ownsRow B 134 7 v' (n+1) (xs++[.string ns,xI na,xI ty,xI sg,xI pl,.string os,xI oa])) (h6:∀k,v'.ownBlock=some k->vs.ownBlock=some k∨(w2.alloc X).drew.heap.size<=k) (hBn:nb<B) (_hBw:B<=w.heap.size) (h7:Fr (·=pb) w w2) (h8:Fr (λk=>vs.ownBlock=some k) (w2.alloc X) w9) :
 zkn S pb nb B st w c0 c1 c3 c4 c5 vs n xs (.returned (.tuple #[])) (w9.setCell (xD nb 2) v'):=by
 have hz:=h7.size;refine⟨ns,os,na,ty,sg,pl,oa,v',rfl,h3.setOther hnp _ _,zh _ _ _ _ h4,zi h5 (λk h _ _=>zr (by omega) rfl),h1,h2,?_,?_⟩
 . have g1:Fr (λk=>k=pb∨k=nb∨vs.ownBlock=some k) w (w2.alloc X):=(h7.mono (λ_ _ h=>zM3 h)).alloc X;exact (g1.trans' h8 (λ_ _ h=>zM4 (zM4 h))).setCell (zM3 (zM4 (zM3 rfl))) _
 intro k hk;rcases h6 k hk with h|h
 . exact zM3 h
 right;have:(w2.alloc X).drew.heap.size=w2.heap.size+1:=by show (w2.alloc X).heap.size=_;simp
 omega
theorem zm1 (S:Xs)(pb nb B:Nat)(st:St)(w:Xw)(c0 c1 c3 c4 c5 vs:Xv)(n:Nat)(xs:Xm)(hB:Bad st)(hn:n<=50)(hR:PL S w pb st)(hblk:xH w nb #[c0,c1,vs,c3,c4,c5] 121)(hown:w.ownsRow B 134 7 vs n xs)(hnp:pb<nb)(hBn:nb<B)(hBw:B<=w.heap.size) :
 xK 154 #[xP pb,xP nb] w (zkn S pb nb B st w c0 c1 c3 c4 c5 vs n xs):=by
 obtain⟨x,cp,hvs⟩:∃x cp,vs=.slice x n cp:=by
  rcases hown.2 with ⟨h1,h2⟩|⟨g,cap,cur,h1,_⟩
  . exact⟨none,0,by rw[h1,h2]⟩
  exact⟨_,cap,h1⟩
 obtain⟨q0,q1,q2,q3,q4,q5,qf,qz⟩:=zt hblk;have hlt:=hR.lt;have HR:=za hR;have HB:=za hB;rw[hvs] at q2;have HD:=za (zfH S pb st w nb x n cp hB (by omega) qz q2 hR);have Hown:=za hown;have Hblk:=za hblk;have HBs:=za (hB.declS n);have Hvs:=za hvs;obtain⟨s3,hs3⟩:∃s3,za4 st n=s3:=⟨_,rfl⟩;rw[hs3] at HD HBs;have Hs3:=za hs3;obtain⟨i0,hi,hi0,hi1,hi2⟩:=info_parts Tryz.infoVar;have mx:n+1<=maxLen:=by unfold maxLen;omega
 have by':(n+1)*72<=140737488355328:=by omega
 clear hR hB hown hblk hs3 q0 q1 q2 q3 q4 q5 qf hvs;cases hb:s3.is 5 kOn with
 | false =>
   have hE:onM s3=s3:=(by unfold onM;rw[zM1 (by rw[hb];simp)]);have HE0:=za hE;have Hb:=za hb;clear hb hE;go_enter func154,ntmps154;go_wp2_with fail;refine HD.o.mono ?_;rintro e w1 ⟨ns,na,ty,rfl,HK1,hL1,hF1⟩;have hz1:=hF1.size;have hlt1:=hL1.lt;have hh1:=(hF1.block nb qz (by omega)).trans Hblk.o;have Hh1:=za hh1;have HA:=za (zaP S pb s3 ⟨#[111,110]⟩ _ zq9 (w1.alloc (.cells #[.string ns,xI na,xI ty,xI 0,xI 0,.string ⟨#[]⟩,xI 0] 134)) HBs.o.ok.tk (hL1.alloc _));rw[zar hL1.tx (by decide),Hb.o] at HA;have HE:=za (zP S pb s3 ⟨#[59]⟩ _ zl1 (w1.alloc (.cells #[.string ns,xI na,xI ty,xI 0,xI 0,.string ⟨#[]⟩,xI 0] 134)) HBs.o (hL1.alloc _));rw[zan hL1.tx (by decide)] at HE;have HF1:=za hF1;clear hL1 hF1 hh1;go_wp2_with (first|(go_at_call 85;refine HA.o.mono ?_;rintro e w' ⟨rfl,rfl⟩)|(go_at_call 150;refine HE.o.mono ?_;rintro e w2 ⟨rfl,hL2,hF2⟩;have hz2:=hF2.size;have hv2:=(hF2.block w1.heap.size (by rw[zsb];omega) (by omega)).trans (zc w1 _);have hn2:=(hF2.block nb (by rw[zsb];omega) (by omega)).trans ((Below.heap_alloc _ _ _ (by omega)).trans Hh1.o);obtain⟨a0,a1,a2,a3,a4,a5,a6,af,az⟩:=zbZ hv2;obtain⟨q0,q1,q2,q3,q4,q5,qf,qz2⟩:=zt hn2;have Hn2:=za hn2;have Hv2:=za hv2;have HL2:=za hL2;have HF2:=za hF2;clear hL2 hF2 hv2 hn2));have Hown2:=za (zi Hown.o (λk h1 h2 _=>(HF2.o.block k (by rw[zsb];omega) (by omega)).trans ((Below.heap_alloc _ _ _ (by omega)).trans (HF1.o.block k h2 (by omega)))));have hBw2:B<=w2.heap.size:=(by rw[zsb] at hz2;omega);clear HA HE HD a0 a1 a2 a3 a4 a5 a6 af az;obtain⟨a0,a1,a2,a3,a4,a5,a6,af,az⟩:=zbZ Hv2.o
   go_region_law (
    refine zJ _ rfl (.tmp 19) (.tmp 21) 118 rfl B 134 i0 _ 7 72 underlying118 hi hi0 hi1 hi2 rfl (by decide) vs n xs rfl (zD (Hown2.o) _) (xD w2.heap.size 0) 1 1 [.string ns,xI na,xI ty,xI 0,xI 0,.string ⟨#[]⟩,xI 0] rfl rfl (zN (zc w2 _) rfl) zoU mx by' (by simp;omega) ?_;intro v' w9 hown9 hgrow hnew;obtain⟨g9,cap9,rfl,hg9⟩:=zM hown9 (by omega);have hF9:=(Fr.of_grown hgrow).undrew;have hb9:∀k,k<B->w9.heap[k]?=w2.heap[k]?:=(λk hk=>(hF9.block k (by simp;omega) (λh=>by have:=(Hown2.o.lt k h).1;omega)).trans (Below.heap_alloc _ _ _ (by omega)));have Hn9:=za ((hb9 nb hBn).trans Hn2.o);obtain⟨q0,q1,q2,q3,q4,q5,qf,qz2⟩:=zt Hn9.o;have HL9:=za (PL.fr (HL2.o.alloc _) hF9 (λk hk=>by have:=(Hown2.o.lt k hk).1;omega));have HF9:=za hF9;have Hown9:=za hown9;have Hnew9:=za hnew;clear hown9 hgrow hnew hF9 hb9)
   all_goals go_wp2_with fail
   all_goals go_end0
   all_goals exact zkq HK1 (by rw[Hs3.o];exact⟨λh=>(by rw[Hb.o] at h;cases h),λ_=>⟨rfl,rfl,rfl,rfl⟩⟩) (by rw[Hs3.o,HE0.o];exact HL9.o) hnp Hn9.o Hown9.o Hnew9.o hBn (by omega) (HF1.o.trans ((Fr.refl _ w1).alloc _ |>.trans HF2.o)) HF9.o
 | true =>
   have hE:onM s3=(za3 s3.step).name:=(by unfold onM;rw[zM2 hb]);have HE0:=za hE;have Hb:=za hb;have hk5:s3.t.k=5:=Inv.is_k hb;have HOn:=za (λw1 h=>zqH S pb s3 w1 HBs.o hk5 h);have HBn:=za HBs.o.step.nott.name;clear hb hE hk5;go_enter func154,ntmps154;go_wp2_with fail;refine HD.o.mono ?_;rintro e w1 ⟨ns,na,ty,rfl,HK1,hL1,hF1⟩;have hz1:=hF1.size;have hlt1:=hL1.lt;have hh1:=(hF1.block nb qz (by omega)).trans Hblk.o;have Hh1:=za hh1;have HA:=za (zaP S pb s3 ⟨#[111,110]⟩ _ zq9 (w1.alloc (.cells #[.string ns,xI na,xI ty,xI 0,xI 0,.string ⟨#[]⟩,xI 0] 134)) HBs.o.ok.tk (hL1.alloc _));rw[zar hL1.tx (by decide),Hb.o] at HA;have HF1:=za hF1;have HL1:=za hL1;clear hL1 hF1 hh1;go_wp2_with (go_at_call 85;refine HA.o.mono ?_;rintro e w' ⟨rfl,rfl⟩);refine (HOn.o _ (HL1.o.alloc _)).mono ?_;rintro e w4 ⟨os,oa,rfl,hk4,hL4,hF4⟩;obtain⟨sg,hsg⟩:∃sg:Nat,(if s3.step.is 5 zet=true then 2 else 1)=sg:=⟨_,rfl⟩;have hsg':(if s3.step.is 5 zet=true then (2:Int) else 1)=(sg:Nat):=(by rw[<- hsg];split <;> rfl);rw[hsg'];have hz4:=hF4.size;have hv4:=(hF4.block w1.heap.size (by rw[zsb];omega) (by omega)).trans (zc w1 _);have hn4:=(hF4.block nb (by rw[zsb];omega) (by omega)).trans ((Below.heap_alloc _ _ _ (by omega)).trans Hh1.o);have HK4:Hid (zkT s3 sg s3.t.a os oa):=⟨λ_=>⟨hsg.symm,rfl,hk4⟩,λh=>(by rw[Hb.o] at h;cases h)⟩;obtain⟨a0,a1,a2,a3,a4,a5,a6,af,az⟩:=zbZ hv4;have Hn4:=za hn4;have Hv4:=za hv4;have HL4:=za hL4;have HF4:=za hF4;clear hL4 hF4 hv4 hn4 hsg hsg' hk4;go_wp2_with fail;have hL5:=(((HL4.o.setOther (b:=w1.heap.size) hlt1 3 (xI sg)).setOther (b:=w1.heap.size) hlt1 4 (xI s3.t.a)).setOther (b:=w1.heap.size) hlt1 5 (.string os)).setOther (b:=w1.heap.size) hlt1 6 (xI oa);have hv5:=zh _ w1.heap.size 6 (xI oa) (zh _ w1.heap.size 5 (.string os) (zh _ w1.heap.size 4 (xI s3.t.a) (zh w4 w1.heap.size 3 (xI sg) Hv4.o)));have hn5:=zr (b:=w1.heap.size) (i:=6) (v:=(xI oa)) (by omega:¬nb=w1.heap.size) (zr (b:=w1.heap.size) (i:=5) (v:=.string os) (by omega:¬nb=w1.heap.size) (zr (b:=w1.heap.size) (i:=4) (v:=(xI s3.t.a)) (by omega:¬nb=w1.heap.size) (zr (b:=w1.heap.size) (i:=3) (v:=(xI sg)) (by omega:¬nb=w1.heap.size) Hn4.o)));have hF5:Fr (·=pb) w ((((w4.setCell (xD w1.heap.size 3) (xI sg)).setCell (xD w1.heap.size 4) (xI s3.t.a)).setCell (xD w1.heap.size 5) (.string os)).setCell (xD w1.heap.size 6) (xI oa)):=(((((HF1.o.alloc _).trans HF4.o).setNew hz1 _ _).setNew hz1 _ _).setNew hz1 _ _).setNew hz1 _ _;obtain⟨w5,hw5⟩:∃w5,((((w4.setCell (xD w1.heap.size 3) (xI sg)).setCell (xD w1.heap.size 4) (xI s3.t.a)).setCell (xD w1.heap.size 5) (.string os)).setCell (xD w1.heap.size 6) (xI oa))=w5:=⟨_,rfl⟩;rw[hw5] at hL5 hv5 hn5 hF5;have HE:=za (zP S pb (za3 s3.step).name ⟨#[59]⟩ _ zl1 w5 HBn.o hL5);rw[zan hL5.tx (by decide)] at HE;refine Eq.mpr (congrArg (λz=>xK 150 _ z _) hw5) ?_;refine HE.o.mono ?_;rintro e w2 ⟨rfl,hL2,hF2⟩;have hz2:=hF2.size;have hz5:=hF5.size;have hv5':xH w5 w1.heap.size #[.string ns,xI na,xI ty,xI sg,xI s3.t.a,.string os,xI oa] 134:=hv5;have Hv2:=za ((hF2.block w1.heap.size (ze hv5') (by omega)).trans hv5');have Hn2:=za ((hF2.block nb (ze hn5) (by omega)).trans hn5);have HL2:=za hL2;have HF2:=za (hF5.trans hF2);have Hown2:=za (zi Hown.o (λk h1 h2 _=>(hF5.trans hF2).block k h2 (by omega)));have hBw2:B<=w2.heap.size:=(by omega);clear hL2 hF2 hL5 hv5 hn5 hF5 hw5 hv5' a0 a1 a2 a3 a4 a5 a6 af az HL4 HF4 Hv4 Hn4;go_wp2_with fail;clear HA HE HD HOn;obtain⟨a0,a1,a2,a3,a4,a5,a6,af,az⟩:=zbZ Hv2.o;obtain⟨q0,q1,q2,q3,q4,q5,qf,qz2⟩:=zt Hn2.o
   go_region_law (
    refine zJ _ rfl (.tmp 19) (.tmp 21) 118 rfl B 134 i0 _ 7 72 underlying118 hi hi0 hi1 hi2 rfl (by decide) vs n xs rfl (zD (Hown2.o) _) (xD w2.heap.size 0) 1 1 [.string ns,xI na,xI ty,xI sg,xI s3.t.a,.string os,xI oa] rfl rfl (zN (zc w2 _) rfl) zoU mx by' (by simp;omega) ?_;intro v' w9 hown9 hgrow hnew;obtain⟨g9,cap9,rfl,hg9⟩:=zM hown9 (by omega);have hF9:=(Fr.of_grown hgrow).undrew;have hb9:∀k,k<B->w9.heap[k]?=w2.heap[k]?:=(λk hk=>(hF9.block k (by simp;omega) (λh=>by have:=(Hown2.o.lt k h).1;omega)).trans (Below.heap_alloc _ _ _ (by omega)));have Hn9:=za ((hb9 nb hBn).trans Hn2.o);obtain⟨q0,q1,q2,q3,q4,q5,qf,qz2⟩:=zt Hn9.o;have HL9:=za (PL.fr (HL2.o.alloc _) hF9 (λk hk=>by have:=(Hown2.o.lt k hk).1;omega));have HF9:=za hF9;have Hown9:=za hown9;have Hnew9:=za hnew;clear hown9 hgrow hnew hF9 hb9)
   all_goals go_wp2_with fail
   all_goals go_end0
   all_goals exact zkq HK1 (by rw[Hs3.o];exact HK4.o) (by rw[Hs3.o,HE0.o];exact HL9.o) hnp Hn9.o Hown9.o Hnew9.o hBn (by omega) HF2.o HF9.o
end
section
variable {ns:Xb} {l:Xu} {vars:List Vr} {k n na ty:Nat} {st:St}
theorem zfC (he:st.er≠0)(e a:Nat):st.fail e a=st.bad:=by unfold St.fail St.bad;rw[zM1 he]
theorem zhq (hk:st.t.k=1)(h:k≠1):st.is k l=false:=zeN (by omega)
theorem zgX (he:st.er≠0)(hk:st.t.k=1):st.name=st.bad:=by unfold St.name;rw[zM1 (by omega),zfC he]
theorem zfp (he:st.er≠0)(hk:st.t.k=1)(h:k≠1):st.must k l=st.bad:=by unfold St.must;rw[zhq hk h];exact zfC he _ _
theorem zgM (he:st.er≠0)(hk:st.t.k=1):z9 st=st.bad:=by unfold z9;rw[zhq hk (by decide)];exact zfp he hk (by decide)
theorem zmu (he:st.er≠0)(n:Nat):st.decl0 n=st.bad∨st.decl0 n=st:=by
 unfold St.decl0;split
 . exact zM3 (zfC he _ _)
 exact zM4 rfl
theorem zio (he:st.er≠0)(hk:st.t.k=1)(n:Nat):za4 st n=st.bad:=by
 unfold za4;have hb:st.bad.er≠0:=he;have hbk:st.bad.t.k=1:=rfl;rcases zmu he n with h|h
 . rw[h,zgX hb hbk,zfp (st:=st.bad.bad) hb hbk (by decide),zgM (st:=st.bad.bad.bad) hb hbk];rfl
 rw[h,zgX he hk,zfp (st:=st.bad) hb hbk (by decide),zgM (st:=st.bad.bad) hb hbk];rfl
theorem zkJ (he:st.er≠0)(hk:st.t.k=1)(i o:Bool)(vars:List Vr):(zx i o st vars).1=st.bad:=by
 unfold zx;split
 . exact zfC he _ _
 have hb:st.bad.er≠0:=he;have hbk:st.bad.t.k=1:=rfl;have h3:z9 (st.name.must 4 [58])=st.bad:=by rw[zgX he hk,zfp (st:=st.bad) hb hbk (by decide),zgM (st:=st.bad.bad) hb hbk];rfl
 simp only[h3];rw[zhq hbk (by decide)];rfl
theorem zhb (n:Nat)(h:n=16):za4 st n=st.fail 2 st.t.a:=by unfold za4 St.decl0;rw[zM2 h,St.fail_name' _ (by decide),St.fail_must' _ (by decide) (by decide)];unfold z9;rw[St.fail_is _ (by decide)];exact St.fail_must' _ (by decide) (by decide)
theorem zj1 (i:Bool)(hB:Bad st)(hn:st.er=0->n=vars.length/\vars.length<=16):za4 st n=(zx i (!i) st vars).1:=by
 by_cases he:st.er=0
 . obtain⟨h1,h2⟩:=hn he;by_cases h16:n=16
   . rw[zhb n h16];unfold zx;rw[zM2 (by omega)]
   unfold zx;rw[zM1 (by omega)];have hc:((z9 (st.name.must 4 [58])).is 5 kOn&&!i&&!!i)=false:=(by cases i <;> simp);simp only[hc];unfold za4 St.decl0;rw[zM1 h16];rfl
 rw[zio he (hB.bad he),zkJ he (hB.bad he)]
theorem zk2 (hB:Bad st)(hn:st.er=0->n=vars.length/\vars.length<=16):onM (za4 st n)=(zx false false st vars).1:=by
 by_cases he:st.er=0
 . obtain⟨h1,h2⟩:=hn he;by_cases h16:n=16
   . rw[zhb n h16];have h1:onM (st.fail 2 st.t.a)=st.fail 2 st.t.a:=(by unfold onM;rw[St.fail_is _ (by decide)];rfl);rw[h1];unfold zx;rw[zM2 (by omega)]
   unfold zx;rw[zM1 (by omega)];have hd:za4 st n=z9 (st.name.must 4 [58]):=(by unfold za4 St.decl0;rw[zM1 h16]);rw[hd];unfold onM;cases hc:(z9 (st.name.must 4 [58])).is 5 kOn with
   | true=>simp only[hc,Bool.not_false,Bool.and_self,if_true]
   | false=>simp only[hc,Bool.not_false,Bool.false_and];rfl
 rw[zio he (hB.bad he),zkJ he (hB.bad he)];unfold onM;rw[zhq rfl (by decide)];rfl
def zaA (v:Vr):Nat:=if v.tm=true then (if v.nt=true then 2 else 1) else 0
def vrC (v:Vr):List Value:=[.string v.nm,xI v.a,xI (if v.bl=true then 1 else 0:Nat),xI (zaA v:Nat),xI v.on,.string v.ck,xI v.ca]
def zb0 (l:List Vr):List Value:=l.flatMap vrC
theorem zf4 (l:List Vr)(v:Vr):zb0 (l++[v])=zb0 l++vrC v:=by simp[zb0]
theorem zeH (h:st.name.er=0):st.t.k=2:=by
 by_cases h2:st.t.k=2
 . exact h2
 exfalso;unfold St.name at h;rw[zM1 h2] at h;exact St.fail_er _ (by decide) h
theorem zay (h:(st.must k l).er=0):st.er=0:=by
 unfold St.must at h;split at h
 . rwa [St.step_er] at h
 exact absurd h (St.fail_er _ (by decide))
theorem zeo (h:(z9 st).er=0):st.er=0:=by
 unfold z9 at h;split at h
 . rwa [St.step_er] at h
 exact zay h
theorem zel (h:st.name.er=0):st.er=0:=by have:=zeH h;unfold St.name at h;rw[zM2 this,St.step_er] at h;exact h
theorem zpY (i:Bool)(hn:st.er=0->n=vars.length/\vars.length<=16)(hk:(st.decl0 n).t.k=2->ns=(st.decl0 n).t.s/\na=(st.decl0 n).t.a)(hty:ty=if ((st.decl0 n).name.must 4 [58]).is 5 zbq=true then 1 else 0)
 (he:(zx i (!i) st vars).1.er=0):st.er=0/\(zx i (!i) st vars).2.length=n+1/\n+1<=16/\zb0 (zx i (!i) st vars).2=zb0 vars++[.string ns,xI na,xI ty,xI (0:Nat),xI (0:Nat),.string ⟨#[]⟩,xI (0:Nat)]:=by
 by_cases h16:16<=vars.length
 . unfold zx at he;rw[zM2 h16] at he;exact absurd he (St.fail_er _ (by decide))
 have hc:((z9 (st.name.must 4 [58])).is 5 kOn&&!i&&!!i)=false:=by cases i <;> simp
 have hV:zx i (!i) st vars=(z9 (st.name.must 4 [58]),vars++[⟨st.t.s,st.t.a,(st.name.must 4 [58]).is 5 zbq,i,!i,0,sE,0,false,false⟩]):=by unfold zx;rw[zM1 h16];simp only[hc];rfl
 rw[hV] at he ⊢;have e0:st.er=0:=zel (zay (zeo he));obtain⟨h1,h2⟩:=hn e0;have hd:st.decl0 n=st:=by unfold St.decl0;rw[zM1 (by omega)]
 rw[hd] at hk hty;obtain⟨k1,k2⟩:=hk (zeH (zay (zeo he)));refine⟨e0,by simp[h1],by omega,?_⟩;simp only[zf4];unfold vrC zaA;subst k1 k2 hty;rfl
theorem ziI (hn:st.er=0->n=vars.length/\vars.length<=16){os:Xb}{sg pl oa:Nat}(hk:(st.decl0 n).t.k=2->ns=(st.decl0 n).t.s/\na=(st.decl0 n).t.a)(hty:ty=if ((st.decl0 n).name.must 4 [58]).is 5 zbq=true then 1 else 0)(hon:zkT (za4 st n) sg pl os oa)
 (he:(zx false false st vars).1.er=0):st.er=0/\(zx false false st vars).2.length=n+1/\n+1<=16/\zb0 (zx false false st vars).2=zb0 vars++[.string ns,xI na,xI ty,xI sg,xI pl,.string os,xI oa]:=by
 by_cases h16:16<=vars.length
 . unfold zx at he;rw[zM2 h16] at he;exact absurd he (St.fail_er _ (by decide))
 cases hc:(z9 (st.name.must 4 [58])).is 5 kOn with
 | false => have hV:zx false false st vars=(z9 (st.name.must 4 [58]),vars++[⟨st.t.s,st.t.a,(st.name.must 4 [58]).is 5 zbq,false,false,0,sE,0,false,false⟩]):=(by unfold zx;rw[zM1 h16];simp only[hc,Bool.false_and];rfl);rw[hV] at he ⊢;have e0:st.er=0:=zel (zay (zeo he));obtain⟨h1,h2⟩:=hn e0;have hd:st.decl0 n=st:=(by unfold St.decl0;rw[zM1 (by omega)]);have hdS:za4 st n=z9 (st.name.must 4 [58]):=(by unfold za4;rw[hd]);rw[hd] at hk hty;rw[hdS] at hon;obtain⟨k1,k2⟩:=hk (zeH (zay (zeo he)));obtain⟨o1,o2,o3,o4⟩:=hon.2 hc;refine⟨e0,by simp[h1],by omega,?_⟩;simp only[zf4];unfold vrC zaA;subst k1 k2 hty o1 o2 o3 o4;rfl
 | true =>
   have hV:zx false false st vars=((za3 (z9 (st.name.must 4 [58])).step).name,vars++[⟨st.t.s,st.t.a,(st.name.must 4 [58]).is 5 zbq,false,false,(z9 (st.name.must 4 [58])).t.a,(za3 (z9 (st.name.must 4 [58])).step).t.s,(za3 (z9 (st.name.must 4 [58])).step).t.a,(z9 (st.name.must 4 [58])).step.is 5 zet,true⟩]):=(by unfold zx;rw[zM1 h16];simp only[hc,Bool.not_false,Bool.and_self,if_true]);rw[hV] at he ⊢;have hne:(za3 (z9 (st.name.must 4 [58])).step).er=0:=zel he;have hne2:(z9 (st.name.must 4 [58])).er=0:=by
    unfold za3 at hne;split at hne
    . rw[St.step_er,St.step_er] at hne;exact hne
    rw[St.step_er] at hne;exact hne
   have e0:st.er=0:=zel (zay (zeo hne2));obtain⟨h1,h2⟩:=hn e0;have hd:st.decl0 n=st:=(by unfold St.decl0;rw[zM1 (by omega)]);have hdS:za4 st n=z9 (st.name.must 4 [58]):=(by unfold za4;rw[hd]);rw[hd] at hk hty;rw[hdS] at hon;obtain⟨k1,k2⟩:=hk (zeH (zay (zeo hne2)));obtain⟨o1,o2,o3⟩:=hon.1 hc;obtain⟨o4,o5⟩:=o3 (zeH he);refine⟨e0,by simp[h1],by omega,?_⟩;simp only[zf4];unfold vrC zaA;subst k1 k2 hty o1 o2 o4 o5;rfl
end
section
structure VI (S:Xs) (pb nb B p:Nat) (w wr:Xw) (c0 c1 c3 c4 c5:Xv) (s:St) (vars:List Vr) (vs:Xv) (n:Nat) (xs:Xm):Prop where
 inv:Inv p s
 pl:PL S wr pb s
 blk:xH wr nb #[c0,c1,vs,c3,c4,c5] 121
 own:wr.ownsRow B 134 7 vs n xs
 ok:s.er=0->n=vars.length/\vars.length<=16/\xs=zb0 vars
 fr:Fr (λk=>k=pb∨k=nb∨B<=k) w wr
theorem VI.dec {S:Xs}{pb nb B p:Nat}{w wr:Xw}{c0 c1 c3 c4 c5:Xv}{s:St}{vars:List Vr}{vs:Xv}{n:Nat}{xs:Xm}(h:VI S pb nb B p w wr c0 c1 c3 c4 c5 s vars vs n xs):s.er=0->n=vars.length/\vars.length<=16:=λhe=>⟨(h.ok he).1,(h.ok he).2.1⟩
theorem ziY (S:Xs)(pb nb B p:Nat)(w wr:Xw)(c0 c1 c3 c4 c5:Xv)(s:St)(vars:List Vr)(vs:Xv)(n:Nat)(xs:Xm)(hn:n<=50)(hnp:pb<nb)(hBn:nb<B)(hBw:B<=w.heap.size)(h:VI S pb nb B p w wr c0 c1 c3 c4 c5 s vars vs n xs) :
 xK 154 #[xP pb,xP nb] wr λe w'=>e=.returned (.tuple #[])/\∃vs' xs',VI S pb nb B p w w' c0 c1 c3 c4 c5 (zaR s vars).1 (zaR s vars).2 vs' (n+1) xs':=by
 have hzr:=h.fr.size;refine (zm1 S pb nb B s wr c0 c1 c3 c4 c5 vs n xs h.inv.toBad hn h.pl h.blk h.own hnp hBn (by omega)).mono ?_;rintro e w' ⟨ns,os,na,ty,sg,pl,oa,v',rfl,h1,h2,h3,⟨h4,h5⟩,h6,h7,_⟩;have hg:=zej (vars:=vars) h.inv;rw[zk2 h.inv.toBad h.dec] at h1;refine⟨rfl,v',_,hg.1.inv,h1,h2,h3,?_,?_⟩
 . intro he;have he1:(zx false false s vars).1.er=0:=zay he;obtain⟨r1,r2,r3,r4⟩:=ziI h.dec h4 h5 h6.out he1;obtain⟨k1,k2,k3⟩:=h.ok r1;refine⟨?_,?_,?_⟩
   . show n+1=(zx false false s vars).2.length;omega
   . show (zx false false s vars).2.length<=16;omega
   show xs++_=zb0 (zx false false s vars).2;rw[r4,k3]
 exact h.fr.trans' h7 (λi hi hs=>by
  rcases hs with hs|hs|hs
  . exact zM3 hs
  . exact zM4 (zM3 hs)
  exact zM4 (zM4 (h.own.lt i hs).1))
end
section
variable {xs:Xm} {vars:List Vr} {B n nb p pb:Nat} {S:Xs} {s:St} {c0 c1 c3 c4 c5 vs:Xv} {w wr:Xw}
theorem zjY:zH 187:=λ_ _=>by kernel_rfl
theorem zpn {w1 w9:Xw}{v':Xv}{X:Obj}{ns:Xb}{na ty:Nat}(i:Bool)
 (h:VI S pb nb B p w wr c0 c1 c3 c4 c5 s vars vs n xs) (hnp:pb<nb) (hBn:nb<B) (_hBw:B<=w.heap.size) (hk:Hid (((s.decl0 n).t.k=2->ns=(s.decl0 n).t.s/\na=(s.decl0 n).t.a)/\ty=if ((s.decl0 n).name.must 4 [58]).is 5 zbq=true then 1 else 0))
 (hF1:Fr (·=pb) wr w1) (hL9:PL S w9 pb (za4 s n)) (h4:xH w9 nb #[c0,c1,vs,c3,c4,c5] 121) (h5:w9.ownsRow B 134 7 v' (n+1) (xs++[.string ns,xI na,xI ty,xI 0,xI 0,.string ⟨#[]⟩,xI 0]))
 (h8:Fr (λk=>vs.ownBlock=some k) (w1.alloc X) w9):VI S pb nb B p w (w9.setCell (xD nb 2) v') c0 c1 c3 c4 c5 (zx i (!i) s vars).1 (zx i (!i) s vars).2 v' (n+1) (xs++[.string ns,xI na,xI ty,xI 0,xI 0,.string ⟨#[]⟩,xI 0]):=by
 rw[zj1 i h.inv.toBad h.dec] at hL9;have hg:=zbI (i:=i) (o:=!i) (vars:=vars) h.inv;refine⟨hg.1.inv,hL9.setOther hnp _ _,zh _ _ _ _ h4,zi h5 (λk hk _ _=>zr (by omega) rfl),?_,?_⟩
 . intro he;obtain⟨r1,r2,r3,r4⟩:=zpY i h.dec hk.out.1 hk.out.2 he;obtain⟨k1,k2,k3⟩:=h.ok r1;exact⟨by omega,by omega,by rw[r4,k3];rfl⟩
 have g1:Fr (λk=>k=pb∨k=nb∨B<=k) w (w1.alloc X):=(h.fr.trans' hF1 (λ_ _ h=>zM3 h)).alloc X;exact (g1.trans' h8 (λk _ hs=>zM4 (zM4 (h.own.lt k hs).1))).setCell (zM3 (zM4 (zM3 rfl))) _
theorem zii {e:Xy}(h:w.ownsRow B e 7 vs n xs):∃x cp,vs=.slice x n cp:=by
 rcases h.2 with ⟨h1,h2⟩|⟨g,cap,cur,h1,_⟩
 . exact⟨none,0,by rw[h1,h2]⟩
 exact⟨_,cap,h1⟩
theorem VI.goes {w':Xw}{s':St}(h:VI S pb nb B p w wr c0 c1 c3 c4 c5 s vars vs n xs)(hnp:pb<nb)(hBn:nb<B)(hI:Inv p s')(he:s'.er=0->s.er=0)(hL:PL S w' pb s')(hF:Fr (·=pb) wr w'):VI S pb nb B p w w' c0 c1 c3 c4 c5 s' vars vs n xs :=
 ⟨hI,hL,(hF.block nb (ze h.blk) (by omega)).trans h.blk,zi h.own (λk h1 h2 _=>hF.block k h2 (by omega)),λh'=>h.ok (he h'),h.fr.trans' hF (λ_ _ h=>zM3 h)⟩
theorem zhz (S:Xs)(pb nb B p m:Nat)(i:Bool)(w wr:Xw)(c0 c1 c3 c4 c5:Xv)(st:St)(vars:List Vr)(vs:Xv)(n:Nat)(xs:Xm)(hn:n<=m)(hm:m<=40)(hm6:16<=m)(hnp:pb<nb)(hBn:nb<B)(hBw:B<=w.heap.size)(H:VI S pb nb B p w wr c0 c1 c3 c4 c5 st vars vs n xs) :
 xK 152 #[xP pb,xP nb] wr λe w'=>∃(vs':Xv) (n':Nat) (xs':Xm),e=.returned (xI ((n':Int)-(n:Int)))/\n'<=m+1/\VI S pb nb B p w w' c0 c1 c3 c4 c5 (zab i st vars).1 (zab i st vars).2 vs' n' xs':=by
 obtain⟨x,cp,hvs⟩:∃x cp,vs=.slice x n cp:=by
  rcases H.own.2 with ⟨h1,h2⟩|⟨g,cap,cur,h1,_⟩
  . exact⟨none,0,by rw[h1,h2]⟩
  exact⟨_,cap,h1⟩
 have hblk:=H.blk;rw[hvs] at hblk;obtain⟨q0,q1,q2,q3,q4,q5,qf,qz⟩:=zt hblk;have HBd:=za H.inv.toBad;have hlt:=H.pl.lt;clear hblk;go_enter func152,ntmps152;go_wp2_with fail;refine (zP S pb st _ _ zfn _ HBd.o H.pl).mono ?_;rintro e w1 ⟨rfl,HL1,HF1⟩;rw[zan H.pl.tx (by decide)] at HL1;have f1:=Fwd.must H.inv 4 [40];have HV1:=H.goes hnp hBn f1.inv (λHer=>zay Her) HL1 HF1;have hRes0:zab i st vars=((zaG i 1300 (zx i (!i) (st.must 4 [40]) vars)).1.must 4 [41],(zaG i 1300 (zx i (!i) (st.must 4 [40]) vars)).2):=rfl;have HPM:=za hRes0;obtain⟨R,HR0⟩:∃R,zaG i 1300 (zx i (!i) (st.must 4 [40]) vars)=R:=⟨_,rfl⟩;rw[HR0] at HPM;have Hta:Hid (1201-(st.must 4 [40]).t.a<1300):=by unfold Hid;omega
 generalize st.must 4 [40]=s0 at *;obtain⟨i0,hi,hi0,hi1,hi2⟩:=info_parts Tryz.infoVar;clear q0 q1 q2 q3 q4 q5 qf f1 hRes0;go_wp2_with fail;go_loopg [6] 1300 (λk mo wx=>∃(b:Bool) (s:St) (vl:List Vr) (vv:Xv) (nn:Nat) (xx:Xm),mo=.bool b/\Hid (VI S pb nb B p w wx c0 c1 c3 c4 c5 s vl vv nn xx)/\nn<=m+1/\Hid (b=true->nn<=m/\zaG i k (zx i (!i) s vl)=R/\1201-s.t.a<k)/\Hid (b=false->(s,vl)=R));case atStart=>exact⟨true,s0,vars,vs,n,xs,rfl,HV1,by omega,λ_=>⟨hn,HR0,Hta.o⟩,λH=>by cases H⟩
 case round =>
  obtain⟨b,s,vl,vv,nn,xx,rfl,HA,hnn,HT,HFa⟩:=hrel;have hzr:=HA.o.fr.size;have hltr:=HA.o.pl.lt;have HBs:=za HA.o.inv.toBad;cases b with
  | false => have HQ:=za (HFa.o rfl);obtain⟨x2,cp2,hvv⟩:=zii HA.o.own;have Hb2:=HA.o.blk;rw[hvv] at Hb2;clear HT HFa hvv;go_wp2_with (go_at_call 150;refine (zP S pb s _ [41] zlq _ HBs.o HA.o.pl).mono ?_;rintro e w2 ⟨rfl,HL2,HF2⟩;have hn2:=(HF2.block nb (ze Hb2) (by omega)).trans Hb2;obtain⟨q0,q1,q2,q3,q4,q5,qf,qz2⟩:=zt hn2;clear hn2);go_ret;have hm':=zan HA.o.pl.tx (l:=[41]) (by decide);have HL2:=HL2;rw[hm'] at HL2;rw[HPM.o,<- HQ.o];refine⟨vv,nn,xx,?_,hnn,HA.o.goes hnp hBn (Fwd.must HA.o.inv 4 [41]).inv (λHer=>zay Her) HL2 HF2⟩;first|rfl|(congr 2;go_num)
  | true =>
    obtain⟨hnm,hR1,Hrem⟩:=HT.o rfl;obtain⟨x2,cp2,hvv⟩:=zii HA.o.own;have Hb2:=HA.o.blk;have hb2':=Hb2;rw[hvv] at hb2';obtain⟨q0,q1,q2,q3,q4,q5,qf,qz2⟩:=zt Hb2;have HDc:=za (λw1 (hh:w1.heap[nb]?=wr.heap[nb]?) H=>zfH S pb s w1 nb x2 nn cp2 HBs.o (by omega) (ze (hh.trans hb2')) (zt (hh.trans hb2')).2.2.1 H);have HR1:=za hR1;have mx:nn+1<=maxLen:=(by unfold maxLen;omega);have by':(nn+1)*72<=140737488355328:=(by omega);have Hnm:=za hnm;clear HT HFa hR1 hvv hb2';go_upto_block 1 with fail;go_cut [] (λwy=>∃vs' xs',Hid (VI S pb nb B p w wy c0 c1 c3 c4 c5 (zx i (!i) s vl).1 (zx i (!i) s vl).2 vs' (nn+1) xs'));case first =>
     go_wp2_with fail;go_region_law (first|(refine zde rfl 187 (.tmp 22) (.tmp 23) 172 90 rfl zjY (xP pb) (xP nb) rfl rfl (HDc.o _ rfl HA.o.pl.drew) ?_;rintro e w1 ⟨ns,na,ty,rfl,HK1,HL1,hF1'⟩;refine⟨_,rfl,?_⟩;have HF1:Fr (·=pb) wr w1:=hF1'.undrew;have hzc:=HF1.size;have Hn1:=(HF1.block nb (ze Hb2) (by omega)).trans Hb2;obtain⟨f0,f1,f2,f3,f4,f5,ff,fz⟩:=zt Hn1;have Hown1:=za (zi HA.o.own (λk h1 h2 _=>HF1.block k h2 (by omega)));have hzw:B<=w1.heap.size+1:=(by omega);clear hF1')|(refine zJ _ rfl (.tmp 21) (.tmp 25) 118 rfl B 134 i0 _ 7 72 underlying118 hi hi0 hi1 hi2 rfl (by decide) vv nn xx rfl (zD Hown1.o _) (xD w1.heap.size 0) 1 1 [.string ns,xI na,xI ty,xI 0,xI 0,.string ⟨#[]⟩,xI 0] rfl rfl (zN (zc w1 _) rfl) zoU mx by' (by simpa using hzw) ?_;intro v' w9 Hown9 hgrow hnew;obtain⟨g9,cap9,rfl,hg9⟩:=zM Hown9 (by omega);have HF9:=Fr.of_grown hgrow;have hb9:w9.heap[nb]?=w1.heap[nb]?:=((HF9.block nb (by rw[zsb];omega) (λH=>by have:=(Hown1.o.lt nb H).1;omega)).trans (Below.heap_alloc _ _ _ (by omega)));have Hn9:=za (hb9.trans Hn1);obtain⟨m0,m1,m2,m3,m4,m5,mf,mz⟩:=zt Hn9.o;have HL9:=za (PL.fr (HL1.alloc _) HF9 (λk hk=>by have:=(Hown1.o.lt k hk).1;omega));clear hgrow hnew hb9));all_goals go_wp2_with fail
     all_goals go_meet
     all_goals exact⟨_,_,zpn i HA.o hnp hBn hBw HK1 HF1 HL9.o Hn9.o Hown9 HF9⟩
    case rest =>
     obtain⟨vs2,xs2,HA2⟩:=hcut;have hzq:=HA2.o.fr.size;have HBd2:=za HA2.o.inv.toBad;generalize Hy:zx i (!i) s vl=y at *;have HSk:=za (zbg S pb y.1 ⟨#[44]⟩ [44] zlz wc HBd2.o HA2.o.pl);have hska:y.1.skipM [44]=if y.1.is 4 [44]=true then y.1.step else y.1:=(by unfold St.skipM;rw[zaB HA2.o.pl.tx (by decide)]);rw[zaB HA2.o.pl.tx (by decide),hska] at HSk;clear q0 q1 q2 q3 q4 q5 qf qz2 hska;obtain⟨g,rfl⟩:∃g,gk=g+1:=⟨gk-1,by have:=Hrem;omega⟩;have hR1:=HR1.o;have hunf:zaG i (g+1) y=if y.1.er=0/\y.1.is 4 [44]=true then zaG i g (zx i (!i) y.1.step y.2) else y:=rfl;rw[hunf] at hR1;cases hc:y.1.is 4 [44] with
     | true =>
       have Her:y.1.er=0:=HBd2.o.er (by rw[Inv.is_k hc];decide);rw[zM2 ⟨Her,hc⟩] at hR1;rw[hc,zM2 rfl] at HSk;have e5:=Fwd.step HA2.o.inv;have hta:y.1.t.a+1<=y.1.step.t.a:=(by have h1:=HA2.o.inv.tok (by rw[Inv.is_k hc];decide);have h2:=zV y.1.src y.1.t.t HA2.o.inv.ok.tt;rw[St.step_ok Her];simp only;omega);have HN:Hid (nn+1<=m/\zaG i g (zx i (!i) y.1.step y.2)=R/\1201-y.1.step.t.a<g):=(by have h1:s.t.a<=y.1.t.a:=(by have:=(zbI (i:=i) (o:=!i) (vars:=vl) HA.o.inv).1.ta;rwa [Hy] at this);have h2:=Hrem;have h3:=HA.o.inv.ok.ta_le;have h4:=e5.inv.ok.ta_le;have h5:=(HA2.o.ok Her);exact⟨by omega,hR1,by omega⟩);have HI5:=za e5.inv;clear hR1 hunf hc e5 hta;go_wp2_with (go_at_call 153;refine HSk.o.mono ?_;rintro e w3 ⟨rfl,HL3,HF3⟩);go_roundg g;case measure=>omega
       exact⟨true,y.1.step,y.2,vs2,nn+1,xs2,rfl,HA2.o.goes hnp hBn HI5.o (λ_=>Her) HL3 HF3,by have:=HN.o.1;omega,λ_=>HN.o,λH=>by cases H⟩
     | false =>
       rw[zM1 (by rw[hc];simp)] at hR1;have HR2:=za hR1;rw[hc,zM1 (by simp)] at HSk;clear hR1 hunf hc;go_wp2_with (go_at_call 153;refine HSk.o.mono ?_;rintro e w3 ⟨rfl,HL3,HF3⟩);go_roundg g;case measure=>omega
       exact⟨false,y.1,y.2,vs2,nn+1,xs2,rfl,HA2.o.goes hnp hBn HA2.o.inv (λH=>H) HL3 HF3,by have:=Hnm.o;omega,(λH=>by cases H),λ_=>HR2.o⟩
end
end Go.Proofs.YtbicmofihhjgbaaGreatDoor
