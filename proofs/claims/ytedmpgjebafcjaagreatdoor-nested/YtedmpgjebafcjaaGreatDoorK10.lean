/- Part 11 of the proof: CofF MdlQ MdlQ2 MdlD MdlD2. -/
import Derived.Test.YtedmpgjebafcjaaGreatDoorK09
set_option maxRecDepth 100000
set_option maxHeartbeats 8000000
namespace Go.Proofs.YtedmpgjebafcjaaGreatDoor
section
open Go.RowKit
theorem zjY:zH 158:=λ_ _=>by kernel_rfl
theorem zpn {S:Nat->Addr} {pb nb B p:Nat} {w wr w1 w9:World} {c0 c1 c3 c4 c5:Value} {s:St} {vars:List Vr} {vs v':Value} {n:Nat} {xs:List Value} {X:Obj} {ns:ByteArray} {na ty:Nat} (i:Bool)
 (h:VI S pb nb B p w wr c0 c1 c3 c4 c5 s vars vs n xs) (hnp:pb<nb) (hBn:nb<B) (_hBw:B<=w.heap.size) (hk:Hid (((s.decl0 n).t.k=2->ns=(s.decl0 n).t.s/\na=(s.decl0 n).t.a)/\ty=if ((s.decl0 n).name.must 4 [58]).is 5 zbq=true then 1 else 0))
 (hF1:Fr (·=pb) wr w1) (hL9:PL S w9 pb (za4 s n)) (h4:w9.heap[nb]?=some (.cells #[c0,c1,vs,c3,c4,c5] 97 (0,0))) (h5:w9.ownsRow B 110 7 v' (n+1) (xs++[.string ns,.int .i64 na,.int .i64 ty,.int .i64 0,.int .i64 0,.string ⟨#[]⟩,.int .i64 0]))
 (h8:Fr (λk=>vs.ownBlock=some k) (w1.alloc X) w9):VI S pb nb B p w (w9.setCell ⟨nb,2,none⟩ v') c0 c1 c3 c4 c5 (zx i (!i) s vars).1 (zx i (!i) s vars).2 v' (n+1) (xs++[.string ns,.int .i64 na,.int .i64 ty,.int .i64 0,.int .i64 0,.string ⟨#[]⟩,.int .i64 0]):=by
 rw [zj1 i h.inv.toBad h.dec] at hL9
 have hg:=zbI (i:=i) (o:=!i) (vars:=vars) h.inv
 refine ⟨hg.1.inv,hL9.setOther hnp _ _,zh _ _ _ _ h4,zi h5 (λk hk _ _=>zr (by omega) rfl),?_,?_⟩
 · intro he
   obtain ⟨r1,r2,r3,r4⟩:=zpY i h.dec hk.out.1 hk.out.2 he
   obtain ⟨k1,k2,k3⟩:=h.ok r1
   exact ⟨by omega,by omega,by rw [r4,k3];rfl⟩
 · have g1:Fr (λk=>k=pb∨k=nb∨B<=k) w (w1.alloc X):=(h.fr.trans' hF1 (λ_ _ h=>Or.inl h)).alloc X
   exact (g1.trans' h8 (λk _ hs=>Or.inr (Or.inr (h.own.lt k hs).1))).setCell (Or.inl (Or.inr (Or.inl rfl))) _
theorem zii {w:World} {B n:Nat} {e:TypeId} {vs:Value} {xs:List Value} (h:w.ownsRow B e 7 vs n xs):∃x cp,vs=.slice x n cp:=by
 rcases h.2 with ⟨h1,h2⟩|⟨g,cap,cur,h1,_⟩
 · exact ⟨none,0,by rw [h1,h2]⟩
 · exact ⟨_,cap,h1⟩
theorem VI.goes {S:Nat->Addr} {pb nb B p:Nat} {w wr w':World} {c0 c1 c3 c4 c5:Value} {s s':St} {vars:List Vr} {vs:Value} {n:Nat} {xs:List Value} (h:VI S pb nb B p w wr c0 c1 c3 c4 c5 s vars vs n xs) (hnp:pb<nb) (hBn:nb<B) (hI:Inv p s') (he:s'.er=0->s.er=0) (hL:PL S w' pb s') (hF:Fr (·=pb) wr w'):VI S pb nb B p w w' c0 c1 c3 c4 c5 s' vars vs n xs :=
 ⟨hI,hL,(hF.block nb (ze h.blk) (by omega)).trans h.blk,zi h.own (λk h1 h2 _=>hF.block k h2 (by omega)),λh'=>h.ok (he h'),h.fr.trans' hF (λ_ _ h=>Or.inl h)⟩
theorem zhz (S:Nat->Addr) (pb nb B p m:Nat) (i:Bool) (w wr:World) (c0 c1 c3 c4 c5:Value) (st:St) (vars:List Vr) (vs:Value) (n:Nat) (xs:List Value) (hn:n<=m) (hm:m<=40) (hm6:16<=m) (hnp:pb<nb) (hBn:nb<B) (hBw:B<=w.heap.size) (h:VI S pb nb B p w wr c0 c1 c3 c4 c5 st vars vs n xs) :
 Calls Tryz.prog 132 #[.pointer (some ⟨pb,0,none⟩),.pointer (some ⟨nb,0,none⟩)] wr λe w'=>∃(vs':Value) (n':Nat) (xs':List Value),e=.returned (.int .i64 ((n':Int)-(n:Int)))/\n'<=m+1/\VI S pb nb B p w w' c0 c1 c3 c4 c5 (zab i st vars).1 (zab i st vars).2 vs' n' xs':=by
 obtain ⟨x,cp,hvs⟩:∃x cp,vs=.slice x n cp:=by
  rcases h.own.2 with ⟨h1,h2⟩|⟨g,cap,cur,h1,_⟩
  · exact ⟨none,0,by rw [h1,h2]⟩
  · exact ⟨_,cap,h1⟩
 have hblk:=h.blk
 rw [hvs] at hblk
 obtain ⟨q0,q1,q2,q3,q4,q5,qf,qz⟩:=zt hblk
 have H:=za h
 have HBd:=za h.inv.toBad
 have hlt:=h.pl.lt
 clear h hblk
 go_enter Tryz.func132,Tryz.ntmps132
 go_wp2_with fail
 refine (zP S pb st _ _ zfn _ HBd.out H.out.pl).mono ?_
 rintro e w1 ⟨rfl,hL1,hF1⟩
 rw [zan H.out.pl.tx (by decide)] at hL1
 have f1:=Fwd.must H.out.inv 4 [40]
 have hV1:=H.out.goes hnp hBn f1.inv (λhe=>zay he) hL1 hF1
 have HV1:=za hV1
 have hRes0:zab i st vars=((zaG i 1300 (zx i (!i) (st.must 4 [40]) vars)).1.must 4 [41],(zaG i 1300 (zx i (!i) (st.must 4 [40]) vars)).2):=rfl
 have HPM:=za hRes0
 obtain ⟨R,hR⟩:∃R,zaG i 1300 (zx i (!i) (st.must 4 [40]) vars)=R:=⟨_,rfl⟩
 rw [hR] at HPM
 have HR0:=za hR
 have Hta:Hid (1201-(st.must 4 [40]).t.a<1300):=by unfold Hid;omega
 generalize st.must 4 [40]=s0 at *
 obtain ⟨i0,hi,hi0,hi1,hi2⟩:=info_parts Tryz.infoVar
 clear hL1 hF1 q0 q1 q2 q3 q4 q5 qf f1 hV1 hRes0 hR
 go_wp2_with fail
 go_loopg [6] 1300 (λk mo wx=>∃(b:Bool) (s:St) (vl:List Vr) (vv:Value) (nn:Nat) (xx:List Value),mo=.bool b/\Hid (VI S pb nb B p w wx c0 c1 c3 c4 c5 s vl vv nn xx)/\nn<=m+1/\Hid (b=true->nn<=m/\zaG i k (zx i (!i) s vl)=R/\1201-s.t.a<k)/\Hid (b=false->(s,vl)=R))
 case atStart=>exact ⟨true,s0,vars,vs,n,xs,rfl,HV1.out,by omega,λ_=>⟨hn,HR0.out,Hta.out⟩,λh=>by cases h⟩
 case round =>
  obtain ⟨b,s,vl,vv,nn,xx,rfl,HA,hnn,HT,HFa⟩:=hrel
  have hzr:=HA.out.fr.size
  have hltr:=HA.out.pl.lt
  have HBs:=za HA.out.inv.toBad
  cases b with
  | false =>
    have HQ:=za (HFa.out rfl)
    obtain ⟨x2,cp2,hvv⟩:=zii HA.out.own
    have hb2:=HA.out.blk
    rw [hvv] at hb2
    have Hb2:=za hb2
    clear HT HFa hvv hb2
    go_wp2_with (go_at_call 130;refine (zP S pb s _ [41] zlq _ HBs.out HA.out.pl).mono ?_;rintro e w2 ⟨rfl,hL2,hF2⟩;have hn2:=(hF2.block nb (ze Hb2.out) (by omega)).trans Hb2.out;obtain ⟨q0,q1,q2,q3,q4,q5,qf,qz2⟩:=zt hn2;have HL2:=za hL2;have HF2:=za hF2;clear hL2 hF2 hn2)
    go_ret
    have hm':=zan HA.out.pl.tx (l:=[41]) (by decide)
    have hL2:=HL2.out
    rw [hm'] at hL2
    rw [HPM.out,<- HQ.out]
    refine ⟨vv,nn,xx,?_,hnn,HA.out.goes hnp hBn (Fwd.must HA.out.inv 4 [41]).inv (λhe=>zay he) hL2 HF2.out⟩
    first|rfl|(congr 2;go_num)
  | true =>
    obtain ⟨hnm,hR1,hrem⟩:=HT.out rfl
    obtain ⟨x2,cp2,hvv⟩:=zii HA.out.own
    have hb2:=HA.out.blk
    have hb2':=hb2
    rw [hvv] at hb2'
    obtain ⟨q0,q1,q2,q3,q4,q5,qf,qz2⟩:=zt hb2
    have HDc:=za (λw1 (hh:w1.heap[nb]?=wr.heap[nb]?) h=>zfH S pb s w1 nb x2 nn cp2 HBs.out (by omega) (ze (hh.trans hb2')) (zt (hh.trans hb2')).2.2.1 h)
    have Hb2:=za hb2
    have HR1:=za hR1
    have Hrem:=za hrem
    have mx:nn+1<=maxLen:=by unfold maxLen;omega
    have by':(nn+1)*72<=140737488355328:=by omega
    have Hnm:=za hnm
    clear HT HFa hR1 hrem hvv hb2 hb2'
    go_upto_block 1 with fail
    go_cut [] (λwy=>∃vs' xs',Hid (VI S pb nb B p w wy c0 c1 c3 c4 c5 (zx i (!i) s vl).1 (zx i (!i) s vl).2 vs' (nn+1) xs'))
    case first =>
     go_wp2_with fail
     go_region_law (first|(refine zde rfl 158 (.tmp 22) (.tmp 23) 199 86 rfl zjY (.pointer (some ⟨pb,0,none⟩)) (.pointer (some ⟨nb,0,none⟩)) rfl rfl (HDc.out _ rfl HA.out.pl.drew) ?_;rintro e w1 ⟨ns,na,ty,rfl,HK1,hL1,hF1'⟩;refine ⟨_,rfl,?_⟩;have hF1:Fr (·=pb) wr w1:=hF1'.undrew;have hzc:=hF1.size;have hn1:=(hF1.block nb (ze Hb2.out) (by omega)).trans Hb2.out;obtain ⟨f0,f1,f2,f3,f4,f5,ff,fz⟩:=zt hn1;have Hown1:=za (zi HA.out.own (λk h1 h2 _=>hF1.block k h2 (by omega)));have HL1:=za hL1;have HF1:=za hF1;have Hn1:=za hn1;have hzw:B<=w1.heap.size+1:=(by omega);clear hL1 hF1 hn1 hF1')|(refine zJ _ rfl (.tmp 21) (.tmp 25) 94 rfl B 110 i0 _ 7 72 Tryz.underlying94 hi hi0 hi1 hi2 rfl (by decide) vv nn xx rfl (zD Hown1.out _) ⟨w1.heap.size,0,none⟩ 1 1 [.string ns,.int .i64 na,.int .i64 ty,.int .i64 0,.int .i64 0,.string ⟨#[]⟩,.int .i64 0] rfl rfl (zN (zc w1 _) rfl) zoU mx by' (by simpa using hzw) ?_;intro v' w9 hown hgrow hnew;obtain ⟨g9,cap9,rfl,hg9⟩:=zM hown (by omega);have hF9:=Fr.of_grown hgrow;have hb9:w9.heap[nb]?=w1.heap[nb]?:=((hF9.block nb (by rw [zsb];omega) (λh=>by have:=(Hown1.out.lt nb h).1;omega)).trans (Below.heap_alloc _ _ _ (by omega)));have Hn9:=za (hb9.trans Hn1.out);obtain ⟨m0,m1,m2,m3,m4,m5,mf,mz⟩:=zt Hn9.out;have HL9:=za (PL.fr (HL1.out.alloc _) hF9 (λk hk=>by have:=(Hown1.out.lt k hk).1;omega));have HF9:=za hF9;have Hown9:=za hown;clear hown hgrow hnew hF9 hb9))
     all_goals go_wp2_with fail
     all_goals go_meet
     all_goals exact ⟨_,_,zpn i HA.out hnp hBn hBw HK1 HF1.out HL9.out Hn9.out Hown9.out HF9.out⟩
    case rest =>
     obtain ⟨vs2,xs2,HA2⟩:=hcut
     have hzq:=HA2.out.fr.size
     have HBd2:=za HA2.out.inv.toBad
     generalize hy:zx i (!i) s vl=y at *
     have Hy:=za hy
     have HSk:=za (zbg S pb y.1 ⟨#[44]⟩ [44] zlz wc HBd2.out HA2.out.pl)
     have hska:y.1.skipM [44]=if y.1.is 4 [44]=true then y.1.step else y.1:=by unfold St.skipM;rw [zaB HA2.out.pl.tx (by decide)]
     rw [zaB HA2.out.pl.tx (by decide),hska] at HSk
     clear q0 q1 q2 q3 q4 q5 qf qz2 hska hy
     obtain ⟨g,rfl⟩:∃g,gk=g+1:=⟨gk-1,by have:=Hrem.out;omega⟩
     have hR1:=HR1.out
     have hunf:zaG i (g+1) y=if y.1.er=0/\y.1.is 4 [44]=true then zaG i g (zx i (!i) y.1.step y.2) else y:=rfl
     rw [hunf] at hR1
     cases hc:y.1.is 4 [44] with
     | true =>
       have he:y.1.er=0:=HBd2.out.er (by rw [Inv.is_k hc];decide)
       rw [if_pos ⟨he,hc⟩] at hR1
       rw [hc,if_pos rfl] at HSk
       have e5:=Fwd.step HA2.out.inv
       have hta:y.1.t.a+1<=y.1.step.t.a:=by
        have h1:=HA2.out.inv.tok (by rw [Inv.is_k hc];decide)
        have h2:=zV y.1.src y.1.t.t HA2.out.inv.ok.tt
        rw [St.step_ok he];simp only;omega
       have HN:Hid (nn+1<=m/\zaG i g (zx i (!i) y.1.step y.2)=R/\1201-y.1.step.t.a<g):=by
        have h1:s.t.a<=y.1.t.a:=by
         have:=(zbI (i:=i) (o:=!i) (vars:=vl) HA.out.inv).1.ta
         rwa [Hy.out] at this
        have h2:=Hrem.out
        have h3:=HA.out.inv.ok.ta_le
        have h4:=e5.inv.ok.ta_le
        have h5:=(HA2.out.ok he)
        exact ⟨by omega,hR1,by omega⟩
       have HI5:=za e5.inv
       have Her:=za he
       clear hR1 hunf hc he e5 hta
       go_wp2_with (go_at_call 133;refine HSk.out.mono ?_;rintro e w3 ⟨rfl,hL3,hF3⟩;have HL3:=za hL3;have HF3:=za hF3;clear hL3 hF3)
       go_roundg g
       case measure=>omega
       exact ⟨true,y.1.step,y.2,vs2,nn+1,xs2,rfl,HA2.out.goes hnp hBn HI5.out (λ_=>Her.out) HL3.out HF3.out,by have:=HN.out.1;omega,λ_=>HN.out,λh=>by cases h⟩
     | false =>
       rw [if_neg (by rw [hc];simp)] at hR1
       have HR2:=za hR1
       rw [hc,if_neg (by simp)] at HSk
       clear hR1 hunf hc
       go_wp2_with (go_at_call 133;refine HSk.out.mono ?_;rintro e w3 ⟨rfl,hL3,hF3⟩;have HL3:=za hL3;have HF3:=za hF3;clear hL3 hF3)
       go_roundg g
       case measure=>omega
       exact ⟨false,y.1,y.2,vs2,nn+1,xs2,rfl,HA2.out.goes hnp hBn HA2.out.inv (λh=>h) HL3.out HF3.out,by have:=Hnm.out;omega,(λh=>by cases h),λ_=>HR2.out⟩
end
section
structure Eqn where
 ns:List ByteArray
 ps:List Nat
 a:Nat
 ex:Nat
structure Nms where
 st:St
 ns:List ByteArray
 ps:List Nat
def Nms.more (x:Nms):Nms:=⟨x.st.step.name,x.ns++[x.st.step.t.s],x.ps++[x.st.step.t.a]⟩
def zbO:Nat->Nms->Nms
 | 0,x=>x
 | f+1,x=>if x.st.er=0/\x.st.is 4 [44]=true then zbO f x.more else x
def zdH (st:St):Nms :=
 let s3:=st.step.name.must 4 [44]
 let y:=zbO 1300 ⟨s3.name,[st.step.t.s,s3.t.s],[st.step.t.a,s3.t.a]⟩
 ⟨y.st.must 4 [41],y.ns,y.ps⟩
def zaH (st:St):Nms:=if st.is 4 [40]=true then zdH st else ⟨st.name,[st.t.s],[st.t.a]⟩
def zck (r17 r18:Fn) (many:Bool) (st:St):St×Nat:=if many=true then zao r17 st.t st.name else r18 st
def zF (r17 r18:Fn) (st:St) (eqs:List Eqn):St×List Eqn :=
 let l:=zaH st
 let e:=zck r17 r18 (st.is 4 [40]) (l.st.must 4 [61])
 (e.1.must 4 [59],eqs++[⟨l.ns,l.ps,l.st.t.a,e.2⟩])
theorem zdO:∀(f p:Nat) (x:Nms),Inv p x.st->Fwd p x.st (zbO f x).st/\(zbO f x).st.op=x.st.op/\(zbO f x).st.L=x.st.L:=by
 intro f
 induction f with
 | zero=>intro p x hI;exact ⟨Fwd.refl hI,rfl,rfl⟩
 | succ f ih =>
   intro p x hI
   show Fwd p x.st (if _ then _ else x).st/\(if _ then _ else x).st.op=x.st.op/\(if _ then _ else x).st.L=x.st.L
   by_cases hc:x.st.er=0/\x.st.is 4 [44]=true
   · rw [if_pos hc]
     have h1:=Fwd.step hI
     have h2:=Fwd.name h1.inv
     have h3:=ih p x.more h2.inv
     exact ⟨(h1.trans h2).trans h3.1,h3.2.1.trans ((St.name_op _).trans (St.step_op _)),h3.2.2.trans ((St.name_L _).trans (St.step_L _))⟩
   · rw [if_neg hc];exact ⟨Fwd.refl hI,rfl,rfl⟩
theorem zmR {st:St} {p:Nat} (hI:Inv p st):Fwd p st (zdH st).st/\(zdH st).st.op=st.op/\(zdH st).st.L=st.L:=by
 have h1:=Fwd.step hI
 have h2:=Fwd.name h1.inv
 have h3:=Fwd.must h2.inv 4 [44]
 have h4:=Fwd.name h3.inv
 have h5:=zdO 1300 p ⟨(st.step.name.must 4 [44]).name,[st.step.t.s,(st.step.name.must 4 [44]).t.s],[st.step.t.a,(st.step.name.must 4 [44]).t.a]⟩ h4.inv
 have h6:=Fwd.must h5.1.inv 4 [41]
 refine ⟨((((h1.trans h2).trans h3).trans h4).trans h5.1).trans h6,?_,?_⟩
 · unfold zdH;simp only;rw [St.must_op,h5.2.1];simp only;rw [St.name_op,St.must_op,St.name_op,St.step_op]
 · unfold zdH;simp only;rw [St.must_L,h5.2.2];simp only;rw [St.name_L,St.must_L,St.name_L,St.step_L]
theorem zfO {st:St} {p:Nat} (hI:Inv p st):Fwd p st (zaH st).st/\(zaH st).st.op=st.op/\(zaH st).st.L=st.L:=by
 unfold zaH
 split
 · exact zmR hI
 · exact ⟨Fwd.name hI,St.name_op _,St.name_L _⟩
theorem zfx {r17 r18:Fn} (g17:zv 17 r17) (g18:zv 18 r18) {many:Bool} {st:St} {p:Nat} (hI:Inv p st) (ho:st.op=0) (hm:many=true->1<=st.t.a):Fwd p st (zck r17 r18 many st).1/\(zck r17 r18 many st).1.op=st.op:=by
 unfold zck
 split
 · rename_i hmm
   have h1:=Fwd.name hI
   by_cases he:st.name.er=0
   · have h2:=zis g17 st.t h1.inv he (by rw [St.name_op,ho];omega) (Nat.le_trans (hm hmm) h1.ta)
     exact ⟨h1.trans h2.fwd,h2.op.trans (St.name_op _)⟩
   · have hb:st.name.is 4 [40]=false:=by
      have:=h1.inv.bad he
      simp [St.is,this]
     have e:zao r17 st.t st.name=(st.name.fail 2 st.name.t.a,0):=by unfold zao;rw [if_neg (by rw [hb];simp)]
     rw [e]
     exact ⟨h1.trans (Fwd.fail h1.inv (by omega) (by omega) h1.inv.ok.ta_le),(St.fail_op _ _ _).trans (St.name_op _)⟩
 · have h2:=g18 st p hI (by omega)
   exact ⟨h2.fwd,h2.op⟩
theorem zkp {st:St} {p:Nat} (hI:Inv p st) (hm:st.is 4 [40]=true):1<=(zaH st).st.t.a:=by
 have he:=hI.is_ok (by omega) hm
 have hk:=Inv.is_k hm
 have h0:zaH st=zdH st:=by unfold zaH;rw [if_pos hm]
 rw [h0]
 have h1:1<=st.step.t.a:=by
  have:=hI.tok (by omega)
  rw [St.step_ok he]
  have hf:=zV st.src st.t.t hI.ok.tt
  simp only;omega
 have e1:=Fwd.step hI
 have e2:=Fwd.name e1.inv
 have e3:=Fwd.must e2.inv 4 [44]
 have e4:=Fwd.name e3.inv
 have e5:=zdO 1300 p ⟨(st.step.name.must 4 [44]).name,[st.step.t.s,(st.step.name.must 4 [44]).t.s],[st.step.t.a,(st.step.name.must 4 [44]).t.a]⟩ e4.inv
 have e6:=Fwd.must e5.1.inv 4 [41]
 have h:=((((e2.trans e3).trans e4).trans e5.1).trans e6).ta
 exact Nat.le_trans h1 h
theorem za1 {r17 r18:Fn} (g17:zv 17 r17) (g18:zv 18 r18) {st:St} {eqs:List Eqn} {p:Nat} (hI:Inv p st) (ho:st.op=0):Fwd p st (zF r17 r18 st eqs).1/\(zF r17 r18 st eqs).1.op=st.op:=by
 have h1:=zfO hI
 have h2:=Fwd.must h1.1.inv 4 [61]
 have o2:((zaH st).st.must 4 [61]).op=0:=by rw [St.must_op,h1.2.1,ho]
 have h3:=zfx g17 g18 (many:=st.is 4 [40]) h2.inv o2 (λhm=>Nat.le_trans (zkp hI hm) h2.ta)
 have h4:=Fwd.must h3.1.inv 4 [59]
 refine ⟨((h1.1.trans h2).trans h3.1).trans h4,?_⟩
 unfold zF;simp only;rw [St.must_op,h3.2,o2,ho]
def zeh (st:St):Nms:=⟨(st.step.name.must 4 [44]).name,[st.step.t.s,(st.step.name.must 4 [44]).t.s],[st.step.t.a,(st.step.name.must 4 [44]).t.a]⟩
structure zrA (st:St) (R:Nms) (p:Nat):Prop where
 many:zdH st=⟨R.st.must 4 [41],R.ns,R.ps⟩
 x0:Inv p (zeh st).st
 r:Inv p R.st
 rL:R.st.L=st.L
 rop:R.st.op=st.op
 ta:1<=R.st.t.a
theorem zko {st:St} {f:Nat} {R:Nms} (hf:f=1300) (h:zbO f (zeh st)=R):zdH st=⟨R.st.must 4 [41],R.ns,R.ps⟩:=by
 subst h
 subst hf
 rfl
theorem zkV {st:St} {p f:Nat} {R:Nms} (hI:Inv p st) (hm:st.is 4 [40]=true) (hf:f=1300) (h:zbO f (zeh st)=R):zrA st R p:=by
 have he:=hI.is_ok (by omega) hm
 have hk:=Inv.is_k hm
 have h1:1<=st.step.t.a:=by
  have:=hI.tok (by omega)
  rw [St.step_ok he]
  have hf:=zV st.src st.t.t hI.ok.tt
  simp only;omega
 have e1:=Fwd.step hI
 have e2:=Fwd.name e1.inv
 have e3:=Fwd.must e2.inv 4 [44]
 have e4:=Fwd.name e3.inv
 have e5:=zdO f p (zeh st) e4.inv
 rw [h] at e5
 refine ⟨zko hf h,e4.inv,e5.1.inv,?_,?_,?_⟩
 · rw [e5.2.2];unfold zeh;simp only;rw [St.name_L,St.must_L,St.name_L,St.step_L]
 · rw [e5.2.1];unfold zeh;simp only;rw [St.name_op,St.must_op,St.name_op,St.step_op]
 · exact Nat.le_trans h1 (((e2.trans e3).trans e4).trans e5.1).ta
theorem zjK {r17 r18:Fn} {st:St} {eqs:List Eqn} {R:Nms} (hm:st.is 4 [40]=true) (h:zdH st=⟨R.st.must 4 [41],R.ns,R.ps⟩) :
 zF r17 r18 st eqs=((zao r17 ((R.st.must 4 [41]).must 4 [61]).t ((R.st.must 4 [41]).must 4 [61]).name).1.must 4 [59],eqs++[⟨R.ns,R.ps,(R.st.must 4 [41]).t.a,(zao r17 ((R.st.must 4 [41]).must 4 [61]).t ((R.st.must 4 [41]).must 4 [61]).name).2⟩]):=by
 have h1:zaH st=⟨R.st.must 4 [41],R.ns,R.ps⟩:=by unfold zaH;rw [if_pos hm,h]
 unfold zF zck
 simp only [h1]
 rw [if_pos hm]
structure Nd where
 nm:ByteArray
 a:Nat
 vars:List Vr
 exs:List Ex
 eqs:List Eqn
def zW:List UInt8:=[110,111,100,101]
def zi2:List UInt8:=[118,97,114]
def zbA:Nat->St×List Vr->St×List Vr
 | 0,x=>x
 | f+1,x=>if x.1.er=0/\x.1.t.k=2 then zbA f (zaR x.1 x.2) else x
def zd6 (r17 r18:Fn):Nat->St×List Eqn->St×List Eqn
 | 0,x=>x
 | f+1,x=>if x.1.er=0/\x.1.is 4 [125]=false then zd6 r17 r18 f (zF r17 r18 x.1 x.2) else x
def zaS (f:Nat) (st:St) (vars:List Vr):St×List Vr:=if st.is 5 zi2=true then zbA f (zaR st.step vars) else (st,vars)
def St.fresh (st:St):St:={ st with L:=[] }
def zaI (st:St):St×List Vr :=
 let x:=zab true (st.must 5 zW).name []
 zab false (x.1.must 4 [45,62]) x.2
def zeO (r17 r18:Fn) (f:Nat) (st:St):St×List Eqn :=
 let x:=zd6 r17 r18 f (zF r17 r18 (st.must 4 [123]) [])
 (x.1.must 4 [125],x.2)
def zei (r17 r18:Fn) (f:Nat) (st:St) (nodes:List Nd):St×List Nd :=
 if 6<=nodes.length then (st.fresh.fail 2 st.t.a,nodes)
 else
  let h:=zaI st.fresh
  let v:=zaS f h.1 h.2
  let b:=zeO r17 r18 f v.1
  (b.1,nodes++[⟨(st.fresh.must 5 zW).t.s,(st.fresh.must 5 zW).t.a,v.2,b.1.L,b.2⟩])
theorem Fwd.fresh {p:Nat} {st:St} (h:Inv p st):Inv 0 st.fresh:=by
 have h0:=h.ok
 refine ⟨⟨h0.src,h0.tt,h0.ta,h0.tn,h0.op,h0.er,h0.at',h0.tk⟩,?_,h.op1,h.op0,h.bad,h.tok⟩
 simp [St.fresh]
theorem zfI {p:Nat} {st:St} (hI:Inv p st) (he:st.er=0) (hs:st.name.er=0):st.t.a+1<=st.name.t.a:=by
 by_cases hk:st.t.k=2
 · have e:st.name=st.step:=by unfold St.name;rw [if_pos hk]
   have:=hI.tok (by omega)
   rw [e,St.step_ok he]
   have hf:=zV st.src st.t.t hI.ok.tt
   simp only;omega
 · have e:st.name=st.fail 2 st.t.a:=by unfold St.name;rw [if_neg hk]
   rw [e] at hs
   exact absurd hs (St.fail_er st (by omega))
theorem Fwd.back {p:Nat} {a b:St} (h:Fwd p a b) (hb:b.er=0):a.er=0:=by
 by_cases he:a.er=0
 · exact he
 · exact absurd hb (h.er he)
theorem zix {i o:Bool} {st:St} {vars:List Vr} {p:Nat} (hI:Inv p st) (he:st.er=0) (hs:(zx i o st vars).1.er=0):st.t.a+1<=(zx i o st vars).1.t.a:=by
 unfold zx at hs ⊢
 split
 · rename_i hl
   rw [if_pos hl] at hs
   exact absurd hs (St.fail_er st (by omega))
 · rename_i hl
   rw [if_neg hl] at hs
   have h1:=Fwd.name hI
   have h2:=Fwd.must h1.inv 4 [58]
   have h3:=Fwd.type h2.inv
   simp only at hs ⊢
   split
   · rename_i hc
     rw [if_pos hc] at hs
     have h4:=Fwd.step h3.inv
     have h5:=Fwd.nott h4.inv
     have h6:=Fwd.name h5.inv
     have hw:=(((h2.trans h3).trans h4).trans h5).trans h6
     exact Nat.le_trans (zfI hI he (hw.back hs)) hw.ta
   · rename_i hc
     rw [if_neg hc] at hs
     have hw:=h2.trans h3
     exact Nat.le_trans (zfI hI he (hw.back hs)) hw.ta
theorem zlj {st:St} {vars:List Vr} {p:Nat} (hI:Inv p st) (he:st.er=0) (hs:(zaR st vars).1.er=0):st.t.a+1<=(zaR st vars).1.t.a:=by
 have h1:=zbI (i:=false) (o:=false) (vars:=vars) hI
 have h2:=Fwd.must h1.1.inv 4 [59]
 exact Nat.le_trans (zix hI he (h2.back hs)) h2.ta
theorem zmp {st:St} {p:Nat} (hI:Inv p st) (he:st.er=0) (hs:(zaH st).st.er=0):st.t.a+1<=(zaH st).st.t.a:=by
 unfold zaH at hs ⊢
 split
 · rename_i hm
   rw [if_pos hm] at hs
   have hk:=Inv.is_k hm
   have h0:st.t.a+1<=st.step.t.a:=by
    have:=hI.tok (by omega)
    rw [St.step_ok he]
    have hf:=zV st.src st.t.t hI.ok.tt
    simp only;omega
   have e1:=Fwd.step hI
   have e2:=Fwd.name e1.inv
   have e3:=Fwd.must e2.inv 4 [44]
   have e4:=Fwd.name e3.inv
   have e5:=zdO 1300 p (zeh st) e4.inv
   have e6:=Fwd.must e5.1.inv 4 [41]
   have hw:=(((e2.trans e3).trans e4).trans e5.1).trans e6
   exact Nat.le_trans h0 hw.ta
 · rename_i hm
   rw [if_neg hm] at hs
   exact zfI hI he hs
theorem ziF {r17 r18:Fn} (g17:zv 17 r17) (g18:zv 18 r18) {st:St} {eqs:List Eqn} {p:Nat} (hI:Inv p st) (ho:st.op=0) (he:st.er=0) (hs:(zF r17 r18 st eqs).1.er=0):st.t.a+1<=(zF r17 r18 st eqs).1.t.a:=by
 have h1:=zfO hI
 have h2:=Fwd.must h1.1.inv 4 [61]
 have o2:((zaH st).st.must 4 [61]).op=0:=by rw [St.must_op,h1.2.1,ho]
 have h3:=zfx g17 g18 (many:=st.is 4 [40]) h2.inv o2 (λhm=>Nat.le_trans (zkp hI hm) h2.ta)
 have h4:=Fwd.must h3.1.inv 4 [59]
 have hw:=(h2.trans h3.1).trans h4
 exact Nat.le_trans (zmp hI he (hw.back hs)) hw.ta
theorem ziS:∀(f p:Nat) (x:St×List Vr),Inv p x.1->Fwd p x.1 (zbA f x).1/\(zbA f x).1.op=x.1.op/\(zbA f x).1.L=x.1.L:=by
 intro f
 induction f with
 | zero=>intro p x hI;exact ⟨Fwd.refl hI,rfl,rfl⟩
 | succ f ih =>
   intro p x hI
   show Fwd p x.1 (if _ then _ else x).1/\(if _ then _ else x).1.op=x.1.op/\(if _ then _ else x).1.L=x.1.L
   by_cases hc:x.1.er=0/\x.1.t.k=2
   · rw [if_pos hc]
     have h2:=zej (vars:=x.2) hI
     have h3:=ih p _ h2.1.inv
     exact ⟨h2.1.trans h3.1,h3.2.1.trans h2.2.1,h3.2.2.trans h2.2.2⟩
   · rw [if_neg hc];exact ⟨Fwd.refl hI,rfl,rfl⟩
theorem zh4 {r17 r18:Fn} (g17:zv 17 r17) (g18:zv 18 r18):∀(f p:Nat) (x:St×List Eqn),Inv p x.1->x.1.op=0->Fwd p x.1 (zd6 r17 r18 f x).1/\(zd6 r17 r18 f x).1.op=0:=by
 intro f
 induction f with
 | zero=>intro p x hI ho;exact ⟨Fwd.refl hI,ho⟩
 | succ f ih =>
   intro p x hI ho
   show Fwd p x.1 (if _ then _ else x).1/\(if _ then _ else x).1.op=0
   by_cases hc:x.1.er=0/\x.1.is 4 [125]=false
   · rw [if_pos hc]
     have h2:=za1 g17 g18 (eqs:=x.2) hI ho
     have h3:=ih p _ h2.1.inv (h2.2.trans ho)
     exact ⟨h2.1.trans h3.1,h3.2⟩
   · rw [if_neg hc];exact ⟨Fwd.refl hI,ho⟩
theorem zeP {f:Nat} {st:St} {vars:List Vr} {p:Nat} (hI:Inv p st):Fwd p st (zaS f st vars).1/\(zaS f st vars).1.op=st.op/\(zaS f st vars).1.L=st.L:=by
 unfold zaS
 split
 · have h1:=Fwd.step hI
   have h2:=zej (vars:=vars) h1.inv
   have h3:=ziS f p _ h2.1.inv
   exact ⟨(h1.trans h2.1).trans h3.1,h3.2.1.trans (h2.2.1.trans (St.step_op _)),h3.2.2.trans (h2.2.2.trans (St.step_L _))⟩
 · exact ⟨Fwd.refl hI,rfl,rfl⟩
theorem zit {st:St} {p:Nat} (hI:Inv p st):Fwd p st (zaI st).1/\(zaI st).1.op=st.op/\(zaI st).1.L=st.L:=by
 have h1:=Fwd.must hI 5 zW
 have h2:=Fwd.name h1.inv
 have h3:=zbx (i:=true) (vars:=[]) h2.inv
 have h4:=Fwd.must h3.1.inv 4 [45,62]
 have h5:=zbx (i:=false) (vars:=(zab true (st.must 5 zW).name []).2) h4.inv
 refine ⟨(((h1.trans h2).trans h3.1).trans h4).trans h5.1,?_,?_⟩
 · show (zab false ((zab true (st.must 5 zW).name []).1.must 4 [45,62]) (zab true (st.must 5 zW).name []).2).1.op=_
   rw [h5.2.1,St.must_op,h3.2.1,St.name_op,St.must_op]
 · show (zab false ((zab true (st.must 5 zW).name []).1.must 4 [45,62]) (zab true (st.must 5 zW).name []).2).1.L=_
   rw [h5.2.2,St.must_L,h3.2.2,St.name_L,St.must_L]
theorem zmn {r17 r18:Fn} (g17:zv 17 r17) (g18:zv 18 r18) {f:Nat} {st:St} {p:Nat} (hI:Inv p st) (ho:st.op=0):Fwd p st (zeO r17 r18 f st).1/\(zeO r17 r18 f st).1.op=0:=by
 have h1:=Fwd.must hI 4 [123]
 have h2:=za1 g17 g18 (eqs:=[]) h1.inv (by rw [St.must_op,ho])
 have h3:=zh4 g17 g18 f p _ h2.1.inv (by rw [h2.2,St.must_op,ho])
 have h4:=Fwd.must h3.1.inv 4 [125]
 refine ⟨((h1.trans h2.1).trans h3.1).trans h4,?_⟩
 show ((zd6 r17 r18 f (zF r17 r18 (st.must 4 [123]) [])).1.must 4 [125]).op=0
 rw [St.must_op,h3.2]
theorem zmW {r17 r18:Fn} (g17:zv 17 r17) (g18:zv 18 r18) {f:Nat} {st:St} {nodes:List Nd} {p:Nat} (hI:Inv p st) (ho:st.op=0):Inv 0 (zei r17 r18 f st nodes).1/\(zei r17 r18 f st nodes).1.op=0/\st.t.a<=(zei r17 r18 f st nodes).1.t.a/\(st.er≠0->(zei r17 r18 f st nodes).1.er≠0):=by
 have h0:=Fwd.fresh hI
 have hta:st.fresh.t.a=st.t.a:=rfl
 have her:st.fresh.er=st.er:=rfl
 have hop:st.fresh.op=0:=ho
 unfold zei
 split
 · have h1:=Fwd.fail h0 (e:=2) (a:=st.t.a) (by omega) (by omega) hI.ok.ta_le
   exact ⟨h1.inv,by rw [St.fail_op];exact hop,by have:=h1.ta;simp only;omega,λe=>h1.er (by rw [her];exact e)⟩
 · have h1:=zit h0
   have h2:=zeP (f:=f) (vars:=(zaI st.fresh).2) h1.1.inv
   have h3:=zmn g17 g18 (f:=f) h2.1.inv (by rw [h2.2.1,h1.2.1];exact hop)
   have hw:=(h1.1.trans h2.1).trans h3.1
   exact ⟨hw.inv,h3.2,by have:=hw.ta;simp only;omega,λe=>hw.er (by rw [her];exact e)⟩
structure zo4 (r17 r18:Fn) (f:Nat) (st:St) (x3 x5 x6:St×List Vr) (x8 R:St×List Eqn):Prop where
 h3:zab true (st.fresh.must 5 zW).name []=x3
 h5:zab false (x3.1.must 4 [45,62]) x3.2=x5
 h6:zaS f x5.1 x5.2=x6
 h8:zF r17 r18 (x6.1.must 4 [123]) []=x8
 hR:zd6 r17 r18 f x8=R
structure zlN (st:St) (x3 x5 x6:St×List Vr) (x8 R:St×List Eqn):Prop where
 i0:Inv 0 st.fresh
 i1:Inv 0 (st.fresh.must 5 zW)
 i2:Inv 0 (st.fresh.must 5 zW).name
 i3:Inv 0 x3.1
 i4:Inv 0 (x3.1.must 4 [45,62])
 i5:Inv 0 x5.1
 i6:Inv 0 x6.1
 i7:Inv 0 (x6.1.must 4 [123])
 i8:Inv 0 x8.1
 iR:Inv 0 R.1
 o7:(x6.1.must 4 [123]).op=0
 o8:x8.1.op=0
 l3:x3.1.L=(st.fresh.must 5 zW).name.L
 l5:x5.1.L=(x3.1.must 4 [45,62]).L
 l6:x6.1.L=x5.1.L
theorem zkO {r17 r18:Fn} (g17:zv 17 r17) (g18:zv 18 r18) {f p:Nat} {st:St} {x3 x5 x6:St×List Vr} {x8 R:St×List Eqn} (hI:Inv p st) (ho:st.op=0) (h:zo4 r17 r18 f st x3 x5 x6 x8 R):zlN st x3 x5 x6 x8 R:=by
 have i0:=Fwd.fresh hI
 have i1:=(Fwd.must i0 5 zW).inv
 have i2:=(Fwd.name i1).inv
 have g3:=zbx (i:=true) (vars:=[]) i2
 rw [h.h3] at g3
 have i4:=(Fwd.must g3.1.inv 4 [45,62]).inv
 have g5:=zbx (i:=false) (vars:=x3.2) i4
 rw [h.h5] at g5
 have g6:=zeP (f:=f) (vars:=x5.2) g5.1.inv
 rw [h.h6] at g6
 have i7:=(Fwd.must g6.1.inv 4 [123]).inv
 have o7:(x6.1.must 4 [123]).op=0:=by
  rw [St.must_op,g6.2.1,g5.2.1,St.must_op,g3.2.1,St.name_op,St.must_op];exact ho
 have g8:=za1 g17 g18 (eqs:=[]) i7 o7
 rw [h.h8] at g8
 have o8:x8.1.op=0:=by rw [g8.2,o7]
 have gR:=zh4 g17 g18 f 0 x8 g8.1.inv o8
 rw [h.hR] at gR
 exact ⟨i0,i1,i2,g3.1.inv,i4,g5.1.inv,g6.1.inv,i7,g8.1.inv,gR.1.inv,o7,o8,g3.2.2,g5.2.2,g6.2.2⟩
end
end Go.Proofs.YtedmpgjebafcjaaGreatDoor
