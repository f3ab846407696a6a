/- Part 41 of the proof: CmpL. -/
import Derived.Test.YtedmpgjebafcjaaGreatDoorK39
set_option maxRecDepth 100000
set_option maxHeartbeats 8000000
namespace Go.Proofs.YtedmpgjebafcjaaGreatDoor
section
open Go.RowKit Go.Shelf
attribute [local go_sem ↓] Go.wp_at_zero Go.wp_at_succ
def hdM (c:Sc):Cd:=⟨(c.nd.vars.take c.nd.ins).map (·.bl),c.nd.outs,0,[],0,[]⟩
def Cd.bool (K:Cd) (x:Bool):Cd:={ K with bools:=K.bools++[x] }
theorem KI.booled {B wb kb:Nat} {bv cv rv v':Value} {K:Cd} {x:Bool} {w w9:World} {X:Obj} (h:KI B wb kb bv cv rv K w) (hF:Fr (λk=>bv.ownBlock=some k) (w.alloc X) w9)
 (hown:w9.ownsRow B 4 1 v' (K.bools.length+1) (K.bools.map .bool++[.bool x])) (hnew:∀k,v'.ownBlock=some k->bv.ownBlock=some k∨w.heap.size+1<=k) :
 KW B wb kb (K.bool x) (w9.setCell ⟨kb,0,none⟩ v')/\FT (KT kb) w (w9.setCell ⟨kb,0,none⟩ v'):=by
 have hz:=h.hB
 have hwb:=h.hwb
 have hkb:=h.hkb
 have hs:(w.alloc X).heap.size=w.heap.size+1:=by simp
 have hz9:=hF.size
 have hb:∀k,k<w.heap.size->¬bv.ownBlock=some k->w9.heap[k]?=w.heap[k]?:=λk hk hn=>(hF.block k (by omega) hn).trans (Below.heap_alloc _ _ _ hk)
 have hb':∀k,k<w.heap.size->¬k=kb->¬bv.ownBlock=some k->(w9.setCell ⟨kb,0,none⟩ v').heap[k]?=w.heap[k]?:=λk hk h1 h2=>zr h1 (hb k hk h2)
 have hnr:∀k,k<B->¬bv.ownBlock=some k:=λk hk e=>by have:=(h.bown.lt _ e).1;omega
 have hI:KI B wb kb v' cv rv (K.bool x) (w9.setCell ⟨kb,0,none⟩ v'):=by
  refine ⟨(hb' wb (by omega) h.dk (hnr wb hwb)).trans h.wr,?_,?_,zi h.cown (λk h1 h2 e=>hb' k h2 (by omega) (λe'=>(h.d1 k e').1 e)),zi h.rown (λk h1 h2 e=>hb' k h2 (by omega) (λe'=>(h.d1 k e').2 e)),hwb,hkb,h.dk,λk e=>?_,h.d2,?_⟩
  · exact zh _ _ _ _ ((hb kb (by omega) (hnr kb hkb)).trans h.blk)
  · have:=zi hown (w':=w9.setCell ⟨kb,0,none⟩ v') (λk h1 h2 _=>zr (by omega) rfl)
    show World.ownsRow _ B 4 1 v' (K.bools++[x]).length ((K.bools++[x]).map .bool)
    rw [List.length_append,List.map_append]
    exact this
  · rcases hnew k e with e2|e2
    · exact h.d1 k e2
    · exact ⟨λe'=>by have:=(h.cown.lt _ e').2;omega,λe'=>by have:=(h.rown.lt _ e').2;omega⟩
  · have:(w9.setCell ⟨kb,0,none⟩ v').heap.size=w9.heap.size:=by simp
    omega
 refine ⟨⟨v',cv,rv,hI⟩,⟨hF.os,hF.tape,hF.output,?_,λk hk hn=>?_⟩,λk hk=>?_⟩
 · have:(w9.setCell ⟨kb,0,none⟩ v').heap.size=w9.heap.size:=by simp
   omega
 · exact hb' k hk (λe=>hn ((h.kt k).2 (Or.inl e))) (λe=>hn ((h.kt k).2 (Or.inr (Or.inl e))))
 · rcases (hI.kt k).1 hk with e|e|e|e
   · exact Or.inl ((h.kt k).2 (Or.inl e))
   · rcases hnew k e with e2|e2
     · exact Or.inl ((h.kt k).2 (Or.inr (Or.inl e2)))
     · exact Or.inr (by omega)
   · exact Or.inl ((h.kt k).2 (Or.inr (Or.inr (Or.inl e))))
   · exact Or.inl ((h.kt k).2 (Or.inr (Or.inr (Or.inr e))))
theorem Tryz.sizeVar (w:World):(sizeOf 110).run Tryz.prog w=.ok 7 w:=by kernel_rfl
theorem zjI {P:Program} {t e:TypeId} {size:Nat} (ht:P.underlying t=some (.slice e)) (hsz:∀w,(sizeOf e).run P w=.ok size w) (g n cp i:Nat) (hi:i<=n) (hn:n<=cp) (W:World):(Instr.slice t (.slice (some ⟨g,0,none⟩) n cp) none (some (.int .i64 (i:Int))) none).run P W=.ok (.slice (some ⟨g,0,none⟩) i cp) W:=by
 have h1:i<=cp:=by omega
 have e0:(⟨g,0,none⟩:Addr).add 0=⟨g,0,none⟩:=by simp [Addr.add]
 simp [Instr.slice,Instr.sliceBounds,Instr.sliceBound,run_underlying ht,hsz,asIntOf,h1,e0]
theorem Tryz.infoBool:(Tryz.prog.info? 4).map (λi=>(i.zero,i.size,i.bytes))=some (some (.bool false),1,1):=by kernel_rfl
def hdP (n:Nod) (m:Nat):Cd:=⟨(n.vars.take m).map (·.bl),n.outs,0,[],0,[]⟩
theorem zjW {N:Nat} (fu gas f:Nat) (hgas:gas<=1000000) (hN21:21<=N) (hf:17*f<=100000) (pre:List Nod) (n:Nod) (pv:Value) (w:World) (hP:PT w N (pre++[n]) pv) (hN:N<=w.heap.size) (hop:zbt w) (hG:GdC fu gas f ⟨pre,n⟩) (hbd:BdK (zca fu gas f ⟨pre,n⟩ 0 ((hdM ⟨pre,n⟩).add 0 1))) :
 Calls Tryz.prog 18 #[pv] w (λe w'=>∃B wb kb,e=.returned (.pointer (some ⟨kb,0,none⟩))/\w.heap.size<=kb/\w.heap.size<=B/\KW B wb kb (zca fu gas f ⟨pre,n⟩ 0 ((hdM ⟨pre,n⟩).add 0 1)) w'/\Below w.heap.size w w'):=by
 have HSc:=za (zh3 pre.length n w hP hN (by simp))
 rw [List.take_left] at HSc
 obtain ⟨gb,gv,xs,rfl,hgb,hg,hl⟩:=hP
 obtain ⟨xg,cpg,rfl⟩:=zB hl.own
 have h6:pre.length<=6:=by
  cases f with
  | zero=>exact hG.elim
  | succ f=>obtain ⟨⟨P,hg⟩,_⟩:=hG;exact hg.ok.few
 have hw0:IntKind.i64.wrap ((pre.length:Int)+1-1)=(pre.length:Int):=by rw [IntKind.wrap_i64];omega
 have hw1:IntKind.i64.wrap (((pre.length+1:Nat):Int)-1)=(pre.length:Int):=by rw [IntKind.wrap_i64];omega
 have HG:=za hG
 have Hbd:=za hbd
 have Hop:=za hop
 obtain ⟨a0,af,az⟩:=zu hg
 have hls:(pre++[n]).length=pre.length+1:=by simp
 rw [hls] at a0
 clear hg hl hG hbd hop hls
 go_enter Tryz.func18,Tryz.ntmps18
 go_upto_region 3 with (first
  | (go_at_call 34;refine HNc.out.mono ?_;rintro e w2 ⟨qb,cb,rfl,hq,hcz,hqc,hQ,hB2⟩;have HQ:=za hQ;have HB2:=za (HB1.out.trans (hB2.mono HB1.out.size));obtain ⟨m0,m1,m2,m3,m4,mf,mz⟩:=zcf hQ.blk;obtain ⟨_,vs2,qv2,xs2,e9,hnt⟩:=hQ.sc.nd;cases e9;obtain ⟨n0,n1,n2,n3,n4,n5,nf,nz⟩:=zt hnt.blk;clear hQ hB2 m0 m2 m3 m4 n0 n1 n2 n3 n5 hnt)
  | (go_at_call 35;refine HSc.out.mono ?_;rintro e w1 ⟨x1,cp1,nb1,rfl,hS1,hB1⟩;have HB1:=za hB1;have HNc:=za (zgA 0 w1 hS1 (Nat.le_trans hN hB1.size));(rw [show ((0:Nat):Int)=0 from rfl] at HNc);clear hB1 hS1))
 refine zn (λW=>Below w2.heap.size w2 W/\W.heap.size=w2.heap.size+2/\W.heap[w2.heap.size]?=some (.cells #[.slice none 0 0,.int .i64 n.outs,.int .i64 0,.slice none 0 0,.int .i64 0,.slice none 0 0] 67 (0,0))/\W.heap[w2.heap.size+1]?=some (.cells #[.pointer (some ⟨w2.heap.size,0,none⟩)] 104 (0,0))) ⟨zaD w2 _ _,by simp,(zd8 w2 _ _).1,(zd8 w2 _ _).2⟩ ?_
 rintro W ⟨hB3,hWz,hx1,hx2⟩
 have hKI:KI (w2.heap.size+2) (w2.heap.size+1) w2.heap.size (.slice none 0 0) (.slice none 0 0) (.slice none 0 0) ⟨[],n.outs,0,[],0,[]⟩ W :=
  ⟨hx2,hx1,⟨by simp,Or.inl ⟨rfl,rfl⟩⟩,⟨by simp [zK],Or.inl ⟨rfl,rfl⟩⟩,⟨by simp [zbs],Or.inl ⟨rfl,rfl⟩⟩,by omega,by omega,by omega,λk e=>by simp [Value.ownBlock] at e,λk e=>by simp [Value.ownBlock] at e,by omega⟩
 have HKI:=za hKI
 have HQW:=za (HQ.out.keep hB3)
 have HBW:=za (HB2.out.trans (hB3.mono HB2.out.size))
 have hwf:zeJ n:=by
  cases f with
  | zero=>exact HG.out.elim
  | succ f=>obtain ⟨⟨P,hg⟩,_⟩:=HG.out;exact hg.ok.nd
 have hio:=hwf.io
 have hi1:=hwf.ins
 obtain ⟨k0,k1,k2,k3,k4,kf,kz⟩:=zcf HQW.out.blk
 obtain ⟨nn,vs3,qv3,xs3,e9,hnt⟩:=HQW.out.sc.nd
 cases e9
 obtain ⟨p0,p1,p2,p3,p4,p5,pf,pz⟩:=zt hnt.blk
 have hvown:W.ownsRow 0 110 7 vs3 n.vars.length (zb0 n.vars):=hnt.vown
 obtain ⟨gv,cv,rfl,hgv⟩:=zM hvown (by omega)
 have hcv:n.vars.length<=cv:=by
  rcases hvown.2 with ⟨h,_⟩|⟨_,_,_,h,_,_,h3,_⟩
  · cases h
  · cases h;exact h3
 have hsl:=zjI (P:=Tryz.prog) Tryz.underlying94 Tryz.sizeVar gv n.vars.length cv n.ins (by omega) hcv
 have p3':W.cell? ⟨nb1,3,none⟩=some (.int .i64 (n.ins:Int)):=p3
 have Hvo:=za hvown
 have hglo:=hnt.vlo gv rfl
 have HWz:=za hWz
 clear hB3 hWz hx1 hx2 hKI k0 k2 k3 k4 p0 p1 p3 p4 p5 hvown hnt hwf m1 n4
 have hqz:qb<w2.heap.size:=mz
 have hcz2:cb<w2.heap.size:=HQ.out.ck.lt
 have hw2z:=HB2.out.size
 have hWI:WI N (w2.heap.size+2) (w2.heap.size+1) w2.heap.size qb cb 0 ⟨pre,n⟩ (.slice x1 pre.length cp1) (.pointer (some ⟨nb1,0,none⟩)) (.slice none 0 0) (hdP n 0) W:=by
  refine ⟨⟨_,_,_,HKI.out⟩,HQW.out,λe=>?_,λe=>?_,by omega⟩
  · rcases (HKI.out.kt qb).1 e with e|e|e|e
    · omega
    · simp [Value.ownBlock] at e
    · simp [Value.ownBlock] at e
    · simp [Value.ownBlock] at e
  · rcases (HKI.out.kt cb).1 e with e|e|e|e
    · omega
    · simp [Value.ownBlock] at e
    · simp [Value.ownBlock] at e
    · simp [Value.ownBlock] at e
 have HWI:=za hWI
 clear hWI
 go_quiet (fail)
 go_wp2_with fail
 go_loopg [45] (n.ins+1) (λj i wr=>∃m:Nat,m+j=n.ins+1/\m<=n.ins/\i=.int .i64 m/\Hid (WI N (w2.heap.size+2) (w2.heap.size+1) w2.heap.size qb cb 0 ⟨pre,n⟩ (.slice x1 pre.length cp1) (.pointer (some ⟨nb1,0,none⟩)) (.slice none 0 0) (hdP n m) wr)/\Hid (FT (KT w2.heap.size) W wr))
 case atStart=>exact ⟨0,by omega,Nat.zero_le _,rfl,HWI.out.keep (zI (Below.refl _ _) _),FT.below (zI (Below.refl _ _) _) (HWI.out.kw.tk (zI (Below.refl _ _) _))⟩
 case round =>
  obtain ⟨m,hmj,hm,rfl,HI,HF⟩:=hrel
  by_cases hlt:m<n.ins
  · obtain ⟨vr,hvr⟩:∃vr,n.vars[m]?=some vr:=⟨_,zsc (by omega)⟩
    have hO:Old N W wr:=HF.out.old HQW.out.hN HWI.out.ktN
    have hvo:=zi Hvo.out (w':=wr) (λk _ _ e=>hO k (by cases e;exact hglo))
    obtain ⟨g',e',c0,c1,c2,c3,c4,c5,c6⟩:=zaM hvo hvr
    cases e'
    have i0:(0:Int)<=(m:Int):=by omega
    have i1:(m:Int)<(n.ins:Int):=by omega
    clear hvo hO
    go_upto_region 6 with fail
    have hbl:(((zaK vr:Nat):Int)==1)=vr.bl:=by unfold zaK;cases vr.bl <;> rfl
    obtain ⟨K,hK⟩:∃K,hdP n m=K:=⟨_,rfl⟩
    have hK1:K.bool vr.bl=hdP n (m+1):=by
     rw [<- hK];unfold Cd.bool hdP
     rw [List.take_add_one,hvr];simp
    have hfw:n.vars.length<=16:=by obtain ⟨_,_,_,_,_,hnt9⟩:=HQW.out.sc.nd;exact hnt9.few
    have hKl:K.bools.length<=16:=by
     rw [<- hK]
     show ((n.vars.take m).map (·.bl)).length<=16
     rw [List.length_map,List.length_take];omega
    rw [hK] at HI
    refine zn (λV=>Below wr.heap.size wr V/\V.heap.size=wr.heap.size+1/\V.heap[wr.heap.size]?=some (.cells #[.string vr.nm,.int .i64 vr.a,.int .i64 (zaK vr:Nat),.int .i64 (zaA vr:Nat),.int .i64 vr.on,.string vr.ck,.int .i64 vr.ca] 110 (0,0))) ⟨zq wr _,by simp,zc wr _⟩ ?_
    rintro V ⟨hBV,hVz,hxV⟩
    obtain ⟨bv,cv5,rv,hIr⟩:=HI.out.kw
    obtain ⟨xb,cpb,rfl⟩:=zcB hIr.bown
    have hIV:=hIr.keep hBV
    have hbo:∀k,(Value.slice xb K.bools.length cpb).ownBlock=some k->k<wr.heap.size:=λk e=>(hIr.bown.lt k e).2
    have Hbo:=za hbo
    obtain ⟨r0,rf,rz⟩:=zu hIV.wr
    obtain ⟨q0,q1,q2,q3,q4,q5,qf,qz⟩:=zt hIV.blk
    have s2:V.cell? ⟨wr.heap.size,2,none⟩=some (.int .i64 (zaK vr:Nat)):=(World.cell?_of_block (w:=V) rfl).trans (by simp [World.cell?,hxV])
    obtain ⟨i9,hi,hi0,hi1',hi2⟩:=info_parts Tryz.infoBool
    have HIV:=za hIV
    have HBV:=za hBV
    have HVz:=za hVz
    have HK1:=za hK1
    have mx:K.bools.length+1<=maxLen:=by unfold maxLen;omega
    have by':(K.bools.length+1)*1<=140737488355328:=by omega
    have hBz:=hIV.hB
    have oneb:∀u∈[Value.bool vr.bl],u.oneCell'=true:=by simp [Value.oneCell']
    have hyk:¬wr.heap.size=w2.heap.size:=by have:=ze hIr.blk;omega
    have hyV:wr.heap.size<V.heap.size:=by omega
    clear hIV hIr hbo hBV hVz hxV hK1 hK c0 c1 c2 c3 c4 c5 c6 q1 q2 q3 q4 q5
    go_region_law (first|(refine zJ _ rfl (.tmp 55) (.tmp 59) 64 rfl (w2.heap.size+2) 4 i9 _ 1 1 Tryz.underlying64 hi hi0 hi1' hi2 rfl (by decide) (.slice xb K.bools.length cpb) K.bools.length (K.bools.map .bool) rfl (zD HIV.out.bown _) ⟨V.heap.size,0,none⟩ 1 1 [.bool vr.bl] rfl rfl (zN (zc V _) rfl) oneb mx by' (by simp;omega) ?_;intro v' w9 hown9 hgrow hnew;obtain ⟨g9,cap9,rfl,hg9⟩:=zM hown9 (by omega);have hF9:=(Fr.of_grown hgrow).undrew;have hw9:=(hF9.block (w2.heap.size+1) (by simp;omega) (λh=>by have:=(HIV.out.bown.lt _ h).1;omega)).trans ((Below.heap_alloc _ _ _ (by omega)).trans HIV.out.wr);have hk9:=(hF9.block w2.heap.size (by simp;omega) (λh=>by have:=(HIV.out.bown.lt _ h).1;omega)).trans ((Below.heap_alloc _ _ _ (by omega)).trans HIV.out.blk);obtain ⟨b0,bf,bz⟩:=zu hw9;obtain ⟨t0,t1,t2,t3,t4,t5,tf,tz⟩:=zt hk9;have d2:=(World.cell?_of_block (w:=V) (a:=⟨wr.heap.size,2,none⟩) ((hF9.block wr.heap.size (by simp;omega) (λh=>by have:=Hbo.out _ h;omega)).trans (Below.heap_alloc _ _ _ hyV))).trans s2;have HF9:=za hF9;have Hown9:=za hown9;have Hnew9:=za hnew;clear hown9 hgrow hnew hF9 hw9 hk9))
    all_goals go_wp2_with fail
    all_goals go_roundg (gk-1)
    all_goals first
     | omega
     | (have hC:=HIV.out.booled HF9.out Hown9.out (λk e=>(Hnew9.out k e).imp id (λh=>by have h':(V.alloc (.cells #[.bool vr.bl] 4)).heap.size<=k:=h;rw [zsb] at h';exact h'))
        rw [HK1.out] at hC
        have hWV:=HI.out.keep HBV.out
        have hFV:=(HF.out.trans (FT.below HBV.out (HI.out.kw.tk HBV.out))).trans hC.2
        first
         | exact ⟨m+1,by omega,by omega,by go_num,hWV.ft hC.1 hC.2,hFV⟩
         | exact ⟨m+1,by omega,by omega,by go_num,(hWV.ft hC.1 hC.2).keep (zo (Below.refl _ _)),hFV.trans (FT.below (zo (Below.refl _ _)) (hC.1.tk (zo (Below.refl _ _))))⟩)
  · have em:m=n.ins:=by omega
    subst em
    have hNW:N<=W.heap.size:=HQW.out.hN
    have HAd:=za (zc7 (w2.heap.size+2) (w2.heap.size+1) w2.heap.size (hdP n n.ins) 0 1 wr HI.out.kw (by simp [hdP]))
    go_wp2_with (first
     | (go_at_call 37
        refine HBo.out.mono ?_
        rintro e w4 ⟨rfl,⟨lv4,hL4⟩,hF4⟩
        have HL4:=za hL4
        have HF4:=za hF4
        obtain ⟨bv4,cv4,rv4,hI4⟩:=hL4.wi.kw
        obtain ⟨y0,yf,yz⟩:=zu hI4.wr
        clear hL4 hF4 hI4)
     | (go_at_call 36
        refine HAd.out.mono ?_
        rintro e w3 ⟨rfl,hK3,hF3⟩
        have HF3:=za (HF.out.trans hF3)
        have HW3:Hid (WL N (w2.heap.size+2) (w2.heap.size+1) w2.heap.size qb cb 0 ⟨pre,n⟩ (.slice x1 pre.length cp1) (.pointer (some ⟨nb1,0,none⟩)) (.slice none 0 0) ((hdM ⟨pre,n⟩).add 0 1) [] w3):=⟨HI.out.ft hK3 hF3,⟨[],zij _ _ _ _,rfl⟩,λk e=>by simp [Value.ownBlock] at e,hqc,by omega,by have:=HB1.out.size;omega⟩
        have HBo:=za (zlJ fu gas hgas hN21 f ⟨pre,n⟩ HG.out 0 (by omega) qb cb _ _ _ w3 HW3.out (Hop.out.old ((zm HBW.out hN).trans (HF3.out.old hNW HWI.out.ktN)) hN21) Hbd.out)
        clear hK3 hF3))
    go_ret
    have hs3:=HF3.out.fr.size
    have hsW:=HBW.out.size
    refine ⟨_,_,_,rfl,by omega,by omega,HL4.out.wi.kw,⟨(HF4.out.fr.os.trans HF3.out.fr.os).trans HBW.out.os,(HF4.out.fr.tape.trans HF3.out.fr.tape).trans HBW.out.tape,(HF4.out.fr.output.trans HF3.out.fr.output).trans HBW.out.output,by have:=HF4.out.fr.size;omega,λk hk=>?_⟩⟩
    refine (HF4.out.fr.block k (by omega) (λe=>?_)).trans ((HF3.out.fr.block k (by omega) (λe=>?_)).trans (HBW.out.block k hk))
    · rcases (HW3.out.ct k).1 e with e|e|e
      · rcases HW3.out.wi.kw.ge k e with e|e <;> omega
      · have:=HB1.out.size;omega
      · simp [Value.ownBlock] at e
    · rcases HWI.out.kw.ge k e with e|e <;> omega
end
end Go.Proofs.YtedmpgjebafcjaaGreatDoor
