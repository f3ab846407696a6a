/- Part 40 of the proof: CmpI CmpJ CmpK. -/
import Derived.Test.YtedmpgjebafcjaaGreatDoorK38
set_option maxRecDepth 100000
set_option maxHeartbeats 8000000
namespace Go.Proofs.YtedmpgjebafcjaaGreatDoor
section
open Go.RowKit Go.Shelf
attribute [local go_sem ↓] Go.wp_at_zero Go.wp_at_succ
theorem CqI.setAt {N qb cb base:Nat} {c:Sc} {ev nv lv v:Value} {w:World} {zA:Nat} (h:CqI N qb cb base c ev nv lv w) (h1:¬qb=zA) (h2:¬cb=zA) (hN:N<=zA):CqI N qb cb base c ev nv lv (w.setCell ⟨zA,0,none⟩ v):=by
 have hk:∀k,¬k=zA->(w.setCell ⟨zA,0,none⟩ v).heap[k]?=w.heap[k]?:=λk hk=>zr hk rfl
 exact ⟨(hk _ h1).trans h.blk,h.sc.old (λk hk'=>hk k (by omega)),h.ck.of' (hk _ h2),by have:=h.hN;simpa using this⟩
theorem zly {N B wb kb qb cb base:Nat} {c d:Sc} (hc:zbr c) {ev nv lv:Value} (bod:Sc->Nat->Cd->Cd) (fu:Nat) (hN21:21<=N) (hbase:base<=100000) (t:Tm) (k:Nat×Nat) (hcal:c.called t.s=some d) (hch:zfT c fu k)
 (hbod:∀d b K,BdK (bod d b K)->BdK K)
 (hBod:∀qb2 cb2 ev2 nv2 K W,WL N B wb kb qb2 cb2 (base+c.nd.vars.length+1) d ev2 nv2 (.slice none 0 0) K [] W->zbt W->BdK (bod d (base+c.nd.vars.length+1) K)->Calls Tryz.prog 37 #[.pointer (some ⟨wb,0,none⟩),.pointer (some ⟨qb2,0,none⟩)] W (λe w'=>e=.returned (.tuple #[])/\(∃lv',WL N B wb kb qb2 cb2 (base+c.nd.vars.length+1) d ev2 nv2 lv' (bod d (base+c.nd.vars.length+1) K) [] w')/\FT (CT kb qb2) W w'))
 (K:Cd) (ls:List Lt) (v:Value) (w:World) (h:WL N B wb kb qb cb base c ev nv lv K ls w) (hT:TT w N t v) (hop:zbt w) (hbd:BdK (zeb bod c base fu K t k)) :
 Calls Tryz.prog 152 #[.pointer (some ⟨wb,0,none⟩),.pointer (some ⟨qb,0,none⟩),v,ckV k] w (λe w'=>e=.returned (.tuple #[])/\(∃lv',WL N B wb kb qb cb base c ev nv lv' (zeb bod c base fu K t k) ls w')/\FT (CT kb qb) w w'):=by
 obtain ⟨xe,cpe,nb,rfl,rfl,hnb⟩:=h.wi.qi.sc.shape
 obtain ⟨b,args,vs,rfl,hb,hblk,hown,hlen,hsub,hgs⟩:=hT.ptr
 obtain ⟨xa,cpa,rfl⟩:=zcB hown
 obtain ⟨b2,hb2⟩:∃b2,base+c.nd.vars.length+1=b2:=⟨_,rfl⟩
 have hcalM:zeb bod c base fu K t k=(bod d b2 ((K.adds ((List.range vs.length).reverse.map λi=>(2,((b2+i:Nat):Int)))).adds (whM c base fu k))).adds ((List.range d.nd.outs).map λi=>(1,((b2+(d.nd.ins+i):Nat):Int))):=by
  unfold zeb;rw [hcal];simp only [hb2,hlen]
 rw [hb2] at hBod
 rw [hcalM] at hbd ⊢
 have hfew:c.nd.vars.length<=16:=by obtain ⟨_,_,_,_,_,hnt⟩:=h.wi.qi.sc.nd;exact hnt.few
 have hb2':b2<=1000000:=by omega
 obtain ⟨hsc2,hdm⟩:=hc.called hcal
 have hio:=hsc2.nd.io
 have hfd:=hsc2.nd.few
 obtain ⟨K1,hK1⟩:∃K1,K.adds ((List.range vs.length).reverse.map λi=>(2,((b2+i:Nat):Int)))=K1:=⟨_,rfl⟩
 obtain ⟨K2,hK2⟩:∃K2,K1.adds (whM c base fu k)=K2:=⟨_,rfl⟩
 obtain ⟨K3,hK3⟩:∃K3,bod d b2 K2=K3:=⟨_,rfl⟩
 rw [hK1,hK2,hK3] at hbd ⊢
 have hbd3:BdK K3:=zb4 hbd
 have hbd2:BdK K2:=hbod d b2 K2 (by rw [hK3];exact hbd3)
 have hl4:K3.row.length+d.nd.outs<=1000000:=by have:=hbd.1;rw [Cd.adds_len] at this;simpa using this
 have hl2:K1.row.length+(whM c base fu k).length<=1000000:=by have:=hbd2.1;rw [<- hK2,Cd.adds_len] at this;exact this
 have hl1:K.row.length+vs.length<=1000000:=by
  have h9:K1.row.length<=1000000:=by omega
  rw [<- hK1,Cd.adds_len] at h9
  simpa using h9
 have HBod:=za hBod
 have HK1:=za hK1
 have HK2:=za hK2
 have HK3:=za hK3
 have Hbd3:=za hbd3
 have Hch:=za hch
 have HW0:=za h
 have HT:=za hT
 have Hop:=za hop
 have Hown:=za hown
 have HBk:=za hblk
 have hNw:=h.wi.qi.hN
 have h6:=hc.few
 unfold ckV
 clear hcalM hbd hbd2 hbd3 hsub hlen hBod hK1 hK2 hK3 hch h hT hop hown hblk hsc2 hdm
 refine callsIn_wide.1 (callsIn_of_wp_marks (F:=Fence.wide) (n:=9) Tryz.func152 rfl trivial (wpIn_wide.2 ?_) rfl)
 simp only [Tryz.ntmps152,List.size_toArray,List.length_cons,List.length_nil,Nat.reduceAdd,Nat.reduceSub,Array.replicate_succ,Array.replicate_zero,List.push_toArray,List.append_toArray,List.nil_append,List.cons_append]
 obtain ⟨QM,hQM⟩:∃QM,bodyPostM Fence.wide 9 Tryz.prog Tryz.f152 (λe w'=>e=.returned (.tuple #[])/\(∃lv',WL N B wb kb qb cb base c (.slice xe c.er.length cpe) (.pointer (some ⟨nb,0,none⟩)) lv' (K3.adds ((List.range d.nd.outs).map λi=>(1,((b2+(d.nd.ins+i):Nat):Int)))) ls w')/\FT (CT kb qb) w w')=QM:=⟨_,rfl⟩
 rw [hQM]
 have HQM:=za hQM
 clear hQM
 go_upto_region 1 with fail
 refine zn (λW=>Below w.heap.size w W/\W.heap.size=w.heap.size+2/\W.heap[w.heap.size]?=some (.cells #[.pointer (some ⟨wb,0,none⟩)] 161 (0,0))/\W.heap[w.heap.size+1]?=some (.cells #[.int .i64 (k.1:Nat),.int .i64 (k.2:Nat)] 169 (0,0))) ⟨zaD w _ _,by simp,(zd8 w _ _).1,(zd8 w _ _).2⟩ ?_
 rintro W ⟨hB,hWz,hx1,hx2⟩
 have HB:=za hB
 have Hx1:=za hx1
 have Hx2:=za hx2
 have hWle:w.heap.size+2<=W.heap.size:=by omega
 have HWz:=za hWz
 clear hWz
 have hqz:=ze HW0.out.wi.qi.blk
 have hbz:b<w.heap.size:=by omega
 go_cut [8,9] from 13 to 24 (λx y wx=>∃z8 x2 cp2 n2,x=.pointer (some ⟨z8,0,none⟩)/\y=.bool true/\W.heap.size<=z8/\Hid (ScV wx N d (.slice x2 d.er.length cp2) (.pointer (some ⟨n2,0,none⟩)))/\Hid (Below W.heap.size W wx)/\Hid (wx.heap[z8]?=some (.cells #[.slice x2 d.er.length cp2,.pointer (some ⟨n2,0,none⟩)] 88 (0,0))))
 case first =>
  obtain ⟨m0,m1,m2,m3,m4,mf,mz⟩:=zcf ((hB.block _ hqz).trans HW0.out.wi.qi.blk)
  obtain ⟨h0,h1,h2,h3,h4,h5,hf,hz⟩:=zt ((hB.block b hbz).trans HBk.out)
  have hO:=zm hB hNw
  have hNW:N<=W.heap.size:=by omega
  have HC1:=za (zah t.s (t.nm:Int) W.drew (HW0.out.wi.qi.sc.old (w':=W.drew) hO) hNW h6 hcal)
  have HC2:=za (λo=>zah t.s (t.nm:Int) (W.alloc o).drew (HW0.out.wi.qi.sc.old (w':=(W.alloc o).drew) (hO.trans (λk hk=>Below.heap_alloc _ _ _ (by omega)))) (by show N<=(W.alloc o).heap.size;simp;omega) h6 hcal)
  clear hB hx1 hx2 m2 m3 m4 h0 h1 h4 h5 hcal
  go_region_held3 (λw'=>w'.cell? ⟨qb,0,none⟩=some (.slice xe c.er.length cpe)/\w'.cell? ⟨qb,1,none⟩=some (.pointer (some ⟨nb,0,none⟩))/\w'.cell? ⟨b,2,none⟩=some (.string t.s)/\w'.cell? ⟨b,3,none⟩=some (.int .i64 t.nm))
   (first|(refine ⟨?_,?_,?_,?_⟩ <;> repeat (first|with_reducible exact m0|with_reducible exact m1|with_reducible exact h2|with_reducible exact h3|with_reducible refine zg ?_|with_reducible refine zj _ ?_|with_reducible refine zk (by omega) ?_|with_reducible refine zd HB1.out ?_ (by first|omega|(rw [zsb];omega))))|go_keep)
   (first
     | (go_at_call 96;refine HC1.out.mono ?_;rintro e w1 ⟨x2,cp2,n2,rfl,hsc,hB1⟩;have HB1:=za (zw hB1);have HS2:=za hsc;clear hB1 hsc)
     | (go_at_call 96;refine (HC2.out _).mono ?_;rintro e w1 ⟨x2,cp2,n2,rfl,hsc,hB1⟩;have HB1:=za (zw hB1);have HS2:=za hsc;obtain ⟨y0,y1,yf,yz⟩:=zp ((HB1.out.block W.heap.size (by rw [zsb];omega)).trans (zc W _));clear hB1 hsc))
  all_goals go_wp2_with fail
  all_goals go_meet
  · have h1:=HB1.out.size
    exact ⟨_,_,_,_,rfl,rfl,h1,HS2.out.old (λk hk=>Below.heap_alloc _ _ _ (by omega)),HB1.out.alloc h1 _,zc w1 _⟩
  · have h1:=HB1.out.size
    rw [zsb] at h1
    have hY:=(HB1.out.block W.heap.size (by rw [zsb];omega)).trans (zc W _)
    refine ⟨_,_,_,_,rfl,rfl,Nat.le_refl _,HS2.out.old (λk hk=>?_),zC (zC (zE HB1.out) (Nat.le_refl _) _) (Nat.le_refl _) _,zh _ _ _ _ (zh _ _ _ _ hY)⟩
    exact (zr (by omega) rfl).trans (zr (by omega) rfl)
 case rest =>
  obtain ⟨z8,x2,cp2,n2,rfl,rfl,hz8,HS2,HB2,Hx3⟩:=hcut
  obtain ⟨V,rfl⟩:∃V,V=wc:=⟨_,rfl⟩
  have hwV:w.heap.size+2<=V.heap.size:=Nat.le_trans hWle HB2.out.size
  have hWV:=HB2.out.size
  have HBV:=za (HB.out.trans (HB2.out.mono (by omega)))
  clear hB hx1 hx2 hcal
  go_upto_region 2 with fail
  go_cut [10] from 25 to 28 (λx wx=>∃zA qb2 cb2,x=.pointer (some ⟨zA,0,none⟩)/\V.heap.size<=zA/\V.heap.size<=qb2/\V.heap.size<=cb2/\¬qb2=cb2/\Hid (CqI N qb2 cb2 b2 d (.slice x2 d.er.length cp2) (.pointer (some ⟨n2,0,none⟩)) (.slice none 0 0) wx)/\Hid (Below V.heap.size V wx)/\Hid (wx.heap[zA]?=some (.cells #[.pointer (some ⟨qb2,0,none⟩)] 83 (0,0))))
  case first =>
   obtain ⟨e0,e1,ef,ez⟩:=zp Hx3.out
   have hNV:N<=V.heap.size:=by omega
   have HEn:=za (λ(W':World) (hB':Below V.heap.size V W')=>zjh W' ((HW0.out.wi.qi.keep HBV.out).keep hB') (by omega))
   rw [hb2] at HEn
   have HNc:=za (λ(W':World) (hB':Below V.heap.size V W')=>zgA b2 W' (HS2.out.old (zm hB' hNV)) (Nat.le_trans hNV hB'.size))
   go_region_held3 (λw'=>w'.cell? ⟨z8,0,none⟩=some (.slice x2 d.er.length cp2)/\w'.cell? ⟨z8,1,none⟩=some (.pointer (some ⟨n2,0,none⟩)))
    (first|(refine ⟨?_,?_⟩ <;> repeat (first|with_reducible exact e0|with_reducible exact e1|with_reducible refine zg ?_|with_reducible refine zj _ ?_|with_reducible refine zk (by omega) ?_|with_reducible refine zd HB4.out ?_ (by omega)|with_reducible refine zd HB3.out ?_ (by omega)))|go_keep)
    (first
      | (go_at_call 67;refine (HEn.out _ (by exact zo (Below.refl _ _))).mono ?_;rintro e w3 ⟨rfl,hB3⟩;have HB3:=za (zw hB3);clear hB3)
      | (go_at_call 67;refine (HEn.out _ (by exact zo (zq V _))).mono ?_;rintro e w3 ⟨rfl,hB3⟩;have HY1:=za (((zw hB3).block V.heap.size (by rw [zsb];omega)).trans (zc V _));have HB3:=za (zE (zw hB3));clear hB3)
      | (go_at_call 34;refine (HNc.out _ (HB3.out.alloc HB3.out.size _)).mono ?_;rintro e w4 ⟨qb2,cb2,rfl,g1,g2,g3,hQ4,hB4⟩;(rw [zsb] at g1 g2);have HQ4:=za hQ4;have HY:=za ((hB4.block w3.heap.size (by rw [zsb];omega)).trans (zc w3 _));have HB4:=za (HB3.out.trans ((zE hB4).mono HB3.out.size));obtain ⟨y0,yf,yz⟩:=zu HY.out;have k1:=HB3.out.size;have k2:=HB4.out.size;clear hB4 hQ4)
      | (revert HY1;intro HY1;go_at_call 34;refine (HNc.out _ HB3.out).mono ?_;rintro e w4 ⟨qb2,cb2,rfl,g1,g2,g3,hQ4,hB4⟩;have HQ4:=za hQ4;have HB4:=za (HB3.out.trans (hB4.mono HB3.out.size));have HY:=za ((hB4.block _ (ze HY1.out)).trans HY1.out);obtain ⟨y0,yf,yz⟩:=zu HY.out;have k1:=HB3.out.size;have k2:=HB4.out.size;clear hB4 hQ4)
      | (go_at_call 34;refine (HNc.out _ HB3.out).mono ?_;rintro e w4 ⟨qb2,cb2,rfl,g1,g2,g3,hQ4,hB4⟩;have HQ4:=za hQ4;have HB4:=za (HB3.out.trans (hB4.mono HB3.out.size));have k1:=HB3.out.size;have k2:=HB4.out.size;clear hB4 hQ4))
   all_goals go_wp2_with fail
   all_goals go_meet
   · exact ⟨_,qb2,cb2,rfl,by omega,by omega,by omega,g3,HQ4.out.keep (zq w4 _),HB4.out.alloc HB4.out.size _,zc w4 _⟩
   · exact ⟨_,qb2,cb2,rfl,by omega,by omega,by omega,g3,HQ4.out.setAt (by omega) (by omega) (by omega),zC HB4.out (by omega) _,zh _ _ _ _ HY.out⟩
   · have hy:=ze HY1.out
     exact ⟨_,qb2,cb2,rfl,by omega,by omega,by omega,g3,HQ4.out.setAt (by omega) (by omega) (by omega),zC HB4.out (by omega) _,zh _ _ _ _ HY.out⟩
  case rest =>
   obtain ⟨zA,qb2,cb2,rfl,hzA,hq2,hc2,hqc,HQ,HB5,Hx4⟩:=hcut
   obtain ⟨X,rfl⟩:∃X,X=wc:=⟨_,rfl⟩
   have hBX:Below w.heap.size w X:=HBV.out.trans (HB5.out.mono (by omega))
   have hVX:=HB5.out.size
   have hnot:∀x,w.heap.size<=x->¬CT kb qb X x:=λx hx e=>by have:=(HW0.out.lt _ (HW0.out.tk hBX _ e)).2.1;omega
   have hz8V:=ze Hx3.out
   have hCa:CaI N B wb kb qb cb base qb2 cb2 b2 c d (.slice xe c.er.length cpe) (.pointer (some ⟨nb,0,none⟩)) lv (.slice x2 d.er.length cp2) (.pointer (some ⟨n2,0,none⟩)) (.slice none 0 0) K ls k w.heap.size z8 zA w X :=
    ⟨HW0.out.keep hBX,HQ.out,FT.below hBX (HW0.out.tk hBX),(HB5.out.block _ (by omega)).trans ((HB2.out.block _ (by omega)).trans Hx1.out),(HB5.out.block _ (by omega)).trans ((HB2.out.block _ (by omega)).trans Hx2.out),(HB5.out.block _ hz8V).trans Hx3.out,Hx4.out,hnot _ (by omega),hnot _ (by omega),hnot _ (by omega),hnot _ (by omega),hnot _ (by omega),hnot _ (by omega)⟩
   have hwq:¬qb2=wb:=by
    obtain ⟨_,_,_,hI⟩:=HW0.out.wi.kw
    have:=ze hI.wr
    omega
   have hNq:N<=qb2:=by omega
   have hcq:¬cb=qb2:=by have:=HW0.out.wi.qi.ck.lt;omega
   have HCa:=za hCa
   have HBX:=za hBX
   obtain ⟨h0,h1,h2,h3,h4,h5,hf,hz⟩:=zt ((hBX.block b hbz).trans HBk.out)
   have h63:vs.length<=1000000:=by omega
   clear hCa hBX hnot h0 h1 h2 h3 h4
   go_wp2_with (go_at_call 162;refine (zog _ _ _ _).mono ?_;rintro e w6 ⟨rfl,rfl⟩)
   refine zjS (Bs:=X.heap.size) (xa:=xa) (cl:=cpa) vs hb2' h63 hl1 w _ (HCa.out.keep (zq X _)) (by simp) (λe=>by have:=(HCa.out.wl.lt _ (HCa.out.wl.tk (zq X _) _ e)).2.1;omega) (zu (zc X _)).1 (λj hj=>?_) ?_
   · obtain ⟨y,hy⟩:∃y,vs[j]?=some y:=⟨_,zsc hj⟩
     obtain ⟨g',rfl,hcell⟩:=zbE Hown.out hy
     have hg:=hgs g' rfl
     refine ⟨g',rfl,hg,?_⟩
     rw [hy]
     exact zj _ (zd HBX.out hcell (by omega))
   · intro D W6 hD hC6 hDW
     rw [zoH b2 vs h63,HK1.out] at hC6
     have hD':w.heap.size<=D:=by rw [zsb] at hD;have:=HBX.out.size;omega
     have HC6:=za hC6
     have HD6:Hid (zdd w.heap.size W6 [{ target:=.collected D,args:=#[] }]):=.cons D [] hD' hDW (λ_ h=>by simp at h) .nil
     obtain ⟨x0,xf,xz⟩:=zu hC6.x1
     obtain ⟨y0,y1,yf,yz⟩:=zp hC6.x2
     have HWh:=za (zgx (by omega) fu k K1 W6 Hch.out hC6.wl.wi hl2)
     rw [HK2.out] at HWh
     unfold ckV at HWh
     clear hC6 hDW h5 hf hz
     go_wp2_with (first
      | (go_at_call 75
         refine HWh.out.mono ?_
         rintro e w7 ⟨rfl,hK7,hF7⟩
         have HC7:=za (HC6.out.stepK hK7 hF7)
         have HD7:=za (HD6.out.others (HC6.out.wl.others (HC6.out.wl.ftk hK7 hF7).2))
         obtain ⟨s0,sf,sz⟩:=zu HC7.out.x1
         obtain ⟨r0,rf,rz⟩:=zu HC7.out.x4
         have HIn:=za (CqI.inner HC7.out hqc hwq hNq)
         have HBo:=za (HBod.out qb2 cb2 _ _ K2 w7 HIn.out (Hop.out.old (HC7.out.ft.old hNw (λk e=>(HW0.out.lt k e).1)) hN21) (by rw [HK3.out];exact Hbd3.out))
         rw [HK3.out] at HBo
         clear hK7 hF7 x0 xf xz y0 y1 yf yz)
      | (go_at_call 37
         refine HBo.out.mono ?_
         rintro e w8 ⟨rfl,⟨lv8,hL8⟩,hF8⟩
         have HC8:=za (HC7.out.body hqc hwq hNq (by omega) hcq hL8 hF8)
         have HD8:=za (HD7.out.others (HIn.out.others hF8))
         obtain ⟨nn,vs2,qv2,xs2,e9,hnt⟩:=HC8.out.qi.sc.nd
         cases e9
         obtain ⟨m0,m1,m2,m3,m4,m5,mf,mz⟩:=zt hnt.blk
         obtain ⟨p0,p1,pf,pz⟩:=zp HC8.out.x3
         clear hL8 hF8 hnt m0 m1 m2 m3 m5 s0 sf sz r0 rf rz))
     go_loopg [53] (d.nd.outs+1) (λj i wr=>∃m:Nat,m+j=d.nd.outs+1/\m<=d.nd.outs/\i=.int .i64 m/\Hid (CaI N B wb kb qb cb base qb2 cb2 b2 c d (.slice xe c.er.length cpe) (.pointer (some ⟨nb,0,none⟩)) lv (.slice x2 d.er.length cp2) (.pointer (some ⟨n2,0,none⟩)) lv8 (K3.adds ((List.range m).map λi=>(1,((b2+(d.nd.ins+i):Nat):Int)))) ls k w.heap.size z8 zA w wr)/\Hid (zdd w.heap.size wr [{ target:=.collected D,args:=#[] }]))
     case atStart=>exact ⟨0,by omega,Nat.zero_le _,rfl,by rw [List.range_zero,List.map_nil,Cd.adds_nil];exact HC8.out,HD8.out⟩
     case round =>
      clear HC8 HD8 HC7 HD7 HC6 HD6 HIn HBo HWh HCa m4 mf mz p0 p1 pf pz
      obtain ⟨m,hmj,hm,rfl,HC,HD⟩:=hrel
      by_cases hlt:m<d.nd.outs
      · obtain ⟨nn,vs2,qv2,xs2,e9,hnt⟩:=HC.out.qi.sc.nd
        cases e9
        obtain ⟨m0,m1,m2,m3,m4,m5,mf,mz⟩:=zt hnt.blk
        obtain ⟨x0,xf,xz⟩:=zu HC.out.x1
        obtain ⟨p0,p1,pf,pz⟩:=zp HC.out.x3
        obtain ⟨r0,rf,rz⟩:=zu HC.out.x4
        have i1:(m:Int)<(d.nd.outs:Int):=by omega
        have hrl:(K3.adds ((List.range m).map λi=>(1,((b2+(d.nd.ins+i):Nat):Int)))).row.length<=1000000:=by rw [Cd.adds_len];simp;omega
        have HSl:=za (λ(W':World) (hB:Below wr.heap.size wr W')=>zeI (d.nd.ins+m) W' (HC.out.keep hB).qi hb2' (by omega))
        rw [show ((d.nd.ins+m:Nat):Int)=(d.nd.ins:Int)+(m:Int) by omega] at HSl
        have HAd:=za (λ(W':World) (hB:Below wr.heap.size wr W')=>zc7 B wb kb _ 1 ((b2+(d.nd.ins+m):Nat):Int) W' (HC.out.keep hB).wl.wi.kw hrl)
        clear hnt m0 m1 m2 m4 m5 p0 hrl
        go_upto_region 11 with fail
        have hk1:¬CT kb qb wr w.heap.size:=HC.out.n1
        have hin:d.nd.ins<=16:=by omega
        have hmm:m<=16:=by omega
        have hw2:IntKind.i64.wrap ((d.nd.ins:Int)+(m:Int))=(d.nd.ins:Int)+(m:Int):=by rw [IntKind.wrap_i64];omega
        go_region_held3 (λw'=>w'.cell? ⟨w.heap.size,0,none⟩=some (.pointer (some ⟨wb,0,none⟩))/\w'.cell? ⟨zA,0,none⟩=some (.pointer (some ⟨qb2,0,none⟩))/\w'.cell? ⟨z8,1,none⟩=some (.pointer (some ⟨n2,0,none⟩))/\w'.cell? ⟨n2,3,none⟩=some (.int .i64 d.nd.ins))
         (first|(refine ⟨?_,?_,?_,?_⟩ <;> repeat (first|with_reducible exact x0|with_reducible exact r0|with_reducible exact p1|with_reducible exact m3|with_reducible exact q0|with_reducible exact q1|with_reducible exact q2|with_reducible exact q3|with_reducible refine zg ?_))|go_keep)
         (first
           | (go_at_call 36;refine (HAd.out _ (by exact zo (Below.refl _ _))).mono ?_;rintro e w2 ⟨rfl,hK2,hF2⟩;have HCn:=za ((HC.out.keep (zo (Below.refl _ _))).stepK hK2 hF2);have HDn:=za (HD.out.others ((zdj (zo (Below.refl _ _))).trans ((HC.out.keep (zo (Below.refl _ _))).wl.others ((HC.out.keep (zo (Below.refl _ _))).wl.ftk hK2 hF2).2)));have q0:=(zu HCn.out.x1).1;have q1:=(zu HCn.out.x4).1;have q2:=(zp HCn.out.x3).2.1;obtain ⟨_,_,_,_,e9,hnt'⟩:=HCn.out.qi.sc.nd;cases e9;have q3:=(zt hnt'.blk).2.2.2.1;clear hK2 hF2 hnt')
           | (go_at_call 118;refine (HSl.out _ (by exact zo (Below.refl _ _))).mono ?_;rintro e w1 ⟨rfl,rfl⟩))
        all_goals go_wp2_with fail
        all_goals go_roundg (gk-1)
        case measure=>omega
        refine ⟨m+1,by omega,by omega,by go_num,?_,HDn.out⟩
        have hC':=HCn.out
        have e:(K3.adds ((List.range m).map λi=>(1,((b2+(d.nd.ins+i):Nat):Int)))).add 1 ((b2+(d.nd.ins+m):Nat):Int)=K3.adds ((List.range (m+1)).map λi=>(1,((b2+(d.nd.ins+i):Nat):Int))):=by
         simp [Cd.add,Cd.adds,List.range_succ]
        rw [e] at hC'
        exact hC'
      · have em:m=d.nd.outs:=by omega
        subst em
        go_wp2_with fail
        rw [<- HQM.out]
        refine zfL (B0:=w.heap.size) ?_ (λW=>results_none rfl _ _ _) _ wr HD.out ⟨rfl,⟨_,HC.out.wl⟩,HC.out.ft⟩
        rintro W D o hD hW ⟨_,⟨lv',hwl⟩,hft⟩
        have hs:SCs w.heap.size W (W.putObj D o):=SCs.of (grownBy_putObj' W D o) (λr e=>by cases e;exact ⟨hD,_,hW,rfl⟩)
        have h2:=hwl.sc hs HW0.out.wi.qi.ck.lt hNw
        exact ⟨rfl,⟨lv',h2.1⟩,hft.sc hs (λk e=>(h2.2 k).1 e) rfl rfl rfl⟩
end
section
open Go.RowKit Go.Shelf
mutual
def fbT:Tm->Nat
 | .mk k _ _ _ _ ts=>(if k=9 then 1 else 0)+fbL ts
def fbL:List Tm->Nat
 | []=>0
 | t::l=>fbT t+fbL l
end
def lsN:List Lt->Nat
 | []=>0
 | l::ls=>1+fbT l.next+lsN ls
theorem zfD (a b:List Lt):lsN (a++b)=lsN a+lsN b:=by
 induction a with
 | nil=>simp [lsN]
 | cons x a ih=>rw [List.cons_append,lsN,lsN,ih];omega
structure PtC (c:Sc) (fu:Nat) (P:Tm->Nat×Nat->Prop):Prop where
 wf:∀t k,P t k->Wf t
 ch:∀t k,P t k->zfT c fu k
 cal:∀t k,P t k->t.k=4->∃d,c.called t.s=some d
 sub:∀t k i u,P t k->zak t=true->t.ts[i]?=some u->P u (c.operand t i k)
 fby:∀t k x u l,P t k->t.k=9->t.ts=x::u::l->P u k
theorem zqy (bod:Sc->Nat->Cd->Cd) (c:Sc) (base fu:Nat) (s:Cd×List Lt) (t:Tm) (k:Nat×Nat) (h:¬t.k=9):(zal bod c base fu s t k).2=s.2:=by
 unfold zal
 rw [if_neg h]
 split
 · rfl
 split
 · rfl
 split
 · rfl
 split
 · rfl
 split
 · rfl
 · rfl
theorem zpQ (bod:Sc->Nat->Cd->Cd) (c:Sc) (base fu:Nat) (s:Cd×List Lt) (t:Tm) (k:Nat×Nat) (h:t.k=9):(zal bod c base fu s t k).2=s.2++(match t.ts with|_::a::_=>[⟨s.1.cells.length,a,k⟩]|_=>[]):=by
 unfold zal
 rw [if_neg (by omega),if_neg (by omega),if_neg (by omega),if_neg (by omega),if_pos h]
 rfl
theorem zmB {bod:Sc->Nat->Cd->Cd} {c:Sc} {base fu:Nat} {P:Tm->Nat×Nat->Prop} (hP:PtC c fu P):∀(t:Tm) (k:Nat×Nat) (s:Cd×List Lt),P t k->∃new,(zbk bod c base fu s t k).2=s.2++new/\lsN new<=fbT t/\∀m∈new,P m.next m.clock:=by
 intro t
 induction t using Tm.ind with
 | h x a nm n p ts ih =>
   intro k s h
   unfold zbk
   rw [zcs]
   by_cases h9:x=9
   · have hn:¬zak (.mk x a nm n p ts)=true:=by unfold zak;simp [Tm.k,h9]
     rw [if_neg hn,zpQ bod c base fu s (.mk x a nm n p ts) k h9]
     clear ih
     rw [fbT,if_pos h9]
     cases ts with
     | nil=>exact ⟨[],rfl,Nat.zero_le _,λm hm=>by simp at hm⟩
     | cons y l =>
       cases l with
       | nil=>exact ⟨[],rfl,Nat.zero_le _,λm hm=>by simp at hm⟩
       | cons u l =>
         refine ⟨[⟨s.1.cells.length,u,k⟩],rfl,by simp [lsN,fbL];omega,λm hm=>?_⟩
         rw [List.mem_singleton.1 hm]
         exact hP.fby _ k y u l h h9 rfl
   · have hn:zak (.mk x a nm n p ts)=true:=by unfold zak;simp [Tm.k,h9]
     rw [if_pos hn,zqy bod c base fu _ (.mk x a nm n p ts) k h9,fbT,if_neg h9,Nat.zero_add]
     have hl:∀(l:List Tm) (i:Nat) (st:Cd×List Lt),(∀j u,l[j]?=some u->u∈ts/\P u (c.operand (.mk x a nm n p ts) (i+j) k))->∃new,(zcu c (λt _=>zak t) (λs _ _=>s) (zal bod c base fu) (.mk x a nm n p ts) k l i st).2=st.2++new/\lsN new<=fbL l/\∀m∈new,P m.next m.clock:=by
      intro l
      induction l with
      | nil=>intro i st _;exact ⟨[],by rw [zcu,List.append_nil],by simp [lsN],λm hm=>by simp at hm⟩
      | cons u l ihl =>
        intro i st hu
        rw [zcu]
        obtain ⟨hm,hPu⟩:=hu 0 u rfl
        obtain ⟨n1,e1,l1,p1⟩:=ih u hm _ st hPu
        have e1':(zcs c (λt _=>zak t) (λs _ _=>s) (zal bod c base fu) u (c.operand (.mk x a nm n p ts) i k) st).2=st.2++n1:=e1
        obtain ⟨n2,e2,l2,p2⟩:=ihl (i+1) (zcs c (λt _=>zak t) (λs _ _=>s) (zal bod c base fu) u (c.operand (.mk x a nm n p ts) i k) st) (λj u' hj=>by have:=hu (j+1) u' hj;rwa [show i+(j+1)=i+1+j by omega] at this)
        refine ⟨n1++n2,?_,by rw [zfD,fbL];omega,λm hm=>(List.mem_append.1 hm).elim (p1 m) (p2 m)⟩
        rw [e2,e1',List.append_assoc]
     exact hl ts 0 s (λj u hj=>⟨List.mem_of_getElem? hj,by rw [Nat.zero_add];exact hP.sub _ k j u h hn hj⟩)
theorem zpr {bod:Sc->Nat->Cd->Cd} (hb:∀d b K,BdK (bod d b K)->BdK K) {c:Sc} {base fu:Nat} (s:Cd×List Lt) (t:Tm) (k:Nat×Nat) (h:BdK (zal bod c base fu s t k).1):BdK s.1:=by
 unfold zal at h
 split at h
 · exact zb3 h
 split at h
 · exact zb3 h
 split at h
 · exact h
 split at h
 · exact zb3 h
 split at h
 · have h1:=zb3 h
   refine ⟨h1.1,?_⟩
   have:=h1.2;unfold Cd.cell at this;simp at this;omega
 split at h
 · unfold zeb at h
   split at h
   · exact h
   · exact zb4 (zb4 (hb _ _ _ (zb4 h)))
 · exact zb3 h
theorem zhP {bod:Sc->Nat->Cd->Cd} (hb:∀d b K,BdK (bod d b K)->BdK K) {c:Sc} {base fu:Nat} {s:Cd×List Lt} {t:Tm} {k:Nat×Nat} (h:BdK (zbk bod c base fu s t k).1):BdK s.1:=zi6 (Bd:=λs:Cd×List Lt=>BdK s.1) (λ_ _ _ h=>h) (λs t k h=>zpr hb s t k h) t k s h
theorem zgZ {bod:Sc->Nat->Cd->Cd} (hb:∀d b K,BdK (bod d b K)->BdK K) {c:Sc} {base fu:Nat}:∀(g:Nat) (s:Cd×List Lt),BdK (zcj bod c base fu g s)->BdK s.1:=by
 intro g
 induction g with
 | zero=>intro s h;exact h
 | succ g ih =>
   rintro ⟨K,ls⟩ h
   rw [zcj] at h
   cases ls with
   | nil=>exact h
   | cons m r =>
     have h1:=ih _ h
     exact zb4 (zhP hb (zb3 h1))
theorem zkB:∀(ls:List Lt),ls.length<=lsN ls:=by
 intro ls
 induction ls with
 | nil=>simp [lsN]
 | cons l ls ih=>rw [lsN,List.length_cons];omega
theorem zov {bod:Sc->Nat->Cd->Cd} (hb:∀d b K,BdK (bod d b K)->BdK K) {c:Sc} {base fu:Nat} {P:Tm->Nat×Nat->Prop} (hP:PtC c fu P):∀(g:Nat) (s:Cd×List Lt),g<=1000000->lsN s.2<=g->(∀m∈s.2,P m.next m.clock)->BdK (zcj bod c base fu g s)->zcP P bod c base fu g s:=by
 intro g
 induction g with
 | zero =>
   rintro ⟨K,ls⟩ _ h _ _
   cases ls with
   | nil=>rfl
   | cons m r=>simp only [lsN] at h;omega
 | succ g ih =>
   rintro ⟨K,ls⟩ hg h hm hbd
   cases ls with
   | nil=>rw [zcP];trivial
   | cons m r =>
     rw [zcj] at hbd
     rw [zcP]
     simp only at hbd ⊢
     simp only [lsN] at h
     obtain ⟨new,e,hl,hp⟩:=zmB (bod:=bod) (base:=base) hP m.next m.clock (K.adds (whM c base fu m.clock),r) (hm m (List.mem_cons_self ..))
     have hb1:=zb3 (zgZ hb _ _ hbd)
     have hb2:=zhP hb hb1
     have hlen:=hb2.1
     rw [Cd.adds_len] at hlen
     have hls:lsN (zbk bod c base fu (K.adds (whM c base fu m.clock),r) m.next m.clock).2<=g:=by rw [e,zfD];show lsN r+_<=_;omega
     refine ⟨hlen,⟨hb1,?_⟩,hm m (List.mem_cons_self ..),hP.ch _ _ (hm m (List.mem_cons_self ..)),ih _ (by omega) hls ?_ hbd⟩
     · have:=zkB (zbk bod c base fu (K.adds (whM c base fu m.clock),r) m.next m.clock).2
       omega
     · intro m' hm'
       have hm2:m'∈r++new:=by rw [<- e];exact hm'
       rcases List.mem_append.1 hm2 with h1|h1
       · exact hm m' (List.mem_cons_of_mem _ h1)
       · exact hp m' h1
def fbQ:List Qn->Nat
 | []=>0
 | q::l=>fbT q.r+fbQ l
theorem zqD {bod:Sc->Nat->Cd->Cd} {c:Sc} {base fu:Nat} {P:Tm->Nat×Nat->Prop} (hP:PtC c fu P):∀(l:List Qn) (s:Cd×List Lt),(∀q∈l,P q.r (c.of (c.idx (q.ns.headD ⟨#[]⟩))))->(∀m∈s.2,P m.next m.clock)->lsN (zbH bod c base fu l s).2<=lsN s.2+fbQ l/\∀m∈(zbH bod c base fu l s).2,P m.next m.clock:=by
 intro l
 induction l with
 | nil=>intro s _ hs;exact ⟨by rw [zbH,fbQ];omega,hs⟩
 | cons q l ih =>
   intro s hq hs
   rw [zbH]
   obtain ⟨new,e,hl,hp⟩:=zmB (bod:=bod) (base:=base) hP q.r _ s (hq q (List.mem_cons_self ..))
   obtain ⟨h1,h2⟩:=ih ((zbk bod c base fu s q.r (c.of (c.idx (q.ns.headD ⟨#[]⟩)))).1.adds (zdh c base (zbo (zdl q.ns q.ps) q.ns.length q.ns.length)),(zbk bod c base fu s q.r (c.of (c.idx (q.ns.headD ⟨#[]⟩)))).2) (λq' h'=>hq q' (List.mem_cons_of_mem _ h')) (λm hm=>by
    have hm2:m∈s.2++new:=by rw [<- e];exact hm
    exact (List.mem_append.1 hm2).elim (hs m) (hp m))
   refine ⟨?_,h2⟩
   have h3:lsN (zbk bod c base fu s q.r (c.of (c.idx (q.ns.headD ⟨#[]⟩)))).2=lsN s.2+lsN new:=by rw [e,zfD]
   simp only [fbQ]
   simp only [h3] at h1
   omega
def zca (fu gas:Nat):Nat->Sc->Nat->Cd->Cd
 | 0,_,_,K=>K
 | f+1,c,b,K=>zcj (zca fu gas f) c b fu gas (zbH (zca fu gas f) c b fu (zac c) ((K.slotsTo (b+c.nd.vars.length+1)).add 2 ((b+c.nd.vars.length:Nat):Int),[]))
theorem zpz {bod:Sc->Nat->Cd->Cd} (hb:∀d b K,BdK (bod d b K)->BdK K) {c:Sc} {base fu:Nat}:∀(l:List Qn) (s:Cd×List Lt),BdK (zbH bod c base fu l s).1->BdK s.1:=by
 intro l
 induction l with
 | nil=>intro s h;exact h
 | cons q l ih =>
   intro s h
   rw [zbH] at h
   exact zhP hb (zb4 (ih _ h))
theorem zm2 (fu gas:Nat):∀(f:Nat) (d:Sc) (b:Nat) (K:Cd),BdK (zca fu gas f d b K)->BdK K:=by
 intro f
 induction f with
 | zero=>intro d b K h;exact h
 | succ f ih =>
   intro d b K h
   rw [zca] at h
   exact zb3 (zpz ih _ _ (zgZ ih _ _ h))
structure Gd (fu gas:Nat) (c:Sc) (P:Tm->Nat×Nat->Prop):Prop where
 ok:zbr c
 few:c.nd.eqs.length<=1000000
 pt:PtC c fu P
 eqs:∀q∈c.nd.eqs,P q.r (c.of (c.idx (q.ns.headD ⟨#[]⟩)))
 fbs:fbQ (zac c)<=gas
def GdC (fu gas:Nat):Nat->Sc->Prop
 | 0,_=>False
 | f+1,c=>(∃P,Gd fu gas c P)/\∀s d,c.called s=some d->GdC fu gas f d
theorem zlJ {N B wb kb:Nat} (fu gas:Nat) (hgas:gas<=1000000) (hN21:21<=N):∀(f:Nat) (c:Sc),GdC fu gas f c->∀(base:Nat),base+17*f<=100000->∀(qb cb:Nat) (ev nv:Value) (K:Cd) (W:World),WL N B wb kb qb cb base c ev nv (.slice none 0 0) K [] W->zbt W->BdK (zca fu gas f c base K) ->
 Calls Tryz.prog 37 #[.pointer (some ⟨wb,0,none⟩),.pointer (some ⟨qb,0,none⟩)] W (λe w'=>e=.returned (.tuple #[])/\(∃lv',WL N B wb kb qb cb base c ev nv lv' (zca fu gas f c base K) [] w')/\FT (CT kb qb) W w'):=by
 intro f
 induction f with
 | zero=>intro c h;exact h.elim
 | succ f ih =>
   rintro c ⟨⟨P,hG⟩,hd⟩ base hbase qb cb ev nv K W h hop hbd
   rw [zca] at hbd ⊢
   have hb:=zm2 fu gas f
   have hPr:∀q∈zac c,P q.r (c.of (c.idx (q.ns.headD ⟨#[]⟩))):=λq hq=>hG.eqs q (zhe c q hq)
   obtain ⟨h1,h2⟩:=zqD (bod:=zca fu gas f) (base:=base) hG.pt (zac c) ((K.slotsTo (base+c.nd.vars.length+1)).add 2 ((base+c.nd.vars.length:Nat):Int),[]) hPr (λm hm=>by simp at hm)
   have h3:=hG.fbs
   have hl:lsN (zbH (zca fu gas f) c base fu (zac c) ((K.slotsTo (base+c.nd.vars.length+1)).add 2 ((base+c.nd.vars.length:Nat):Int),[])).2<=gas:=by
    refine Nat.le_trans h1 ?_
    simp only [lsN];omega
   have hE:=zgZ hb _ _ hbd
   have hlen:=zkB (zbH (zca fu gas f) c base fu (zac c) ((K.slotsTo (base+c.nd.vars.length+1)).add 2 ((base+c.nd.vars.length:Nat):Int),[])).2
   have hfew:c.nd.vars.length<=16:=hG.ok.nd.few
   refine zoR hG.ok hG.few (zca fu gas f) fu gas P hN21 (by omega) hG.pt.wf hG.pt.sub hb ?_ K W h hop (zm2 fu gas (f+1) c base K (by rw [zca];exact hbd)).1 hG.eqs (zov hb hG.pt gas _ hgas hl h2 hbd) ⟨hE,by omega⟩
   intro t k hPt hk4 s lv W' v hWL hT hop' hbd'
   obtain ⟨d,hcal⟩:=hG.pt.cal t k hPt hk4
   have hfin:zal (zca fu gas f) c base fu s t k=(zeb (zca fu gas f) c base fu s.1 t k,s.2):=by
    unfold zal
    rw [if_neg (by omega),if_neg (by omega),if_neg (by omega),if_neg (by omega),if_neg (by omega),if_pos hk4]
   rw [hfin] at hbd'
   exact zly hG.ok (zca fu gas f) fu hN21 (by omega) t k hcal (hG.pt.ch t k hPt) hb (λqb2 cb2 ev2 nv2 K2 W2 hW2 hop2 hbd2=>ih d (hd t.s d hcal) (base+c.nd.vars.length+1) (by omega) qb2 cb2 ev2 nv2 K2 W2 hW2 hop2 hbd2) s.1 s.2 v W' hWL hT hop' hbd'.1
end
end Go.Proofs.YtedmpgjebafcjaaGreatDoor
