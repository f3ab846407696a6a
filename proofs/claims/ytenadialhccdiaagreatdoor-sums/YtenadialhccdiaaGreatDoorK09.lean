/- Part 10. -/
import Derived.Test.YtenadialhccdiaaGreatDoorK08
set_option maxRecDepth 100000
set_option maxHeartbeats 8000000
namespace Go.Proofs.YtenadialhccdiaaGreatDoor
open Go.Proofs.Tryz
open Go.RowKit
section
variable {N cb k:Nat} {c:Sc} {ev nv:Xv} {v:Vr} {W:Xw}
attribute [local go_sem ↓] Go.wp_at_zero Go.wp_at_succ
theorem znZ (hv:c.nd.vars[k]?=some v)(h:zaA v=0):c.of k=(0,0):=by unfold Sc.of;rw[hv];exact zM2 h
theorem znq (hv:c.nd.vars[k]?=some v)(h:¬zaA v=0):c.of k=(c.idx v.ck,zaA v):=by unfold Sc.of;rw[hv];exact zM1 h
theorem zkk (h:zbn W cb pr (ckL c k)) :
 ∃W1 W2,(Instr.mapUpdate 90 (.map (some cb)) (.agg #[xI (k:Int),xI 1]) (.agg #[xI ((c.of k).1:Nat),xI ((c.of k).2:Nat)])).run prog W=.ok () W1/\Fr (·=cb) W W1/\(Instr.mapUpdate 90 (.map (some cb)) (.agg #[xI (k:Int),xI 2]) (.agg #[xI ((c.of k).1:Nat),xI ((c.of k).2:Nat)])).run prog W1=.ok () W2/\Fr (·=cb) W1 W2/\zbn W2 cb pr (ckL c (k+1)):=by
 obtain⟨W1,r1,m1,f1⟩:=zgh Tryz.keyClock underlying90 h ((k:Int),1) (pr (clk (c.of k)));rw[zng] at m1;obtain⟨W2,r2,m2,f2⟩:=zgh Tryz.keyClock underlying90 m1 ((k:Int),2) (pr (clk (c.of k)));rw[zn3] at m2;exact⟨W1,W2,r1,f1,r2,f2,m2⟩
theorem zbR {w W1:Xw}(h:xB w W)(hf:Fr (·=cb) W W1)(hcb:w.heap.size<=cb):xB w W1 :=
 ⟨hf.os.trans h.os,hf.tape.trans h.tape,hf.output.trans h.output,zMO h.size hf.size,λk hk=>(hf.block k (zM9 hk h.size) (by omega)).trans (h.block k hk)⟩
theorem zeC (w:Xw)(h:ScV w N c ev nv)(hN:N<=w.heap.size) :
 xK 59 #[.agg #[ev,nv]] w (λe w'=>∃cb,e=.returned (.map (some cb))/\w.heap.size<=cb/\za7 w' c cb/\xB w w'):=by
 obtain⟨xe,cpe,nb,rfl,rfl,hnb⟩:=h.shape;have HSc:=za h;obtain⟨nb',vs,qv,xs,e9,hnt⟩:=h.nd;cases e9;obtain⟨xv,cpv,rfl⟩:=zB hnt.vown;obtain⟨xq,cpq,rfl⟩:=zB hnt.own;obtain⟨m0,m1,m2,m3,m4,m5,mf,mz⟩:=zt hnt.blk;have HNt:=za hnt;have hfew:=hnt.few;have hmm:=@run_makeMap prog;have hnw:nb<w.heap.size:=by omega
 have hA:∀o1 o2,((w.alloc o1).alloc o2).heap[w.heap.size]?=some o1/\((w.alloc o1).alloc o2).heap[w.heap.size+1]?=some o2:=λo1 o2=>zd8 w o1 o2;have HA:=za hA;clear h hnt hA;go_enter func59,ntmps59;go_wp2_with fail;go_loopg [14] (c.nd.vars.length+1) (λj x wr=>∃k:Nat,k+j=c.nd.vars.length+1/\k<=c.nd.vars.length/\x=xI k/\Hid (zbn wr (w.heap.size+1) pr (ckL c k))/\Hid (xH wr w.heap.size #[xE xe c cpe,xP nb] 79)/\Hid (xB w wr));case atStart=>exact⟨0,by omega,zMN _,rfl,⟨#[],0,(HA.o _ _).2,rfl⟩,(HA.o _ _).1,zaD w _ _⟩
 case round =>
  clear HA m0 m1 m2 m3 m4 m5 mf mz hmm;obtain⟨k,hkj,hk,rfl,HM,HX,HB⟩:=hrel;have hO:=zm HB.o hN;by_cases hlt:k<c.nd.vars.length
  . obtain⟨v,hv⟩:∃v,c.nd.vars[k]?=some v:=⟨_,zsc hlt⟩;obtain⟨g,rfl,c0,c1,c2,c3,c4,c5,c6⟩:=zaM (HNt.o.old hO).vown hv;have hgN:=HNt.o.vlo g rfl;obtain⟨s0,s1,sf,sz⟩:=zp HX.o;have hzr:=HM.o.lt;have HSr:=za (HSc.o.old hO);have hwz:=HB.o.size;have hA:=zd8 wr (.cells #[.string v.nm,xI v.a,xI (zaK v:Nat),xI (zaA v:Nat),xI v.on,.string v.ck,xI v.ca] 101) (.cells #[xI 0,xI 0] 161);have HA:=za hA;have HV:=za hv;clear hA hO hv;by_cases hsg:zaA v=0
    . have hsg':(zaA v:Int)=0:=(by omega);have ho:=znZ HV.o hsg;rw[hsg] at c3 HA;have HO:=za ho;clear ho hsg hsg';go_upto_region 8 with fail;refine zn (λW=>zbn W (w.heap.size+1) pr (ckL c k)/\xH W (wr.heap.size+1) #[xI ((c.of k).1:Nat),xI ((c.of k).2:Nat)] 161/\xB w W/\xH W w.heap.size #[xE xe c cpe,xP nb] 79) ⟨HM.o.of ((zaD wr _ _).block _ hzr),by rw[HO.o];exact HA.o.2,HB.o.trans ((zaD wr _ _).mono hwz),(Below.block (zaD wr _ _) _ sz).trans HX.o⟩ ?_;rintro W ⟨hMW,hZW,hBW,hXW⟩;obtain⟨W1,W2,r1,f1,r2,f2,m2⟩:=zkk hMW;obtain⟨o0,o1,of,oz⟩:=zp hZW;have hne:¬wr.heap.size+1=w.heap.size+1:=(by omega);obtain⟨p0,p1,pf,pz⟩:=zp ((f1.block _ oz hne).trans hZW);have HM2:=za m2;have HB2:=za (zbR (zbR hBW f1 (by omega)) f2 (by omega));have HX2:Hid (xH W2 w.heap.size #[xE xe c cpe,xP nb] 79):=(f2.block _ (by have:=f1.size;have:=ze hXW;omega) (by omega)).trans ((f1.block _ (ze hXW) (by omega)).trans hXW);clear hMW hZW hBW hXW f1 f2 m2;go_wp2_with fail;go_roundg (gk-1);case measure=>omega
      exact⟨k+1,by omega,by omega,by go_num,HM2.o,HX2.o,HB2.o⟩
    have hsg':¬(zaA v:Int)=0:=(by omega);have ho:=znq HV.o hsg;have HO:=za ho;clear ho hsg;go_upto_region 7 with fail;refine zn (λW=>zbn W (w.heap.size+1) pr (ckL c k)/\xB w W/\xH W w.heap.size #[xE xe c cpe,xP nb] 79/\xH W wr.heap.size #[.string v.nm,xI v.a,xI (zaK v:Nat),xI (zaA v:Nat),xI v.on,.string v.ck,xI v.ca] 101/\xH W (wr.heap.size+1) #[xI 0,xI 0] 161) ⟨HM.o.of ((zaD wr _ _).block _ hzr),HB.o.trans ((zaD wr _ _).mono hwz),(Below.block (zaD wr _ _) _ sz).trans HX.o,HA.o.1,HA.o.2⟩ ?_;rintro W ⟨hMW,hBW,hXW,hVW,hZW⟩;obtain⟨s0,s1,sf,sz⟩:=zp hXW;obtain⟨v0,v1,v2,v3,v4,v5,v6,vf,vz⟩:=zbZ hVW;obtain⟨z0,z1,zf,zz⟩:=zp hZW;have hWz:w.heap.size<=W.heap.size:=hBW.size;have HIx:=za (zaz v.ck (v.ca:Int) W.drew (HSc.o.old (zm (zo hBW) hN)) (by show N<=W.heap.size;omega));have HMW:=za hMW;have HBW:=za hBW;have HXW:=za hXW;have HZW:=za hZW;clear hMW hBW hXW hVW hZW v0 v1 v2 v4 vf c0 c1 c2 c3 c4 c5 c6
    go_region_held3 (λw'=>w'.cell? (xD w.heap.size 0)=some (xE xe c cpe)/\w'.cell? (xD w.heap.size 1)=some (xP nb)/\w'.cell? (xD wr.heap.size 3)=some (xI (zaA v:Nat))/\w'.cell? (xD wr.heap.size 5)=some (.string v.ck)/\w'.cell? (xD wr.heap.size 6)=some (xI v.ca))
     (first|(with_reducible (refine⟨?_,?_,?_,?_,?_⟩ <;> repeat (first|assumption|refine zg ?_|refine zj _ ?_|refine zk (by omega) ?_|refine zd HB1.o ?_ (by first|omega|(rw[zsb];omega)))))|go_keep)
     (first|(go_at_call 65;refine HIx.o.mono ?_;rintro e w1 ⟨rfl,hB1⟩;have HB1:=za (zw hB1);have hz1:=hB1.size;have y0:=zd HB1.o z0 zz;have y1:=zd HB1.o z1 zz;have yf:=zai ((HB1.o.block _ zz).trans HZW.o);clear hB1))
    go_upto_region 8 with fail;refine zn (λW=>zbn W (w.heap.size+1) pr (ckL c k)/\xH W (wr.heap.size+1) #[xI ((c.of k).1:Nat),xI ((c.of k).2:Nat)] 161/\xB w W/\xH W w.heap.size #[xE xe c cpe,xP nb] 79) ⟨HMW.o.of (zr (by omega) (zr (by omega) (HB1.o.block _ HMW.o.lt))),by rw[HO.o];exact zdR ((HB1.o.block _ zz).trans HZW.o) _ _,zC (zC (HBW.o.trans (HB1.o.mono hWz)) (by omega) _) (by omega) _,zr (by omega) (zr (by omega) ((HB1.o.block _ sz).trans HXW.o))⟩ ?_;clear s0 s1 sf v3 v5 v6 z0 z1 zf y0 y1 yf;rintro W ⟨hMW,hZW,hBW,hXW⟩;obtain⟨W1,W2,r1,f1,r2,f2,m2⟩:=zkk hMW;obtain⟨o0,o1,of,oz⟩:=zp hZW;have hne:¬wr.heap.size+1=w.heap.size+1:=(by omega);obtain⟨p0,p1,pf,pz⟩:=zp ((f1.block _ oz hne).trans hZW);have HM2:=za m2;have HB2:=za (zbR (zbR hBW f1 (by omega)) f2 (by omega));have HX2:Hid (xH W2 w.heap.size #[xE xe c cpe,xP nb] 79):=(f2.block _ (by have:=f1.size;have:=ze hXW;omega) (by omega)).trans ((f1.block _ (ze hXW) (by omega)).trans hXW);clear hMW hZW hBW hXW f1 f2 m2;go_wp2_with fail;go_roundg (gk-1);case measure=>omega
    exact⟨k+1,by omega,by omega,by go_num,HM2.o,HX2.o,HB2.o⟩
  have ek:k=c.nd.vars.length:=by omega
  subst ek;go_wp2_with fail;go_ret;exact⟨_,rfl,by omega,HM.o,HB.o⟩
theorem zjV (t:Tm)(v:Xv)(i:Nat)(k:Nat×Nat)(w:Xw)(hT:TT w N t v)(HSc:ScV w N c ev nv)(HCk:za7 w c cb)(hN:N<=w.heap.size) :
 xK 142 #[.map (some cb),.agg #[ev,nv],v,xI (i:Int),.agg #[xI (k.1:Nat),xI (k.2:Nat)]] w (λe w'=>e=.returned (.agg #[xI ((c.operand t i k).1:Nat),xI ((c.operand t i k).2:Nat)])/\xB w w'):=by
 obtain⟨xe,cpe,nb,rfl,rfl,hnb⟩:=HSc.shape;obtain⟨b,args,vs,rfl,hb,HBk,_⟩:=hT.ptr;have hbz:=ze HBk;clear hT;go_enter func142,ntmps142;go_upto_region 1 with fail;refine zn (λW=>(ScV W N c (xE xe c cpe) (xP nb)/\za7 W c cb/\xB w W)/\xH W w.heap.size #[xE xe c cpe,xP nb] 79/\xH W (w.heap.size+1) #[xI (k.1:Nat),xI (k.2:Nat)] 161/\xH W (w.heap.size+1+1) #[xI 0,xI 0] 161) ⟨⟨HSc.old (zot hN _ _ _),HCk.keep (zcz w _ _ _),zcz w _ _ _⟩,(al3 w _ _ _).1,(al3 w _ _ _).2.1,(al3 w _ _ _).2.2⟩ ?_;rintro W ⟨⟨HSW,HCW,HBW⟩,hXW,hYW,HZW⟩;obtain⟨s0,s1,sf,sz⟩:=zp hXW;obtain⟨k0,k1,kf,kz⟩:=zp hYW;obtain⟨z0,z1,zf,zz⟩:=zp HZW;obtain⟨m0,m1,m2,m3,m4,m5,mf,mz⟩:=zt ((HBW.block b hbz).trans HBk);have hWz:w.heap.size<=W.heap.size:=HBW.size;have HIx:=za (zaz t.s (t.nm:Int) W.drew (HSW.old (λ_ _=>rfl)) (by show N<=W.heap.size;omega));clear hXW hYW m1 m4 m5;by_cases h7:t.k=7
 . have hk:=h7;have HO:c.operand t i k=c.of (c.idx t.s):=zM2 (zM3 hk);have m0':W.cell? (xD b 0)=some (xI 7):=by rw[m0,hk];rfl
   clear m0 hk h7;go_upto_region 4 with fail
   go_region_held3 (λw'=>w'.cell? (xD w.heap.size 0)=some (xE xe c cpe)/\w'.cell? (xD w.heap.size 1)=some (xP nb)/\w'.cell? (xD b 2)=some (.string t.s)/\w'.cell? (xD b 3)=some (xI t.nm))
    (first|(with_reducible (refine⟨?_,?_,?_,?_⟩ <;> repeat (first|assumption|refine zg ?_|refine zj _ ?_|refine zk (by omega) ?_|refine zd HB2.o ?_ (by first|omega|(rw[zsb];omega))|refine zd HB1.o ?_ (by first|omega|(rw[zsb];omega)))))|go_keep)
    (first
      | (go_at_call 64;refine HOf.o.mono ?_;rintro e w2 ⟨rfl,hB2⟩;have HB2:=za hB2;have hz2:w1.heap.size<=w2.heap.size:=hB2.size;have y0:=zd HB2.o (zd HB1.o z0 zz) (by omega);have y1:=zd HB2.o (zd HB1.o z1 zz) (by omega);have yf:=zai ((HB2.o.block _ (by omega)).trans ((HB1.o.block _ zz).trans HZW));clear hB2)
      | (go_at_call 65;refine HIx.o.mono ?_;rintro e w1 ⟨rfl,hB1⟩;have HB1:=za (zw hB1);have hz1:W.heap.size<=w1.heap.size:=hB1.size;have HOf:=za (zbC (c.idx t.s) w1 (HCW.keep HB1.o));clear hB1))
   go_wp2_with fail;rw[HO];refine zWR (v:=.agg #[xI ((c.of (c.idx t.s)).1:Nat),xI ((c.of (c.idx t.s)).2:Nat)]) (by simp[results,results142,go_sem,y0,y1]) rfl ⟨rfl,zC (zC (HBW.trans ((HB1.o.trans (HB2.o.mono hz1)).mono hWz)) (by omega) _) (by omega) _⟩
 by_cases h8:t.k=8
 . have hk:=h8;have HO:c.operand t i k=c.of (c.idx t.s):=zM2 (zM4 hk);have m0':W.cell? (xD b 0)=some (xI 8):=by rw[m0,hk];rfl
   clear m0 hk h7 h8;go_upto_region 4 with fail
   go_region_held3 (λw'=>w'.cell? (xD w.heap.size 0)=some (xE xe c cpe)/\w'.cell? (xD w.heap.size 1)=some (xP nb)/\w'.cell? (xD b 2)=some (.string t.s)/\w'.cell? (xD b 3)=some (xI t.nm))
    (first|(with_reducible (refine⟨?_,?_,?_,?_⟩ <;> repeat (first|assumption|refine zg ?_|refine zj _ ?_|refine zk (by omega) ?_|refine zd HB2.o ?_ (by first|omega|(rw[zsb];omega))|refine zd HB1.o ?_ (by first|omega|(rw[zsb];omega)))))|go_keep)
    (first
      | (go_at_call 64;refine HOf.o.mono ?_;rintro e w2 ⟨rfl,hB2⟩;have HB2:=za hB2;have hz2:w1.heap.size<=w2.heap.size:=hB2.size;have y0:=zd HB2.o (zd HB1.o z0 zz) (by omega);have y1:=zd HB2.o (zd HB1.o z1 zz) (by omega);have yf:=zai ((HB2.o.block _ (by omega)).trans ((HB1.o.block _ zz).trans HZW));clear hB2)
      | (go_at_call 65;refine HIx.o.mono ?_;rintro e w1 ⟨rfl,hB1⟩;have HB1:=za (zw hB1);have hz1:W.heap.size<=w1.heap.size:=hB1.size;have HOf:=za (zbC (c.idx t.s) w1 (HCW.keep HB1.o));clear hB1))
   go_wp2_with fail;rw[HO];refine zWR (v:=.agg #[xI ((c.of (c.idx t.s)).1:Nat),xI ((c.of (c.idx t.s)).2:Nat)]) (by simp[results,results142,go_sem,y0,y1]) rfl ⟨rfl,zC (zC (HBW.trans ((HB1.o.trans (HB2.o.mono hz1)).mono hWz)) (by omega) _) (by omega) _⟩
 by_cases hk:t.k=6;by_cases hi:0<i
 . have HO:c.operand t i k=(c.idx t.s,2):=by unfold Sc.operand;rw[zM1 (by omega),zM2 hk,zM2 hi]
   have m0':W.cell? (xD b 0)=some (xI 6):=(by rw[m0,hk];rfl);have hi': (0:Int)<(i:Int):=(by omega);clear m0 hk hi h7 h8;go_upto_region 9 with fail
   go_region_held3 (λw'=>w'.cell? (xD w.heap.size 0)=some (xE xe c cpe)/\w'.cell? (xD w.heap.size 1)=some (xP nb)/\w'.cell? (xD b 2)=some (.string t.s)/\w'.cell? (xD b 3)=some (xI t.nm))
    (first|(with_reducible (refine⟨?_,?_,?_,?_⟩ <;> repeat (first|assumption|refine zg ?_|refine zj _ ?_|refine zk (by omega) ?_|refine zd HB1.o ?_ (by first|omega|(rw[zsb];omega)))))|go_keep)
    (first
      | (go_at_call 65;refine HIx.o.mono ?_;rintro e w1 ⟨rfl,hB1⟩;have HB1:=za (zw hB1);have hz1:W.heap.size<=w1.heap.size:=hB1.size;have y0:=zd HB1.o z0 zz;have y1:=zd HB1.o z1 zz;have yf:=zai ((HB1.o.block _ zz).trans HZW);clear hB1))
   go_wp2_with fail;rw[HO];refine zWR (v:=.agg #[xI (c.idx t.s:Nat),xI 2]) (by simp[results,results142,go_sem,y0,y1]) rfl ⟨rfl,zC (zC (HBW.trans (HB1.o.mono hWz)) (by omega) _) (by omega) _⟩
 . have HO:c.operand t i k=(c.idx t.s,1):=by unfold Sc.operand;rw[zM1 (by omega),zM2 hk,zM1 hi]
   have m0':W.cell? (xD b 0)=some (xI 6):=(by rw[m0,hk];rfl);have hi':¬(0:Int)<(i:Int):=(by omega);clear m0 hk hi h7 h8;go_upto_region 9 with fail
   go_region_held3 (λw'=>w'.cell? (xD w.heap.size 0)=some (xE xe c cpe)/\w'.cell? (xD w.heap.size 1)=some (xP nb)/\w'.cell? (xD b 2)=some (.string t.s)/\w'.cell? (xD b 3)=some (xI t.nm))
    (first|(with_reducible (refine⟨?_,?_,?_,?_⟩ <;> repeat (first|assumption|refine zg ?_|refine zj _ ?_|refine zk (by omega) ?_|refine zd HB1.o ?_ (by first|omega|(rw[zsb];omega)))))|go_keep)
    (first
      | (go_at_call 65;refine HIx.o.mono ?_;rintro e w1 ⟨rfl,hB1⟩;have HB1:=za (zw hB1);have hz1:W.heap.size<=w1.heap.size:=hB1.size;have y0:=zd HB1.o z0 zz;have y1:=zd HB1.o z1 zz;have yf:=zai ((HB1.o.block _ zz).trans HZW);clear hB1))
   go_wp2_with fail;rw[HO];refine zWR (v:=.agg #[xI (c.idx t.s:Nat),xI 1]) (by simp[results,results142,go_sem,y0,y1]) rfl ⟨rfl,zC (zC (HBW.trans (HB1.o.mono hWz)) (by omega) _) (by omega) _⟩
 have HO:c.operand t i k=k:=by unfold Sc.operand;rw[zM1 (by omega),zM1 hk]
 have g7:¬(t.k:Int)=7:=by omega
 have g8:¬(t.k:Int)=8:=by omega
 have g6:¬(t.k:Int)=6:=by omega
 clear h7 h8 hk;go_wp2_with fail;rw[HO];refine zWR (v:=.agg #[xI (k.1:Nat),xI (k.2:Nat)]) (by simp[results,results142,go_sem,z0,z1]) rfl ⟨rfl,zC (zC HBW (by omega) _) (by omega) _⟩
end
section
variable {N:Nat} {c:Sc} {g:Tm->Nat×Nat->Bool} {w w':Xw} {T:World->Nat->Prop}
attribute [local go_sem ↓] Go.wp_at_zero Go.wp_at_succ
structure FT (T:World->Nat->Prop) (w w':Xw):Prop where
 fr:Fr (T w) w w'
 tk:∀k,T w' k->T w k∨w.heap.size<=k
theorem FT.trans {a b c:Xw}(h1:FT T a b)(h2:FT T b c):FT T a c:=by
 refine⟨⟨h2.fr.os.trans h1.fr.os,h2.fr.tape.trans h1.fr.tape,h2.fr.output.trans h1.fr.output,zMO h1.fr.size h2.fr.size,λk hk hn=>?_⟩,λk hk=>?_⟩
 . refine (h2.fr.block k (zM9 hk h1.fr.size) (λe=>?_)).trans (h1.fr.block k hk hn);rcases h1.tk k e with e|e
   . exact hn e
   omega
 rcases h2.tk k hk with e|e
 . exact h1.tk k e
 exact zM4 (zMO h1.fr.size e)
theorem FT.below (h:xB w w')(ht:∀k,T w' k->T w k):FT T w w':=⟨Fr.of_below h,λk e=>zM3 (ht k e)⟩
theorem FT.const {T:Xj}(h:Fr T w w'):FT (λ_=>T) w w':=⟨h,λ_ e=>zM3 e⟩
theorem FT.cell {w:Xw}{b i:Nat}{v:Xv}(h:FT T w w')(hc:w.cell? (xD b i)=some v)(hb:¬T w b):w'.cell? (xD b i)=some v:=by
 have hlt:b<w.heap.size:=by
  rcases Nat.lt_or_ge b w.heap.size with h|h
  . exact h
  simp[World.cell?,Array.getElem?_eq_none h] at hc
 exact (zWS (w:=w) (h.fr.block b hlt hb)).trans hc
theorem FT.old (h:FT T w w')(hN:N<=w.heap.size)(hT:∀k,T w k->N<=k):Old N w w':=h.fr.old hN hT
mutual
def zcs {σ:Type}(c:Sc)(g:Tm->Nat×Nat->Bool)(sE sL:σ->Tm->Nat×Nat->σ):Tm->Nat×Nat->σ->σ
 | .mk x a s nm n ts,k,st=>sL (if g (.mk x a s nm n ts) k=true then zcu c g sE sL (.mk x a s nm n ts) k ts 0 (sE st (.mk x a s nm n ts) k) else sE st (.mk x a s nm n ts) k) (.mk x a s nm n ts) k
def zcu {σ:Type}(c:Sc)(g:Tm->Nat×Nat->Bool)(sE sL:σ->Tm->Nat×Nat->σ)(t:Tm)(k:Nat×Nat):List Tm->Nat->σ->σ
 | [],_,st=>st
 | u::l,i,st=>zcu c g sE sL t k l (i+1) (zcs c g sE sL u (c.operand t i k) st)
end
def ckW (k:Nat×Nat):Value:=.agg #[xI (k.1:Nat),xI (k.2:Nat)]
structure znz {σ:Type} (N:Nat) (c:Sc) (ev nv:Xv) (cb:Nat) (T:World->Nat->Prop) (FE:FuncId) (cE:Xa) (FL:FuncId) (cL:Xa) (Pt:Tm->Nat×Nat->Prop) (g:Tm->Nat×Nat->Bool) (sE sL:σ->Tm->Nat×Nat->σ) (I:σ->World->Prop) (Bd:σ->Prop):Prop where
 entE:zH FE
 entL:zH FL
 hT:∀s w k,I s w->T w k->N<=k/\k<w.heap.size/\¬k=cb
 keep:∀s w w',I s w->xB w w'->I s w'/\∀k,T w' k->T w k
 sub:∀t k i u,Pt t k->g t k=true->t.ts[i]?=some u->Pt u (c.operand t i k)
 bE:∀s t k,Bd (sE s t k)->Bd s
 bL:∀s t k,Bd (sL s t k)->Bd s
 callE:∀t v k s w,TT w N t v->N<=w.heap.size->ScV w N c ev nv->za7 w c cb->I s w->Pt t k->Bd (sE s t k)->xK FE (#[v,ckW k]++cE) w (λe w'=>e=.returned (.bool (g t k))/\I (sE s t k) w'/\FT T w w')
 callL:∀t v k s w,TT w N t v->N<=w.heap.size->ScV w N c ev nv->za7 w c cb->I s w->Pt t k->Bd (sL s t k)->xK FL (#[v,ckW k]++cL) w (λe w'=>e=.returned (.tuple #[])/\I (sL s t k) w'/\FT T w w')
theorem zi6 {σ:Type}{sE sL:σ->Tm->Nat×Nat->σ}{Bd:σ->Prop}(bE:∀s t k,Bd (sE s t k)->Bd s)(bL:∀s t k,Bd (sL s t k)->Bd s):∀(t:Tm) (k:Nat×Nat) (s:σ),Bd (zcs c g sE sL t k s)->Bd s:=by
 intro t;induction t using Tm.ind with
 | h x a s nm n ts ih =>
   intro k st h;have hl:∀(l:List Tm),(∀u∈l,u∈ts)->∀(i:Nat) (st:σ),Bd (zcu c g sE sL (.mk x a s nm n ts) k l i st)->Bd st:=by
    intro l;induction l with
    | nil=>intro _ i st h;exact h
    | cons u l ihl => intro hm i st h;rw[zcu] at h;exact ih u (hm u (zMS ..)) _ _ (ihl (λu hu=>hm u (zMX _ hu)) _ _ h)
   rw[zcs] at h;have h2:=bL _ _ _ h;split at h2
   . exact bE _ _ _ (hl ts (λ_ h=>h) _ _ h2)
   exact bE _ _ _ h2
theorem zkC {σ:Type}{sE sL:σ->Tm->Nat×Nat->σ}{Bd:σ->Prop}(bE:∀s t k,Bd (sE s t k)->Bd s)(bL:∀s t k,Bd (sL s t k)->Bd s)(t:Tm)(k:Nat×Nat):∀(l:List Tm) (i:Nat) (s:σ),Bd (zcu c g sE sL t k l i s)->Bd s:=by
 intro l;induction l with
 | nil=>intro i s h;exact h
 | cons u l ih => intro i s h;rw[zcu] at h;exact zi6 bE bL u _ s (ih _ _ h)
theorem zjG {σ:Type}{ev nv:Xv}{cb:Nat}{FE:FuncId}{cE:Xa}{FL:FuncId}{cL:Xa}{Pt:Tm->Nat×Nat->Prop}{sE sL:σ->Tm->Nat×Nat->σ}{I:σ->World->Prop}{Bd:σ->Prop}(HV:znz N c ev nv cb T FE cE FL cL Pt g sE sL I Bd) :
 ∀(t:Tm) (k:Nat×Nat) (v:Xv) (s:σ) (w:Xw),TT w N t v->N<=w.heap.size->ScV w N c ev nv->za7 w c cb->I s w->Pt t k->Bd (zcs c g sE sL t k s) ->
  xK 103 #[.map (some cb),.agg #[ev,nv],v,ckW k,.func (.func FE) #[] cE,.func (.func FL) #[] cL] w (λHEn w'=>HEn=.returned (.tuple #[])/\I (zcs c g sE sL t k s) w'/\FT T w w'):=by
 intro t;induction t using Tm.ind with
 | h kk a nm n p ts Hih =>
   intro k v s w h hN hS hC hI HP HBd;obtain⟨xe,cpe,nb,rfl,rfl,hnb⟩:=hS.shape;obtain⟨b,args,vs,rfl,hb,hblk,hown,hlen,Hsub,hgs⟩:=h.ptr;have hcE:∀(args:Xa) (w:Xw),(callFunc FE args).run prog w=.ok (.enter FE args) w:=HV.entE;have hcL:∀(args:Xa) (w:Xw),(callFunc FL args).run prog w=.ok (.enter FL args) w:=HV.entL;have HT:=za h;have HS:=za hS;have HC:=za hC;have HI:=za hI;have Hown:=za hown;have Hblk:=za hblk;have Hgs:=za hgs;obtain⟨x,cp,rfl⟩:=zB hown;have hlen':vs.length=ts.length:=hlen;rw[hlen'] at Hown Hblk Hgs;have hTt:=za (λk=>HV.hT s w k hI);unfold ckW;go_enter func103,ntmps103;go_upto_region 1 with fail;refine zn (λW=>(TT W N (.mk kk a nm n p ts) (xP b)/\N<=W.heap.size/\ScV W N c (xE xe c cpe) (xP nb)/\za7 W c cb/\I s W)/\FT T w W/\xH W w.heap.size #[xE xe c cpe,xP nb] 79/\xH W (w.heap.size+1) #[xI (k.1:Nat),xI (k.2:Nat)] 161/\¬T W w.heap.size/\¬T W (w.heap.size+1)) ⟨⟨HT.o.old (zfr hN _ _),by rw[zsb,zsb];omega,HS.o.old (zfr hN _ _),HC.o.keep (zaD w _ _),(HV.keep _ _ _ HI.o (zaD w _ _)).1⟩,FT.below (zaD w _ _) (HV.keep _ _ _ HI.o (zaD w _ _)).2,(zd8 w _ _).1,(zd8 w _ _).2,λHEn=>by have:=(hTt.out _ ((HV.keep s w _ HI.o (zaD w _ _)).2 _ HEn)).2.1;omega,λHEn=>by have:=(hTt.out _ ((HV.keep s w _ HI.o (zaD w _ _)).2 _ HEn)).2.1;omega⟩ ?_;rintro W ⟨⟨hTW,hNW,hSW,hCW,hIW⟩,HFW,hX,hY,n0,n1⟩;have hbE:Bd (sE s (.mk kk a nm n p ts) k):=by
    have hb:=HBd;rw[zcs] at hb;have hb2:=HV.bL _ _ _ hb;split at hb2
    . exact zkC HV.bE HV.bL _ _ _ _ _ hb2
    exact hb2
   have HCE:=za (HV.callE _ _ k s W hTW hNW hSW hCW hIW HP hbE);have HST:∀s1 w1,I s1 w1->FT T W w1->(TT w1 N (.mk kk a nm n p ts) (xP b)/\N<=w1.heap.size/\ScV w1 N c (xE xe c cpe) (xP nb)/\za7 w1 c cb)/\Old N W w1/\w1.heap[w.heap.size]?=some (.cells #[xE xe c cpe,xP nb] 79 (0,0))/\w1.heap[w.heap.size+1]?=some (.cells #[xI (k.1:Nat),xI (k.2:Nat)] 161 (0,0))/\¬T w1 w.heap.size/\¬T w1 (w.heap.size+1):=by
    intro s1 w1 hI1 hF1;have hO:Old N W w1:=hF1.old hNW (λk HEn=>(HV.hT s W k hIW HEn).1);refine⟨⟨hTW.old hO,zMO hNW hF1.fr.size,hSW.old hO,hCW.of' (hF1.fr.block cb hCW.lt (λHEn=>(HV.hT s W cb hIW HEn).2.2 rfl))⟩,hO,(hF1.fr.block _ (ze hX) n0).trans hX,(hF1.fr.block _ (ze hY) n1).trans hY,λHEn=>(hF1.tk _ HEn).elim n0 (λh=>?_),λHEn=>(hF1.tk _ HEn).elim n1 (λh=>?_)⟩
    . have:=ze hX;omega
    have:=ze hY;omega
   obtain⟨x0,x1,xf,xz⟩:=zp hX;obtain⟨y0,y1,yf,yz⟩:=zp hY;have hbz:b<W.heap.size:=(by omega);have HnW:Hid (xH W b #[xI kk,xI a,.string nm,xI n,xI p,.slice x ts.length cp] 198):=(HFW.fr.block b (by omega) (λHEn=>by have:=(hTt.out b HEn).1;omega)).trans Hblk.o;have HoW:Hid (Old N w W):=HFW.old hN (λk HEn=>(hTt.out k HEn).1);unfold ckW at HCE;cases HG:g (.mk kk a nm n p ts) k with
   | false =>
     rw[HG] at HCE;have HEn:zcs c g sE sL (.mk kk a nm n p ts) k s=sL (sE s (.mk kk a nm n p ts) k) (.mk kk a nm n p ts) k:=(by unfold zcs;rw[HG];rfl);go_wp2_with fail;with_reducible refine HCE.o.mono ?_
     rintro HEn w1 ⟨rfl,hI1,hF1⟩;obtain⟨⟨hT1,hN1,hS1,hC1⟩,hO1,hX1,hY1,m0,m1⟩:=HST _ w1 hI1 hF1;have HCL:=za (HV.callL _ _ k _ w1 hT1 hN1 hS1 hC1 hI1 HP (by have hb:=HBd;rw[HEn] at hb;exact hb));unfold ckW at HCL;obtain⟨p0,p1,pf,pz⟩:=zp hX1;obtain⟨q0,q1,qf,qz⟩:=zp hY1;have HF1:=za hF1;go_wp2_with fail;with_reducible refine HCL.o.mono ?_
     rintro HEn w2 ⟨rfl,HI2,HF2⟩;go_wp2_with fail;go_end0;rw[HEn];exact⟨rfl,HI2,(HFW.trans HF1.o).trans HF2⟩
   | true =>
     rw[HG] at HCE;have HEn:zcs c g sE sL (.mk kk a nm n p ts) k s=sL (zcu c g sE sL (.mk kk a nm n p ts) k ts 0 (sE s (.mk kk a nm n p ts) k)) (.mk kk a nm n p ts) k:=(by rw[zcs,zM2 HG]);go_wp2_with fail;with_reducible refine HCE.o.mono ?_
     rintro HEn w1 ⟨rfl,hI1,hF1⟩;obtain⟨⟨hT1,hN1,hS1,hC1⟩,hO1,hX1,hY1,m0,m1⟩:=HST _ w1 hI1 hF1;obtain⟨r0,r1,r2,r3,r4,r5,rf,rz⟩:=zt ((hO1 b hb).trans HnW.o);have HI1:=za hI1;have HF1:=za hF1;have h16:ts.length<=9223372036854775807:=by
      have:=Hown.o;rcases this.2 with ⟨_,h⟩|⟨g,cap,cur,hv,_,_,h3,h4,_⟩
      . omega
      unfold maxLen at h4;omega
     go_wp2_with fail;go_loopg [23] (ts.length+1) (λj x wr=>∃(i:Nat) (si:σ),i+j=ts.length+1/\i<=ts.length/\x=xI i/\Hid (I si wr)/\Hid (zcu c g sE sL (.mk kk a nm n p ts) k ts 0 (sE s (.mk kk a nm n p ts) k)=zcu c g sE sL (.mk kk a nm n p ts) k (ts.drop i) i si)/\Hid (FT T W wr));case atStart=>exact⟨0,_,by omega,zMN _,rfl,HI1.o,rfl,HF1.o⟩
     case round =>
      obtain⟨i,si,hij,hi,rfl,HIi,HD,HFi⟩:=hrel;obtain⟨⟨HTr,hNr,HSr,HCr⟩,hOr,hXr,hYr,m0,m1⟩:=HST _ wr HIi.o HFi.o;obtain⟨p0,p1,pf,pz⟩:=zp hXr;obtain⟨q0,q1,qf,qz⟩:=zp hYr;by_cases hlt:i<ts.length
      . obtain⟨t,ht⟩:∃t,ts[i]?=some t:=⟨_,zsc hlt⟩;obtain⟨u,hu⟩:∃u,vs[i]?=some u:=⟨_,zsc (by omega)⟩;have hOw:Old N w wr:=HoW.o.trans hOr;have hown':wr.ownsRow 0 156 1 (.slice x ts.length cp) ts.length vs:=zi Hown.o (λj _ _ HEn=>hOw j (Hgs.o j HEn));obtain⟨g',rfl,hcell⟩:=zbE hown' hu;have HTu:=(Hsub i t u ht hu).old hOw;obtain⟨bu,_,_,rfl,_⟩:=HTu.ptr;have HOp:=za (zjV (.mk kk a nm n p ts) (xP b) i k wr.drew (HTr.old (λ_ _=>rfl)) (HSr.old (λ_ _=>rfl)) (HCr.of' rfl) hNr);have Hmem:=za (zML ht);have HPu:=za (HV.sub _ k i t HP HG ht);have HDn:Hid (zcu c g sE sL (.mk kk a nm n p ts) k ts 0 (sE s (.mk kk a nm n p ts) k)=zcu c g sE sL (.mk kk a nm n p ts) k (ts.drop (i+1)) (i+1) (zcs c g sE sL t (c.operand (.mk kk a nm n p ts) i k) si)):=(by obtain⟨h1,h2⟩:=zMJ.1 ht;unfold Hid;rw[HD.o,zMT h1,zcu,h2]);have HBu:Hid (Bd (zcs c g sE sL t (c.operand (.mk kk a nm n p ts) i k) si)):=(by have hb:=HBd;rw[HEn,HDn.o] at hb;exact zkC HV.bE HV.bL _ _ _ _ _ (HV.bL _ _ _ hb));go_upto_region 5 with fail
        go_region_held3 (λw'=>w'.cell? (xD w.heap.size 0)=some (xE xe c cpe)/\w'.cell? (xD w.heap.size 1)=some (xP nb)/\w'.cell? (xD (w.heap.size+1) 0)=some (xI (k.1:Nat))/\w'.cell? (xD (w.heap.size+1) 1)=some (xI (k.2:Nat)))
         (first|(refine⟨?_,?_,?_,?_⟩ <;> repeat (first|with_reducible exact p0|with_reducible exact p1|with_reducible exact q0|with_reducible exact q1|with_reducible refine zg ?_|with_reducible refine HF5.cell ?_ (by assumption)|with_reducible refine zd HB4.o ?_ (by omega)))|go_keep)
         (first
           | (go_at_call 103;refine HW.o.mono ?_;rintro HEn w5 ⟨rfl,HI5,HF5⟩)
           | (go_at_call 142;refine HOp.o.mono ?_;rintro HEn w4 ⟨rfl,hB4⟩;have HB4:=za (zw hB4);have hz4:wr.heap.size<=w4.heap.size:=hB4.size;have HK:=za (HV.keep _ _ _ HIi.o HB4.o);have m0':¬T w4 w.heap.size:=(λHEn=>m0 (HK.o.2 _ HEn));have m1':¬T w4 (w.heap.size+1):=(λHEn=>m1 (HK.o.2 _ HEn));have HW:=za (Hih t Hmem.o (c.operand (.mk kk a nm n p ts) i k) _ si w4 (HTu.old (zm HB4.o hNr)) (by omega) (HSr.old (zm HB4.o hNr)) (HCr.keep HB4.o) HK.o.1 HPu.o HBu.o)))
        go_wp2_with fail;go_roundg (gk-1);case measure=>omega
        exact⟨i+1,_,by omega,by omega,by go_num,HI5,HDn.o,(HFi.o.trans (FT.below HB4.o HK.o.2)).trans HF5⟩
      have ei:i=ts.length:=(by omega);subst ei;rw[List.drop_length,zcu] at HD;have HCL:=za (HV.callL _ _ k _ wr HTr hNr HSr HCr HIi.o HP (by have hb:=HBd;rw[HEn,HD.o] at hb;exact hb));unfold ckW at HCL;go_wp2_with fail;with_reducible refine HCL.o.mono ?_
      rintro HEn w2 ⟨rfl,HI2,HF2⟩;go_wp2_with fail;go_end0;refine⟨rfl,?_,(HFW.trans HFi.o).trans HF2⟩;rw[HEn,HD.o];exact HI2
end
section
variable {K:Cd} {B kb wb:Nat} {bv cv rv:Xv} {w w':Xw}
attribute [local go_sem ↓] Go.wp_at_zero Go.wp_at_succ
theorem Tryz.infoIns:(prog.info? 71).map (λi=>(i.zero,i.size,i.bytes))=some (some (.agg #[.int .u8 0,xI 0]),2,16):=by kernel_rfl
def zgV (w:Xw)(b o k:Nat):Prop:=∃v,w.cell? (xD b o)=some v/\v.ownBlock=some k
def KT (kb:Nat)(w:Xw)(k:Nat):Prop:=k=kb∨zgV w kb 0 k∨zgV w kb 3 k∨zgV w kb 5 k
def Cd.add (K:Cd)(op:Nat)(x:Int):Cd:={ K with row:=K.row++[(op,x)] }
structure KI (B wb kb:Nat) (bv cv rv:Xv) (K:Cd) (w:Xw):Prop where
 wr:w.heap[wb]?=some (.cells #[xP kb] 95 (0,0))
 blk:w.heap[kb]?=some (.cells #[bv,xI K.outs,xI K.slots,cv,xI K.depth,rv] 66 (0,0))
 bown:w.ownsRow B 4 1 bv K.bools.length (K.bools.map .bool)
 cown:w.ownsRow B 2 1 cv K.cells.length (zK K.cells)
 rown:w.ownsRow B 71 2 rv K.row.length (zbs K.row)
 hwb:wb<B
 hkb:kb<B
 dk:¬wb=kb
 d1:∀k,bv.ownBlock=some k->¬cv.ownBlock=some k/\¬rv.ownBlock=some k
 d2:∀k,cv.ownBlock=some k->¬rv.ownBlock=some k
 hB:B<=w.heap.size
def KW (B wb kb:Nat)(K:Cd)(w:Xw):Prop:=∃bv cv rv,KI B wb kb bv cv rv K w
theorem KI.kt (h:KI B wb kb bv cv rv K w)(k:Nat):KT kb w k↔k=kb∨bv.ownBlock=some k∨cv.ownBlock=some k∨rv.ownBlock=some k:=by
 obtain⟨m0,m1,m2,m3,m4,m5,mf,mz⟩:=zt h.blk;unfold KT zgV;rw[m0,m3,m5];constructor
 . rintro (e|⟨v,e1,e2⟩|⟨v,e1,e2⟩|⟨v,e1,e2⟩)
   . exact zM3 e
   . cases e1;exact zM4 (zM3 e2)
   . cases e1;exact zM4 (zM4 (zM3 e2))
   cases e1;exact zM4 (zM4 (zM4 e2))
 rintro (e|e|e|e)
 . exact zM3 e
 . exact zM4 (zM3 ⟨_,rfl,e⟩)
 . exact zM4 (zM4 (zM3 ⟨_,rfl,e⟩))
 exact zM4 (zM4 (zM4 ⟨_,rfl,e⟩))
theorem KI.keep (h:KI B wb kb bv cv rv K w)(hB:xB w w'):KI B wb kb bv cv rv K w' :=
 ⟨(hB.block _ (ze h.wr)).trans h.wr,(hB.block _ (ze h.blk)).trans h.blk,zi h.bown (λk _ hk _=>hB.block k hk),zi h.cown (λk _ hk _=>hB.block k hk),zi h.rown (λk _ hk _=>hB.block k hk),h.hwb,h.hkb,h.dk,h.d1,h.d2,zMO h.hB hB.size⟩
theorem KW.keep (h:KW B wb kb K w)(hB:xB w w'):KW B wb kb K w':=by obtain⟨bv,cv,rv,h⟩:=h;exact⟨bv,cv,rv,h.keep hB⟩
theorem KW.tk (h:KW B wb kb K w)(hB:xB w w'):∀k,KT kb w' k->KT kb w k:=by obtain⟨bv,cv,rv,h⟩:=h;intro k hk;exact (h.kt k).2 (((h.keep hB).kt k).1 hk)
theorem KW.lt (h:KW B wb kb K w):∀k,KT kb w k->k<w.heap.size:=by
 obtain⟨bv,cv,rv,h⟩:=h;intro k hk;rcases (h.kt k).1 hk with e|e|e|e
 . subst e;exact ze h.blk
 . exact (h.bown.lt _ e).2
 . exact (h.cown.lt _ e).2
 exact (h.rown.lt _ e).2
theorem KW.ge (h:KW B wb kb K w):∀k,KT kb w k->k=kb∨B<=k:=by
 obtain⟨bv,cv,rv,h⟩:=h;intro k hk;rcases (h.kt k).1 hk with e|e|e|e
 . exact zM3 e
 . exact zM4 (h.bown.lt _ e).1
 . exact zM4 (h.cown.lt _ e).1
 exact zM4 (h.rown.lt _ e).1
theorem KW.ft (h:KW B wb kb K w)(hB:xB w w'):FT (KT kb) w w':=FT.below hB (h.tk hB)
theorem zrh {a b:Int}:∀u∈[Value.int .u8 a,xI b],u.oneCell'=true:=by simp[Value.oneCell']
theorem zcB {n:Nat}{e:Xy}{sz:Nat}{vs:Xv}{xs:Xm}(h:w.ownsRow B e sz vs n xs):∃x cp,vs=.slice x n cp:=by
 rcases h.2 with ⟨h1,h2⟩|⟨g,cap,cur,h1,_⟩
 . exact⟨none,0,by rw[h1,h2]⟩
 exact⟨_,cap,h1⟩
theorem zmJ (l:List (Nat×Int))(op:Nat)(x:Int):zbs (l++[(op,x)])=zbs l++[.int .u8 (op:Int),xI x]:=by unfold zbs;rw[List.flatMap_append];rfl
theorem KI.added {v':Xv}{op:Nat}{x:Int}{w9:Xw}{X:Obj}(h:KI B wb kb bv cv rv K w)(hF:Fr (λk=>rv.ownBlock=some k) (w.alloc X) w9)
 (hown:w9.ownsRow B 71 2 v' (K.row.length+1) (zbs K.row++[.int .u8 (op:Int),xI x])) (hnew:∀k,v'.ownBlock=some k->rv.ownBlock=some k∨w.heap.size+1<=k) :
 KW B wb kb (K.add op x) (w9.setCell (xD kb 5) v')/\FT (KT kb) w (w9.setCell (xD kb 5) v'):=by
 have hz:=h.hB;have hwb:=h.hwb;have hkb:=h.hkb;have hs:(w.alloc X).heap.size=w.heap.size+1:=by simp
 have hz9:=hF.size;have hb:∀k,k<w.heap.size->¬rv.ownBlock=some k->w9.heap[k]?=w.heap[k]?:=λk hk hn=>(hF.block k (by omega) hn).trans (zWP _ _ _ hk);have hb':∀k,k<w.heap.size->¬k=kb->¬rv.ownBlock=some k->(w9.setCell (xD kb 5) v').heap[k]?=w.heap[k]?:=λk hk h1 h2=>zr h1 (hb k hk h2);have hnr:∀k,k<B->¬rv.ownBlock=some k:=λk hk e=>by have:=(h.rown.lt _ e).1;omega
 have hI:KI B wb kb bv cv v' (K.add op x) (w9.setCell (xD kb 5) v'):=by
  refine⟨(hb' wb (by omega) h.dk (hnr wb hwb)).trans h.wr,?_,zi h.bown (λk h1 h2 e=>hb' k h2 (by omega) (h.d1 k e).2),zi h.cown (λk h1 h2 e=>hb' k h2 (by omega) (h.d2 k e)),?_,hwb,hkb,h.dk,λk e=>⟨(h.d1 k e).1,λe'=>?_⟩,λk e e'=>?_,?_⟩
  . exact zh _ _ _ _ ((hb kb (by omega) (hnr kb hkb)).trans h.blk)
  . have:=zi hown (w':=w9.setCell (xD kb 5) v') (λk h1 h2 _=>zr (by omega) rfl);rw[<- zmJ] at this
    show World.ownsRow _ B 71 2 v' (K.row++[(op,x)]).length _;rw[zMM];exact this
  . rcases hnew k e' with e2|e2
    . exact (h.d1 k e).2 e2
    have:=(h.bown.lt _ e).2;omega
  . rcases hnew k e' with e2|e2
    . exact h.d2 k e e2
    have:=(h.cown.lt _ e).2;omega
  have:(w9.setCell (xD kb 5) v').heap.size=w9.heap.size:=by simp
  omega
 refine⟨⟨bv,cv,v',hI⟩,⟨hF.os,hF.tape,hF.output,?_,λk hk hn=>?_⟩,λk hk=>?_⟩
 . have:(w9.setCell (xD kb 5) v').heap.size=w9.heap.size:=by simp
   omega
 . exact hb' k hk (λe=>hn ((h.kt k).2 (zM3 e))) (λe=>hn ((h.kt k).2 (zM4 (zM4 (zM4 e)))))
 rcases (hI.kt k).1 hk with e|e|e|e
 . exact zM3 ((h.kt k).2 (zM3 e))
 . exact zM3 ((h.kt k).2 (zM4 (zM3 e)))
 . exact zM3 ((h.kt k).2 (zM4 (zM4 (zM3 e))))
 rcases hnew k e with e2|e2
 . exact zM3 ((h.kt k).2 (zM4 (zM4 (zM4 e2))))
 exact zM4 (by omega)
theorem zc7 (B wb kb:Nat)(K:Cd)(op:Nat)(x:Int)(w:Xw)(h:KW B wb kb K w)(hr:K.row.length<=1000000) :
 xK 29 #[xP wb,.int .u8 (op:Int),xI x] w (λe w'=>e=.returned (.tuple #[])/\KW B wb kb (K.add op x) w'/\FT (KT kb) w w'):=by
 obtain⟨bv,cv,rv,HI⟩:=h;obtain⟨xr,cpr,rfl⟩:=zcB HI.rown;obtain⟨a0,af,az⟩:=zu HI.wr;obtain⟨m0,m1,m2,m3,m4,m5,mf,mz⟩:=zt HI.blk;obtain⟨i0,hi,hi0,hi1,hi2⟩:=info_parts Tryz.infoIns;have mx:K.row.length+1<=maxLen:=by unfold maxLen;omega
 have by':(K.row.length+1)*16<=140737488355328:=by omega
 have hwb:=HI.hwb;have hkb:=HI.hkb;have hBz:=HI.hB;have hdk:=HI.dk;clear m0 m1 m2 m3 m4 hr;go_enter func29,ntmps29
 go_region_law (
  refine zJ _ rfl (.tmp 16) (.tmp 20) 64 rfl B 71 i0 _ 2 16 underlying64 hi hi0 hi1 hi2 rfl (by decide) (.slice xr K.row.length cpr) K.row.length (zbs K.row) rfl (zD (HI.rown) _) (xD w.heap.size 0) 1 1 [.int .u8 (op:Int),xI x] rfl rfl (zN (zc w _) rfl) zrh mx by' (by simp;omega) ?_;intro v' w9 Hown9 hgrow Hnew9;obtain⟨g9,cap9,rfl,hg9⟩:=zM Hown9 (by omega);have HF9:=(Fr.of_grown hgrow).undrew;have Hk9:=(HF9.block kb (by simp;omega) (λh=>by have:=(HI.rown.lt _ h).1;omega)).trans ((zWP _ _ _ (by omega)).trans HI.blk);have Hw9:=(HF9.block wb (by simp;omega) (λh=>by have:=(HI.rown.lt _ h).1;omega)).trans ((zWP _ _ _ (by omega)).trans HI.wr);obtain⟨b0,bf,bz⟩:=zu Hw9;obtain⟨q0,q1,q2,q3,q4,q5,qf,qz⟩:=zt Hk9;clear hgrow)
 all_goals go_wp2_with fail
 all_goals go_end0
 all_goals exact⟨rfl,HI.added HF9 Hown9 (λk e=>(Hnew9 k e).imp id (λh=>by have h':(w.alloc (.cells #[.int .u8 (op:Int),xI x] 71)).heap.size<=k:=h;rw[zsb] at h';exact h'))⟩
end
section
variable {K:Cd} {B N base cb qb wb:Nat} {c:Sc} {ev lv nv:Xv} {w w':Xw}
attribute [local go_sem ↓] Go.wp_at_zero Go.wp_at_succ
def Cd.adds (K:Cd)(l:List (Nat×Int)):Cd:={ K with row:=K.row++l }
theorem Cd.adds_nil (K:Cd):K.adds []=K:=by unfold Cd.adds;rw[List.append_nil]
theorem Cd.adds_len (K:Cd)(l:List (Nat×Int)):(K.adds l).row.length=K.row.length+l.length:=by unfold Cd.adds;simp
structure CqI (N qb cb base:Nat) (c:Sc) (ev nv lv:Xv) (w:Xw):Prop where
 blk:w.heap[qb]?=some (.cells #[ev,nv,.map (some cb),xI (base:Int),lv] 93 (0,0))
 sc:ScV w N c ev nv
 ck:za7 w c cb
 hN:N<=w.heap.size
structure WI (N B wb kb qb cb base:Nat) (c:Sc) (ev nv lv:Xv) (K:Cd) (w:Xw):Prop where
 kw:KW B wb kb K w
 qi:CqI N qb cb base c ev nv lv w
 nq:¬KT kb w qb
 nc:¬KT kb w cb
 hNk:N<=kb
theorem CqI.keep (h:CqI N qb cb base c ev nv lv w)(hB:xB w w'):CqI N qb cb base c ev nv lv w' :=
 ⟨(hB.block _ (ze h.blk)).trans h.blk,h.sc.old (zm hB h.hN),h.ck.keep hB,zMO h.hN hB.size⟩
theorem KW.kb {kb:Nat}(h:KW B wb kb K w):kb<B:=by obtain⟨bv,cv,rv,h⟩:=h;exact h.hkb
theorem WI.ktN {kb:Nat}(h:WI N B wb kb qb cb base c ev nv lv K w):∀k,KT kb w k->N<=k:=by intro k hk;have h1:=h.hNk;have h2:=h.kw.kb;rcases h.kw.ge k hk with e|e <;> omega
theorem WI.keep {kb:Nat}(h:WI N B wb kb qb cb base c ev nv lv K w)(hB:xB w w'):WI N B wb kb qb cb base c ev nv lv K w' :=
 ⟨h.kw.keep hB,h.qi.keep hB,λe=>h.nq (h.kw.tk hB _ e),λe=>h.nc (h.kw.tk hB _ e),h.hNk⟩
theorem FT.not {T:World->Nat->Prop}(h:FT T w w'){z:Nat}(hz:z<w.heap.size)(hn:¬T w z):¬T w' z:=λe=>(h.tk z e).elim hn (λe=>by omega)
theorem WI.ft {kb:Nat}{K':Cd}(h:WI N B wb kb qb cb base c ev nv lv K w)(hk:KW B wb kb K' w')(hf:FT (KT kb) w w'):WI N B wb kb qb cb base c ev nv lv K' w':=by have hO:Old N w w':=hf.old h.qi.hN h.ktN;exact⟨hk,⟨(hf.fr.block _ (ze h.qi.blk) h.nq).trans h.qi.blk,h.qi.sc.old hO,h.qi.ck.of' (hf.fr.block _ h.qi.ck.lt h.nc),zMO h.qi.hN hf.fr.size⟩,hf.not (ze h.qi.blk) h.nq,hf.not h.qi.ck.lt h.nc,h.hNk⟩
theorem zeI (i:Nat)(w:Xw)(h:CqI N qb cb base c ev nv lv w)(hb:base<=1000000)(hi:i<=1000000) :
 xK 115 #[xP qb,xI (i:Int)] w (λe w'=>e=.returned (xI ((base+i:Nat):Int))/\w=w'):=by
 obtain⟨m0,m1,m2,m3,m4,mf,mz⟩:=zcf h.blk;go_enter func115,ntmps115;go_wp2_with fail;go_ret;exact⟨by simp,rfl⟩
theorem zhw (w:Xw)(h:CqI N qb cb base c ev nv lv w)(hb:base<=1000000) :
 xK 61 #[xP qb] w (λe w'=>e=.returned (xI ((base+c.nd.vars.length:Nat):Int))/\w=w'):=by
 obtain⟨nb,vs,qv,xs,rfl,hnt⟩:=h.sc.nd;obtain⟨xv,cpv,rfl⟩:=zB hnt.vown;obtain⟨n0,n1,n2,n3,n4,n5,nf,nz⟩:=zt hnt.blk;obtain⟨m0,m1,m2,m3,m4,mf,mz⟩:=zcf h.blk;have hfew:=hnt.few;have HS:=za (zeI c.nd.vars.length w h hb (by omega));go_enter func61,ntmps61;go_wp2_with (go_at_call 115;refine HS.o.mono ?_;rintro e w1 ⟨rfl,rfl⟩);go_ret;exact⟨rfl,rfl⟩
theorem zps (w:Xw)(h:CqI N qb cb base c ev nv lv w)(hb:base<=1000000) :
 xK 60 #[xP qb] w (λe w'=>e=.returned (xI ((base+c.nd.vars.length+1:Nat):Int))/\∃n,w'=w.drewN n):=by
 obtain⟨nb,vs,qv,xs,rfl,hnt⟩:=h.sc.nd;obtain⟨xv,cpv,rfl⟩:=zB hnt.vown;obtain⟨n0,n1,n2,n3,n4,n5,nf,nz⟩:=zt hnt.blk;obtain⟨m0,m1,m2,m3,m4,mf,mz⟩:=zcf h.blk;have hfew:=hnt.few;have hw1:wrap64 ((base:Int)+(c.nd.vars.length:Int))=(base:Int)+(c.nd.vars.length:Int):=by unfold wrap64;omega
 have hw2:wrap64 ((base:Int)+(c.nd.vars.length:Int)+1)=(base:Int)+(c.nd.vars.length:Int)+1:=by unfold wrap64;omega
 go_enter func60,ntmps60;go_upto_region 1 with fail;go_quiet (fail);go_wp2_with fail;go_ret;exact⟨by simp,_,rfl⟩
theorem zfz (s:Xb)(a:Int)(w:Xw)(HQ:CqI N qb cb base c ev nv lv w)(hb:base<=1000000)(hi:c.idx s<=1000000) :
 xK 67 #[xP qb,.agg #[.string s,xI a]] w (λe w'=>e=.returned (xI ((base+c.idx s:Nat):Int))/\xB w w'):=by
 obtain⟨xe,cpe,nb,rfl,rfl,hnb⟩:=HQ.sc.shape;go_enter func67,ntmps67;go_upto_region 1 with fail;refine zn (λW=>CqI N qb cb base c (xE xe c cpe) (xP nb) lv W/\xB w W/\xH W w.heap.size #[.string s,xI a] 84) ⟨HQ.keep (zq w _),zq w _,zc w _⟩ ?_;rintro W ⟨HQW,HB,hX⟩;obtain⟨m0,m1,m2,m3,m4,mf,mz⟩:=zcf HQW.blk;obtain⟨s0,s1,sf,sz⟩:=zp hX;have HIx:=za (zaz s a W.drew (HQW.sc.old (λ_ _=>rfl)) HQW.hN)
 go_region_held3 (λw'=>w'.cell? (xD qb 0)=some (xE xe c cpe)/\w'.cell? (xD qb 1)=some (xP nb)/\w'.cell? (xD w.heap.size 0)=some (.string s)/\w'.cell? (xD w.heap.size 1)=some (xI a))
  (first|(with_reducible (refine⟨?_,?_,?_,?_⟩ <;> repeat (first|assumption|refine zg ?_|refine zj _ ?_|refine zk (by omega) ?_|refine zd HB1.o ?_ (by first|omega|(rw[zsb];omega)))))|go_keep)
  (first
    | (go_at_call 115;refine HS.o.mono ?_;rintro e w2 ⟨rfl,rfl⟩)
    | (go_at_call 65;refine HIx.o.mono ?_;rintro e w1 ⟨rfl,hB1⟩;have HB1:=za (zw hB1);have HS:=za (zeI (c.idx s) w1 (HQW.keep HB1.o) hb hi)))
 go_wp2_with fail;go_ret;exact⟨rfl,HB.trans (HB1.o.mono HB.size)⟩
mutual
def zav:Tm->Int
 | .mk k _ _ _ n ts=>if k=0 then (n:Int) else if k=10 then wrap64 (-(zhD ts)) else if k=1 then 1 else 0
def zhD:List Tm->Int
 | []=>0
 | t::_=>zav t
end
theorem zdp:∀(t:Tm),Wf t->∀(v:Xv) (w:Xw),TT w N t v ->
 xK 148 #[v] w (λe w'=>e=.returned (xI (zav t))/\w=w'):=by
 intro t;induction t using Tm.ind with
 | h kk a nm n p ts ih =>
   intro hW v w h;obtain⟨b,args,vs,rfl,hb,hblk,hown,hlen,hsub,hgs⟩:=h.ptr;obtain⟨m0,m1,m2,m3,m4,m5,mf,mz⟩:=zt hblk;by_cases h0:kk=0
   . have HE:Hid (zav (.mk kk a nm n p ts)=(p:Int)):=(by unfold Hid zav;rw[zM2 h0]);have m0':w.cell? (xD b 0)=some (xI 0):=(by rw[m0];show some (xI ((kk:Nat):Int))=_;rw[h0];rfl);have m4':xC w b 4 (xI (p:Int)):=m4;clear h hblk hown hlen hsub hgs ih hW h0 m0 m1 m2 m3 m4 m5;go_enter func148,ntmps148;go_wp2_with fail;go_ret;rw[HE.o];exact⟨rfl,rfl⟩
   by_cases h10:kk=10
   . subst h10;have har:=hW.ar;obtain⟨u,us,hu⟩:∃u us,ts=u::us:=by
      cases ts with
      | nil=>simp[Tm.k,Tm.ts,arB] at har
      | cons u us=>exact⟨u,us,rfl⟩
     subst hu;obtain⟨x,cp,rfl⟩:=zB hown;obtain⟨y,hy⟩:∃y,vs[0]?=some y:=⟨_,zsc (by rw[hlen];simp[Tm.ts])⟩;obtain⟨g',rfl,hcell⟩:=zbE hown hy;have hTu:=hsub 0 u y rfl hy;obtain⟨bu,_,_,rfl,_⟩:=hTu.ptr;have HC:=za (ih u (zMS ..) (hW.sub (zMS ..)) _ w hTu);have HE:Hid (zav (.mk 10 a nm n p (u::us))=wrap64 (-(zav u))):=(by unfold Hid;rw[zav,zM1 (by omega),zM2 rfl,zhD]);have m0':xC w b 0 (xI 10):=m0;have hvl:(0:Int)<(vs.length:Int):=(by rw[hlen];simp[Tm.ts]);clear h hblk hown hlen hsub hgs ih hW h0 m0 m1 m2 m3 m4 hTu hy har;go_enter func148,ntmps148;go_wp2_with (go_at_call 148;refine HC.o.mono ?_;rintro e w1 ⟨rfl,rfl⟩);go_ret;rw[HE.o];exact⟨rfl,rfl⟩
   by_cases h1:kk=1
   . have HE:Hid (zav (.mk kk a nm n p ts)=1):=(by unfold Hid zav;rw[zM1 h0,zM1 h10,zM2 h1]);have m0':w.cell? (xD b 0)=some (xI 1):=(by rw[m0];show some (xI ((kk:Nat):Int))=_;rw[h1];rfl);clear h hblk hown hlen hsub hgs ih hW h0 h1 h10 m0 m1 m2 m3 m4 m5;go_enter func148,ntmps148;go_wp2_with fail;go_ret;rw[HE.o];exact⟨rfl,rfl⟩
   have HE:Hid (zav (.mk kk a nm n p ts)=0):=(by unfold Hid zav;rw[zM1 h0,zM1 h10,zM1 h1]);have m0':xC w b 0 (xI (kk:Int)):=m0;have g0:¬(kk:Int)=0:=(by omega);have g1:¬(kk:Int)=1:=(by omega);have g10:¬(kk:Int)=10:=(by omega);clear h hblk hown hlen hsub hgs ih hW h0 h1 h10 m0 m1 m2 m3 m4 m5;go_enter func148,ntmps148;go_wp2_with fail;go_ret;rw[HE.o];exact⟨rfl,rfl⟩
end
section
variable {K:Cd} {B N base cb kb qb wb z:Nat} {o:Obj} {c:Sc} {ev lv nv:Xv} {W w:Xw}
attribute [local go_sem ↓] Go.wp_at_zero Go.wp_at_succ
def whM (c:Sc)(base:Nat):Nat->Nat×Nat->List (Nat×Int)
 | 0,_=>[(1,((base+c.nd.vars.length:Nat):Int))]
 | f+1,k=>if k.2=0 then [(1,((base+c.nd.vars.length:Nat):Int))] else whM c base f (c.up k)++(1,((base+k.1:Nat):Int))::((if k.2=2 then [(8,0)] else [])++[(9,0)])
def zfT (c:Sc):Nat->Nat×Nat->Prop
 | 0,k=>k.2=0
 | f+1,k=>k.2=0∨(k.1<=1000000/\zfT c f (c.up k))
theorem znn (c:Sc)(base f:Nat)(k:Nat×Nat)(h:k.2=0):whM c base f k=[(1,((base+c.nd.vars.length:Nat):Int))]:=by
 cases f with
 | zero=>rfl
 | succ f=>unfold whM;rw[zM2 h]
structure WX (N B wb kb qb cb base:Nat) (c:Sc) (ev nv lv:Xv) (w:Xw) (z:Nat) (o:Obj) (K:Cd) (W:Xw):Prop where
 wi:WI N B wb kb qb cb base c ev nv lv K W
 ft:FT (KT kb) w W
 bx:W.heap[z]?=some o
 nz:¬KT kb W z
theorem WX.step {K':Cd}{W':Xw}(h:WX N B wb kb qb cb base c ev nv lv w z o K W)(hk:KW B wb kb K' W')(hf:FT (KT kb) W W'):WX N B wb kb qb cb base c ev nv lv w z o K' W' :=
 ⟨h.wi.ft hk hf,h.ft.trans hf,(hf.fr.block _ (ze h.bx) h.nz).trans h.bx,hf.not (ze h.bx) h.nz⟩
theorem WX.add (h:WX N B wb kb qb cb base c ev nv lv w z o K W)(op:Nat)(x:Int)(hr:K.row.length<=1000000) :
 xK 29 #[xP wb,.int .u8 (op:Int),xI x] W (λe w'=>e=.returned (.tuple #[])/\WX N B wb kb qb cb base c ev nv lv w z o (K.add op x) w'):=by
 refine (zc7 B wb kb K op x W h.wi.kw hr).mono ?_;rintro e w' ⟨h1,h2,h3⟩;exact⟨h1,h.step h2 h3⟩
theorem WX.new (h:WI N B wb kb qb cb base c ev nv lv K w)(o:Obj):WX N B wb kb qb cb base c ev nv lv w w.heap.size o K (w.alloc o) :=
 ⟨h.keep (zq w o),h.kw.ft (zq w o),zc w o,λe=>by have:=h.kw.lt _ (h.kw.tk (zq w o) _ e);omega⟩
theorem zgx (hb:base<=1000000) :
 ∀(f:Nat) (k:Nat×Nat) (K:Cd) (w:Xw),zfT c f k->WI N B wb kb qb cb base c ev nv lv K w->K.row.length+(whM c base f k).length<=1000000 ->
  xK 68 #[xP wb,xP qb,ckW k] w (λe w'=>e=.returned (.tuple #[])/\KW B wb kb (K.adds (whM c base f k)) w'/\FT (KT kb) w w'):=by
 have zero:∀(f:Nat) (k:Nat×Nat) (K:Cd) (w:Xw),k.2=0->WI N B wb kb qb cb base c ev nv lv K w->K.row.length+(whM c base f k).length<=1000000 ->
  xK 68 #[xP wb,xP qb,ckW k] w (λe w'=>e=.returned (.tuple #[])/\KW B wb kb (K.adds (whM c base f k)) w'/\FT (KT kb) w w'):=by
  intro f k K w hk hW hr;rw[znn c base f k hk] at hr ⊢;have HW0:=za (WX.new hW (.cells #[xI (k.1:Nat),xI (k.2:Nat)] 161));have Hk:=za hk;obtain⟨Kf,hKf⟩:∃Kf,K.adds [(1,((base+c.nd.vars.length:Nat):Int))]=Kf:=⟨_,rfl⟩;rw[hKf];have HKf:=za hKf;clear hW hk hKf;unfold ckW;go_enter func68,ntmps68;go_upto_region 1 with fail;refine zn (λW=>WX N B wb kb qb cb base c ev nv lv w w.heap.size (.cells #[xI (k.1:Nat),xI (k.2:Nat)] 161) K W) HW0.o ?_;intro W hX;obtain⟨b0,b1,bf,bz⟩:=zp hX.bx;have HX:=za hX;have hk':(k.2:Int)=0:=by have:=Hk.o;omega
  clear hX HW0
  go_wp2_with (first
   | (go_at_call 29;refine (HX.o.add 1 ((base+c.nd.vars.length:Nat):Int) (by simp at hr;omega)).mono ?_;rintro e w2 ⟨rfl,hX2⟩;have HX2:=za hX2;clear hX2)
   | (go_at_call 61;refine (zhw _ HX.o.wi.qi hb).mono ?_;rintro e w' ⟨rfl,rfl⟩))
  first|go_end0|refine zWR (results_none rfl _ _ _) rfl ?_
  rw[<- HKf.o];exact⟨rfl,HX2.o.wi.kw,HX2.o.ft⟩
 intro f;induction f with
 | zero => intro k K w hk hW hr;exact zero 0 k K w hk hW hr
 | succ f ih =>
   intro k K w hk hW hr;by_cases hk0:k.2=0
   . exact zero (f+1) k K w hk0 hW hr
   have hch:k.1<=1000000/\zfT c f (c.up k):=hk.resolve_left hk0;have hL:whM c base (f+1) k=whM c base f (c.up k)++(1,((base+k.1:Nat):Int))::((if k.2=2 then [(8,0)] else [])++[(9,0)]):=(by rw[whM,zM1 hk0]);rw[hL] at hr ⊢;rw[zMM,zMR,zMM,List.length_singleton] at hr;obtain⟨l,hl⟩:∃l,whM c base f (c.up k)=l:=⟨_,rfl⟩;rw[hl] at hr ⊢;obtain⟨Kf,hKf⟩:∃Kf,K.adds (l++(1,((base+k.1:Nat):Int))::((if k.2=2 then [(8,0)] else [])++[(9,0)]))=Kf:=⟨_,rfl⟩;rw[hKf];have HKf:=za hKf;clear hKf;have Hih:=za ih;have HW0:=za (WX.new hW (.cells #[xI (k.1:Nat),xI (k.2:Nat)] 161));have hk0':¬(k.2:Int)=0:=(by omega);obtain⟨hk1,hch2⟩:=hch;have Hch:=za hch2;have Hl:=za hl;clear hW hk hk0 hch2 hL ih hl;unfold ckW;go_enter func68,ntmps68;go_upto_region 3 with fail;refine zn (λW=>WX N B wb kb qb cb base c ev nv lv w w.heap.size (.cells #[xI (k.1:Nat),xI (k.2:Nat)] 161) K W) HW0.o ?_;intro W hX;obtain⟨b0,b1,bf,bz⟩:=zp hX.bx;obtain⟨m0,m1,m2,m3,m4,mf,mz⟩:=zcf hX.wi.qi.blk;have hlk:(Instr.lookup 90 (.map (some cb)) (.agg #[xI (k.1:Nat),xI (k.2:Nat)]) false).run prog W.drew=.ok (.agg #[xI ((c.up k).1:Nat),xI ((c.up k).2:Nat)]) W.drew:=zkW (w:=W.drew) (hX.wi.qi.ck.of' (w':=W.drew) rfl) k;have HR:=za (Hih.o (c.up k) K W.drew Hch.o (hX.wi.keep (zo (zWQ _ _))) (by rw[Hl.o];omega));rw[Hl.o] at HR;unfold ckW at HR;have HX:=za hX;have hnz:=hX.nz;have hnq:=hX.wi.nq;clear hX m0 m1 m3 m4
   go_region_held3 (λw'=>w'.cell? (xD qb 2)=some (.map (some cb))/\w'.cell? (xD w.heap.size 0)=some (xI (k.1:Nat))/\w'.cell? (xD w.heap.size 1)=some (xI (k.2:Nat)))
    (first|(refine⟨?_,?_,?_⟩ <;> repeat (first|with_reducible exact m2|with_reducible exact b0|with_reducible exact b1|with_reducible refine zg ?_|with_reducible refine FT.cell HF1.o ?_ (by assumption)))|go_keep)
    (first
      | (go_at_call 68;refine HR.o.mono ?_;rintro e w1 ⟨rfl,hK1,hF1⟩;have hF1':FT (KT kb) W w1:=⟨hF1.fr.undrew,hF1.tk⟩;have HX1:=za (HX.o.step hK1 hF1');have HF1:=za hF1';clear hK1 hF1 hF1'))
   obtain⟨c0,c1,cf,cz⟩:=zp HX1.o.bx;clear b0 b1 bf bz m2 mf mz HR HF1 hlk hnz hnq
   go_upto_region 5 with (first
    | (go_at_call 29;refine (HX1.o.add 1 ((base+k.1:Nat):Int) (by rw[Cd.adds_len];omega)).mono ?_;rintro e w2 ⟨rfl,hX2⟩;have HX2:=za hX2;obtain⟨d0,d1,df,dz⟩:=zp hX2.bx;clear hX2)
    | (go_at_call 115;refine (zeI k.1 _ HX1.o.wi.qi hb hk1).mono ?_;rintro e w' ⟨rfl,rfl⟩))
   clear c0 c1 cf cz;by_cases h2:k.2=2
   . have h2':(k.2:Int)=2:=(by omega);rw[zM2 h2] at hr;have HE:Hid ((((K.adds l).add 1 ((base+k.1:Nat):Int)).add 8 0).add 9 0=K.adds (l++(1,((base+k.1:Nat):Int))::((if k.2=2 then [(8,0)] else [])++[(9,0)]))):=(by unfold Hid;rw[zM2 h2];simp[Cd.add,Cd.adds]);clear h2
     go_wp2_with (first
      | (go_at_call 29;refine (HX3.o.add 9 0 (by simp[Cd.add,Cd.adds];omega)).mono ?_;rintro e w4 ⟨rfl,hX4⟩;have HX4:=za hX4;clear hX4)
      | (go_at_call 29;refine (HX2.o.add 8 0 (by simp[Cd.add,Cd.adds];omega)).mono ?_;rintro e w3 ⟨rfl,hX3⟩;have HX3:=za hX3;clear hX3))
     first|go_end0|refine zWR (results_none rfl _ _ _) rfl ?_
     rw[<- HKf.o,<- HE.o];exact⟨rfl,HX4.o.wi.kw,HX4.o.ft⟩
   have h2':¬(k.2:Int)=2:=(by omega);rw[zM1 h2] at hr;have HE:Hid (((K.adds l).add 1 ((base+k.1:Nat):Int)).add 9 0=K.adds (l++(1,((base+k.1:Nat):Int))::((if k.2=2 then [(8,0)] else [])++[(9,0)]))):=(by unfold Hid;rw[zM1 h2];simp[Cd.add,Cd.adds]);clear h2
   go_wp2_with (first
    | (go_at_call 29;refine (HX2.o.add 9 0 (by simp[Cd.add,Cd.adds];omega)).mono ?_;rintro e w4 ⟨rfl,hX4⟩;have HX4:=za hX4;clear hX4))
   first|go_end0|refine zWR (results_none rfl _ _ _) rfl ?_
   rw[<- HKf.o,<- HE.o];exact⟨rfl,HX4.o.wi.kw,HX4.o.ft⟩
end
section
variable {xs:Xm} {base cp n size:Nat} {a:Xp} {e:Xy} {v:Xv}
def zbj (w:Xw)(base:Nat)(e:Xy)(size:Nat)(v:Xv)(n:Nat)(xs:Xm):Prop :=
 xs.length=n*size/\((v=.slice none 0 0/\n=0) ∨
  ∃g o cap cur,v=.slice (some (xD g o)) n cap/\base<=g/\w.heap[g]?=some (.cells cur e (0,0))/\n<=cap/\cap<=maxLen/\o+cap*size<=cur.size/\(cur.toList.drop o).take (n*size)=xs)
theorem zia {w:Xw}(h:w.ownsRow base e size v n xs):zbj w base e size v n xs:=by
 refine⟨h.1,?_⟩;rcases h.2 with h|⟨g,cap,cur,h1,h2,h3,h4,h5,h6,h7⟩
 . exact zM3 h
 exact zM4 ⟨g,0,cap,cur,h1,h2,h3,h4,h5,by omega,by simpa using h7⟩
theorem zij (w:Xw)(base:Nat)(e:Xy)(size:Nat):zbj w base e size (.slice none 0 0) 0 []:=⟨by simp,zM3 ⟨rfl,rfl⟩⟩
theorem zbj.lt {w:Xw}(h:zbj w base e size v n xs):∀k,v.ownBlock=some k->base<=k/\k<w.heap.size:=by
 intro k hk;rcases h.2 with ⟨rfl,_⟩|⟨g,o,cap,cur,rfl,h2,h3,_⟩
 . simp[Value.ownBlock] at hk
 simp[Value.ownBlock] at hk;subst hk;exact⟨h2,ze h3⟩
theorem zbM {w w':Xw}(h:zbj w base e size v n xs)(hk:∀k,base<=k->k<w.heap.size->v.ownBlock=some k->w'.heap[k]?=w.heap[k]?):zbj w' base e size v n xs:=by
 refine⟨h.1,?_⟩;rcases h.2 with h1|⟨g,o,cap,cur,rfl,h2,h3,h4⟩
 . exact zM3 h1
 exact zM4 ⟨g,o,cap,cur,rfl,h2,(hk g h2 (ze h3) rfl).trans h3,h4⟩
theorem zeR {w:Xw}(h:zbj w base e size v n xs):∃x cp,v=.slice x n cp:=by
 rcases h.2 with ⟨h1,h2⟩|⟨g,o,cap,cur,rfl,_⟩
 . exact⟨none,0,by rw[h1,h2]⟩
 exact⟨_,cap,rfl⟩
theorem zdb {w:Xw}(h:zbj w base e size (.slice a n cp) n xs){j:Nat}{u:Xv}(hj:xs[j]?=some u):∃g o,a=some (xD g o)/\w.cell? (xD g (o+j))=some u:=by
 have hjl:=(zMJ.1 hj).1;rcases h.2 with ⟨h1,h2⟩|⟨g,o,cap,cur,h1,h2,h3,h4,h5,h6,h7⟩
 . have:=h.1;rw[h2] at this;omega
 cases h1;refine⟨g,o,rfl,?_⟩;have:cur[o+j]?=some u:=by
  rw[<- h7,List.getElem?_take] at hj;split at hj
  . rw[List.getElem?_drop] at hj;simpa using hj
  cases hj
 simp[World.cell?,h3,this]
theorem zle {P:Program}{t:Xy}(ht:P.underlying t=some (.slice e))(hsz:∀w,(sizeOf e).run P w=.ok size w){w:Xw}(h:zbj w base e size (.slice a (n+1) cp) (n+1) xs) :
 ∃a' cp',(∀W,(Instr.slice t (.slice a (n+1) cp) (some (xI 1)) none none).run P W=.ok (.slice a' n cp') W)/\zbj w base e size (.slice a' n cp') n (xs.drop size)/\(∀k,(Value.slice a' n cp').ownBlock=some k->(Value.slice a (n+1) cp).ownBlock=some k):=by
 rcases h.2 with ⟨h1,h2⟩|⟨g,o,cap,cur,h1,h2,h3,h4,h5,h6,h7⟩
 . omega
 cases h1;have i2:(1:Int)<=(n:Int)+1:=by omega
 have hx:(xs.drop size).length=n*size:=by rw[List.length_drop,h.1,Nat.add_mul];omega
 by_cases hc:cp=1
 . subst hc;have hn:n=0:=by omega
   subst hn;refine⟨some (xD g o),0,λW=>by simp[Instr.slice,Instr.sliceBounds,Instr.sliceBound,run_underlying ht,hsz,asIntOf],⟨hx,zM4 ⟨g,o,0,cur,rfl,h2,h3,by omega,by omega,by omega,?_⟩⟩,λk hk=>hk⟩;have:(xs.drop size).length=0:=by omega
   rw[List.eq_nil_of_length_eq_zero this];simp
 refine⟨some (xD g (o+size)),cp-1,λW=>by simp[Instr.slice,Instr.sliceBounds,Instr.sliceBound,run_underlying ht,hsz,asIntOf,hc,Addr.add_lit,i2],⟨hx,zM4 ⟨g,o+size,cp-1,cur,rfl,h2,h3,by omega,by omega,?_,?_⟩⟩,λk hk=>hk⟩
 . have:(cp-1)*size+size=cp*size:=by rw[<- Nat.succ_mul,show (cp-1).succ=cp by omega]
   omega
 rw[<- h7,List.drop_take,List.drop_drop];congr 1;rw[Nat.add_mul];omega
section
variable {P:Program} (w:Xw)
theorem zhI (t ty e:Xy)(i:TypeInfo)(ht:P.underlying t=some (.slice e))(hi:P.info? e=some i)
 (g o sLen sCap:Nat) (cur:Xa) (hg:xH w g cur e)
 (a:Addr) (m c:Nat) (news:Xm) (hl:news.length=m*i.size) (hnews:∀j u,news[j]?=some u->w.cell? (a.add j)=some u) (h1:∀u∈news,u.oneCell'=true)
 (hroom:sLen+m<=sCap) (hfit:o+sLen*i.size+news.length<=cur.size) :
 (Builtin.append_ #[t,t] ty #[.slice (some (xD g o)) sLen sCap,.slice (some a) m c]).run P w =
   .ok (.slice (some (xD g o)) (sLen+m) sCap) (w.setRow g (cur.toList.take (o+sLen*i.size)++news++cur.toList.drop (o+sLen*i.size+news.length)).toArray):=by
 have hf:=run_firstCells_some (P:=P) w i.size m a m c news hl hnews;have hst:=run_storeCells_at P g (o+sLen*i.size) e news 0 cur w hg (by simpa using hfit) h1;simp only[Nat.add_zero] at hst;simp[Builtin.append_,run_underlying ht,sizeOf,typeInfo,hi,Builtin.lenOf,hroom,hf,Addr.add_lit,hst]
theorem zmL (base:Nat)(t ty e:Xy)(i:TypeInfo)(z:Xv)(size bytes:Nat)(ht:P.underlying t=some (.slice e))(hi:P.info? e=some i)(hz:i.zero=some z)
 (hsize:i.size=size) (hby:i.bytes=bytes) (hzs:z.cells.size=size) (hsz:0<size)
 (v:Xv) (n:Nat) (xs:Xm) (hown:zbj w base e size v n xs)
 (a:Addr) (m c:Nat) (news:Xm) (hl:news.length=m*size) (hnews:∀j u,news[j]?=some u->w.cell? (a.add j)=some u) (h1:∀u∈news,u.oneCell'=true)
 (h63:n+m<=maxLen) (hbytes:(n+m)*bytes<=140737488355328) (hbase:base<=w.heap.size) :
 ∃v' w',(Builtin.append_ #[t,t] ty #[v,.slice (some a) m c]).run P w=.ok v' w'/\zbj w' base e size v' (n+m) (xs++news)/\w.grownBy w' v.ownBlock /\
  ∀k,v'.ownBlock=some k->v.ownBlock=some k∨w.heap.size<=k:=by
 rcases hown.2 with ⟨rfl,rfl⟩|⟨g,o,cap,cur,rfl,hbg,hg,hnc,hcm,hcs,htake⟩
 . have hx:xs=[]:=List.eq_nil_of_length_eq_zero (by simpa using hown.1);subst hx;obtain⟨v',w',hr,h2,h3,h4⟩:=zha (P:=P) w base t ty e i z size bytes ht hi hz hsize hby hzs hsz (.slice none 0 0) 0 [] (World.ownsRow_nil w base e size) a m c news hl hnews h1 h63 hbytes hbase;exact⟨v',w',hr,zia h2,h3,h4⟩
 have hlen:(xs++news).length=(n+m)*size:=by rw[zMM,hown.1,hl,Nat.add_mul]
 by_cases hroom:n+m<=cap
 . subst hsize;have hmul:(n+m)*i.size<=cap*i.size:=Nat.mul_le_mul_right _ hroom;have hfit:o+n*i.size+news.length<=cur.size:=by rw[hl];rw[Nat.add_mul] at hmul;omega
   have hr:=zhI (P:=P) w t ty e i ht hi g o n cap cur hg a m c news hl hnews h1 hroom hfit;refine⟨_,_,hr,⟨hlen,zM4 ⟨g,o,cap,_,rfl,hbg,setRow_heap w g cur _ e _ hg,hroom,hcm,?_,?_⟩⟩,⟨rfl,rfl,rfl,by simp,λk _ hk=>setRow_other w g k _ (λe=>hk (by simp[Value.ownBlock,e]))⟩,λk hk=>zM3 hk⟩
   . simp only[List.size_toArray,zMM,List.length_take,List.length_drop,Array.length_toList];omega
   have e1:(cur.toList.take (o+n*i.size)).drop o=xs:=(by rw[List.drop_take,Nat.add_sub_cancel_left];exact htake);have hol:o<=(cur.toList.take (o+n*i.size)).length:=by rw[List.length_take,Array.length_toList];omega
   show (List.drop o (cur.toList.take (o+n*i.size)++news++_)).take _=_;rw[zMQ,List.drop_append_of_le_length hol,e1,<- zMQ,<- hlen];exact List.take_left
 have holds:∀j u,xs[j]?=some u->w.cell? (((xD g o):Addr).add j)=some u:=by intro j u hj;obtain⟨g',o',e1,e2⟩:=zdb hown hj;cases e1;rw[Addr.add_lit];exact e2
 obtain⟨v',w',hr,h2,h3⟩:=run_append_arg_grows (P:=P) w t ty e i z size bytes ht hi hz hsize hby hzs hsz (xD g o) n cap xs hown.1 holds a m c news hl hnews (by omega) h63 hbytes;exact⟨v',w',hr,zia (zR h2 hbase),⟨h3.os,h3.tape,h3.output,h3.size,λk hk _=>h3.block k hk (by simp)⟩,λk hk=>zM4 (h2.lt k hk).1⟩
theorem ze4 {ops:Array Oper}{o:Oper}{a:Act}{K:Act->World->Prop}{Q:Exit->Act->World->Prop}{E:Prop}
 (hg:o.guard=none) (s x:Operand) (t:Xy) (ho:o.op=.call { callee:=.builtin .append,args:=#[s,x],argTypes:=#[t,t] })
 (base:Nat) (e:Xy) (i:TypeInfo) (z:Xv) (size bytes:Nat) (ht:P.underlying t=some (.slice e)) (hi:P.info? e=some i) (hz:i.zero=some z)
 (hsize:i.size=size) (hby:i.bytes=bytes) (hzs:z.cells.size=size) (hsz:0<size)
 (v:Xv) (n:Nat) (xs:Xm) (hs:a.eval s=v) (hown:zbj w base e size v n xs)
 (ad:Addr) (m c:Nat) (news:Xm) (hx:a.eval x=.slice (some ad) m c) (hl:news.length=m*size) (hnews:∀j u,news[j]?=some u->w.cell? (ad.add j)=some u) (h1:∀u∈news,u.oneCell'=true)
 (h63:n+m<=maxLen) (hbytes:(n+m)*bytes<=140737488355328) (hbase:base<=w.heap.size)
 (h:∀v' w',zbj w' base e size v' (n+m) (xs++news)->w.grownBy w' v.ownBlock->(∀k,v'.ownBlock=some k->v.ownBlock=some k∨w.heap.size<=k)->K (a.put o.dst v') w') :
 if Region.wanted o (yielded ops a.tmps)=true then Oper.wp P o a w K Q else E:=by
 have hw:Region.wanted o (yielded ops a.tmps)=true:=by simp[Region.wanted,hg]
 rw[zM2 hw];obtain⟨v',w',hr,h2,h3,h4⟩:=zmL (P:=P) w base t o.type e i z size bytes ht hi hz hsize hby hzs hsz v n xs hown ad m c news hl hnews h1 h63 hbytes hbase;unfold Oper.wp execOp;simp only[ho,resolve,invoke,builtin,Sem.run_bind,Sem.run_pure,Result.andThen_ok,List.map_toArray,List.map_cons,List.map_nil,hs,hx,hr];exact h v' w' h2 h3 h4
end
end
section
variable {K:Cd} {B N base cb kb qb wb:Nat} {X:Obj} {c:Sc} {ev lv nv v':Xv} {w w' w9:Xw}
attribute [local go_sem ↓] Go.wp_at_zero Go.wp_at_succ
theorem Tryz.infoMem:(prog.info? 169).map (λi=>(i.zero,i.size,i.bytes))=some (some (.agg #[xI 0,.pointer none,xI 0,xI 0]),4,32):=by kernel_rfl
def Cd.cell (K:Cd)(x:Int):Cd:={ K with cells:=K.cells++[x] }
theorem zmg (l:List Int)(x:Int):zK (l++[x])=zK l++[xI x]:=by simp[zK]
theorem KI.celled {bv cv rv:Xv}{x:Int}(h:KI B wb kb bv cv rv K w)(hF:Fr (λk=>cv.ownBlock=some k) (w.alloc X) w9)
 (hown:w9.ownsRow B 2 1 v' (K.cells.length+1) (zK K.cells++[xI x])) (hnew:∀k,v'.ownBlock=some k->cv.ownBlock=some k∨w.heap.size+1<=k) :
 KW B wb kb (K.cell x) (w9.setCell (xD kb 3) v')/\FT (KT kb) w (w9.setCell (xD kb 3) v'):=by
 have hz:=h.hB;have hwb:=h.hwb;have hkb:=h.hkb;have hs:(w.alloc X).heap.size=w.heap.size+1:=by simp
 have hz9:=hF.size;have hb:∀k,k<w.heap.size->¬cv.ownBlock=some k->w9.heap[k]?=w.heap[k]?:=λk hk hn=>(hF.block k (by omega) hn).trans (zWP _ _ _ hk);have hb':∀k,k<w.heap.size->¬k=kb->¬cv.ownBlock=some k->(w9.setCell (xD kb 3) v').heap[k]?=w.heap[k]?:=λk hk h1 h2=>zr h1 (hb k hk h2);have hnr:∀k,k<B->¬cv.ownBlock=some k:=λk hk e=>by have:=(h.cown.lt _ e).1;omega
 have hI:KI B wb kb bv v' rv (K.cell x) (w9.setCell (xD kb 3) v'):=by
  refine⟨(hb' wb (by omega) h.dk (hnr wb hwb)).trans h.wr,?_,zi h.bown (λk h1 h2 e=>hb' k h2 (by omega) (h.d1 k e).1),?_,zi h.rown (λk h1 h2 e=>hb' k h2 (by omega) (λe'=>h.d2 k e' e)),hwb,hkb,h.dk,λk e=>⟨λe'=>?_,(h.d1 k e).2⟩,λk e e'=>?_,?_⟩
  . exact zh _ _ _ _ ((hb kb (by omega) (hnr kb hkb)).trans h.blk)
  . have:=zi hown (w':=w9.setCell (xD kb 3) v') (λk h1 h2 _=>zr (by omega) rfl);rw[<- zmg] at this
    show World.ownsRow _ B 2 1 v' (K.cells++[x]).length _;rw[zMM];exact this
  . rcases hnew k e' with e2|e2
    . exact (h.d1 k e).1 e2
    have:=(h.bown.lt _ e).2;omega
  . rcases hnew k e with e2|e2
    . exact h.d2 k e2 e'
    have:=(h.rown.lt _ e').2;omega
  have:(w9.setCell (xD kb 3) v').heap.size=w9.heap.size:=by simp
  omega
 refine⟨⟨bv,v',rv,hI⟩,⟨hF.os,hF.tape,hF.output,?_,λk hk hn=>?_⟩,λk hk=>?_⟩
 . have:(w9.setCell (xD kb 3) v').heap.size=w9.heap.size:=by simp
   omega
 . exact hb' k hk (λe=>hn ((h.kt k).2 (zM3 e))) (λe=>hn ((h.kt k).2 (zM4 (zM4 (zM3 e)))))
 rcases (hI.kt k).1 hk with e|e|e|e
 . exact zM3 ((h.kt k).2 (zM3 e))
 . exact zM3 ((h.kt k).2 (zM4 (zM3 e)))
 . rcases hnew k e with e2|e2
   . exact zM3 ((h.kt k).2 (zM4 (zM4 (zM3 e2))))
   exact zM4 (by omega)
 exact zM3 ((h.kt k).2 (zM4 (zM4 (zM4 e))))
structure Lt where
 cell:Nat
 next:Tm
 clock:Nat×Nat
def zeY (w:Xw)(N:Nat):List Lt->List Value->Prop
 | [],xs=>xs=[]
 | l::ls,xs=>∃v ys,xs=(xI (l.cell:Int))::v::(xI (l.clock.1:Nat))::(xI (l.clock.2:Nat))::ys/\TT w N l.next v/\zeY w N ls ys
theorem zeY.old (ho:Old N w w'):∀{ls:List Lt} {xs:Xm},zeY w N ls xs->zeY w' N ls xs:=by
 intro ls;induction ls with
 | nil=>intro xs h;exact h
 | cons l ls ih => rintro xs ⟨v,ys,h1,h2,h3⟩;exact⟨v,ys,h1,h2.old ho,ih h3⟩
theorem zeY.snoc (l:Lt)(v:Xv)(hv:TT w N l.next v):∀{ls:List Lt} {xs:Xm},zeY w N ls xs->zeY w N (ls++[l]) (xs++[xI (l.cell:Int),v,xI (l.clock.1:Nat),xI (l.clock.2:Nat)]):=by
 intro ls;induction ls with
 | nil=>intro xs h;cases h;exact⟨v,[],rfl,hv,rfl⟩
 | cons l' ls ih => rintro xs ⟨v',ys,h1,h2,h3⟩;subst h1;exact⟨v',_,rfl,h2,ih h3⟩
def CT (kb qb:Nat)(w:Xw)(k:Nat):Prop:=KT kb w k∨k=qb∨zgV w qb 4 k
structure WL (N B wb kb qb cb base:Nat) (c:Sc) (ev nv lv:Xv) (K:Cd) (ls:List Lt) (w:Xw):Prop where
 wi:WI N B wb kb qb cb base c ev nv lv K w
 row:∃xs,zbj w B 169 4 lv ls.length xs/\zeY w N ls xs
 dl:∀k,lv.ownBlock=some k->¬KT kb w k/\¬k=qb/\¬k=cb
 dq:¬qb=cb
 dw:¬qb=wb
 hNq:N<=qb
theorem WL.ct {ls:List Lt}(h:WL N B wb kb qb cb base c ev nv lv K ls w)(k:Nat):CT kb qb w k↔KT kb w k∨k=qb∨lv.ownBlock=some k:=by
 obtain⟨m0,m1,m2,m3,m4,mf,mz⟩:=zcf h.wi.qi.blk;unfold CT;constructor
 . rintro (e|e|⟨v,e1,e2⟩)
   . exact zM3 e
   . exact zM4 (zM3 e)
   rw[m4] at e1;cases e1;exact zM4 (zM4 e2)
 rintro (e|e|e)
 . exact zM3 e
 . exact zM4 (zM3 e)
 exact zM4 (zM4 ⟨_,m4,e⟩)
theorem WL.keep {ls:List Lt}(h:WL N B wb kb qb cb base c ev nv lv K ls w)(hB:xB w w'):WL N B wb kb qb cb base c ev nv lv K ls w':=by obtain⟨xs,h1,h2⟩:=h.row;exact⟨h.wi.keep hB,⟨xs,zbM h1 (λk _ hk _=>hB.block k hk),h2.old (zm hB h.wi.qi.hN)⟩,λk e=>⟨λe'=>(h.dl k e).1 (h.wi.kw.tk hB _ e'),(h.dl k e).2⟩,h.dq,h.dw,h.hNq⟩
theorem WL.tk {ls:List Lt}(h:WL N B wb kb qb cb base c ev nv lv K ls w)(hB:xB w w'):∀k,CT kb qb w' k->CT kb qb w k:=by
 intro k hk;rcases ((h.keep hB).ct k).1 hk with e|e|e
 . exact (h.ct k).2 (zM3 (h.wi.kw.tk hB _ e))
 . exact (h.ct k).2 (zM4 (zM3 e))
 exact (h.ct k).2 (zM4 (zM4 e))
theorem WL.lt {ls:List Lt}(h:WL N B wb kb qb cb base c ev nv lv K ls w):∀k,CT kb qb w k->N<=k/\k<w.heap.size/\¬k=cb:=by
 intro k hk;obtain⟨xs,h1,_⟩:=h.row;have hb:=h.wi.kw.kb;have hn:=h.wi.hNk;rcases (h.ct k).1 hk with e|e|e
 . exact⟨h.wi.ktN k e,h.wi.kw.lt k e,λe'=>h.wi.nc (e'▸e)⟩
 . subst e;exact⟨h.hNq,ze h.wi.qi.blk,h.dq⟩
 have:=h1.lt k e;exact⟨by omega,this.2,(h.dl k e).2.2⟩
theorem WL.ftk {K':Cd}{ls:List Lt}(h:WL N B wb kb qb cb base c ev nv lv K ls w)(hk:KW B wb kb K' w')(hf:FT (KT kb) w w'):WL N B wb kb qb cb base c ev nv lv K' ls w'/\FT (CT kb qb) w w':=by
 obtain⟨xs,h1,h2⟩:=h.row;have hW:WL N B wb kb qb cb base c ev nv lv K' ls w':=⟨h.wi.ft hk hf,⟨xs,zbM h1 (λk _ hk e=>hf.fr.block k hk (h.dl k e).1),h2.old (hf.old h.wi.qi.hN h.wi.ktN)⟩,λk e=>⟨hf.not (h1.lt k e).2 (h.dl k e).1,(h.dl k e).2⟩,h.dq,h.dw,h.hNq⟩;refine⟨hW,hf.fr.mono (λk _ e=>zM3 e),λk hk=>?_⟩;rcases (hW.ct k).1 hk with e|e|e
 . exact (hf.tk k e).imp (λe=>zM3 e) id
 . exact zM3 (zM4 (zM3 e))
 exact zM3 ((h.ct k).2 (zM4 (zM4 e)))
theorem WL.put {ls:List Lt}(l:Lt)(v:Xv)(h:WL N B wb kb qb cb base c ev nv lv K ls w)(hv:TT w N l.next v)(hF:Fr (λk=>lv.ownBlock=some k) (w.alloc X) w9)(xs:Xm)(hxs:zeY w N ls xs)
 (hown:zbj w9 B 169 4 v' (ls.length+1) (xs++[xI (l.cell:Int),v,xI (l.clock.1:Nat),xI (l.clock.2:Nat)])) (hnew:∀k,v'.ownBlock=some k->lv.ownBlock=some k∨w.heap.size+1<=k) :
 WL N B wb kb qb cb base c ev nv v' K (ls++[l]) (w9.setCell (xD qb 4) v')/\FT (CT kb qb) w (w9.setCell (xD qb 4) v'):=by
 obtain⟨_,hr,_⟩:=h.row;have hs:(w.alloc X).heap.size=w.heap.size+1:=by simp
 have hz9:=hF.size;have hsz:(w9.setCell (xD qb 4) v').heap.size=w9.heap.size:=by simp
 have hb:∀k,k<w.heap.size->¬lv.ownBlock=some k->w9.heap[k]?=w.heap[k]?:=λk hk hn=>(hF.block k (by omega) hn).trans (zWP _ _ _ hk);have hb':∀k,k<w.heap.size->¬k=qb->¬lv.ownBlock=some k->(w9.setCell (xD qb 4) v').heap[k]?=w.heap[k]?:=λk hk h1 h2=>zr h1 (hb k hk h2);have hkt:∀k,KT kb w k->¬k=qb/\¬lv.ownBlock=some k:=λk e=>⟨λe'=>h.wi.nq (e'▸e),λe'=>(h.dl k e').1 e⟩;obtain⟨bv,cv,rv,hI⟩:=h.wi.kw;have hqz:=ze h.wi.qi.blk;have hbk:=hI.hkb;have hbw:=hI.hwb;have hkbn:=hkt kb ((hI.kt kb).2 (zM3 rfl));have hwbl:¬lv.ownBlock=some wb:=λe=>by have:=(hr.lt wb e).1;omega
 have hktb:∀k,k<w.heap.size->KT kb w k->w9.heap[k]?=w.heap[k]?/\(w9.setCell (xD qb 4) v').heap[k]?=w.heap[k]?:=λk hk e=>⟨hb k hk (hkt k e).2,hb' k hk (hkt k e).1 (hkt k e).2⟩;have hnw:(w9.setCell (xD qb 4) v').heap[wb]?=w.heap[wb]?:=hb' wb (by have:=hI.hB;omega) (λe=>h.dw e.symm) hwbl;have hO:Old N w (w9.setCell (xD qb 4) v'):=λk hk=>hb' k (zM9 hk h.wi.qi.hN) (by have:=h.hNq;omega) (λe=>by have:=(hr.lt k e).1;have:=h.wi.hNk;omega)
 have hI':KI B wb kb bv cv rv K (w9.setCell (xD qb 4) v') :=
  ⟨hnw.trans hI.wr,(hb' kb (by have:=hI.hB;omega) hkbn.1 hkbn.2).trans hI.blk,zi hI.bown (λk _ hk e=>(hktb k hk ((hI.kt k).2 (zM4 (zM3 e)))).2),zi hI.cown (λk _ hk e=>(hktb k hk ((hI.kt k).2 (zM4 (zM4 (zM3 e))))).2),zi hI.rown (λk _ hk e=>(hktb k hk ((hI.kt k).2 (zM4 (zM4 (zM4 e))))).2),hI.hwb,hI.hkb,hI.dk,hI.d1,hI.d2,by have:=hI.hB;omega⟩
 have hktw:∀k,KT kb (w9.setCell (xD qb 4) v') k↔KT kb w k:=λk=>(hI'.kt k).trans (hI.kt k).symm;have hcb:(w9.setCell (xD qb 4) v').heap[cb]?=w.heap[cb]?:=hb' cb h.wi.qi.ck.lt (λe=>h.dq e.symm) (λe=>(h.dl cb e).2.2 rfl);have hqlv:¬lv.ownBlock=some qb:=λe=>(h.dl qb e).2.1 rfl;have hW:WL N B wb kb qb cb base c ev nv v' K (ls++[l]) (w9.setCell (xD qb 4) v'):=by
  refine⟨⟨⟨bv,cv,rv,hI'⟩,⟨zh _ _ _ _ ((hb qb hqz hqlv).trans h.wi.qi.blk),h.wi.qi.sc.old hO,h.wi.qi.ck.of' hcb,by have:=h.wi.qi.hN;omega⟩,λe=>h.wi.nq ((hktw qb).1 e),λe=>h.wi.nc ((hktw cb).1 e),h.wi.hNk⟩,⟨xs++[xI (l.cell:Int),v,xI (l.clock.1:Nat),xI (l.clock.2:Nat)],?_,(hxs.snoc l v hv).old hO⟩,λk e=>?_,h.dq,h.dw,h.hNq⟩
  . rw[zMM];refine zbM hown (λk h1 h2 e=>zr (λe'=>?_) rfl);subst e';rcases hnew _ e with e2|e2
    . exact hqlv e2
    omega
  rcases hnew k e with e2|e2
  . exact⟨λe'=>(h.dl k e2).1 ((hktw k).1 e'),(h.dl k e2).2⟩
  exact⟨λe'=>by have:=h.wi.kw.lt k ((hktw k).1 e');omega,by omega,by have:=h.wi.qi.ck.lt;omega⟩
 refine⟨hW,⟨hF.os,hF.tape,hF.output,by omega,λk hk hn=>?_⟩,λk hk=>?_⟩
 . exact hb' k hk (λe=>hn ((h.ct k).2 (zM4 (zM3 e)))) (λe=>hn ((h.ct k).2 (zM4 (zM4 e))))
 rcases (hW.ct k).1 hk with e|e|e
 . exact zM3 ((h.ct k).2 (zM3 ((hktw k).1 e)))
 . exact zM3 ((h.ct k).2 (zM4 (zM3 e)))
 rcases hnew k e with e2|e2
 . exact zM3 ((h.ct k).2 (zM4 (zM4 e2)))
 exact zM4 (by omega)
end
section
variable {K K':Cd} {a:Int} {ls:List Lt} {B N base cb kb qb wb z:Nat} {o:Obj} {c:Sc} {ev lv nv:Xv} {W W' w:Xw}
attribute [local go_sem ↓] Go.wp_at_zero Go.wp_at_succ
structure CX (N B wb kb qb cb base:Nat) (c:Sc) (ev nv:Xv) (w:Xw) (z:Nat) (o:Obj) (lv:Xv) (K:Cd) (ls:List Lt) (W:Xw):Prop where
 wl:WL N B wb kb qb cb base c ev nv lv K ls W
 ft:FT (CT kb qb) w W
 bx:W.heap[z]?=some o
 nz:¬CT kb qb W z
theorem CX.stepL {lv':Xv}{ls':List Lt}(h:CX N B wb kb qb cb base c ev nv w z o lv K ls W)(hw:WL N B wb kb qb cb base c ev nv lv' K' ls' W')(hf:FT (CT kb qb) W W'):CX N B wb kb qb cb base c ev nv w z o lv' K' ls' W' :=
 ⟨hw,h.ft.trans hf,(hf.fr.block _ (ze h.bx) h.nz).trans h.bx,hf.not (ze h.bx) h.nz⟩
theorem CX.stepK (h:CX N B wb kb qb cb base c ev nv w z o lv K ls W)(hk:KW B wb kb K' W')(hf:FT (KT kb) W W'):CX N B wb kb qb cb base c ev nv w z o lv K' ls W' :=
 h.stepL (h.wl.ftk hk hf).1 (h.wl.ftk hk hf).2
theorem CX.keep (h:CX N B wb kb qb cb base c ev nv w z o lv K ls W)(hB:xB W W'):CX N B wb kb qb cb base c ev nv w z o lv K ls W' :=
 h.stepL (h.wl.keep hB) (FT.below hB (h.wl.tk hB))
theorem CX.add (h:CX N B wb kb qb cb base c ev nv w z o lv K ls W)(op:Nat)(x:Int)(hr:K.row.length<=1000000) :
 xK 29 #[xP wb,.int .u8 (op:Int),xI x] W (λe w'=>e=.returned (.tuple #[])/\CX N B wb kb qb cb base c ev nv w z o lv (K.add op x) ls w'):=by
 refine (zc7 B wb kb K op x W h.wl.wi.kw hr).mono ?_;rintro e w' ⟨h1,h2,h3⟩;exact⟨h1,h.stepK h2 h3⟩
theorem CX.new (h:WL N B wb kb qb cb base c ev nv lv K ls w)(o:Obj):CX N B wb kb qb cb base c ev nv w w.heap.size o lv K ls (w.alloc o) :=
 ⟨h.keep (zq w o),FT.below (zq w o) (h.tk (zq w o)),zc w o,λe=>by have:=(h.lt _ (h.tk (zq w o) _ e)).2.1;omega⟩
theorem CX.old {lv0:Xv}{K0:Cd}{ls0:List Lt}(h:CX N B wb kb qb cb base c ev nv w z o lv K ls W)(h0:WL N B wb kb qb cb base c ev nv lv0 K0 ls0 w):Old N w W:=h.ft.old h0.wi.qi.hN (λk e=>(h0.lt k e).1)
theorem znX:∀u∈[xI a],u.oneCell'=true:=by simp[Value.oneCell']
theorem zqE {b c:Int}{p:Xp}:∀u∈[xI a,.pointer p,xI b,xI c],u.oneCell'=true:=by simp[Value.oneCell']
theorem zhK (t a0 a1:Tm)(hts:t.ts=[a0,a1])(hW:Wf t)(v:Xv)(k:Nat×Nat)(K:Cd)(ls:List Lt)(w:Xw)(hT:TT w N t v)(H:WL N B wb kb qb cb base c ev nv lv K ls w)(hr:K.row.length<=1000000)(hc:K.cells.length<=1000000)(hl:ls.length<=1000000) :
 xK 149 #[xP wb,xP qb,v,ckW k] w (λe w'=>e=.returned (.tuple #[])/\(∃lv',WL N B wb kb qb cb base c ev nv lv' ((K.cell (zav a0)).add 3 K.cells.length) (ls++[⟨K.cells.length,a1,k⟩]) w')/\FT (CT kb qb) w w'):=by
 obtain⟨b,args,vs,rfl,hb,HBk,hown,hlen,hsub,hgs⟩:=hT.ptr;obtain⟨x,cp,rfl⟩:=zB hown;rw[hts] at hlen;obtain⟨y0,hy0⟩:∃y,vs[0]?=some y:=⟨_,zsc (by rw[hlen];simp)⟩;obtain⟨y1,hy1⟩:∃y,vs[1]?=some y:=⟨_,zsc (by rw[hlen];simp)⟩;obtain⟨g,rfl,He0⟩:=zbE hown hy0;obtain⟨g',eg,He1⟩:=zbE hown hy1;cases eg;have HT0:=hsub 0 a0 y0 (by rw[hts];rfl) hy0;have HT1:=hsub 1 a1 y1 (by rw[hts];rfl) hy1;obtain⟨u0,_,_,rfl,_⟩:=HT0.ptr;obtain⟨u1,_,_,rfl,_⟩:=HT1.ptr;have hgN:=hgs g rfl;have hW0:=hW.sub (u:=a0) (by rw[hts];simp);have hv2:vs.length=2:=hlen;rw[hv2] at HBk;have HC0:=za (CX.new H (.cells #[xI (k.1:Nat),xI (k.2:Nat)] 161));have hNw:=H.wi.qi.hN;obtain⟨i0,hi,hi0,hi1,hi2⟩:=info_parts Tryz.infoI64;obtain⟨j0,hj,hj0,hj1,hj2⟩:=info_parts Tryz.infoMem;have mx:K.cells.length+1<=maxLen:=by unfold maxLen;omega
 have by':(K.cells.length+1)*8<=140737488355328:=by omega
 have mx2:ls.length+1<=maxLen:=by unfold maxLen;omega
 have by2:(ls.length+1)*32<=140737488355328:=by omega
 obtain⟨Kf,HKf⟩:∃Kf,(K.cell (zav a0)).add 3 K.cells.length=Kf:=⟨_,rfl⟩;rw[HKf];unfold ckW;have hst:∃xc cpc,(w.alloc (.cells #[xI (k.1:Nat),xI (k.2:Nat)] 161)).cell? (xD wb 0)=some (xP kb)/\(w.alloc (.cells #[xI (k.1:Nat),xI (k.2:Nat)] 161)).cell? (xD kb 3)=some (.slice xc K.cells.length cpc):=by obtain⟨bv,cv,rv,HI⟩:=HC0.o.wl.wi.kw;obtain⟨xc,cpc,rfl⟩:=zcB HI.cown;exact⟨xc,cpc,(zu HI.wr).1,(zt HI.blk).2.2.2.1⟩
 obtain⟨xc,cpc,p0,m3⟩:=hst;go_enter func149,ntmps149;go_upto_region 2 with fail;refine zn (λW=>CX N B wb kb qb cb base c ev nv w w.heap.size (.cells #[xI (k.1:Nat),xI (k.2:Nat)] 161) lv K ls W) HC0.o ?_;intro W hX;have HX:=za hX;go_cut [] (λwx=>Hid (CX N B wb kb qb cb base c ev nv w w.heap.size (.cells #[xI (k.1:Nat),xI (k.2:Nat)] 161) lv (K.cell (zav a0)) ls wx));case first =>
  obtain⟨bv,cv,rv,HI⟩:=HX.o.wl.wi.kw;obtain⟨xc,cpc,rfl⟩:=zcB HI.cown;obtain⟨p0,pf,pz⟩:=zu HI.wr;obtain⟨m0,m1,m2,m3,m4,m5,mf,mz⟩:=zt HI.blk;have hO:=HX.o.old H;obtain⟨t0,t1,t2,t3,t4,t5,tf,tz⟩:=zt ((hO b hb).trans HBk);have He0:=(zWS (w:=w) (a:=(xD g 0)) (hO g hgN)).trans He0;have HCo:=za (zdp a0 hW0 (xP u0) W.drew (HT0.old hO |>.old (λ_ _=>rfl)));have hkb:=HI.hkb;have hwb:=HI.hwb;have hBz:=HI.hB;have hNk:=HX.o.wl.wi.hNk;have hbk:¬b=kb:=by omega
  have hgk:¬g=kb:=by omega
  have hwk:=HI.dk;generalize zav a0=ca at *;refine wp_region_noPanic ?_;refine wp_region_held_drew (S:=(λw'=>w'.cell? (xD wb 0)=some (xP kb)/\w'.cell? (xD b 5)=some (xS g 2 cp)/\w'.cell? (xD g 0)=some (xP u0))) (by kernel_rfl) ?_ (λhHeld=>?_)
  . (try dsimp only);(first|(with_reducible (refine⟨?_,?_,?_⟩ <;> repeat (first|assumption|refine zg ?_|refine zj _ ?_|refine zk (by omega) ?_)))|go_keep)
  refine tkA 0 rfl (v:=?v1) (zM3 ⟨by rfl,?h1⟩) ?_;case h1=>(intro w hSw;(try dsimp only at hSw);go_simp;try with_reducible rfl)
  try simp only[Act.put,zx2]
  refine tkA 1 rfl (v:=?v2) (zM3 ⟨by rfl,?h2⟩) ?_;case h2=>(intro w hSw;(try dsimp only at hSw);go_simp;try with_reducible rfl)
  try simp only[Act.put,zx2]
  refine tkA 2 rfl (v:=?v3) (zM3 ⟨by rfl,?h3⟩) ?_;case h3=>(intro w hSw;(try dsimp only at hSw);go_simp;try with_reducible rfl)
  try simp only[Act.put,zx2]
  refine tkA 3 rfl (v:=?v4) (zM3 ⟨by rfl,?h4⟩) ?_;case h4=>(intro w hSw;(try dsimp only at hSw);go_simp;try with_reducible rfl)
  try simp only[Act.put,zx2]
  refine tkA 4 rfl (v:=?v5) (zM3 ⟨by rfl,?h5⟩) ?_;case h5=>(intro w hSw;(try dsimp only at hSw);go_simp;try with_reducible rfl)
  try simp only[Act.put,zx2]
  refine tkA 5 rfl (v:=?v6) (zM3 ⟨by rfl,?h6⟩) ?_;case h6=>(intro w hSw;(try dsimp only at hSw);go_simp;try with_reducible rfl)
  try simp only[Act.put,zx2]
  refine tkA 6 rfl (v:=?v7) (zM3 ⟨by rfl,?h7⟩) ?_;case h7=>(intro w hSw;(try dsimp only at hSw);go_simp;try with_reducible rfl)
  try simp only[Act.put,zx2]
  refine tkA 7 rfl (v:=?v8) (zM3 ⟨by rfl,?h8⟩) ?_;case h8=>(intro w hSw;(try dsimp only at hSw);go_simp;try with_reducible rfl)
  try simp only[Act.put,zx2]
  refine tkA 8 rfl (v:=?v9) (zM3 ⟨by rfl,?h9⟩) ?_;case h9=>(intro w hSw;(try dsimp only at hSw);go_simp;try with_reducible rfl)
  try simp only[Act.put,zx2]
  refine tkA 9 rfl (v:=?v10) (zM3 ⟨by rfl,?h10⟩) ?_;case h10=>(intro w hSw;(try dsimp only at hSw);go_simp;try with_reducible rfl)
  try simp only[Act.put,zx2]
  refine tkA 11 rfl (v:=?v11) (zM3 ⟨by rfl,?h11⟩) ?_;case h11=>(intro w hSw;(try dsimp only at hSw);go_simp;try with_reducible rfl)
  try simp only[Act.put,zx2]
  refine tkA 12 rfl (v:=?v12) (zM3 ⟨by rfl,?h12⟩) ?_;case h12=>(intro w hSw;(try dsimp only at hSw);go_simp;try with_reducible rfl)
  try simp only[Act.put,zx2]
  refine tkA 13 rfl (v:=?v13) (zM3 ⟨by rfl,?h13⟩) ?_;case h13=>(intro w hSw;(try dsimp only at hSw);go_simp;try with_reducible rfl)
  try simp only[Act.put,zx2]
  refine tkA 14 rfl (v:=?v14) (zM3 ⟨by rfl,?h14⟩) ?_;case h14=>(intro w hSw;(try dsimp only at hSw);go_simp;try with_reducible rfl)
  try simp only[Act.put,zx2]
  refine tkA 15 rfl (v:=?v15) (zM3 ⟨by rfl,?h15⟩) ?_;case h15=>(intro w hSw;(try dsimp only at hSw);go_simp;try with_reducible rfl)
  try simp only[Act.put,zx2]
  refine tkA 16 rfl (v:=?v16) (zM3 ⟨by rfl,?h16⟩) ?_;case h16=>(intro w hSw;(try dsimp only at hSw);go_simp;try with_reducible rfl)
  try simp only[Act.put,zx2]
  refine wpAnyH_ready (rs:=[10,17]) (by kernel_rfl) (by simp) ?_;refine AllReadyH.cons rfl (λKz hKz=>?_) ?_;go_simp;refine hKz.out _ _ ?_ (λh9=>?_)
  . (try dsimp only);(first|(with_reducible (refine⟨?_,?_,?_⟩ <;> repeat (first|assumption|refine zg ?_|refine zj _ ?_|refine zk (by omega) ?_)))|go_keep)
  clear hKz Kz hHeld;have hHeld:=h9;try simp only[Act.put,zx2]
  refine wpAnyH_ready (rs:=[17]) (by kernel_rfl) (by simp) ?_;refine AllReadyH.cons rfl (λKz hKz=>?_) ?_;go_simp;first|go_at_K|(((go_at_call 148;refine HCo.o.mono ?_;rintro e w1 ⟨rfl,rfl⟩));first|go_at_K|go_wp2_with fail)
  refine hKz.out _ _ ?_ (λh9=>?_)
  . (try dsimp only);(first|(with_reducible (refine⟨?_,?_,?_⟩ <;> repeat (first|assumption|refine zg ?_|refine zj _ ?_|refine zk (by omega) ?_)))|go_keep)
  clear hKz Kz hHeld;have hHeld:=h9;try simp only[Act.put,zx2]
  refine wpAnyH_ready (rs:=[18]) (by kernel_rfl) (by simp) ?_;refine AllReadyH.cons rfl (λKz hKz=>?_) ?_;go_simp;refine hKz.out _ _ ?_ (λh9=>?_)
  . (try dsimp only);(first|(with_reducible (refine⟨?_,?_,?_⟩ <;> repeat (first|assumption|refine zg ?_|refine zj _ ?_|refine zk (by omega) ?_)))|go_keep)
  clear hKz Kz hHeld;have hHeld:=h9;try simp only[Act.put,zx2]
  refine wpAnyH_ready (rs:=[19]) (by kernel_rfl) (by simp) ?_;refine AllReadyH.cons rfl (λKz hKz=>?_) ?_
  ((refine zJ _ rfl (.tmp 27) (.tmp 35) 22 rfl B 2 i0 _ 1 8 underlying22 hi hi0 hi1 hi2 rfl (by decide) (.slice xc K.cells.length cpc) K.cells.length (zK K.cells) rfl (zD HI.cown _) (xD W.heap.size 0) 1 1 [xI ca] rfl rfl (zN (zc W _) rfl) znX mx by' (by simp;omega) ?_;intro v' w9 Hown9 hgrow Hnew9;obtain⟨g9,cap9,rfl,hg9⟩:=zM Hown9 (by omega);have HF9:=(Fr.of_grown hgrow).undrew;have hk9:=(HF9.block kb (by simp;omega) (λH=>by have:=(HI.cown.lt _ H).1;omega)).trans ((zWP _ _ _ (by omega)).trans HI.blk);have hw9:=(HF9.block wb (by simp;omega) (λH=>by have:=(HI.cown.lt _ H).1;omega)).trans ((zWP _ _ _ (by omega)).trans HI.wr);obtain⟨b0,bf,bz⟩:=zu hw9;obtain⟨q0,q1,q2,q3,q4,q5,qf,qz⟩:=zt hk9;have d5:=(zWS (w:=W) (a:=(xD b 5)) ((HF9.block b (by simp;omega) (λH=>by have:=(HI.cown.lt _ H).1;omega)).trans (zWP _ _ _ (by omega)))).trans t5;have f0:=(zWS (w:=W) (a:=(xD g 0)) ((HF9.block g (by simp;omega) (λH=>by have:=(HI.cown.lt _ H).1;omega)).trans (zWP _ _ _ (by omega)))).trans He0))
  refine hKz.out _ _ ?_ (λh9=>?_)
  . (try dsimp only);(first|(with_reducible (refine⟨?_,?_,?_⟩ <;> repeat (first|assumption|refine zg ?_|refine zj _ ?_|refine zk (by omega) ?_)))|go_keep)
  clear hKz Kz hHeld;have hHeld:=h9;try simp only[Act.put,zx2]
  refine tkA 20 rfl (v:=?v17) (zM3 ⟨by rfl,?h17⟩) ?_;case h17=>(intro w hSw;(try dsimp only at hSw);go_simp;try with_reducible rfl)
  try simp only[Act.put,zx2]
  refine tkA 21 rfl (v:=?v18) (zM3 ⟨by rfl,?h18⟩) ?_;case h18=>(intro w hSw;(try dsimp only at hSw);go_simp;try with_reducible rfl)
  try simp only[Act.put,zx2]
  refine wpAnyH_ready (rs:=[22]) (by kernel_rfl) (by simp) ?_;refine AllReadyH.cons rfl (λKz hKz=>?_) ?_;go_simp;refine hKz.out _ _ ?_ (λh9=>?_)
  . (try dsimp only);(first|(with_reducible (refine⟨?_,?_,?_⟩ <;> repeat (first|assumption|refine zg ?_|refine zj _ ?_|refine zk (by omega) ?_)))|go_keep)
  clear hKz Kz hHeld;have hHeld:=h9;try simp only[Act.put,zx2]
  refine wpAnyH_done (by kernel_rfl) ?_ _;rotate_left;exact AllReadyH.nil;exact AllReadyH.nil;exact AllReadyH.nil;exact AllReadyH.nil;refine AllReadyH.cons rfl (λKz hKz=>?_) ?_;go_simp;first|go_at_K|(((go_at_call 148;refine HCo.o.mono ?_;rintro e w1 ⟨rfl,rfl⟩));first|go_at_K|go_wp2_with fail)
  refine hKz.out _ _ ?_ (λh9=>?_)
  . (try dsimp only);(first|(with_reducible (refine⟨?_,?_,?_⟩ <;> repeat (first|assumption|refine zg ?_|refine zj _ ?_|refine zk (by omega) ?_)))|go_keep)
  clear hKz Kz hHeld;have hHeld:=h9;try simp only[Act.put,zx2]
  refine wpAnyH_ready (rs:=[10,18]) (by kernel_rfl) (by simp) ?_;refine AllReadyH.cons rfl (λKz hKz=>?_) ?_;go_simp;refine hKz.out _ _ ?_ (λh9=>?_)
  . (try dsimp only);(first|(with_reducible (refine⟨?_,?_,?_⟩ <;> repeat (first|assumption|refine zg ?_|refine zj _ ?_|refine zk (by omega) ?_)))|go_keep)
  clear hKz Kz hHeld;have hHeld:=h9;try simp only[Act.put,zx2]
  refine wpAnyH_ready (rs:=[18]) (by kernel_rfl) (by simp) ?_;refine AllReadyH.cons rfl (λKz hKz=>?_) ?_;go_simp;refine hKz.out _ _ ?_ (λh9=>?_)
  . (try dsimp only);(first|(with_reducible (refine⟨?_,?_,?_⟩ <;> repeat (first|assumption|refine zg ?_|refine zj _ ?_|refine zk (by omega) ?_)))|go_keep)
  clear hKz Kz hHeld;have hHeld:=h9;try simp only[Act.put,zx2]
  refine wpAnyH_ready (rs:=[19]) (by kernel_rfl) (by simp) ?_;refine AllReadyH.cons rfl (λKz hKz=>?_) ?_
  ((refine zJ _ rfl (.tmp 27) (.tmp 35) 22 rfl B 2 i0 _ 1 8 underlying22 hi hi0 hi1 hi2 rfl (by decide) (.slice xc K.cells.length cpc) K.cells.length (zK K.cells) rfl (zD HI.cown _) (xD W.heap.size 0) 1 1 [xI ca] rfl rfl (zN (zc W _) rfl) znX mx by' (by simp;omega) ?_;intro v' w9 Hown9 hgrow Hnew9;obtain⟨g9,cap9,rfl,hg9⟩:=zM Hown9 (by omega);have HF9:=(Fr.of_grown hgrow).undrew;have hk9:=(HF9.block kb (by simp;omega) (λH=>by have:=(HI.cown.lt _ H).1;omega)).trans ((zWP _ _ _ (by omega)).trans HI.blk);have hw9:=(HF9.block wb (by simp;omega) (λH=>by have:=(HI.cown.lt _ H).1;omega)).trans ((zWP _ _ _ (by omega)).trans HI.wr);obtain⟨b0,bf,bz⟩:=zu hw9;obtain⟨q0,q1,q2,q3,q4,q5,qf,qz⟩:=zt hk9;have d5:=(zWS (w:=W) (a:=(xD b 5)) ((HF9.block b (by simp;omega) (λH=>by have:=(HI.cown.lt _ H).1;omega)).trans (zWP _ _ _ (by omega)))).trans t5;have f0:=(zWS (w:=W) (a:=(xD g 0)) ((HF9.block g (by simp;omega) (λH=>by have:=(HI.cown.lt _ H).1;omega)).trans (zWP _ _ _ (by omega)))).trans He0))
  refine hKz.out _ _ ?_ (λh9=>?_)
  . (try dsimp only);(first|(with_reducible (refine⟨?_,?_,?_⟩ <;> repeat (first|assumption|refine zg ?_|refine zj _ ?_|refine zk (by omega) ?_)))|go_keep)
  clear hKz Kz hHeld;have hHeld:=h9;try simp only[Act.put,zx2]
  refine tkA 20 rfl (v:=?v19) (zM3 ⟨by rfl,?h19⟩) ?_;case h19=>(intro w hSw;(try dsimp only at hSw);go_simp;try with_reducible rfl)
  try simp only[Act.put,zx2]
  refine tkA 21 rfl (v:=?v20) (zM3 ⟨by rfl,?h20⟩) ?_;case h20=>(intro w hSw;(try dsimp only at hSw);go_simp;try with_reducible rfl)
  try simp only[Act.put,zx2]
  refine wpAnyH_ready (rs:=[22]) (by kernel_rfl) (by simp) ?_;refine AllReadyH.cons rfl (λKz hKz=>?_) ?_;go_simp;refine hKz.out _ _ ?_ (λh9=>?_)
  . (try dsimp only);(first|(with_reducible (refine⟨?_,?_,?_⟩ <;> repeat (first|assumption|refine zg ?_|refine zj _ ?_|refine zk (by omega) ?_)))|go_keep)
  clear hKz Kz hHeld;have hHeld:=h9;try simp only[Act.put,zx2]
  refine wpAnyH_done (by kernel_rfl) ?_ _;rotate_left;exact AllReadyH.nil;exact AllReadyH.nil;exact AllReadyH.nil;refine AllReadyH.cons rfl (λKz hKz=>?_) ?_;go_simp;refine hKz.out _ _ ?_ (λh9=>?_)
  . (try dsimp only);(first|(with_reducible (refine⟨?_,?_,?_⟩ <;> repeat (first|assumption|refine zg ?_|refine zj _ ?_|refine zk (by omega) ?_)))|go_keep)
  clear hKz Kz hHeld;have hHeld:=h9;try simp only[Act.put,zx2]
  refine wpAnyH_ready (rs:=[10]) (by kernel_rfl) (by simp) ?_;refine AllReadyH.cons rfl (λKz hKz=>?_) ?_;go_simp;refine hKz.out _ _ ?_ (λh9=>?_)
  . (try dsimp only);(first|(with_reducible (refine⟨?_,?_,?_⟩ <;> repeat (first|assumption|refine zg ?_|refine zj _ ?_|refine zk (by omega) ?_)))|go_keep)
  clear hKz Kz hHeld;have hHeld:=h9;try simp only[Act.put,zx2]
  refine wpAnyH_ready (rs:=[19]) (by kernel_rfl) (by simp) ?_;refine AllReadyH.cons rfl (λKz hKz=>?_) ?_
  ((refine zJ _ rfl (.tmp 27) (.tmp 35) 22 rfl B 2 i0 _ 1 8 underlying22 hi hi0 hi1 hi2 rfl (by decide) (.slice xc K.cells.length cpc) K.cells.length (zK K.cells) rfl (zD HI.cown _) (xD W.heap.size 0) 1 1 [xI ca] rfl rfl (zN (zc W _) rfl) znX mx by' (by simp;omega) ?_;intro v' w9 Hown9 hgrow Hnew9;obtain⟨g9,cap9,rfl,hg9⟩:=zM Hown9 (by omega);have HF9:=(Fr.of_grown hgrow).undrew;have hk9:=(HF9.block kb (by simp;omega) (λH=>by have:=(HI.cown.lt _ H).1;omega)).trans ((zWP _ _ _ (by omega)).trans HI.blk);have hw9:=(HF9.block wb (by simp;omega) (λH=>by have:=(HI.cown.lt _ H).1;omega)).trans ((zWP _ _ _ (by omega)).trans HI.wr);obtain⟨b0,bf,bz⟩:=zu hw9;obtain⟨q0,q1,q2,q3,q4,q5,qf,qz⟩:=zt hk9;have d5:=(zWS (w:=W) (a:=(xD b 5)) ((HF9.block b (by simp;omega) (λH=>by have:=(HI.cown.lt _ H).1;omega)).trans (zWP _ _ _ (by omega)))).trans t5;have f0:=(zWS (w:=W) (a:=(xD g 0)) ((HF9.block g (by simp;omega) (λH=>by have:=(HI.cown.lt _ H).1;omega)).trans (zWP _ _ _ (by omega)))).trans He0))
  refine hKz.out _ _ ?_ (λh9=>?_)
  . (try dsimp only);(first|(with_reducible (refine⟨?_,?_,?_⟩ <;> repeat (first|assumption|refine zg ?_|refine zj _ ?_|refine zk (by omega) ?_)))|go_keep)
  clear hKz Kz hHeld;have hHeld:=h9;try simp only[Act.put,zx2]
  refine tkA 20 rfl (v:=?v21) (zM3 ⟨by rfl,?h21⟩) ?_;case h21=>(intro w hSw;(try dsimp only at hSw);go_simp;try with_reducible rfl)
  try simp only[Act.put,zx2]
  refine tkA 21 rfl (v:=?v22) (zM3 ⟨by rfl,?h22⟩) ?_;case h22=>(intro w hSw;(try dsimp only at hSw);go_simp;try with_reducible rfl)
  try simp only[Act.put,zx2]
  refine wpAnyH_ready (rs:=[22]) (by kernel_rfl) (by simp) ?_;refine AllReadyH.cons rfl (λKz hKz=>?_) ?_;go_simp;refine hKz.out _ _ ?_ (λh9=>?_)
  . (try dsimp only);(first|(with_reducible (refine⟨?_,?_,?_⟩ <;> repeat (first|assumption|refine zg ?_|refine zj _ ?_|refine zk (by omega) ?_)))|go_keep)
  clear hKz Kz hHeld;have hHeld:=h9;try simp only[Act.put,zx2]
  refine wpAnyH_done (by kernel_rfl) ?_ _;rotate_left;exact AllReadyH.nil;exact AllReadyH.nil;exact AllReadyH.nil;exact AllReadyH.nil;exact AllReadyH.nil;all_goals refine NoPanic.normal ?_
  all_goals go_wp2_with fail
  all_goals go_meet
  all_goals have hC:=HI.celled HF9 Hown9 (λk e=>(Hnew9 k e).imp id (λH=>by have h':(W.alloc (.cells #[xI ca] 2)).heap.size<=k:=H;rw[zsb] at h';exact h'))
  all_goals exact HX.o.stepK hC.1 hC.2
 case rest =>
  have HX1:Hid (CX N B wb kb qb cb base c ev nv w w.heap.size (.cells #[xI (k.1:Nat),xI (k.2:Nat)] 161) lv (K.cell (zav a0)) ls wc):=hcut;go_upto_region 3 with fail;go_cut [] (λwx=>∃lv',Hid (CX N B wb kb qb cb base c ev nv w w.heap.size (.cells #[xI (k.1:Nat),xI (k.2:Nat)] 161) lv' (K.cell (zav a0)) (ls++[⟨K.cells.length,a1,k⟩]) wx));case first =>
   obtain⟨xs,Hrow,Hlts⟩:=HX1.o.wl.row;obtain⟨xl,cpl,rfl⟩:=zeR Hrow;obtain⟨m0,m1,m2,m3,m4,mf,mz⟩:=zcf HX1.o.wl.wi.qi.blk;have hO:=HX1.o.old H;obtain⟨t0,t1,t2,t3,t4,t5,tf,tz⟩:=zt ((hO b hb).trans HBk);have He1:=(zWS (w:=w) (a:=(xD g 1)) (hO g hgN)).trans He1;obtain⟨z0,z1,zf,zz⟩:=zp HX1.o.bx;have hnz:=HX1.o.nz;have HT1':=za (HT1.old hO);have hBz:B<=wc.heap.size:=(by obtain⟨_,_,_,HI⟩:=HX1.o.wl.wi.kw;exact HI.hB);have hNq:=HX1.o.wl.hNq;have hNk:=HX1.o.wl.wi.hNk;have hkB:=HX1.o.wl.wi.kw.kb;have Hbl:∀k',(Value.slice xl ls.length cpl).ownBlock=some k'->¬k'=b/\¬k'=g/\¬k'=w.heap.size/\¬k'=qb:=λk' e=>⟨λe'=>by have:=(Hrow.lt k' e).1;omega,λe'=>by have:=(Hrow.lt k' e).1;omega,λe'=>hnz ((HX1.o.wl.ct _).2 (zM4 (zM4 (e'▸e)))),(HX1.o.wl.dl k' e).2.1⟩;have hzq:¬w.heap.size=qb:=λe=>hnz ((HX1.o.wl.ct _).2 (zM4 (zM3 e)));have hbq:¬b=qb:=(by omega);have hgq:¬g=qb:=(by omega);refine wp_region_noPanic ?_;refine wp_region_held_drew (S:=(λw'=>w'.cell? (xD b 5)=some (xS g 2 cp)/\w'.cell? (xD g 1)=some (xP u1)/\w'.cell? (xD w.heap.size 0)=some (xI (k.1:Nat))/\w'.cell? (xD w.heap.size 1)=some (xI (k.2:Nat)))) (by kernel_rfl) ?_ (λhHeld=>?_)
   . (try dsimp only);(first|(with_reducible (refine⟨?_,?_,?_,?_⟩ <;> repeat (first|assumption|refine zg ?_|refine zj _ ?_|refine zk (by omega) ?_)))|go_keep)
   refine tkA 0 rfl (v:=?v23) (zM3 ⟨by rfl,?h23⟩) ?_;case h23=>(intro w hSw;(try dsimp only at hSw);go_simp;try with_reducible rfl)
   try simp only[Act.put,zx2]
   refine tkA 1 rfl (v:=?v24) (zM3 ⟨by rfl,?h24⟩) ?_;case h24=>(intro w hSw;(try dsimp only at hSw);go_simp;try with_reducible rfl)
   try simp only[Act.put,zx2]
   refine tkA 2 rfl (v:=?v25) (zM3 ⟨by rfl,?h25⟩) ?_;case h25=>(intro w hSw;(try dsimp only at hSw);go_simp;try with_reducible rfl)
   try simp only[Act.put,zx2]
   refine tkA 3 rfl (v:=?v26) (zM3 ⟨by rfl,?h26⟩) ?_;case h26=>(intro w hSw;(try dsimp only at hSw);go_simp;try with_reducible rfl)
   try simp only[Act.put,zx2]
   refine tkA 5 rfl (v:=?v27) (zM3 ⟨by rfl,?h27⟩) ?_;case h27=>(intro w hSw;(try dsimp only at hSw);go_simp;try with_reducible rfl)
   try simp only[Act.put,zx2]
   refine tkA 6 rfl (v:=?v28) (zM3 ⟨by rfl,?h28⟩) ?_;case h28=>(intro w hSw;(try dsimp only at hSw);go_simp;try with_reducible rfl)
   try simp only[Act.put,zx2]
   refine tkA 7 rfl (v:=?v29) (zM3 ⟨by rfl,?h29⟩) ?_;case h29=>(intro w hSw;(try dsimp only at hSw);go_simp;try with_reducible rfl)
   try simp only[Act.put,zx2]
   refine tkA 8 rfl (v:=?v30) (zM3 ⟨by rfl,?h30⟩) ?_;case h30=>(intro w hSw;(try dsimp only at hSw);go_simp;try with_reducible rfl)
   try simp only[Act.put,zx2]
   refine tkA 9 rfl (v:=?v31) (zM3 ⟨by rfl,?h31⟩) ?_;case h31=>(intro w hSw;(try dsimp only at hSw);go_simp;try with_reducible rfl)
   try simp only[Act.put,zx2]
   refine tkA 10 rfl (v:=?v32) (zM3 ⟨by rfl,?h32⟩) ?_;case h32=>(intro w hSw;(try dsimp only at hSw);go_simp;try with_reducible rfl)
   try simp only[Act.put,zx2]
   refine tkA 11 rfl (v:=?v33) (zM3 ⟨by rfl,?h33⟩) ?_;case h33=>(intro w hSw;(try dsimp only at hSw);go_simp;try with_reducible rfl)
   try simp only[Act.put,zx2]
   refine tkA 12 rfl (v:=?v34) (zM3 ⟨by rfl,?h34⟩) ?_;case h34=>(intro w hSw;(try dsimp only at hSw);go_simp;try with_reducible rfl)
   try simp only[Act.put,zx2]
   refine tkA 13 rfl (v:=?v35) (zM3 ⟨by rfl,?h35⟩) ?_;case h35=>(intro w hSw;(try dsimp only at hSw);go_simp;try with_reducible rfl)
   try simp only[Act.put,zx2]
   refine wpAnyH_ready (rs:=[4,14]) (by kernel_rfl) (by simp) ?_;refine AllReadyH.cons rfl (λKz hKz=>?_) ?_;go_simp;refine hKz.out _ _ ?_ (λh9=>?_)
   . (try dsimp only);(first|(with_reducible (refine⟨?_,?_,?_,?_⟩ <;> repeat (first|assumption|refine zg ?_|refine zj _ ?_|refine zk (by omega) ?_)))|go_keep)
   clear hKz Kz hHeld;have hHeld:=h9;try simp only[Act.put,zx2]
   refine wpAnyH_ready (rs:=[14]) (by kernel_rfl) (by simp) ?_;refine AllReadyH.cons rfl (λKz hKz=>?_) ?_;go_simp;refine hKz.out _ _ ?_ (λh9=>?_)
   . (try dsimp only);(first|(with_reducible (refine⟨?_,?_,?_,?_⟩ <;> repeat (first|assumption|refine zg ?_|refine zj _ ?_|refine zk (by omega) ?_)))|go_keep)
   clear hKz Kz hHeld;have hHeld:=h9;try simp only[Act.put,zx2]
   refine wpAnyH_ready (rs:=[15]) (by kernel_rfl) (by simp) ?_;refine AllReadyH.cons rfl (λKz hKz=>?_) ?_
   ((refine ze4 _ rfl (.tmp 43) (.tmp 53) 91 rfl B 169 j0 _ 4 32 underlying91 hj hj0 hj1 hj2 rfl (by decide) (.slice xl ls.length cpl) ls.length xs rfl (zbM Hrow (λk' _ hk' _=>zWP _ _ _ hk')) (xD wc.heap.size 0) 1 1 [xI (K.cells.length:Int),xP u1,xI (k.1:Nat),xI (k.2:Nat)] rfl rfl (zN (zc wc _) rfl) zqE mx2 by2 (by simp;omega) ?_;intro v' w9 Hown9 hgrow Hnew9;obtain⟨x9,cp9,rfl⟩:=zeR Hown9;have HF9:=(Fr.of_grown hgrow).undrew;have hk9:=(HF9.block qb (by simp;omega) (λH=>(Hbl _ H).2.2.2 rfl)).trans ((zWP _ _ _ mz).trans HX1.o.wl.wi.qi.blk);obtain⟨q0,q1,q2,q3,q4,qf,qz⟩:=zcf hk9;have d5:=(zWS (w:=wc) (a:=(xD b 5)) ((HF9.block b (by simp;omega) (λH=>(Hbl _ H).1 rfl)).trans (zWP _ _ _ tz))).trans t5;have f1:=(zWS (w:=wc) (a:=(xD g 1)) ((HF9.block g (by simp;omega) (λH=>(Hbl _ H).2.1 rfl)).trans (zWP _ _ _ (by omega)))).trans He1;have y0:=(zWS (w:=wc) (a:=(xD w.heap.size 0)) ((HF9.block w.heap.size (by simp;omega) (λH=>(Hbl _ H).2.2.1 rfl)).trans (zWP _ _ _ zz))).trans z0;have y1:=(zWS (w:=wc) (a:=(xD w.heap.size 1)) ((HF9.block w.heap.size (by simp;omega) (λH=>(Hbl _ H).2.2.1 rfl)).trans (zWP _ _ _ zz))).trans z1))
   refine hKz.out _ _ ?_ (λh9=>?_)
   . (try dsimp only);(first|(with_reducible (refine⟨?_,?_,?_,?_⟩ <;> repeat (first|assumption|refine zg ?_|refine zj _ ?_|refine zk (by omega) ?_)))|go_keep)
   clear hKz Kz hHeld;have hHeld:=h9;try simp only[Act.put,zx2]
   refine tkA 16 rfl (v:=?v36) (zM3 ⟨by rfl,?h36⟩) ?_;case h36=>(intro w hSw;(try dsimp only at hSw);go_simp;try with_reducible rfl)
   try simp only[Act.put,zx2]
   refine tkA 17 rfl (v:=?v37) (zM3 ⟨by rfl,?h37⟩) ?_;case h37=>(intro w hSw;(try dsimp only at hSw);go_simp;try with_reducible rfl)
   try simp only[Act.put,zx2]
   refine wpAnyH_ready (rs:=[18]) (by kernel_rfl) (by simp) ?_;refine AllReadyH.cons rfl (λKz hKz=>?_) ?_;go_simp;refine hKz.out _ _ ?_ (λh9=>?_)
   . (try dsimp only);(first|(with_reducible (refine⟨?_,?_,?_,?_⟩ <;> repeat (first|assumption|refine zg ?_|refine zj _ ?_|refine zk (by omega) ?_)))|go_keep)
   clear hKz Kz hHeld;have hHeld:=h9;try simp only[Act.put,zx2]
   refine wpAnyH_done (by kernel_rfl) ?_ _;rotate_left;exact AllReadyH.nil;exact AllReadyH.nil;exact AllReadyH.nil;refine AllReadyH.cons rfl (λKz hKz=>?_) ?_;go_simp;refine hKz.out _ _ ?_ (λh9=>?_)
   . (try dsimp only);(first|(with_reducible (refine⟨?_,?_,?_,?_⟩ <;> repeat (first|assumption|refine zg ?_|refine zj _ ?_|refine zk (by omega) ?_)))|go_keep)
   clear hKz Kz hHeld;have hHeld:=h9;try simp only[Act.put,zx2]
   refine wpAnyH_ready (rs:=[4]) (by kernel_rfl) (by simp) ?_;refine AllReadyH.cons rfl (λKz hKz=>?_) ?_;go_simp;refine hKz.out _ _ ?_ (λh9=>?_)
   . (try dsimp only);(first|(with_reducible (refine⟨?_,?_,?_,?_⟩ <;> repeat (first|assumption|refine zg ?_|refine zj _ ?_|refine zk (by omega) ?_)))|go_keep)
   clear hKz Kz hHeld;have hHeld:=h9;try simp only[Act.put,zx2]
   refine wpAnyH_ready (rs:=[15]) (by kernel_rfl) (by simp) ?_;refine AllReadyH.cons rfl (λKz hKz=>?_) ?_
   ((refine ze4 _ rfl (.tmp 43) (.tmp 53) 91 rfl B 169 j0 _ 4 32 underlying91 hj hj0 hj1 hj2 rfl (by decide) (.slice xl ls.length cpl) ls.length xs rfl (zbM Hrow (λk' _ hk' _=>zWP _ _ _ hk')) (xD wc.heap.size 0) 1 1 [xI (K.cells.length:Int),xP u1,xI (k.1:Nat),xI (k.2:Nat)] rfl rfl (zN (zc wc _) rfl) zqE mx2 by2 (by simp;omega) ?_;intro v' w9 Hown9 hgrow Hnew9;obtain⟨x9,cp9,rfl⟩:=zeR Hown9;have HF9:=(Fr.of_grown hgrow).undrew;have hk9:=(HF9.block qb (by simp;omega) (λH=>(Hbl _ H).2.2.2 rfl)).trans ((zWP _ _ _ mz).trans HX1.o.wl.wi.qi.blk);obtain⟨q0,q1,q2,q3,q4,qf,qz⟩:=zcf hk9;have d5:=(zWS (w:=wc) (a:=(xD b 5)) ((HF9.block b (by simp;omega) (λH=>(Hbl _ H).1 rfl)).trans (zWP _ _ _ tz))).trans t5;have f1:=(zWS (w:=wc) (a:=(xD g 1)) ((HF9.block g (by simp;omega) (λH=>(Hbl _ H).2.1 rfl)).trans (zWP _ _ _ (by omega)))).trans He1;have y0:=(zWS (w:=wc) (a:=(xD w.heap.size 0)) ((HF9.block w.heap.size (by simp;omega) (λH=>(Hbl _ H).2.2.1 rfl)).trans (zWP _ _ _ zz))).trans z0;have y1:=(zWS (w:=wc) (a:=(xD w.heap.size 1)) ((HF9.block w.heap.size (by simp;omega) (λH=>(Hbl _ H).2.2.1 rfl)).trans (zWP _ _ _ zz))).trans z1))
   refine hKz.out _ _ ?_ (λh9=>?_)
   . (try dsimp only);(first|(with_reducible (refine⟨?_,?_,?_,?_⟩ <;> repeat (first|assumption|refine zg ?_|refine zj _ ?_|refine zk (by omega) ?_)))|go_keep)
   clear hKz Kz hHeld;have hHeld:=h9;try simp only[Act.put,zx2]
   refine tkA 16 rfl (v:=?v38) (zM3 ⟨by rfl,?h38⟩) ?_;case h38=>(intro w hSw;(try dsimp only at hSw);go_simp;try with_reducible rfl)
   try simp only[Act.put,zx2]
   refine tkA 17 rfl (v:=?v39) (zM3 ⟨by rfl,?h39⟩) ?_;case h39=>(intro w hSw;(try dsimp only at hSw);go_simp;try with_reducible rfl)
   try simp only[Act.put,zx2]
   refine wpAnyH_ready (rs:=[18]) (by kernel_rfl) (by simp) ?_;refine AllReadyH.cons rfl (λKz hKz=>?_) ?_;go_simp;refine hKz.out _ _ ?_ (λh9=>?_)
   . (try dsimp only);(first|(with_reducible (refine⟨?_,?_,?_,?_⟩ <;> repeat (first|assumption|refine zg ?_|refine zj _ ?_|refine zk (by omega) ?_)))|go_keep)
   clear hKz Kz hHeld;have hHeld:=h9;try simp only[Act.put,zx2]
   refine wpAnyH_done (by kernel_rfl) ?_ _;rotate_left;exact AllReadyH.nil;exact AllReadyH.nil;exact AllReadyH.nil;exact AllReadyH.nil;all_goals refine NoPanic.normal ?_
   all_goals go_wp2_with fail
   all_goals go_meet
   all_goals have hC:=HX1.o.wl.put ⟨K.cells.length,a1,k⟩ (xP u1) HT1'.o HF9 xs Hlts Hown9 (λk' e=>(Hnew9 k' e).imp id (λH=>by have h':(wc.alloc (.cells #[xI (K.cells.length:Int),xP u1,xI (k.1:Nat),xI (k.2:Nat)] 169)).heap.size<=k':=H;rw[zsb] at h';exact h'))
   all_goals exact⟨_,HX1.o.stepL hC.1 hC.2⟩
  case rest => obtain⟨lv',HX2⟩:=hcut;go_wp2_with (go_at_call 29;refine (HX2.o.add 3 (K.cells.length:Int) hr).mono ?_;rintro e w3 ⟨rfl,HX3⟩);go_end0;rw[<- HKf];exact⟨rfl,⟨_,HX3.wl⟩,HX3.ft⟩
end
section
variable {ns:List Nod} {N:Nat}
attribute [local go_sem ↓] Go.wp_at_zero Go.wp_at_succ
theorem NL.ne {w:Xw}{gv:Xv}{xs:Xm}(h:NL w N ns gv xs):NE w N ns gv:=by
 have hc:=h.own;rcases h.own.2 with ⟨h1,h2⟩|⟨g,cap,cur,hv,_,_,h3,h4,_⟩
 . exact⟨none,0,by rw[h1,h2],by omega,by omega,λhne=>absurd (List.length_eq_zero_iff.1 h2) hne⟩
 subst hv;refine⟨some (xD g 0),cap,rfl,h3,by unfold maxLen at h4;omega,λ_=>⟨g,rfl,h.lo g rfl,λi n hi=>?_⟩⟩;obtain⟨u,hu,hnp⟩:=h.at' i n hi;have:=hc.cells (g:=g) rfl i u hu;have e0:((xD g 0):Addr).add i=⟨g,i,none⟩:=by cases i <;> simp[Addr.add]
 rw[e0] at this;exact⟨u,this,hnp⟩
theorem zh3 {pv:Xv}(k:Nat)(n:Nod)(w:Xw)(h:PT w N ns pv)(hN:N<=w.heap.size)(hk:ns[k]?=some n) :
 xK 28 #[pv,xI k] w (λe w'=>∃x cp nb,e=.returned (.agg #[.slice x k cp,xP nb])/\ScV w' N ⟨ns.take k,n⟩ (.slice x k cp) (xP nb)/\xB w w'):=by
 obtain⟨gb,gv,xs,rfl,hgb,hg,hl⟩:=h;have hlt:=(zMJ.1 hk).1;have hE:=hl.ne;have h6:=hl.few;obtain⟨x,cp,rfl,hcp,hmx,hin⟩:=hl.ne;obtain⟨g,rfl,hgN,hat⟩:=hin (by intro e;rw[e] at hlt;simp at hlt);obtain⟨u,hu,hnp⟩:=hat k n hk;have HNP:=za hnp;have HE:=za (hE.take hlt);obtain⟨nb,vs,qv,xs',rfl,hnt⟩:=hnp;obtain⟨p0,pf,pz⟩:=zu hg;have i1:(k:Int)<=(cp:Int):=by omega
 have i0:(0:Int)<=(k:Int):=by omega
 have i2:(k:Int)<(ns.length:Int):=by omega
 have hgw:g<w.heap.size:=by omega
 clear hE hin hat hnt hl hg hk;go_enter func28,ntmps28;go_wp2_with fail;refine zn (λW=>W=w.alloc (.cells #[.slice none 0 0,.pointer none] 79 (0,0))/\True) ⟨rfl,trivial⟩ ?_;rintro W ⟨hW,_⟩;have HW:=za (hW▸zq w (.cells #[.slice none 0 0,.pointer none] 79 (0,0)):xB w W);obtain⟨r0,r1,rf,rz⟩:=zp (hW▸zc w (.cells #[.slice none 0 0,.pointer none] 79 (0,0)):W.heap[w.heap.size]?=_);have s0:=zd HW.o p0 pz;have s1:=zd HW.o hu hgw;have hn1:¬w.heap.size=gb:=by omega
 have hn2:¬w.heap.size=g:=by omega
 have hn3:¬gb=w.heap.size:=by omega
 have hn4:¬g=w.heap.size:=by omega
 clear hW p0 hu;go_region_held3 (λw'=>w'.cell? (xD gb 0)=some (xS g ns.length cp)/\w'.cell? (xD g k)=some (xP nb)) (go_keep) (fail);go_wp2_with fail;have hBn:=zo (zC (i:=1) (zC (b:=w.heap.size) (i:=0) HW.o (zMK _) (xS g k cp)) (b:=w.heap.size) (zMK _) (xP nb));refine zWR (v:=.agg #[xS g k cp,xP nb]) (by simp[results,results28,go_sem,r0,r1]) rfl ⟨_,_,_,rfl,?_,hBn⟩;exact⟨HE.o.old (zm hBn hN),HNP.o.old (zm hBn hN)⟩
end
end Go.Proofs.YtenadialhccdiaaGreatDoor
