/- Part 23 of the proof. -/
import Derived.Test.YtbicmofihhjgbaaGreatDoorK19
set_option maxRecDepth 100000
set_option maxHeartbeats 8000000
namespace Go.Proofs.YtbicmofihhjgbaaGreatDoor
open Go.Proofs.Tryz
open Go.RowKit
section
variable {N cb k:Nat} {c:Sc} {ev nv:Xv} {v:Vr} {W:Xw}
attribute [local go_sem ↓] Go.wp_at_zero Go.wp_at_succ
theorem znZ (hv:c.nd.vars[k]?=some v)(h:zaA v=0):c.of k=(0,0):=by unfold Sc.of;rw[hv];exact zM2 h
theorem znq (hv:c.nd.vars[k]?=some v)(h:¬zaA v=0):c.of k=(c.idx v.ck,zaA v):=by unfold Sc.of;rw[hv];exact zM1 h
theorem zkk (h:zbn W cb pr (ckL c k)) :
 ∃W1 W2,(Instr.mapUpdate 123 (.map (some cb)) (.agg #[xI (k:Int),xI 1]) (.agg #[xI ((c.of k).1:Nat),xI ((c.of k).2:Nat)])).run prog W=.ok () W1/\Fr (·=cb) W W1/\(Instr.mapUpdate 123 (.map (some cb)) (.agg #[xI (k:Int),xI 2]) (.agg #[xI ((c.of k).1:Nat),xI ((c.of k).2:Nat)])).run prog W1=.ok () W2/\Fr (·=cb) W1 W2/\zbn W2 cb pr (ckL c (k+1)):=by
 obtain⟨W1,r1,m1,f1⟩:=zgh Tryz.keyClock underlying123 h ((k:Int),1) (pr (clk (c.of k)));rw[zng] at m1;obtain⟨W2,r2,m2,f2⟩:=zgh Tryz.keyClock underlying123 m1 ((k:Int),2) (pr (clk (c.of k)));rw[zn3] at m2;exact⟨W1,W2,r1,f1,r2,f2,m2⟩
theorem zbR {w W1:Xw}(h:xB w W)(hf:Fr (·=cb) W W1)(hcb:w.heap.size<=cb):xB w W1 :=
 ⟨hf.os.trans h.os,hf.tape.trans h.tape,hf.output.trans h.output,zMO h.size hf.size,λk hk=>(hf.block k (zM9 hk h.size) (by omega)).trans (h.block k hk)⟩
theorem zeC (w:Xw)(h:ScV w N c ev nv)(hN:N<=w.heap.size) :
 xK 99 #[.agg #[ev,nv]] w (λe w'=>∃cb,e=.returned (.map (some cb))/\w.heap.size<=cb/\za7 w' c cb/\xB w w'):=by
 obtain⟨xe,cpe,nb,rfl,rfl,hnb⟩:=h.shape;have HSc:=za h;obtain⟨nb',vs,qv,xs,e9,hnt⟩:=h.nd;cases e9;obtain⟨xv,cpv,rfl⟩:=zB hnt.vown;obtain⟨xq,cpq,rfl⟩:=zB hnt.own;obtain⟨m0,m1,m2,m3,m4,m5,mf,mz⟩:=zt hnt.blk;have HNt:=za hnt;have hfew:=hnt.few;have hmm:=@run_makeMap prog;have hnw:nb<w.heap.size:=by omega
 have hA:∀o1 o2,((w.alloc o1).alloc o2).heap[w.heap.size]?=some o1/\((w.alloc o1).alloc o2).heap[w.heap.size+1]?=some o2:=λo1 o2=>zd8 w o1 o2;have HA:=za hA;clear h hnt hA;go_enter func99,ntmps99;go_wp2_with fail;go_loopg [14] (c.nd.vars.length+1) (λj x wr=>∃k:Nat,k+j=c.nd.vars.length+1/\k<=c.nd.vars.length/\x=xI k/\Hid (zbn wr (w.heap.size+1) pr (ckL c k))/\Hid (xH wr w.heap.size #[xE xe c cpe,xP nb] 114)/\Hid (xB w wr));case atStart=>exact⟨0,by omega,zMN _,rfl,⟨#[],0,(HA.o _ _).2,rfl⟩,(HA.o _ _).1,zaD w _ _⟩
 case round =>
  clear HA m0 m1 m2 m3 m4 m5 mf mz hmm;obtain⟨k,hkj,hk,rfl,HM,HX,HB⟩:=hrel;have hO:=zm HB.o hN;by_cases hlt:k<c.nd.vars.length
  . obtain⟨v,hv⟩:∃v,c.nd.vars[k]?=some v:=⟨_,zsc hlt⟩;obtain⟨g,rfl,c0,c1,c2,c3,c4,c5,c6⟩:=zaM (HNt.o.old hO).vown hv;have hgN:=HNt.o.vlo g rfl;obtain⟨s0,s1,sf,sz⟩:=zp HX.o;have hzr:=HM.o.lt;have HSr:=za (HSc.o.old hO);have hwz:=HB.o.size;have hA:=zd8 wr (.cells #[.string v.nm,xI v.a,xI (zaK v:Nat),xI (zaA v:Nat),xI v.on,.string v.ck,xI v.ca] 134) (.cells #[xI 0,xI 0] 198);have HA:=za hA;have HV:=za hv;clear hA hO hv;by_cases hsg:zaA v=0
    . have hsg':(zaA v:Int)=0:=(by omega);have ho:=znZ HV.o hsg;rw[hsg] at c3 HA;have HO:=za ho;clear ho hsg hsg';go_upto_region 8 with fail;refine zn (λW=>zbn W (w.heap.size+1) pr (ckL c k)/\xH W (wr.heap.size+1) #[xI ((c.of k).1:Nat),xI ((c.of k).2:Nat)] 198/\xB w W/\xH W w.heap.size #[xE xe c cpe,xP nb] 114) ⟨HM.o.of ((zaD wr _ _).block _ hzr),by rw[HO.o];exact HA.o.2,HB.o.trans ((zaD wr _ _).mono hwz),(Below.block (zaD wr _ _) _ sz).trans HX.o⟩ ?_;rintro W ⟨hMW,hZW,hBW,hXW⟩;obtain⟨W1,W2,r1,f1,r2,f2,m2⟩:=zkk hMW;obtain⟨o0,o1,of,oz⟩:=zp hZW;have hne:¬wr.heap.size+1=w.heap.size+1:=(by omega);obtain⟨p0,p1,pf,pz⟩:=zp ((f1.block _ oz hne).trans hZW);have HM2:=za m2;have HB2:=za (zbR (zbR hBW f1 (by omega)) f2 (by omega));have HX2:Hid (xH W2 w.heap.size #[xE xe c cpe,xP nb] 114):=(f2.block _ (by have:=f1.size;have:=ze hXW;omega) (by omega)).trans ((f1.block _ (ze hXW) (by omega)).trans hXW);clear hMW hZW hBW hXW f1 f2 m2;go_wp2_with fail;go_roundg (gk-1);case measure=>omega
      exact⟨k+1,by omega,by omega,by go_num,HM2.o,HX2.o,HB2.o⟩
    have hsg':¬(zaA v:Int)=0:=(by omega);have ho:=znq HV.o hsg;have HO:=za ho;clear ho hsg;go_upto_region 7 with fail;refine zn (λW=>zbn W (w.heap.size+1) pr (ckL c k)/\xB w W/\xH W w.heap.size #[xE xe c cpe,xP nb] 114/\xH W wr.heap.size #[.string v.nm,xI v.a,xI (zaK v:Nat),xI (zaA v:Nat),xI v.on,.string v.ck,xI v.ca] 134/\xH W (wr.heap.size+1) #[xI 0,xI 0] 198) ⟨HM.o.of ((zaD wr _ _).block _ hzr),HB.o.trans ((zaD wr _ _).mono hwz),(Below.block (zaD wr _ _) _ sz).trans HX.o,HA.o.1,HA.o.2⟩ ?_;rintro W ⟨hMW,hBW,hXW,hVW,hZW⟩;obtain⟨s0,s1,sf,sz⟩:=zp hXW;obtain⟨v0,v1,v2,v3,v4,v5,v6,vf,vz⟩:=zbZ hVW;obtain⟨z0,z1,zf,zz⟩:=zp hZW;have hWz:w.heap.size<=W.heap.size:=hBW.size;have HIx:=za (zaz v.ck (v.ca:Int) W.drew (HSc.o.old (zm (zo hBW) hN)) (by show N<=W.heap.size;omega));have HMW:=za hMW;have HBW:=za hBW;have HXW:=za hXW;have HZW:=za hZW;clear hMW hBW hXW hVW hZW v0 v1 v2 v4 vf c0 c1 c2 c3 c4 c5 c6
    go_region_held3 (λw'=>w'.cell? (xD w.heap.size 0)=some (xE xe c cpe)/\w'.cell? (xD w.heap.size 1)=some (xP nb)/\w'.cell? (xD wr.heap.size 3)=some (xI (zaA v:Nat))/\w'.cell? (xD wr.heap.size 5)=some (.string v.ck)/\w'.cell? (xD wr.heap.size 6)=some (xI v.ca))
     (first|(with_reducible (refine⟨?_,?_,?_,?_,?_⟩ <;> repeat (first|assumption|refine zg ?_|refine zj _ ?_|refine zk (by omega) ?_|refine zd HB1.o ?_ (by first|omega|(rw[zsb];omega)))))|go_keep)
     (first|(go_at_call 105;refine HIx.o.mono ?_;rintro e w1 ⟨rfl,hB1⟩;have HB1:=za (zw hB1);have hz1:=hB1.size;have y0:=zd HB1.o z0 zz;have y1:=zd HB1.o z1 zz;have yf:=zai ((HB1.o.block _ zz).trans HZW.o);clear hB1))
    go_upto_region 8 with fail;refine zn (λW=>zbn W (w.heap.size+1) pr (ckL c k)/\xH W (wr.heap.size+1) #[xI ((c.of k).1:Nat),xI ((c.of k).2:Nat)] 198/\xB w W/\xH W w.heap.size #[xE xe c cpe,xP nb] 114) ⟨HMW.o.of (zr (by omega) (zr (by omega) (HB1.o.block _ HMW.o.lt))),by rw[HO.o];exact zdR ((HB1.o.block _ zz).trans HZW.o) _ _,zC (zC (HBW.o.trans (HB1.o.mono hWz)) (by omega) _) (by omega) _,zr (by omega) (zr (by omega) ((HB1.o.block _ sz).trans HXW.o))⟩ ?_;clear s0 s1 sf v3 v5 v6 z0 z1 zf y0 y1 yf;rintro W ⟨hMW,hZW,hBW,hXW⟩;obtain⟨W1,W2,r1,f1,r2,f2,m2⟩:=zkk hMW;obtain⟨o0,o1,of,oz⟩:=zp hZW;have hne:¬wr.heap.size+1=w.heap.size+1:=(by omega);obtain⟨p0,p1,pf,pz⟩:=zp ((f1.block _ oz hne).trans hZW);have HM2:=za m2;have HB2:=za (zbR (zbR hBW f1 (by omega)) f2 (by omega));have HX2:Hid (xH W2 w.heap.size #[xE xe c cpe,xP nb] 114):=(f2.block _ (by have:=f1.size;have:=ze hXW;omega) (by omega)).trans ((f1.block _ (ze hXW) (by omega)).trans hXW);clear hMW hZW hBW hXW f1 f2 m2;go_wp2_with fail;go_roundg (gk-1);case measure=>omega
    exact⟨k+1,by omega,by omega,by go_num,HM2.o,HX2.o,HB2.o⟩
  have ek:k=c.nd.vars.length:=by omega
  subst ek;go_wp2_with fail;go_ret;exact⟨_,rfl,by omega,HM.o,HB.o⟩
theorem zjV (t:Tm)(v:Xv)(i:Nat)(k:Nat×Nat)(w:Xw)(hT:TT w N t v)(HSc:ScV w N c ev nv)(HCk:za7 w c cb)(hN:N<=w.heap.size) :
 xK 176 #[.map (some cb),.agg #[ev,nv],v,xI (i:Int),.agg #[xI (k.1:Nat),xI (k.2:Nat)]] w (λe w'=>e=.returned (.agg #[xI ((c.operand t i k).1:Nat),xI ((c.operand t i k).2:Nat)])/\xB w w'):=by
 obtain⟨xe,cpe,nb,rfl,rfl,hnb⟩:=HSc.shape;obtain⟨b,args,vs,rfl,hb,HBk,_⟩:=hT.ptr;have hbz:=ze HBk;clear hT;go_enter func176,ntmps176;go_upto_region 1 with fail;refine zn (λW=>(ScV W N c (xE xe c cpe) (xP nb)/\za7 W c cb/\xB w W)/\xH W w.heap.size #[xE xe c cpe,xP nb] 114/\xH W (w.heap.size+1) #[xI (k.1:Nat),xI (k.2:Nat)] 198/\xH W (w.heap.size+1+1) #[xI 0,xI 0] 198) ⟨⟨HSc.old (zot hN _ _ _),HCk.keep (zcz w _ _ _),zcz w _ _ _⟩,(al3 w _ _ _).1,(al3 w _ _ _).2.1,(al3 w _ _ _).2.2⟩ ?_;rintro W ⟨⟨HSW,HCW,HBW⟩,hXW,hYW,HZW⟩;obtain⟨s0,s1,sf,sz⟩:=zp hXW;obtain⟨k0,k1,kf,kz⟩:=zp hYW;obtain⟨z0,z1,zf,zz⟩:=zp HZW;obtain⟨m0,m1,m2,m3,m4,m5,mf,mz⟩:=zt ((HBW.block b hbz).trans HBk);have hWz:w.heap.size<=W.heap.size:=HBW.size;have HIx:=za (zaz t.s (t.nm:Int) W.drew (HSW.old (λ_ _=>rfl)) (by show N<=W.heap.size;omega));clear hXW hYW m1 m4 m5;by_cases h7:t.k=7
 . have hk:=h7;have HO:c.operand t i k=c.of (c.idx t.s):=zM2 (zM3 hk);have m0':W.cell? (xD b 0)=some (xI 7):=by rw[m0,hk];rfl
   clear m0 hk h7;go_upto_region 4 with fail
   go_region_held3 (λw'=>w'.cell? (xD w.heap.size 0)=some (xE xe c cpe)/\w'.cell? (xD w.heap.size 1)=some (xP nb)/\w'.cell? (xD b 2)=some (.string t.s)/\w'.cell? (xD b 3)=some (xI t.nm))
    (first|(with_reducible (refine⟨?_,?_,?_,?_⟩ <;> repeat (first|assumption|refine zg ?_|refine zj _ ?_|refine zk (by omega) ?_|refine zd HB2.o ?_ (by first|omega|(rw[zsb];omega))|refine zd HB1.o ?_ (by first|omega|(rw[zsb];omega)))))|go_keep)
    (first
      | (go_at_call 104;refine HOf.o.mono ?_;rintro e w2 ⟨rfl,hB2⟩;have HB2:=za hB2;have hz2:w1.heap.size<=w2.heap.size:=hB2.size;have y0:=zd HB2.o (zd HB1.o z0 zz) (by omega);have y1:=zd HB2.o (zd HB1.o z1 zz) (by omega);have yf:=zai ((HB2.o.block _ (by omega)).trans ((HB1.o.block _ zz).trans HZW));clear hB2)
      | (go_at_call 105;refine HIx.o.mono ?_;rintro e w1 ⟨rfl,hB1⟩;have HB1:=za (zw hB1);have hz1:W.heap.size<=w1.heap.size:=hB1.size;have HOf:=za (zbC (c.idx t.s) w1 (HCW.keep HB1.o));clear hB1))
   go_wp2_with fail;rw[HO];refine bodyPost_ret (v:=.agg #[xI ((c.of (c.idx t.s)).1:Nat),xI ((c.of (c.idx t.s)).2:Nat)]) (by simp[results,results176,go_sem,y0,y1]) rfl ⟨rfl,zC (zC (HBW.trans ((HB1.o.trans (HB2.o.mono hz1)).mono hWz)) (by omega) _) (by omega) _⟩
 by_cases h8:t.k=8
 . have hk:=h8;have HO:c.operand t i k=c.of (c.idx t.s):=zM2 (zM4 hk);have m0':W.cell? (xD b 0)=some (xI 8):=by rw[m0,hk];rfl
   clear m0 hk h7 h8;go_upto_region 4 with fail
   go_region_held3 (λw'=>w'.cell? (xD w.heap.size 0)=some (xE xe c cpe)/\w'.cell? (xD w.heap.size 1)=some (xP nb)/\w'.cell? (xD b 2)=some (.string t.s)/\w'.cell? (xD b 3)=some (xI t.nm))
    (first|(with_reducible (refine⟨?_,?_,?_,?_⟩ <;> repeat (first|assumption|refine zg ?_|refine zj _ ?_|refine zk (by omega) ?_|refine zd HB2.o ?_ (by first|omega|(rw[zsb];omega))|refine zd HB1.o ?_ (by first|omega|(rw[zsb];omega)))))|go_keep)
    (first
      | (go_at_call 104;refine HOf.o.mono ?_;rintro e w2 ⟨rfl,hB2⟩;have HB2:=za hB2;have hz2:w1.heap.size<=w2.heap.size:=hB2.size;have y0:=zd HB2.o (zd HB1.o z0 zz) (by omega);have y1:=zd HB2.o (zd HB1.o z1 zz) (by omega);have yf:=zai ((HB2.o.block _ (by omega)).trans ((HB1.o.block _ zz).trans HZW));clear hB2)
      | (go_at_call 105;refine HIx.o.mono ?_;rintro e w1 ⟨rfl,hB1⟩;have HB1:=za (zw hB1);have hz1:W.heap.size<=w1.heap.size:=hB1.size;have HOf:=za (zbC (c.idx t.s) w1 (HCW.keep HB1.o));clear hB1))
   go_wp2_with fail;rw[HO];refine bodyPost_ret (v:=.agg #[xI ((c.of (c.idx t.s)).1:Nat),xI ((c.of (c.idx t.s)).2:Nat)]) (by simp[results,results176,go_sem,y0,y1]) rfl ⟨rfl,zC (zC (HBW.trans ((HB1.o.trans (HB2.o.mono hz1)).mono hWz)) (by omega) _) (by omega) _⟩
 by_cases hk:t.k=6;by_cases hi:0<i
 . have HO:c.operand t i k=(c.idx t.s,2):=by unfold Sc.operand;rw[zM1 (by omega),zM2 hk,zM2 hi]
   have m0':W.cell? (xD b 0)=some (xI 6):=(by rw[m0,hk];rfl);have hi': (0:Int)<(i:Int):=(by omega);clear m0 hk hi h7 h8;go_upto_region 9 with fail
   go_region_held3 (λw'=>w'.cell? (xD w.heap.size 0)=some (xE xe c cpe)/\w'.cell? (xD w.heap.size 1)=some (xP nb)/\w'.cell? (xD b 2)=some (.string t.s)/\w'.cell? (xD b 3)=some (xI t.nm))
    (first|(with_reducible (refine⟨?_,?_,?_,?_⟩ <;> repeat (first|assumption|refine zg ?_|refine zj _ ?_|refine zk (by omega) ?_|refine zd HB1.o ?_ (by first|omega|(rw[zsb];omega)))))|go_keep)
    (first
      | (go_at_call 105;refine HIx.o.mono ?_;rintro e w1 ⟨rfl,hB1⟩;have HB1:=za (zw hB1);have hz1:W.heap.size<=w1.heap.size:=hB1.size;have y0:=zd HB1.o z0 zz;have y1:=zd HB1.o z1 zz;have yf:=zai ((HB1.o.block _ zz).trans HZW);clear hB1))
   go_wp2_with fail;rw[HO];refine bodyPost_ret (v:=.agg #[xI (c.idx t.s:Nat),xI 2]) (by simp[results,results176,go_sem,y0,y1]) rfl ⟨rfl,zC (zC (HBW.trans (HB1.o.mono hWz)) (by omega) _) (by omega) _⟩
 . have HO:c.operand t i k=(c.idx t.s,1):=by unfold Sc.operand;rw[zM1 (by omega),zM2 hk,zM1 hi]
   have m0':W.cell? (xD b 0)=some (xI 6):=(by rw[m0,hk];rfl);have hi':¬(0:Int)<(i:Int):=(by omega);clear m0 hk hi h7 h8;go_upto_region 9 with fail
   go_region_held3 (λw'=>w'.cell? (xD w.heap.size 0)=some (xE xe c cpe)/\w'.cell? (xD w.heap.size 1)=some (xP nb)/\w'.cell? (xD b 2)=some (.string t.s)/\w'.cell? (xD b 3)=some (xI t.nm))
    (first|(with_reducible (refine⟨?_,?_,?_,?_⟩ <;> repeat (first|assumption|refine zg ?_|refine zj _ ?_|refine zk (by omega) ?_|refine zd HB1.o ?_ (by first|omega|(rw[zsb];omega)))))|go_keep)
    (first
      | (go_at_call 105;refine HIx.o.mono ?_;rintro e w1 ⟨rfl,hB1⟩;have HB1:=za (zw hB1);have hz1:W.heap.size<=w1.heap.size:=hB1.size;have y0:=zd HB1.o z0 zz;have y1:=zd HB1.o z1 zz;have yf:=zai ((HB1.o.block _ zz).trans HZW);clear hB1))
   go_wp2_with fail;rw[HO];refine bodyPost_ret (v:=.agg #[xI (c.idx t.s:Nat),xI 1]) (by simp[results,results176,go_sem,y0,y1]) rfl ⟨rfl,zC (zC (HBW.trans (HB1.o.mono hWz)) (by omega) _) (by omega) _⟩
 have HO:c.operand t i k=k:=by unfold Sc.operand;rw[zM1 (by omega),zM1 hk]
 have g7:¬(t.k:Int)=7:=by omega
 have g8:¬(t.k:Int)=8:=by omega
 have g6:¬(t.k:Int)=6:=by omega
 clear h7 h8 hk;go_wp2_with fail;rw[HO];refine bodyPost_ret (v:=.agg #[xI (k.1:Nat),xI (k.2:Nat)]) (by simp[results,results176,go_sem,z0,z1]) rfl ⟨rfl,zC (zC HBW (by omega) _) (by omega) _⟩
end
section
variable {N:Nat} {c:Sc} {g:Tm->Nat×Nat->Bool} {w w':Xw} {T:World->Nat->Prop}
attribute [local go_sem ↓] Go.wp_at_zero Go.wp_at_succ
structure FT (T:World->Nat->Prop) (w w':Xw):Prop where
 fr:Fr (T w) w w'
 tk:∀k,T w' k->T w k∨w.heap.size<=k
theorem FT.trans {a b c:Xw}(h1:FT T a b)(h2:FT T b c):FT T a c:=by
 refine⟨⟨h2.fr.os.trans h1.fr.os,h2.fr.tape.trans h1.fr.tape,h2.fr.output.trans h1.fr.output,zMO h1.fr.size h2.fr.size,λk hk hn=>?_⟩,λk hk=>?_⟩
 . refine (h2.fr.block k (zM9 hk h1.fr.size) (λe=>?_)).trans (h1.fr.block k hk hn);rcases h1.tk k e with e|e
   . exact hn e
   omega
 rcases h2.tk k hk with e|e
 . exact h1.tk k e
 exact zM4 (zMO h1.fr.size e)
theorem FT.below (h:xB w w')(ht:∀k,T w' k->T w k):FT T w w':=⟨Fr.of_below h,λk e=>zM3 (ht k e)⟩
theorem FT.const {T:Xj}(h:Fr T w w'):FT (λ_=>T) w w':=⟨h,λ_ e=>zM3 e⟩
theorem FT.cell {w:Xw}{b i:Nat}{v:Xv}(h:FT T w w')(hc:w.cell? (xD b i)=some v)(hb:¬T w b):w'.cell? (xD b i)=some v:=by
 have hlt:b<w.heap.size:=by
  rcases Nat.lt_or_ge b w.heap.size with h|h
  . exact h
  simp[World.cell?,Array.getElem?_eq_none h] at hc
 exact (World.cell?_of_block (w:=w) (h.fr.block b hlt hb)).trans hc
theorem FT.old (h:FT T w w')(hN:N<=w.heap.size)(hT:∀k,T w k->N<=k):Old N w w':=h.fr.old hN hT
mutual
def zcs {σ:Type}(c:Sc)(g:Tm->Nat×Nat->Bool)(sE sL:σ->Tm->Nat×Nat->σ):Tm->Nat×Nat->σ->σ
 | .mk x a s nm n ts,k,st=>sL (if g (.mk x a s nm n ts) k=true then zcu c g sE sL (.mk x a s nm n ts) k ts 0 (sE st (.mk x a s nm n ts) k) else sE st (.mk x a s nm n ts) k) (.mk x a s nm n ts) k
def zcu {σ:Type}(c:Sc)(g:Tm->Nat×Nat->Bool)(sE sL:σ->Tm->Nat×Nat->σ)(t:Tm)(k:Nat×Nat):List Tm->Nat->σ->σ
 | [],_,st=>st
 | u::l,i,st=>zcu c g sE sL t k l (i+1) (zcs c g sE sL u (c.operand t i k) st)
end
def ckW (k:Nat×Nat):Value:=.agg #[xI (k.1:Nat),xI (k.2:Nat)]
structure znz {σ:Type} (N:Nat) (c:Sc) (ev nv:Xv) (cb:Nat) (T:World->Nat->Prop) (FE:FuncId) (cE:Xa) (FL:FuncId) (cL:Xa) (Pt:Tm->Nat×Nat->Prop) (g:Tm->Nat×Nat->Bool) (sE sL:σ->Tm->Nat×Nat->σ) (I:σ->World->Prop) (Bd:σ->Prop):Prop where
 entE:zH FE
 entL:zH FL
 hT:∀s w k,I s w->T w k->N<=k/\k<w.heap.size/\¬k=cb
 keep:∀s w w',I s w->xB w w'->I s w'/\∀k,T w' k->T w k
 sub:∀t k i u,Pt t k->g t k=true->t.ts[i]?=some u->Pt u (c.operand t i k)
 bE:∀s t k,Bd (sE s t k)->Bd s
 bL:∀s t k,Bd (sL s t k)->Bd s
 callE:∀t v k s w,TT w N t v->N<=w.heap.size->ScV w N c ev nv->za7 w c cb->I s w->Pt t k->Bd (sE s t k)->xK FE (#[v,ckW k]++cE) w (λe w'=>e=.returned (.bool (g t k))/\I (sE s t k) w'/\FT T w w')
 callL:∀t v k s w,TT w N t v->N<=w.heap.size->ScV w N c ev nv->za7 w c cb->I s w->Pt t k->Bd (sL s t k)->xK FL (#[v,ckW k]++cL) w (λe w'=>e=.returned (.tuple #[])/\I (sL s t k) w'/\FT T w w')
theorem zi6 {σ:Type}{sE sL:σ->Tm->Nat×Nat->σ}{Bd:σ->Prop}(bE:∀s t k,Bd (sE s t k)->Bd s)(bL:∀s t k,Bd (sL s t k)->Bd s):∀(t:Tm) (k:Nat×Nat) (s:σ),Bd (zcs c g sE sL t k s)->Bd s:=by
 intro t;induction t using Tm.ind with
 | h x a s nm n ts ih =>
   intro k st h;have hl:∀(l:List Tm),(∀u∈l,u∈ts)->∀(i:Nat) (st:σ),Bd (zcu c g sE sL (.mk x a s nm n ts) k l i st)->Bd st:=by
    intro l;induction l with
    | nil=>intro _ i st h;exact h
    | cons u l ihl => intro hm i st h;rw[zcu] at h;exact ih u (hm u (zMS ..)) _ _ (ihl (λu hu=>hm u (zMX _ hu)) _ _ h)
   rw[zcs] at h;have h2:=bL _ _ _ h;split at h2
   . exact bE _ _ _ (hl ts (λ_ h=>h) _ _ h2)
   exact bE _ _ _ h2
theorem zkC {σ:Type}{sE sL:σ->Tm->Nat×Nat->σ}{Bd:σ->Prop}(bE:∀s t k,Bd (sE s t k)->Bd s)(bL:∀s t k,Bd (sL s t k)->Bd s)(t:Tm)(k:Nat×Nat):∀(l:List Tm) (i:Nat) (s:σ),Bd (zcu c g sE sL t k l i s)->Bd s:=by
 intro l;induction l with
 | nil=>intro i s h;exact h
 | cons u l ih => intro i s h;rw[zcu] at h;exact zi6 bE bL u _ s (ih _ _ h)
theorem zjG {σ:Type}{ev nv:Xv}{cb:Nat}{FE:FuncId}{cE:Xa}{FL:FuncId}{cL:Xa}{Pt:Tm->Nat×Nat->Prop}{sE sL:σ->Tm->Nat×Nat->σ}{I:σ->World->Prop}{Bd:σ->Prop}(HV:znz N c ev nv cb T FE cE FL cL Pt g sE sL I Bd) :
 ∀(t:Tm) (k:Nat×Nat) (v:Xv) (s:σ) (w:Xw),TT w N t v->N<=w.heap.size->ScV w N c ev nv->za7 w c cb->I s w->Pt t k->Bd (zcs c g sE sL t k s) ->
  xK 133 #[.map (some cb),.agg #[ev,nv],v,ckW k,.func (.func FE) #[] cE,.func (.func FL) #[] cL] w (λHEn w'=>HEn=.returned (.tuple #[])/\I (zcs c g sE sL t k s) w'/\FT T w w'):=by
 intro t;induction t using Tm.ind with
 | h kk a nm n p ts Hih =>
   intro k v s w h hN hS hC hI HP HBd;obtain⟨xe,cpe,nb,rfl,rfl,hnb⟩:=hS.shape;obtain⟨b,args,vs,rfl,hb,hblk,hown,hlen,Hsub,hgs⟩:=h.ptr;have hcE:∀(args:Xa) (w:Xw),(callFunc FE args).run prog w=.ok (.enter FE args) w:=HV.entE;have hcL:∀(args:Xa) (w:Xw),(callFunc FL args).run prog w=.ok (.enter FL args) w:=HV.entL;have HT:=za h;have HS:=za hS;have HC:=za hC;have HI:=za hI;have Hown:=za hown;have Hblk:=za hblk;have Hgs:=za hgs;obtain⟨x,cp,rfl⟩:=zB hown;have hlen':vs.length=ts.length:=hlen;rw[hlen'] at Hown Hblk Hgs;have hTt:=za (λk=>HV.hT s w k hI);unfold ckW;go_enter func133,ntmps133;go_upto_region 1 with fail;refine zn (λW=>(TT W N (.mk kk a nm n p ts) (xP b)/\N<=W.heap.size/\ScV W N c (xE xe c cpe) (xP nb)/\za7 W c cb/\I s W)/\FT T w W/\xH W w.heap.size #[xE xe c cpe,xP nb] 114/\xH W (w.heap.size+1) #[xI (k.1:Nat),xI (k.2:Nat)] 198/\¬T W w.heap.size/\¬T W (w.heap.size+1)) ⟨⟨HT.o.old (zfr hN _ _),by rw[zsb,zsb];omega,HS.o.old (zfr hN _ _),HC.o.keep (zaD w _ _),(HV.keep _ _ _ HI.o (zaD w _ _)).1⟩,FT.below (zaD w _ _) (HV.keep _ _ _ HI.o (zaD w _ _)).2,(zd8 w _ _).1,(zd8 w _ _).2,λHEn=>by have:=(hTt.out _ ((HV.keep s w _ HI.o (zaD w _ _)).2 _ HEn)).2.1;omega,λHEn=>by have:=(hTt.out _ ((HV.keep s w _ HI.o (zaD w _ _)).2 _ HEn)).2.1;omega⟩ ?_;rintro W ⟨⟨hTW,hNW,hSW,hCW,hIW⟩,HFW,hX,hY,n0,n1⟩;have hbE:Bd (sE s (.mk kk a nm n p ts) k):=by
    have hb:=HBd;rw[zcs] at hb;have hb2:=HV.bL _ _ _ hb;split at hb2
    . exact zkC HV.bE HV.bL _ _ _ _ _ hb2
    exact hb2
   have HCE:=za (HV.callE _ _ k s W hTW hNW hSW hCW hIW HP hbE);have HST:∀s1 w1,I s1 w1->FT T W w1->(TT w1 N (.mk kk a nm n p ts) (xP b)/\N<=w1.heap.size/\ScV w1 N c (xE xe c cpe) (xP nb)/\za7 w1 c cb)/\Old N W w1/\w1.heap[w.heap.size]?=some (.cells #[xE xe c cpe,xP nb] 114 (0,0))/\w1.heap[w.heap.size+1]?=some (.cells #[xI (k.1:Nat),xI (k.2:Nat)] 198 (0,0))/\¬T w1 w.heap.size/\¬T w1 (w.heap.size+1):=by
    intro s1 w1 hI1 hF1;have hO:Old N W w1:=hF1.old hNW (λk HEn=>(HV.hT s W k hIW HEn).1);refine⟨⟨hTW.old hO,zMO hNW hF1.fr.size,hSW.old hO,hCW.of' (hF1.fr.block cb hCW.lt (λHEn=>(HV.hT s W cb hIW HEn).2.2 rfl))⟩,hO,(hF1.fr.block _ (ze hX) n0).trans hX,(hF1.fr.block _ (ze hY) n1).trans hY,λHEn=>(hF1.tk _ HEn).elim n0 (λh=>?_),λHEn=>(hF1.tk _ HEn).elim n1 (λh=>?_)⟩
    . have:=ze hX;omega
    have:=ze hY;omega
   obtain⟨x0,x1,xf,xz⟩:=zp hX;obtain⟨y0,y1,yf,yz⟩:=zp hY;have hbz:b<W.heap.size:=(by omega);have HnW:Hid (xH W b #[xI kk,xI a,.string nm,xI n,xI p,.slice x ts.length cp] 226):=(HFW.fr.block b (by omega) (λHEn=>by have:=(hTt.out b HEn).1;omega)).trans Hblk.o;have HoW:Hid (Old N w W):=HFW.old hN (λk HEn=>(hTt.out k HEn).1);unfold ckW at HCE;cases HG:g (.mk kk a nm n p ts) k with
   | false =>
     rw[HG] at HCE;have HEn:zcs c g sE sL (.mk kk a nm n p ts) k s=sL (sE s (.mk kk a nm n p ts) k) (.mk kk a nm n p ts) k:=(by unfold zcs;rw[HG];rfl);go_wp2_with fail;with_reducible refine HCE.o.mono ?_
     rintro HEn w1 ⟨rfl,hI1,hF1⟩;obtain⟨⟨hT1,hN1,hS1,hC1⟩,hO1,hX1,hY1,m0,m1⟩:=HST _ w1 hI1 hF1;have HCL:=za (HV.callL _ _ k _ w1 hT1 hN1 hS1 hC1 hI1 HP (by have hb:=HBd;rw[HEn] at hb;exact hb));unfold ckW at HCL;obtain⟨p0,p1,pf,pz⟩:=zp hX1;obtain⟨q0,q1,qf,qz⟩:=zp hY1;have HF1:=za hF1;go_wp2_with fail;with_reducible refine HCL.o.mono ?_
     rintro HEn w2 ⟨rfl,HI2,HF2⟩;go_wp2_with fail;go_end0;rw[HEn];exact⟨rfl,HI2,(HFW.trans HF1.o).trans HF2⟩
   | true =>
     rw[HG] at HCE;have HEn:zcs c g sE sL (.mk kk a nm n p ts) k s=sL (zcu c g sE sL (.mk kk a nm n p ts) k ts 0 (sE s (.mk kk a nm n p ts) k)) (.mk kk a nm n p ts) k:=(by rw[zcs,zM2 HG]);go_wp2_with fail;with_reducible refine HCE.o.mono ?_
     rintro HEn w1 ⟨rfl,hI1,hF1⟩;obtain⟨⟨hT1,hN1,hS1,hC1⟩,hO1,hX1,hY1,m0,m1⟩:=HST _ w1 hI1 hF1;obtain⟨r0,r1,r2,r3,r4,r5,rf,rz⟩:=zt ((hO1 b hb).trans HnW.o);have HI1:=za hI1;have HF1:=za hF1;have h16:ts.length<=9223372036854775807:=by
      have:=Hown.o;rcases this.2 with ⟨_,h⟩|⟨g,cap,cur,hv,_,_,h3,h4,_⟩
      . omega
      unfold maxLen at h4;omega
     go_wp2_with fail;go_loopg [23] (ts.length+1) (λj x wr=>∃(i:Nat) (si:σ),i+j=ts.length+1/\i<=ts.length/\x=xI i/\Hid (I si wr)/\Hid (zcu c g sE sL (.mk kk a nm n p ts) k ts 0 (sE s (.mk kk a nm n p ts) k)=zcu c g sE sL (.mk kk a nm n p ts) k (ts.drop i) i si)/\Hid (FT T W wr));case atStart=>exact⟨0,_,by omega,zMN _,rfl,HI1.o,rfl,HF1.o⟩
     case round =>
      obtain⟨i,si,hij,hi,rfl,HIi,HD,HFi⟩:=hrel;obtain⟨⟨HTr,hNr,HSr,HCr⟩,hOr,hXr,hYr,m0,m1⟩:=HST _ wr HIi.o HFi.o;obtain⟨p0,p1,pf,pz⟩:=zp hXr;obtain⟨q0,q1,qf,qz⟩:=zp hYr;by_cases hlt:i<ts.length
      . obtain⟨t,ht⟩:∃t,ts[i]?=some t:=⟨_,zsc hlt⟩;obtain⟨u,hu⟩:∃u,vs[i]?=some u:=⟨_,zsc (by omega)⟩;have hOw:Old N w wr:=HoW.o.trans hOr;have hown':wr.ownsRow 0 182 1 (.slice x ts.length cp) ts.length vs:=zi Hown.o (λj _ _ HEn=>hOw j (Hgs.o j HEn));obtain⟨g',rfl,hcell⟩:=zbE hown' hu;have HTu:=(Hsub i t u ht hu).old hOw;obtain⟨bu,_,_,rfl,_⟩:=HTu.ptr;have HOp:=za (zjV (.mk kk a nm n p ts) (xP b) i k wr.drew (HTr.old (λ_ _=>rfl)) (HSr.old (λ_ _=>rfl)) (HCr.of' rfl) hNr);have Hmem:=za (zML ht);have HPu:=za (HV.sub _ k i t HP HG ht);have HDn:Hid (zcu c g sE sL (.mk kk a nm n p ts) k ts 0 (sE s (.mk kk a nm n p ts) k)=zcu c g sE sL (.mk kk a nm n p ts) k (ts.drop (i+1)) (i+1) (zcs c g sE sL t (c.operand (.mk kk a nm n p ts) i k) si)):=(by obtain⟨h1,h2⟩:=zMJ.1 ht;unfold Hid;rw[HD.o,zMT h1,zcu,h2]);have HBu:Hid (Bd (zcs c g sE sL t (c.operand (.mk kk a nm n p ts) i k) si)):=(by have hb:=HBd;rw[HEn,HDn.o] at hb;exact zkC HV.bE HV.bL _ _ _ _ _ (HV.bL _ _ _ hb));go_upto_region 5 with fail
        go_region_held3 (λw'=>w'.cell? (xD w.heap.size 0)=some (xE xe c cpe)/\w'.cell? (xD w.heap.size 1)=some (xP nb)/\w'.cell? (xD (w.heap.size+1) 0)=some (xI (k.1:Nat))/\w'.cell? (xD (w.heap.size+1) 1)=some (xI (k.2:Nat)))
         (first|(refine⟨?_,?_,?_,?_⟩ <;> repeat (first|with_reducible exact p0|with_reducible exact p1|with_reducible exact q0|with_reducible exact q1|with_reducible refine zg ?_|with_reducible refine HF5.cell ?_ (by assumption)|with_reducible refine zd HB4.o ?_ (by omega)))|go_keep)
         (first
           | (go_at_call 133;refine HW.o.mono ?_;rintro HEn w5 ⟨rfl,HI5,HF5⟩)
           | (go_at_call 176;refine HOp.o.mono ?_;rintro HEn w4 ⟨rfl,hB4⟩;have HB4:=za (zw hB4);have hz4:wr.heap.size<=w4.heap.size:=hB4.size;have HK:=za (HV.keep _ _ _ HIi.o HB4.o);have m0':¬T w4 w.heap.size:=(λHEn=>m0 (HK.o.2 _ HEn));have m1':¬T w4 (w.heap.size+1):=(λHEn=>m1 (HK.o.2 _ HEn));have HW:=za (Hih t Hmem.o (c.operand (.mk kk a nm n p ts) i k) _ si w4 (HTu.old (zm HB4.o hNr)) (by omega) (HSr.old (zm HB4.o hNr)) (HCr.keep HB4.o) HK.o.1 HPu.o HBu.o)))
        go_wp2_with fail;go_roundg (gk-1);case measure=>omega
        exact⟨i+1,_,by omega,by omega,by go_num,HI5,HDn.o,(HFi.o.trans (FT.below HB4.o HK.o.2)).trans HF5⟩
      have ei:i=ts.length:=(by omega);subst ei;rw[List.drop_length,zcu] at HD;have HCL:=za (HV.callL _ _ k _ wr HTr hNr HSr HCr HIi.o HP (by have hb:=HBd;rw[HEn,HD.o] at hb;exact hb));unfold ckW at HCL;go_wp2_with fail;with_reducible refine HCL.o.mono ?_
      rintro HEn w2 ⟨rfl,HI2,HF2⟩;go_wp2_with fail;go_end0;refine⟨rfl,?_,(HFW.trans HFi.o).trans HF2⟩;rw[HEn,HD.o];exact HI2
end
section
variable {N b1 b2 b3 bb cb kd lb sb:Nat} {S:Xs} {st:Xo} {c:Sc} {askv ev nmv nv:Xv} {w w':Xw}
attribute [local go_sem ↓] Go.wp_at_zero Go.wp_at_succ
structure CkI (S:Xs) (kd lb bb sb:Nat) (nmv askv:Xv) (N:Nat) (c:Sc) (ev nv:Xv) (cb b1 b2 b3:Nat) (st:Xo) (w:Xw):Prop where
 rp:RpI S kd lb bb sb nmv askv st w
 sc:ScV w N c ev nv
 ck:za7 w c cb
 x1:w.heap[b1]?=some (.cells #[ev,nv] 216 (0,0))
 x2:w.heap[b2]?=some (.cells #[.map (some cb)] 123 (0,0))
 x3:w.heap[b3]?=some (.cells #[zam lb bb sb] 214 (0,0))
 d:∀b,b=b1∨b=b2∨b=b3∨b=cb->¬b=lb/\¬b=bb
 l1:N<=lb
 l2:N<=bb
 hN:N<=w.heap.size
theorem CkI.keep (h:CkI S kd lb bb sb nmv askv N c ev nv cb b1 b2 b3 st w)(hB:xB w w'):CkI S kd lb bb sb nmv askv N c ev nv cb b1 b2 b3 st w' :=
 ⟨h.rp.keep hB,h.sc.old (zm hB h.hN),h.ck.keep hB,(hB.block _ (ze h.x1)).trans h.x1,(hB.block _ (ze h.x2)).trans h.x2,(hB.block _ (ze h.x3)).trans h.x3,h.d,h.l1,h.l2,zMO h.hN hB.size⟩
theorem CkI.told {st':Xo}(h:CkI S kd lb bb sb nmv askv N c ev nv cb b1 b2 b3 st w)(hr:RpI S kd lb bb sb nmv askv st' w')(hf:Fr (RT lb bb) w w'):CkI S kd lb bb sb nmv askv N c ev nv cb b1 b2 b3 st' w':=by
 have hn:∀{b},(b=b1∨b=b2∨b=b3∨b=cb)->¬RT lb bb b:=λh1 e=>by rcases e with e|e;exact (h.d _ h1).1 e;exact (h.d _ h1).2 e
 exact⟨hr,h.sc.old (hf.old h.hN (λk e=>by rcases e with e|e;exact e▸h.l1;exact e▸h.l2)),h.ck.of' (hf.block _ h.ck.lt (hn (by simp))),(hf.block _ (ze h.x1) (hn (by simp))).trans h.x1,(hf.block _ (ze h.x2) (hn (by simp))).trans h.x2,(hf.block _ (ze h.x3) (hn (by simp))).trans h.x3,h.d,h.l1,h.l2,zMO h.hN hf.size⟩
theorem zqz:zH 177:=λ_ _=>by kernel_rfl
theorem zqL:zH 135:=λ_ _=>by kernel_rfl
theorem zg6 (k:Nat)(w:Xw):xK 178 #[xI (k:Int)] w (λe w'=>e=.returned (xI (zi8 k:Nat))/\w=w'):=by
 unfold zi8;by_cases h:k=8
 . subst h;rw[zM2 rfl];go_enter func178,ntmps178;go_wp2_with fail;go_ret;exact⟨rfl,rfl⟩
 rw[zM1 h];have h':¬(k:Int)=8:=by omega
 go_enter func178,ntmps178;go_wp2_with fail;go_ret;exact⟨rfl,rfl⟩
theorem zeV (w:Xw):xK 178 #[xI 7] w (λe w'=>e=.returned (xI 1)/\w=w'):=zg6 7 w
theorem ze1 (w:Xw):xK 178 #[xI 8] w (λe w'=>e=.returned (xI 2)/\w=w'):=zg6 8 w
theorem zpg (v:Xv)(k:Nat×Nat)(w:Xw):xK 135 #[v,ckW k] w (λe w'=>e=.returned (.tuple #[])/\xB w w'):=by
 unfold ckW;go_enter func135,ntmps135;go_wp2_with fail;first|go_end0|refine bodyPost_ret (results_none rfl _ _ _) rfl ?_
 exact⟨rfl,zq w _⟩
theorem zn8 (ev nv:Xv)(cb lb bb sb:Nat)(w:Xw)(xe:Xp)(n cp:Nat)(nb:Nat)(he:ev=.slice xe n cp)(hn:nv=xP nb) :
 xK 134 #[.agg #[ev,nv],.map (some cb),zam lb bb sb] w (λe w'=>e=.returned (.func (.func 177) #[] #[xP (w.heap.size+1),xP w.heap.size,xP (w.heap.size+1+1)])/\xB w w'/\w'.heap[w.heap.size]?=some (.cells #[ev,nv] 216 (0,0))/\w'.heap[w.heap.size+1]?=some (.cells #[.map (some cb)] 123 (0,0))/\w'.heap[w.heap.size+1+1]?=some (.cells #[zam lb bb sb] 214 (0,0))/\w'.heap.size=w.heap.size+1+1+1):=by
 subst he hn;unfold zam;have hmf:∀(fn:Go.Fn) (first cap:Xa) (w:Xw),(Instr.makeFunc fn first cap).run prog w=.ok (.func fn first cap) w:=λ_ _ _ _=>rfl;go_enter func134,ntmps134;go_wp2_with fail;go_ret;exact⟨rfl,zcz w _ _ _,(al3 w _ _ _).1,(al3 w _ _ _).2.1,(al3 w _ _ _).2.2,by simp⟩
theorem zpF (S:Xs)(kd lb bb sb:Nat)(nmv askv:Xv)(N:Nat)(c:Sc)(ev nv:Xv)(cb b1 b2 b3:Nat)(t:Tm)(v:Xv)(k:Nat×Nat)(st:Xo)(w:Xw)(hT:TT w N t v)(HI:CkI S kd lb bb sb nmv askv N c ev nv cb b1 b2 b3 st w) :
 xK 177 #[v,ckW k,xP b2,xP b1,xP b3] w (λe w'=>e=.returned (.bool (c.isOn t k).2)/\CkI S kd lb bb sb nmv askv N c ev nv cb b1 b2 b3 ((c.isOn t k).1.foldl rep st) w'/\Fr (RT lb bb) w w'):=by
 obtain⟨xe,cpe,nb,rfl,rfl,hnb⟩:=HI.sc.shape;obtain⟨b,args,vs,rfl,hb,HBk,_⟩:=hT.ptr;have hN:=HI.hN;have hbz:=ze HBk;have l1:=HI.l1;have l2:=HI.l2;have d1:=HI.d b1 (by simp);have d2:=HI.d b2 (by simp);have d3:=HI.d b3 (by simp);obtain⟨d11,d12⟩:=d1;obtain⟨d21,d22⟩:=d2;obtain⟨d31,d32⟩:=d3;have hblb:¬b=lb:=by omega
 have hbbb:¬b=bb:=by omega
 have zl:=ze HI.rp.l;have zb:=ze HI.rp.b;obtain⟨k1,k2⟩:=k;unfold ckW;go_enter func177,ntmps177;go_upto_region 1 with fail;refine zn (λW=>CkI S kd lb bb sb nmv askv N c (xE xe c cpe) (xP nb) cb b1 b2 b3 st W/\xB w W/\xH W w.heap.size #[xI (k1:Nat),xI (k2:Nat)] 198) ⟨HI.keep (zq w _),zq w _,zc w _⟩ ?_;rintro W ⟨HIW,HBW,hKW⟩;obtain⟨s0,s1,sf,sz⟩:=zp HIW.x1;obtain⟨c0,cf,cz⟩:=zu HIW.x2;obtain⟨p0,pf,pz⟩:=zu HIW.x3;obtain⟨k0,k1',kf,kz⟩:=zp hKW;obtain⟨m0,m1,m2,m3,m4,m5,mf,mz⟩:=zt ((HBW.block b hbz).trans HBk);have hWz:w.heap.size<=W.heap.size:=HBW.size;have HIx:=za (zaz t.s (t.nm:Int) W.drew (HIW.sc.old (λ_ _=>rfl)) (by show N<=W.heap.size;omega));unfold zam at p0;by_cases h3:t.k=3∨t.k=6
 . have HT:Hid (c.isOn t (k1,k2)=(if c.of (c.idx t.s)=(k1,k2) then [] else [t.nm],true)):=zM2 (by rcases h3 with hk|hk <;> rw[hk] <;> decide);obtain⟨⟨o1,o2⟩,ho⟩:∃o,c.of (c.idx t.s)=o:=⟨_,rfl⟩;rw[ho] at HT;have cs:((o1:Int)=(k1:Int)/\(o2:Int)=(k2:Int))∨((o1:Int)=(k1:Int)/\¬(o2:Int)=(k2:Int))∨¬(o1:Int)=(k1:Int):=by omega
   rcases h3 with hk|hk <;> rcases cs with ⟨e1,e2⟩|⟨e1,e2⟩|e1
   all_goals
    rw[hk] at m0
    first
     | rw[zM2 (Prod.ext (by show o1=k1;omega) (by show o2=k2;omega))] at HT
     | rw[zM1 (λh=>by have h1:=congrArg Prod.fst h;have h2:=congrArg Prod.snd h;simp only at h1 h2;omega)] at HT
    go_upto_region 4 with fail
    go_region_held3 (λw'=>w'.cell? (xD b2 0)=some (.map (some cb))/\w'.cell? (xD b1 0)=some (xE xe c cpe)/\w'.cell? (xD b1 1)=some (xP nb)/\w'.cell? (xD b 2)=some (.string t.s)/\w'.cell? (xD b 3)=some (xI t.nm)/\w'.cell? (xD w.heap.size 0)=some (xI (k1:Nat))/\w'.cell? (xD w.heap.size 1)=some (xI (k2:Nat)))
     (first|(with_reducible (refine⟨?_,?_,?_,?_,?_,?_,?_⟩ <;> repeat (first|assumption|refine zg ?_|refine zj _ ?_|refine zk (by omega) ?_|refine zd HB2.o ?_ (by first|omega|(rw[zsb];omega))|refine zd HB1.o ?_ (by first|omega|(rw[zsb];omega)))))|go_keep)
     (first
       | (go_at_call 104;refine HOf.o.mono ?_;rintro e w2 ⟨rfl,hB2⟩;have HB2:=za hB2;have hz2:w1.heap.size<=w2.heap.size:=hB2.size)
       | (go_at_call 105;refine HIx.o.mono ?_;rintro e w1 ⟨rfl,hB1⟩;have HB1:=za (zw hB1);have hz1:W.heap.size<=w1.heap.size:=hB1.size;have HOf:=za (zbC (c.idx t.s) w1 (HIW.ck.keep HB1.o));(rw[ho] at HOf)))
    first
     | (go_wp2_with fail
        go_ret;rw[HT.o];exact⟨rfl,HIW.keep (HB1.o.trans (HB2.o.mono hz1)),(zy HBW).trans (zy (HB1.o.trans (HB2.o.mono hz1)))⟩)
     | (go_upto_region 5 with fail
        have HB3:=za (HB1.o.trans (HB2.o.mono hz1));have g1:=zd HB3.o p0 pz;have g2:=zd HB3.o m3 mz;have HTell:=za (zaa S kd lb bb sb nmv askv st t.nm w2.drew ((HIW.keep HB3.o).rp.keep (zo (Below.refl _ _))))
        go_region_held3 (λw'=>w'.cell? (xD b3 0)=some (.func (.func 140) #[] #[xP lb,xP bb,xP sb])/\w'.cell? (xD b 3)=some (xI t.nm))
         (first|(with_reducible (refine⟨?_,?_⟩ <;> repeat (first|assumption|refine zg ?_|refine zS HFt.o ?_ (by omega) (by omega))))|go_keep)
         (first|(go_at_call 140;refine (HTell.o).mono ?_;rintro e w6 ⟨rfl,HRt,hFt'⟩;have HFt:=za hFt'.undrew))
        go_wp2_with fail;go_ret;rw[HT.o];refine⟨rfl,?_,((zy HBW).trans (zy HB3.o)).trans HFt.o⟩;exact (HIW.keep HB3.o).told HRt HFt.o)
 by_cases h7:t.k=7
 . have m0':W.cell? (xD b 0)=some (xI 7):=by rw[m0,h7];rfl
   have HT:Hid (c.isOn t (k1,k2)=(if (k1,k2)=(c.idx t.s,1) then ([],true) else ([t.a],false))):=(by show c.isOn t _=_;unfold Sc.isOn;rw[zM1 (by omega),zM2 (by omega),h7];rfl);have cs:((k1:Int)=(c.idx t.s:Int)/\(k2:Int)=1)∨((k1:Int)=(c.idx t.s:Int)/\¬(k2:Int)=1)∨¬(k1:Int)=(c.idx t.s:Int):=(by omega);rcases cs with ⟨e1,e2⟩|⟨e1,e2⟩|e1
   all_goals
    first
     | rw[zM2 (Prod.ext (by show k1=_;omega) (by show k2=_;omega))] at HT
     | rw[zM1 (λh=>by have h1:=congrArg Prod.fst h;have h2:=congrArg Prod.snd h;simp only at h1 h2;omega)] at HT
    go_upto_region 8 with fail
    go_region_held3 (λw'=>w'.cell? (xD b1 0)=some (xE xe c cpe)/\w'.cell? (xD b1 1)=some (xP nb)/\w'.cell? (xD b 0)=some (xI 7)/\w'.cell? (xD b 2)=some (.string t.s)/\w'.cell? (xD b 3)=some (xI t.nm)/\w'.cell? (xD w.heap.size 0)=some (xI (k1:Nat))/\w'.cell? (xD w.heap.size 1)=some (xI (k2:Nat)))
     (first|(with_reducible (refine⟨?_,?_,?_,?_,?_,?_,?_⟩ <;> repeat (first|assumption|refine zg ?_|refine zj _ ?_|refine zk (by omega) ?_|refine zd HB1.o ?_ (by first|omega|(rw[zsb];omega)))))|go_keep)
     (first
       | (go_at_call 178;refine (zeV _).mono ?_;rintro e w2 ⟨rfl,rfl⟩)
       | (go_at_call 105;refine HIx.o.mono ?_;rintro e w1 ⟨rfl,hB1⟩;have HB1:=za (zw hB1);have hz1:W.heap.size<=w1.heap.size:=hB1.size))
    first
     | (go_wp2_with fail
        go_ret;rw[HT.o];exact⟨rfl,HIW.keep HB1.o,(zy HBW).trans (zy HB1.o)⟩)
     | (go_upto_region 9 with fail
        have HB3:=za (HB1.o);have g1:=zd HB3.o p0 pz;have g2:=zd HB3.o m1 mz;have HTell:=za (zaa S kd lb bb sb nmv askv st t.a w1.drew ((HIW.keep HB3.o).rp.keep (zo (Below.refl _ _))))
        go_region_held3 (λw'=>w'.cell? (xD b3 0)=some (.func (.func 140) #[] #[xP lb,xP bb,xP sb])/\w'.cell? (xD b 1)=some (xI t.a))
         (first|(with_reducible (refine⟨?_,?_⟩ <;> repeat (first|assumption|refine zg ?_|refine zS HFt.o ?_ (by omega) (by omega))))|go_keep)
         (first|(go_at_call 140;refine (HTell.o).mono ?_;rintro e w6 ⟨rfl,HRt,hFt'⟩;have HFt:=za hFt'.undrew))
        go_wp2_with fail;go_ret;rw[HT.o];refine⟨rfl,?_,((zy HBW).trans (zy HB3.o)).trans HFt.o⟩;exact (HIW.keep HB3.o).told HRt HFt.o)
 by_cases h8:t.k=8
 . have m0':W.cell? (xD b 0)=some (xI 8):=by rw[m0,h8];rfl
   have HT:Hid (c.isOn t (k1,k2)=(if (k1,k2)=(c.idx t.s,2) then ([],true) else ([t.a],false))):=(by show c.isOn t _=_;unfold Sc.isOn;rw[zM1 (by omega),zM2 (by omega),h8];rfl);have cs:((k1:Int)=(c.idx t.s:Int)/\(k2:Int)=2)∨((k1:Int)=(c.idx t.s:Int)/\¬(k2:Int)=2)∨¬(k1:Int)=(c.idx t.s:Int):=(by omega);rcases cs with ⟨e1,e2⟩|⟨e1,e2⟩|e1
   all_goals
    first
     | rw[zM2 (Prod.ext (by show k1=_;omega) (by show k2=_;omega))] at HT
     | rw[zM1 (λh=>by have h1:=congrArg Prod.fst h;have h2:=congrArg Prod.snd h;simp only at h1 h2;omega)] at HT
    go_upto_region 8 with fail
    go_region_held3 (λw'=>w'.cell? (xD b1 0)=some (xE xe c cpe)/\w'.cell? (xD b1 1)=some (xP nb)/\w'.cell? (xD b 0)=some (xI 8)/\w'.cell? (xD b 2)=some (.string t.s)/\w'.cell? (xD b 3)=some (xI t.nm)/\w'.cell? (xD w.heap.size 0)=some (xI (k1:Nat))/\w'.cell? (xD w.heap.size 1)=some (xI (k2:Nat)))
     (first|(with_reducible (refine⟨?_,?_,?_,?_,?_,?_,?_⟩ <;> repeat (first|assumption|refine zg ?_|refine zj _ ?_|refine zk (by omega) ?_|refine zd HB1.o ?_ (by first|omega|(rw[zsb];omega)))))|go_keep)
     (first
       | (go_at_call 178;refine (ze1 _).mono ?_;rintro e w2 ⟨rfl,rfl⟩)
       | (go_at_call 105;refine HIx.o.mono ?_;rintro e w1 ⟨rfl,hB1⟩;have HB1:=za (zw hB1);have hz1:W.heap.size<=w1.heap.size:=hB1.size))
    first
     | (go_wp2_with fail
        go_ret;rw[HT.o];exact⟨rfl,HIW.keep HB1.o,(zy HBW).trans (zy HB1.o)⟩)
     | (go_upto_region 9 with fail
        have HB3:=za (HB1.o);have g1:=zd HB3.o p0 pz;have g2:=zd HB3.o m1 mz;have HTell:=za (zaa S kd lb bb sb nmv askv st t.a w1.drew ((HIW.keep HB3.o).rp.keep (zo (Below.refl _ _))))
        go_region_held3 (λw'=>w'.cell? (xD b3 0)=some (.func (.func 140) #[] #[xP lb,xP bb,xP sb])/\w'.cell? (xD b 1)=some (xI t.a))
         (first|(with_reducible (refine⟨?_,?_⟩ <;> repeat (first|assumption|refine zg ?_|refine zS HFt.o ?_ (by omega) (by omega))))|go_keep)
         (first|(go_at_call 140;refine (HTell.o).mono ?_;rintro e w6 ⟨rfl,HRt,hFt'⟩;have HFt:=za hFt'.undrew))
        go_wp2_with fail;go_ret;rw[HT.o];refine⟨rfl,?_,((zy HBW).trans (zy HB3.o)).trans HFt.o⟩;exact (HIW.keep HB3.o).told HRt HFt.o)
 have hon:∀q,c.isOn t q=([],true):=λq=>by unfold Sc.isOn;rw[zM1 (by omega),zM1 (by omega)]
 have HT:=za (hon (k1,k2));have g3:¬(t.k:Int)=3:=by omega
 have g6:¬(t.k:Int)=6:=by omega
 have g7:¬(t.k:Int)=7:=by omega
 have g8:¬(t.k:Int)=8:=by omega
 go_wp2_with fail;go_ret;rw[HT.o];exact⟨rfl,HIW,zy HBW⟩
theorem zqS (S:Xs)(kd lb bb sb:Nat)(nmv askv:Xv)(N:Nat)(c:Sc)(ev nv:Xv)(cb b1 b2 b3:Nat) :
 znz N c ev nv cb (λ_=>RT lb bb) 177 #[xP b2,xP b1,xP b3] 135 #[] (λ_ _=>True) (λt k=>(c.isOn t k).2) (λst t k=>(c.isOn t k).1.foldl rep st) (λst _ _=>st) (CkI S kd lb bb sb nmv askv N c ev nv cb b1 b2 b3) (λ_=>True) where
 bE:=λ_ _ _ _=>trivial
 bL:=λ_ _ _ _=>trivial
 entE:=zqz
 entL:=zqL
 hT:=λs w k hI e=>by
  have h:=hI.d cb (by simp);rcases e with e|e
  . subst e;exact⟨hI.l1,ze hI.rp.l,λe=>h.1 e.symm⟩
  subst e;exact⟨hI.l2,ze hI.rp.b,λe=>h.2 e.symm⟩
 keep:=λs w w' h hB=>⟨h.keep hB,λ_ e=>e⟩
 sub:=λ_ _ _ _ _ _ _=>trivial
 callE:=λt v k s w hT hN hS hC hI _ _=>by refine (zpF S kd lb bb sb nmv askv N c ev nv cb b1 b2 b3 t v k s w hT hI).mono ?_;rintro e w' ⟨h1,h2,h3⟩;exact⟨h1,h2,FT.const h3⟩
 callL:=λt v k s w hT hN hS hC hI _ _=>by refine (zpg v k w).mono ?_;rintro e w' ⟨h1,h2⟩;exact⟨h1,hI.keep h2,FT.const (zy h2)⟩
theorem zp1 (c:Sc):∀(t:Tm) (k:Nat×Nat) (st:Xo),zcs c (λt k=>(c.isOn t k).2) (λst t k=>(c.isOn t k).1.foldl rep st) (λst _ _=>st) t k st=(onT c t k).foldl rep st:=by
 intro t;induction t using Tm.ind with
 | h x a s nm n ts ih =>
   intro k st;have hl:∀(l:List Tm),(∀u∈l,u∈ts)->∀(i:Nat) (st:Xo),zcu c (λt k=>(c.isOn t k).2) (λst t k=>(c.isOn t k).1.foldl rep st) (λst _ _=>st) (.mk x a s nm n ts) k l i st=(onL c (.mk x a s nm n ts) k l i).foldl rep st:=by
    intro l;induction l with
    | nil=>intro _ i st;rfl
    | cons u l ihl => intro hm i st;rw[zcu,onL,zMP,ihl (λu hu=>hm u (zMX _ hu)),ih u (hm u (zMS ..))]
   rw[zcs,onT,zMP];split
   . rw[hl ts (λ_ h=>h)]
   rfl
end
end Go.Proofs.YtbicmofihhjgbaaGreatDoor
