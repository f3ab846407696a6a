/- Part 37 of the proof: MemA ClkB MemB MdlZ. -/
import Derived.Test.YtmfkofhgdjechaaGreatDoorK35
set_option maxRecDepth 100000
set_option maxHeartbeats 8000000
namespace Go.Proofs.YtmfkofhgdjechaaGreatDoor
open Go.Proofs.Tryz
section
open Go.RowKit
variable {s:Int} {m:List (ByteArray×Nat)} {b cnb mbx:Nat} {w w':World}
attribute [local go_sem ↓] Go.wp_at_zero Go.wp_at_succ
def zdf (w:World)(b:Nat)(m:List (ByteArray×Nat)):Prop :=
 ∃l:List (ByteArray×Value),zbn w b Value.string l/\∀s,(zaT s l).getD (xI 0)=xI (zbi s m:Nat)
theorem zdf.of' (h:zdf w b m)(hb:w'.heap[b]?=w.heap[b]?):zdf w' b m:=by obtain⟨l,h1,h2⟩:=h;exact⟨l,h1.of hb,h2⟩
theorem zdf.lt (h:zdf w b m):b<w.heap.size:=by obtain⟨l,h1,_⟩:=h;exact h1.lt
theorem zdf.keep (h:zdf w b m)(hB:xB w w'):zdf w' b m:=h.of' (hB.block _ h.lt)
theorem Tryz.zeroI (w:World):(zeroValue 3).run prog w=.ok (xI 0) w:=by kernel_rfl
theorem zkF (h:zdf w b m)(s:ByteArray) :
 (Instr.lookup 238 (.map (some b)) (.string s) false).run prog w=.ok (xI (zbi s m:Nat)) w:=by
 obtain⟨l,h1,h2⟩:=h;refine (zgI Tryz.keyStr underlying238 Tryz.zeroI h1 s false).trans ?_;rw[<- h2 s];rfl
theorem zqN (h:zdf w b m)(s:ByteArray)(n:Nat) :
 ∃w',(Instr.mapUpdate 238 (.map (some b)) (.string s) (xI (n:Int))).run prog w=.ok () w'/\zdf w' b ((s,n)::m)/\Fr (·=b) w w':=by
 obtain⟨l,h1,h2⟩:=h;obtain⟨w',r,mm,f⟩:=zgh Tryz.keyStr underlying238 h1 s (xI (n:Int));refine⟨w',r,⟨_,mm,λs'=>?_⟩,f⟩;rw[zgD,zbi];by_cases e:s=s'
 . rw[if_pos e,if_pos e];rfl
 . rw[if_neg e,if_neg e];exact h2 s'
def zbf (m:List (ByteArray×Nat))(s:Int)(t:Tm):Int:=if t.k=9∨t.k=4 then wrap64 (s+(za9 m t:Nat)) else s
structure CnI (cnb mbx b:Nat) (m:List (ByteArray×Nat)) (s:Int) (w:World):Prop where
 x1:w.heap[cnb]?=some (.cells #[xI s] 3 (0,0))
 x2:w.heap[mbx]?=some (.cells #[.map (some b)] 238 (0,0))
 cm:zdf w b m
 d1:¬mbx=cnb
 d2:¬b=cnb
theorem CnI.keep (h:CnI cnb mbx b m s w)(hB:xB w w'):CnI cnb mbx b m s w' :=
 ⟨(hB.block _ (ze h.x1)).trans h.x1,(hB.block _ (ze h.x2)).trans h.x2,h.cm.keep hB,h.d1,h.d2⟩
theorem CnI.put (h:CnI cnb mbx b m s w)(s':Int):CnI cnb mbx b m s' (w.setCell (xD cnb 0) (xI s')) :=
 ⟨zhY h.x1 _,zr h.d1 h.x2,h.cm.of' (zr h.d2 rfl),h.d1,h.d2⟩
theorem zqq:zH 185:=λ_ _=>by kernel_rfl
theorem zm7 (N:Nat)(n:Nod)(cnb mbx b:Nat)(m:List (ByteArray×Nat))(hm:∀s,zbi s m<=61)(hcn:N<=cnb) :
 zjB N (·=cnb) 185 #[xP cnb,xP mbx] (λ_=>True) n (λs _ t=>zbf m s t) (CnI cnb mbx b m) where
 enters:=zqq
 hT:=λ_ e=>e▸hcn
 keep:=λs w w' h hB=>h.keep hB
 sub:=λ_ _ _ _=>trivial
 root:=λ_ _=>trivial
 call:=by
  intro q lv rv t v s w _ hE hT _ hN HI0 _;obtain⟨bt,args,vs,rfl,hb',hblk,_⟩:=hT.ptr;obtain⟨xl,cl,rfl⟩:=zB hE.own;obtain⟨rb,_,_,rfl,_⟩:=hE.tt.ptr;have HI:=za (λo=>HI0.keep (zq w o));obtain⟨m0,m1,m2,m3,m4,m5,mf,mz⟩:=zt hblk;obtain⟨a0,af,az⟩:=zu HI0.x1;obtain⟨p0,pf,pz⟩:=zu HI0.x2;have hd:=HI0.d1;have hbc:¬bt=cnb:=by omega
  have hlk:=λo=>zkF (HI0.keep (zq w o)).cm t.s;have h61:=hm t.s;clear hT hblk hE hm
  show Calls prog _ #[.agg #[.slice xl q.ns.length cl,xI q.a,xP rb],xP bt,xP cnb,xP mbx] w _;by_cases h9:t.k=9
  . have HS:Hid (zbf m s t=wrap64 (s+1)):=by unfold Hid zbf za9;rw[if_pos (Or.inl h9),if_pos h9];rfl
    have m0':w.cell? (xD bt 0)=some (xI 9):=(by rw[m0,h9];rfl);clear h9 m0;go_enter func185,ntmps185;go_wp2_with fail;go_ret;rw[HS.o];exact⟨rfl,(HI0.put _).keep (zq _ _),(Fr.set1 (Fr.refl _ w) _ _).alloc _⟩
  . by_cases h4:t.k=4
    . have HS:Hid (zbf m s t=wrap64 (s+(1+(zbi t.s m:Nat)))):=(by unfold Hid zbf za9;rw[if_pos (Or.inr h4),if_neg h9,if_pos h4];rfl);have m0':w.cell? (xD bt 0)=some (xI 4):=(by rw[m0,h4];rfl);have hw1:wrap64 (1+(zbi t.s m:Int))=1+(zbi t.s m:Int):=(by unfold wrap64;omega);clear h9 h4 m0;go_enter func185,ntmps185;go_upto_region 5 with fail;refine zn (λW=>CnI cnb mbx b m s W/\xB w W) ⟨HI.o _,zq w _⟩ ?_;rintro W ⟨HIW,HBW⟩;clear a0 af az p0 pf pz hlk;obtain⟨a0,af,az⟩:=zu HIW.x1;obtain⟨p0,pf,pz⟩:=zu HIW.x2;have r2:=zd HBW m2 mz;have hlk:(Instr.lookup 238 (.map (some b)) (.string t.s) false).run prog W.drew=.ok (xI (zbi t.s m:Nat)) W.drew:=zkF (w:=W.drew) (HIW.cm.of' (w':=W.drew) rfl) t.s;clear m0' m1 m2 m3 m4 m5 mf;go_region;go_wp2_with fail;go_ret;rw[HS.o];exact⟨rfl,(HIW.put _).keep (zo (Below.refl _ _)),(Fr.set1 (zy HBW) _ _).trans (zy (zo (Below.refl _ _)))⟩
    . have HS:Hid (zbf m s t=s):=(by unfold Hid zbf;rw[if_neg (by omega)]);have h9':¬(t.k:Int)=9:=(by omega);have h4':¬(t.k:Int)=4:=(by omega);clear h9 h4;go_enter func185,ntmps185;go_wp2_with fail;go_ret;rw[HS.o];exact⟨rfl,HI.o _,zy (zq w _)⟩
end
section
open Go.RowKit
variable {N cb k:Nat} {c:Sc} {ev nv:Value} {v:Vr} {W:World}
attribute [local go_sem ↓] Go.wp_at_zero Go.wp_at_succ
theorem znZ (hv:c.nd.vars[k]?=some v)(h:zaA v=0):c.of k=(0,0):=by unfold Sc.of;rw[hv];exact if_pos h
theorem znq (hv:c.nd.vars[k]?=some v)(h:¬zaA v=0):c.of k=(c.idx v.ck,zaA v):=by unfold Sc.of;rw[hv];exact if_neg h
theorem zkk (h:zbn W cb pr (ckL c k)) :
 ∃W1 W2,(Instr.mapUpdate 224 (.map (some cb)) (.agg #[xI (k:Int),xI 1]) (.agg #[xI ((c.of k).1:Nat),xI ((c.of k).2:Nat)])).run prog W=.ok () W1/\Fr (·=cb) W W1/\(Instr.mapUpdate 224 (.map (some cb)) (.agg #[xI (k:Int),xI 2]) (.agg #[xI ((c.of k).1:Nat),xI ((c.of k).2:Nat)])).run prog W1=.ok () W2/\Fr (·=cb) W1 W2/\zbn W2 cb pr (ckL c (k+1)):=by
 obtain⟨W1,r1,m1,f1⟩:=zgh Tryz.keyClock underlying224 h ((k:Int),1) (pr (clk (c.of k)));rw[zng] at m1;obtain⟨W2,r2,m2,f2⟩:=zgh Tryz.keyClock underlying224 m1 ((k:Int),2) (pr (clk (c.of k)));rw[zn3] at m2;exact⟨W1,W2,r1,f1,r2,f2,m2⟩
theorem zbR {w W1:World}(h:xB w W)(hf:Fr (·=cb) W W1)(hcb:w.heap.size<=cb):xB w W1 :=
 ⟨hf.os.trans h.os,hf.tape.trans h.tape,hf.output.trans h.output,Nat.le_trans h.size hf.size,λk hk=>(hf.block k (Nat.lt_of_lt_of_le hk h.size) (by omega)).trans (h.block k hk)⟩
theorem zeC (w:World)(h:ScV w N c ev nv)(hN:N<=w.heap.size) :
 xK 114 #[.agg #[ev,nv]] w (λe w'=>∃cb,e=.returned (.map (some cb))/\w.heap.size<=cb/\za7 w' c cb/\xB w w'):=by
 obtain⟨xe,cpe,nb,rfl,rfl,hnb⟩:=h.shape;have HSc:=za h;obtain⟨nb',vs,qv,xs,e9,hnt⟩:=h.nd;cases e9;obtain⟨xv,cpv,rfl⟩:=zB hnt.vown;obtain⟨xq,cpq,rfl⟩:=zB hnt.own;obtain⟨m0,m1,m2,m3,m4,m5,mf,mz⟩:=zt hnt.blk;have HNt:=za hnt;have hfew:=hnt.few;have hmm:=@run_makeMap prog;have hnw:nb<w.heap.size:=by omega
 have hA:∀o1 o2,((w.alloc o1).alloc o2).heap[w.heap.size]?=some o1/\((w.alloc o1).alloc o2).heap[w.heap.size+1]?=some o2:=λo1 o2=>zd8 w o1 o2;have HA:=za hA;clear h hnt hA;go_enter func114,ntmps114;go_wp2_with fail;go_loopg [14] (c.nd.vars.length+1) (λj x wr=>∃k:Nat,k+j=c.nd.vars.length+1/\k<=c.nd.vars.length/\x=xI k/\Hid (zbn wr (w.heap.size+1) pr (ckL c k))/\Hid (xH wr w.heap.size #[xE xe c cpe,xP nb] 202)/\Hid (xB w wr));case atStart=>exact⟨0,by omega,Nat.zero_le _,rfl,⟨#[],0,(HA.o _ _).2,rfl⟩,(HA.o _ _).1,zaD w _ _⟩
 case round =>
  clear HA m0 m1 m2 m3 m4 m5 mf mz hmm;obtain⟨k,hkj,hk,rfl,HM,HX,HB⟩:=hrel;have hO:=zm HB.o hN;by_cases hlt:k<c.nd.vars.length
  . obtain⟨v,hv⟩:∃v,c.nd.vars[k]?=some v:=⟨_,zsc hlt⟩;obtain⟨g,rfl,c0,c1,c2,c3,c4,c5,c6⟩:=zaM (HNt.o.old hO).vown hv;have hgN:=HNt.o.vlo g rfl;obtain⟨s0,s1,sf,sz⟩:=zp HX.o;have hzr:=HM.o.lt;have HSr:=za (HSc.o.old hO);have hwz:=HB.o.size;have hA:=zd8 wr (.cells #[.string v.nm,xI v.a,xI (zaK v:Nat),xI (zaA v:Nat),xI v.on,.string v.ck,xI v.ca] 156) (.cells #[xI 0,xI 0] 228);have HA:=za hA;have HV:=za hv;clear hA hO hv;by_cases hsg:zaA v=0
    . have hsg':(zaA v:Int)=0:=(by omega);have ho:=znZ HV.o hsg;rw[hsg] at c3 HA;have HO:=za ho;clear ho hsg hsg';go_upto_region 8 with fail;refine zn (λW=>zbn W (w.heap.size+1) pr (ckL c k)/\xH W (wr.heap.size+1) #[xI ((c.of k).1:Nat),xI ((c.of k).2:Nat)] 228/\xB w W/\xH W w.heap.size #[xE xe c cpe,xP nb] 202) ⟨HM.o.of ((zaD wr _ _).block _ hzr),by rw[HO.o];exact HA.o.2,HB.o.trans ((zaD wr _ _).mono hwz),(Below.block (zaD wr _ _) _ sz).trans HX.o⟩ ?_;rintro W ⟨hMW,hZW,hBW,hXW⟩;obtain⟨W1,W2,r1,f1,r2,f2,m2⟩:=zkk hMW;obtain⟨o0,o1,of,oz⟩:=zp hZW;have hne:¬wr.heap.size+1=w.heap.size+1:=(by omega);obtain⟨p0,p1,pf,pz⟩:=zp ((f1.block _ oz hne).trans hZW);have HM2:=za m2;have HB2:=za (zbR (zbR hBW f1 (by omega)) f2 (by omega));have HX2:Hid (xH W2 w.heap.size #[xE xe c cpe,xP nb] 202):=(f2.block _ (by have:=f1.size;have:=ze hXW;omega) (by omega)).trans ((f1.block _ (ze hXW) (by omega)).trans hXW);clear hMW hZW hBW hXW f1 f2 m2;go_wp2_with fail;go_roundg (gk-1);case measure=>omega
      exact⟨k+1,by omega,by omega,by go_num,HM2.o,HX2.o,HB2.o⟩
    . have hsg':¬(zaA v:Int)=0:=(by omega);have ho:=znq HV.o hsg;have HO:=za ho;clear ho hsg;go_upto_region 7 with fail;refine zn (λW=>zbn W (w.heap.size+1) pr (ckL c k)/\xB w W/\xH W w.heap.size #[xE xe c cpe,xP nb] 202/\xH W wr.heap.size #[.string v.nm,xI v.a,xI (zaK v:Nat),xI (zaA v:Nat),xI v.on,.string v.ck,xI v.ca] 156/\xH W (wr.heap.size+1) #[xI 0,xI 0] 228) ⟨HM.o.of ((zaD wr _ _).block _ hzr),HB.o.trans ((zaD wr _ _).mono hwz),(Below.block (zaD wr _ _) _ sz).trans HX.o,HA.o.1,HA.o.2⟩ ?_;rintro W ⟨hMW,hBW,hXW,hVW,hZW⟩;obtain⟨s0,s1,sf,sz⟩:=zp hXW;obtain⟨v0,v1,v2,v3,v4,v5,v6,vf,vz⟩:=zbZ hVW;obtain⟨z0,z1,zf,zz⟩:=zp hZW;have hWz:w.heap.size<=W.heap.size:=hBW.size;have HIx:=za (zaz v.ck (v.ca:Int) W.drew (HSc.o.old (zm (zo hBW) hN)) (by show N<=W.heap.size;omega));have HMW:=za hMW;have HBW:=za hBW;have HXW:=za hXW;have HZW:=za hZW;clear hMW hBW hXW hVW hZW v0 v1 v2 v4 vf c0 c1 c2 c3 c4 c5 c6
      go_region_held3 (λw'=>w'.cell? (xD w.heap.size 0)=some (xE xe c cpe)/\w'.cell? (xD w.heap.size 1)=some (xP nb)/\w'.cell? (xD wr.heap.size 3)=some (xI (zaA v:Nat))/\w'.cell? (xD wr.heap.size 5)=some (.string v.ck)/\w'.cell? (xD wr.heap.size 6)=some (xI v.ca))
       (first|(with_reducible (refine⟨?_,?_,?_,?_,?_⟩ <;> repeat (first|assumption|refine zg ?_|refine zj _ ?_|refine zk (by omega) ?_|refine zd HB1.o ?_ (by first|omega|(rw[zsb];omega)))))|go_keep)
       (first|(go_at_call 103;refine HIx.o.mono ?_;rintro e w1 ⟨rfl,hB1⟩;have HB1:=za (zw hB1);have hz1:=hB1.size;have y0:=zd HB1.o z0 zz;have y1:=zd HB1.o z1 zz;have yf:=zai ((HB1.o.block _ zz).trans HZW.o);clear hB1))
      go_upto_region 8 with fail;refine zn (λW=>zbn W (w.heap.size+1) pr (ckL c k)/\xH W (wr.heap.size+1) #[xI ((c.of k).1:Nat),xI ((c.of k).2:Nat)] 228/\xB w W/\xH W w.heap.size #[xE xe c cpe,xP nb] 202) ⟨HMW.o.of (zr (by omega) (zr (by omega) (HB1.o.block _ HMW.o.lt))),by rw[HO.o];exact zdR ((HB1.o.block _ zz).trans HZW.o) _ _,zC (zC (HBW.o.trans (HB1.o.mono hWz)) (by omega) _) (by omega) _,zr (by omega) (zr (by omega) ((HB1.o.block _ sz).trans HXW.o))⟩ ?_;clear s0 s1 sf v3 v5 v6 z0 z1 zf y0 y1 yf;rintro W ⟨hMW,hZW,hBW,hXW⟩;obtain⟨W1,W2,r1,f1,r2,f2,m2⟩:=zkk hMW;obtain⟨o0,o1,of,oz⟩:=zp hZW;have hne:¬wr.heap.size+1=w.heap.size+1:=(by omega);obtain⟨p0,p1,pf,pz⟩:=zp ((f1.block _ oz hne).trans hZW);have HM2:=za m2;have HB2:=za (zbR (zbR hBW f1 (by omega)) f2 (by omega));have HX2:Hid (xH W2 w.heap.size #[xE xe c cpe,xP nb] 202):=(f2.block _ (by have:=f1.size;have:=ze hXW;omega) (by omega)).trans ((f1.block _ (ze hXW) (by omega)).trans hXW);clear hMW hZW hBW hXW f1 f2 m2;go_wp2_with fail;go_roundg (gk-1);case measure=>omega
      exact⟨k+1,by omega,by omega,by go_num,HM2.o,HX2.o,HB2.o⟩
  . have ek:k=c.nd.vars.length:=by omega
    subst ek;go_wp2_with fail;go_ret;exact⟨_,rfl,by omega,HM.o,HB.o⟩
theorem zjV (t:Tm)(v:Value)(i:Nat)(k:Nat×Nat)(w:World)(hT:TT w N t v)(HSc:ScV w N c ev nv)(HCk:za7 w c cb)(hN:N<=w.heap.size) :
 xK 180 #[.map (some cb),.agg #[ev,nv],v,xI (i:Int),.agg #[xI (k.1:Nat),xI (k.2:Nat)]] w (λe w'=>e=.returned (.agg #[xI ((c.operand t i k).1:Nat),xI ((c.operand t i k).2:Nat)])/\xB w w'):=by
 obtain⟨xe,cpe,nb,rfl,rfl,hnb⟩:=HSc.shape;obtain⟨b,args,vs,rfl,hb,HBk,_⟩:=hT.ptr;have hbz:=ze HBk;clear hT;go_enter func180,ntmps180;go_upto_region 1 with fail;refine zn (λW=>(ScV W N c (xE xe c cpe) (xP nb)/\za7 W c cb/\xB w W)/\xH W w.heap.size #[xE xe c cpe,xP nb] 202/\xH W (w.heap.size+1) #[xI (k.1:Nat),xI (k.2:Nat)] 228/\xH W (w.heap.size+1+1) #[xI 0,xI 0] 228) ⟨⟨HSc.old (zot hN _ _ _),HCk.keep (zcz w _ _ _),zcz w _ _ _⟩,(al3 w _ _ _).1,(al3 w _ _ _).2.1,(al3 w _ _ _).2.2⟩ ?_;rintro W ⟨⟨HSW,HCW,HBW⟩,hXW,hYW,HZW⟩;obtain⟨s0,s1,sf,sz⟩:=zp hXW;obtain⟨k0,k1,kf,kz⟩:=zp hYW;obtain⟨z0,z1,zf,zz⟩:=zp HZW;obtain⟨m0,m1,m2,m3,m4,m5,mf,mz⟩:=zt ((HBW.block b hbz).trans HBk);have hWz:w.heap.size<=W.heap.size:=HBW.size;have HIx:=za (zaz t.s (t.nm:Int) W.drew (HSW.old (λ_ _=>rfl)) (by show N<=W.heap.size;omega));clear hXW hYW m1 m4 m5;by_cases h7:t.k=7
 . have hk:=h7;have HO:c.operand t i k=c.of (c.idx t.s):=if_pos (Or.inl hk);have m0':W.cell? (xD b 0)=some (xI 7):=by rw[m0,hk];rfl
   clear m0 hk h7;go_upto_region 4 with fail
   go_region_held3 (λw'=>w'.cell? (xD w.heap.size 0)=some (xE xe c cpe)/\w'.cell? (xD w.heap.size 1)=some (xP nb)/\w'.cell? (xD b 2)=some (.string t.s)/\w'.cell? (xD b 3)=some (xI t.nm))
    (first|(with_reducible (refine⟨?_,?_,?_,?_⟩ <;> repeat (first|assumption|refine zg ?_|refine zj _ ?_|refine zk (by omega) ?_|refine zd HB2.o ?_ (by first|omega|(rw[zsb];omega))|refine zd HB1.o ?_ (by first|omega|(rw[zsb];omega)))))|go_keep)
    (first
      | (go_at_call 116;refine HOf.o.mono ?_;rintro e w2 ⟨rfl,hB2⟩;have HB2:=za hB2;have hz2:w1.heap.size<=w2.heap.size:=hB2.size;have y0:=zd HB2.o (zd HB1.o z0 zz) (by omega);have y1:=zd HB2.o (zd HB1.o z1 zz) (by omega);have yf:=zai ((HB2.o.block _ (by omega)).trans ((HB1.o.block _ zz).trans HZW));clear hB2)
      | (go_at_call 103;refine HIx.o.mono ?_;rintro e w1 ⟨rfl,hB1⟩;have HB1:=za (zw hB1);have hz1:W.heap.size<=w1.heap.size:=hB1.size;have HOf:=za (zbC (c.idx t.s) w1 (HCW.keep HB1.o));clear hB1))
   go_wp2_with fail;rw[HO];refine bodyPost_ret (v:=.agg #[xI ((c.of (c.idx t.s)).1:Nat),xI ((c.of (c.idx t.s)).2:Nat)]) (by simp[results,results180,go_sem,y0,y1]) rfl ⟨rfl,zC (zC (HBW.trans ((HB1.o.trans (HB2.o.mono hz1)).mono hWz)) (by omega) _) (by omega) _⟩
 by_cases h8:t.k=8
 . have hk:=h8;have HO:c.operand t i k=c.of (c.idx t.s):=if_pos (Or.inr hk);have m0':W.cell? (xD b 0)=some (xI 8):=by rw[m0,hk];rfl
   clear m0 hk h7 h8;go_upto_region 4 with fail
   go_region_held3 (λw'=>w'.cell? (xD w.heap.size 0)=some (xE xe c cpe)/\w'.cell? (xD w.heap.size 1)=some (xP nb)/\w'.cell? (xD b 2)=some (.string t.s)/\w'.cell? (xD b 3)=some (xI t.nm))
    (first|(with_reducible (refine⟨?_,?_,?_,?_⟩ <;> repeat (first|assumption|refine zg ?_|refine zj _ ?_|refine zk (by omega) ?_|refine zd HB2.o ?_ (by first|omega|(rw[zsb];omega))|refine zd HB1.o ?_ (by first|omega|(rw[zsb];omega)))))|go_keep)
    (first
      | (go_at_call 116;refine HOf.o.mono ?_;rintro e w2 ⟨rfl,hB2⟩;have HB2:=za hB2;have hz2:w1.heap.size<=w2.heap.size:=hB2.size;have y0:=zd HB2.o (zd HB1.o z0 zz) (by omega);have y1:=zd HB2.o (zd HB1.o z1 zz) (by omega);have yf:=zai ((HB2.o.block _ (by omega)).trans ((HB1.o.block _ zz).trans HZW));clear hB2)
      | (go_at_call 103;refine HIx.o.mono ?_;rintro e w1 ⟨rfl,hB1⟩;have HB1:=za (zw hB1);have hz1:W.heap.size<=w1.heap.size:=hB1.size;have HOf:=za (zbC (c.idx t.s) w1 (HCW.keep HB1.o));clear hB1))
   go_wp2_with fail;rw[HO];refine bodyPost_ret (v:=.agg #[xI ((c.of (c.idx t.s)).1:Nat),xI ((c.of (c.idx t.s)).2:Nat)]) (by simp[results,results180,go_sem,y0,y1]) rfl ⟨rfl,zC (zC (HBW.trans ((HB1.o.trans (HB2.o.mono hz1)).mono hWz)) (by omega) _) (by omega) _⟩
 by_cases hk:t.k=6;by_cases hi:0<i
 . have HO:c.operand t i k=(c.idx t.s,2):=by unfold Sc.operand;rw[if_neg (by omega),if_pos hk,if_pos hi]
   have m0':W.cell? (xD b 0)=some (xI 6):=(by rw[m0,hk];rfl);have hi': (0:Int)<(i:Int):=(by omega);clear m0 hk hi h7 h8;go_upto_region 9 with fail
   go_region_held3 (λw'=>w'.cell? (xD w.heap.size 0)=some (xE xe c cpe)/\w'.cell? (xD w.heap.size 1)=some (xP nb)/\w'.cell? (xD b 2)=some (.string t.s)/\w'.cell? (xD b 3)=some (xI t.nm))
    (first|(with_reducible (refine⟨?_,?_,?_,?_⟩ <;> repeat (first|assumption|refine zg ?_|refine zj _ ?_|refine zk (by omega) ?_|refine zd HB1.o ?_ (by first|omega|(rw[zsb];omega)))))|go_keep)
    (first
      | (go_at_call 103;refine HIx.o.mono ?_;rintro e w1 ⟨rfl,hB1⟩;have HB1:=za (zw hB1);have hz1:W.heap.size<=w1.heap.size:=hB1.size;have y0:=zd HB1.o z0 zz;have y1:=zd HB1.o z1 zz;have yf:=zai ((HB1.o.block _ zz).trans HZW);clear hB1))
   go_wp2_with fail;rw[HO];refine bodyPost_ret (v:=.agg #[xI (c.idx t.s:Nat),xI 2]) (by simp[results,results180,go_sem,y0,y1]) rfl ⟨rfl,zC (zC (HBW.trans (HB1.o.mono hWz)) (by omega) _) (by omega) _⟩
 . have HO:c.operand t i k=(c.idx t.s,1):=by unfold Sc.operand;rw[if_neg (by omega),if_pos hk,if_neg hi]
   have m0':W.cell? (xD b 0)=some (xI 6):=(by rw[m0,hk];rfl);have hi':¬(0:Int)<(i:Int):=(by omega);clear m0 hk hi h7 h8;go_upto_region 9 with fail
   go_region_held3 (λw'=>w'.cell? (xD w.heap.size 0)=some (xE xe c cpe)/\w'.cell? (xD w.heap.size 1)=some (xP nb)/\w'.cell? (xD b 2)=some (.string t.s)/\w'.cell? (xD b 3)=some (xI t.nm))
    (first|(with_reducible (refine⟨?_,?_,?_,?_⟩ <;> repeat (first|assumption|refine zg ?_|refine zj _ ?_|refine zk (by omega) ?_|refine zd HB1.o ?_ (by first|omega|(rw[zsb];omega)))))|go_keep)
    (first
      | (go_at_call 103;refine HIx.o.mono ?_;rintro e w1 ⟨rfl,hB1⟩;have HB1:=za (zw hB1);have hz1:W.heap.size<=w1.heap.size:=hB1.size;have y0:=zd HB1.o z0 zz;have y1:=zd HB1.o z1 zz;have yf:=zai ((HB1.o.block _ zz).trans HZW);clear hB1))
   go_wp2_with fail;rw[HO];refine bodyPost_ret (v:=.agg #[xI (c.idx t.s:Nat),xI 1]) (by simp[results,results180,go_sem,y0,y1]) rfl ⟨rfl,zC (zC (HBW.trans (HB1.o.mono hWz)) (by omega) _) (by omega) _⟩
 . have HO:c.operand t i k=k:=by unfold Sc.operand;rw[if_neg (by omega),if_neg hk]
   have g7:¬(t.k:Int)=7:=(by omega);have g8:¬(t.k:Int)=8:=(by omega);have g6:¬(t.k:Int)=6:=(by omega);clear h7 h8 hk;go_wp2_with fail;rw[HO];refine bodyPost_ret (v:=.agg #[xI (k.1:Nat),xI (k.2:Nat)]) (by simp[results,results180,go_sem,z0,z1]) rfl ⟨rfl,zC (zC HBW (by omega) _) (by omega) _⟩
end
section
open Go.RowKit
variable {n:Nod}
attribute [local go_sem ↓] Go.wp_at_zero Go.wp_at_succ
def Nod.terms (n:Nod):List Tm:=n.eqs.flatMap λq=>zaV za5 q.r
theorem zkU {α β γ:Type}(f:γ->β->γ)(g:α->List β):∀(l:List α) (s:γ),(l.flatMap g).foldl f s=l.foldl (λs a=>(g a).foldl f s) s:=by
 intro l;induction l with
 | nil=>intro s;rfl
 | cons a l ih=>intro s;rw[List.flatMap_cons,List.foldl_append,List.foldl_cons,ih]
theorem znh:∀(l:List Nat) (s:Nat),l.foldl (·+·) s=s+zed l:=by
 intro l;induction l with
 | nil=>intro s;rfl
 | cons a l ih=>intro s;unfold zed;rw[List.foldl_cons,List.foldl_cons,ih,ih (0+a)];omega
theorem zmV (m:List (ByteArray×Nat))(hm:∀s,zbi s m<=61):∀(l:List Tm) (s:Nat),s+62*l.length<=4611686018427387904->l.foldl (zbf m) (s:Int)=((s+zed (l.map (za9 m)):Nat):Int):=by
 intro l;induction l with
 | nil=>intro s _;rfl
 | cons t l ih =>
   intro s hs;rw[List.length_cons] at hs;have h1:za9 m t<=62:=by
    unfold za9;have:=hm t.s;split
    . omega
    . split <;> omega
   have h2:zbf m (s:Int) t=((s+za9 m t:Nat):Int):=by
    unfold zbf;split
    . unfold wrap64;omega
    . rename_i h
      unfold za9;rw[if_neg (by omega),if_neg (by omega)];rfl
   rw[List.foldl_cons,h2,ih _ (by omega),List.map_cons];unfold zed;rw[List.foldl_cons,znh _ (0+za9 m t)];unfold zed;omega
theorem znm (n:Nod)(m:List (ByteArray×Nat)):zcg n m<=61:=Nat.min_le_right _ _
theorem zkg {N:Nat}{nb:Nat}{vs ev:Value}{xs:List Value}(b:Nat)(m:List (ByteArray×Nat))(hm:∀s,zbi s m<=61)(hsz:n.terms.length<=1000000)(w:World)(h:NT w N n nb vs ev xs)(hc:zdf w b m)(hN:N<=w.heap.size) :
 xK 123 #[xP nb,.map (some b)] w (λe w'=>e=.returned (xI (zcg n m:Nat))/\xB w w'):=by
 have hmf:∀(fn:Go.Fn) (first cap:Array Value) (w:World),(Instr.makeFunc fn first cap).run prog w=.ok (.func fn first cap) w:=λ_ _ _ _=>rfl;have hcz:=hc.lt;have HW:=za (λo1 o2 (h1:o1=Obj.cells #[.map (some b)] 238 (0,0)) (h2:o2=Obj.cells #[xI 0] 3 (0,0))=>zfN (zm7 N n (w.heap.size+1) w.heap.size b m hm (by omega)) nb vs ev xs 0 ((w.alloc o1).alloc o2) (h.old (zfr hN o1 o2)) (by rw[zsb,zsb];omega) (λk e=>by subst e;rw[zsb,zsb];omega) ⟨by rw[(zd8 w o1 o2).2,h2],by rw[(zd8 w o1 o2).1,h1],hc.keep (zaD w o1 o2),by omega,by omega⟩);have hf:n.eqs.foldl (λs q=>(zaV za5 q.r).foldl (λs t=>zbf m s t) s) (0:Int)=((zed (n.terms.map (za9 m)):Nat):Int):=by rw[<- zkU (zbf m) (λq=>zaV za5 q.r) n.eqs 0];have:=zmV m hm n.terms 0 (by omega);rw[Nat.zero_add] at this;exact this
 rw[hf] at HW;have HM:Hid (zcg n m=min (zed (n.terms.map (za9 m))) 61):=rfl;generalize zed (n.terms.map (za9 m))=tot at HW HM;go_enter func123,ntmps123;go_wp2_with (go_at_call 104;refine (HW.o _ _ rfl rfl).mono ?_;rintro e w1 ⟨rfl,hI,HF⟩;obtain⟨a0,af,az⟩:=zu hI.x1);all_goals go_ret
 all_goals rw[HM.o]
 all_goals refine⟨?_,zbR (zaD w _ _) HF (by omega)⟩
 all_goals first|(refine congrArg Ending.returned ?_;refine congrArg (Value.int IntKind.i64) ?_;first|omega|(split <;> omega))|trace_state
theorem zmM {ns:List Nod}{k:Nat}(h:ns[k]?=some n)(m:List (ByteArray×Nat))(last:Nat):zfW (ns.drop k) m last=zfW (ns.drop (k+1)) ((n.nm,zcg n m)::m) (zcg n m):=by obtain⟨h1,h2⟩:=List.getElem?_eq_some_iff.1 h;rw[List.drop_eq_getElem_cons h1,zfW,h2]
theorem zqt:zH 59:=λ_ _=>by kernel_rfl
theorem ziJ (S:Nat->Addr)(kd lb bb sb:Nat)(nmv askv:Value)(N:Nat)(ns:List Nod)(Hsz:∀n∈ns,n.terms.length<=1000000)(pv:Value)(st:Option Nat)(w:World)(HR:RpI S kd lb bb sb nmv askv st w)(hP:PT w N ns pv)(hN:N<=w.heap.size)(_l1:N<=lb)(_l2:N<=bb) :
 xK 59 #[pv,zam lb bb sb] w (λe w'=>e=.returned (.tuple #[])/\RpI S kd lb bb sb nmv askv ((zeZ ns).foldl rep st) w'/\Fr (RT lb bb) w w'):=by
 obtain⟨gb,gv,xs,rfl,hgb,hblk,HL⟩:=hP;obtain⟨xg,cpg,rfl⟩:=zB HL.own;have hmm:=@run_makeMap prog;have hfew:=HL.few;obtain⟨g0,gf,gz⟩:=zu hblk;unfold zam;go_enter func59,ntmps59;go_wp2_with fail;go_loopg [14,5] (ns.length+1) (λj i x wr=>∃(k last:Nat) (m:List (ByteArray×Nat)),k+j=ns.length+1/\k<=ns.length/\i=xI k/\x=xI last/\last<=61/\Hid (∀s,zbi s m<=61)/\Hid (zfW ns [] 0=zfW (ns.drop k) m last)/\Hid (zdf wr w.heap.size m)/\Hid (xB w wr));case atStart=>exact⟨0,0,[],by omega,Nat.zero_le _,rfl,rfl,by omega,λs=>by simp[zbi],rfl,⟨[],⟨#[],0,zc w _,rfl⟩,λs=>rfl⟩,zq w _⟩
 case round =>
  obtain⟨k,last,m,hkj,hk,rfl,rfl,hla,Hm,HD,HC,HB⟩:=hrel;have hO:=zm HB.o hN;by_cases hlt:k<ns.length
  . obtain⟨n,hn⟩:∃n,ns[k]?=some n:=⟨_,zsc hlt⟩;have hL2:=HL.old hO;obtain⟨v,hv,hnp⟩:=hL2.at' k n hn;obtain⟨g',rfl,hcell⟩:=zbE hL2.own hv;obtain⟨nb,vs,qv,ys,rfl,hnt⟩:=hnp;have hgN:=HL.lo g' rfl;obtain⟨m0,m1,m2,m3,m4,m5,mf,mz⟩:=zt hnt.blk;have hzr:=HB.o.size;have HCo:=za (zkg w.heap.size m Hm.o (Hsz n (List.mem_of_getElem? hn)) wr hnt HC.o (by omega));have HT:=za (zmM hn m last);rw[<- HD.o] at HT;have h61:=znm n m;have Hm2:Hid (∀s,zbi s ((n.nm,zcg n m)::m)<=61):=by
     intro s;rw[zbi];split
     . exact h61
     . exact Hm.o s
    generalize zcg n m=cm at HCo HT h61 Hm2;go_wp2_with (go_at_call 123;refine HCo.o.mono ?_;rintro e w1 ⟨rfl,hB1⟩;obtain⟨w2,hr2,HC2,hF2⟩:=zqN (HC.o.keep hB1) n.nm cm;have r0:=zd hB1 m0 mz;have HB2:=za (zbR (HB.o.trans (hB1.mono hzr)) hF2 (Nat.le_refl _)));go_roundg (gk-1);case measure=>omega
    exact⟨k+1,cm,_,by omega,by omega,by go_num,rfl,h61,Hm2.o,HT.o,HC2,HB2.o⟩
  . have ek:k=ns.length:=by omega
    subst ek;rw[List.drop_length,zfW] at HD;have HR2:=za (HR.keep HB.o);by_cases h60:60<last
    . have HT:Hid ((zeZ ns).foldl rep st=rep st 0):=(by unfold Hid zeZ;rw[HD.o,if_pos h60];rfl);have h60':(60:Int)<(last:Int):=(by omega);have HTell:=za (zaa S kd lb bb sb nmv askv st 0 wr HR2.o);go_wp2_with (go_at_call 124;refine HTell.o.mono ?_;rintro e w2 ⟨rfl,HRt,HFt⟩);first|go_end0|refine bodyPost_ret (results_none rfl _ _ _) rfl ?_
      rw[HT.o];exact⟨rfl,HRt,(zy HB.o).trans HFt⟩
    . have HT:Hid ((zeZ ns).foldl rep st=st):=(by unfold Hid zeZ;rw[HD.o,if_neg h60];rfl);have h60':¬(60:Int)<(last:Int):=(by omega);go_wp2_with fail;first|go_end0|refine bodyPost_ret (results_none rfl _ _ _) rfl ?_
      rw[HT.o];exact⟨rfl,HR2.o,zy HB.o⟩
end
section
variable {r17 r18:Fn} {L:List Ex}
def vzQ (qs:List Qn):Nat:=(qs.map λq=>vz q.r).sum
def SQ (L:List Ex)(eqs:List Eqn):Prop:=∃qs,zge L eqs qs/\vzQ qs<=L.length
theorem zFH {L':List Ex}(hp:L <+: L'):∀{eqs:List Eqn} {qs:List Qn},zge L eqs qs->zge L' eqs qs:=by
 intro eqs;induction eqs with
 | nil=>intro qs h;exact h
 | cons q l ih => rintro qs ⟨q',l',rfl,h1,h2⟩;exact⟨q',l',rfl,⟨h1.ns,h1.ps,h1.a,zAz hp h1.r⟩,ih h2⟩
theorem zEW {q:Eqn}{q':Qn}(hq:zrJ L q q'):∀{eqs:List Eqn} {qs:List Qn},zge L eqs qs->zge L (eqs++[q]) (qs++[q']):=by
 intro eqs;induction eqs with
 | nil=>rintro qs rfl;exact⟨q',[],rfl,hq,rfl⟩
 | cons e l ih => rintro qs ⟨e',l',rfl,h1,h2⟩;exact⟨e',l'++[q'],rfl,h1,ih h2⟩
theorem zAT (s17:SzD 17 r17)(s18:SzD 18 r18){st:St}{eqs:List Eqn}{p:Nat}(hI:Inv p st)(ho:st.op=0)(h:SQ st.L eqs)(hn:(zF r17 r18 st eqs).1.er=0):SQ (zF r17 r18 st eqs).1.L (zF r17 r18 st eqs).2:=by
 obtain⟨gl,g2,g3⟩:=zfO hI;have hi2:=(Fwd.must gl.inv 4 [61]).inv;have o2:((zaH st).st.must 4 [61]).op=0:=by rw[St.must_op,g2,ho]
 have L2:((zaH st).st.must 4 [61]).L=st.L:=by rw[St.must_L,g3]
 have he:(zck r17 r18 (st.is 4 [40]) ((zaH st).st.must 4 [61])).1.er=0:=(zbu.must _ 4 [59]).back hn;obtain⟨s2,hs2⟩:∃s2,(zaH st).st.must 4 [61]=s2:=⟨_,rfl⟩;rw[hs2] at hi2 o2 L2 he;have eE:zF r17 r18 st eqs=((zck r17 r18 (st.is 4 [40]) s2).1.must 4 [59],eqs++[⟨(zaH st).ns,(zaH st).ps,(zaH st).st.t.a,(zck r17 r18 (st.is 4 [40]) s2).2⟩]):=by unfold zF;simp only;rw[hs2]
 have key:∃t,zeA (zck r17 r18 (st.is 4 [40]) s2).1.L (zck r17 r18 (st.is 4 [40]) s2).2 t/\vz t+st.L.length<=(zck r17 r18 (st.is 4 [40]) s2).1.L.length/\st.L <+: (zck r17 r18 (st.is 4 [40]) s2).1.L:=by
  unfold zck at he ⊢;split
  . rename_i hm
    rw[if_pos hm] at he;have hc:Cd' 18 s2.name:=λ_=>by rw[St.name_op,o2];omega
    obtain⟨_,_,k3,t,k4,k5⟩:=zCf s17 s2.t s2.name hc he;rw[St.name_L,L2] at k3 k5;exact⟨t,k4,k5,k3⟩
  . rename_i hm
    rw[if_neg hm] at he;have hc:Cd' 18 s2:=λ_=>by rw[o2];omega
    obtain⟨_,_,k3,t,k4,k5⟩:=s18 s2 hc he;rw[L2] at k3 k5;exact⟨t,k4,k5,k3⟩
 obtain⟨t,k1,k2,k3⟩:=key;obtain⟨qs,q1,q2⟩:=h;rw[eE];refine⟨qs++[⟨(zaH st).ns,(zaH st).ps,(zaH st).st.t.a,t⟩],?_,?_⟩
 . show zge ((zck r17 r18 (st.is 4 [40]) s2).1.must 4 [59]).L (eqs++[⟨(zaH st).ns,(zaH st).ps,(zaH st).st.t.a,(zck r17 r18 (st.is 4 [40]) s2).2⟩]) _;rw[St.must_L];exact zEW ⟨rfl,rfl,rfl,k1⟩ (zFH k3 q1)
 . show vzQ _<=((zck r17 r18 (st.is 4 [40]) s2).1.must 4 [59]).L.length;rw[St.must_L];unfold vzQ at q2 ⊢;simp only[List.map_append,List.sum_append,List.map_cons,List.map_nil,List.sum_cons,List.sum_nil];omega
theorem zC0 (s17:SzD 17 r17)(s18:SzD 18 r18)(g17:zv 17 r17)(g18:zv 18 r18):∀(f p:Nat) (x:St×List Eqn),Inv p x.1->x.1.op=0->(x.1.er=0->SQ x.1.L x.2)->(zb5 r17 r18 f x).1.er=0->SQ (zb5 r17 r18 f x).1.L (zb5 r17 r18 f x).2
 | 0,_,_,_,_,h,hn=>h hn
 | f+1,p,x,hI,ho,h,hn=>by
   by_cases hc:x.1.t.k=2∨x.1.is 4 [40]=true
   . have e:zb5 r17 r18 (f+1) x=zb5 r17 r18 f (zF r17 r18 x.1 x.2):=(by rw[zb5,if_pos hc]);rw[e] at hn ⊢;obtain⟨gF,gO⟩:=za1 g17 g18 (eqs:=x.2) hI ho;exact zC0 s17 s18 g17 g18 f p _ gF.inv (by rw[gO];exact ho) (λhe=>zAT s17 s18 hI ho (h (gF.back he)) he) hn
   . have e:zb5 r17 r18 (f+1) x=x:=(by rw[zb5,if_neg hc]);rw[e] at hn ⊢;exact h hn
def NdZ (d:Nd):Prop:=SQ d.exs d.eqs/\d.exs.length<=1201
theorem zCA (s17:SzD 17 r17)(s18:SzD 18 r18)(g17:zv 17 r17)(g18:zv 18 r18)(f p:Nat)(st:St)(hI:Inv p st)(ho:st.op=0)(hn:(zax r17 r18 f st).1.er=0):NdZ (zax r17 r18 f st).2:=by
 have i0:=Fwd.fresh hI;have gh:=zit i0;have gv:=zeP (f:=f) (vars:=(zaI st.fresh).2) gh.1.inv;have g1:=Fwd.must gv.1.inv 4 [123];have o1:((zaS f (zaI st.fresh).1 (zaI st.fresh).2).1.must 4 [123]).op=0:=by rw[St.must_op,gv.2.1,gh.2.1];exact ho
 have L1:((zaS f (zaI st.fresh).1 (zaI st.fresh).2).1.must 4 [123]).L=[]:=by rw[St.must_L,gv.2.2,gh.2.2];rfl
 obtain⟨V,hV⟩:∃V,zaS f (zaI st.fresh).1 (zaI st.fresh).2=V:=⟨_,rfl⟩;rw[hV] at g1 o1 L1;have e:zax r17 r18 f st=((zdr r17 r18 f V.1).1,⟨(st.fresh.must 5 zW).t.s,(st.fresh.must 5 zW).t.a,V.2,(zdr r17 r18 f V.1).1.L,(zdr r17 r18 f V.1).2⟩):=by unfold zax;simp only;rw[hV]
 rw[e] at hn ⊢;obtain⟨gF,gO⟩:=za1 g17 g18 (eqs:=[]) g1.inv o1;have gE:=zfZ g17 g18 f _ (zF r17 r18 (V.1.must 4 [123]) []) gF.inv (by rw[gO];exact o1);have gM:=Fwd.must gE.1.inv 4 [125];have h2:(zb5 r17 r18 f (zF r17 r18 (V.1.must 4 [123]) [])).1.er=0:=(zbu.must _ 4 [125]).back hn;have hs:=zC0 s17 s18 g17 g18 f _ _ gF.inv (by rw[gO];exact o1) (λhe=>zAT s17 s18 g1.inv o1 ⟨[],by rw[L1];rfl,Nat.zero_le _⟩ he) h2;have eL:(zdr r17 r18 f V.1).1.L=(zb5 r17 r18 f (zF r17 r18 (V.1.must 4 [123]) [])).1.L:=St.must_L _ _ _;refine⟨?_,?_⟩
 . show SQ (zdr r17 r18 f V.1).1.L _;rw[eL];exact hs
 . show (zdr r17 r18 f V.1).1.L.length<=1201;have h3:=gM.inv.pot;have h4:=gM.inv.ok.ta_le;have h5:(zdr r17 r18 f V.1).1=(zb5 r17 r18 f (zF r17 r18 (V.1.must 4 [123]) [])).1.must 4 [125]:=rfl;rw[h5];split at h3 <;> omega
theorem zBT (s17:SzD 17 r17)(s18:SzD 18 r18)(g17:zv 17 r17)(g18:zv 18 r18)(g:Nat):∀(f p:Nat) (x:St×List Nd),Inv p x.1->x.1.op=0->(∀nd∈x.2,NdZ nd)->(zdZ r17 r18 g f x).1.er=0->(∀nd∈(zdZ r17 r18 g f x).2,NdZ nd)
 | 0,_,_,_,_,h,_=>h
 | f+1,p,x,hI,ho,h,hn=>by
   by_cases hc:x.1.is 5 zW=true/\x.2.length<6
   . have e:zdZ r17 r18 g (f+1) x=zdZ r17 r18 g f ((zax r17 r18 g x.1).1,x.2++[(zax r17 r18 g x.1).2]):=(by rw[zdZ,if_pos hc]);rw[e] at hn ⊢;obtain⟨i1,o1⟩:=zzR g17 g18 g p x.1 hI ho;have h1:(zax r17 r18 g x.1).1.er=0:=by
      by_cases h2:(zax r17 r18 g x.1).1.er=0
      . exact h2
      . rw[zze i1 h2] at hn;exact absurd hn h2
     refine zBT s17 s18 g17 g18 g f 0 _ i1 o1 (λnd hnd=>?_) hn;rcases zzv hnd with hnd|rfl
     . exact h nd hnd
     . exact zCA s17 s18 g17 g18 g p x.1 hI ho h1
   . have e:zdZ r17 r18 g (f+1) x=x:=(by rw[zdZ,if_neg hc]);rw[e];exact h
theorem zFj (s17:SzD 17 r17)(s18:SzD 18 r18)(g17:zv 17 r17)(g18:zv 18 r18)(g:Nat)(s:ByteArray)(hI:Inv 0 (⟨s,zZ s 0,0,0,0,[]⟩:St))(hn:(zgo r17 r18 g s).1.er=0):∀nd∈(zgo r17 r18 g s).2,NdZ nd:=by
 have h1:(zdZ r17 r18 g g ((zax r17 r18 g ⟨s,zZ s 0,0,0,0,[]⟩).1,[(zax r17 r18 g ⟨s,zZ s 0,0,0,0,[]⟩).2])).1.er=0:=(zzQ _).back hn;obtain⟨i1,o1⟩:=zzR g17 g18 g 0 ⟨s,zZ s 0,0,0,0,[]⟩ hI rfl;have h2:(zax r17 r18 g ⟨s,zZ s 0,0,0,0,[]⟩).1.er=0:=by
  by_cases h3:(zax r17 r18 g ⟨s,zZ s 0,0,0,0,[]⟩).1.er=0
  . exact h3
  . rw[zze i1 h3] at h1;exact absurd h1 h3
 refine zBT s17 s18 g17 g18 g g 0 _ i1 o1 (λnd hnd=>?_) h1;rw[List.mem_singleton.1 hnd];exact zCA s17 s18 g17 g18 g 0 _ hI rfl h2
theorem zF1:∀{l:List Nd},(∀d∈l,NdZ d)->∃ns,ze5 l ns/\∀n∈ns,n.terms.length<=1201:=by
 intro l;induction l with
 | nil=>intro _;exact⟨[],rfl,λn h=>by cases h⟩
 | cons d l ih =>
   intro h;obtain⟨ns,h1,h2⟩:=ih (λd hd=>h d (List.mem_cons_of_mem _ hd));obtain⟨⟨qs,q1,q2⟩,q3⟩:=h d (List.mem_cons_self ..);refine⟨⟨d.nm,d.a,d.vars,d.ins,d.outs,qs⟩::ns,⟨_,ns,rfl,⟨rfl,rfl,rfl,rfl,rfl,q1⟩,h1⟩,λn hn=>?_⟩;rcases List.mem_cons.1 hn with rfl|hn
   . have:(Nod.terms ⟨d.nm,d.a,d.vars,d.ins,d.outs,qs⟩).length=vzQ qs:=by unfold Nod.terms vzQ;rw[List.length_flatMap];rfl
     rw[this];omega
   . exact h2 n hn
end
end Go.Proofs.YtmfkofhgdjechaaGreatDoor
