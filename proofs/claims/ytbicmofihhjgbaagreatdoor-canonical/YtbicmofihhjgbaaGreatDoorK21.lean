/- Part 22 of the proof. -/
import Derived.Test.YtbicmofihhjgbaaGreatDoorK20
set_option maxRecDepth 100000
set_option maxHeartbeats 8000000
namespace Go.Proofs.YtbicmofihhjgbaaGreatDoor
open Go.Proofs.Tryz
section
open Go.RowKit
attribute [local go_sem ↓] Go.wp_at_zero Go.wp_at_succ
theorem zhE (c:Sc):∀(a b:List Vr) (i:Nat),zat c (a++b) i=zat c a i++zat c b (i+a.length):=by
 intro a;induction a with
 | nil=>intro b i;rfl
 | cons v a ih=>intro b i;rw[List.cons_append,zat,zat,ih,zMR,show i+1+a.length=i+(a.length+1) by omega];simp only[zMQ]
theorem zgY (c:Sc):∀(a a':Xl) (b b':Xn),a.length=b.length->z7 c (a++a') (b++b')=z7 c a b++z7 c a' b':=by
 intro a;induction a with
 | nil=>intro a' b b' h;cases b with
   | nil=>rfl
   | cons _ _=>simp at h
 | cons s a ih=>intro a' b b' h;cases b with
   | nil=>simp at h
   | cons p b=>rw[List.cons_append,List.cons_append,z7,z7,ih _ _ _ (by simpa using h),zMQ]
theorem zhN {c:Sc}{ns:Xl}{ps:Xn}{k:Nat}{s:Xb}{p:Nat}(hs:ns[k]?=some s)(hp:ps[k]?=some p):z7 c (ns.take (k+1)) (ps.take (k+1))=z7 c (ns.take k) (ps.take k)++((if (!c.has s||decide (c.idx s<c.nd.ins))=true then [p] else [])++[]):=by have h1:=(zMJ.1 hs).1;have h2:=(zMJ.1 hp).1;rw[zeq hs,zeq hp,zgY c _ _ _ _ (by simp;omega)];rfl
theorem ziZ (S:Xs)(kd lb bb sb:Nat)(nmv askv:Xv)(N:Nat)(c:Sc)(h6:c.er.length<=6)(hps:∀q∈c.nd.eqs,q.ns.length=q.ps.length)(ev nv:Xv)(st:Xo)(w:Xw)(hR:RpI S kd lb bb sb nmv askv st w)(h:ScV w N c ev nv)(hN:N<=w.heap.size)(l1:N<=lb)(l2:N<=bb) :
 xK 66 #[.agg #[ev,nv],zam lb bb sb] w (λe w'=>e=.returned (.tuple #[])/\RpI S kd lb bb sb nmv askv (c.namesL.foldl rep st) w'/\Fr (RT lb bb) w w'):=by
 obtain⟨xe,cpe,nb,rfl,rfl,hnb⟩:=h.shape;have hzl:=ze hR.l;have hzb:=ze hR.b;have hA0:∀o1 o2,((w.alloc o1).alloc o2).heap[w.heap.size]?=some o1/\((w.alloc o1).alloc o2).heap[w.heap.size+1]?=some o2:=λo1 o2=>al2 w o1 o2
 have hAs:zas S kd lb bb sb nmv askv N c (xE xe c cpe) (xP nb) w.heap.size (w.heap.size+1) st ((w.alloc (.cells #[xE xe c cpe,xP nb] 216)).alloc (.cells #[zam lb bb sb] 214)) :=
  ⟨hR.keep (zaD w _ _),h.old (zfr hN _ _),(hA0 _ _).1,(hA0 _ _).2,by omega,by omega,by omega,by omega,l1,l2,by simp;omega⟩
 have HAs:=za hAs;obtain⟨nb',vs,qv,xs,e9,hnt⟩:=h.nd;cases e9;obtain⟨xv,cpv,rfl⟩:=zB hnt.vown;obtain⟨xq,cpq,rfl⟩:=zB hnt.own;have HNt:=za hnt;have hfew:=hnt.few;have HPs:=za hps;have h16:c.nd.eqs.length<=9223372036854775807:=by
  rcases hnt.own.2 with ⟨_,h⟩|⟨g,cap,cur,hv,_,_,h3,h4,_⟩
  . omega
  unfold maxLen at h4;omega
 have HTy:Hid (c.namesL.foldl rep st=((c.nd.eqs.flatMap λq=>(zaV za5 q.r).flatMap (zaL c q))).foldl rep ((c.nd.eqs.flatMap λq=>z7 c q.ns q.ps).foldl rep ((zat c c.nd.vars 0).foldl rep ((if (c.called c.nd.nm).isSome=true then [c.nd.a] else []).foldl rep st)))):=by unfold Hid Sc.namesL;rw[zMP,zMP,zMP]
 have HFr0:=za (zy (T:=RT lb bb) (zaD w (.cells #[xE xe c cpe,xP nb] 216) (.cells #[zam lb bb sb] 214)));clear hR h hA0 hAs hnt hps;unfold zam at HAs HFr0 ⊢;go_enter func66,ntmps66;go_upto_block 0 with fail;refine zn (λW=>zas S kd lb bb sb nmv askv N c (xE xe c cpe) (xP nb) w.heap.size (w.heap.size+1) st W/\Fr (RT lb bb) w W) ⟨HAs.o,HFr0.o⟩ ?_;rintro W ⟨hIW,hFW⟩;have HIW:=za hIW;have HFW:=za hFW;obtain⟨s0,s1,sf,sz⟩:=zp hIW.x1;obtain⟨p0,pf,pz⟩:=zu hIW.x2;have hOW:=hFW.old hN (λk e=>by rcases e with e|e;exact e▸l1;exact e▸l2);obtain⟨m0,m1,m2,m3,m4,m5,mf,mz⟩:=zt ((hOW nb HNt.o.lo).trans HNt.o.blk);have hNW:=hIW.hN;have hS1:=hIW.sc.old (w':=W.drew) (λ_ _=>rfl);have hS2:=λo=>hIW.sc.old (w':=(W.alloc o).drew) (zeW hNW o);clear hIW hFW hOW HAs HFr0;go_cut [5] (λx wx=>x=.bool (c.called c.nd.nm).isSome/\Hid (zas S kd lb bb sb nmv askv N c (xE xe c cpe) (xP nb) w.heap.size (w.heap.size+1) st wx)/\Hid (Fr (RT lb bb) w wx));case first =>
  cases hcal:c.called c.nd.nm with
  | none =>
    have HC1:=za (zc4 c.nd.nm (c.nd.a:Int) W.drew hS1 hNW h6 hcal);have HC2:=za (λo=>zc4 c.nd.nm (c.nd.a:Int) (W.alloc o).drew (hS2 o) (by show N<=(W.alloc o).heap.size;simp;omega) h6 hcal);have Hcal:=za hcal;clear hS1 hS2 hcal m2 m3 m4 m5 mf sf pf
    go_region_held3 (λw'=>w'.cell? (xD w.heap.size 0)=some (xE xe c cpe)/\w'.cell? (xD w.heap.size 1)=some (xP nb)/\w'.cell? (xD nb 0)=some (.string c.nd.nm)/\w'.cell? (xD nb 1)=some (xI c.nd.a))
     (first|(with_reducible (refine⟨?_,?_,?_,?_⟩ <;> repeat (first|assumption|refine zg ?_|refine zj _ ?_|refine zk (by omega) ?_|refine zd HB1.o ?_ (by first|omega|(rw[zsb];omega)))))|go_keep)
     (first
       | (go_at_call 119;refine HC1.o.mono ?_;rintro e w1 ⟨rfl,hB1⟩;have HB1:=za (zw hB1);clear hB1)
       | (go_at_call 119;refine (HC2.o _).mono ?_;rintro e w1 ⟨rfl,hB1⟩;have HB1:=za (zw hB1);obtain⟨y0,y1,yf,yz⟩:=zp ((HB1.o.block W.heap.size (by rw[zsb];omega)).trans (zc W _));clear hB1))
    . go_wp2_with fail;go_meet;exact⟨by rw[Hcal.o];rfl,(HIW.o.keep HB1.o).keep (zq _ _),(HFW.o.trans (zy HB1.o)).alloc _⟩
    go_wp2_with fail;go_meet;exact⟨by rw[Hcal.o];rfl,HIW.o.keep (zC (zC (zE HB1.o) (zMK _) _) (zMK _) _),HFW.o.trans (zy (zC (zC (zE HB1.o) (zMK _) _) (zMK _) _))⟩
  | some d =>
    have HC1:=za (zah c.nd.nm (c.nd.a:Int) W.drew hS1 hNW h6 hcal);have HC2:=za (λo=>zah c.nd.nm (c.nd.a:Int) (W.alloc o).drew (hS2 o) (by show N<=(W.alloc o).heap.size;simp;omega) h6 hcal);have Hcal:=za hcal;clear hS1 hS2 hcal m2 m3 m4 m5 mf sf pf
    go_region_held3 (λw'=>w'.cell? (xD w.heap.size 0)=some (xE xe c cpe)/\w'.cell? (xD w.heap.size 1)=some (xP nb)/\w'.cell? (xD nb 0)=some (.string c.nd.nm)/\w'.cell? (xD nb 1)=some (xI c.nd.a))
     (first|(with_reducible (refine⟨?_,?_,?_,?_⟩ <;> repeat (first|assumption|refine zg ?_|refine zj _ ?_|refine zk (by omega) ?_|refine zd HB1.o ?_ (by first|omega|(rw[zsb];omega)))))|go_keep)
     (first
       | (go_at_call 119;refine HC1.o.mono ?_;rintro e w1 ⟨x2,cp2,n2,rfl,hsc,hB1⟩;have HB1:=za (zw hB1);clear hB1)
       | (go_at_call 119;refine (HC2.o _).mono ?_;rintro e w1 ⟨x2,cp2,n2,rfl,hsc,hB1⟩;have HB1:=za (zw hB1);obtain⟨y0,y1,yf,yz⟩:=zp ((HB1.o.block W.heap.size (by rw[zsb];omega)).trans (zc W _));clear hB1))
    . go_wp2_with fail;go_meet;exact⟨by rw[Hcal.o];rfl,(HIW.o.keep HB1.o).keep (zq _ _),(HFW.o.trans (zy HB1.o)).alloc _⟩
    go_wp2_with fail;go_meet;exact⟨by rw[Hcal.o];rfl,HIW.o.keep (zC (zC (zE HB1.o) (zMK _) _) (zMK _) _),HFW.o.trans (zy (zC (zC (zE HB1.o) (zMK _) _) (zMK _) _))⟩
 case rest =>
  obtain⟨rfl,HIc,HFc⟩:=hcut;obtain⟨st0,hst0⟩:∃st0,(if (c.called c.nd.nm).isSome=true then [c.nd.a] else []).foldl rep st=st0:=⟨_,rfl⟩;have Hst0:=za hst0;rw[hst0] at HTy;generalize htw:(c.called c.nd.nm).isSome=tw at *;clear htw;clear hst0 hS1 hS2 s0 s1 p0 pf m0 m1 m2 m3 m4 m5 mf mz sf sz pz HIW HFW;have hOc:=HFc.o.old hN (λk e=>by rcases e with e|e;exact e▸l1;exact e▸l2);obtain⟨s0,s1,sf,sz⟩:=zp HIc.o.x1;obtain⟨p0,pf,pz⟩:=zu HIc.o.x2;obtain⟨m0,m1,m2,m3,m4,m5,mf,mz⟩:=zt ((hOc nb HNt.o.lo).trans HNt.o.blk);unfold zam at p0;have hnlb:¬nb=lb:=by omega
  have hnbb:¬nb=bb:=by omega
  have hwlb:¬w.heap.size=lb:=by omega
  have hwbb:¬w.heap.size=bb:=by omega
  have hwlb1:¬w.heap.size+1=lb:=by omega
  have hwbb1:¬w.heap.size+1=bb:=by omega
  clear hOc;go_upto_if 26 with fail;go_cut [] (λwy=>Hid (zas S kd lb bb sb nmv askv N c (xE xe c cpe) (xP nb) w.heap.size (w.heap.size+1) st0 wy)/\Hid (Fr (RT lb bb) w wy));case first =>
   cases tw with
   | false => go_wp2_with fail;go_meet;rw[<- Hst0.o];exact⟨HIc.o,HFc.o⟩
   | true =>
     have HTell:=za (zaa S kd lb bb sb nmv askv st c.nd.a wc.drew (HIc.o.rp.keep (zo (Below.refl _ _))));go_upto_region 3 with fail
     go_region_held3 (λw'=>w'.cell? (xD w.heap.size 1)=some (xP nb)/\w'.cell? (xD (w.heap.size+1) 0)=some (.func (.func 140) #[] #[xP lb,xP bb,xP sb])/\w'.cell? (xD nb 1)=some (xI c.nd.a))
      (first|(with_reducible (refine⟨?_,?_,?_⟩ <;> repeat (first|assumption|refine zg ?_|refine zS HFt.o ?_ (by omega) (by omega))))|go_keep)
      (first
        | (go_at_call 140;refine (HTell.o).mono ?_;rintro e w2 ⟨rfl,hRt,hFt'⟩;have HRt:=za hRt;have HFt:=za hFt'.undrew;clear hRt hFt'))
     go_wp2_with fail;go_meet;rw[<- Hst0.o];exact⟨HIc.o.told HRt.o HFt.o,HFc.o.trans HFt.o⟩
  case rest =>
   obtain⟨HId,HFd⟩:=hcut;clear Hst0 s0 s1 sf sz p0 pf pz m0 m1 m2 m3 m4 m5 mf mz HIc HFc;have hOd:=HFd.o.old hN (λk e=>by rcases e with e|e;exact e▸l1;exact e▸l2);obtain⟨s0,s1,sf,sz⟩:=zp HId.o.x1;obtain⟨m0,m1,m2,m3,m4,m5,mf,mz⟩:=zt ((hOd nb HNt.o.lo).trans HNt.o.blk);clear hOd;go_wp2_with fail;go_loopg [43] (c.nd.vars.length+1) (λj i wr=>∃k:Nat,k+j=c.nd.vars.length+1/\k<=c.nd.vars.length/\i=xI k/\Hid (zas S kd lb bb sb nmv askv N c (xE xe c cpe) (xP nb) w.heap.size (w.heap.size+1) ((zat c (c.nd.vars.take k) 0).foldl rep st0) wr)/\Hid (Fr (RT lb bb) w wr));case atStart=>exact⟨0,by omega,zMN _,rfl,HId.o,HFd.o⟩
   case round =>
    clear HId HFd s0 s1 sf sz m0 m1 m2 m3 m4 m5 mf mz;obtain⟨k,hkj,hk,rfl,HIk,HFk⟩:=hrel;have hOk:=HFk.o.old hN (λk e=>by rcases e with e|e;exact e▸l1;exact e▸l2);obtain⟨p0,p1,pf,pz⟩:=zp HIk.o.x1;obtain⟨q0,qf,qz⟩:=zu HIk.o.x2;unfold zam at q0;have hNr:=HIk.o.hN;by_cases hlt:k<c.nd.vars.length
    . obtain⟨v,hv⟩:∃v,c.nd.vars[k]?=some v:=⟨_,zsc hlt⟩;obtain⟨g,rfl,c0,c1,c2,c3,c4,c5,c6⟩:=zaM (HNt.o.old hOk).vown hv;have hgN:=HNt.o.vlo g rfl;have hT1:zat c (c.nd.vars.take (k+1)) 0=zat c (c.nd.vars.take k) 0++((if (c.nd.find v.nm).getD 0<k then [v.a] else [])++(if (zaA v != 0&&!c.has v.ck)=true then [v.ca] else [])++[]):=by
       rw[zeq hv,zhE];have:0+(c.nd.vars.take k).length=k:=by simp;omega
       rw[this];rfl
      have HFi:=za (λo=>zgF v.nm (wr.alloc o) ((HNt.o.old hOk).old (zeW hNr o)));have hpz1:w.heap.size<wr.heap.size+1:=(by omega);have hqz1:w.heap.size+1<wr.heap.size+1:=(by omega);obtain⟨ff,hff⟩:∃ff,c.nd.find v.nm=ff:=⟨_,rfl⟩;rw[hff] at HFi hT1;obtain⟨stA,hstA⟩:∃stA,(if ff.getD 0<k then [v.a] else []).foldl rep ((zat c (c.nd.vars.take k) 0).foldl rep st0)=stA:=⟨_,rfl⟩;have HT:Hid ((zat c (c.nd.vars.take (k+1)) 0).foldl rep st0=(if (zaA v != 0&&!c.has v.ck)=true then [v.ca] else []).foldl rep stA):=(by unfold Hid;rw[hT1,zMP,zMP,zMP,hstA];rfl);have HstA:=za hstA;have BOX:∀W:Xw,xB wr W->True:=λ_ _=>trivial;clear hT1 hff hstA hOk BOX;unfold zk6 at HFi;go_upto_if 60 with (go_at_call 120;refine (HFi.o _).mono ?_;rintro e w1 ⟨rfl,hB1⟩;(have hbx:=(hB1.block wr.heap.size (by simp)).trans (zc wr _));have HBx:=za hbx;have HB1:=za (zE hB1);clear hB1 hbx);go_cut [] (λwy=>Hid (zas S kd lb bb sb nmv askv N c (xE xe c cpe) (xP nb) w.heap.size (w.heap.size+1) stA wy)/\Hid (Fr (RT lb bb) w wy)/\Hid (xH wy wr.heap.size #[.string v.nm,xI v.a,xI (zaK v:Nat),xI (zaA v:Nat),xI v.on,.string v.ck,xI v.ca] 134));case first =>
       by_cases hfi:ff.getD 0<k
       . have hfi':((ff.getD 0:Nat):Int)<(k:Int):=(by omega);rw[zM2 hfi] at HstA;obtain⟨x0,x1,x2,x3,x4,x5,x6,xf,xz⟩:=zbZ HBx.o;have g0:=zd HB1.o q0 qz;have HTell:=za (zaa S kd lb bb sb nmv askv _ v.a w1 (HIk.o.keep HB1.o).rp);clear hfi;generalize ff.getD 0=fi at *;go_wp2_with (go_at_call 140;refine HTell.o.mono ?_;rintro e w2 ⟨rfl,hRt,hFt⟩;have HRt:=za hRt;have HFt:=za hFt;clear hRt hFt);go_meet;rw[<- HstA.o];exact⟨(HIk.o.keep HB1.o).told HRt.o HFt.o,(HFk.o.trans (zy HB1.o)).trans HFt.o,(HFt.o.block _ xz (λe=>by rcases e with e|e <;> omega)).trans HBx.o⟩
       have hfi':¬((ff.getD 0:Nat):Int)<(k:Int):=(by omega);rw[zM1 hfi] at HstA;clear hfi;generalize ff.getD 0=fi at *;go_wp2_with fail;go_meet;rw[<- HstA.o];exact⟨HIk.o.keep HB1.o,HFk.o.trans (zy HB1.o),HBx.o⟩
      case rest =>
       obtain⟨HIm,HFm,HBm⟩:=hcut;clear p0 p1 pf pz q0 qf qz c0 c1 c2 c3 c4 c5 c6 HBx HB1 HFi;obtain⟨p0,p1,pf,pz⟩:=zp HIm.o.x1;obtain⟨q0,qf,qz⟩:=zu HIm.o.x2;unfold zam at q0;obtain⟨x0,x1,x2,x3,x4,x5,x6,xf,xz⟩:=zbZ HBm.o;by_cases hsg:zaA v=0
       . have hsg':((zaA v:Int) != 0)=false:=(by simp[hsg]);have HT2:Hid ((zat c (c.nd.vars.take (k+1)) 0).foldl rep st0=stA):=(by unfold Hid;rw[HT.o];simp[hsg]);clear hsg HT hv;generalize zaA v=sg at *;go_wp2_with fail;go_roundg (gk-1);case measure=>omega
         refine⟨k+1,by omega,by omega,by go_num,?_,HFm.o⟩;rw[HT2.o];exact HIm.o
       have hsg':((zaA v:Int) != 0)=true:=(by simp;omega);have HD:=za (zgt v.ck (v.ca:Int) wc HIm.o.sc HIm.o.hN);cases hha:c.has v.ck with
       | true =>
         have hha':(c.nd.find v.ck).isSome=true:=hha;rw[hha'] at HD;have HT2:Hid ((zat c (c.nd.vars.take (k+1)) 0).foldl rep st0=stA):=(by unfold Hid;rw[HT.o,hha];simp);clear hsg HT hv hha hha';generalize zaA v=sg at *;go_wp2_with (go_at_call 121;refine HD.o.mono ?_;rintro e w1 ⟨rfl,hB1⟩;have HB1:=za hB1;clear hB1);go_roundg (gk-1);case measure=>omega
         refine⟨k+1,by omega,by omega,by go_num,?_,HFm.o.trans (zy HB1.o)⟩;rw[HT2.o];exact HIm.o.keep HB1.o
       | false =>
         have hha':(c.nd.find v.ck).isSome=false:=hha;rw[hha'] at HD;have HT2:Hid ((zat c (c.nd.vars.take (k+1)) 0).foldl rep st0=rep stA v.ca):=(by unfold Hid;rw[HT.o,hha];simp[hsg]);clear hsg HT hv hha hha';generalize zaA v=sg at *
         go_wp2_with (first
          | (go_at_call 140;refine HTell.o.mono ?_;rintro e w2 ⟨rfl,hRt,hFt⟩;have HRt:=za hRt;have HFt:=za hFt;clear hRt hFt)
          | (go_at_call 121;refine HD.o.mono ?_;rintro e w1 ⟨rfl,hB1⟩;have HB1:=za hB1;have g0:=zd HB1.o q0 qz;have g6:=zd HB1.o x6 xz;have HTell:=za (zaa S kd lb bb sb nmv askv stA v.ca w1 (HIm.o.keep HB1.o).rp);clear hB1))
         go_roundg (gk-1);case measure=>omega
         refine⟨k+1,by omega,by omega,by go_num,?_,(HFm.o.trans (zy HB1.o)).trans HFt.o⟩;rw[HT2.o];exact (HIm.o.keep HB1.o).told HRt.o HFt.o
    have ek:k=c.nd.vars.length:=(by omega);subst ek;rw[List.take_length] at HIk;obtain⟨st1,hst1⟩:∃st1,(zat c c.nd.vars 0).foldl rep st0=st1:=⟨_,rfl⟩;rw[hst1] at HIk HTy;obtain⟨n0,n1,n2,n3,n4,n5,nf,nz⟩:=zt ((hOk nb HNt.o.lo).trans HNt.o.blk);clear hst1 hOk q0 qf;go_wp2_with fail;go_loopg [92] (c.nd.eqs.length+1) (λj i wr=>∃k:Nat,k+j=c.nd.eqs.length+1/\k<=c.nd.eqs.length/\i=xI k/\Hid (zas S kd lb bb sb nmv askv N c (xE xe c cpe) (xP nb) w.heap.size (w.heap.size+1) (((c.nd.eqs.take k).flatMap λq=>z7 c q.ns q.ps).foldl rep st1) wr)/\Hid (Fr (RT lb bb) w wr));case atStart=>exact⟨0,by omega,zMN _,rfl,HIk.o,HFk.o⟩
    case round =>
     clear HIk HFk n0 n1 n2 n3 n4 n5 nf nz p0 p1 pf pz hkj hk hlt;obtain⟨k,hkj,hk,rfl,HIk,HFk⟩:=hrel;have hOk:=HFk.o.old hN (λk e=>by rcases e with e|e;exact e▸l1;exact e▸l2);obtain⟨p0,p1,pf,pz⟩:=zp HIk.o.x1;obtain⟨q0,qf,qz⟩:=zu HIk.o.x2;unfold zam at q0;have hNr:=HIk.o.hN;by_cases hlt:k<c.nd.eqs.length
     . obtain⟨wo,rfl⟩:∃wo,wo=wr:=⟨_,rfl⟩;obtain⟨gko,rfl⟩:∃g,g=gk:=⟨_,rfl⟩;obtain⟨q,hq⟩:∃q,c.nd.eqs[k]?=some q:=⟨_,zsc hlt⟩;have hN2:=HNt.o.old hOk;obtain⟨g,lv,rv,rfl,c0,c1,c2,hE⟩:=zcd hN2.own hN2.eqs hq rfl;obtain⟨rb,_,_,rfl,_⟩:=hE.tt.ptr;obtain⟨xl,cl,rfl⟩:=zB hE.own;have hgN:=HNt.o.elo g rfl;have HEq:=za hE;have hql:=HPs.o q (zML hq);have Hql:=za hql;have HFl:=za (zik (λq=>z7 c q.ns q.ps) hq st1);obtain⟨stB,hstB⟩:∃stB,((c.nd.eqs.take k).flatMap λq=>z7 c q.ns q.ps).foldl rep st1=stB:=⟨_,rfl⟩;rw[hstB] at HFl HIk;have h17:q.ns.length<=9223372036854775807:=by
        rcases hE.own.2 with ⟨_,h⟩|⟨g,cap,cur,hv,_,_,h3,h4,_⟩
        . omega
        unfold maxLen at h4;omega
       have hpz1:w.heap.size<wo.heap.size+1:=(by omega);have hqz1:w.heap.size+1<wo.heap.size+1:=(by omega);have HwX:=za (zy (T:=RT lb bb) (zq wo (.cells #[.slice xl q.ns.length cl,xI q.a,xP rb] 184)));have HkX:=za (HIk.o.keep (zq wo (.cells #[.slice xl q.ns.length cl,xI q.a,xP rb] 184)));clear hN2 hE hq hstB hql hOk;go_wp2_with fail;go_loopg [99] (q.ns.length+1) (λj i wr=>∃k2:Nat,k2+j=q.ns.length+1/\k2<=q.ns.length/\i=xI k2/\Hid (zas S kd lb bb sb nmv askv N c (xE xe c cpe) (xP nb) w.heap.size (w.heap.size+1) ((z7 c (q.ns.take k2) (q.ps.take k2)).foldl rep stB) wr)/\Hid (Fr (RT lb bb) wo wr));case atStart=>exact⟨0,by omega,zMN _,rfl,HkX.o,HwX.o⟩
       case round =>
        clear HkX HwX c0 c1 c2 q0 qf p0 p1;obtain⟨k2,hkj2,hk2,rfl,HIn,HFn⟩:=hrel;obtain⟨p0',p1',pf',pz'⟩:=zp HIn.o.x1;obtain⟨q0',qf',qz'⟩:=zu HIn.o.x2;have hNs:=HIn.o.hN;have hzs:=HFn.o.size;by_cases hlt2:k2<q.ns.length
        . obtain⟨s,hs⟩:∃s,q.ns[k2]?=some s:=⟨_,zsc hlt2⟩;obtain⟨p,hp⟩:∃p,q.ps[k2]?=some p:=⟨_,zsc (by have:=Hql.o;omega)⟩;have hOs:=HFn.o.old hNr (λk e=>by rcases e with e|e;exact e▸l1;exact e▸l2);obtain⟨gl,rfl,c0,c1⟩:=zbe (HEq.o.old hOs).own hs hp rfl;have hglN:=HEq.o.lo gl rfl;have hT1:=zhN (c:=c) hs hp;have k20:(0:Int)<=(k2:Int):=(by omega);have k21:(k2:Int)<(q.ns.length:Int):=(by omega);clear hOs hs hp;go_upto_region 19 with fail;refine zn (λW3=>Hid (zas S kd lb bb sb nmv askv N c (xE xe c cpe) (xP nb) w.heap.size (w.heap.size+1) ((z7 c (q.ns.take k2) (q.ps.take k2)).foldl rep stB) W3)/\Hid (Fr (RT lb bb) wo W3)/\xH W3 wr.heap.size #[.string s,xI p] 117) ⟨HIn.o.keep (zq wr _),HFn.o.alloc _,zc wr _⟩ ?_;rintro W3 ⟨HI3,HF3,hb3⟩;obtain⟨s0,s1,sf,sz⟩:=zp HI3.o.x1;obtain⟨q0,qf,qz⟩:=zu HI3.o.x2;unfold zam at q0;obtain⟨y0,y1,yf,yz⟩:=zp hb3;have hO3:=(HFk.o.trans HF3.o).old hN (λk e=>by rcases e with e|e;exact e▸l1;exact e▸l2);obtain⟨m0,m1,m2,m3,m4,m5,mf,mz⟩:=zt ((hO3 nb HNt.o.lo).trans HNt.o.blk);have hN3:=HI3.o.hN;have HHa:=za (zgt s (p:Int) W3.drew (HI3.o.sc.old (λ_ _=>rfl)) hN3);have HIx:=za (λW (hB:xB W3 W)=>zaz s (p:Int) W (HI3.o.keep hB).sc (HI3.o.keep hB).hN);clear hb3 hO3 p0' p1' q0' m0 m1 m2 m4 m5 mf;cases hha:c.has s with
          | false =>
            have hha':(c.nd.find s).isSome=false:=hha;rw[hha'] at HHa;have HT:Hid ((z7 c (q.ns.take (k2+1)) (q.ps.take (k2+1))).foldl rep stB=rep ((z7 c (q.ns.take k2) (q.ps.take k2)).foldl rep stB) p):=(by unfold Hid;rw[hT1,zMP,hha];rfl);clear hha hha' hT1;refine wp_region_held_drew (S:=(λw'=>w'.cell? (xD w.heap.size 0)=some (xE xe c cpe)/\w'.cell? (xD w.heap.size 1)=some (xP nb)/\w'.cell? (xD wr.heap.size 0)=some (.string s)/\w'.cell? (xD wr.heap.size 1)=some (xI p))) (by kernel_rfl) ⟨zg s0,zg s1,zg y0,zg y1⟩ (λhHeld=>?_);refine wpAnyH_take (i:=0) (v:=.agg #[xE xe c cpe,xP nb]) rfl (by kernel_rfl) (by kernel_rfl) (by kernel_rfl) (λ_ _ _ h=>h) (zM3 ⟨by rfl,?_⟩) (by assumption) ?_
            . (intro w9 hSw;(try dsimp only at hSw);go_simp)
            try simp only[Act.put,zx2]
            refine wpAnyH_take (i:=1) (v:=.agg #[.string s,xI p]) rfl (by kernel_rfl) (by kernel_rfl) (by kernel_rfl) (λ_ _ _ h=>h) (zM3 ⟨by rfl,?_⟩) (by assumption) ?_
            . (intro w9 hSw;(try dsimp only at hSw);go_simp)
            try simp only[Act.put,zx2]
            refine wpAnyH_ready (rs:=[2]) (by kernel_rfl) (by simp) ?_;refine AllReadyH.cons rfl (λK hK=>?_) AllReadyH.nil;go_simp;go_at_call 121;refine HHa.o.mono ?_;rintro e w1 ⟨rfl,hB1⟩;have HB1:=za (zw hB1);clear hB1;go_wp2_with fail;refine hK.out _ _ ⟨zd HB1.o s0 sz,zd HB1.o s1 sz,zd HB1.o y0 yz,zd HB1.o y1 yz⟩ (λhHeld=>?_);clear hK K;try simp only[Act.put,zx2]
            refine wpAnyH_take (i:=3) (v:=.bool true) rfl (by kernel_rfl) (by kernel_rfl) (by kernel_rfl) (λ_ _ _ h=>h) (zM3 ⟨by rfl,?_⟩) (by assumption) ?_
            . (intro w9 hSw;(try dsimp only at hSw);go_simp)
            try simp only[Act.put,zx2]
            refine wpAnyH_take (i:=4) (v:=.bool true) rfl (by kernel_rfl) (by kernel_rfl) (by kernel_rfl) (λ_ _ _ h=>h) (zM3 ⟨by rfl,?_⟩) (by assumption) ?_
            . (intro w9 hSw;(try dsimp only at hSw);go_simp)
            try simp only[Act.put,zx2]
            refine wpAnyH_take (i:=5) (v:=undef) rfl (by kernel_rfl) (by kernel_rfl) (by kernel_rfl) (λ_ _ _ h=>h) (zM4 ⟨by rfl,rfl⟩) (by assumption) ?_;try simp only[Act.put,zx2]
            refine wpAnyH_take (i:=6) (v:=undef) rfl (by kernel_rfl) (by kernel_rfl) (by kernel_rfl) (λ_ _ _ h=>h) (zM4 ⟨by rfl,rfl⟩) (by assumption) ?_;try simp only[Act.put,zx2]
            refine wpAnyH_take (i:=7) (v:=undef) rfl (by kernel_rfl) (by kernel_rfl) (by kernel_rfl) (λ_ _ _ h=>h) (zM4 ⟨by rfl,rfl⟩) (by assumption) ?_;try simp only[Act.put,zx2]
            refine wpAnyH_take (i:=8) (v:=undef) rfl (by kernel_rfl) (by kernel_rfl) (by kernel_rfl) (λ_ _ _ h=>h) (zM4 ⟨by rfl,rfl⟩) (by assumption) ?_;try simp only[Act.put,zx2]
            refine wpAnyH_take (i:=9) (v:=undef) rfl (by kernel_rfl) (by kernel_rfl) (by kernel_rfl) (λ_ _ _ h=>h) (zM4 ⟨by rfl,rfl⟩) (by assumption) ?_;try simp only[Act.put,zx2]
            refine wpAnyH_take (i:=10) (v:=undef) rfl (by kernel_rfl) (by kernel_rfl) (by kernel_rfl) (λ_ _ _ h=>h) (zM4 ⟨by rfl,rfl⟩) (by assumption) ?_;try simp only[Act.put,zx2]
            refine wpAnyH_take (i:=11) (v:=undef) rfl (by kernel_rfl) (by kernel_rfl) (by kernel_rfl) (λ_ _ _ h=>h) (zM4 ⟨by rfl,rfl⟩) (by assumption) ?_;try simp only[Act.put,zx2]
            refine wpAnyH_take (i:=12) (v:=undef) rfl (by kernel_rfl) (by kernel_rfl) (by kernel_rfl) (λ_ _ _ h=>h) (zM4 ⟨by rfl,rfl⟩) (by assumption) ?_;try simp only[Act.put,zx2]
            refine wpAnyH_take (i:=13) (v:=undef) rfl (by kernel_rfl) (by kernel_rfl) (by kernel_rfl) (λ_ _ _ h=>h) (zM4 ⟨by rfl,rfl⟩) (by assumption) ?_;try simp only[Act.put,zx2]
            refine wpAnyH_take (i:=14) (v:=undef) rfl (by kernel_rfl) (by kernel_rfl) (by kernel_rfl) (λ_ _ _ h=>h) (zM4 ⟨by rfl,rfl⟩) (by assumption) ?_;try simp only[Act.put,zx2]
            refine wpAnyH_take (i:=15) (v:=undef) rfl (by kernel_rfl) (by kernel_rfl) (by kernel_rfl) (λ_ _ _ h=>h) (zM4 ⟨by rfl,rfl⟩) (by assumption) ?_;try simp only[Act.put,zx2]
            refine wpAnyH_take (i:=16) (v:=.bool true) rfl (by kernel_rfl) (by kernel_rfl) (by kernel_rfl) (λ_ _ _ h=>h) (zM3 ⟨by rfl,?_⟩) (by assumption) ?_
            . (intro w9 hSw;(try dsimp only at hSw);go_simp)
            try simp only[Act.put,zx2]
            refine wpAnyH_done (by kernel_rfl) ?_ _
            all_goals
             have g0:=zd HB1.o q0 qz;have g1:=zd HB1.o y1 yz;have HTell:=za (zaa S kd lb bb sb nmv askv _ p w1 (HI3.o.keep HB1.o).rp);go_wp2_with (go_at_call 140;refine HTell.o.mono ?_;rintro e w2 ⟨rfl,hRt,hFt⟩;have HRt:=za hRt;have HFt:=za hFt;clear hRt hFt);go_roundg (gk-1);case measure=>omega
             refine⟨k2+1,by omega,by omega,by go_num,?_,(HF3.o.trans (zy HB1.o)).trans HFt.o⟩;rw[HT.o];exact (HI3.o.keep HB1.o).told HRt.o HFt.o
          | true =>
            have hha':(c.nd.find s).isSome=true:=hha;rw[hha'] at HHa;by_cases hix:c.idx s<c.nd.ins
            . have hix':((c.idx s:Nat):Int)<(c.nd.ins:Int):=(by omega);have HT:Hid ((z7 c (q.ns.take (k2+1)) (q.ps.take (k2+1))).foldl rep stB=rep ((z7 c (q.ns.take k2) (q.ps.take k2)).foldl rep stB) p):=(by unfold Hid;rw[hT1,zMP,hha];simp[hix]);clear hha hha' hT1 hix;generalize c.idx s=ix at *
              go_region_held3 (λw'=>w'.cell? (xD w.heap.size 0)=some (xE xe c cpe)/\w'.cell? (xD w.heap.size 1)=some (xP nb)/\w'.cell? (xD wr.heap.size 0)=some (.string s)/\w'.cell? (xD wr.heap.size 1)=some (xI p)/\w'.cell? (xD nb 3)=some (xI c.nd.ins))
               (first|(with_reducible (refine⟨?_,?_,?_,?_,?_⟩ <;> repeat (first|assumption|refine zg ?_|refine zj _ ?_|refine zk (by omega) ?_|refine zd HB2.o ?_ (by first|omega|(rw[zsb];omega))|refine zd HB1.o ?_ (by first|omega|(rw[zsb];omega)))))|go_keep)
               (first
                 | (go_at_call 105;refine HIx2.o.mono ?_;rintro e w2 ⟨rfl,hB2⟩;have HB2:=za hB2;clear hB2)
                 | (go_at_call 121;refine HHa.o.mono ?_;rintro e w1 ⟨rfl,hB1⟩;have HB1:=za (zw hB1);(have hzw1:W3.heap.size<=w1.heap.size:=hB1.size);have HIx2:=za (HIx.o w1 HB1.o);clear hB1))
              all_goals
               have HB3:=za (HB1.o.trans (HB2.o.mono HB1.o.size));have g0:=zd HB3.o q0 qz;have g1:=zd HB3.o y1 yz;have HTell:=za (zaa S kd lb bb sb nmv askv _ p w2 (HI3.o.keep HB3.o).rp);go_wp2_with (go_at_call 140;refine HTell.o.mono ?_;rintro e w4 ⟨rfl,hRt,hFt⟩;have HRt:=za hRt;have HFt:=za hFt;clear hRt hFt);go_roundg (gk-1);case measure=>omega
               refine⟨k2+1,by omega,by omega,by go_num,?_,(HF3.o.trans (zy HB3.o)).trans HFt.o⟩;rw[HT.o];exact (HI3.o.keep HB3.o).told HRt.o HFt.o
            have hix':¬((c.idx s:Nat):Int)<(c.nd.ins:Int):=(by omega);have HT:Hid ((z7 c (q.ns.take (k2+1)) (q.ps.take (k2+1))).foldl rep stB=(z7 c (q.ns.take k2) (q.ps.take k2)).foldl rep stB):=(by unfold Hid;rw[hT1,zMP,hha];simp[hix]);clear hha hha' hT1 hix;generalize c.idx s=ix at *
            go_region_held3 (λw'=>w'.cell? (xD w.heap.size 0)=some (xE xe c cpe)/\w'.cell? (xD w.heap.size 1)=some (xP nb)/\w'.cell? (xD wr.heap.size 0)=some (.string s)/\w'.cell? (xD wr.heap.size 1)=some (xI p)/\w'.cell? (xD nb 3)=some (xI c.nd.ins))
             (first|(with_reducible (refine⟨?_,?_,?_,?_,?_⟩ <;> repeat (first|assumption|refine zg ?_|refine zj _ ?_|refine zk (by omega) ?_|refine zd HB2.o ?_ (by first|omega|(rw[zsb];omega))|refine zd HB1.o ?_ (by first|omega|(rw[zsb];omega)))))|go_keep)
             (first
               | (go_at_call 105;refine HIx2.o.mono ?_;rintro e w2 ⟨rfl,hB2⟩;have HB2:=za hB2;clear hB2)
               | (go_at_call 121;refine HHa.o.mono ?_;rintro e w1 ⟨rfl,hB1⟩;have HB1:=za (zw hB1);(have hzw1:W3.heap.size<=w1.heap.size:=hB1.size);have HIx2:=za (HIx.o w1 HB1.o);clear hB1))
            all_goals
             have HB3:=za (HB1.o.trans (HB2.o.mono HB1.o.size));go_wp2_with fail;go_roundg (gk-1);case measure=>omega
             refine⟨k2+1,by omega,by omega,by go_num,?_,HF3.o.trans (zy HB3.o)⟩;rw[HT.o];exact HI3.o.keep HB3.o
        have ek:k2=q.ns.length:=(by omega);subst ek;rw[List.take_length,Hql.o,List.take_length] at HIn;go_wp2_with fail;go_roundg (gko-1);case measure=>omega
        refine⟨k+1,by omega,by omega,by go_num,?_,HFk.o.trans HFn.o⟩;rw[HFl.o];exact HIn.o
     have ek:k=c.nd.eqs.length:=(by omega);subst ek;rw[List.take_length] at HIk;have hV:=zkL S kd lb bb sb nmv askv N c h6 (xE xe c cpe) (xP nb) w.heap.size (w.heap.size+1) l1 l2;have HWk:=za (zfN hV nb _ _ xs _ wr (HNt.o.old hOk) hNr (λk e=>by have:=HFk.o.size;rcases e with e|e <;> omega) HIk.o);have hmf:∀(fn:Go.Fn) (first cap:Xa) (w:Xw),(Instr.makeFunc fn first cap).run prog w=.ok (.func fn first cap) w:=λ_ _ _ _=>rfl;clear hV hOk q0 qf;go_wp2_with (go_at_call 122;refine HWk.o.mono ?_;rintro e w1 ⟨rfl,hI1,hF1⟩;have HI1:=za hI1;have HF1:=za hF1;clear hI1 hF1);first|go_end0|refine bodyPost_ret (results_none rfl _ _ _) rfl ?_
     refine⟨rfl,?_,HFk.o.trans HF1.o⟩;rw[HTy.o];have:=HI1.o.rp;simp only[zh9] at this;exact this
end
section
open Go.RowKit
variable {ns:List Nod} {k:Nat} {n:Nod}
attribute [local go_sem ↓] Go.wp_at_zero Go.wp_at_succ
def zoD (S:Xs)(kd lb bb sb:Nat)(nmv askv:Xv)(N:Nat)(f:FuncId)(L:Sc->List Nat)(c:Sc):Prop :=
 ∀(ev nv:Xv) (st:Xo) (w:Xw),RpI S kd lb bb sb nmv askv st w->ScV w N c ev nv->N<=w.heap.size ->
  xK f #[.agg #[ev,nv],zam lb bb sb] w (λe w'=>e=.returned (.tuple #[])/\RpI S kd lb bb sb nmv askv ((L c).foldl rep st) w'/\Fr (RT lb bb) w w')
def zgj (ns:List Nod)(k:Nat):List Sc:=(List.range k).filterMap λi=>(ns[i]?).map λn=>⟨ns.take i,n⟩
theorem zkP (h:ns[k]?=some n):zgj ns (k+1)=zgj ns k++[⟨ns.take k,n⟩]:=by unfold zgj;rw[List.range_succ,List.filterMap_append];simp[h]
theorem zp9 (h:ns[k]?=some n):(⟨ns.take k,n⟩:Sc)∈scs ns:=by unfold scs;rw[List.mem_filterMap];exact⟨k,List.mem_range.2 (zMJ.1 h).1,by rw[h];rfl⟩
theorem zoq (S:Xs)(kd lb bb sb:Nat)(nmv askv:Xv)(N:Nat)(f:FuncId)(hcf:zH f)(L:Sc->List Nat)(ns:List Nod)(HA:∀c∈scs ns,zoD S kd lb bb sb nmv askv N f L c)(pv:Xv)(ab:Nat)(e:Xy)(st:Xo)(w:Xw)(HR:RpI S kd lb bb sb nmv askv st w)(hP:PT w N ns pv)(hN:N<=w.heap.size)(l1:N<=lb)(l2:N<=bb)(Hab:w.heap[ab]?=some (.cells #[.func (.func f) #[] #[]] e (0,0)))(d1:¬ab=lb)(d2:¬ab=bb) :
 xK 118 #[pv,zam lb bb sb,xP ab] w (λe w'=>e=.returned (.tuple #[])/\RpI S kd lb bb sb nmv askv (((scs ns).flatMap L).foldl rep st) w'/\Fr (RT lb bb) w w'):=by
 have hcf:∀(args:Xa) (w:Xw),(callFunc f args).run prog w=.ok (.enter f args) w:=hcf;have HP:=za hP;have hab0:=ze Hab;obtain⟨gb,gv,xs,rfl,hgb,hg,hl⟩:=hP;have h6:=hl.few;obtain⟨x,cp,rfl,hcp,hmx,hin⟩:=hl.ne;obtain⟨p0,pf,pz⟩:=zu hg;clear hin hl hg;unfold zam;go_enter func118,ntmps118;go_wp2_with fail;go_loopg [11] (ns.length+1) (λj i wr=>∃k:Nat,k+j=ns.length+1/\k<=ns.length/\i=xI k/\Hid (RpI S kd lb bb sb nmv askv (((zgj ns k).flatMap L).foldl rep st) wr)/\Hid (Fr (RT lb bb) w wr));case atStart=>exact⟨0,by omega,zMN _,rfl,HR,Fr.refl _ _⟩
 case round =>
  obtain⟨k,hkj,hk,rfl,HI,HF⟩:=hrel;clear p0;by_cases hlt:k<ns.length
  . obtain⟨n,hn⟩:∃n,ns[k]?=some n:=⟨_,zsc hlt⟩;have hO:=HF.o.old hN (λk e=>by rcases e with e|e;exact e▸l1;exact e▸l2);have hz:=HF.o.size;have hNr:N<=wr.heap.size:=by omega
    have HSc:=za (zh3 k n wr.drew ((HP.o.old hO).old (λ_ _=>rfl)) hNr hn);have HAk:=HA _ (zp9 hn);unfold zoD zam at HAk;have hT:=zkP hn;have HT:Hid (((zgj ns (k+1)).flatMap L).foldl rep st=(L ⟨ns.take k,n⟩).foldl rep (((zgj ns k).flatMap L).foldl rep st)):=(by unfold Hid;rw[hT,List.flatMap_append,zMP];simp);obtain⟨a0,af,az⟩:=zu ((HF.o.block ab hab0 (λe=>by rcases e with e|e <;> omega)).trans Hab);generalize hc:(⟨ns.take k,n⟩:Sc)=c at *;clear hT hn hO hc;go_wp2_with fail
    go_region_held3 (λw'=>w'.cell? (xD ab 0)=some (.func (.func f) #[] #[]))
     (first
       | exact zg a0
       | exact zd HB1.o a0 az
       | exact b0)
     (first
       | (refine (HAk _ _ _ w1 (HI.o.keep HB1.o) HS1 hN1).mono ?_;rintro e w2 ⟨rfl,HR2,HF2⟩;have b0:=(World.cell?_of_block (HF2.block ab (zM9 az HB1.o.size) (λe=>by rcases e with e|e <;> omega))).trans (zd HB1.o a0 az))
       | (go_at_call 55;refine HSc.o.mono ?_;rintro e w1 ⟨x1,cp1,nb1,rfl,HS1,hB1⟩;have HB1:=za (zw hB1);have hN1:=zMO hNr HB1.o.size;clear hB1))
    go_wp2_with fail;go_roundg (gk-1);case measure=>omega
    refine⟨k+1,by omega,by omega,by go_num,?_,(HF.o.trans (zy HB1.o)).trans HF2⟩;rw[HT.o];exact HR2
  have ek:k=ns.length:=by omega
  subst ek;go_wp2_with fail;first|go_end0|refine bodyPost_ret (results_none rfl _ _ _) rfl ?_
  exact⟨rfl,HI.o,HF.o⟩
end
section
open Go.RowKit
attribute [local go_sem ↓] Go.wp_at_zero Go.wp_at_succ
theorem zjA (f:FuncId)(w:Xw) :
 xK 65 #[.func (.func f) #[] #[]] w (λe w'=>e=.returned (.func (.func 118) #[] #[xP w.heap.size])/\∃t,w'=w.alloc (.cells #[.func (.func f) #[] #[]] t (0,0))):=by
 have hmf:∀(fn:Go.Fn) (first cap:Xa) (w:Xw),(Instr.makeFunc fn first cap).run prog w=.ok (.func fn first cap) w:=λ_ _ _ _=>rfl;go_enter func65,ntmps65;go_wp2_with fail;go_ret;exact⟨rfl,_,rfl⟩
def zry (S:Xs)(kd lb bb sb:Nat)(nmv askv:Xv)(F:FuncId)(cap:Xa)(pv:Xv)(l:Xn)(w:Xw):Prop :=
 RpI S kd lb bb sb nmv askv none w->xK F (#[pv,zam lb bb sb]++cap) w (λe w'=>e=.returned (.tuple #[])/\RpI S kd lb bb sb nmv askv (l.foldl rep none) w'/\Fr (RT lb bb) w w')
theorem zkt (S:Xs)(kd:Nat)(nm:Xb)(F:FuncId)(hcf:zH F)(cap:Xa)(gb:Nat)(l:Xn)(w:Xw)
 (hA:∀W,xB w W->zry S kd (w.heap.size+1) (w.heap.size+1+1) w.heap.size (.string nm) (.func (.func F) #[] cap) F cap (xP gb) l W) :
 xK 72 #[.agg #[.string nm,sen S kd,.func (.func F) #[] cap],xP gb] w (λe w'=>e=.returned (zbp S kd (zO l))/\xB w w'):=by
 have hcf:∀(args:Xa) (w:Xw),(callFunc F args).run prog w=.ok (.enter F args) w:=hcf;have hmf:∀(fn:Go.Fn) (first cap:Xa) (w:Xw),(Instr.makeFunc fn first cap).run prog w=.ok (.func fn first cap) w:=λ_ _ _ _=>rfl;have hB3:=zcz w (.cells #[.string nm,.iface 324 (.pointer (some (S kd))),.func (.func F) #[] cap] 153 (0,0)) (.cells #[.nilIface] 53 (0,0)) (.cells #[xI 0] 3 (0,0));have hA3:=al3 w (.cells #[.string nm,.iface 324 (.pointer (some (S kd))),.func (.func F) #[] cap] 153 (0,0)) (.cells #[.nilIface] 53 (0,0)) (.cells #[xI 0] 3 (0,0));have hRP:RpI S kd (w.heap.size+1) (w.heap.size+1+1) w.heap.size (.string nm) (.func (.func F) #[] cap) none _:=⟨hA3.2.1,hA3.2.2,hA3.1,by omega,by omega,by omega⟩;have hC:=hA _ hB3 hRP;unfold zam at hC;have HC:=za hC;have HB3:=za hB3;clear hA hC hB3 hA3 hRP;unfold sen;go_enter func72,ntmps72;go_wp2_with fail;refine HC.o.mono ?_;rintro e w' ⟨rfl,hR,hF⟩;have HBn:Hid (xB w w'):=⟨hF.os.trans HB3.o.os,hF.tape.trans HB3.o.tape,hF.output.trans HB3.o.output,zMO HB3.o.size hF.size,λk hk=>(hF.block k (zM9 hk HB3.o.size) (λe=>by rcases e with e|e <;> omega)).trans (HB3.o.block k hk)⟩;obtain⟨l0,lf,lz⟩:=zu hR.l;clear hR hF HC HB3;change w'.cell? _=some (zbp S kd (zO l)) at l0;cases hl:zO l with
 | none => rw[hl] at l0;unfold zbp at l0;go_wp2_with fail;go_ret;exact⟨by rw[hl];rfl,HBn.o⟩
 | some p => rw[hl] at l0;unfold zbp sen at l0;go_wp2_with fail;go_ret;exact⟨by rw[hl];rfl,HBn.o⟩
end
section
variable {c:Sc} {u:Tm} {g:Tm->Bool}
theorem zji:∀{ts:List Tm},u∈zdk g ts->∃t∈ts,u∈zaV g t:=by
 intro ts;induction ts with
 | nil=>intro h;rw[zdk] at h;cases h
 | cons x ts ih =>
   intro h;rw[zdk] at h;rcases zMY.1 h with h|h
   . exact⟨x,zMS,h⟩
   obtain⟨t,h1,h2⟩:=ih h;exact⟨t,zMX _ h1,h2⟩
theorem Wf.vis {t:Tm}(h:Wf t)(hu:u∈zaV g t):Wf u:=by
 induction h generalizing u with
 | mk k a s nm n ts h hr ih =>
   rw[zaV] at hu;rcases zNa.1 hu with rfl|hu
   . exact Wf.mk k a s nm n ts h hr
   split at hu
   . obtain⟨t,h1,h2⟩:=zji hu;exact ih t h1 h2
   cases hu
theorem zjj:∀{l:List Vr} {i:Nat},zat c l i=[]->∀v∈l,zaA v≠0->c.has v.ck=true:=by
 intro l;induction l with
 | nil=>intro i _ v hv;cases hv
 | cons x l ih =>
   intro i h v hv hs;rw[zat,zM7,zM7] at h;rcases zNa.1 hv with rfl|hv
   . have h2:=h.1.2;cases hh:c.has v.ck with
     | true=>rfl
     | false=>rw[hh] at h2;simp[hs] at h2
   exact ih h.2 v hv hs
theorem ziH:∀{ns:Xl} {ps:Xn},ns.length=ps.length->z7 c ns ps=[]->∀s∈ns,c.has s=true/\¬c.idx s<c.nd.ins:=by
 intro ns;induction ns with
 | nil=>intro ps _ _ s hs;cases hs
 | cons x ns ih =>
   intro ps hl h s hs;cases ps with
   | nil=>simp at hl
   | cons p ps =>
     rw[z7,zM7] at h;rcases zNa.1 hs with rfl|hs
     . have h2:=h.1;constructor
       . cases hh:c.has s with
         | true=>rfl
         | false=>rw[hh] at h2;simp at h2
       intro hi;rw[decide_eq_true hi] at h2;simp at h2
     exact ih (by simpa using hl) h.2 s hs
theorem zgU {α:Type}{f:α->List Nat}{l:List α}(h:l.flatMap f=[]):∀x∈l,f x=[]:=List.flatMap_eq_nil_iff.1 h
theorem zex (hc:zbr c)(h:c.namesL=[]):zfw c:=by
 unfold Sc.namesL at h;rw[zM7,zM7,zM7] at h;obtain⟨⟨⟨_,h2⟩,h3⟩,h4⟩:=h;have hT:∀q∈c.nd.eqs,∀u∈zaV za5 q.r,(zaJ u.k=true->c.has u.s=true)/\(u.k=4->∃d,c.called u.s=some d/\d.nd.ins=u.ts.length/\d.nd.outs=zda q u):=by
  intro q hq u hu;have h5:=zgU (zgU h4 q hq) u hu;unfold zaL at h5;rw[zM7] at h5;refine⟨λhn=>?_,λhk=>?_⟩
  . cases hh:c.has u.s with
    | true=>rfl
    | false=>have:=h5.1;rw[hh,hn] at this;simp at this
  have h6:=h5.2;cases hf:c.fits u (zda q u) with
  | false=>rw[hf,hk] at h6;simp at h6
  | true =>
    unfold Sc.fits at hf;split at hf
    . cases hf
    rename_i d hd
    simp only[Bool.and_eq_true,beq_iff_eq] at hf;exact⟨d,hd,hf.1,hf.2⟩
 refine⟨λq hq u hu=>?_,zjj h2,λq hq s hs=>(ziH (hc.nd.eqs q hq).1 (zgU h3 q hq) s hs).1,λq hq h=>?_⟩
 . obtain⟨a1,a2⟩:=hT q hq u hu;exact⟨a1,λhk=>by obtain⟨d,b1,b2,_⟩:=a2 hk;exact⟨d,b1,b2⟩,((hc.nd.eqs q hq).2.2.1.vis hu).ar⟩
 obtain⟨d,b1,_,b3⟩:=(hT q hq q.r (zey _ _)).2 ((hc.nd.eqs q hq).2.2.2 h);refine⟨d,b1,?_⟩;rw[b3];unfold zda;rw[zM2 rfl]
end
section
open Go.RowKit
theorem Tryz.infoBl:(prog.info? 4).map (λi=>(i.zero,i.size,i.bytes))=some (some (.bool false),1,1):=by kernel_rfl
def zdC (l:Xk):List Value:=l.map .bool
theorem zkG (n:Nat)(hc:n<=3145728)(w:Xw):(Instr.makeSlice 100 (xI (n:Int)) (xI (n:Int))).run prog w=.ok (xS w.heap.size n n) (w.alloc (.cells (zdC (List.replicate n false)).toArray 4)):=by
 obtain⟨i0,hi,hi0,hi1,hi2⟩:=info_parts Tryz.infoBl;have:=run_make (P:=prog) w 100 4 i0 _ underlying100 hi hi0 .i64 .i64 (n:Int) (n:Int) (by omega) (by omega) (by rw[hi2];omega) (by omega);refine this.trans ?_;rw[hi1];simp only[Int.toNat_natCast,Nat.mul_one];refine congrArg (λx=>Result.ok (xS w.heap.size n n) (w.alloc (.cells x 4))) ?_;unfold madeCells;apply Array.ext
 . simp[zdC]
 intro j h1 h2;simp[zdC,Value.cells,Nat.mod_one]
theorem zdF {w:Xw}{b k:Nat}{d:Xk}{e:Xy}{x:Bool}(h:w.heap[b]?=some (.cells (zdC d).toArray e (0,0)))(hk:d[k]?=some x):w.cell? (xD b k)=some (.bool x):=by simp[World.cell?,h,zdC,hk]
end
section
open Go.RowKit
variable {d:Xk} {N b1 b2 bb kd lb sb:Nat} {S:Xs} {st:Xo} {c:Sc} {askv ev nmv nv:Xv} {w w':Xw}
attribute [local go_sem ↓] Go.wp_at_zero Go.wp_at_succ
theorem zja (c:Sc)(ps:Xn)(d:Xk):zaC c [] ps d=([],d):=by cases ps <;> rfl
structure zdD (S:Xs) (kd lb bb sb:Nat) (nmv askv:Xv) (N:Nat) (c:Sc) (ev nv:Xv) (b1 b2:Nat) (d:Xk) (st:Xo) (w:Xw):Prop where
 rp:RpI S kd lb bb sb nmv askv st w
 sc:ScV w N c ev nv
 x1:w.heap[b1]?=some (.cells #[ev,nv] 216 (0,0))
 x2:w.heap[b2]?=some (.cells (zdC d).toArray 4 (0,0))
 d1:¬b1=lb
 d2:¬b1=bb
 d3:¬b2=lb
 d4:¬b2=bb
 d5:¬b1=b2
 d6:¬b2=sb
 l1:N<=lb
 l2:N<=bb
 l3:N<=b2
 hN:N<=w.heap.size
theorem zdD.keep (h:zdD S kd lb bb sb nmv askv N c ev nv b1 b2 d st w)(hB:xB w w'):zdD S kd lb bb sb nmv askv N c ev nv b1 b2 d st w' :=
 ⟨h.rp.keep hB,h.sc.old (zm hB h.hN),(hB.block _ (ze h.x1)).trans h.x1,(hB.block _ (ze h.x2)).trans h.x2,h.d1,h.d2,h.d3,h.d4,h.d5,h.d6,h.l1,h.l2,h.l3,zMO h.hN hB.size⟩
theorem zdD.told {st':Xo}(h:zdD S kd lb bb sb nmv askv N c ev nv b1 b2 d st w)(hr:RpI S kd lb bb sb nmv askv st' w')(hf:Fr (RT lb bb) w w'):zdD S kd lb bb sb nmv askv N c ev nv b1 b2 d st' w':=by have h1:=h.d1;have h2:=h.d2;have h3:=h.d3;have h4:=h.d4;have l1:=h.l1;have l2:=h.l2;exact⟨hr,h.sc.old (hf.old h.hN (λk e=>by rcases e with e|e;exact e▸l1;exact e▸l2)),(hf.block _ (ze h.x1) (λe=>by rcases e with e|e;exact h1 e;exact h2 e)).trans h.x1,(hf.block _ (ze h.x2) (λe=>by rcases e with e|e;exact h3 e;exact h4 e)).trans h.x2,h.d1,h.d2,h.d3,h.d4,h.d5,h.d6,h.l1,h.l2,h.l3,zMO h.hN hf.size⟩
theorem zjw (d:Xk)(i:Nat)(b:Bool):(zdC d).toArray.setIfInBounds i (.bool b)=(zdC (d.set i b)).toArray:=by unfold zdC;rw[List.map_set];simp
theorem zdD.put (h:zdD S kd lb bb sb nmv askv N c ev nv b1 b2 d st w)(i:Nat)(b:Bool):zdD S kd lb bb sb nmv askv N c ev nv b1 b2 (d.set i b) st (w.setCell (xD b2 i) (.bool b)):=by
 have l3:=h.l3;have hk:∀k,¬k=b2->(w.setCell (xD b2 i) (.bool b)).heap[k]?=w.heap[k]?:=λk hk=>Below.heap_setCell w _ _ k hk;refine⟨⟨(hk _ λe=>h.d3 e.symm).trans h.rp.l,(hk _ λe=>h.d4 e.symm).trans h.rp.b,(hk _ λe=>h.d6 e.symm).trans h.rp.s,h.rp.n1,h.rp.n2,h.rp.n3⟩,h.sc.old (λk hk'=>hk k (by omega)),(hk _ h.d5).trans h.x1,?_,h.d1,h.d2,h.d3,h.d4,h.d5,h.d6,h.l1,h.l2,h.l3,?_⟩
 . rw[zh _ _ _ _ h.x2,zjw]
 have:=h.hN;simpa using this
theorem zpj {s:Xb}(h:c.has s=true):c.idx s<c.nd.vars.length:=by unfold Sc.has at h;unfold Sc.idx;obtain⟨j,hj⟩:=Option.isSome_iff_exists.1 h;rw[hj];have:=(zgO hj).2.1;simpa using this
theorem zgb (S:Xs)(kd lb bb sb:Nat)(nmv askv:Xv)(N:Nat)(c:Sc)(hc:zbr c)(hn:zfw c)(ev nv:Xv)(st:Xo)(w:Xw)(hR:RpI S kd lb bb sb nmv askv st w)(h:ScV w N c ev nv)(hN:N<=w.heap.size)(l1:N<=lb)(l2:N<=bb) :
 xK 69 #[.agg #[ev,nv],zam lb bb sb] w (λe w'=>e=.returned (.tuple #[])/\RpI S kd lb bb sb nmv askv (c.definesL.foldl rep st) w'/\Fr (RT lb bb) w w'):=by
 obtain⟨xe,cpe,nb,rfl,rfl,hnb⟩:=h.shape;have hzl:=ze hR.l;have hzb:=ze hR.b;have hzs:=ze hR.s;have hA0:∀o1 o2,((w.alloc o1).alloc o2).heap[w.heap.size]?=some o1/\((w.alloc o1).alloc o2).heap[w.heap.size+1]?=some o2:=λo1 o2=>al2 w o1 o2
 have hAs:zdD S kd lb bb sb nmv askv N c (xE xe c cpe) (xP nb) w.heap.size (w.heap.size+1) (List.replicate c.nd.vars.length false) st ((w.alloc (.cells #[xE xe c cpe,xP nb] 216)).alloc (.cells (zdC (List.replicate c.nd.vars.length false)).toArray 4)) :=
  ⟨hR.keep (zaD w _ _),h.old (zfr hN _ _),(hA0 _ _).1,(hA0 _ _).2,by omega,by omega,by omega,by omega,by omega,by omega,l1,l2,by omega,by simp;omega⟩
 have HAs:=za hAs;obtain⟨nb',vs,qv,xs,e9,hnt⟩:=h.nd;cases e9;obtain⟨xv,cpv,rfl⟩:=zB hnt.vown;obtain⟨xq,cpq,rfl⟩:=zB hnt.own;obtain⟨m0,m1,m2,m3,m4,m5,mf,mz⟩:=zt hnt.blk;have HNt:=za hnt;have hfew:=hnt.few;have h16:c.nd.eqs.length<=9223372036854775807:=by
  rcases hnt.own.2 with ⟨_,h⟩|⟨g,cap,cur,hv,_,_,h3,h4,_⟩
  . omega
  unfold maxLen at h4;omega
 have mk:=zkG c.nd.vars.length (by omega);have HFr0:=za (zy (T:=RT lb bb) (zaD w (.cells #[xE xe c cpe,xP nb] 216) (.cells (zdC (List.replicate c.nd.vars.length false)).toArray 4)));have hnw:nb<w.heap.size:=by omega
 clear hR h hA0 hAs hnt;unfold zam;go_enter func69,ntmps69;go_wp2_with fail;go_loopg [27] (c.nd.eqs.length+1) (λj i wr=>∃(k:Nat) (d:Xk) (st':Xo),k+j=c.nd.eqs.length+1/\k<=c.nd.eqs.length/\i=xI k/\Hid (zdD S kd lb bb sb nmv askv N c (xE xe c cpe) (xP nb) w.heap.size (w.heap.size+1) d st' wr)/\Hid (d.length=c.nd.vars.length)/\Hid ((zcN c c.nd.eqs (List.replicate c.nd.vars.length false)).1.foldl rep st=(zcN c (c.nd.eqs.drop k) d).1.foldl rep st'/\(zcN c c.nd.eqs (List.replicate c.nd.vars.length false)).2=(zcN c (c.nd.eqs.drop k) d).2)/\Hid (Fr (RT lb bb) w wr));case atStart=>exact⟨0,_,st,by omega,zMN _,rfl,HAs.o,List.length_replicate,⟨rfl,rfl⟩,HFr0.o⟩
 case round =>
  clear HAs HFr0 m0 m1 m2 m3 m4 m5 mf mz mk;obtain⟨k,d,st',hkj,hk,rfl,HI,Hdl,HD,HF⟩:=hrel;have hO:=HF.o.old hN (λk e=>by rcases e with e|e;exact e▸l1;exact e▸l2);by_cases hlt:k<c.nd.eqs.length
  . obtain⟨wo,rfl⟩:∃wo,wo=wr:=⟨_,rfl⟩;obtain⟨gko,rfl⟩:∃g,g=gk:=⟨_,rfl⟩;obtain⟨q,hq⟩:∃q,c.nd.eqs[k]?=some q:=⟨_,zsc hlt⟩;have hN2:=HNt.o.old hO;obtain⟨g,lv,rv,rfl,c0,c1,c2,hE⟩:=zcd hN2.own hN2.eqs hq rfl;obtain⟨rb,_,_,rfl,_⟩:=hE.tt.ptr;obtain⟨xl,cl,rfl⟩:=zB hE.own;have hgN:=HNt.o.elo g rfl;have HEq:=za hE;have hqm:=zML hq;have hql:=(hc.nd.eqs q hqm).1;have Hql:=za hql;have HLf:=za (hn.left q hqm);have hNr:=HI.o.hN;have hDq:zcN c (c.nd.eqs.drop k) d=((zaC c q.ns q.ps d).1++(zcN c (c.nd.eqs.drop (k+1)) (zaC c q.ns q.ps d).2).1,(zcN c (c.nd.eqs.drop (k+1)) (zaC c q.ns q.ps d).2).2):=by obtain⟨h1,h2⟩:=zMJ.1 hq;rw[zMT h1,zcN,h2]
    have HDq:=za hDq;have h17:q.ns.length<=9223372036854775807:=by
     rcases hE.own.2 with ⟨_,h⟩|⟨g,cap,cur,hv,_,_,h3,h4,_⟩
     . omega
     unfold maxLen at h4;omega
    have HkX:=za (HI.o.keep (zq wo (.cells #[.slice xl q.ns.length cl,xI q.a,xP rb] 184)));have HwX:=za (HF.o.alloc (.cells #[.slice xl q.ns.length cl,xI q.a,xP rb] 184));clear hN2 hE hq hql hO hDq hqm;go_wp2_with fail;go_loopg [34] (q.ns.length+1) (λj i wr=>∃(k2:Nat) (d2:Xk) (st2:Xo),k2+j=q.ns.length+1/\k2<=q.ns.length/\i=xI k2/\Hid (zdD S kd lb bb sb nmv askv N c (xE xe c cpe) (xP nb) w.heap.size (w.heap.size+1) d2 st2 wr)/\Hid (d2.length=c.nd.vars.length)/\Hid ((zaC c q.ns q.ps d).1.foldl rep st'=(zaC c (q.ns.drop k2) (q.ps.drop k2) d2).1.foldl rep st2/\(zaC c q.ns q.ps d).2=(zaC c (q.ns.drop k2) (q.ps.drop k2) d2).2)/\Hid (Fr (RT lb bb) w wr));case atStart=>exact⟨0,d,st',by omega,zMN _,rfl,HkX.o,Hdl.o,⟨rfl,rfl⟩,HwX.o⟩
    case round =>
     clear HkX HwX c0 c1 c2;obtain⟨k2,d2,st2,hkj2,hk2,rfl,HI2,Hdl2,HD2,HF2⟩:=hrel;by_cases hlt2:k2<q.ns.length
     . obtain⟨s,hs⟩:∃s,q.ns[k2]?=some s:=⟨_,zsc hlt2⟩;obtain⟨p,hp⟩:∃p,q.ps[k2]?=some p:=⟨_,zsc (by have:=Hql.o;omega)⟩;have hO2:=HF2.o.old hN (λk e=>by rcases e with e|e;exact e▸l1;exact e▸l2);have hOe:Old N wo wr:=λb hb=>(hO2 b hb).trans ((HF.o.old hN (λk e=>by rcases e with e|e;exact e▸l1;exact e▸l2)) b hb).symm;obtain⟨gl,rfl,c0,c1⟩:=zbe (HEq.o.old hOe).own hs hp rfl;have hglN:=HEq.o.lo gl rfl;have hNs:=HI2.o.hN;have hha:=HLf.o s (zML hs);have hix:=zpj hha;obtain⟨b,hb⟩:∃b,d2[c.idx s]?=some b:=⟨_,zsc (by have:=Hdl2.o;omega)⟩;have HIx:=za (zaz s (p:Int) (wr.alloc (.cells #[.string s,xI p] 117)) (HI2.o.keep (zq wr _)).sc (HI2.o.keep (zq wr _)).hN);obtain⟨s0,s1,sf,sz⟩:=zp HI2.o.x1;have hDe:zaC c (q.ns.drop k2) (q.ps.drop k2) d2=((if b=true then [p] else [])++(zaC c (q.ns.drop (k2+1)) (q.ps.drop (k2+1)) (d2.set (c.idx s) true)).1,(zaC c (q.ns.drop (k2+1)) (q.ps.drop (k2+1)) (d2.set (c.idx s) true)).2):=(by obtain⟨h1,h2⟩:=zMJ.1 hs;obtain⟨h3,h4⟩:=zMJ.1 hp;rw[zMT h1,zMT h3,zaC,h2,h4];rw[show d2.getD (c.idx s) false=b by rw[List.getD_eq_getElem?_getD,hb];rfl]);have HT:Hid ((zaC c q.ns q.ps d).1.foldl rep st'=(zaC c (q.ns.drop (k2+1)) (q.ps.drop (k2+1)) (d2.set (c.idx s) true)).1.foldl rep ((if b=true then [p] else []).foldl rep st2)/\(zaC c q.ns q.ps d).2=(zaC c (q.ns.drop (k2+1)) (q.ps.drop (k2+1)) (d2.set (c.idx s) true)).2):=(by have a:=HD2.o;rw[hDe,zMP] at a;exact a);have i0:(0:Int)<=(c.idx s:Int):=(by omega);have i1:(c.idx s:Int)<(c.nd.vars.length:Int):=(by omega);have Hb:=za hb;clear hO2 hOe hs hp hb hDe HD2;cases b with
       | false =>
         go_wp2_with (go_at_call 105;refine HIx.o.mono ?_;rintro e w1 ⟨rfl,hB1⟩;have HB1:=za hB1;have HI3:=za (HI2.o.keep (zE hB1));have e0:=zdF HI3.o.x2 Hb.o;have e2:=zai HI3.o.x2 (c.idx s);have e3:=ze HI3.o.x2;clear hB1);go_roundg (gk-1);case measure=>omega
         exact⟨k2+1,d2.set (c.idx s) true,st2,by omega,by omega,by go_num,HI3.o.put _ _,by unfold Hid;rw[List.length_set];exact Hdl2.o,HT.o,(HF2.o.belowed (zE HB1.o)).setNew (by omega) _ _⟩
       | true =>
         go_wp2_with (first
          | (go_at_call 140;refine (zaa S kd lb bb sb nmv askv st2 p _ HI3.o.rp).mono ?_;rintro e w2 ⟨rfl,hRt,hFt⟩;have HI4:=za (HI3.o.told hRt hFt);have HFt:=za hFt;have f0:=zdF HI4.o.x2 Hb.o;have f2:=zai HI4.o.x2 (c.idx s);have f3:=ze HI4.o.x2;clear hRt hFt)
          | (go_at_call 105;refine HIx.o.mono ?_;rintro e w1 ⟨rfl,hB1⟩;have HB1:=za hB1;have HI3:=za (HI2.o.keep (zE hB1));have e0:=zdF HI3.o.x2 Hb.o;have e1:xC w1 wr.heap.size 1 (xI p):=zd HB1.o (zp (zc wr _)).2.1 (by simp);clear hB1))
         go_roundg (gk-1);case measure=>omega
         exact⟨k2+1,d2.set (c.idx s) true,rep st2 p,by omega,by omega,by go_num,HI4.o.put _ _,by unfold Hid;rw[List.length_set];exact Hdl2.o,HT.o,((HF2.o.belowed (zE HB1.o)).trans HFt.o).setNew (by omega) _ _⟩
     have ek:k2=q.ns.length:=(by omega);subst ek;rw[List.drop_length,zja] at HD2;go_wp2_with fail;go_roundg (gko-1);case measure=>omega
     refine⟨k+1,d2,st2,by omega,by omega,by go_num,HI2.o,Hdl2.o,?_,HF2.o⟩;have a:=HD.o;have b:=HD2.o;rw[HDq.o,b.2] at a;refine⟨a.1.trans ?_,a.2⟩;rw[zMP,b.1];rfl
  have ek:k=c.nd.eqs.length:=by omega
  subst ek;rw[List.drop_length,zcN] at HD;obtain⟨hD1,hD2⟩:=HD.o;have HT:Hid (c.definesL.foldl rep st=(zb1 c.nd.ins d c.nd.vars 0).foldl rep st'):=by unfold Hid Sc.definesL;simp only[zMP];rw[hD1,hD2];rfl
  clear HD hD1 hD2;obtain⟨s0,s1,sf,sz⟩:=zp HI.o.x1;obtain⟨n0,n1,n2,n3,n4,n5,nf,nz⟩:=zt ((hO nb HNt.o.lo).trans HNt.o.blk);clear hO;go_wp2_with fail;go_loopg [62] (c.nd.vars.length+1) (λj i wr=>∃(k:Nat) (st2:Xo),k+j=c.nd.vars.length+1/\k<=c.nd.vars.length/\i=xI k/\Hid (zdD S kd lb bb sb nmv askv N c (xE xe c cpe) (xP nb) w.heap.size (w.heap.size+1) d st2 wr)/\Hid ((zb1 c.nd.ins d c.nd.vars 0).foldl rep st'=(zb1 c.nd.ins d (c.nd.vars.drop k) k).foldl rep st2)/\Hid (Fr (RT lb bb) w wr));case atStart=>exact⟨0,st',by omega,zMN _,rfl,HI.o,rfl,HF.o⟩
  case round =>
   clear HI HF s0 s1 sf sz n0 n1 n2 n3 n4 n5 nf nz hkj hk hlt;obtain⟨k,st2,hkj,hk,rfl,HI,HD,HF⟩:=hrel;have hO:=HF.o.old hN (λk e=>by rcases e with e|e;exact e▸l1;exact e▸l2);by_cases hlt:k<c.nd.vars.length
   . obtain⟨v,hv⟩:∃v,c.nd.vars[k]?=some v:=⟨_,zsc hlt⟩;obtain⟨g,rfl,c0,c1,c2,c3,c4,c5,c6⟩:=zaM (HNt.o.old hO).vown hv;have hgN:=HNt.o.vlo g rfl;obtain⟨bk,hbk⟩:∃bk,d[k]?=some bk:=⟨_,zsc (by have:=Hdl.o;omega)⟩;have hD1:zb1 c.nd.ins d (c.nd.vars.drop k) k=(if (decide (c.nd.ins<=k)&&!bk)=true then [v.a] else [])++zb1 c.nd.ins d (c.nd.vars.drop (k+1)) (k+1):=(by obtain⟨h1,h2⟩:=zMJ.1 hv;rw[zMT h1,zb1,h2];rw[show d.getD k false=bk by rw[List.getD_eq_getElem?_getD,hbk];rfl]);have HT2:Hid ((zb1 c.nd.ins d c.nd.vars 0).foldl rep st'=(zb1 c.nd.ins d (c.nd.vars.drop (k+1)) (k+1)).foldl rep ((if (decide (c.nd.ins<=k)&&!bk)=true then [v.a] else []).foldl rep st2)):=(by unfold Hid;rw[HD.o,hD1,zMP]);obtain⟨s0,s1,sf,sz⟩:=zp HI.o.x1;obtain⟨n0,n1,n2,n3,n4,n5,nf,nz⟩:=zt ((hO nb HNt.o.lo).trans HNt.o.blk);have b0:xC wr (w.heap.size+1) k (.bool bk):=zdF HI.o.x2 hbk;have bz:=ze HI.o.x2;have hnr:nb<wr.heap.size:=(by omega);have dlen:d.length=c.nd.vars.length:=Hdl.o;have i0:(0:Int)<=(k:Int):=(by omega);have i1:(k:Int)<(c.nd.vars.length:Int):=(by omega);have HTell:=za (λo=>zaa S kd lb bb sb nmv askv st2 v.a (wr.alloc o) (HI.o.rp.keep (zq wr o)));clear hD1 HD hO dlen hbk hv n0 n1 n2 n4 n5;by_cases hin:c.nd.ins<=k
     . have hin':(c.nd.ins:Int)<=(k:Int):=(by omega);cases bk with
       | true =>
         simp only[hin,decide_true,Bool.not_true,Bool.and_false] at HT2;clear hin;go_wp2_with fail;go_roundg (gk-1);case measure=>omega
         exact⟨k+1,st2,by omega,by omega,by go_num,HI.o.keep (zq wr _),HT2.o,HF.o.alloc _⟩
       | false =>
         simp only[hin,decide_true,Bool.not_false,Bool.and_true] at HT2;clear hin;go_wp2_with (go_at_call 140;refine (HTell.o _).mono ?_;rintro e w2 ⟨rfl,hRt,hFt⟩;have HRt:=za hRt;have HFt:=za hFt;clear hRt hFt);go_roundg (gk-1);case measure=>omega
         exact⟨k+1,rep st2 v.a,by omega,by omega,by go_num,(HI.o.keep (zq wr _)).told HRt.o HFt.o,HT2.o,(HF.o.alloc _).trans HFt.o⟩
     have hin':¬(c.nd.ins:Int)<=(k:Int):=(by omega);simp only[hin,decide_false,Bool.false_and] at HT2;clear hin;go_wp2_with fail;go_roundg (gk-1);case measure=>omega
     exact⟨k+1,st2,by omega,by omega,by go_num,HI.o.keep (zq wr _),HT2.o,HF.o.alloc _⟩
   have ek:k=c.nd.vars.length:=(by omega);subst ek;rw[List.drop_length,zb1] at HD;clear hO;go_wp2_with fail;first|go_end0|refine bodyPost_ret (results_none rfl _ _ _) rfl ?_
   refine⟨rfl,?_,HF.o⟩;rw[HT.o,HD.o];exact HI.o.rp
end
end Go.Proofs.YtbicmofihhjgbaaGreatDoor
