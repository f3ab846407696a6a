/- Part 13. -/
import Derived.Test.YtenadialhccdiaaGreatDoorK09
import Derived.Test.YtenadialhccdiaaGreatDoorK11
set_option maxRecDepth 100000
set_option maxHeartbeats 8000000
namespace Go.Proofs.YtenadialhccdiaaGreatDoor
open Go.Proofs.Tryz
section
open Go.RowKit
attribute [local go_sem ↓] Go.wp_at_zero Go.wp_at_succ
theorem zhE (c:Sc):∀(a b:List Vr) (i:Nat),zat c (a++b) i=zat c a i++zat c b (i+a.length):=by
 intro a;induction a with
 | nil=>intro b i;rfl
 | cons v a ih=>intro b i;rw[List.cons_append,zat,zat,ih,zMR,show i+1+a.length=i+(a.length+1) by omega];simp only[zMQ]
theorem zgY (c:Sc):∀(a a':Xl) (b b':Xn),a.length=b.length->z7 c (a++a') (b++b')=z7 c a b++z7 c a' b':=by
 intro a;induction a with
 | nil=>intro a' b b' h;cases b with
   | nil=>rfl
   | cons _ _=>simp at h
 | cons s a ih=>intro a' b b' h;cases b with
   | nil=>simp at h
   | cons p b=>rw[List.cons_append,List.cons_append,z7,z7,ih _ _ _ (by simpa using h),zMQ]
theorem zhN {c:Sc}{ns:Xl}{ps:Xn}{k:Nat}{s:Xb}{p:Nat}(hs:ns[k]?=some s)(hp:ps[k]?=some p):z7 c (ns.take (k+1)) (ps.take (k+1))=z7 c (ns.take k) (ps.take k)++((if (!c.has s||decide (c.idx s<c.nd.ins))=true then [p] else [])++[]):=by have h1:=(zMJ.1 hs).1;have h2:=(zMJ.1 hp).1;rw[zeq hs,zeq hp,zgY c _ _ _ _ (by simp;omega)];rfl
theorem ziZ (S:Xs)(kd lb bb sb:Nat)(nmv askv:Xv)(N:Nat)(c:Sc)(h6:c.er.length<=6)(hps:∀q∈c.nd.eqs,q.ns.length=q.ps.length)(ev nv:Xv)(st:Xo)(w:Xw)(hR:RpI S kd lb bb sb nmv askv st w)(h:ScV w N c ev nv)(hN:N<=w.heap.size)(l1:N<=lb)(l2:N<=bb) :
 xK 46 #[.agg #[ev,nv],zam lb bb sb] w (λe w'=>e=.returned (.tuple #[])/\RpI S kd lb bb sb nmv askv (c.namesL.foldl rep st) w'/\Fr (RT lb bb) w w'):=by
 obtain⟨xe,cpe,nb,rfl,rfl,hnb⟩:=h.shape;have hzl:=ze hR.l;have hzb:=ze hR.b;have hA0:∀o1 o2,((w.alloc o1).alloc o2).heap[w.heap.size]?=some o1/\((w.alloc o1).alloc o2).heap[w.heap.size+1]?=some o2:=λo1 o2=>al2 w o1 o2
 have hAs:zas S kd lb bb sb nmv askv N c (xE xe c cpe) (xP nb) w.heap.size (w.heap.size+1) st ((w.alloc (.cells #[xE xe c cpe,xP nb] 188)).alloc (.cells #[zam lb bb sb] 186)) :=
  ⟨hR.keep (zaD w _ _),h.old (zfr hN _ _),(hA0 _ _).1,(hA0 _ _).2,by omega,by omega,by omega,by omega,l1,l2,by simp;omega⟩
 have HAs:=za hAs;obtain⟨nb',vs,qv,xs,e9,hnt⟩:=h.nd;cases e9;obtain⟨xv,cpv,rfl⟩:=zB hnt.vown;obtain⟨xq,cpq,rfl⟩:=zB hnt.own;have HNt:=za hnt;have hfew:=hnt.few;have HPs:=za hps;have h16:c.nd.eqs.length<=9223372036854775807:=by
  rcases hnt.own.2 with ⟨_,h⟩|⟨g,cap,cur,hv,_,_,h3,h4,_⟩
  . omega
  unfold maxLen at h4;omega
 have HTy:Hid (c.namesL.foldl rep st=((c.nd.eqs.flatMap λq=>(zaV za5 q.r).flatMap (zaL c q))).foldl rep ((c.nd.eqs.flatMap λq=>z7 c q.ns q.ps).foldl rep ((zat c c.nd.vars 0).foldl rep ((if (c.called c.nd.nm).isSome=true then [c.nd.a] else []).foldl rep st)))):=by unfold Hid Sc.namesL;rw[zMP,zMP,zMP]
 have HFr0:=za (zy (T:=RT lb bb) (zaD w (.cells #[xE xe c cpe,xP nb] 188) (.cells #[zam lb bb sb] 186)));clear hR h hA0 hAs hnt hps;unfold zam at HAs HFr0 ⊢;go_enter func46,ntmps46;go_upto_block 0 with fail;refine zn (λW=>zas S kd lb bb sb nmv askv N c (xE xe c cpe) (xP nb) w.heap.size (w.heap.size+1) st W/\Fr (RT lb bb) w W) ⟨HAs.o,HFr0.o⟩ ?_;rintro W ⟨hIW,hFW⟩;have HIW:=za hIW;have HFW:=za hFW;obtain⟨s0,s1,sf,sz⟩:=zp hIW.x1;obtain⟨p0,pf,pz⟩:=zu hIW.x2;have hOW:=hFW.old hN (λk e=>by rcases e with e|e;exact e▸l1;exact e▸l2);obtain⟨m0,m1,m2,m3,m4,m5,mf,mz⟩:=zt ((hOW nb HNt.o.lo).trans HNt.o.blk);have hNW:=hIW.hN;have hS1:=hIW.sc.old (w':=W.drew) (λ_ _=>rfl);have hS2:=λo=>hIW.sc.old (w':=(W.alloc o).drew) (zeW hNW o);clear hIW hFW hOW HAs HFr0;go_cut [5] (λx wx=>x=.bool (c.called c.nd.nm).isSome/\Hid (zas S kd lb bb sb nmv askv N c (xE xe c cpe) (xP nb) w.heap.size (w.heap.size+1) st wx)/\Hid (Fr (RT lb bb) w wx));case first =>
  cases hcal:c.called c.nd.nm with
  | none =>
    have HC1:=za (zc4 c.nd.nm (c.nd.a:Int) W.drew hS1 hNW h6 hcal);have HC2:=za (λo=>zc4 c.nd.nm (c.nd.a:Int) (W.alloc o).drew (hS2 o) (by show N<=(W.alloc o).heap.size;simp;omega) h6 hcal);have Hcal:=za hcal;clear hS1 hS2 hcal m2 m3 m4 m5 mf sf pf
    go_region_held3 (λw'=>w'.cell? (xD w.heap.size 0)=some (xE xe c cpe)/\w'.cell? (xD w.heap.size 1)=some (xP nb)/\w'.cell? (xD nb 0)=some (.string c.nd.nm)/\w'.cell? (xD nb 1)=some (xI c.nd.a))
     (first|(with_reducible (refine⟨?_,?_,?_,?_⟩ <;> repeat (first|assumption|refine zg ?_|refine zj _ ?_|refine zk (by omega) ?_|refine zd HB1.o ?_ (by first|omega|(rw[zsb];omega)))))|go_keep)
     (first
       | (go_at_call 89;refine HC1.o.mono ?_;rintro e w1 ⟨rfl,hB1⟩;have HB1:=za (zw hB1);clear hB1)
       | (go_at_call 89;refine (HC2.o _).mono ?_;rintro e w1 ⟨rfl,hB1⟩;have HB1:=za (zw hB1);obtain⟨y0,y1,yf,yz⟩:=zp ((HB1.o.block W.heap.size (by rw[zsb];omega)).trans (zc W _));clear hB1))
    . go_wp2_with fail;go_meet;exact⟨by rw[Hcal.o];rfl,(HIW.o.keep HB1.o).keep (zq _ _),(HFW.o.trans (zy HB1.o)).alloc _⟩
    go_wp2_with fail;go_meet;exact⟨by rw[Hcal.o];rfl,HIW.o.keep (zC (zC (zE HB1.o) (zMK _) _) (zMK _) _),HFW.o.trans (zy (zC (zC (zE HB1.o) (zMK _) _) (zMK _) _))⟩
  | some d =>
    have HC1:=za (zah c.nd.nm (c.nd.a:Int) W.drew hS1 hNW h6 hcal);have HC2:=za (λo=>zah c.nd.nm (c.nd.a:Int) (W.alloc o).drew (hS2 o) (by show N<=(W.alloc o).heap.size;simp;omega) h6 hcal);have Hcal:=za hcal;clear hS1 hS2 hcal m2 m3 m4 m5 mf sf pf
    go_region_held3 (λw'=>w'.cell? (xD w.heap.size 0)=some (xE xe c cpe)/\w'.cell? (xD w.heap.size 1)=some (xP nb)/\w'.cell? (xD nb 0)=some (.string c.nd.nm)/\w'.cell? (xD nb 1)=some (xI c.nd.a))
     (first|(with_reducible (refine⟨?_,?_,?_,?_⟩ <;> repeat (first|assumption|refine zg ?_|refine zj _ ?_|refine zk (by omega) ?_|refine zd HB1.o ?_ (by first|omega|(rw[zsb];omega)))))|go_keep)
     (first
       | (go_at_call 89;refine HC1.o.mono ?_;rintro e w1 ⟨x2,cp2,n2,rfl,hsc,hB1⟩;have HB1:=za (zw hB1);clear hB1)
       | (go_at_call 89;refine (HC2.o _).mono ?_;rintro e w1 ⟨x2,cp2,n2,rfl,hsc,hB1⟩;have HB1:=za (zw hB1);obtain⟨y0,y1,yf,yz⟩:=zp ((HB1.o.block W.heap.size (by rw[zsb];omega)).trans (zc W _));clear hB1))
    . go_wp2_with fail;go_meet;exact⟨by rw[Hcal.o];rfl,(HIW.o.keep HB1.o).keep (zq _ _),(HFW.o.trans (zy HB1.o)).alloc _⟩
    go_wp2_with fail;go_meet;exact⟨by rw[Hcal.o];rfl,HIW.o.keep (zC (zC (zE HB1.o) (zMK _) _) (zMK _) _),HFW.o.trans (zy (zC (zC (zE HB1.o) (zMK _) _) (zMK _) _))⟩
 case rest =>
  obtain⟨rfl,HIc,HFc⟩:=hcut;obtain⟨st0,hst0⟩:∃st0,(if (c.called c.nd.nm).isSome=true then [c.nd.a] else []).foldl rep st=st0:=⟨_,rfl⟩;have Hst0:=za hst0;rw[hst0] at HTy;generalize htw:(c.called c.nd.nm).isSome=tw at *;clear htw;clear hst0 hS1 hS2 s0 s1 p0 pf m0 m1 m2 m3 m4 m5 mf mz sf sz pz HIW HFW;have hOc:=HFc.o.old hN (λk e=>by rcases e with e|e;exact e▸l1;exact e▸l2);obtain⟨s0,s1,sf,sz⟩:=zp HIc.o.x1;obtain⟨p0,pf,pz⟩:=zu HIc.o.x2;obtain⟨m0,m1,m2,m3,m4,m5,mf,mz⟩:=zt ((hOc nb HNt.o.lo).trans HNt.o.blk);unfold zam at p0;have hnlb:¬nb=lb:=by omega
  have hnbb:¬nb=bb:=by omega
  have hwlb:¬w.heap.size=lb:=by omega
  have hwbb:¬w.heap.size=bb:=by omega
  have hwlb1:¬w.heap.size+1=lb:=by omega
  have hwbb1:¬w.heap.size+1=bb:=by omega
  clear hOc;go_upto_if 26 with fail;go_cut [] (λwy=>Hid (zas S kd lb bb sb nmv askv N c (xE xe c cpe) (xP nb) w.heap.size (w.heap.size+1) st0 wy)/\Hid (Fr (RT lb bb) w wy));case first =>
   cases tw with
   | false => go_wp2_with fail;go_meet;rw[<- Hst0.o];exact⟨HIc.o,HFc.o⟩
   | true =>
     have HTell:=za (zaa S kd lb bb sb nmv askv st c.nd.a wc.drew (HIc.o.rp.keep (zo (zWQ _ _))));go_upto_region 3 with fail
     go_region_held3 (λw'=>w'.cell? (xD w.heap.size 1)=some (xP nb)/\w'.cell? (xD (w.heap.size+1) 0)=some (.func (.func 110) #[] #[xP lb,xP bb,xP sb])/\w'.cell? (xD nb 1)=some (xI c.nd.a))
      (first|(with_reducible (refine⟨?_,?_,?_⟩ <;> repeat (first|assumption|refine zg ?_|refine zS HFt.o ?_ (by omega) (by omega))))|go_keep)
      (first
        | (go_at_call 110;refine (HTell.o).mono ?_;rintro e w2 ⟨rfl,hRt,hFt'⟩;have HRt:=za hRt;have HFt:=za hFt'.undrew;clear hRt hFt'))
     go_wp2_with fail;go_meet;rw[<- Hst0.o];exact⟨HIc.o.told HRt.o HFt.o,HFc.o.trans HFt.o⟩
  case rest =>
   obtain⟨HId,HFd⟩:=hcut;clear Hst0 s0 s1 sf sz p0 pf pz m0 m1 m2 m3 m4 m5 mf mz HIc HFc;have hOd:=HFd.o.old hN (λk e=>by rcases e with e|e;exact e▸l1;exact e▸l2);obtain⟨s0,s1,sf,sz⟩:=zp HId.o.x1;obtain⟨m0,m1,m2,m3,m4,m5,mf,mz⟩:=zt ((hOd nb HNt.o.lo).trans HNt.o.blk);clear hOd;go_wp2_with fail;go_loopg [43] (c.nd.vars.length+1) (λj i wr=>∃k:Nat,k+j=c.nd.vars.length+1/\k<=c.nd.vars.length/\i=xI k/\Hid (zas S kd lb bb sb nmv askv N c (xE xe c cpe) (xP nb) w.heap.size (w.heap.size+1) ((zat c (c.nd.vars.take k) 0).foldl rep st0) wr)/\Hid (Fr (RT lb bb) w wr));case atStart=>exact⟨0,by omega,zMN _,rfl,HId.o,HFd.o⟩
   case round =>
    clear HId HFd s0 s1 sf sz m0 m1 m2 m3 m4 m5 mf mz;obtain⟨k,hkj,hk,rfl,HIk,HFk⟩:=hrel;have hOk:=HFk.o.old hN (λk e=>by rcases e with e|e;exact e▸l1;exact e▸l2);obtain⟨p0,p1,pf,pz⟩:=zp HIk.o.x1;obtain⟨q0,qf,qz⟩:=zu HIk.o.x2;unfold zam at q0;have hNr:=HIk.o.hN;by_cases hlt:k<c.nd.vars.length
    . obtain⟨v,hv⟩:∃v,c.nd.vars[k]?=some v:=⟨_,zsc hlt⟩;obtain⟨g,rfl,c0,c1,c2,c3,c4,c5,c6⟩:=zaM (HNt.o.old hOk).vown hv;have hgN:=HNt.o.vlo g rfl;have hT1:zat c (c.nd.vars.take (k+1)) 0=zat c (c.nd.vars.take k) 0++((if (c.nd.find v.nm).getD 0<k then [v.a] else [])++(if (zaA v != 0&&!c.has v.ck)=true then [v.ca] else [])++[]):=by
       rw[zeq hv,zhE];have:0+(c.nd.vars.take k).length=k:=by simp;omega
       rw[this];rfl
      have HFi:=za (λo=>zgF v.nm (wr.alloc o) ((HNt.o.old hOk).old (zeW hNr o)));have hpz1:w.heap.size<wr.heap.size+1:=(by omega);have hqz1:w.heap.size+1<wr.heap.size+1:=(by omega);obtain⟨ff,hff⟩:∃ff,c.nd.find v.nm=ff:=⟨_,rfl⟩;rw[hff] at HFi hT1;obtain⟨stA,hstA⟩:∃stA,(if ff.getD 0<k then [v.a] else []).foldl rep ((zat c (c.nd.vars.take k) 0).foldl rep st0)=stA:=⟨_,rfl⟩;have HT:Hid ((zat c (c.nd.vars.take (k+1)) 0).foldl rep st0=(if (zaA v != 0&&!c.has v.ck)=true then [v.ca] else []).foldl rep stA):=(by unfold Hid;rw[hT1,zMP,zMP,zMP,hstA];rfl);have HstA:=za hstA;have BOX:∀W:Xw,xB wr W->True:=λ_ _=>trivial;clear hT1 hff hstA hOk BOX;unfold zk6 at HFi;go_upto_if 60 with (go_at_call 90;refine (HFi.o _).mono ?_;rintro e w1 ⟨rfl,hB1⟩;(have hbx:=(hB1.block wr.heap.size (by simp)).trans (zc wr _));have HBx:=za hbx;have HB1:=za (zE hB1);clear hB1 hbx);go_cut [] (λwy=>Hid (zas S kd lb bb sb nmv askv N c (xE xe c cpe) (xP nb) w.heap.size (w.heap.size+1) stA wy)/\Hid (Fr (RT lb bb) w wy)/\Hid (xH wy wr.heap.size #[.string v.nm,xI v.a,xI (zaK v:Nat),xI (zaA v:Nat),xI v.on,.string v.ck,xI v.ca] 101));case first =>
       by_cases hfi:ff.getD 0<k
       . have hfi':((ff.getD 0:Nat):Int)<(k:Int):=(by omega);rw[zM2 hfi] at HstA;obtain⟨x0,x1,x2,x3,x4,x5,x6,xf,xz⟩:=zbZ HBx.o;have g0:=zd HB1.o q0 qz;have HTell:=za (zaa S kd lb bb sb nmv askv _ v.a w1 (HIk.o.keep HB1.o).rp);clear hfi;generalize ff.getD 0=fi at *;go_wp2_with (go_at_call 110;refine HTell.o.mono ?_;rintro e w2 ⟨rfl,hRt,hFt⟩;have HRt:=za hRt;have HFt:=za hFt;clear hRt hFt);go_meet;rw[<- HstA.o];exact⟨(HIk.o.keep HB1.o).told HRt.o HFt.o,(HFk.o.trans (zy HB1.o)).trans HFt.o,(HFt.o.block _ xz (λe=>by rcases e with e|e <;> omega)).trans HBx.o⟩
       have hfi':¬((ff.getD 0:Nat):Int)<(k:Int):=(by omega);rw[zM1 hfi] at HstA;clear hfi;generalize ff.getD 0=fi at *;go_wp2_with fail;go_meet;rw[<- HstA.o];exact⟨HIk.o.keep HB1.o,HFk.o.trans (zy HB1.o),HBx.o⟩
      case rest =>
       obtain⟨HIm,HFm,HBm⟩:=hcut;clear p0 p1 pf pz q0 qf qz c0 c1 c2 c3 c4 c5 c6 HBx HB1 HFi;obtain⟨p0,p1,pf,pz⟩:=zp HIm.o.x1;obtain⟨q0,qf,qz⟩:=zu HIm.o.x2;unfold zam at q0;obtain⟨x0,x1,x2,x3,x4,x5,x6,xf,xz⟩:=zbZ HBm.o;by_cases hsg:zaA v=0
       . have hsg':((zaA v:Int) != 0)=false:=(by simp[hsg]);have HT2:Hid ((zat c (c.nd.vars.take (k+1)) 0).foldl rep st0=stA):=(by unfold Hid;rw[HT.o];simp[hsg]);clear hsg HT hv;generalize zaA v=sg at *;go_wp2_with fail;go_roundg (gk-1);case measure=>omega
         refine⟨k+1,by omega,by omega,by go_num,?_,HFm.o⟩;rw[HT2.o];exact HIm.o
       have hsg':((zaA v:Int) != 0)=true:=(by simp;omega);have HD:=za (zgt v.ck (v.ca:Int) wc HIm.o.sc HIm.o.hN);cases hha:c.has v.ck with
       | true =>
         have hha':(c.nd.find v.ck).isSome=true:=hha;rw[hha'] at HD;have HT2:Hid ((zat c (c.nd.vars.take (k+1)) 0).foldl rep st0=stA):=(by unfold Hid;rw[HT.o,hha];simp);clear hsg HT hv hha hha';generalize zaA v=sg at *;go_wp2_with (go_at_call 91;refine HD.o.mono ?_;rintro e w1 ⟨rfl,hB1⟩;have HB1:=za hB1;clear hB1);go_roundg (gk-1);case measure=>omega
         refine⟨k+1,by omega,by omega,by go_num,?_,HFm.o.trans (zy HB1.o)⟩;rw[HT2.o];exact HIm.o.keep HB1.o
       | false =>
         have hha':(c.nd.find v.ck).isSome=false:=hha;rw[hha'] at HD;have HT2:Hid ((zat c (c.nd.vars.take (k+1)) 0).foldl rep st0=rep stA v.ca):=(by unfold Hid;rw[HT.o,hha];simp[hsg]);clear hsg HT hv hha hha';generalize zaA v=sg at *
         go_wp2_with (first
          | (go_at_call 110;refine HTell.o.mono ?_;rintro e w2 ⟨rfl,hRt,hFt⟩;have HRt:=za hRt;have HFt:=za hFt;clear hRt hFt)
          | (go_at_call 91;refine HD.o.mono ?_;rintro e w1 ⟨rfl,hB1⟩;have HB1:=za hB1;have g0:=zd HB1.o q0 qz;have g6:=zd HB1.o x6 xz;have HTell:=za (zaa S kd lb bb sb nmv askv stA v.ca w1 (HIm.o.keep HB1.o).rp);clear hB1))
         go_roundg (gk-1);case measure=>omega
         refine⟨k+1,by omega,by omega,by go_num,?_,(HFm.o.trans (zy HB1.o)).trans HFt.o⟩;rw[HT2.o];exact (HIm.o.keep HB1.o).told HRt.o HFt.o
    have ek:k=c.nd.vars.length:=(by omega);subst ek;rw[List.take_length] at HIk;obtain⟨st1,hst1⟩:∃st1,(zat c c.nd.vars 0).foldl rep st0=st1:=⟨_,rfl⟩;rw[hst1] at HIk HTy;obtain⟨n0,n1,n2,n3,n4,n5,nf,nz⟩:=zt ((hOk nb HNt.o.lo).trans HNt.o.blk);clear hst1 hOk q0 qf;go_wp2_with fail;go_loopg [92] (c.nd.eqs.length+1) (λj i wr=>∃k:Nat,k+j=c.nd.eqs.length+1/\k<=c.nd.eqs.length/\i=xI k/\Hid (zas S kd lb bb sb nmv askv N c (xE xe c cpe) (xP nb) w.heap.size (w.heap.size+1) (((c.nd.eqs.take k).flatMap λq=>z7 c q.ns q.ps).foldl rep st1) wr)/\Hid (Fr (RT lb bb) w wr));case atStart=>exact⟨0,by omega,zMN _,rfl,HIk.o,HFk.o⟩
    case round =>
     clear HIk HFk n0 n1 n2 n3 n4 n5 nf nz p0 p1 pf pz hkj hk hlt;obtain⟨k,hkj,hk,rfl,HIk,HFk⟩:=hrel;have hOk:=HFk.o.old hN (λk e=>by rcases e with e|e;exact e▸l1;exact e▸l2);obtain⟨p0,p1,pf,pz⟩:=zp HIk.o.x1;obtain⟨q0,qf,qz⟩:=zu HIk.o.x2;unfold zam at q0;have hNr:=HIk.o.hN;by_cases hlt:k<c.nd.eqs.length
     . obtain⟨wo,rfl⟩:∃wo,wo=wr:=⟨_,rfl⟩;obtain⟨gko,rfl⟩:∃g,g=gk:=⟨_,rfl⟩;obtain⟨q,hq⟩:∃q,c.nd.eqs[k]?=some q:=⟨_,zsc hlt⟩;have hN2:=HNt.o.old hOk;obtain⟨g,lv,rv,rfl,c0,c1,c2,hE⟩:=zcd hN2.own hN2.eqs hq rfl;obtain⟨rb,_,_,rfl,_⟩:=hE.tt.ptr;obtain⟨xl,cl,rfl⟩:=zB hE.own;have hgN:=HNt.o.elo g rfl;have HEq:=za hE;have hql:=HPs.o q (zML hq);have Hql:=za hql;have HFl:=za (zik (λq=>z7 c q.ns q.ps) hq st1);obtain⟨stB,hstB⟩:∃stB,((c.nd.eqs.take k).flatMap λq=>z7 c q.ns q.ps).foldl rep st1=stB:=⟨_,rfl⟩;rw[hstB] at HFl HIk;have h17:q.ns.length<=9223372036854775807:=by
        rcases hE.own.2 with ⟨_,h⟩|⟨g,cap,cur,hv,_,_,h3,h4,_⟩
        . omega
        unfold maxLen at h4;omega
       have hpz1:w.heap.size<wo.heap.size+1:=(by omega);have hqz1:w.heap.size+1<wo.heap.size+1:=(by omega);have HwX:=za (zy (T:=RT lb bb) (zq wo (.cells #[.slice xl q.ns.length cl,xI q.a,xP rb] 158)));have HkX:=za (HIk.o.keep (zq wo (.cells #[.slice xl q.ns.length cl,xI q.a,xP rb] 158)));clear hN2 hE hq hstB hql hOk;go_wp2_with fail;go_loopg [99] (q.ns.length+1) (λj i wr=>∃k2:Nat,k2+j=q.ns.length+1/\k2<=q.ns.length/\i=xI k2/\Hid (zas S kd lb bb sb nmv askv N c (xE xe c cpe) (xP nb) w.heap.size (w.heap.size+1) ((z7 c (q.ns.take k2) (q.ps.take k2)).foldl rep stB) wr)/\Hid (Fr (RT lb bb) wo wr));case atStart=>exact⟨0,by omega,zMN _,rfl,HkX.o,HwX.o⟩
       case round =>
        clear HkX HwX c0 c1 c2 q0 qf p0 p1;obtain⟨k2,hkj2,hk2,rfl,HIn,HFn⟩:=hrel;obtain⟨p0',p1',pf',pz'⟩:=zp HIn.o.x1;obtain⟨q0',qf',qz'⟩:=zu HIn.o.x2;have hNs:=HIn.o.hN;have hzs:=HFn.o.size;by_cases hlt2:k2<q.ns.length
        . obtain⟨s,hs⟩:∃s,q.ns[k2]?=some s:=⟨_,zsc hlt2⟩;obtain⟨p,hp⟩:∃p,q.ps[k2]?=some p:=⟨_,zsc (by have:=Hql.o;omega)⟩;have hOs:=HFn.o.old hNr (λk e=>by rcases e with e|e;exact e▸l1;exact e▸l2);obtain⟨gl,rfl,c0,c1⟩:=zbe (HEq.o.old hOs).own hs hp rfl;have hglN:=HEq.o.lo gl rfl;have hT1:=zhN (c:=c) hs hp;have k20:(0:Int)<=(k2:Int):=(by omega);have k21:(k2:Int)<(q.ns.length:Int):=(by omega);clear hOs hs hp;go_upto_region 19 with fail;refine zn (λW3=>Hid (zas S kd lb bb sb nmv askv N c (xE xe c cpe) (xP nb) w.heap.size (w.heap.size+1) ((z7 c (q.ns.take k2) (q.ps.take k2)).foldl rep stB) W3)/\Hid (Fr (RT lb bb) wo W3)/\xH W3 wr.heap.size #[.string s,xI p] 84) ⟨HIn.o.keep (zq wr _),HFn.o.alloc _,zc wr _⟩ ?_;rintro W3 ⟨HI3,HF3,hb3⟩;obtain⟨s0,s1,sf,sz⟩:=zp HI3.o.x1;obtain⟨q0,qf,qz⟩:=zu HI3.o.x2;unfold zam at q0;obtain⟨y0,y1,yf,yz⟩:=zp hb3;have hO3:=(HFk.o.trans HF3.o).old hN (λk e=>by rcases e with e|e;exact e▸l1;exact e▸l2);obtain⟨m0,m1,m2,m3,m4,m5,mf,mz⟩:=zt ((hO3 nb HNt.o.lo).trans HNt.o.blk);have hN3:=HI3.o.hN;have HHa:=za (zgt s (p:Int) W3.drew (HI3.o.sc.old (λ_ _=>rfl)) hN3);have HIx:=za (λW (hB:xB W3 W)=>zaz s (p:Int) W (HI3.o.keep hB).sc (HI3.o.keep hB).hN);clear hb3 hO3 p0' p1' q0' m0 m1 m2 m4 m5 mf;cases hha:c.has s with
          | false =>
            have hha':(c.nd.find s).isSome=false:=hha;rw[hha'] at HHa;have HT:Hid ((z7 c (q.ns.take (k2+1)) (q.ps.take (k2+1))).foldl rep stB=rep ((z7 c (q.ns.take k2) (q.ps.take k2)).foldl rep stB) p):=(by unfold Hid;rw[hT1,zMP,hha];rfl);clear hha hha' hT1;refine wp_region_held_drew (S:=(λw'=>w'.cell? (xD w.heap.size 0)=some (xE xe c cpe)/\w'.cell? (xD w.heap.size 1)=some (xP nb)/\w'.cell? (xD wr.heap.size 0)=some (.string s)/\w'.cell? (xD wr.heap.size 1)=some (xI p))) (by kernel_rfl) ⟨zg s0,zg s1,zg y0,zg y1⟩ (λhHeld=>?_);refine wpAnyH_take (i:=0) (v:=.agg #[xE xe c cpe,xP nb]) rfl (by kernel_rfl) (by kernel_rfl) (by kernel_rfl) (λ_ _ _ h=>h) (zM3 ⟨by rfl,?_⟩) (by assumption) ?_
            . (intro w9 hSw;(try dsimp only at hSw);go_simp)
            try simp only[Act.put,zx2]
            refine wpAnyH_take (i:=1) (v:=.agg #[.string s,xI p]) rfl (by kernel_rfl) (by kernel_rfl) (by kernel_rfl) (λ_ _ _ h=>h) (zM3 ⟨by rfl,?_⟩) (by assumption) ?_
            . (intro w9 hSw;(try dsimp only at hSw);go_simp)
            try simp only[Act.put,zx2]
            refine wpAnyH_ready (rs:=[2]) (by kernel_rfl) (by simp) ?_;refine AllReadyH.cons rfl (λK hK=>?_) AllReadyH.nil;go_simp;go_at_call 91;refine HHa.o.mono ?_;rintro e w1 ⟨rfl,hB1⟩;have HB1:=za (zw hB1);clear hB1;go_wp2_with fail;refine hK.out _ _ ⟨zd HB1.o s0 sz,zd HB1.o s1 sz,zd HB1.o y0 yz,zd HB1.o y1 yz⟩ (λhHeld=>?_);clear hK K;try simp only[Act.put,zx2]
            refine wpAnyH_take (i:=3) (v:=.bool true) rfl (by kernel_rfl) (by kernel_rfl) (by kernel_rfl) (λ_ _ _ h=>h) (zM3 ⟨by rfl,?_⟩) (by assumption) ?_
            . (intro w9 hSw;(try dsimp only at hSw);go_simp)
            try simp only[Act.put,zx2]
            refine wpAnyH_take (i:=4) (v:=.bool true) rfl (by kernel_rfl) (by kernel_rfl) (by kernel_rfl) (λ_ _ _ h=>h) (zM3 ⟨by rfl,?_⟩) (by assumption) ?_
            . (intro w9 hSw;(try dsimp only at hSw);go_simp)
            try simp only[Act.put,zx2]
            refine wpAnyH_take (i:=5) (v:=undef) rfl (by kernel_rfl) (by kernel_rfl) (by kernel_rfl) (λ_ _ _ h=>h) (zM4 ⟨by rfl,rfl⟩) (by assumption) ?_;try simp only[Act.put,zx2]
            refine wpAnyH_take (i:=6) (v:=undef) rfl (by kernel_rfl) (by kernel_rfl) (by kernel_rfl) (λ_ _ _ h=>h) (zM4 ⟨by rfl,rfl⟩) (by assumption) ?_;try simp only[Act.put,zx2]
            refine wpAnyH_take (i:=7) (v:=undef) rfl (by kernel_rfl) (by kernel_rfl) (by kernel_rfl) (λ_ _ _ h=>h) (zM4 ⟨by rfl,rfl⟩) (by assumption) ?_;try simp only[Act.put,zx2]
            refine wpAnyH_take (i:=8) (v:=undef) rfl (by kernel_rfl) (by kernel_rfl) (by kernel_rfl) (λ_ _ _ h=>h) (zM4 ⟨by rfl,rfl⟩) (by assumption) ?_;try simp only[Act.put,zx2]
            refine wpAnyH_take (i:=9) (v:=undef) rfl (by kernel_rfl) (by kernel_rfl) (by kernel_rfl) (λ_ _ _ h=>h) (zM4 ⟨by rfl,rfl⟩) (by assumption) ?_;try simp only[Act.put,zx2]
            refine wpAnyH_take (i:=10) (v:=undef) rfl (by kernel_rfl) (by kernel_rfl) (by kernel_rfl) (λ_ _ _ h=>h) (zM4 ⟨by rfl,rfl⟩) (by assumption) ?_;try simp only[Act.put,zx2]
            refine wpAnyH_take (i:=11) (v:=undef) rfl (by kernel_rfl) (by kernel_rfl) (by kernel_rfl) (λ_ _ _ h=>h) (zM4 ⟨by rfl,rfl⟩) (by assumption) ?_;try simp only[Act.put,zx2]
            refine wpAnyH_take (i:=12) (v:=undef) rfl (by kernel_rfl) (by kernel_rfl) (by kernel_rfl) (λ_ _ _ h=>h) (zM4 ⟨by rfl,rfl⟩) (by assumption) ?_;try simp only[Act.put,zx2]
            refine wpAnyH_take (i:=13) (v:=undef) rfl (by kernel_rfl) (by kernel_rfl) (by kernel_rfl) (λ_ _ _ h=>h) (zM4 ⟨by rfl,rfl⟩) (by assumption) ?_;try simp only[Act.put,zx2]
            refine wpAnyH_take (i:=14) (v:=undef) rfl (by kernel_rfl) (by kernel_rfl) (by kernel_rfl) (λ_ _ _ h=>h) (zM4 ⟨by rfl,rfl⟩) (by assumption) ?_;try simp only[Act.put,zx2]
            refine wpAnyH_take (i:=15) (v:=undef) rfl (by kernel_rfl) (by kernel_rfl) (by kernel_rfl) (λ_ _ _ h=>h) (zM4 ⟨by rfl,rfl⟩) (by assumption) ?_;try simp only[Act.put,zx2]
            refine wpAnyH_take (i:=16) (v:=.bool true) rfl (by kernel_rfl) (by kernel_rfl) (by kernel_rfl) (λ_ _ _ h=>h) (zM3 ⟨by rfl,?_⟩) (by assumption) ?_
            . (intro w9 hSw;(try dsimp only at hSw);go_simp)
            try simp only[Act.put,zx2]
            refine wpAnyH_done (by kernel_rfl) ?_ _
            all_goals
             have g0:=zd HB1.o q0 qz;have g1:=zd HB1.o y1 yz;have HTell:=za (zaa S kd lb bb sb nmv askv _ p w1 (HI3.o.keep HB1.o).rp);go_wp2_with (go_at_call 110;refine HTell.o.mono ?_;rintro e w2 ⟨rfl,hRt,hFt⟩;have HRt:=za hRt;have HFt:=za hFt;clear hRt hFt);go_roundg (gk-1);case measure=>omega
             refine⟨k2+1,by omega,by omega,by go_num,?_,(HF3.o.trans (zy HB1.o)).trans HFt.o⟩;rw[HT.o];exact (HI3.o.keep HB1.o).told HRt.o HFt.o
          | true =>
            have hha':(c.nd.find s).isSome=true:=hha;rw[hha'] at HHa;by_cases hix:c.idx s<c.nd.ins
            . have hix':((c.idx s:Nat):Int)<(c.nd.ins:Int):=(by omega);have HT:Hid ((z7 c (q.ns.take (k2+1)) (q.ps.take (k2+1))).foldl rep stB=rep ((z7 c (q.ns.take k2) (q.ps.take k2)).foldl rep stB) p):=(by unfold Hid;rw[hT1,zMP,hha];simp[hix]);clear hha hha' hT1 hix;generalize c.idx s=ix at *
              go_region_held3 (λw'=>w'.cell? (xD w.heap.size 0)=some (xE xe c cpe)/\w'.cell? (xD w.heap.size 1)=some (xP nb)/\w'.cell? (xD wr.heap.size 0)=some (.string s)/\w'.cell? (xD wr.heap.size 1)=some (xI p)/\w'.cell? (xD nb 3)=some (xI c.nd.ins))
               (first|(with_reducible (refine⟨?_,?_,?_,?_,?_⟩ <;> repeat (first|assumption|refine zg ?_|refine zj _ ?_|refine zk (by omega) ?_|refine zd HB2.o ?_ (by first|omega|(rw[zsb];omega))|refine zd HB1.o ?_ (by first|omega|(rw[zsb];omega)))))|go_keep)
               (first
                 | (go_at_call 65;refine HIx2.o.mono ?_;rintro e w2 ⟨rfl,hB2⟩;have HB2:=za hB2;clear hB2)
                 | (go_at_call 91;refine HHa.o.mono ?_;rintro e w1 ⟨rfl,hB1⟩;have HB1:=za (zw hB1);(have hzw1:W3.heap.size<=w1.heap.size:=hB1.size);have HIx2:=za (HIx.o w1 HB1.o);clear hB1))
              all_goals
               have HB3:=za (HB1.o.trans (HB2.o.mono HB1.o.size));have g0:=zd HB3.o q0 qz;have g1:=zd HB3.o y1 yz;have HTell:=za (zaa S kd lb bb sb nmv askv _ p w2 (HI3.o.keep HB3.o).rp);go_wp2_with (go_at_call 110;refine HTell.o.mono ?_;rintro e w4 ⟨rfl,hRt,hFt⟩;have HRt:=za hRt;have HFt:=za hFt;clear hRt hFt);go_roundg (gk-1);case measure=>omega
               refine⟨k2+1,by omega,by omega,by go_num,?_,(HF3.o.trans (zy HB3.o)).trans HFt.o⟩;rw[HT.o];exact (HI3.o.keep HB3.o).told HRt.o HFt.o
            have hix':¬((c.idx s:Nat):Int)<(c.nd.ins:Int):=(by omega);have HT:Hid ((z7 c (q.ns.take (k2+1)) (q.ps.take (k2+1))).foldl rep stB=(z7 c (q.ns.take k2) (q.ps.take k2)).foldl rep stB):=(by unfold Hid;rw[hT1,zMP,hha];simp[hix]);clear hha hha' hT1 hix;generalize c.idx s=ix at *
            go_region_held3 (λw'=>w'.cell? (xD w.heap.size 0)=some (xE xe c cpe)/\w'.cell? (xD w.heap.size 1)=some (xP nb)/\w'.cell? (xD wr.heap.size 0)=some (.string s)/\w'.cell? (xD wr.heap.size 1)=some (xI p)/\w'.cell? (xD nb 3)=some (xI c.nd.ins))
             (first|(with_reducible (refine⟨?_,?_,?_,?_,?_⟩ <;> repeat (first|assumption|refine zg ?_|refine zj _ ?_|refine zk (by omega) ?_|refine zd HB2.o ?_ (by first|omega|(rw[zsb];omega))|refine zd HB1.o ?_ (by first|omega|(rw[zsb];omega)))))|go_keep)
             (first
               | (go_at_call 65;refine HIx2.o.mono ?_;rintro e w2 ⟨rfl,hB2⟩;have HB2:=za hB2;clear hB2)
               | (go_at_call 91;refine HHa.o.mono ?_;rintro e w1 ⟨rfl,hB1⟩;have HB1:=za (zw hB1);(have hzw1:W3.heap.size<=w1.heap.size:=hB1.size);have HIx2:=za (HIx.o w1 HB1.o);clear hB1))
            all_goals
             have HB3:=za (HB1.o.trans (HB2.o.mono HB1.o.size));go_wp2_with fail;go_roundg (gk-1);case measure=>omega
             refine⟨k2+1,by omega,by omega,by go_num,?_,HF3.o.trans (zy HB3.o)⟩;rw[HT.o];exact HI3.o.keep HB3.o
        have ek:k2=q.ns.length:=(by omega);subst ek;rw[List.take_length,Hql.o,List.take_length] at HIn;go_wp2_with fail;go_roundg (gko-1);case measure=>omega
        refine⟨k+1,by omega,by omega,by go_num,?_,HFk.o.trans HFn.o⟩;rw[HFl.o];exact HIn.o
     have ek:k=c.nd.eqs.length:=(by omega);subst ek;rw[List.take_length] at HIk;have hV:=zkL S kd lb bb sb nmv askv N c h6 (xE xe c cpe) (xP nb) w.heap.size (w.heap.size+1) l1 l2;have HWk:=za (zfN hV nb _ _ xs _ wr (HNt.o.old hOk) hNr (λk e=>by have:=HFk.o.size;rcases e with e|e <;> omega) HIk.o);have hmf:∀(fn:Go.Fn) (first cap:Xa) (w:Xw),(Instr.makeFunc fn first cap).run prog w=.ok (.func fn first cap) w:=λ_ _ _ _=>rfl;clear hV hOk q0 qf;go_wp2_with (go_at_call 92;refine HWk.o.mono ?_;rintro e w1 ⟨rfl,hI1,hF1⟩;have HI1:=za hI1;have HF1:=za hF1;clear hI1 hF1);first|go_end0|refine zWR (results_none rfl _ _ _) rfl ?_
     refine⟨rfl,?_,HFk.o.trans HF1.o⟩;rw[HTy.o];have:=HI1.o.rp;simp only[zh9] at this;exact this
end
section
open Go.RowKit
variable {ns:List Nod} {k:Nat} {n:Nod}
attribute [local go_sem ↓] Go.wp_at_zero Go.wp_at_succ
def zoD (S:Xs)(kd lb bb sb:Nat)(nmv askv:Xv)(N:Nat)(f:FuncId)(L:Sc->List Nat)(c:Sc):Prop :=
 ∀(ev nv:Xv) (st:Xo) (w:Xw),RpI S kd lb bb sb nmv askv st w->ScV w N c ev nv->N<=w.heap.size ->
  xK f #[.agg #[ev,nv],zam lb bb sb] w (λe w'=>e=.returned (.tuple #[])/\RpI S kd lb bb sb nmv askv ((L c).foldl rep st) w'/\Fr (RT lb bb) w w')
def zgj (ns:List Nod)(k:Nat):List Sc:=(List.range k).filterMap λi=>(ns[i]?).map λn=>⟨ns.take i,n⟩
theorem zkP (h:ns[k]?=some n):zgj ns (k+1)=zgj ns k++[⟨ns.take k,n⟩]:=by unfold zgj;rw[List.range_succ,List.filterMap_append];simp[h]
theorem zp9 (h:ns[k]?=some n):(⟨ns.take k,n⟩:Sc)∈scs ns:=by unfold scs;rw[List.mem_filterMap];exact⟨k,List.mem_range.2 (zMJ.1 h).1,by rw[h];rfl⟩
theorem zoq (S:Xs)(kd lb bb sb:Nat)(nmv askv:Xv)(N:Nat)(f:FuncId)(hcf:zH f)(L:Sc->List Nat)(ns:List Nod)(HA:∀c∈scs ns,zoD S kd lb bb sb nmv askv N f L c)(pv:Xv)(ab:Nat)(e:Xy)(st:Xo)(w:Xw)(HR:RpI S kd lb bb sb nmv askv st w)(hP:PT w N ns pv)(hN:N<=w.heap.size)(l1:N<=lb)(l2:N<=bb)(Hab:w.heap[ab]?=some (.cells #[.func (.func f) #[] #[]] e (0,0)))(d1:¬ab=lb)(d2:¬ab=bb) :
 xK 88 #[pv,zam lb bb sb,xP ab] w (λe w'=>e=.returned (.tuple #[])/\RpI S kd lb bb sb nmv askv (((scs ns).flatMap L).foldl rep st) w'/\Fr (RT lb bb) w w'):=by
 have hcf:∀(args:Xa) (w:Xw),(callFunc f args).run prog w=.ok (.enter f args) w:=hcf;have HP:=za hP;have hab0:=ze Hab;obtain⟨gb,gv,xs,rfl,hgb,hg,hl⟩:=hP;have h6:=hl.few;obtain⟨x,cp,rfl,hcp,hmx,hin⟩:=hl.ne;obtain⟨p0,pf,pz⟩:=zu hg;clear hin hl hg;unfold zam;go_enter func88,ntmps88;go_wp2_with fail;go_loopg [11] (ns.length+1) (λj i wr=>∃k:Nat,k+j=ns.length+1/\k<=ns.length/\i=xI k/\Hid (RpI S kd lb bb sb nmv askv (((zgj ns k).flatMap L).foldl rep st) wr)/\Hid (Fr (RT lb bb) w wr));case atStart=>exact⟨0,by omega,zMN _,rfl,HR,Fr.refl _ _⟩
 case round =>
  obtain⟨k,hkj,hk,rfl,HI,HF⟩:=hrel;clear p0;by_cases hlt:k<ns.length
  . obtain⟨n,hn⟩:∃n,ns[k]?=some n:=⟨_,zsc hlt⟩;have hO:=HF.o.old hN (λk e=>by rcases e with e|e;exact e▸l1;exact e▸l2);have hz:=HF.o.size;have hNr:N<=wr.heap.size:=by omega
    have HSc:=za (zh3 k n wr.drew ((HP.o.old hO).old (λ_ _=>rfl)) hNr hn);have HAk:=HA _ (zp9 hn);unfold zoD zam at HAk;have hT:=zkP hn;have HT:Hid (((zgj ns (k+1)).flatMap L).foldl rep st=(L ⟨ns.take k,n⟩).foldl rep (((zgj ns k).flatMap L).foldl rep st)):=(by unfold Hid;rw[hT,List.flatMap_append,zMP];simp);obtain⟨a0,af,az⟩:=zu ((HF.o.block ab hab0 (λe=>by rcases e with e|e <;> omega)).trans Hab);generalize hc:(⟨ns.take k,n⟩:Sc)=c at *;clear hT hn hO hc;go_wp2_with fail
    go_region_held3 (λw'=>w'.cell? (xD ab 0)=some (.func (.func f) #[] #[]))
     (first
       | exact zg a0
       | exact zd HB1.o a0 az
       | exact b0)
     (first
       | (refine (HAk _ _ _ w1 (HI.o.keep HB1.o) HS1 hN1).mono ?_;rintro e w2 ⟨rfl,HR2,HF2⟩;have b0:=(zWS (HF2.block ab (zM9 az HB1.o.size) (λe=>by rcases e with e|e <;> omega))).trans (zd HB1.o a0 az))
       | (go_at_call 28;refine HSc.o.mono ?_;rintro e w1 ⟨x1,cp1,nb1,rfl,HS1,hB1⟩;have HB1:=za (zw hB1);have hN1:=zMO hNr HB1.o.size;clear hB1))
    go_wp2_with fail;go_roundg (gk-1);case measure=>omega
    refine⟨k+1,by omega,by omega,by go_num,?_,(HF.o.trans (zy HB1.o)).trans HF2⟩;rw[HT.o];exact HR2
  have ek:k=ns.length:=by omega
  subst ek;go_wp2_with fail;first|go_end0|refine zWR (results_none rfl _ _ _) rfl ?_
  exact⟨rfl,HI.o,HF.o⟩
end
section
open Go.RowKit
attribute [local go_sem ↓] Go.wp_at_zero Go.wp_at_succ
theorem zjA (f:FuncId)(w:Xw) :
 xK 45 #[.func (.func f) #[] #[]] w (λe w'=>e=.returned (.func (.func 88) #[] #[xP w.heap.size])/\∃t,w'=w.alloc (.cells #[.func (.func f) #[] #[]] t (0,0))):=by
 have hmf:∀(fn:Go.Fn) (first cap:Xa) (w:Xw),(Instr.makeFunc fn first cap).run prog w=.ok (.func fn first cap) w:=λ_ _ _ _=>rfl;go_enter func45,ntmps45;go_wp2_with fail;go_ret;exact⟨rfl,_,rfl⟩
def zry (S:Xs)(kd lb bb sb:Nat)(nmv askv:Xv)(F:FuncId)(cap:Xa)(pv:Xv)(l:Xn)(w:Xw):Prop :=
 RpI S kd lb bb sb nmv askv none w->xK F (#[pv,zam lb bb sb]++cap) w (λe w'=>e=.returned (.tuple #[])/\RpI S kd lb bb sb nmv askv (l.foldl rep none) w'/\Fr (RT lb bb) w w')
theorem zkt (S:Xs)(kd:Nat)(nm:Xb)(F:FuncId)(hcf:zH F)(cap:Xa)(gb:Nat)(l:Xn)(w:Xw)
 (hA:∀W,xB w W->zry S kd (w.heap.size+1) (w.heap.size+1+1) w.heap.size (.string nm) (.func (.func F) #[] cap) F cap (xP gb) l W) :
 xK 52 #[.agg #[.string nm,sen S kd,.func (.func F) #[] cap],xP gb] w (λe w'=>e=.returned (zbp S kd (zO l))/\xB w w'):=by
 have hcf:∀(args:Xa) (w:Xw),(callFunc F args).run prog w=.ok (.enter F args) w:=hcf;have hmf:∀(fn:Go.Fn) (first cap:Xa) (w:Xw),(Instr.makeFunc fn first cap).run prog w=.ok (.func fn first cap) w:=λ_ _ _ _=>rfl;have hB3:=zcz w (.cells #[.string nm,.iface 290 (.pointer (some (S kd))),.func (.func F) #[] cap] 130 (0,0)) (.cells #[.nilIface] 41 (0,0)) (.cells #[xI 0] 3 (0,0));have hA3:=al3 w (.cells #[.string nm,.iface 290 (.pointer (some (S kd))),.func (.func F) #[] cap] 130 (0,0)) (.cells #[.nilIface] 41 (0,0)) (.cells #[xI 0] 3 (0,0));have hRP:RpI S kd (w.heap.size+1) (w.heap.size+1+1) w.heap.size (.string nm) (.func (.func F) #[] cap) none _:=⟨hA3.2.1,hA3.2.2,hA3.1,by omega,by omega,by omega⟩;have hC:=hA _ hB3 hRP;unfold zam at hC;have HC:=za hC;have HB3:=za hB3;clear hA hC hB3 hA3 hRP;unfold sen;go_enter func52,ntmps52;go_wp2_with fail;refine HC.o.mono ?_;rintro e w' ⟨rfl,hR,hF⟩;have HBn:Hid (xB w w'):=⟨hF.os.trans HB3.o.os,hF.tape.trans HB3.o.tape,hF.output.trans HB3.o.output,zMO HB3.o.size hF.size,λk hk=>(hF.block k (zM9 hk HB3.o.size) (λe=>by rcases e with e|e <;> omega)).trans (HB3.o.block k hk)⟩;obtain⟨l0,lf,lz⟩:=zu hR.l;clear hR hF HC HB3;change w'.cell? _=some (zbp S kd (zO l)) at l0;cases hl:zO l with
 | none => rw[hl] at l0;unfold zbp at l0;go_wp2_with fail;go_ret;exact⟨by rw[hl];rfl,HBn.o⟩
 | some p => rw[hl] at l0;unfold zbp sen at l0;go_wp2_with fail;go_ret;exact⟨by rw[hl];rfl,HBn.o⟩
end
section
variable {c:Sc} {u:Tm} {g:Tm->Bool}
theorem zji:∀{ts:List Tm},u∈zdk g ts->∃t∈ts,u∈zaV g t:=by
 intro ts;induction ts with
 | nil=>intro h;rw[zdk] at h;cases h
 | cons x ts ih =>
   intro h;rw[zdk] at h;rcases zMY.1 h with h|h
   . exact⟨x,zMS,h⟩
   obtain⟨t,h1,h2⟩:=ih h;exact⟨t,zMX _ h1,h2⟩
theorem Wf.vis {t:Tm}(h:Wf t)(hu:u∈zaV g t):Wf u:=by
 induction h generalizing u with
 | mk k a s nm n ts h hr ih =>
   rw[zaV] at hu;rcases zNa.1 hu with rfl|hu
   . exact Wf.mk k a s nm n ts h hr
   split at hu
   . obtain⟨t,h1,h2⟩:=zji hu;exact ih t h1 h2
   cases hu
theorem zjj:∀{l:List Vr} {i:Nat},zat c l i=[]->∀v∈l,zaA v≠0->c.has v.ck=true:=by
 intro l;induction l with
 | nil=>intro i _ v hv;cases hv
 | cons x l ih =>
   intro i h v hv hs;rw[zat,zM7,zM7] at h;rcases zNa.1 hv with rfl|hv
   . have h2:=h.1.2;cases hh:c.has v.ck with
     | true=>rfl
     | false=>rw[hh] at h2;simp[hs] at h2
   exact ih h.2 v hv hs
theorem ziH:∀{ns:Xl} {ps:Xn},ns.length=ps.length->z7 c ns ps=[]->∀s∈ns,c.has s=true/\¬c.idx s<c.nd.ins:=by
 intro ns;induction ns with
 | nil=>intro ps _ _ s hs;cases hs
 | cons x ns ih =>
   intro ps hl h s hs;cases ps with
   | nil=>simp at hl
   | cons p ps =>
     rw[z7,zM7] at h;rcases zNa.1 hs with rfl|hs
     . have h2:=h.1;constructor
       . cases hh:c.has s with
         | true=>rfl
         | false=>rw[hh] at h2;simp at h2
       intro hi;rw[decide_eq_true hi] at h2;simp at h2
     exact ih (by simpa using hl) h.2 s hs
theorem zgU {α:Type}{f:α->List Nat}{l:List α}(h:l.flatMap f=[]):∀x∈l,f x=[]:=List.flatMap_eq_nil_iff.1 h
theorem zex (hc:zbr c)(h:c.namesL=[]):zfw c:=by
 unfold Sc.namesL at h;rw[zM7,zM7,zM7] at h;obtain⟨⟨⟨_,h2⟩,h3⟩,h4⟩:=h;have hT:∀q∈c.nd.eqs,∀u∈zaV za5 q.r,(zaJ u.k=true->c.has u.s=true)/\(u.k=4->∃d,c.called u.s=some d/\d.nd.ins=u.ts.length/\d.nd.outs=zda q u):=by
  intro q hq u hu;have h5:=zgU (zgU h4 q hq) u hu;unfold zaL at h5;rw[zM7] at h5;refine⟨λhn=>?_,λhk=>?_⟩
  . cases hh:c.has u.s with
    | true=>rfl
    | false=>have:=h5.1;rw[hh,hn] at this;simp at this
  have h6:=h5.2;cases hf:c.fits u (zda q u) with
  | false=>rw[hf,hk] at h6;simp at h6
  | true =>
    unfold Sc.fits at hf;split at hf
    . cases hf
    rename_i d hd
    simp only[Bool.and_eq_true,beq_iff_eq] at hf;exact⟨d,hd,hf.1,hf.2⟩
 refine⟨λq hq u hu=>?_,zjj h2,λq hq s hs=>(ziH (hc.nd.eqs q hq).1 (zgU h3 q hq) s hs).1,λq hq h=>?_⟩
 . obtain⟨a1,a2⟩:=hT q hq u hu;exact⟨a1,λhk=>by obtain⟨d,b1,b2,_⟩:=a2 hk;exact⟨d,b1,b2⟩,((hc.nd.eqs q hq).2.2.1.vis hu).ar⟩
 obtain⟨d,b1,_,b3⟩:=(hT q hq q.r (zey _ _)).2 ((hc.nd.eqs q hq).2.2.2 h);refine⟨d,b1,?_⟩;rw[b3];unfold zda;rw[zM2 rfl]
end
section
open Go.RowKit
theorem Tryz.infoBl:(prog.info? 4).map (λi=>(i.zero,i.size,i.bytes))=some (some (.bool false),1,1):=by kernel_rfl
def zdC (l:Xk):List Value:=l.map .bool
theorem zkG (n:Nat)(hc:n<=3145728)(w:Xw):(Instr.makeSlice 63 (xI (n:Int)) (xI (n:Int))).run prog w=.ok (xS w.heap.size n n) (w.alloc (.cells (zdC (List.replicate n false)).toArray 4)):=by
 obtain⟨i0,hi,hi0,hi1,hi2⟩:=info_parts Tryz.infoBl;have:=run_make (P:=prog) w 63 4 i0 _ underlying63 hi hi0 .i64 .i64 (n:Int) (n:Int) (by omega) (by omega) (by rw[hi2];omega) (by omega);refine this.trans ?_;rw[hi1];simp only[Int.toNat_natCast,Nat.mul_one];refine congrArg (λx=>Result.ok (xS w.heap.size n n) (w.alloc (.cells x 4))) ?_;unfold madeCells;apply Array.ext
 . simp[zdC]
 intro j h1 h2;simp[zdC,Value.cells,Nat.mod_one]
theorem zdF {w:Xw}{b k:Nat}{d:Xk}{e:Xy}{x:Bool}(h:w.heap[b]?=some (.cells (zdC d).toArray e (0,0)))(hk:d[k]?=some x):w.cell? (xD b k)=some (.bool x):=by simp[World.cell?,h,zdC,hk]
end
section
open Go.RowKit
variable {d:Xk} {N b1 b2 bb kd lb sb:Nat} {S:Xs} {st:Xo} {c:Sc} {askv ev nmv nv:Xv} {w w':Xw}
attribute [local go_sem ↓] Go.wp_at_zero Go.wp_at_succ
theorem zja (c:Sc)(ps:Xn)(d:Xk):zaC c [] ps d=([],d):=by cases ps <;> rfl
structure zdD (S:Xs) (kd lb bb sb:Nat) (nmv askv:Xv) (N:Nat) (c:Sc) (ev nv:Xv) (b1 b2:Nat) (d:Xk) (st:Xo) (w:Xw):Prop where
 rp:RpI S kd lb bb sb nmv askv st w
 sc:ScV w N c ev nv
 x1:w.heap[b1]?=some (.cells #[ev,nv] 188 (0,0))
 x2:w.heap[b2]?=some (.cells (zdC d).toArray 4 (0,0))
 d1:¬b1=lb
 d2:¬b1=bb
 d3:¬b2=lb
 d4:¬b2=bb
 d5:¬b1=b2
 d6:¬b2=sb
 l1:N<=lb
 l2:N<=bb
 l3:N<=b2
 hN:N<=w.heap.size
theorem zdD.keep (h:zdD S kd lb bb sb nmv askv N c ev nv b1 b2 d st w)(hB:xB w w'):zdD S kd lb bb sb nmv askv N c ev nv b1 b2 d st w' :=
 ⟨h.rp.keep hB,h.sc.old (zm hB h.hN),(hB.block _ (ze h.x1)).trans h.x1,(hB.block _ (ze h.x2)).trans h.x2,h.d1,h.d2,h.d3,h.d4,h.d5,h.d6,h.l1,h.l2,h.l3,zMO h.hN hB.size⟩
theorem zdD.told {st':Xo}(h:zdD S kd lb bb sb nmv askv N c ev nv b1 b2 d st w)(hr:RpI S kd lb bb sb nmv askv st' w')(hf:Fr (RT lb bb) w w'):zdD S kd lb bb sb nmv askv N c ev nv b1 b2 d st' w':=by have h1:=h.d1;have h2:=h.d2;have h3:=h.d3;have h4:=h.d4;have l1:=h.l1;have l2:=h.l2;exact⟨hr,h.sc.old (hf.old h.hN (λk e=>by rcases e with e|e;exact e▸l1;exact e▸l2)),(hf.block _ (ze h.x1) (λe=>by rcases e with e|e;exact h1 e;exact h2 e)).trans h.x1,(hf.block _ (ze h.x2) (λe=>by rcases e with e|e;exact h3 e;exact h4 e)).trans h.x2,h.d1,h.d2,h.d3,h.d4,h.d5,h.d6,h.l1,h.l2,h.l3,zMO h.hN hf.size⟩
theorem zjw (d:Xk)(i:Nat)(b:Bool):(zdC d).toArray.setIfInBounds i (.bool b)=(zdC (d.set i b)).toArray:=by unfold zdC;rw[List.map_set];simp
theorem zdD.put (h:zdD S kd lb bb sb nmv askv N c ev nv b1 b2 d st w)(i:Nat)(b:Bool):zdD S kd lb bb sb nmv askv N c ev nv b1 b2 (d.set i b) st (w.setCell (xD b2 i) (.bool b)):=by
 have l3:=h.l3;have hk:∀k,¬k=b2->(w.setCell (xD b2 i) (.bool b)).heap[k]?=w.heap[k]?:=λk hk=>Below.heap_setCell w _ _ k hk;refine⟨⟨(hk _ λe=>h.d3 e.symm).trans h.rp.l,(hk _ λe=>h.d4 e.symm).trans h.rp.b,(hk _ λe=>h.d6 e.symm).trans h.rp.s,h.rp.n1,h.rp.n2,h.rp.n3⟩,h.sc.old (λk hk'=>hk k (by omega)),(hk _ h.d5).trans h.x1,?_,h.d1,h.d2,h.d3,h.d4,h.d5,h.d6,h.l1,h.l2,h.l3,?_⟩
 . rw[zh _ _ _ _ h.x2,zjw]
 have:=h.hN;simpa using this
theorem zpj {s:Xb}(h:c.has s=true):c.idx s<c.nd.vars.length:=by unfold Sc.has at h;unfold Sc.idx;obtain⟨j,hj⟩:=Option.isSome_iff_exists.1 h;rw[hj];have:=(zgO hj).2.1;simpa using this
theorem zgb (S:Xs)(kd lb bb sb:Nat)(nmv askv:Xv)(N:Nat)(c:Sc)(hc:zbr c)(hn:zfw c)(ev nv:Xv)(st:Xo)(w:Xw)(hR:RpI S kd lb bb sb nmv askv st w)(h:ScV w N c ev nv)(hN:N<=w.heap.size)(l1:N<=lb)(l2:N<=bb) :
 xK 49 #[.agg #[ev,nv],zam lb bb sb] w (λe w'=>e=.returned (.tuple #[])/\RpI S kd lb bb sb nmv askv (c.definesL.foldl rep st) w'/\Fr (RT lb bb) w w'):=by
 obtain⟨xe,cpe,nb,rfl,rfl,hnb⟩:=h.shape;have hzl:=ze hR.l;have hzb:=ze hR.b;have hzs:=ze hR.s;have hA0:∀o1 o2,((w.alloc o1).alloc o2).heap[w.heap.size]?=some o1/\((w.alloc o1).alloc o2).heap[w.heap.size+1]?=some o2:=λo1 o2=>al2 w o1 o2
 have hAs:zdD S kd lb bb sb nmv askv N c (xE xe c cpe) (xP nb) w.heap.size (w.heap.size+1) (List.replicate c.nd.vars.length false) st ((w.alloc (.cells #[xE xe c cpe,xP nb] 188)).alloc (.cells (zdC (List.replicate c.nd.vars.length false)).toArray 4)) :=
  ⟨hR.keep (zaD w _ _),h.old (zfr hN _ _),(hA0 _ _).1,(hA0 _ _).2,by omega,by omega,by omega,by omega,by omega,by omega,l1,l2,by omega,by simp;omega⟩
 have HAs:=za hAs;obtain⟨nb',vs,qv,xs,e9,hnt⟩:=h.nd;cases e9;obtain⟨xv,cpv,rfl⟩:=zB hnt.vown;obtain⟨xq,cpq,rfl⟩:=zB hnt.own;obtain⟨m0,m1,m2,m3,m4,m5,mf,mz⟩:=zt hnt.blk;have HNt:=za hnt;have hfew:=hnt.few;have h16:c.nd.eqs.length<=9223372036854775807:=by
  rcases hnt.own.2 with ⟨_,h⟩|⟨g,cap,cur,hv,_,_,h3,h4,_⟩
  . omega
  unfold maxLen at h4;omega
 have mk:=zkG c.nd.vars.length (by omega);have HFr0:=za (zy (T:=RT lb bb) (zaD w (.cells #[xE xe c cpe,xP nb] 188) (.cells (zdC (List.replicate c.nd.vars.length false)).toArray 4)));have hnw:nb<w.heap.size:=by omega
 clear hR h hA0 hAs hnt;unfold zam;go_enter func49,ntmps49;go_wp2_with fail;go_loopg [27] (c.nd.eqs.length+1) (λj i wr=>∃(k:Nat) (d:Xk) (st':Xo),k+j=c.nd.eqs.length+1/\k<=c.nd.eqs.length/\i=xI k/\Hid (zdD S kd lb bb sb nmv askv N c (xE xe c cpe) (xP nb) w.heap.size (w.heap.size+1) d st' wr)/\Hid (d.length=c.nd.vars.length)/\Hid ((zcN c c.nd.eqs (List.replicate c.nd.vars.length false)).1.foldl rep st=(zcN c (c.nd.eqs.drop k) d).1.foldl rep st'/\(zcN c c.nd.eqs (List.replicate c.nd.vars.length false)).2=(zcN c (c.nd.eqs.drop k) d).2)/\Hid (Fr (RT lb bb) w wr));case atStart=>exact⟨0,_,st,by omega,zMN _,rfl,HAs.o,List.length_replicate,⟨rfl,rfl⟩,HFr0.o⟩
 case round =>
  clear HAs HFr0 m0 m1 m2 m3 m4 m5 mf mz mk;obtain⟨k,d,st',hkj,hk,rfl,HI,Hdl,HD,HF⟩:=hrel;have hO:=HF.o.old hN (λk e=>by rcases e with e|e;exact e▸l1;exact e▸l2);by_cases hlt:k<c.nd.eqs.length
  . obtain⟨wo,rfl⟩:∃wo,wo=wr:=⟨_,rfl⟩;obtain⟨gko,rfl⟩:∃g,g=gk:=⟨_,rfl⟩;obtain⟨q,hq⟩:∃q,c.nd.eqs[k]?=some q:=⟨_,zsc hlt⟩;have hN2:=HNt.o.old hO;obtain⟨g,lv,rv,rfl,c0,c1,c2,hE⟩:=zcd hN2.own hN2.eqs hq rfl;obtain⟨rb,_,_,rfl,_⟩:=hE.tt.ptr;obtain⟨xl,cl,rfl⟩:=zB hE.own;have hgN:=HNt.o.elo g rfl;have HEq:=za hE;have hqm:=zML hq;have hql:=(hc.nd.eqs q hqm).1;have Hql:=za hql;have HLf:=za (hn.left q hqm);have hNr:=HI.o.hN;have hDq:zcN c (c.nd.eqs.drop k) d=((zaC c q.ns q.ps d).1++(zcN c (c.nd.eqs.drop (k+1)) (zaC c q.ns q.ps d).2).1,(zcN c (c.nd.eqs.drop (k+1)) (zaC c q.ns q.ps d).2).2):=by obtain⟨h1,h2⟩:=zMJ.1 hq;rw[zMT h1,zcN,h2]
    have HDq:=za hDq;have h17:q.ns.length<=9223372036854775807:=by
     rcases hE.own.2 with ⟨_,h⟩|⟨g,cap,cur,hv,_,_,h3,h4,_⟩
     . omega
     unfold maxLen at h4;omega
    have HkX:=za (HI.o.keep (zq wo (.cells #[.slice xl q.ns.length cl,xI q.a,xP rb] 158)));have HwX:=za (HF.o.alloc (.cells #[.slice xl q.ns.length cl,xI q.a,xP rb] 158));clear hN2 hE hq hql hO hDq hqm;go_wp2_with fail;go_loopg [34] (q.ns.length+1) (λj i wr=>∃(k2:Nat) (d2:Xk) (st2:Xo),k2+j=q.ns.length+1/\k2<=q.ns.length/\i=xI k2/\Hid (zdD S kd lb bb sb nmv askv N c (xE xe c cpe) (xP nb) w.heap.size (w.heap.size+1) d2 st2 wr)/\Hid (d2.length=c.nd.vars.length)/\Hid ((zaC c q.ns q.ps d).1.foldl rep st'=(zaC c (q.ns.drop k2) (q.ps.drop k2) d2).1.foldl rep st2/\(zaC c q.ns q.ps d).2=(zaC c (q.ns.drop k2) (q.ps.drop k2) d2).2)/\Hid (Fr (RT lb bb) w wr));case atStart=>exact⟨0,d,st',by omega,zMN _,rfl,HkX.o,Hdl.o,⟨rfl,rfl⟩,HwX.o⟩
    case round =>
     clear HkX HwX c0 c1 c2;obtain⟨k2,d2,st2,hkj2,hk2,rfl,HI2,Hdl2,HD2,HF2⟩:=hrel;by_cases hlt2:k2<q.ns.length
     . obtain⟨s,hs⟩:∃s,q.ns[k2]?=some s:=⟨_,zsc hlt2⟩;obtain⟨p,hp⟩:∃p,q.ps[k2]?=some p:=⟨_,zsc (by have:=Hql.o;omega)⟩;have hO2:=HF2.o.old hN (λk e=>by rcases e with e|e;exact e▸l1;exact e▸l2);have hOe:Old N wo wr:=λb hb=>(hO2 b hb).trans ((HF.o.old hN (λk e=>by rcases e with e|e;exact e▸l1;exact e▸l2)) b hb).symm;obtain⟨gl,rfl,c0,c1⟩:=zbe (HEq.o.old hOe).own hs hp rfl;have hglN:=HEq.o.lo gl rfl;have hNs:=HI2.o.hN;have hha:=HLf.o s (zML hs);have hix:=zpj hha;obtain⟨b,hb⟩:∃b,d2[c.idx s]?=some b:=⟨_,zsc (by have:=Hdl2.o;omega)⟩;have HIx:=za (zaz s (p:Int) (wr.alloc (.cells #[.string s,xI p] 84)) (HI2.o.keep (zq wr _)).sc (HI2.o.keep (zq wr _)).hN);obtain⟨s0,s1,sf,sz⟩:=zp HI2.o.x1;have hDe:zaC c (q.ns.drop k2) (q.ps.drop k2) d2=((if b=true then [p] else [])++(zaC c (q.ns.drop (k2+1)) (q.ps.drop (k2+1)) (d2.set (c.idx s) true)).1,(zaC c (q.ns.drop (k2+1)) (q.ps.drop (k2+1)) (d2.set (c.idx s) true)).2):=(by obtain⟨h1,h2⟩:=zMJ.1 hs;obtain⟨h3,h4⟩:=zMJ.1 hp;rw[zMT h1,zMT h3,zaC,h2,h4];rw[show d2.getD (c.idx s) false=b by rw[List.getD_eq_getElem?_getD,hb];rfl]);have HT:Hid ((zaC c q.ns q.ps d).1.foldl rep st'=(zaC c (q.ns.drop (k2+1)) (q.ps.drop (k2+1)) (d2.set (c.idx s) true)).1.foldl rep ((if b=true then [p] else []).foldl rep st2)/\(zaC c q.ns q.ps d).2=(zaC c (q.ns.drop (k2+1)) (q.ps.drop (k2+1)) (d2.set (c.idx s) true)).2):=(by have a:=HD2.o;rw[hDe,zMP] at a;exact a);have i0:(0:Int)<=(c.idx s:Int):=(by omega);have i1:(c.idx s:Int)<(c.nd.vars.length:Int):=(by omega);have Hb:=za hb;clear hO2 hOe hs hp hb hDe HD2;cases b with
       | false =>
         go_wp2_with (go_at_call 65;refine HIx.o.mono ?_;rintro e w1 ⟨rfl,hB1⟩;have HB1:=za hB1;have HI3:=za (HI2.o.keep (zE hB1));have e0:=zdF HI3.o.x2 Hb.o;have e2:=zai HI3.o.x2 (c.idx s);have e3:=ze HI3.o.x2;clear hB1);go_roundg (gk-1);case measure=>omega
         exact⟨k2+1,d2.set (c.idx s) true,st2,by omega,by omega,by go_num,HI3.o.put _ _,by unfold Hid;rw[List.length_set];exact Hdl2.o,HT.o,(HF2.o.belowed (zE HB1.o)).setNew (by omega) _ _⟩
       | true =>
         go_wp2_with (first
          | (go_at_call 110;refine (zaa S kd lb bb sb nmv askv st2 p _ HI3.o.rp).mono ?_;rintro e w2 ⟨rfl,hRt,hFt⟩;have HI4:=za (HI3.o.told hRt hFt);have HFt:=za hFt;have f0:=zdF HI4.o.x2 Hb.o;have f2:=zai HI4.o.x2 (c.idx s);have f3:=ze HI4.o.x2;clear hRt hFt)
          | (go_at_call 65;refine HIx.o.mono ?_;rintro e w1 ⟨rfl,hB1⟩;have HB1:=za hB1;have HI3:=za (HI2.o.keep (zE hB1));have e0:=zdF HI3.o.x2 Hb.o;have e1:xC w1 wr.heap.size 1 (xI p):=zd HB1.o (zp (zc wr _)).2.1 (by simp);clear hB1))
         go_roundg (gk-1);case measure=>omega
         exact⟨k2+1,d2.set (c.idx s) true,rep st2 p,by omega,by omega,by go_num,HI4.o.put _ _,by unfold Hid;rw[List.length_set];exact Hdl2.o,HT.o,((HF2.o.belowed (zE HB1.o)).trans HFt.o).setNew (by omega) _ _⟩
     have ek:k2=q.ns.length:=(by omega);subst ek;rw[List.drop_length,zja] at HD2;go_wp2_with fail;go_roundg (gko-1);case measure=>omega
     refine⟨k+1,d2,st2,by omega,by omega,by go_num,HI2.o,Hdl2.o,?_,HF2.o⟩;have a:=HD.o;have b:=HD2.o;rw[HDq.o,b.2] at a;refine⟨a.1.trans ?_,a.2⟩;rw[zMP,b.1];rfl
  have ek:k=c.nd.eqs.length:=by omega
  subst ek;rw[List.drop_length,zcN] at HD;obtain⟨hD1,hD2⟩:=HD.o;have HT:Hid (c.definesL.foldl rep st=(zb1 c.nd.ins d c.nd.vars 0).foldl rep st'):=by unfold Hid Sc.definesL;simp only[zMP];rw[hD1,hD2];rfl
  clear HD hD1 hD2;obtain⟨s0,s1,sf,sz⟩:=zp HI.o.x1;obtain⟨n0,n1,n2,n3,n4,n5,nf,nz⟩:=zt ((hO nb HNt.o.lo).trans HNt.o.blk);clear hO;go_wp2_with fail;go_loopg [62] (c.nd.vars.length+1) (λj i wr=>∃(k:Nat) (st2:Xo),k+j=c.nd.vars.length+1/\k<=c.nd.vars.length/\i=xI k/\Hid (zdD S kd lb bb sb nmv askv N c (xE xe c cpe) (xP nb) w.heap.size (w.heap.size+1) d st2 wr)/\Hid ((zb1 c.nd.ins d c.nd.vars 0).foldl rep st'=(zb1 c.nd.ins d (c.nd.vars.drop k) k).foldl rep st2)/\Hid (Fr (RT lb bb) w wr));case atStart=>exact⟨0,st',by omega,zMN _,rfl,HI.o,rfl,HF.o⟩
  case round =>
   clear HI HF s0 s1 sf sz n0 n1 n2 n3 n4 n5 nf nz hkj hk hlt;obtain⟨k,st2,hkj,hk,rfl,HI,HD,HF⟩:=hrel;have hO:=HF.o.old hN (λk e=>by rcases e with e|e;exact e▸l1;exact e▸l2);by_cases hlt:k<c.nd.vars.length
   . obtain⟨v,hv⟩:∃v,c.nd.vars[k]?=some v:=⟨_,zsc hlt⟩;obtain⟨g,rfl,c0,c1,c2,c3,c4,c5,c6⟩:=zaM (HNt.o.old hO).vown hv;have hgN:=HNt.o.vlo g rfl;obtain⟨bk,hbk⟩:∃bk,d[k]?=some bk:=⟨_,zsc (by have:=Hdl.o;omega)⟩;have hD1:zb1 c.nd.ins d (c.nd.vars.drop k) k=(if (decide (c.nd.ins<=k)&&!bk)=true then [v.a] else [])++zb1 c.nd.ins d (c.nd.vars.drop (k+1)) (k+1):=(by obtain⟨h1,h2⟩:=zMJ.1 hv;rw[zMT h1,zb1,h2];rw[show d.getD k false=bk by rw[List.getD_eq_getElem?_getD,hbk];rfl]);have HT2:Hid ((zb1 c.nd.ins d c.nd.vars 0).foldl rep st'=(zb1 c.nd.ins d (c.nd.vars.drop (k+1)) (k+1)).foldl rep ((if (decide (c.nd.ins<=k)&&!bk)=true then [v.a] else []).foldl rep st2)):=(by unfold Hid;rw[HD.o,hD1,zMP]);obtain⟨s0,s1,sf,sz⟩:=zp HI.o.x1;obtain⟨n0,n1,n2,n3,n4,n5,nf,nz⟩:=zt ((hO nb HNt.o.lo).trans HNt.o.blk);have b0:xC wr (w.heap.size+1) k (.bool bk):=zdF HI.o.x2 hbk;have bz:=ze HI.o.x2;have hnr:nb<wr.heap.size:=(by omega);have dlen:d.length=c.nd.vars.length:=Hdl.o;have i0:(0:Int)<=(k:Int):=(by omega);have i1:(k:Int)<(c.nd.vars.length:Int):=(by omega);have HTell:=za (λo=>zaa S kd lb bb sb nmv askv st2 v.a (wr.alloc o) (HI.o.rp.keep (zq wr o)));clear hD1 HD hO dlen hbk hv n0 n1 n2 n4 n5;by_cases hin:c.nd.ins<=k
     . have hin':(c.nd.ins:Int)<=(k:Int):=(by omega);cases bk with
       | true =>
         simp only[hin,decide_true,Bool.not_true,Bool.and_false] at HT2;clear hin;go_wp2_with fail;go_roundg (gk-1);case measure=>omega
         exact⟨k+1,st2,by omega,by omega,by go_num,HI.o.keep (zq wr _),HT2.o,HF.o.alloc _⟩
       | false =>
         simp only[hin,decide_true,Bool.not_false,Bool.and_true] at HT2;clear hin;go_wp2_with (go_at_call 110;refine (HTell.o _).mono ?_;rintro e w2 ⟨rfl,hRt,hFt⟩;have HRt:=za hRt;have HFt:=za hFt;clear hRt hFt);go_roundg (gk-1);case measure=>omega
         exact⟨k+1,rep st2 v.a,by omega,by omega,by go_num,(HI.o.keep (zq wr _)).told HRt.o HFt.o,HT2.o,(HF.o.alloc _).trans HFt.o⟩
     have hin':¬(c.nd.ins:Int)<=(k:Int):=(by omega);simp only[hin,decide_false,Bool.false_and] at HT2;clear hin;go_wp2_with fail;go_roundg (gk-1);case measure=>omega
     exact⟨k+1,st2,by omega,by omega,by go_num,HI.o.keep (zq wr _),HT2.o,HF.o.alloc _⟩
   have ek:k=c.nd.vars.length:=(by omega);subst ek;rw[List.drop_length,zb1] at HD;clear hO;go_wp2_with fail;first|go_end0|refine zWR (results_none rfl _ _ _) rfl ?_
   refine⟨rfl,?_,HF.o⟩;rw[HT.o,HD.o];exact HI.o.rp
end
section
open Go.RowKit
variable {K:Cd} {N base:Nat} {c:Sc}
attribute [local go_sem ↓] Go.wp_at_zero Go.wp_at_succ
def zlY (k:Nat):Nat:=if k=5 then 5 else k-3
def zbt (w:Xw):Prop:=∀k,(k=5∨10<=k)->k<=23->w.cell? (xD 13 k)=some (.int .u8 (zlY k:Nat))
theorem zbt.old {w w':Xw}(h:zbt w)(ho:Old N w w')(hN:21<=N):zbt w':=λk h1 h2=>(zWS (w:=w) (a:=(xD 13 k)) (ho 13 (zM9 (show 13<21 by decide) hN))).trans (h k h1 h2)
def zeb (bod:Sc->Nat->Cd->Cd)(c:Sc)(base fu:Nat)(K:Cd)(t:Tm)(k:Nat×Nat):Cd :=
 match c.called t.s with
 | none=>K
 | some d =>
   let b:=base+c.nd.vars.length+1
   (bod d b ((K.adds ((List.range t.ts.length).reverse.map λi=>(2,((b+i:Nat):Int)))).adds (whM c base fu k))).adds ((List.range d.nd.outs).map λi=>(1,((b+(d.nd.ins+i):Nat):Int)))
def zal (bod:Sc->Nat->Cd->Cd)(c:Sc)(base fu:Nat)(s:Cd×List Lt)(t:Tm)(k:Nat×Nat):Cd×List Lt :=
 if t.k<=2 then (s.1.add 0 (zav t),s.2)
 else if t.k=3 then (s.1.add 1 ((base+c.idx t.s:Nat):Int),s.2)
 else if t.k=7∨t.k=8 then s
 else if t.k=6 then (s.1.add 6 ((base+c.idx t.s:Nat):Int),s.2)
 else if t.k=9 then ((s.1.cell (zhD t.ts)).add 3 s.1.cells.length,s.2++(match t.ts with|_::a::_=>[⟨s.1.cells.length,a,k⟩]|_=>[]))
 else if t.k=4 then (zeb bod c base fu s.1 t k,s.2)
 else (s.1.add (zlY t.k) 0,s.2)
def BdK (K:Cd):Prop:=K.row.length<=1000000/\K.cells.length<=1000000
def BdW (s:Cd×List Lt):Prop:=BdK s.1/\s.2.length<=1000000
theorem zmN (c:Sc)(s:Xb):c.idx s<=c.nd.vars.length:=by
 unfold Sc.idx;cases h:c.nd.find s with
 | none=>simp
 | some j=>have:=(zgO h).2.1;simp;omega
theorem zb3 {op:Nat}{x:Int}(h:BdK (K.add op x)):BdK K:=by unfold BdK Cd.add at h;simp at h;exact⟨by omega,h.2⟩
theorem zb4 {l:List (Nat×Int)}(h:BdK (K.adds l)):BdK K:=by unfold BdK Cd.adds at h;simp at h;exact⟨by omega,h.2⟩
theorem zi7 {bod:Sc->Nat->Cd->Cd}(hb:∀d b K,BdK (bod d b K)->BdK K){fu:Nat}(s:Cd×List Lt)(t:Tm)(k:Nat×Nat)(h:BdW (zal bod c base fu s t k)):BdW s:=by
 unfold zal at h;split at h
 . exact⟨zb3 h.1,h.2⟩
 split at h
 . exact⟨zb3 h.1,h.2⟩
 split at h
 . exact h
 split at h
 . exact⟨zb3 h.1,h.2⟩
 split at h
 . have h1:=zb3 h.1;refine⟨⟨h1.1,?_⟩,?_⟩
   . have:=h1.2;unfold Cd.cell at this;simp at this;omega
   have:=h.2;simp at this;omega
 split at h
 . refine⟨?_,h.2⟩;have h1:=h.1;unfold zeb at h1;split at h1
   . exact h1
   exact zb4 (zb4 (hb _ _ _ (zb4 h1)))
 exact⟨zb3 h.1,h.2⟩
theorem zlB {B wb kb qb cb:Nat}{ev nv lv:Xv}(bod:Sc->Nat->Cd->Cd)(fu:Nat)(hN21:21<=N)(hbase:base<=100000)(t:Tm)(HWf:Wf t)(v:Xv)(k:Nat×Nat)(s:Cd×List Lt)(w:Xw)(HT:TT w N t v)(H:WL N B wb kb qb cb base c ev nv lv s.1 s.2 w)(Hop:zbt w)(_hbd:BdW (zal bod c base fu s t k))(hbs:BdW s)
 (Hcal:t.k=4->∀W,WL N B wb kb qb cb base c ev nv lv s.1 s.2 W->TT W N t v->zbt W->xK 150 #[xP wb,xP qb,v,ckW k] W (λe w'=>e=.returned (.tuple #[])/\(∃lv',WL N B wb kb qb cb base c ev nv lv' (zeb bod c base fu s.1 t k) s.2 w')/\FT (CT kb qb) W w')) :
 xK 120 #[xP wb,xP qb,v,ckW k] w (λe w'=>e=.returned (.tuple #[])/\(∃lv',WL N B wb kb qb cb base c ev nv lv' (zal bod c base fu s t k).1 (zal bod c base fu s t k).2 w')/\FT (CT kb qb) w w'):=by
 obtain⟨xe,cpe,nb,rfl,rfl,hnb⟩:=H.wi.qi.sc.shape;have hfew:c.nd.vars.length<=16:=by obtain⟨_,_,_,_,_,hnt⟩:=H.wi.qi.sc.nd;exact hnt.few
 have hidx:=zmN c t.s;obtain⟨b,args,vs,rfl,hb,HBk,_⟩:=HT.ptr;have HX:=za (CX.new H (.cells #[xI (k.1:Nat),xI (k.2:Nat)] 161));have hbs1:s.1.row.length<=1000000:=hbs.1.1;have hbs2:s.1.cells.length<=1000000:=hbs.1.2;have hbs3:s.2.length<=1000000:=hbs.2;have hNw:=H.wi.qi.hN;obtain⟨Sf,HSf⟩:∃Sf,zal bod c base fu s t k=Sf:=⟨_,rfl⟩;rw[HSf];unfold ckW;go_enter func120,ntmps120;go_upto_region 1 with fail;refine zn (λW=>CX N B wb kb qb cb base c (xE xe c cpe) (xP nb) w w.heap.size (.cells #[xI (k.1:Nat),xI (k.2:Nat)] 161) lv s.1 s.2 W) HX.o ?_;intro W hX;have hO:=hX.old H;obtain⟨m0,m1,m2,m3,m4,m5,mf,mz⟩:=zt ((hO b hb).trans HBk);obtain⟨z0,z1,zf,zz⟩:=zp hX.bx;have HTW:=za (HT.old hO);have HopW:=za (Hop.old hO hN21);have HX:=za hX;by_cases hk:t.k=0
 . have HE:Hid (zal bod c base fu s t k=(s.1.add 0 (zav t),s.2)):=by unfold Hid zal;rw[zM2 (by omega)]
   have m0':W.cell? (xD b 0)=some (xI 0):=(by rw[m0,hk];rfl)
   go_wp2_with (first
    | (go_at_call 29;refine (HX.o.add 0 (zav t) hbs1).mono ?_;rintro e w3 ⟨rfl,hX3⟩;have HX3:=za hX3)
    | (go_at_call 148;refine (zdp t HWf _ _ HTW.o).mono ?_;rintro e w2 ⟨rfl,rfl⟩))
   first|go_end0|refine zWR (results_none rfl _ _ _) rfl ?_
   rw[<- HSf,HE.o];exact⟨rfl,⟨_,HX3.o.wl⟩,HX3.o.ft⟩
 have h0:=hk;by_cases hk:t.k=1
 . have HE:Hid (zal bod c base fu s t k=(s.1.add 0 (zav t),s.2)):=by unfold Hid zal;rw[zM2 (by omega)]
   have m0':W.cell? (xD b 0)=some (xI 1):=(by rw[m0,hk];rfl)
   go_wp2_with (first
    | (go_at_call 29;refine (HX.o.add 0 (zav t) hbs1).mono ?_;rintro e w3 ⟨rfl,hX3⟩;have HX3:=za hX3)
    | (go_at_call 148;refine (zdp t HWf _ _ HTW.o).mono ?_;rintro e w2 ⟨rfl,rfl⟩))
   first|go_end0|refine zWR (results_none rfl _ _ _) rfl ?_
   rw[<- HSf,HE.o];exact⟨rfl,⟨_,HX3.o.wl⟩,HX3.o.ft⟩
 have h1:=hk;by_cases hk:t.k=2
 . have HE:Hid (zal bod c base fu s t k=(s.1.add 0 (zav t),s.2)):=by unfold Hid zal;rw[zM2 (by omega)]
   have m0':W.cell? (xD b 0)=some (xI 2):=(by rw[m0,hk];rfl)
   go_wp2_with (first
    | (go_at_call 29;refine (HX.o.add 0 (zav t) hbs1).mono ?_;rintro e w3 ⟨rfl,hX3⟩;have HX3:=za hX3)
    | (go_at_call 148;refine (zdp t HWf _ _ HTW.o).mono ?_;rintro e w2 ⟨rfl,rfl⟩))
   first|go_end0|refine zWR (results_none rfl _ _ _) rfl ?_
   rw[<- HSf,HE.o];exact⟨rfl,⟨_,HX3.o.wl⟩,HX3.o.ft⟩
 have h2:=hk;by_cases hk:t.k=3
 . have HE:Hid (zal bod c base fu s t k=(s.1.add 1 ((base+c.idx t.s:Nat):Int),s.2)):=by unfold Hid zal;rw[zM1 (by omega),zM2 hk]
   have m0':W.cell? (xD b 0)=some (xI 3):=(by rw[m0,hk];rfl)
   go_wp2_with (first
    | (go_at_call 29;refine (HX1.o.add 1 ((base+c.idx t.s:Nat):Int) hbs1).mono ?_;rintro e w3 ⟨rfl,hX3⟩;have HX3:=za hX3)
    | (go_at_call 67;refine (zfz t.s (t.nm:Int) _ HX.o.wl.wi.qi (by omega) (by omega)).mono ?_;rintro e w2 ⟨rfl,hB2⟩;have HX1:=za (HX.o.keep hB2)))
   first|go_end0|refine zWR (results_none rfl _ _ _) rfl ?_
   rw[<- HSf,HE.o];exact⟨rfl,⟨_,HX3.o.wl⟩,HX3.o.ft⟩
 have h3:=hk;by_cases hk:t.k=6
 . have HE:Hid (zal bod c base fu s t k=(s.1.add 6 ((base+c.idx t.s:Nat):Int),s.2)):=by unfold Hid zal;rw[zM1 (by omega),zM1 (by omega),zM1 (by omega),zM2 hk]
   have m0':W.cell? (xD b 0)=some (xI 6):=(by rw[m0,hk];rfl)
   go_wp2_with (first
    | (go_at_call 29;refine (HX1.o.add 6 ((base+c.idx t.s:Nat):Int) hbs1).mono ?_;rintro e w3 ⟨rfl,hX3⟩;have HX3:=za hX3)
    | (go_at_call 67;refine (zfz t.s (t.nm:Int) _ HX.o.wl.wi.qi (by omega) (by omega)).mono ?_;rintro e w2 ⟨rfl,hB2⟩;have HX1:=za (HX.o.keep hB2)))
   first|go_end0|refine zWR (results_none rfl _ _ _) rfl ?_
   rw[<- HSf,HE.o];exact⟨rfl,⟨_,HX3.o.wl⟩,HX3.o.ft⟩
 have h6:=hk;by_cases hk:t.k=7
 . have HE:Hid (zal bod c base fu s t k=s):=by unfold Hid zal;rw[zM1 (by omega),zM1 (by omega),zM2 (by omega)]
   have m0':W.cell? (xD b 0)=some (xI 7):=(by rw[m0,hk];rfl);go_wp2_with fail;first|go_end0|refine zWR (results_none rfl _ _ _) rfl ?_
   rw[<- HSf,HE.o];exact⟨rfl,⟨_,HX.o.wl⟩,HX.o.ft⟩
 have h7:=hk;by_cases hk:t.k=8
 . have HE:Hid (zal bod c base fu s t k=s):=by unfold Hid zal;rw[zM1 (by omega),zM1 (by omega),zM2 (by omega)]
   have m0':W.cell? (xD b 0)=some (xI 8):=(by rw[m0,hk];rfl);go_wp2_with fail;first|go_end0|refine zWR (results_none rfl _ _ _) rfl ?_
   rw[<- HSf,HE.o];exact⟨rfl,⟨_,HX.o.wl⟩,HX.o.ft⟩
 have h8:=hk;by_cases hk:t.k=9
 . have har:=HWf.ar;rw[hk] at har;obtain⟨a0,a1,hts⟩:∃a0 a1,t.ts=[a0,a1]:=by
    rcases hx:t.ts with _|⟨a0,_|⟨a1,_|⟨a2,l⟩⟩⟩
    . rw[hx] at har;simp[arB] at har
    . rw[hx] at har;simp[arB] at har
    . exact⟨a0,a1,rfl⟩
    rw[hx] at har;simp[arB] at har
   have HE:Hid (zal bod c base fu s t k=((s.1.cell (zav a0)).add 3 s.1.cells.length,s.2++[⟨s.1.cells.length,a1,k⟩])):=(by unfold Hid zal;rw[zM1 (by omega),zM1 (by omega),zM1 (by omega),zM1 (by omega),zM2 hk,hts,zhD]);have HRe:=za (zhK t a0 a1 hts HWf (xP b) k s.1 s.2 W HTW.o HX.o.wl hbs1 hbs2 hbs3);unfold ckW at HRe;have m0':W.cell? (xD b 0)=some (xI 9):=(by rw[m0,hk];rfl);go_wp2_with (go_at_call 149;refine HRe.o.mono ?_;rintro e w3 ⟨rfl,⟨lv3,hL3⟩,hF3⟩;have HX3:=za (HX.o.stepL hL3 hF3));first|go_end0|refine zWR (results_none rfl _ _ _) rfl ?_
   rw[<- HSf,HE.o];exact⟨rfl,⟨_,HX3.o.wl⟩,HX3.o.ft⟩
 have h9:=hk;by_cases hk:t.k=4
 . have HE:Hid (zal bod c base fu s t k=(zeb bod c base fu s.1 t k,s.2)):=by unfold Hid zal;rw[zM1 (by omega),zM1 (by omega),zM1 (by omega),zM1 (by omega),zM1 (by omega),zM2 hk]
   have HCa:=za (Hcal hk W HX.o.wl HTW.o HopW.o);unfold ckW at HCa;have m0':W.cell? (xD b 0)=some (xI 4):=(by rw[m0,hk];rfl);go_wp2_with (go_at_call 150;refine HCa.o.mono ?_;rintro e w3 ⟨rfl,⟨lv3,hL3⟩,hF3⟩;have HX3:=za (HX.o.stepL hL3 hF3));first|go_end0|refine zWR (results_none rfl _ _ _) rfl ?_
   rw[<- HSf,HE.o];exact⟨rfl,⟨_,HX3.o.wl⟩,HX3.o.ft⟩
 have h4:=hk;have HE:Hid (zal bod c base fu s t k=(s.1.add (zlY t.k) 0,s.2)):=by unfold Hid zal;rw[zM1 (by omega),zM1 (by omega),zM1 (by omega),zM1 (by omega),zM1 (by omega),zM1 (by omega)]
 have h23:t.k<=23:=by
  have har:=HWf.ar;unfold arB at har;rcases Nat.lt_or_ge 23 t.k with H|H
  . rw[zM1 (by omega),zM1 (by omega),zM1 (by omega),zM1 (by omega),zM1 (by omega),zM1 (by omega),zM1 (by omega),zM1 (by omega)] at har;cases har
  exact H
 have ho:=HopW.o t.k (by omega) h23;have g0:¬(t.k:Int)=0:=by omega
 have g1:¬(t.k:Int)=1:=by omega
 have g2:¬(t.k:Int)=2:=by omega
 have g3:¬(t.k:Int)=3:=by omega
 have g4:¬(t.k:Int)=4:=by omega
 have g6:¬(t.k:Int)=6:=by omega
 have g7:¬(t.k:Int)=7:=by omega
 have g8:¬(t.k:Int)=8:=by omega
 have g9:¬(t.k:Int)=9:=by omega
 have i0:(0:Int)<=(t.k:Int):=by omega
 have i1:(t.k:Int)<24:=by omega
 go_wp2_with (go_at_call 29;refine (HX.o.add (zlY t.k) 0 hbs1).mono ?_;rintro e w3 ⟨rfl,hX3⟩;have HX3:=za hX3);first|go_end0|refine zWR (results_none rfl _ _ _) rfl ?_
 rw[<- HSf,HE.o];exact⟨rfl,⟨_,HX3.o.wl⟩,HX3.o.ft⟩
end
section
open Go.RowKit
variable {s:Cd×List Lt} {B N base cb kb qb wb z:Nat} {c:Sc} {ev nv:Xv} {W W':Xw}
attribute [local go_sem ↓] Go.wp_at_zero Go.wp_at_succ
def zlS (N B wb kb qb cb base:Nat)(c:Sc)(ev nv:Xv)(bod:Sc->Nat->Cd->Cd)(fu:Nat)(Pt:Tm->Nat×Nat->Prop):Prop :=
 ∀t k,Pt t k->t.k=4->∀(s:Cd×List Lt) lv W v,WL N B wb kb qb cb base c ev nv lv s.1 s.2 W->TT W N t v->zbt W->BdW (zal bod c base fu s t k) ->
  xK 150 #[xP wb,xP qb,v,ckW k] W (λe w'=>e=.returned (.tuple #[])/\(∃lv',WL N B wb kb qb cb base c ev nv lv' (zeb bod c base fu s.1 t k) s.2 w')/\FT (CT kb qb) W w')
structure VlI (N B wb kb qb cb base:Nat) (c:Sc) (ev nv:Xv) (z:Nat) (s:Cd×List Lt) (W:Xw):Prop where
 wl:∃lv,WL N B wb kb qb cb base c ev nv lv s.1 s.2 W
 ops:zbt W
 x1:W.heap[z]?=some (.cells #[xP wb] 152 (0,0))
 x2:W.heap[z+1]?=some (.cells #[xP qb] 74 (0,0))
 n1:¬CT kb qb W z
 n2:¬CT kb qb W (z+1)
theorem VlI.step {s':Cd×List Lt}(hN:21<=N)(h:VlI N B wb kb qb cb base c ev nv z s W)(hw:∃lv,WL N B wb kb qb cb base c ev nv lv s'.1 s'.2 W')(hf:FT (CT kb qb) W W'):VlI N B wb kb qb cb base c ev nv z s' W':=by obtain⟨lv,hl⟩:=h.wl;exact⟨hw,h.ops.old (hf.old hl.wi.qi.hN (λk e=>(hl.lt k e).1)) hN,(hf.fr.block _ (ze h.x1) h.n1).trans h.x1,(hf.fr.block _ (ze h.x2) h.n2).trans h.x2,hf.not (ze h.x1) h.n1,hf.not (ze h.x2) h.n2⟩
theorem VlI.keep (hN:21<=N)(h:VlI N B wb kb qb cb base c ev nv z s W)(hB:xB W W'):VlI N B wb kb qb cb base c ev nv z s W'/\∀k,CT kb qb W' k->CT kb qb W k:=by obtain⟨lv,hl⟩:=h.wl;exact⟨h.step hN ⟨lv,hl.keep hB⟩ (FT.below hB (hl.tk hB)),hl.tk hB⟩
theorem zrn:zH 118:=λ_ _=>by kernel_rfl
theorem zrr:zH 119:=λ_ _=>by kernel_rfl
theorem zq5 (t:Tm)(v:Xv)(k:Nat×Nat)(w:Xw)(hT:TT w N t v) :
 xK 118 #[v,ckW k] w (λe w'=>e=.returned (.bool (zak t))/\xB w w'):=by
 obtain⟨b,args,vs,rfl,hb,hblk,_⟩:=hT.ptr;obtain⟨m0,m1,m2,m3,m4,m5,mf,mz⟩:=zt hblk;clear hT hblk m1 m2 m3 m4 m5;unfold ckW;by_cases h9:t.k=9
 . have HG:Hid (zak t=false):=by unfold Hid zak;simp[h9]
   have m0':w.cell? (xD b 0)=some (xI 9):=(by rw[m0,h9];rfl);clear h9 m0;go_enter func118,ntmps118;go_wp2_with fail;go_ret;rw[HG.o];exact⟨rfl,zq w _⟩
 have HG:Hid (zak t=true):=by unfold Hid zak;simp[h9]
 have h9':¬(t.k:Int)=9:=by omega
 clear h9;go_enter func118,ntmps118;go_wp2_with fail;go_ret;rw[HG.o];exact⟨by simp[h9'],zq w _⟩
theorem zq1 (bod:Sc->Nat->Cd->Cd)(fu:Nat)(hN21:21<=N)(hbase:base<=100000)(t:Tm)(hWf:Wf t)(v:Xv)(k:Nat×Nat)(s:Cd×List Lt)(w:Xw)(hT:TT w N t v)(h:VlI N B wb kb qb cb base c ev nv z s w)(hbd:BdW (zal bod c base fu s t k))(hbs:BdW s)
 (hcal:t.k=4->∀lv W,WL N B wb kb qb cb base c ev nv lv s.1 s.2 W->TT W N t v->zbt W->xK 150 #[xP wb,xP qb,v,ckW k] W (λe w'=>e=.returned (.tuple #[])/\(∃lv',WL N B wb kb qb cb base c ev nv lv' (zeb bod c base fu s.1 t k) s.2 w')/\FT (CT kb qb) W w')) :
 xK 119 #[v,ckW k,xP z,xP (z+1)] w (λe w'=>e=.returned (.tuple #[])/\VlI N B wb kb qb cb base c ev nv z (zal bod c base fu s t k) w'/\FT (CT kb qb) w w'):=by
 have HV:=(λo=>(h.keep hN21 (zq w o)).1);obtain⟨lv,hl⟩:=h.wl;have HF:=(λo=>zlB bod fu hN21 hbase t hWf v k s (w.alloc o) (hT.old (zeW hl.wi.qi.hN o)) (hl.keep (zq w o)) (h.keep hN21 (zq w o)).1.ops hbd hbs (λh4 W h1 h2 h3=>hcal h4 lv W h1 h2 h3));have HT0:=(λo=>FT.below (zq w o) (hl.tk (zq w o)));obtain⟨x0,xf,xz⟩:=zu h.x1;obtain⟨y0,yf,yz⟩:=zu h.x2;obtain⟨b,args,vs,rfl,hb,hblk,_⟩:=hT.ptr;obtain⟨Sf,hSf⟩:∃Sf,zal bod c base fu s t k=Sf:=⟨_,rfl⟩;rw[hSf] at HF ⊢;unfold ckW at HF ⊢;clear h hl hT hblk hcal hSf hbd hbs hWf;go_enter func119,ntmps119;go_wp2_with (go_at_call 120;refine (HF _).mono ?_;rintro e w2 ⟨rfl,hL2,hF2⟩;have HL2:=hL2;have HF2:=hF2;clear hL2 hF2);first|go_end0|refine zWR (results_none rfl _ _ _) rfl ?_
 exact⟨rfl,(HV _).step hN21 HL2 HF2,(HT0 _).trans HF2⟩
theorem zpd (bod:Sc->Nat->Cd->Cd)(fu:Nat)(Pt:Tm->Nat×Nat->Prop)(hN21:21<=N)(hbase:base<=100000)
 (hPw:∀t k,Pt t k->Wf t) (hPs:∀t k i u,Pt t k->zak t=true->t.ts[i]?=some u->Pt u (c.operand t i k)) (hbod:∀d b K,BdK (bod d b K)->BdK K) (hC:zlS N B wb kb qb cb base c ev nv bod fu Pt) :
 znz N c ev nv cb (CT kb qb) 118 #[] 119 #[xP z,xP (z+1)] Pt (λt _=>zak t) (λs _ _=>s) (zal bod c base fu) (VlI N B wb kb qb cb base c ev nv z) BdW where
 entE:=zrn
 entL:=zrr
 hT:=λs w k hI e=>by obtain⟨lv,hl⟩:=hI.wl;exact hl.lt k e
 keep:=λs w w' h hB=>h.keep hN21 hB
 sub:=hPs
 bE:=λ_ _ _ h=>h
 bL:=λs t k h=>zi7 hbod s t k h
 callE:=λt v k s w hT hN hS hCk hI hP _=>by refine (zq5 t v k w hT).mono ?_;rintro e w' ⟨h1,h2⟩;obtain⟨lv,hl⟩:=hI.wl;exact⟨h1,(hI.keep hN21 h2).1,FT.below h2 (hl.tk h2)⟩
 callL:=λt v k s w hT hN hS hCk hI hP hb=>zq1 bod fu hN21 hbase t (hPw t k hP) v k s w hT hI hb (zi7 hbod s t k hb) (λh4 lv W h1 h2 h3=>hC t k hP h4 s lv W v h1 h2 h3 hb)
def zbk (bod:Sc->Nat->Cd->Cd)(c:Sc)(base fu:Nat)(s:Cd×List Lt)(t:Tm)(k:Nat×Nat):Cd×List Lt:=zcs c (λt _=>zak t) (λs _ _=>s) (zal bod c base fu) t k s
theorem zir {lv:Xv}(bod:Sc->Nat->Cd->Cd)(fu:Nat)(Pt:Tm->Nat×Nat->Prop)(hN21:21<=N)(hbase:base<=100000)
 (hPw:∀t k,Pt t k->Wf t) (hPs:∀t k i u,Pt t k->zak t=true->t.ts[i]?=some u->Pt u (c.operand t i k)) (hbod:∀d b K,BdK (bod d b K)->BdK K) (hC:zlS N B wb kb qb cb base c ev nv bod fu Pt)
 (t:Tm) (v:Xv) (k:Nat×Nat) (s:Cd×List Lt) (w:Xw) (HT:TT w N t v) (h:WL N B wb kb qb cb base c ev nv lv s.1 s.2 w) (hop:zbt w) (hP:Pt t k) (hbd:BdW (zbk bod c base fu s t k)) :
 xK 63 #[xP wb,xP qb,v,ckW k] w (λe w'=>e=.returned (.tuple #[])/\(∃lv',WL N B wb kb qb cb base c ev nv lv' (zbk bod c base fu s t k).1 (zbk bod c base fu s t k).2 w')/\FT (CT kb qb) w w'):=by
 obtain⟨xe,cpe,nb,rfl,rfl,hnb⟩:=h.wi.qi.sc.shape;obtain⟨b,args,vs,rfl,hb,hblk,_⟩:=HT.ptr;have hmf:∀(fn:Go.Fn) (first cap:Xa) (w:Xw),(Instr.makeFunc fn first cap).run prog w=.ok (.func fn first cap) w:=λ_ _ _ _=>rfl;have H:=h;have Hop:=hop;have HV:=zpd (z:=w.heap.size) bod fu Pt hN21 hbase hPw hPs hbod hC;have HP:=hP;have Hbd:=hbd;have hNw:=h.wi.qi.hN;obtain⟨Sf,HSf⟩:∃Sf,zbk bod c base fu s t k=Sf:=⟨_,rfl⟩;rw[HSf];clear h hop hblk hC hPw hPs hbod hP hbd;unfold ckW;go_enter func63,ntmps63;go_upto_region 3 with fail;refine zn (λW=>VlI N B wb kb qb cb base c (xE xe c cpe) (xP nb) w.heap.size s W/\xH W (w.heap.size+1+1) #[xI (k.1:Nat),xI (k.2:Nat)] 161/\¬CT kb qb W (w.heap.size+1+1)/\FT (CT kb qb) w W) ⟨⟨⟨lv,H.keep (zcz w _ _ _)⟩,Hop.old (zot hNw _ _ _) hN21,(al3 w _ _ _).1,(al3 w _ _ _).2.1,λe=>by have:=(H.lt _ (H.tk (zcz w _ _ _) _ e)).2.1;omega,λe=>by have:=(H.lt _ (H.tk (zcz w _ _ _) _ e)).2.1;omega⟩,(al3 w _ _ _).2.2,λe=>by have:=(H.lt _ (H.tk (zcz w _ _ _) _ e)).2.1;omega,FT.below (zcz w _ _ _) (H.tk (zcz w _ _ _))⟩ ?_;rintro W ⟨hV,hX,hnX,HFW⟩;obtain⟨y0,yf,yz⟩:=zu hV.x2;obtain⟨z0,z1,zf,zz⟩:=zp hX;obtain⟨lv1,hl⟩:=hV.wl;obtain⟨m0,m1,m2,m3,m4,mf,mz⟩:=zcf hl.wi.qi.blk;have hO:Old N w W:=HFW.old hNw (λk e=>(H.lt k e).1);have HW:=zjG HV t k (xP b) s W.drew ((HT.old hO).old (λ_ _=>rfl)) hl.wi.qi.hN (hl.wi.qi.sc.old (λ_ _=>rfl)) (hl.wi.qi.ck.of' (w':=W.drew) rfl) (hV.keep hN21 (zo (zWQ _ _))).1 HP Hbd;unfold ckW at HW;have n2:=hV.n2;clear hV hX hl hO m3 m4 HV
 go_region_held3 (λw'=>w'.cell? (xD (w.heap.size+1) 0)=some (xP qb)/\w'.cell? (xD (w.heap.size+1+1) 0)=some (xI (k.1:Nat))/\w'.cell? (xD (w.heap.size+1+1) 1)=some (xI (k.2:Nat))/\w'.cell? (xD qb 0)=some (xE xe c cpe)/\w'.cell? (xD qb 1)=some (xP nb)/\w'.cell? (xD qb 2)=some (.map (some cb)))
  (first|(with_reducible (refine⟨?_,?_,?_,?_,?_,?_⟩ <;> repeat (first|assumption|refine zg ?_|refine FT.cell HF2 ?_ (by assumption))))|go_keep)
  (first
    | (go_at_call 103;refine HW.mono ?_;rintro e w2 ⟨rfl,hV2,hF2⟩;obtain⟨lv9,hl9⟩:=hV2.wl;obtain⟨r0,r1,r2,r3,r4,rf,rz⟩:=zcf hl9.wi.qi.blk;have HV2:=hV2;have HF2:(FT (CT kb qb) W w2):=⟨hF2.fr.undrew,hF2.tk⟩;clear hV2 hF2 hl9))
 all_goals go_wp2_with fail
 all_goals first|go_end0|refine zWR (results_none rfl _ _ _) rfl ?_
 all_goals rw[<- HSf]
 all_goals exact⟨rfl,HV2.wl,HFW.trans HF2⟩
end
section
open Go.RowKit
variable {L:List (Nat×Nat)} {b:Nat} {w w':Xw}
attribute [local go_sem ↓] Go.wp_at_zero Go.wp_at_succ
def za8 (w:Xw)(b:Nat)(L:List (Nat×Nat)):Prop :=
 ∃l:List ((Int×Int)×Value),zbn w b pr l/\(∀p:Nat×Nat,(zaT (clk p) l).isSome=true↔p∈L)/\(∀k v,zaT k l=some v->v=.agg #[])
theorem za8.of' (h:za8 w b L)(hb:w'.heap[b]?=w.heap[b]?):za8 w' b L:=by obtain⟨l,h1,h2,h3⟩:=h;exact⟨l,h1.of hb,h2,h3⟩
theorem za8.lt (h:za8 w b L):b<w.heap.size:=by obtain⟨l,h1,_⟩:=h;exact h1.lt
theorem za8.keep (h:za8 w b L)(hB:xB w w'):za8 w' b L:=h.of' (hB.block _ h.lt)
theorem zpI {p q:Nat×Nat}(h:clk p=clk q):p=q:=by simp only[clk,Prod.mk.injEq] at h;exact Prod.ext (by omega) (by omega)
theorem zqM (h:za8 w b L)(p:Nat×Nat) :
 ∃w',(Instr.mapUpdate 211 (.map (some b)) (.agg #[xI (p.1:Nat),xI (p.2:Nat)]) (.agg #[])).run prog w=.ok () w'/\za8 w' b (L++[p])/\Fr (·=b) w w':=by
 obtain⟨l,h1,h2,h3⟩:=h;obtain⟨w',r,m,f⟩:=zgh Tryz.keyLink underlying211 h1 (clk p) (.agg #[]);refine⟨w',r,⟨_,m,λq=>?_,λk v hk=>?_⟩,f⟩
 . rw[zgD,zMY];by_cases e:clk p=clk q
   . rw[zM2 e];simp[zpI e]
   rw[zM1 e,h2 q];refine⟨zM3,λh=>h.resolve_right (λh=>e ?_)⟩;rw[zMZ.1 h]
 rw[zgD] at hk;split at hk
 . exact (Option.some.inj hk).symm
 exact h3 k v hk
theorem Tryz.zeroUnit (w:Xw):(zeroValue 253).run prog w=.ok (.agg #[]) w:=by kernel_rfl
theorem zqm (h:za8 w b L)(p:Nat×Nat) :
 (Instr.lookup 211 (.map (some b)) (.agg #[xI (p.1:Nat),xI (p.2:Nat)]) true).run prog w=.ok (.tuple #[.agg #[],.bool (decide (p∈L))]) w:=by
 obtain⟨l,h1,h2,h3⟩:=h;refine (zgI Tryz.keyLink underlying211 Tryz.zeroUnit h1 (clk p) true).trans ?_;rw[zM2 rfl];have e1:(zaT (clk p) l).getD (.agg #[])=.agg #[]:=by
  cases hl:zaT (clk p) l with
  | none=>rfl
  | some v=>exact h3 _ _ hl
 have e2:(zaT (clk p) l).isSome=decide (p∈L):=by rw[Bool.eq_iff_iff,h2 p];simp
 rw[e1,e2]
theorem zhH (i j:Nat)(w:Xw)(h:za8 w b L) :
 xK 145 #[.map (some b),xI (i:Int),xI (j:Int)] w (λe w'=>e=.returned (.tuple #[])/\za8 w' b (L++[(i,j)])/\Fr (·=b) w w'):=by
 obtain⟨w1,hr,HL,HF⟩:=zqM h (i,j);simp only at hr;go_enter func145,ntmps145;go_wp2_with fail;first|go_end0|refine zWR (results_none rfl _ _ _) rfl ?_
 exact⟨rfl,HL,HF⟩
theorem ze9 (i j:Nat)(w:Xw)(h:za8 w b L) :
 xK 108 #[.map (some b),xI (i:Int),xI (j:Int)] w (λe w'=>e=.returned (.bool (decide ((i,j)∈L)))/\xB w w'):=by
 have hr:=zqm h (i,j);simp only at hr;go_enter func108,ntmps108;go_wp2_with fail;go_ret;exact⟨rfl,zq w _⟩
theorem zj6 (by' fr n m:Nat)(L:List (Nat×Nat)):zcA by' fr n (m+1) L=zcA by' fr n m (if (fr,by')∈L/\(by',n-(m+1))∈L then L++[(fr,n-(m+1))] else L):=rfl
theorem ziu (by' n m:Nat)(L:List (Nat×Nat)):zbJ by' n (m+1) L=zbJ by' n m (zcA by' (n-(m+1)) n n L):=rfl
theorem zj5 (n m:Nat)(L:List (Nat×Nat)):zeD n (m+1) L=zeD n m (zbJ (n-(m+1)) n n L):=rfl
theorem zgi {w1:Xw}(h:xB w w1):Fr (·=b) w w1:=Fr.of_below h
theorem zk8 (n:Nat)(hn:n<=1000)(w:Xw)(HL:za8 w b L) :
 xK 107 #[.map (some b),xI (n:Int)] w (λe w'=>e=.returned (.tuple #[])/\za8 w' b (zdT n L)/\Fr (·=b) w w'):=by
 go_enter func107,ntmps107;go_wp2_with fail;go_loopg [8] (n+1) (λj i wr=>∃(k:Nat) (L1:List (Nat×Nat)),k+j=n+1/\k<=n/\i=xI k/\Hid (za8 wr b L1)/\Hid (zdT n L=zeD n (j-1) L1)/\Hid (Fr (·=b) w wr));case atStart=>exact⟨0,L,by omega,zMN _,rfl,HL,rfl,Fr.refl _ _⟩
 case round =>
  obtain⟨k,L1,hkj,hk,rfl,HL1,HD1,HF1⟩:=hrel;by_cases hlt:k<n
  . obtain⟨w1,rfl⟩:∃wo,wo=wr:=⟨_,rfl⟩;obtain⟨g1,rfl⟩:∃g,g=gk:=⟨_,rfl⟩;go_wp2_with fail;go_loopg [12] (n+1) (λj i wr=>∃(k2:Nat) (L2:List (Nat×Nat)),k2+j=n+1/\k2<=n/\i=xI k2/\Hid (za8 wr b L2)/\Hid (zbJ k n n L1=zbJ k n (j-1) L2)/\Hid (Fr (·=b) w wr));case atStart=>exact⟨0,L1,by omega,zMN _,rfl,HL1.o,rfl,HF1.o⟩
    case round =>
     obtain⟨k2,L2,hkj2,hk2,rfl,HL2,HD2,HF2⟩:=hrel;by_cases hlt2:k2<n
     . obtain⟨w2,rfl⟩:∃wo,wo=wr:=⟨_,rfl⟩;obtain⟨g2,rfl⟩:∃g,g=gk:=⟨_,rfl⟩;go_wp2_with fail;go_loopg [16] (n+1) (λj i wr=>∃(k3:Nat) (L3:List (Nat×Nat)),k3+j=n+1/\k3<=n/\i=xI k3/\Hid (za8 wr b L3)/\Hid (zcA k k2 n n L2=zcA k k2 n (j-1) L3)/\Hid (Fr (·=b) w wr));case atStart=>exact⟨0,L2,by omega,zMN _,rfl,HL2.o,rfl,HF2.o⟩
       case round =>
        obtain⟨k3,L3,hkj3,hk3,rfl,HL3,HD3,HF3⟩:=hrel;by_cases hlt3:k3<n
        . obtain⟨m,rfl⟩:∃m,gk=m+1+1:=⟨gk-1-1,by omega⟩;have hE:=HD3.o;rw[show m+1+1-1=m+1 from rfl,zj6,show n-(m+1)=k3 by omega] at hE;have HE:=za hE;have HH:=za (ze9 k2 k wr HL3.o);by_cases h1:(k2,k)∈L3
          . rw[decide_eq_true h1] at HH;by_cases h2:(k,k3)∈L3
            . rw[zM2 ⟨h1,h2⟩] at HE;have H2:=za (λW (hB:xB wr W)=>ze9 k k3 W (HL3.o.keep hB));rw[decide_eq_true h2] at H2
              go_wp2_with (first
               | (go_at_call 145;refine HA.o.mono ?_;rintro e w5 ⟨rfl,HL5,HF5⟩)
               | (go_at_call 108;refine (H2.o _ HB3).mono ?_;rintro e w4 ⟨rfl,hB4⟩;have HB4:=za (HB3.trans (hB4.mono HB3.size));have HA:=za (zhH k2 k3 w4 (HL3.o.keep HB4.o)))
               | (go_at_call 108;refine HH.o.mono ?_;rintro e w3 ⟨rfl,HB3⟩))
              go_roundg (m+1);case measure=>omega
              exact⟨k3+1,L3++[(k2,k3)],by omega,by omega,by go_num,HL5,HE.o,(HF3.o.trans (zgi HB4.o)).trans HF5⟩
            rw[zM1 (λe=>h2 e.2)] at HE;have H2:=za (λW (hB:xB wr W)=>ze9 k k3 W (HL3.o.keep hB));rw[decide_eq_false h2] at H2
            go_wp2_with (first
             | (go_at_call 108;refine (H2.o _ HB3).mono ?_;rintro e w4 ⟨rfl,hB4⟩;have HB4:=za (HB3.trans (hB4.mono HB3.size)))
             | (go_at_call 108;refine HH.o.mono ?_;rintro e w3 ⟨rfl,HB3⟩))
            go_roundg (m+1);case measure=>omega
            exact⟨k3+1,L3,by omega,by omega,by go_num,HL3.o.keep HB4.o,HE.o,HF3.o.trans (zgi HB4.o)⟩
          rw[zM1 (λe=>h1 e.1)] at HE;rw[decide_eq_false h1] at HH;go_wp2_with (go_at_call 108;refine HH.o.mono ?_;rintro e w3 ⟨rfl,HB3⟩);go_roundg (m+1);case measure=>omega
          exact⟨k3+1,L3,by omega,by omega,by go_num,HL3.o.keep HB3,HE.o,HF3.o.trans (zgi HB3)⟩
        have:k3=n:=by omega
        subst this;have:gk=1:=by omega
        subst this;have HE:Hid (zcA k k2 k3 k3 L2=L3):=HD3.o;go_wp2_with fail;go_roundg (g2-1);case measure=>omega
        refine⟨k2+1,L3,by omega,by omega,by go_num,HL3.o,?_,HF3.o⟩;have a:=HD2.o;rw[show g2-1=(g2-1-1)+1 by omega,ziu,show k3-(g2-1-1+1)=k2 by omega,HE.o] at a;exact a
     have:k2=n:=by omega
     subst this;have:gk=1:=by omega
     subst this;have HE:Hid (zbJ k k2 k2 L1=L2):=HD2.o;go_wp2_with fail;go_roundg (g1-1);case measure=>omega
     refine⟨k+1,L2,by omega,by omega,by go_num,HL2.o,?_,HF2.o⟩;have a:=HD1.o;rw[show g1-1=(g1-1-1)+1 by omega,zj5,show k2-(g1-1-1+1)=k by omega,HE.o] at a;exact a
  have:k=n:=by omega
  subst this;have:gk=1:=by omega
  subst this;have HE:Hid (zdT k L=L1):=HD1.o;go_wp2_with fail;first|go_end0|refine zWR (results_none rfl _ _ _) rfl ?_
  exact⟨rfl,by rw[HE.o];exact HL1.o,HF1.o⟩
end
section
open Go.RowKit
variable {L:List (Nat×Nat)} {N hb i ib mb zb:Nat} {c:Sc} {ev nv:Xv} {w w':Xw}
attribute [local go_sem ↓] Go.wp_at_zero Go.wp_at_succ
structure LkI (N:Nat) (c:Sc) (ev nv:Xv) (i mb hb ib zb:Nat) (L:List (Nat×Nat)) (w:Xw):Prop where
 lk:za8 w mb L
 sc:ScV w N c ev nv
 x1:w.heap[hb]?=some (.cells #[.map (some mb)] 211 (0,0))
 x2:w.heap[ib]?=some (.cells #[xI (i:Int)] 3 (0,0))
 x3:w.heap[zb]?=some (.cells #[ev,nv] 79 (0,0))
 d1:¬hb=mb
 d2:¬ib=mb
 d3:¬zb=mb
 l:N<=mb
 hN:N<=w.heap.size
theorem LkI.keep (h:LkI N c ev nv i mb hb ib zb L w)(hB:xB w w'):LkI N c ev nv i mb hb ib zb L w' :=
 ⟨h.lk.keep hB,h.sc.old (zm hB h.hN),(hB.block _ (ze h.x1)).trans h.x1,(hB.block _ (ze h.x2)).trans h.x2,(hB.block _ (ze h.x3)).trans h.x3,h.d1,h.d2,h.d3,h.l,zMO h.hN hB.size⟩
theorem LkI.put {L':List (Nat×Nat)}(h:LkI N c ev nv i mb hb ib zb L w)(hl:za8 w' mb L')(hf:Fr (·=mb) w w'):LkI N c ev nv i mb hb ib zb L' w' :=
 ⟨hl,h.sc.old (hf.old h.hN (λ_ e=>e▸h.l)),(hf.block _ (ze h.x1) h.d1).trans h.x1,(hf.block _ (ze h.x2) h.d2).trans h.x2,(hf.block _ (ze h.x3) h.d3).trans h.x3,h.d1,h.d2,h.d3,h.l,zMO h.hN hf.size⟩
theorem zgG {m:Nat}{W:Xw}{b:Nat}{v:Xv}(h:Fr (·=m) w W)(hc:w.cell? (xD b i)=some v)(h1:¬b=m):W.cell? (xD b i)=some v:=by
 have hlt:b<w.heap.size:=by
  rcases Nat.lt_or_ge b w.heap.size with h|h
  . exact h
  simp[World.cell?,Array.getElem?_eq_none h] at hc
 exact (zWS (w:=w) (h.block b hlt h1)).trans hc
theorem zqB:zH 146:=λ_ _=>by kernel_rfl
theorem zn2 (N:Nat)(c:Sc)(ev nv:Xv)(i mb hb ib zb:Nat)(hmb:N<=mb) :
 Vis N (·=mb) 146 #[xP hb,xP ib,xP zb] (λ_ _=>True) zak (λL t=>L++zcO c i t) (LkI N c ev nv i mb hb ib zb) where
 enters:=zqB
 hT:=λk e=>e▸hmb
 keep:=λs w w' h hB=>h.keep hB
 sub:=λ_ _ _ _ _ _=>trivial
 call:=by
  intro t v L w hT hN HI _;obtain⟨xe,cpe,nb,rfl,rfl,hnb⟩:=HI.sc.shape;have HNv:=za (zf2 w hT);obtain⟨b,args,vs,rfl,hb',hblk,_⟩:=hT.ptr;obtain⟨m0,m1,m2,m3,m4,m5,mf,mz⟩:=zt hblk;obtain⟨a0,af,az⟩:=zu HI.x1;obtain⟨i0,if',iz⟩:=zu HI.x2;obtain⟨s0,s1,sf,sz⟩:=zp HI.x3;have d1:=HI.d1;have d2:=HI.d2;have d3:=HI.d3;have hbm:¬b=mb:=by omega
  have HIx:=za (zaz t.s (t.nm:Int) w.drew (HI.sc.old (λ_ _=>rfl)) hN)
  show Calls prog _ #[xP b,xP hb,xP ib,xP zb] w _;cases hnv:zaJ t.k with
  | true =>
    have h9:¬t.k=9:=(by intro e;rw[e] at hnv;cases hnv);have HT:Hid (zcO c i t=[(i,c.idx t.s)]):=(by unfold Hid zcO;rw[zM2 hnv]);have HG:Hid (zak t=true):=(by unfold Hid zak;simp[h9]);rw[hnv] at HNv;have h9':¬(t.k:Int)=9:=(by omega);go_enter func146,ntmps146;go_upto_region 2 with (go_at_call 94;refine HNv.o.mono ?_;rintro e w' ⟨rfl,rfl⟩)
    go_region_held3 (λw'=>w'.cell? (xD hb 0)=some (.map (some mb))/\w'.cell? (xD ib 0)=some (xI (i:Int))/\w'.cell? (xD zb 0)=some (xE xe c cpe)/\w'.cell? (xD zb 1)=some (xP nb)/\w'.cell? (xD b 2)=some (.string t.s)/\w'.cell? (xD b 3)=some (xI t.nm))
     (first|(with_reducible (refine⟨?_,?_,?_,?_,?_,?_⟩ <;> repeat (first|assumption|refine zg ?_|refine zgG HF2 ?_ (by omega)|refine zd HB1.o ?_ (by omega))))|go_keep)
     (first
       | (go_at_call 145;refine HA.o.mono ?_;rintro e w2 ⟨rfl,HL2,HF2⟩;have r0:=zgG HF2 (zd HB1.o m0 mz) hbm)
       | (go_at_call 65;refine HIx.o.mono ?_;rintro e w1 ⟨rfl,hB1⟩;have HB1:=za (zw hB1);have HA:=za (zhH i (c.idx t.s) w1 (HI.lk.keep HB1.o))))
    go_wp2_with fail;go_ret;rw[HT.o,HG.o];exact⟨by simp[h9'],(HI.keep HB1.o).put HL2 HF2,(zgi HB1.o).trans HF2⟩
  | false =>
    have HT:Hid (zcO c i t=[]):=(by unfold Hid zcO;rw[hnv];rfl);rw[hnv] at HNv;by_cases h9:t.k=9
    . have HG:Hid (zak t=false):=(by unfold Hid zak;simp[h9]);have m0':w.cell? (xD b 0)=some (xI 9):=(by rw[m0,h9];rfl);go_enter func146,ntmps146;go_wp2_with (go_at_call 94;refine HNv.o.mono ?_;rintro e w' ⟨rfl,rfl⟩);go_ret;rw[HT.o,HG.o,List.append_nil];exact⟨rfl,HI,Fr.refl _ _⟩
    have HG:Hid (zak t=true):=(by unfold Hid zak;simp[h9]);have h9':¬(t.k:Int)=9:=(by omega);go_enter func146,ntmps146;go_wp2_with (go_at_call 94;refine HNv.o.mono ?_;rintro e w' ⟨rfl,rfl⟩);go_ret;rw[HT.o,HG.o,List.append_nil];exact⟨by simp[h9'],HI,Fr.refl _ _⟩
theorem zib {α β:Type}(f:α->List β):∀(l:List α) (L:List β),l.foldl (λL t=>L++f t) L=L++l.flatMap f:=by
 intro l;induction l with
 | nil=>intro L;simp
 | cons a l ih=>intro L;rw[List.foldl_cons,ih,List.flatMap_cons,zMQ]
end
end Go.Proofs.YtenadialhccdiaaGreatDoor
