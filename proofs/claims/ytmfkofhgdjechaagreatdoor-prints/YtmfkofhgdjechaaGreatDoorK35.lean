/- Part 36 of the proof: ChkL ChkM ChkN. -/
import Derived.Test.YtmfkofhgdjechaaGreatDoorK34
set_option maxRecDepth 100000
set_option maxHeartbeats 8000000
namespace Go.Proofs.YtmfkofhgdjechaaGreatDoor
open Go.Proofs.Tryz
open Go.RowKit
section
attribute [local go_sem ↓] Go.wp_at_zero Go.wp_at_succ
theorem zhE (c:Sc):∀(a b:List Vr) (i:Nat),zat c (a++b) i=zat c a i++zat c b (i+a.length):=by
 intro a;induction a with
 | nil=>intro b i;rfl
 | cons v a ih=>intro b i;rw[List.cons_append,zat,zat,ih,List.length_cons,show i+1+a.length=i+(a.length+1) by omega];simp only[List.append_assoc]
theorem zgY (c:Sc):∀(a a':List ByteArray) (b b':List Nat),a.length=b.length->z7 c (a++a') (b++b')=z7 c a b++z7 c a' b':=by
 intro a;induction a with
 | nil=>intro a' b b' h;cases b with
   | nil=>rfl
   | cons _ _=>simp at h
 | cons s a ih=>intro a' b b' h;cases b with
   | nil=>simp at h
   | cons p b=>rw[List.cons_append,List.cons_append,z7,z7,ih _ _ _ (by simpa using h),List.append_assoc]
theorem zhN {c:Sc}{ns:List ByteArray}{ps:List Nat}{k:Nat}{s:ByteArray}{p:Nat}(hs:ns[k]?=some s)(hp:ps[k]?=some p):z7 c (ns.take (k+1)) (ps.take (k+1))=z7 c (ns.take k) (ps.take k)++((if (!c.has s||decide (c.idx s<c.nd.ins))=true then [p] else [])++[]):=by have h1:=(List.getElem?_eq_some_iff.1 hs).1;have h2:=(List.getElem?_eq_some_iff.1 hp).1;rw[zeq hs,zeq hp,zgY c _ _ _ _ (by simp;omega)];rfl
theorem ziZ (S:Nat->Addr)(kd lb bb sb:Nat)(nmv askv:Value)(N:Nat)(c:Sc)(h6:c.er.length<=6)(hps:∀q∈c.nd.eqs,q.ns.length=q.ps.length)(ev nv:Value)(st:Option Nat)(w:World)(hR:RpI S kd lb bb sb nmv askv st w)(h:ScV w N c ev nv)(hN:N<=w.heap.size)(l1:N<=lb)(l2:N<=bb) :
 xK 54 #[.agg #[ev,nv],zam lb bb sb] w (λe w'=>e=.returned (.tuple #[])/\RpI S kd lb bb sb nmv askv (c.namesL.foldl rep st) w'/\Fr (RT lb bb) w w'):=by
 obtain⟨xe,cpe,nb,rfl,rfl,hnb⟩:=h.shape;have hzl:=ze hR.l;have hzb:=ze hR.b;have hA0:∀o1 o2,((w.alloc o1).alloc o2).heap[w.heap.size]?=some o1/\((w.alloc o1).alloc o2).heap[w.heap.size+1]?=some o2:=λo1 o2=>al2 w o1 o2
 have hAs:zas S kd lb bb sb nmv askv N c (xE xe c cpe) (xP nb) w.heap.size (w.heap.size+1) st ((w.alloc (.cells #[xE xe c cpe,xP nb] 205)).alloc (.cells #[zam lb bb sb] 200)) :=
  ⟨hR.keep (zaD w _ _),h.old (zfr hN _ _),(hA0 _ _).1,(hA0 _ _).2,by omega,by omega,by omega,by omega,l1,l2,by simp;omega⟩
 have HAs:=za hAs;obtain⟨nb',vs,qv,xs,e9,hnt⟩:=h.nd;cases e9;obtain⟨xv,cpv,rfl⟩:=zB hnt.vown;obtain⟨xq,cpq,rfl⟩:=zB hnt.own;have HNt:=za hnt;have hfew:=hnt.few;have HPs:=za hps;have h16:c.nd.eqs.length<=9223372036854775807:=by
  rcases hnt.own.2 with ⟨_,h⟩|⟨g,cap,cur,hv,_,_,h3,h4,_⟩
  . omega
  . unfold maxLen at h4;omega
 have HTy:Hid (c.namesL.foldl rep st=((c.nd.eqs.flatMap λq=>(zaV za5 q.r).flatMap (zaL c q))).foldl rep ((c.nd.eqs.flatMap λq=>z7 c q.ns q.ps).foldl rep ((zat c c.nd.vars 0).foldl rep ((if (c.called c.nd.nm).isSome=true then [c.nd.a] else []).foldl rep st)))):=by unfold Hid Sc.namesL;rw[List.foldl_append,List.foldl_append,List.foldl_append]
 have HFr0:=za (zy (T:=RT lb bb) (zaD w (.cells #[xE xe c cpe,xP nb] 205) (.cells #[zam lb bb sb] 200)));clear hR h hA0 hAs hnt hps;unfold zam at HAs HFr0 ⊢;go_enter func54,ntmps54;go_upto_block 0 with fail;refine zn (λW=>zas S kd lb bb sb nmv askv N c (xE xe c cpe) (xP nb) w.heap.size (w.heap.size+1) st W/\Fr (RT lb bb) w W) ⟨HAs.o,HFr0.o⟩ ?_;rintro W ⟨hIW,hFW⟩;have HIW:=za hIW;have HFW:=za hFW;obtain⟨s0,s1,sf,sz⟩:=zp hIW.x1;obtain⟨p0,pf,pz⟩:=zu hIW.x2;have hOW:=hFW.old hN (λk e=>by rcases e with e|e;exact e▸l1;exact e▸l2);obtain⟨m0,m1,m2,m3,m4,m5,mf,mz⟩:=zt ((hOW nb HNt.o.lo).trans HNt.o.blk);have hNW:=hIW.hN;have hS1:=hIW.sc.old (w':=W.drew) (λ_ _=>rfl);have hS2:=λo=>hIW.sc.old (w':=(W.alloc o).drew) (zeW hNW o);clear hIW hFW hOW HAs HFr0;go_cut [5] (λx wx=>x=.bool (c.called c.nd.nm).isSome/\Hid (zas S kd lb bb sb nmv askv N c (xE xe c cpe) (xP nb) w.heap.size (w.heap.size+1) st wx)/\Hid (Fr (RT lb bb) w wx));case first =>
  cases hcal:c.called c.nd.nm with
  | none =>
    have HC1:=za (zc4 c.nd.nm (c.nd.a:Int) W.drew hS1 hNW h6 hcal);have HC2:=za (λo=>zc4 c.nd.nm (c.nd.a:Int) (W.alloc o).drew (hS2 o) (by show N<=(W.alloc o).heap.size;simp;omega) h6 hcal);have Hcal:=za hcal;clear hS1 hS2 hcal m2 m3 m4 m5 mf sf pf
    go_region_held3 (λw'=>w'.cell? (xD w.heap.size 0)=some (xE xe c cpe)/\w'.cell? (xD w.heap.size 1)=some (xP nb)/\w'.cell? (xD nb 0)=some (.string c.nd.nm)/\w'.cell? (xD nb 1)=some (xI c.nd.a))
     (first|(with_reducible (refine⟨?_,?_,?_,?_⟩ <;> repeat (first|assumption|refine zg ?_|refine zj _ ?_|refine zk (by omega) ?_|refine zd HB1.o ?_ (by first|omega|(rw[zsb];omega)))))|go_keep)
     (first
       | (go_at_call 100;refine HC1.o.mono ?_;rintro e w1 ⟨rfl,hB1⟩;have HB1:=za (zw hB1);clear hB1)
       | (go_at_call 100;refine (HC2.o _).mono ?_;rintro e w1 ⟨rfl,hB1⟩;have HB1:=za (zw hB1);obtain⟨y0,y1,yf,yz⟩:=zp ((HB1.o.block W.heap.size (by rw[zsb];omega)).trans (zc W _));clear hB1))
    . go_wp2_with fail;go_meet;exact⟨by rw[Hcal.o];rfl,(HIW.o.keep HB1.o).keep (zq _ _),(HFW.o.trans (zy HB1.o)).alloc _⟩
    . go_wp2_with fail;go_meet;exact⟨by rw[Hcal.o];rfl,HIW.o.keep (zC (zC (zE HB1.o) (Nat.le_refl _) _) (Nat.le_refl _) _),HFW.o.trans (zy (zC (zC (zE HB1.o) (Nat.le_refl _) _) (Nat.le_refl _) _))⟩
  | some d =>
    have HC1:=za (zah c.nd.nm (c.nd.a:Int) W.drew hS1 hNW h6 hcal);have HC2:=za (λo=>zah c.nd.nm (c.nd.a:Int) (W.alloc o).drew (hS2 o) (by show N<=(W.alloc o).heap.size;simp;omega) h6 hcal);have Hcal:=za hcal;clear hS1 hS2 hcal m2 m3 m4 m5 mf sf pf
    go_region_held3 (λw'=>w'.cell? (xD w.heap.size 0)=some (xE xe c cpe)/\w'.cell? (xD w.heap.size 1)=some (xP nb)/\w'.cell? (xD nb 0)=some (.string c.nd.nm)/\w'.cell? (xD nb 1)=some (xI c.nd.a))
     (first|(with_reducible (refine⟨?_,?_,?_,?_⟩ <;> repeat (first|assumption|refine zg ?_|refine zj _ ?_|refine zk (by omega) ?_|refine zd HB1.o ?_ (by first|omega|(rw[zsb];omega)))))|go_keep)
     (first
       | (go_at_call 100;refine HC1.o.mono ?_;rintro e w1 ⟨x2,cp2,n2,rfl,hsc,hB1⟩;have HB1:=za (zw hB1);clear hB1)
       | (go_at_call 100;refine (HC2.o _).mono ?_;rintro e w1 ⟨x2,cp2,n2,rfl,hsc,hB1⟩;have HB1:=za (zw hB1);obtain⟨y0,y1,yf,yz⟩:=zp ((HB1.o.block W.heap.size (by rw[zsb];omega)).trans (zc W _));clear hB1))
    . go_wp2_with fail;go_meet;exact⟨by rw[Hcal.o];rfl,(HIW.o.keep HB1.o).keep (zq _ _),(HFW.o.trans (zy HB1.o)).alloc _⟩
    . go_wp2_with fail;go_meet;exact⟨by rw[Hcal.o];rfl,HIW.o.keep (zC (zC (zE HB1.o) (Nat.le_refl _) _) (Nat.le_refl _) _),HFW.o.trans (zy (zC (zC (zE HB1.o) (Nat.le_refl _) _) (Nat.le_refl _) _))⟩
 case rest =>
  obtain⟨rfl,HIc,HFc⟩:=hcut;obtain⟨st0,hst0⟩:∃st0,(if (c.called c.nd.nm).isSome=true then [c.nd.a] else []).foldl rep st=st0:=⟨_,rfl⟩;have Hst0:=za hst0;rw[hst0] at HTy;generalize htw:(c.called c.nd.nm).isSome=tw at *;clear htw;clear hst0 hS1 hS2 s0 s1 p0 pf m0 m1 m2 m3 m4 m5 mf mz sf sz pz HIW HFW;have hOc:=HFc.o.old hN (λk e=>by rcases e with e|e;exact e▸l1;exact e▸l2);obtain⟨s0,s1,sf,sz⟩:=zp HIc.o.x1;obtain⟨p0,pf,pz⟩:=zu HIc.o.x2;obtain⟨m0,m1,m2,m3,m4,m5,mf,mz⟩:=zt ((hOc nb HNt.o.lo).trans HNt.o.blk);unfold zam at p0;have hnlb:¬nb=lb:=by omega
  have hnbb:¬nb=bb:=by omega
  have hwlb:¬w.heap.size=lb:=by omega
  have hwbb:¬w.heap.size=bb:=by omega
  have hwlb1:¬w.heap.size+1=lb:=by omega
  have hwbb1:¬w.heap.size+1=bb:=by omega
  clear hOc;go_upto_if 26 with fail;go_cut [] (λwy=>Hid (zas S kd lb bb sb nmv askv N c (xE xe c cpe) (xP nb) w.heap.size (w.heap.size+1) st0 wy)/\Hid (Fr (RT lb bb) w wy));case first =>
   cases tw with
   | false => go_wp2_with fail;go_meet;rw[<- Hst0.o];exact⟨HIc.o,HFc.o⟩
   | true =>
     have HTell:=za (zaa S kd lb bb sb nmv askv st c.nd.a wc.drew (HIc.o.rp.keep (zo (Below.refl _ _))));go_upto_region 3 with fail
     go_region_held3 (λw'=>w'.cell? (xD w.heap.size 1)=some (xP nb)/\w'.cell? (xD (w.heap.size+1) 0)=some (.func (.func 124) #[] #[xP lb,xP bb,xP sb])/\w'.cell? (xD nb 1)=some (xI c.nd.a))
      (first|(with_reducible (refine⟨?_,?_,?_⟩ <;> repeat (first|assumption|refine zg ?_|refine zS HFt.o ?_ (by omega) (by omega))))|go_keep)
      (first
        | (go_at_call 124;refine (HTell.o).mono ?_;rintro e w2 ⟨rfl,hRt,hFt'⟩;have HRt:=za hRt;have HFt:=za hFt'.undrew;clear hRt hFt'))
     go_wp2_with fail;go_meet;rw[<- Hst0.o];exact⟨HIc.o.told HRt.o HFt.o,HFc.o.trans HFt.o⟩
  case rest =>
   obtain⟨HId,HFd⟩:=hcut;clear Hst0 s0 s1 sf sz p0 pf pz m0 m1 m2 m3 m4 m5 mf mz HIc HFc;have hOd:=HFd.o.old hN (λk e=>by rcases e with e|e;exact e▸l1;exact e▸l2);obtain⟨s0,s1,sf,sz⟩:=zp HId.o.x1;obtain⟨m0,m1,m2,m3,m4,m5,mf,mz⟩:=zt ((hOd nb HNt.o.lo).trans HNt.o.blk);clear hOd;go_wp2_with fail;go_loopg [43] (c.nd.vars.length+1) (λj i wr=>∃k:Nat,k+j=c.nd.vars.length+1/\k<=c.nd.vars.length/\i=xI k/\Hid (zas S kd lb bb sb nmv askv N c (xE xe c cpe) (xP nb) w.heap.size (w.heap.size+1) ((zat c (c.nd.vars.take k) 0).foldl rep st0) wr)/\Hid (Fr (RT lb bb) w wr));case atStart=>exact⟨0,by omega,Nat.zero_le _,rfl,HId.o,HFd.o⟩
   case round =>
    clear HId HFd s0 s1 sf sz m0 m1 m2 m3 m4 m5 mf mz;obtain⟨k,hkj,hk,rfl,HIk,HFk⟩:=hrel;have hOk:=HFk.o.old hN (λk e=>by rcases e with e|e;exact e▸l1;exact e▸l2);obtain⟨p0,p1,pf,pz⟩:=zp HIk.o.x1;obtain⟨q0,qf,qz⟩:=zu HIk.o.x2;unfold zam at q0;have hNr:=HIk.o.hN;by_cases hlt:k<c.nd.vars.length
    . obtain⟨v,hv⟩:∃v,c.nd.vars[k]?=some v:=⟨_,zsc hlt⟩;obtain⟨g,rfl,c0,c1,c2,c3,c4,c5,c6⟩:=zaM (HNt.o.old hOk).vown hv;have hgN:=HNt.o.vlo g rfl;have hT1:zat c (c.nd.vars.take (k+1)) 0=zat c (c.nd.vars.take k) 0++((if (c.nd.find v.nm).getD 0<k then [v.a] else [])++(if (zaA v != 0&&!c.has v.ck)=true then [v.ca] else [])++[]):=by
       rw[zeq hv,zhE];have:0+(c.nd.vars.take k).length=k:=by simp;omega
       rw[this];rfl
      have HFi:=za (λo=>zgF v.nm (wr.alloc o) ((HNt.o.old hOk).old (zeW hNr o)));have hpz1:w.heap.size<wr.heap.size+1:=(by omega);have hqz1:w.heap.size+1<wr.heap.size+1:=(by omega);obtain⟨ff,hff⟩:∃ff,c.nd.find v.nm=ff:=⟨_,rfl⟩;rw[hff] at HFi hT1;obtain⟨stA,hstA⟩:∃stA,(if ff.getD 0<k then [v.a] else []).foldl rep ((zat c (c.nd.vars.take k) 0).foldl rep st0)=stA:=⟨_,rfl⟩;have HT:Hid ((zat c (c.nd.vars.take (k+1)) 0).foldl rep st0=(if (zaA v != 0&&!c.has v.ck)=true then [v.ca] else []).foldl rep stA):=(by unfold Hid;rw[hT1,List.foldl_append,List.foldl_append,List.foldl_append,hstA];rfl);have HstA:=za hstA;have BOX:∀W:World,xB wr W->True:=λ_ _=>trivial;clear hT1 hff hstA hOk BOX;unfold zk6 at HFi;go_upto_if 60 with (go_at_call 101;refine (HFi.o _).mono ?_;rintro e w1 ⟨rfl,hB1⟩;(have hbx:=(hB1.block wr.heap.size (by simp)).trans (zc wr _));have HBx:=za hbx;have HB1:=za (zE hB1);clear hB1 hbx);go_cut [] (λwy=>Hid (zas S kd lb bb sb nmv askv N c (xE xe c cpe) (xP nb) w.heap.size (w.heap.size+1) stA wy)/\Hid (Fr (RT lb bb) w wy)/\Hid (xH wy wr.heap.size #[.string v.nm,xI v.a,xI (zaK v:Nat),xI (zaA v:Nat),xI v.on,.string v.ck,xI v.ca] 156));case first =>
       by_cases hfi:ff.getD 0<k
       . have hfi':((ff.getD 0:Nat):Int)<(k:Int):=(by omega);rw[if_pos hfi] at HstA;obtain⟨x0,x1,x2,x3,x4,x5,x6,xf,xz⟩:=zbZ HBx.o;have g0:=zd HB1.o q0 qz;have HTell:=za (zaa S kd lb bb sb nmv askv _ v.a w1 (HIk.o.keep HB1.o).rp);clear hfi;generalize ff.getD 0=fi at *;go_wp2_with (go_at_call 124;refine HTell.o.mono ?_;rintro e w2 ⟨rfl,hRt,hFt⟩;have HRt:=za hRt;have HFt:=za hFt;clear hRt hFt);go_meet;rw[<- HstA.o];exact⟨(HIk.o.keep HB1.o).told HRt.o HFt.o,(HFk.o.trans (zy HB1.o)).trans HFt.o,(HFt.o.block _ xz (λe=>by rcases e with e|e <;> omega)).trans HBx.o⟩
       . have hfi':¬((ff.getD 0:Nat):Int)<(k:Int):=(by omega);rw[if_neg hfi] at HstA;clear hfi;generalize ff.getD 0=fi at *;go_wp2_with fail;go_meet;rw[<- HstA.o];exact⟨HIk.o.keep HB1.o,HFk.o.trans (zy HB1.o),HBx.o⟩
      case rest =>
       obtain⟨HIm,HFm,HBm⟩:=hcut;clear p0 p1 pf pz q0 qf qz c0 c1 c2 c3 c4 c5 c6 HBx HB1 HFi;obtain⟨p0,p1,pf,pz⟩:=zp HIm.o.x1;obtain⟨q0,qf,qz⟩:=zu HIm.o.x2;unfold zam at q0;obtain⟨x0,x1,x2,x3,x4,x5,x6,xf,xz⟩:=zbZ HBm.o;by_cases hsg:zaA v=0
       . have hsg':((zaA v:Int) != 0)=false:=(by simp[hsg]);have HT2:Hid ((zat c (c.nd.vars.take (k+1)) 0).foldl rep st0=stA):=(by unfold Hid;rw[HT.o];simp[hsg]);clear hsg HT hv;generalize zaA v=sg at *;go_wp2_with fail;go_roundg (gk-1);case measure=>omega
         refine⟨k+1,by omega,by omega,by go_num,?_,HFm.o⟩;rw[HT2.o];exact HIm.o
       . have hsg':((zaA v:Int) != 0)=true:=(by simp;omega);have HD:=za (zgt v.ck (v.ca:Int) wc HIm.o.sc HIm.o.hN);cases hha:c.has v.ck with
         | true =>
           have hha':(c.nd.find v.ck).isSome=true:=hha;rw[hha'] at HD;have HT2:Hid ((zat c (c.nd.vars.take (k+1)) 0).foldl rep st0=stA):=(by unfold Hid;rw[HT.o,hha];simp);clear hsg HT hv hha hha';generalize zaA v=sg at *;go_wp2_with (go_at_call 102;refine HD.o.mono ?_;rintro e w1 ⟨rfl,hB1⟩;have HB1:=za hB1;clear hB1);go_roundg (gk-1);case measure=>omega
           refine⟨k+1,by omega,by omega,by go_num,?_,HFm.o.trans (zy HB1.o)⟩;rw[HT2.o];exact HIm.o.keep HB1.o
         | false =>
           have hha':(c.nd.find v.ck).isSome=false:=hha;rw[hha'] at HD;have HT2:Hid ((zat c (c.nd.vars.take (k+1)) 0).foldl rep st0=rep stA v.ca):=(by unfold Hid;rw[HT.o,hha];simp[hsg]);clear hsg HT hv hha hha';generalize zaA v=sg at *
           go_wp2_with (first
            | (go_at_call 124;refine HTell.o.mono ?_;rintro e w2 ⟨rfl,hRt,hFt⟩;have HRt:=za hRt;have HFt:=za hFt;clear hRt hFt)
            | (go_at_call 102;refine HD.o.mono ?_;rintro e w1 ⟨rfl,hB1⟩;have HB1:=za hB1;have g0:=zd HB1.o q0 qz;have g6:=zd HB1.o x6 xz;have HTell:=za (zaa S kd lb bb sb nmv askv stA v.ca w1 (HIm.o.keep HB1.o).rp);clear hB1))
           go_roundg (gk-1);case measure=>omega
           refine⟨k+1,by omega,by omega,by go_num,?_,(HFm.o.trans (zy HB1.o)).trans HFt.o⟩;rw[HT2.o];exact (HIm.o.keep HB1.o).told HRt.o HFt.o
    . have ek:k=c.nd.vars.length:=(by omega);subst ek;rw[List.take_length] at HIk;obtain⟨st1,hst1⟩:∃st1,(zat c c.nd.vars 0).foldl rep st0=st1:=⟨_,rfl⟩;rw[hst1] at HIk HTy;obtain⟨n0,n1,n2,n3,n4,n5,nf,nz⟩:=zt ((hOk nb HNt.o.lo).trans HNt.o.blk);clear hst1 hOk q0 qf;go_wp2_with fail;go_loopg [92] (c.nd.eqs.length+1) (λj i wr=>∃k:Nat,k+j=c.nd.eqs.length+1/\k<=c.nd.eqs.length/\i=xI k/\Hid (zas S kd lb bb sb nmv askv N c (xE xe c cpe) (xP nb) w.heap.size (w.heap.size+1) (((c.nd.eqs.take k).flatMap λq=>z7 c q.ns q.ps).foldl rep st1) wr)/\Hid (Fr (RT lb bb) w wr));case atStart=>exact⟨0,by omega,Nat.zero_le _,rfl,HIk.o,HFk.o⟩
      case round =>
       clear HIk HFk n0 n1 n2 n3 n4 n5 nf nz p0 p1 pf pz hkj hk hlt;obtain⟨k,hkj,hk,rfl,HIk,HFk⟩:=hrel;have hOk:=HFk.o.old hN (λk e=>by rcases e with e|e;exact e▸l1;exact e▸l2);obtain⟨p0,p1,pf,pz⟩:=zp HIk.o.x1;obtain⟨q0,qf,qz⟩:=zu HIk.o.x2;unfold zam at q0;have hNr:=HIk.o.hN;by_cases hlt:k<c.nd.eqs.length
       . obtain⟨wo,rfl⟩:∃wo,wo=wr:=⟨_,rfl⟩;obtain⟨gko,rfl⟩:∃g,g=gk:=⟨_,rfl⟩;obtain⟨q,hq⟩:∃q,c.nd.eqs[k]?=some q:=⟨_,zsc hlt⟩;have hN2:=HNt.o.old hOk;obtain⟨g,lv,rv,rfl,c0,c1,c2,hE⟩:=zcd hN2.own hN2.eqs hq rfl;obtain⟨rb,_,_,rfl,_⟩:=hE.tt.ptr;obtain⟨xl,cl,rfl⟩:=zB hE.own;have hgN:=HNt.o.elo g rfl;have HEq:=za hE;have hql:=HPs.o q (List.mem_of_getElem? hq);have Hql:=za hql;have HFl:=za (zik (λq=>z7 c q.ns q.ps) hq st1);obtain⟨stB,hstB⟩:∃stB,((c.nd.eqs.take k).flatMap λq=>z7 c q.ns q.ps).foldl rep st1=stB:=⟨_,rfl⟩;rw[hstB] at HFl HIk;have h17:q.ns.length<=9223372036854775807:=by
          rcases hE.own.2 with ⟨_,h⟩|⟨g,cap,cur,hv,_,_,h3,h4,_⟩
          . omega
          . unfold maxLen at h4;omega
         have hpz1:w.heap.size<wo.heap.size+1:=(by omega);have hqz1:w.heap.size+1<wo.heap.size+1:=(by omega);have HwX:=za (zy (T:=RT lb bb) (zq wo (.cells #[.slice xl q.ns.length cl,xI q.a,xP rb] 161)));have HkX:=za (HIk.o.keep (zq wo (.cells #[.slice xl q.ns.length cl,xI q.a,xP rb] 161)));clear hN2 hE hq hstB hql hOk;go_wp2_with fail;go_loopg [99] (q.ns.length+1) (λj i wr=>∃k2:Nat,k2+j=q.ns.length+1/\k2<=q.ns.length/\i=xI k2/\Hid (zas S kd lb bb sb nmv askv N c (xE xe c cpe) (xP nb) w.heap.size (w.heap.size+1) ((z7 c (q.ns.take k2) (q.ps.take k2)).foldl rep stB) wr)/\Hid (Fr (RT lb bb) wo wr));case atStart=>exact⟨0,by omega,Nat.zero_le _,rfl,HkX.o,HwX.o⟩
         case round =>
          clear HkX HwX c0 c1 c2 q0 qf p0 p1;obtain⟨k2,hkj2,hk2,rfl,HIn,HFn⟩:=hrel;obtain⟨p0',p1',pf',pz'⟩:=zp HIn.o.x1;obtain⟨q0',qf',qz'⟩:=zu HIn.o.x2;have hNs:=HIn.o.hN;have hzs:=HFn.o.size;by_cases hlt2:k2<q.ns.length
          . obtain⟨s,hs⟩:∃s,q.ns[k2]?=some s:=⟨_,zsc hlt2⟩;obtain⟨p,hp⟩:∃p,q.ps[k2]?=some p:=⟨_,zsc (by have:=Hql.o;omega)⟩;have hOs:=HFn.o.old hNr (λk e=>by rcases e with e|e;exact e▸l1;exact e▸l2);obtain⟨gl,rfl,c0,c1⟩:=zbe (HEq.o.old hOs).own hs hp rfl;have hglN:=HEq.o.lo gl rfl;have hT1:=zhN (c:=c) hs hp;have k20:(0:Int)<=(k2:Int):=(by omega);have k21:(k2:Int)<(q.ns.length:Int):=(by omega);clear hOs hs hp;go_upto_region 19 with fail;refine zn (λW3=>Hid (zas S kd lb bb sb nmv askv N c (xE xe c cpe) (xP nb) w.heap.size (w.heap.size+1) ((z7 c (q.ns.take k2) (q.ps.take k2)).foldl rep stB) W3)/\Hid (Fr (RT lb bb) wo W3)/\xH W3 wr.heap.size #[.string s,xI p] 144) ⟨HIn.o.keep (zq wr _),HFn.o.alloc _,zc wr _⟩ ?_;rintro W3 ⟨HI3,HF3,hb3⟩;obtain⟨s0,s1,sf,sz⟩:=zp HI3.o.x1;obtain⟨q0,qf,qz⟩:=zu HI3.o.x2;unfold zam at q0;obtain⟨y0,y1,yf,yz⟩:=zp hb3;have hO3:=(HFk.o.trans HF3.o).old hN (λk e=>by rcases e with e|e;exact e▸l1;exact e▸l2);obtain⟨m0,m1,m2,m3,m4,m5,mf,mz⟩:=zt ((hO3 nb HNt.o.lo).trans HNt.o.blk);have hN3:=HI3.o.hN;have HHa:=za (zgt s (p:Int) W3.drew (HI3.o.sc.old (λ_ _=>rfl)) hN3);have HIx:=za (λW (hB:xB W3 W)=>zaz s (p:Int) W (HI3.o.keep hB).sc (HI3.o.keep hB).hN);clear hb3 hO3 p0' p1' q0' m0 m1 m2 m4 m5 mf;cases hha:c.has s with
            | false =>
              have hha':(c.nd.find s).isSome=false:=hha;rw[hha'] at HHa;have HT:Hid ((z7 c (q.ns.take (k2+1)) (q.ps.take (k2+1))).foldl rep stB=rep ((z7 c (q.ns.take k2) (q.ps.take k2)).foldl rep stB) p):=(by unfold Hid;rw[hT1,List.foldl_append,hha];rfl);clear hha hha' hT1;refine wp_region_held_drew (S:=(λw'=>w'.cell? (xD w.heap.size 0)=some (xE xe c cpe)/\w'.cell? (xD w.heap.size 1)=some (xP nb)/\w'.cell? (xD wr.heap.size 0)=some (.string s)/\w'.cell? (xD wr.heap.size 1)=some (xI p))) (by kernel_rfl) ⟨zg s0,zg s1,zg y0,zg y1⟩ (λhHeld=>?_);refine wpAnyH_take (i:=0) (v:=.agg #[xE xe c cpe,xP nb]) rfl (by kernel_rfl) (by kernel_rfl) (by kernel_rfl) (λ_ _ _ h=>h) (Or.inl ⟨by rfl,?_⟩) (by assumption) ?_
              . (intro w9 hSw;(try dsimp only at hSw);go_simp)
              try simp only[Act.put,zx2]
              refine wpAnyH_take (i:=1) (v:=.agg #[.string s,xI p]) rfl (by kernel_rfl) (by kernel_rfl) (by kernel_rfl) (λ_ _ _ h=>h) (Or.inl ⟨by rfl,?_⟩) (by assumption) ?_
              . (intro w9 hSw;(try dsimp only at hSw);go_simp)
              try simp only[Act.put,zx2]
              refine wpAnyH_ready (rs:=[2]) (by kernel_rfl) (by simp) ?_;refine AllReadyH.cons rfl (λK hK=>?_) AllReadyH.nil;go_simp;go_at_call 102;refine HHa.o.mono ?_;rintro e w1 ⟨rfl,hB1⟩;have HB1:=za (zw hB1);clear hB1;go_wp2_with fail;refine hK.out _ _ ⟨zd HB1.o s0 sz,zd HB1.o s1 sz,zd HB1.o y0 yz,zd HB1.o y1 yz⟩ (λhHeld=>?_);clear hK K;try simp only[Act.put,zx2]
              refine wpAnyH_take (i:=3) (v:=.bool true) rfl (by kernel_rfl) (by kernel_rfl) (by kernel_rfl) (λ_ _ _ h=>h) (Or.inl ⟨by rfl,?_⟩) (by assumption) ?_
              . (intro w9 hSw;(try dsimp only at hSw);go_simp)
              try simp only[Act.put,zx2]
              refine wpAnyH_take (i:=4) (v:=.bool true) rfl (by kernel_rfl) (by kernel_rfl) (by kernel_rfl) (λ_ _ _ h=>h) (Or.inl ⟨by rfl,?_⟩) (by assumption) ?_
              . (intro w9 hSw;(try dsimp only at hSw);go_simp)
              try simp only[Act.put,zx2]
              refine wpAnyH_take (i:=5) (v:=undef) rfl (by kernel_rfl) (by kernel_rfl) (by kernel_rfl) (λ_ _ _ h=>h) (Or.inr ⟨by rfl,rfl⟩) (by assumption) ?_;try simp only[Act.put,zx2]
              refine wpAnyH_take (i:=6) (v:=undef) rfl (by kernel_rfl) (by kernel_rfl) (by kernel_rfl) (λ_ _ _ h=>h) (Or.inr ⟨by rfl,rfl⟩) (by assumption) ?_;try simp only[Act.put,zx2]
              refine wpAnyH_take (i:=7) (v:=undef) rfl (by kernel_rfl) (by kernel_rfl) (by kernel_rfl) (λ_ _ _ h=>h) (Or.inr ⟨by rfl,rfl⟩) (by assumption) ?_;try simp only[Act.put,zx2]
              refine wpAnyH_take (i:=8) (v:=undef) rfl (by kernel_rfl) (by kernel_rfl) (by kernel_rfl) (λ_ _ _ h=>h) (Or.inr ⟨by rfl,rfl⟩) (by assumption) ?_;try simp only[Act.put,zx2]
              refine wpAnyH_take (i:=9) (v:=undef) rfl (by kernel_rfl) (by kernel_rfl) (by kernel_rfl) (λ_ _ _ h=>h) (Or.inr ⟨by rfl,rfl⟩) (by assumption) ?_;try simp only[Act.put,zx2]
              refine wpAnyH_take (i:=10) (v:=undef) rfl (by kernel_rfl) (by kernel_rfl) (by kernel_rfl) (λ_ _ _ h=>h) (Or.inr ⟨by rfl,rfl⟩) (by assumption) ?_;try simp only[Act.put,zx2]
              refine wpAnyH_take (i:=11) (v:=undef) rfl (by kernel_rfl) (by kernel_rfl) (by kernel_rfl) (λ_ _ _ h=>h) (Or.inr ⟨by rfl,rfl⟩) (by assumption) ?_;try simp only[Act.put,zx2]
              refine wpAnyH_take (i:=12) (v:=undef) rfl (by kernel_rfl) (by kernel_rfl) (by kernel_rfl) (λ_ _ _ h=>h) (Or.inr ⟨by rfl,rfl⟩) (by assumption) ?_;try simp only[Act.put,zx2]
              refine wpAnyH_take (i:=13) (v:=undef) rfl (by kernel_rfl) (by kernel_rfl) (by kernel_rfl) (λ_ _ _ h=>h) (Or.inr ⟨by rfl,rfl⟩) (by assumption) ?_;try simp only[Act.put,zx2]
              refine wpAnyH_take (i:=14) (v:=undef) rfl (by kernel_rfl) (by kernel_rfl) (by kernel_rfl) (λ_ _ _ h=>h) (Or.inr ⟨by rfl,rfl⟩) (by assumption) ?_;try simp only[Act.put,zx2]
              refine wpAnyH_take (i:=15) (v:=undef) rfl (by kernel_rfl) (by kernel_rfl) (by kernel_rfl) (λ_ _ _ h=>h) (Or.inr ⟨by rfl,rfl⟩) (by assumption) ?_;try simp only[Act.put,zx2]
              refine wpAnyH_take (i:=16) (v:=.bool true) rfl (by kernel_rfl) (by kernel_rfl) (by kernel_rfl) (λ_ _ _ h=>h) (Or.inl ⟨by rfl,?_⟩) (by assumption) ?_
              . (intro w9 hSw;(try dsimp only at hSw);go_simp)
              try simp only[Act.put,zx2]
              refine wpAnyH_done (by kernel_rfl) ?_ _
              all_goals
               have g0:=zd HB1.o q0 qz;have g1:=zd HB1.o y1 yz;have HTell:=za (zaa S kd lb bb sb nmv askv _ p w1 (HI3.o.keep HB1.o).rp);go_wp2_with (go_at_call 124;refine HTell.o.mono ?_;rintro e w2 ⟨rfl,hRt,hFt⟩;have HRt:=za hRt;have HFt:=za hFt;clear hRt hFt);go_roundg (gk-1);case measure=>omega
               refine⟨k2+1,by omega,by omega,by go_num,?_,(HF3.o.trans (zy HB1.o)).trans HFt.o⟩;rw[HT.o];exact (HI3.o.keep HB1.o).told HRt.o HFt.o
            | true =>
              have hha':(c.nd.find s).isSome=true:=hha;rw[hha'] at HHa;by_cases hix:c.idx s<c.nd.ins
              . have hix':((c.idx s:Nat):Int)<(c.nd.ins:Int):=(by omega);have HT:Hid ((z7 c (q.ns.take (k2+1)) (q.ps.take (k2+1))).foldl rep stB=rep ((z7 c (q.ns.take k2) (q.ps.take k2)).foldl rep stB) p):=(by unfold Hid;rw[hT1,List.foldl_append,hha];simp[hix]);clear hha hha' hT1 hix;generalize c.idx s=ix at *
                go_region_held3 (λw'=>w'.cell? (xD w.heap.size 0)=some (xE xe c cpe)/\w'.cell? (xD w.heap.size 1)=some (xP nb)/\w'.cell? (xD wr.heap.size 0)=some (.string s)/\w'.cell? (xD wr.heap.size 1)=some (xI p)/\w'.cell? (xD nb 3)=some (xI c.nd.ins))
                 (first|(with_reducible (refine⟨?_,?_,?_,?_,?_⟩ <;> repeat (first|assumption|refine zg ?_|refine zj _ ?_|refine zk (by omega) ?_|refine zd HB2.o ?_ (by first|omega|(rw[zsb];omega))|refine zd HB1.o ?_ (by first|omega|(rw[zsb];omega)))))|go_keep)
                 (first
                   | (go_at_call 103;refine HIx2.o.mono ?_;rintro e w2 ⟨rfl,hB2⟩;have HB2:=za hB2;clear hB2)
                   | (go_at_call 102;refine HHa.o.mono ?_;rintro e w1 ⟨rfl,hB1⟩;have HB1:=za (zw hB1);(have hzw1:W3.heap.size<=w1.heap.size:=hB1.size);have HIx2:=za (HIx.o w1 HB1.o);clear hB1))
                all_goals
                 have HB3:=za (HB1.o.trans (HB2.o.mono HB1.o.size));have g0:=zd HB3.o q0 qz;have g1:=zd HB3.o y1 yz;have HTell:=za (zaa S kd lb bb sb nmv askv _ p w2 (HI3.o.keep HB3.o).rp);go_wp2_with (go_at_call 124;refine HTell.o.mono ?_;rintro e w4 ⟨rfl,hRt,hFt⟩;have HRt:=za hRt;have HFt:=za hFt;clear hRt hFt);go_roundg (gk-1);case measure=>omega
                 refine⟨k2+1,by omega,by omega,by go_num,?_,(HF3.o.trans (zy HB3.o)).trans HFt.o⟩;rw[HT.o];exact (HI3.o.keep HB3.o).told HRt.o HFt.o
              . have hix':¬((c.idx s:Nat):Int)<(c.nd.ins:Int):=(by omega);have HT:Hid ((z7 c (q.ns.take (k2+1)) (q.ps.take (k2+1))).foldl rep stB=(z7 c (q.ns.take k2) (q.ps.take k2)).foldl rep stB):=(by unfold Hid;rw[hT1,List.foldl_append,hha];simp[hix]);clear hha hha' hT1 hix;generalize c.idx s=ix at *
                go_region_held3 (λw'=>w'.cell? (xD w.heap.size 0)=some (xE xe c cpe)/\w'.cell? (xD w.heap.size 1)=some (xP nb)/\w'.cell? (xD wr.heap.size 0)=some (.string s)/\w'.cell? (xD wr.heap.size 1)=some (xI p)/\w'.cell? (xD nb 3)=some (xI c.nd.ins))
                 (first|(with_reducible (refine⟨?_,?_,?_,?_,?_⟩ <;> repeat (first|assumption|refine zg ?_|refine zj _ ?_|refine zk (by omega) ?_|refine zd HB2.o ?_ (by first|omega|(rw[zsb];omega))|refine zd HB1.o ?_ (by first|omega|(rw[zsb];omega)))))|go_keep)
                 (first
                   | (go_at_call 103;refine HIx2.o.mono ?_;rintro e w2 ⟨rfl,hB2⟩;have HB2:=za hB2;clear hB2)
                   | (go_at_call 102;refine HHa.o.mono ?_;rintro e w1 ⟨rfl,hB1⟩;have HB1:=za (zw hB1);(have hzw1:W3.heap.size<=w1.heap.size:=hB1.size);have HIx2:=za (HIx.o w1 HB1.o);clear hB1))
                all_goals
                 have HB3:=za (HB1.o.trans (HB2.o.mono HB1.o.size));go_wp2_with fail;go_roundg (gk-1);case measure=>omega
                 refine⟨k2+1,by omega,by omega,by go_num,?_,HF3.o.trans (zy HB3.o)⟩;rw[HT.o];exact HI3.o.keep HB3.o
          . have ek:k2=q.ns.length:=(by omega);subst ek;rw[List.take_length,Hql.o,List.take_length] at HIn;go_wp2_with fail;go_roundg (gko-1);case measure=>omega
            refine⟨k+1,by omega,by omega,by go_num,?_,HFk.o.trans HFn.o⟩;rw[HFl.o];exact HIn.o
       . have ek:k=c.nd.eqs.length:=(by omega);subst ek;rw[List.take_length] at HIk;have hV:=zkL S kd lb bb sb nmv askv N c h6 (xE xe c cpe) (xP nb) w.heap.size (w.heap.size+1) l1 l2;have HWk:=za (zfN hV nb _ _ xs _ wr (HNt.o.old hOk) hNr (λk e=>by have:=HFk.o.size;rcases e with e|e <;> omega) HIk.o);have hmf:∀(fn:Go.Fn) (first cap:Array Value) (w:World),(Instr.makeFunc fn first cap).run prog w=.ok (.func fn first cap) w:=λ_ _ _ _=>rfl;clear hV hOk q0 qf;go_wp2_with (go_at_call 104;refine HWk.o.mono ?_;rintro e w1 ⟨rfl,hI1,hF1⟩;have HI1:=za hI1;have HF1:=za hF1;clear hI1 hF1);first|go_end0|refine bodyPost_ret (results_none rfl _ _ _) rfl ?_
         refine⟨rfl,?_,HFk.o.trans HF1.o⟩;rw[HTy.o];have:=HI1.o.rp;simp only[zh9] at this;exact this
end
section
variable {ns:List Nod} {k:Nat} {n:Nod}
attribute [local go_sem ↓] Go.wp_at_zero Go.wp_at_succ
def zoD (S:Nat->Addr)(kd lb bb sb:Nat)(nmv askv:Value)(N:Nat)(f:FuncId)(L:Sc->List Nat)(c:Sc):Prop :=
 ∀(ev nv:Value) (st:Option Nat) (w:World),RpI S kd lb bb sb nmv askv st w->ScV w N c ev nv->N<=w.heap.size ->
  xK f #[.agg #[ev,nv],zam lb bb sb] w (λe w'=>e=.returned (.tuple #[])/\RpI S kd lb bb sb nmv askv ((L c).foldl rep st) w'/\Fr (RT lb bb) w w')
def zgj (ns:List Nod)(k:Nat):List Sc:=(List.range k).filterMap λi=>(ns[i]?).map λn=>⟨ns.take i,n⟩
theorem zkP (h:ns[k]?=some n):zgj ns (k+1)=zgj ns k++[⟨ns.take k,n⟩]:=by unfold zgj;rw[List.range_succ,List.filterMap_append];simp[h]
theorem zp9 (h:ns[k]?=some n):(⟨ns.take k,n⟩:Sc)∈scs ns:=by unfold scs;rw[List.mem_filterMap];exact⟨k,List.mem_range.2 (List.getElem?_eq_some_iff.1 h).1,by rw[h];rfl⟩
theorem zoq (S:Nat->Addr)(kd lb bb sb:Nat)(nmv askv:Value)(N:Nat)(f:FuncId)(hcf:zH f)(L:Sc->List Nat)(ns:List Nod)(HA:∀c∈scs ns,zoD S kd lb bb sb nmv askv N f L c)(pv:Value)(ab:Nat)(e:TypeId)(st:Option Nat)(w:World)(HR:RpI S kd lb bb sb nmv askv st w)(hP:PT w N ns pv)(hN:N<=w.heap.size)(l1:N<=lb)(l2:N<=bb)(Hab:w.heap[ab]?=some (.cells #[.func (.func f) #[] #[]] e (0,0)))(d1:¬ab=lb)(d2:¬ab=bb) :
 xK 98 #[pv,zam lb bb sb,xP ab] w (λe w'=>e=.returned (.tuple #[])/\RpI S kd lb bb sb nmv askv (((scs ns).flatMap L).foldl rep st) w'/\Fr (RT lb bb) w w'):=by
 have hcf:∀(args:Array Value) (w:World),(callFunc f args).run prog w=.ok (.enter f args) w:=hcf;have HP:=za hP;have hab0:=ze Hab;obtain⟨gb,gv,xs,rfl,hgb,hg,hl⟩:=hP;have h6:=hl.few;obtain⟨x,cp,rfl,hcp,hmx,hin⟩:=hl.ne;obtain⟨p0,pf,pz⟩:=zu hg;clear hin hl hg;unfold zam;go_enter func98,ntmps98;go_wp2_with fail;go_loopg [11] (ns.length+1) (λj i wr=>∃k:Nat,k+j=ns.length+1/\k<=ns.length/\i=xI k/\Hid (RpI S kd lb bb sb nmv askv (((zgj ns k).flatMap L).foldl rep st) wr)/\Hid (Fr (RT lb bb) w wr));case atStart=>exact⟨0,by omega,Nat.zero_le _,rfl,HR,Fr.refl _ _⟩
 case round =>
  obtain⟨k,hkj,hk,rfl,HI,HF⟩:=hrel;clear p0;by_cases hlt:k<ns.length
  . obtain⟨n,hn⟩:∃n,ns[k]?=some n:=⟨_,zsc hlt⟩;have hO:=HF.o.old hN (λk e=>by rcases e with e|e;exact e▸l1;exact e▸l2);have hz:=HF.o.size;have hNr:N<=wr.heap.size:=by omega
    have HSc:=za (zh3 k n wr.drew ((HP.o.old hO).old (λ_ _=>rfl)) hNr hn);have HAk:=HA _ (zp9 hn);unfold zoD zam at HAk;have hT:=zkP hn;have HT:Hid (((zgj ns (k+1)).flatMap L).foldl rep st=(L ⟨ns.take k,n⟩).foldl rep (((zgj ns k).flatMap L).foldl rep st)):=(by unfold Hid;rw[hT,List.flatMap_append,List.foldl_append];simp);obtain⟨a0,af,az⟩:=zu ((HF.o.block ab hab0 (λe=>by rcases e with e|e <;> omega)).trans Hab);generalize hc:(⟨ns.take k,n⟩:Sc)=c at *;clear hT hn hO hc;go_wp2_with fail
    go_region_held3 (λw'=>w'.cell? (xD ab 0)=some (.func (.func f) #[] #[]))
     (first
       | exact zg a0
       | exact zd HB1.o a0 az
       | exact b0)
     (first
       | (refine (HAk _ _ _ w1 (HI.o.keep HB1.o) HS1 hN1).mono ?_;rintro e w2 ⟨rfl,HR2,HF2⟩;have b0:=(World.cell?_of_block (HF2.block ab (Nat.lt_of_lt_of_le az HB1.o.size) (λe=>by rcases e with e|e <;> omega))).trans (zd HB1.o a0 az))
       | (go_at_call 99;refine HSc.o.mono ?_;rintro e w1 ⟨x1,cp1,nb1,rfl,HS1,hB1⟩;have HB1:=za (zw hB1);have hN1:=Nat.le_trans hNr HB1.o.size;clear hB1))
    go_wp2_with fail;go_roundg (gk-1);case measure=>omega
    refine⟨k+1,by omega,by omega,by go_num,?_,(HF.o.trans (zy HB1.o)).trans HF2⟩;rw[HT.o];exact HR2
  . have ek:k=ns.length:=by omega
    subst ek;go_wp2_with fail;first|go_end0|refine bodyPost_ret (results_none rfl _ _ _) rfl ?_
    exact⟨rfl,HI.o,HF.o⟩
end
section
attribute [local go_sem ↓] Go.wp_at_zero Go.wp_at_succ
theorem zjA (f:FuncId)(w:World) :
 xK 53 #[.func (.func f) #[] #[]] w (λe w'=>e=.returned (.func (.func 98) #[] #[xP w.heap.size])/\∃t,w'=w.alloc (.cells #[.func (.func f) #[] #[]] t (0,0))):=by
 have hmf:∀(fn:Go.Fn) (first cap:Array Value) (w:World),(Instr.makeFunc fn first cap).run prog w=.ok (.func fn first cap) w:=λ_ _ _ _=>rfl;go_enter func53,ntmps53;go_wp2_with fail;go_ret;exact⟨rfl,_,rfl⟩
def zry (S:Nat->Addr)(kd lb bb sb:Nat)(nmv askv:Value)(F:FuncId)(cap:Array Value)(pv:Value)(l:List Nat)(w:World):Prop :=
 RpI S kd lb bb sb nmv askv none w->xK F (#[pv,zam lb bb sb]++cap) w (λe w'=>e=.returned (.tuple #[])/\RpI S kd lb bb sb nmv askv (l.foldl rep none) w'/\Fr (RT lb bb) w w')
theorem zkt (S:Nat->Addr)(kd:Nat)(nm:ByteArray)(F:FuncId)(hcf:zH F)(cap:Array Value)(gb:Nat)(l:List Nat)(w:World)
 (hA:∀W,xB w W->zry S kd (w.heap.size+1) (w.heap.size+1+1) w.heap.size (.string nm) (.func (.func F) #[] cap) F cap (xP gb) l W) :
 xK 60 #[.agg #[.string nm,sen S kd,.func (.func F) #[] cap],xP gb] w (λe w'=>e=.returned (zbp S kd (zO l))/\xB w w'):=by
 have hcf:∀(args:Array Value) (w:World),(callFunc F args).run prog w=.ok (.enter F args) w:=hcf;have hmf:∀(fn:Go.Fn) (first cap:Array Value) (w:World),(Instr.makeFunc fn first cap).run prog w=.ok (.func fn first cap) w:=λ_ _ _ _=>rfl;have hB3:=zcz w (.cells #[.string nm,.iface 399 (.pointer (some (S kd))),.func (.func F) #[] cap] 117 (0,0)) (.cells #[.nilIface] 42 (0,0)) (.cells #[xI 0] 3 (0,0));have hA3:=al3 w (.cells #[.string nm,.iface 399 (.pointer (some (S kd))),.func (.func F) #[] cap] 117 (0,0)) (.cells #[.nilIface] 42 (0,0)) (.cells #[xI 0] 3 (0,0));have hRP:RpI S kd (w.heap.size+1) (w.heap.size+1+1) w.heap.size (.string nm) (.func (.func F) #[] cap) none _:=⟨hA3.2.1,hA3.2.2,hA3.1,by omega,by omega,by omega⟩;have hC:=hA _ hB3 hRP;unfold zam at hC;have HC:=za hC;have HB3:=za hB3;clear hA hC hB3 hA3 hRP;unfold sen;go_enter func60,ntmps60;go_wp2_with fail;refine HC.o.mono ?_;rintro e w' ⟨rfl,hR,hF⟩;have HBn:Hid (xB w w'):=⟨hF.os.trans HB3.o.os,hF.tape.trans HB3.o.tape,hF.output.trans HB3.o.output,Nat.le_trans HB3.o.size hF.size,λk hk=>(hF.block k (Nat.lt_of_lt_of_le hk HB3.o.size) (λe=>by rcases e with e|e <;> omega)).trans (HB3.o.block k hk)⟩;obtain⟨l0,lf,lz⟩:=zu hR.l;clear hR hF HC HB3;change w'.cell? _=some (zbp S kd (zO l)) at l0;cases hl:zO l with
 | none => rw[hl] at l0;unfold zbp at l0;go_wp2_with fail;go_ret;exact⟨by rw[hl];rfl,HBn.o⟩
 | some p => rw[hl] at l0;unfold zbp sen at l0;go_wp2_with fail;go_ret;exact⟨by rw[hl];rfl,HBn.o⟩
end
end Go.Proofs.YtmfkofhgdjechaaGreatDoor
