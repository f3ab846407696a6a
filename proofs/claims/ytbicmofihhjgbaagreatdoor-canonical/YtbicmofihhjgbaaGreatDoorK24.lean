/- Part 25 of the proof. -/
import Derived.Test.YtbicmofihhjgbaaGreatDoorK21
import Derived.Test.YtbicmofihhjgbaaGreatDoorK23
set_option maxRecDepth 100000
set_option maxHeartbeats 8000000
namespace Go.Proofs.YtbicmofihhjgbaaGreatDoor
open Go.Proofs.Tryz
open Go.RowKit
section
variable {L:List (Nat×Nat)} {N cb hb mb zb:Nat} {c:Sc} {ev nv:Xv} {w w':Xw}
attribute [local go_sem ↓] Go.wp_at_zero Go.wp_at_succ
structure LkO (N:Nat) (c:Sc) (ev nv:Xv) (mb hb zb cb:Nat) (L:List (Nat×Nat)) (w:Xw):Prop where
 lk:za8 w mb L
 sc:ScV w N c ev nv
 ck:za7 w c cb
 x1:w.heap[hb]?=some (.cells #[.map (some mb)] 239 (0,0))
 x3:w.heap[zb]?=some (.cells #[ev,nv] 114 (0,0))
 d1:¬hb=mb
 d2:¬cb=mb
 d3:¬zb=mb
 l:N<=mb
 hN:N<=w.heap.size
theorem LkO.keep (h:LkO N c ev nv mb hb zb cb L w)(hB:xB w w'):LkO N c ev nv mb hb zb cb L w' :=
 ⟨h.lk.keep hB,h.sc.old (zm hB h.hN),h.ck.keep hB,(hB.block _ (ze h.x1)).trans h.x1,(hB.block _ (ze h.x3)).trans h.x3,h.d1,h.d2,h.d3,h.l,zMO h.hN hB.size⟩
theorem LkO.put {L':List (Nat×Nat)}(h:LkO N c ev nv mb hb zb cb L w)(hl:za8 w' mb L')(hf:Fr (·=mb) w w'):LkO N c ev nv mb hb zb cb L' w' :=
 ⟨hl,h.sc.old (hf.old h.hN (λ_ e=>e▸h.l)),h.ck.of' (hf.block _ h.ck.lt h.d2),(hf.block _ (ze h.x1) h.d1).trans h.x1,(hf.block _ (ze h.x3) h.d3).trans h.x3,h.d1,h.d2,h.d3,h.l,zMO h.hN hf.size⟩
theorem LkO.on (h:LkO N c ev nv mb hb zb cb L w){i ib:Nat}(hi:xH w ib #[xI (i:Int)] 3)(d:¬ib=mb):LkI N c ev nv i mb hb ib zb L w :=
 ⟨h.lk,h.sc,h.x1,hi,h.x3,h.d1,d,h.d3,h.l,h.hN⟩
theorem zgy (hc:zbr c)(w:Xw)(HSc:ScV w N c ev nv)(hN:N<=w.heap.size) :
 xK 136 #[.agg #[ev,nv]] w (λe w'=>∃mb,e=.returned (.map (some mb))/\w.heap.size<=mb/\za8 w' mb c.linksL/\xB w w'):=by
 obtain⟨xe,cpe,nb,rfl,rfl,hnb⟩:=HSc.shape;obtain⟨nb',vs,qv,xs,e9,HNt⟩:=HSc.nd;cases e9;obtain⟨xv,cpv,rfl⟩:=zB HNt.vown;obtain⟨xq,cpq,rfl⟩:=zB HNt.own;have h16:c.nd.eqs.length<=9223372036854775807:=by
  rcases HNt.own.2 with ⟨_,HSc⟩|⟨g,cap,cur,hv,_,_,h3,h4,_⟩
  . omega
  unfold maxLen at h4;omega
 have hmm:=@run_makeMap prog;have hmf:∀(fn:Go.Fn) (first cap:Xa) (w:Xw),(Instr.makeFunc fn first cap).run prog w=.ok (.func fn first cap) w:=λ_ _ _ _=>rfl;have HClo:=za (λo1 o2 o3=>zeC (((w.alloc o1).alloc o2).alloc o3) (HSc.old (zot hN o1 o2 o3)) (by rw[zsb,zsb,zsb];omega));have HEq:=za hc.nd.eqs;go_enter func136,ntmps136;go_upto_region 3 with (go_at_call 99;refine (HClo.o _ _ _).mono ?_;rintro e w1 ⟨cb,rfl,hcbz,hCk,hB1⟩;have HCk:=za hCk;have HB1:=za hB1);rw[zsb,zsb,zsb] at hcbz;refine zn (λW=>LkO N c (xE xe c cpe) (xP nb) (w.heap.size+1) (w.heap.size+1+1) w.heap.size cb [] W/\xB w W) ⟨⟨⟨[],⟨#[],0,(HB1.o.block _ (by simp)).trans (al3 w _ _ _).2.1,rfl⟩,λp=>by simp[zaT],λk v HSc=>by simp[zaT] at HSc⟩,HSc.old (zm (zg2 HB1.o) hN),HCk.o,(HB1.o.block _ (by simp)).trans (al3 w _ _ _).2.2,(HB1.o.block _ (by simp;omega)).trans (al3 w _ _ _).1,by omega,by omega,by omega,by omega,by have:=(zg2 HB1.o).size;omega⟩,zg2 HB1.o⟩ ?_;rintro W ⟨hIW,hBW⟩;obtain⟨m0,m1,m2,m3,m4,m5,mf,mz⟩:=zt ((hBW.block nb (by omega)).trans HNt.blk);obtain⟨s0,s1,sf,sz⟩:=zp hIW.x3;have HIW:=za hIW;have HBW:=za hBW;go_wp2_with fail;go_loopg [20] (c.nd.eqs.length+1) (λj i wr=>∃(k:Nat) (L1:List (Nat×Nat)),k+j=c.nd.eqs.length+1/\k<=c.nd.eqs.length/\i=xI k/\Hid (LkO N c (xE xe c cpe) (xP nb) (w.heap.size+1) (w.heap.size+1+1) w.heap.size cb L1 wr)/\Hid (c.linksL=L1++(c.nd.eqs.drop k).flatMap (λq=>q.ns.flatMap (zaO c q)))/\Hid (xB w wr));case atStart=>exact⟨0,[],by omega,zMN _,rfl,HIW.o,rfl,HBW.o⟩
 case round =>
  obtain⟨k,L1,hkj,hk,rfl,HI,HD,HB⟩:=hrel;have hO:=zm HB.o hN;by_cases hlt:k<c.nd.eqs.length
  . obtain⟨wo,rfl⟩:∃wo,wo=wr:=⟨_,rfl⟩;obtain⟨gko,rfl⟩:∃g,g=gk:=⟨_,rfl⟩;obtain⟨q,hq⟩:∃q,c.nd.eqs[k]?=some q:=⟨_,zsc hlt⟩;have hN2:=HNt.old hO;obtain⟨g,lv,rv,rfl,c0,c1,c2,HE⟩:=zcd hN2.own hN2.eqs hq rfl;obtain⟨rb,_,_,rfl,_⟩:=HE.tt.ptr;obtain⟨xl,cl,rfl⟩:=zB HE.own;have hgN:=HNt.elo g rfl;have Hql:=za (HEq.o q (zML hq)).1;have hNo:=HI.o.hN;have h17:q.ns.length<=9223372036854775807:=by
     rcases HE.own.2 with ⟨_,HSc⟩|⟨g,cap,cur,hv,_,_,h3,h4,_⟩
     . omega
     unfold maxLen at h4;omega
    have HT:Hid (c.linksL=(L1++q.ns.flatMap (zaO c q))++(c.nd.eqs.drop (k+1)).flatMap (λq=>q.ns.flatMap (zaO c q))):=(by obtain⟨h1,h2⟩:=zMJ.1 hq;unfold Hid;rw[HD.o,zMT h1,List.flatMap_cons,h2,zMQ]);have HkX:=za (HI.o.keep (zq wo (.cells #[.slice xl q.ns.length cl,xI q.a,xP rb] 184)));have HwX:=za (zaU HB.o (zMK _) (.cells #[.slice xl q.ns.length cl,xI q.a,xP rb] 184));have HqX:=za (zc wo (.cells #[.slice xl q.ns.length cl,xI q.a,xP rb] 184));go_wp2_with fail;go_loopg [27] (q.ns.length+1) (λj i wr=>∃(k2:Nat) (L2:List (Nat×Nat)),k2+j=q.ns.length+1/\k2<=q.ns.length/\i=xI k2/\Hid (LkO N c (xE xe c cpe) (xP nb) (w.heap.size+1) (w.heap.size+1+1) w.heap.size cb L2 wr)/\Hid (L1++q.ns.flatMap (zaO c q)=L2++(q.ns.drop k2).flatMap (zaO c q))/\Hid (xB w wr)/\Hid (xH wr wo.heap.size #[.slice xl q.ns.length cl,xI q.a,xP rb] 184));case atStart=>exact⟨0,L1,by omega,zMN _,rfl,HkX.o,rfl,HwX.o,HqX.o⟩
    case round =>
     obtain⟨k2,L2,hkj2,hk2,rfl,HI2,HD2,HB2,HQ2⟩:=hrel;by_cases hlt2:k2<q.ns.length
     . obtain⟨s,hs⟩:∃s,q.ns[k2]?=some s:=⟨_,zsc hlt2⟩;obtain⟨p,hp⟩:∃p,q.ps[k2]?=some p:=⟨_,zsc (by have:=Hql.o;omega)⟩;have hOe:Old N wo wr:=λb hb=>(zm HB2.o hN b hb).trans (zm HB.o hN b hb).symm;have HE2:=HE.old hOe;obtain⟨gl,rfl,c0,c1⟩:=zbe HE2.own hs hp rfl;have hglN:=HE.lo gl rfl;have hNs:=HI2.o.hN;have HT2:Hid (L1++q.ns.flatMap (zaO c q)=(L2++zaO c q s)++(q.ns.drop (k2+1)).flatMap (zaO c q)):=(by obtain⟨h1,h2⟩:=zMJ.1 hs;unfold Hid;rw[HD2.o,zMT h1,List.flatMap_cons,h2,zMQ]);obtain⟨s0,s1,sf,sz⟩:=zp HI2.o.x3;have hmz:=HI2.o.lk.lt;have hqz:=ze HQ2.o;have HIx:=za (zaz s (p:Int) (wr.alloc (.cells #[.string s,xI p] 117)) (HI2.o.keep (zq wr _)).sc (HI2.o.keep (zq wr _)).hN)
       go_upto_region 11 with (first
        | (go_at_call 104;refine (HOf.o _).mono ?_;rintro e w2 ⟨rfl,hB4⟩;have HB4:=za (zE hB4);have HZi:=za ((hB4.block _ (by simp)).trans (zc w1 _)))
        | (go_at_call 105;refine HIx.o.mono ?_;rintro e w1 ⟨rfl,hB3⟩;have HB3:=za (zE hB3);have hz3:=HB3.o.size;have HI3:=za (HI2.o.keep HB3.o);have HOf:=za (λo=>zbC (c.idx s) (w1.alloc o) (HI3.o.keep (zq w1 o)).ck)))
       have hz4:=HB4.o.size;have hlz:=HB2.o.size;refine zn (λW=>LkO N c (xE xe c cpe) (xP nb) (w.heap.size+1) (w.heap.size+1+1) w.heap.size cb L2 W/\xB wr W/\xH W w1.heap.size #[xI (c.idx s:Nat)] 3/\xH W w2.heap.size #[xI ((c.of (c.idx s)).1:Nat),xI ((c.of (c.idx s)).2:Nat)] 198) ⟨(HI3.o.keep HB4.o).keep (zq w2 _),zaU (HB3.o.trans (HB4.o.mono hz3)) (zMK _) _,(Below.heap_alloc _ _ _ (by have:=ze HZi.o;omega)).trans HZi.o,zc w2 _⟩ ?_;rintro W ⟨hIW,hBW,HZW,hZk⟩;obtain⟨k0,k1,kf,kz⟩:=zp hZk;obtain⟨i0,if',iz⟩:=zu HZW;obtain⟨a0,af,az⟩:=zu hIW.x1;obtain⟨q0,q1,q2,qf,qz⟩:=zL ((hBW.block _ hqz).trans HQ2.o);have hzW:=hBW.size;have hn1:¬w1.heap.size=w.heap.size+1:=(by omega);have hn2:¬wo.heap.size=w.heap.size+1:=(by have:=HI.o.lk.lt;omega);have hn3:¬w.heap.size+1+1=w.heap.size+1:=(by omega);have HIW:=za hIW;have HBW:=za hBW;have HWk:=za (λ(L3:List (Nat×Nat)) (W3:Xw) (hI3:LkI N c (xE xe c cpe) (xP nb) (c.idx s) (w.heap.size+1) (w.heap.size+1+1) w1.heap.size w.heap.size L3 W3) (hT3:TT W3 N q.r (xP rb))=>ziV (zn2 N c (xE xe c cpe) (xP nb) (c.idx s) (w.heap.size+1) (w.heap.size+1+1) w1.heap.size w.heap.size hI3.l) q.r (xP rb) L3 W3 hT3 hI3.hN hI3 trivial);by_cases hsg:(c.of (c.idx s)).2=0
       . have hsg':((c.of (c.idx s)).2:Int)=0:=(by omega);have HL:Hid (zaO c q s=(zaV zak q.r).flatMap (zcO c (c.idx s))):=(by unfold Hid zaO;simp only[hsg,zM2,List.nil_append]);have HW3:=za (HWk.o L2 W (HIW.o.on HZW hn1) (HE2.tt.old (zm HBW.o hNs)));go_wp2_with (go_at_call 169;refine HW3.o.mono ?_;rintro e w5 ⟨rfl,HI5,HF5⟩);go_roundg (gk-1);case measure=>omega
         have hI6:=HI5.lk;rw[zib,<- HL.o] at hI6;exact⟨k2+1,L2++zaO c q s,by omega,by omega,by go_num,HIW.o.put hI6 HF5,HT2.o,zbR (HB2.o.trans (HBW.o.mono hlz)) HF5 (by omega),(HF5.block _ qz hn2).trans ((HBW.o.block _ hqz).trans HQ2.o)⟩
       have hsg':¬((c.of (c.idx s)).2:Int)=0:=(by omega);have HL:Hid (zaO c q s=[(c.idx s,(c.of (c.idx s)).1)]++(zaV zak q.r).flatMap (zcO c (c.idx s))):=(by unfold Hid zaO;simp only[hsg,zM1,not_false_eq_true]);have HA:=za (zhH (c.idx s) (c.of (c.idx s)).1 W HIW.o.lk)
       go_wp2_with (first
        | (go_at_call 169;refine (HWk.o _ w4 (HI4.o.on ((HF4.block _ iz hn1).trans HZW) hn1) (HE2.tt.old ((zm HBW.o hNs).trans (HF4.old HIW.o.hN (λ_ e=>e▸HIW.o.l))))).mono ?_;rintro e w5 ⟨rfl,HI5,HF5⟩)
        | (go_at_call 179;refine HA.o.mono ?_;rintro e w4 ⟨rfl,hL4,HF4⟩;have HI4:=za (HIW.o.put hL4 HF4);have q2':=zgG HF4 q2 hn2))
       go_roundg (gk-1);case measure=>omega
       have hI6:=HI5.lk;rw[zib,zMQ,<- HL.o] at hI6;exact⟨k2+1,L2++zaO c q s,by omega,by omega,by go_num,HI4.o.put hI6 HF5,HT2.o,zbR (zbR (HB2.o.trans (HBW.o.mono hlz)) HF4 (by omega)) HF5 (by omega),(HF5.block _ (by have:=HF4.size;omega) hn2).trans ((HF4.block _ qz hn2).trans ((HBW.o.block _ hqz).trans HQ2.o))⟩
     have ek:k2=q.ns.length:=(by omega);subst ek;rw[List.drop_length,List.flatMap_nil,List.append_nil] at HD2;go_wp2_with fail;go_roundg (gko-1);case measure=>omega
     refine⟨k+1,L2,by omega,by omega,by go_num,HI2.o,?_,HB2.o⟩;rw[<- HD2.o];exact HT.o
  have ek:k=c.nd.eqs.length:=by omega
  subst ek;rw[List.drop_length,List.flatMap_nil,List.append_nil] at HD;obtain⟨a0,af,az⟩:=zu HI.o.x1;go_wp2_with fail;go_ret;refine⟨_,rfl,by omega,?_,HB.o⟩;rw[HD.o];exact HI.o.lk
end
section
variable {L:List (Nat×Nat)} {N b1 bb kd lb mb sb:Nat} {S:Xs} {st:Xo} {c:Sc} {askv ev nmv nv:Xv} {w w':Xw}
attribute [local go_sem ↓] Go.wp_at_zero Go.wp_at_succ
structure zfK (S:Xs) (kd lb bb sb:Nat) (nmv askv:Xv) (N:Nat) (c:Sc) (ev nv:Xv) (b1 mb:Nat) (L:List (Nat×Nat)) (st:Xo) (w:Xw):Prop where
 rp:RpI S kd lb bb sb nmv askv st w
 sc:ScV w N c ev nv
 lk:za8 w mb L
 x1:w.heap[b1]?=some (.cells #[ev,nv] 216 (0,0))
 d:∀b,b=b1∨b=mb->¬b=lb/\¬b=bb
 l1:N<=lb
 l2:N<=bb
 hN:N<=w.heap.size
theorem zfK.keep (h:zfK S kd lb bb sb nmv askv N c ev nv b1 mb L st w)(hB:xB w w'):zfK S kd lb bb sb nmv askv N c ev nv b1 mb L st w' :=
 ⟨h.rp.keep hB,h.sc.old (zm hB h.hN),h.lk.keep hB,(hB.block _ (ze h.x1)).trans h.x1,h.d,h.l1,h.l2,zMO h.hN hB.size⟩
theorem zfK.told {st':Xo}(h:zfK S kd lb bb sb nmv askv N c ev nv b1 mb L st w)(hr:RpI S kd lb bb sb nmv askv st' w')(hf:Fr (RT lb bb) w w'):zfK S kd lb bb sb nmv askv N c ev nv b1 mb L st' w':=by
 have hn:∀{b},(b=b1∨b=mb)->¬RT lb bb b:=λh1 e=>by rcases e with e|e;exact (h.d _ h1).1 e;exact (h.d _ h1).2 e
 exact⟨hr,h.sc.old (hf.old h.hN (λk e=>by rcases e with e|e;exact e▸h.l1;exact e▸h.l2)),h.lk.of' (hf.block _ h.lk.lt (hn (by simp))),(hf.block _ (ze h.x1) (hn (by simp))).trans h.x1,h.d,h.l1,h.l2,zMO h.hN hf.size⟩
theorem zoI (a:Nat)(L:List (Nat×Nat))(n m:Nat):zht a L n (m+1)=(if (n-(m+1),n-(m+1))∈L then [a] else [])++zht a L n m:=rfl
theorem ziB (S:Xs)(kd lb bb sb:Nat)(nmv askv:Xv)(N:Nat)(c:Sc)(hc:zbr c)(ev nv:Xv)(st:Xo)(w:Xw)(hR:RpI S kd lb bb sb nmv askv st w)(HSc:ScV w N c ev nv)(hN:N<=w.heap.size)(l1:N<=lb)(l2:N<=bb) :
 xK 70 #[.agg #[ev,nv],zam lb bb sb] w (λe w'=>e=.returned (.tuple #[])/\RpI S kd lb bb sb nmv askv (c.causesL.foldl rep st) w'/\Fr (RT lb bb) w w'):=by
 obtain⟨xe,cpe,nb,rfl,rfl,hnb⟩:=HSc.shape;have hzl:=ze hR.l;have hzb:=ze hR.b;have HR:=za hR;obtain⟨nb',vs,qv,xs,e9,HNt⟩:=HSc.nd;cases e9;obtain⟨xv,cpv,rfl⟩:=zB HNt.vown;obtain⟨xq,cpq,rfl⟩:=zB HNt.own;have hfew:=HNt.few;have HLo:=za (λo=>zgy hc (w.alloc o) (HSc.old (zeW hN o)) (by rw[zsb];omega));unfold zam;go_enter func70,ntmps70;go_upto_region 2 with (go_at_call 136;refine (HLo.o _).mono ?_;rintro e w1 ⟨mb,rfl,hmz,hLk,hB1⟩;have HLk:=za hLk;have hx1:=za ((hB1.block _ (by simp)).trans (zc w _));have HB1:=za (zE hB1));rw[zsb] at hmz;obtain⟨m0,m1,m2,m3,m4,m5,mf,mz⟩:=zt ((HB1.o.block nb (by omega)).trans HNt.blk);obtain⟨s0,s1,sf,sz⟩:=zp hx1.out;have HFo:=za (zk8 c.nd.vars.length (by omega) w1 HLk.o);go_upto_region 3 with (go_at_call 137;refine HFo.o.mono ?_;rintro e w2 ⟨rfl,hL2,hF2⟩;have HL2:=za hL2;have HF2:=za hF2;have HB2:=za (zbR HB1.o hF2 (by omega)));refine zn (λW=>zfK S kd lb bb sb nmv askv N c (xE xe c cpe) (xP nb) w.heap.size mb (zdT c.nd.vars.length c.linksL) st W/\Fr (RT lb bb) w W) ⟨⟨HR.o.keep HB2.o,HSc.old (zm HB2.o hN),HL2.o,(HF2.o.block _ sz (by omega)).trans hx1.out,λb e=>by rcases e with e|e <;> exact⟨by omega,by omega⟩,l1,l2,by have:=HB2.o.size;omega⟩,zy HB2.o⟩ ?_;rintro W ⟨hIW,hFW⟩;obtain⟨m0,m1,m2,m3,m4,m5,mf,mz⟩:=zt ((hFW.block nb (by omega) (λe=>by rcases e with e|e <;> omega)).trans HNt.blk);obtain⟨s0,s1,sf,sz⟩:=zp hIW.x1;have HIW:=za hIW;have HFW:=za hFW;go_wp2_with fail;go_loopg [25] (c.nd.vars.length+1) (λj i wr=>∃(k:Nat) (st2:Xo),k+j=c.nd.vars.length+1/\k<=c.nd.vars.length/\i=xI k/\Hid (zfK S kd lb bb sb nmv askv N c (xE xe c cpe) (xP nb) w.heap.size mb (zdT c.nd.vars.length c.linksL) st2 wr)/\Hid (c.causesL.foldl rep st=(zht c.nd.a (zdT c.nd.vars.length c.linksL) c.nd.vars.length (j-1)).foldl rep st2)/\Hid (Fr (RT lb bb) w wr));case atStart=>exact⟨0,st,by omega,zMN _,rfl,HIW.o,rfl,HFW.o⟩
 case round =>
  obtain⟨k,st2,hkj,hk,rfl,HI,HD,HF⟩:=hrel;by_cases hlt:k<c.nd.vars.length
  . obtain⟨m,rfl⟩:∃m,gk=m+1+1:=⟨gk-1-1,by omega⟩;have hE:=HD.o;rw[show m+1+1-1=m+1 from rfl,zoI,show c.nd.vars.length-(m+1)=k by omega,zMP] at hE;have HE:=za hE;have HH:=za (ze9 k k wr HI.o.lk);by_cases h1:(k,k)∈zdT c.nd.vars.length c.linksL
    . rw[zM2 h1] at HE;rw[decide_eq_true h1] at HH
      go_wp2_with (first
       | (go_at_call 140;refine (zaa S kd lb bb sb nmv askv st2 c.nd.a _ HI2.o.rp).mono ?_;rintro e w3 ⟨rfl,HRt,HFt⟩)
       | (go_at_call 138;refine HH.o.mono ?_;rintro e w2 ⟨rfl,hB2⟩;have HI2:=za (HI.o.keep hB2);have HF2:=za (HF.o.trans (zy hB2));obtain⟨s0,s1,sf,sz⟩:=zp HI2.o.x1;obtain⟨m0,m1,m2,m3,m4,m5,mf,mz⟩:=zt ((HF2.o.block nb (by omega) (λe=>by rcases e with e|e <;> omega)).trans HNt.blk)))
      go_roundg (m+1);case measure=>omega
      exact⟨k+1,rep st2 c.nd.a,by omega,by omega,by go_num,HI2.o.told HRt HFt,HE.o,HF2.o.trans HFt⟩
    rw[zM1 h1] at HE;rw[decide_eq_false h1] at HH;go_wp2_with (go_at_call 138;refine HH.o.mono ?_;rintro e w2 ⟨rfl,hB2⟩;have HB2:=za hB2);go_roundg (m+1);case measure=>omega
    exact⟨k+1,st2,by omega,by omega,by go_num,HI.o.keep HB2.o,HE.o,HF.o.trans (zy HB2.o)⟩
  have ek:k=c.nd.vars.length:=by omega
  subst ek;have:gk=1:=by omega
  subst this;have HE:Hid (c.causesL.foldl rep st=st2):=HD.o;go_wp2_with fail;first|go_end0|refine bodyPost_ret (results_none rfl _ _ _) rfl ?_
  refine⟨rfl,?_,HF.o⟩;rw[HE.o];exact HI.o.rp
end
section
variable {s:Int} {m:List (ByteArray×Nat)} {b cnb mbx:Nat} {w w':Xw}
attribute [local go_sem ↓] Go.wp_at_zero Go.wp_at_succ
def zdf (w:Xw)(b:Nat)(m:List (ByteArray×Nat)):Prop :=
 ∃l:List (ByteArray×Value),zbn w b Value.string l/\∀s,(zaT s l).getD (xI 0)=xI (zbi s m:Nat)
theorem zdf.of' (h:zdf w b m)(hb:w'.heap[b]?=w.heap[b]?):zdf w' b m:=by obtain⟨l,h1,h2⟩:=h;exact⟨l,h1.of hb,h2⟩
theorem zdf.lt (h:zdf w b m):b<w.heap.size:=by obtain⟨l,h1,_⟩:=h;exact h1.lt
theorem zdf.keep (h:zdf w b m)(hB:xB w w'):zdf w' b m:=h.of' (hB.block _ h.lt)
theorem Tryz.zeroI (w:Xw):(zeroValue 3).run prog w=.ok (xI 0) w:=by kernel_rfl
theorem zkF (h:zdf w b m)(s:Xb) :
 (Instr.lookup 242 (.map (some b)) (.string s) false).run prog w=.ok (xI (zbi s m:Nat)) w:=by
 obtain⟨l,h1,h2⟩:=h;refine (zgI Tryz.keyStr underlying242 Tryz.zeroI h1 s false).trans ?_;rw[<- h2 s];rfl
theorem zqN (h:zdf w b m)(s:Xb)(n:Nat) :
 ∃w',(Instr.mapUpdate 242 (.map (some b)) (.string s) (xI (n:Int))).run prog w=.ok () w'/\zdf w' b ((s,n)::m)/\Fr (·=b) w w':=by
 obtain⟨l,h1,h2⟩:=h;obtain⟨w',r,mm,f⟩:=zgh Tryz.keyStr underlying242 h1 s (xI (n:Int));refine⟨w',r,⟨_,mm,λs'=>?_⟩,f⟩;rw[zgD,zbi];by_cases e:s=s'
 . rw[zM2 e,zM2 e];rfl
 rw[zM1 e,zM1 e];exact h2 s'
def zbf (m:List (ByteArray×Nat))(s:Int)(t:Tm):Int:=if t.k=9∨t.k=4 then wrap64 (s+(za9 m t:Nat)) else s
structure CnI (cnb mbx b:Nat) (m:List (ByteArray×Nat)) (s:Int) (w:Xw):Prop where
 x1:w.heap[cnb]?=some (.cells #[xI s] 3 (0,0))
 x2:w.heap[mbx]?=some (.cells #[.map (some b)] 242 (0,0))
 cm:zdf w b m
 d1:¬mbx=cnb
 d2:¬b=cnb
theorem CnI.keep (h:CnI cnb mbx b m s w)(hB:xB w w'):CnI cnb mbx b m s w' :=
 ⟨(hB.block _ (ze h.x1)).trans h.x1,(hB.block _ (ze h.x2)).trans h.x2,h.cm.keep hB,h.d1,h.d2⟩
theorem CnI.put (h:CnI cnb mbx b m s w)(s':Int):CnI cnb mbx b m s' (w.setCell (xD cnb 0) (xI s')) :=
 ⟨zhY h.x1 _,zr h.d1 h.x2,h.cm.of' (zr h.d2 rfl),h.d1,h.d2⟩
theorem zqq:zH 181:=λ_ _=>by kernel_rfl
theorem zm7 (N:Nat)(n:Nod)(cnb mbx b:Nat)(m:List (ByteArray×Nat))(hm:∀s,zbi s m<=61)(hcn:N<=cnb) :
 zjB N (·=cnb) 181 #[xP cnb,xP mbx] (λ_=>True) n (λs _ t=>zbf m s t) (CnI cnb mbx b m) where
 enters:=zqq
 hT:=λ_ e=>e▸hcn
 keep:=λs w w' h hB=>h.keep hB
 sub:=λ_ _ _ _=>trivial
 root:=λ_ _=>trivial
 call:=by
  intro q lv rv t v s w _ hE hT _ hN HI0 _;obtain⟨bt,args,vs,rfl,hb',hblk,_⟩:=hT.ptr;obtain⟨xl,cl,rfl⟩:=zB hE.own;obtain⟨rb,_,_,rfl,_⟩:=hE.tt.ptr;have HI:=za (λo=>HI0.keep (zq w o));obtain⟨m0,m1,m2,m3,m4,m5,mf,mz⟩:=zt hblk;obtain⟨a0,af,az⟩:=zu HI0.x1;obtain⟨p0,pf,pz⟩:=zu HI0.x2;have hd:=HI0.d1;have hbc:¬bt=cnb:=by omega
  have hlk:=λo=>zkF (HI0.keep (zq w o)).cm t.s;have h61:=hm t.s;clear hT hblk hE hm
  show Calls prog _ #[.agg #[.slice xl q.ns.length cl,xI q.a,xP rb],xP bt,xP cnb,xP mbx] w _;by_cases h9:t.k=9
  . have HS:Hid (zbf m s t=wrap64 (s+1)):=by unfold Hid zbf za9;rw[zM2 (zM3 h9),zM2 h9];rfl
    have m0':w.cell? (xD bt 0)=some (xI 9):=(by rw[m0,h9];rfl);clear h9 m0;go_enter func181,ntmps181;go_wp2_with fail;go_ret;rw[HS.o];exact⟨rfl,(HI0.put _).keep (zq _ _),(Fr.set1 (Fr.refl _ w) _ _).alloc _⟩
  by_cases h4:t.k=4
  . have HS:Hid (zbf m s t=wrap64 (s+(1+(zbi t.s m:Nat)))):=by unfold Hid zbf za9;rw[zM2 (zM4 h4),zM1 h9,zM2 h4];rfl
    have m0':w.cell? (xD bt 0)=some (xI 4):=(by rw[m0,h4];rfl);have hw1:wrap64 (1+(zbi t.s m:Int))=1+(zbi t.s m:Int):=(by unfold wrap64;omega);clear h9 h4 m0;go_enter func181,ntmps181;go_upto_region 5 with fail;refine zn (λW=>CnI cnb mbx b m s W/\xB w W) ⟨HI.o _,zq w _⟩ ?_;rintro W ⟨HIW,HBW⟩;clear a0 af az p0 pf pz hlk;obtain⟨a0,af,az⟩:=zu HIW.x1;obtain⟨p0,pf,pz⟩:=zu HIW.x2;have r2:=zd HBW m2 mz;have hlk:(Instr.lookup 242 (.map (some b)) (.string t.s) false).run prog W.drew=.ok (xI (zbi t.s m:Nat)) W.drew:=zkF (w:=W.drew) (HIW.cm.of' (w':=W.drew) rfl) t.s;clear m0' m1 m2 m3 m4 m5 mf;go_region;go_wp2_with fail;go_ret;rw[HS.o];exact⟨rfl,(HIW.put _).keep (zo (Below.refl _ _)),(Fr.set1 (zy HBW) _ _).trans (zy (zo (Below.refl _ _)))⟩
  have HS:Hid (zbf m s t=s):=by unfold Hid zbf;rw[zM1 (by omega)]
  have h9':¬(t.k:Int)=9:=by omega
  have h4':¬(t.k:Int)=4:=by omega
  clear h9 h4;go_enter func181,ntmps181;go_wp2_with fail;go_ret;rw[HS.o];exact⟨rfl,HI.o _,zy (zq w _)⟩
end
end Go.Proofs.YtbicmofihhjgbaaGreatDoor
