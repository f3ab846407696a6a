/- Part 14. -/
import Derived.Test.YtenadialhccdiaaGreatDoorK12
set_option maxRecDepth 100000
set_option maxHeartbeats 8000000
namespace Go.Proofs.YtenadialhccdiaaGreatDoor
open Go.Proofs.Tryz
open Go.RowKit
section
variable {L:List (Nat×Nat)} {N cb hb mb zb:Nat} {c:Sc} {ev nv:Xv} {w w':Xw}
attribute [local go_sem ↓] Go.wp_at_zero Go.wp_at_succ
structure LkO (N:Nat) (c:Sc) (ev nv:Xv) (mb hb zb cb:Nat) (L:List (Nat×Nat)) (w:Xw):Prop where
 lk:za8 w mb L
 sc:ScV w N c ev nv
 ck:za7 w c cb
 x1:w.heap[hb]?=some (.cells #[.map (some mb)] 211 (0,0))
 x3:w.heap[zb]?=some (.cells #[ev,nv] 79 (0,0))
 d1:¬hb=mb
 d2:¬cb=mb
 d3:¬zb=mb
 l:N<=mb
 hN:N<=w.heap.size
theorem LkO.keep (h:LkO N c ev nv mb hb zb cb L w)(hB:xB w w'):LkO N c ev nv mb hb zb cb L w' :=
 ⟨h.lk.keep hB,h.sc.old (zm hB h.hN),h.ck.keep hB,(hB.block _ (ze h.x1)).trans h.x1,(hB.block _ (ze h.x3)).trans h.x3,h.d1,h.d2,h.d3,h.l,zMO h.hN hB.size⟩
theorem LkO.put {L':List (Nat×Nat)}(h:LkO N c ev nv mb hb zb cb L w)(hl:za8 w' mb L')(hf:Fr (·=mb) w w'):LkO N c ev nv mb hb zb cb L' w' :=
 ⟨hl,h.sc.old (hf.old h.hN (λ_ e=>e▸h.l)),h.ck.of' (hf.block _ h.ck.lt h.d2),(hf.block _ (ze h.x1) h.d1).trans h.x1,(hf.block _ (ze h.x3) h.d3).trans h.x3,h.d1,h.d2,h.d3,h.l,zMO h.hN hf.size⟩
theorem LkO.on (h:LkO N c ev nv mb hb zb cb L w){i ib:Nat}(hi:xH w ib #[xI (i:Int)] 3)(d:¬ib=mb):LkI N c ev nv i mb hb ib zb L w :=
 ⟨h.lk,h.sc,h.x1,hi,h.x3,h.d1,d,h.d3,h.l,h.hN⟩
theorem zgy (hc:zbr c)(w:Xw)(HSc:ScV w N c ev nv)(hN:N<=w.heap.size) :
 xK 106 #[.agg #[ev,nv]] w (λe w'=>∃mb,e=.returned (.map (some mb))/\w.heap.size<=mb/\za8 w' mb c.linksL/\xB w w'):=by
 obtain⟨xe,cpe,nb,rfl,rfl,hnb⟩:=HSc.shape;obtain⟨nb',vs,qv,xs,e9,HNt⟩:=HSc.nd;cases e9;obtain⟨xv,cpv,rfl⟩:=zB HNt.vown;obtain⟨xq,cpq,rfl⟩:=zB HNt.own;have h16:c.nd.eqs.length<=9223372036854775807:=by
  rcases HNt.own.2 with ⟨_,HSc⟩|⟨g,cap,cur,hv,_,_,h3,h4,_⟩
  . omega
  unfold maxLen at h4;omega
 have hmm:=@run_makeMap prog;have hmf:∀(fn:Go.Fn) (first cap:Xa) (w:Xw),(Instr.makeFunc fn first cap).run prog w=.ok (.func fn first cap) w:=λ_ _ _ _=>rfl;have HClo:=za (λo1 o2 o3=>zeC (((w.alloc o1).alloc o2).alloc o3) (HSc.old (zot hN o1 o2 o3)) (by rw[zsb,zsb,zsb];omega));have HEq:=za hc.nd.eqs;go_enter func106,ntmps106;go_upto_region 3 with (go_at_call 59;refine (HClo.o _ _ _).mono ?_;rintro e w1 ⟨cb,rfl,hcbz,hCk,hB1⟩;have HCk:=za hCk;have HB1:=za hB1);rw[zsb,zsb,zsb] at hcbz;refine zn (λW=>LkO N c (xE xe c cpe) (xP nb) (w.heap.size+1) (w.heap.size+1+1) w.heap.size cb [] W/\xB w W) ⟨⟨⟨[],⟨#[],0,(HB1.o.block _ (by simp)).trans (al3 w _ _ _).2.1,rfl⟩,λp=>by simp[zaT],λk v HSc=>by simp[zaT] at HSc⟩,HSc.old (zm (zg2 HB1.o) hN),HCk.o,(HB1.o.block _ (by simp)).trans (al3 w _ _ _).2.2,(HB1.o.block _ (by simp;omega)).trans (al3 w _ _ _).1,by omega,by omega,by omega,by omega,by have:=(zg2 HB1.o).size;omega⟩,zg2 HB1.o⟩ ?_;rintro W ⟨hIW,hBW⟩;obtain⟨m0,m1,m2,m3,m4,m5,mf,mz⟩:=zt ((hBW.block nb (by omega)).trans HNt.blk);obtain⟨s0,s1,sf,sz⟩:=zp hIW.x3;have HIW:=za hIW;have HBW:=za hBW;go_wp2_with fail;go_loopg [20] (c.nd.eqs.length+1) (λj i wr=>∃(k:Nat) (L1:List (Nat×Nat)),k+j=c.nd.eqs.length+1/\k<=c.nd.eqs.length/\i=xI k/\Hid (LkO N c (xE xe c cpe) (xP nb) (w.heap.size+1) (w.heap.size+1+1) w.heap.size cb L1 wr)/\Hid (c.linksL=L1++(c.nd.eqs.drop k).flatMap (λq=>q.ns.flatMap (zaO c q)))/\Hid (xB w wr));case atStart=>exact⟨0,[],by omega,zMN _,rfl,HIW.o,rfl,HBW.o⟩
 case round =>
  obtain⟨k,L1,hkj,hk,rfl,HI,HD,HB⟩:=hrel;have hO:=zm HB.o hN;by_cases hlt:k<c.nd.eqs.length
  . obtain⟨wo,rfl⟩:∃wo,wo=wr:=⟨_,rfl⟩;obtain⟨gko,rfl⟩:∃g,g=gk:=⟨_,rfl⟩;obtain⟨q,hq⟩:∃q,c.nd.eqs[k]?=some q:=⟨_,zsc hlt⟩;have hN2:=HNt.old hO;obtain⟨g,lv,rv,rfl,c0,c1,c2,HE⟩:=zcd hN2.own hN2.eqs hq rfl;obtain⟨rb,_,_,rfl,_⟩:=HE.tt.ptr;obtain⟨xl,cl,rfl⟩:=zB HE.own;have hgN:=HNt.elo g rfl;have Hql:=za (HEq.o q (zML hq)).1;have hNo:=HI.o.hN;have h17:q.ns.length<=9223372036854775807:=by
     rcases HE.own.2 with ⟨_,HSc⟩|⟨g,cap,cur,hv,_,_,h3,h4,_⟩
     . omega
     unfold maxLen at h4;omega
    have HT:Hid (c.linksL=(L1++q.ns.flatMap (zaO c q))++(c.nd.eqs.drop (k+1)).flatMap (λq=>q.ns.flatMap (zaO c q))):=(by obtain⟨h1,h2⟩:=zMJ.1 hq;unfold Hid;rw[HD.o,zMT h1,List.flatMap_cons,h2,zMQ]);have HkX:=za (HI.o.keep (zq wo (.cells #[.slice xl q.ns.length cl,xI q.a,xP rb] 158)));have HwX:=za (zaU HB.o (zMK _) (.cells #[.slice xl q.ns.length cl,xI q.a,xP rb] 158));have HqX:=za (zc wo (.cells #[.slice xl q.ns.length cl,xI q.a,xP rb] 158));go_wp2_with fail;go_loopg [27] (q.ns.length+1) (λj i wr=>∃(k2:Nat) (L2:List (Nat×Nat)),k2+j=q.ns.length+1/\k2<=q.ns.length/\i=xI k2/\Hid (LkO N c (xE xe c cpe) (xP nb) (w.heap.size+1) (w.heap.size+1+1) w.heap.size cb L2 wr)/\Hid (L1++q.ns.flatMap (zaO c q)=L2++(q.ns.drop k2).flatMap (zaO c q))/\Hid (xB w wr)/\Hid (xH wr wo.heap.size #[.slice xl q.ns.length cl,xI q.a,xP rb] 158));case atStart=>exact⟨0,L1,by omega,zMN _,rfl,HkX.o,rfl,HwX.o,HqX.o⟩
    case round =>
     obtain⟨k2,L2,hkj2,hk2,rfl,HI2,HD2,HB2,HQ2⟩:=hrel;by_cases hlt2:k2<q.ns.length
     . obtain⟨s,hs⟩:∃s,q.ns[k2]?=some s:=⟨_,zsc hlt2⟩;obtain⟨p,hp⟩:∃p,q.ps[k2]?=some p:=⟨_,zsc (by have:=Hql.o;omega)⟩;have hOe:Old N wo wr:=λb hb=>(zm HB2.o hN b hb).trans (zm HB.o hN b hb).symm;have HE2:=HE.old hOe;obtain⟨gl,rfl,c0,c1⟩:=zbe HE2.own hs hp rfl;have hglN:=HE.lo gl rfl;have hNs:=HI2.o.hN;have HT2:Hid (L1++q.ns.flatMap (zaO c q)=(L2++zaO c q s)++(q.ns.drop (k2+1)).flatMap (zaO c q)):=(by obtain⟨h1,h2⟩:=zMJ.1 hs;unfold Hid;rw[HD2.o,zMT h1,List.flatMap_cons,h2,zMQ]);obtain⟨s0,s1,sf,sz⟩:=zp HI2.o.x3;have hmz:=HI2.o.lk.lt;have hqz:=ze HQ2.o;have HIx:=za (zaz s (p:Int) (wr.alloc (.cells #[.string s,xI p] 84)) (HI2.o.keep (zq wr _)).sc (HI2.o.keep (zq wr _)).hN)
       go_upto_region 11 with (first
        | (go_at_call 64;refine (HOf.o _).mono ?_;rintro e w2 ⟨rfl,hB4⟩;have HB4:=za (zE hB4);have HZi:=za ((hB4.block _ (by simp)).trans (zc w1 _)))
        | (go_at_call 65;refine HIx.o.mono ?_;rintro e w1 ⟨rfl,hB3⟩;have HB3:=za (zE hB3);have hz3:=HB3.o.size;have HI3:=za (HI2.o.keep HB3.o);have HOf:=za (λo=>zbC (c.idx s) (w1.alloc o) (HI3.o.keep (zq w1 o)).ck)))
       have hz4:=HB4.o.size;have hlz:=HB2.o.size;refine zn (λW=>LkO N c (xE xe c cpe) (xP nb) (w.heap.size+1) (w.heap.size+1+1) w.heap.size cb L2 W/\xB wr W/\xH W w1.heap.size #[xI (c.idx s:Nat)] 3/\xH W w2.heap.size #[xI ((c.of (c.idx s)).1:Nat),xI ((c.of (c.idx s)).2:Nat)] 161) ⟨(HI3.o.keep HB4.o).keep (zq w2 _),zaU (HB3.o.trans (HB4.o.mono hz3)) (zMK _) _,(zWP _ _ _ (by have:=ze HZi.o;omega)).trans HZi.o,zc w2 _⟩ ?_;rintro W ⟨hIW,hBW,HZW,hZk⟩;obtain⟨k0,k1,kf,kz⟩:=zp hZk;obtain⟨i0,if',iz⟩:=zu HZW;obtain⟨a0,af,az⟩:=zu hIW.x1;obtain⟨q0,q1,q2,qf,qz⟩:=zL ((hBW.block _ hqz).trans HQ2.o);have hzW:=hBW.size;have hn1:¬w1.heap.size=w.heap.size+1:=(by omega);have hn2:¬wo.heap.size=w.heap.size+1:=(by have:=HI.o.lk.lt;omega);have hn3:¬w.heap.size+1+1=w.heap.size+1:=(by omega);have HIW:=za hIW;have HBW:=za hBW;have HWk:=za (λ(L3:List (Nat×Nat)) (W3:Xw) (hI3:LkI N c (xE xe c cpe) (xP nb) (c.idx s) (w.heap.size+1) (w.heap.size+1+1) w1.heap.size w.heap.size L3 W3) (hT3:TT W3 N q.r (xP rb))=>ziV (zn2 N c (xE xe c cpe) (xP nb) (c.idx s) (w.heap.size+1) (w.heap.size+1+1) w1.heap.size w.heap.size hI3.l) q.r (xP rb) L3 W3 hT3 hI3.hN hI3 trivial);by_cases hsg:(c.of (c.idx s)).2=0
       . have hsg':((c.of (c.idx s)).2:Int)=0:=(by omega);have HL:Hid (zaO c q s=(zaV zak q.r).flatMap (zcO c (c.idx s))):=(by unfold Hid zaO;simp only[hsg,zM2,List.nil_append]);have HW3:=za (HWk.o L2 W (HIW.o.on HZW hn1) (HE2.tt.old (zm HBW.o hNs)));go_wp2_with (go_at_call 134;refine HW3.o.mono ?_;rintro e w5 ⟨rfl,HI5,HF5⟩);go_roundg (gk-1);case measure=>omega
         have hI6:=HI5.lk;rw[zib,<- HL.o] at hI6;exact⟨k2+1,L2++zaO c q s,by omega,by omega,by go_num,HIW.o.put hI6 HF5,HT2.o,zbR (HB2.o.trans (HBW.o.mono hlz)) HF5 (by omega),(HF5.block _ qz hn2).trans ((HBW.o.block _ hqz).trans HQ2.o)⟩
       have hsg':¬((c.of (c.idx s)).2:Int)=0:=(by omega);have HL:Hid (zaO c q s=[(c.idx s,(c.of (c.idx s)).1)]++(zaV zak q.r).flatMap (zcO c (c.idx s))):=(by unfold Hid zaO;simp only[hsg,zM1,not_false_eq_true]);have HA:=za (zhH (c.idx s) (c.of (c.idx s)).1 W HIW.o.lk)
       go_wp2_with (first
        | (go_at_call 134;refine (HWk.o _ w4 (HI4.o.on ((HF4.block _ iz hn1).trans HZW) hn1) (HE2.tt.old ((zm HBW.o hNs).trans (HF4.old HIW.o.hN (λ_ e=>e▸HIW.o.l))))).mono ?_;rintro e w5 ⟨rfl,HI5,HF5⟩)
        | (go_at_call 145;refine HA.o.mono ?_;rintro e w4 ⟨rfl,hL4,HF4⟩;have HI4:=za (HIW.o.put hL4 HF4);have q2':=zgG HF4 q2 hn2))
       go_roundg (gk-1);case measure=>omega
       have hI6:=HI5.lk;rw[zib,zMQ,<- HL.o] at hI6;exact⟨k2+1,L2++zaO c q s,by omega,by omega,by go_num,HI4.o.put hI6 HF5,HT2.o,zbR (zbR (HB2.o.trans (HBW.o.mono hlz)) HF4 (by omega)) HF5 (by omega),(HF5.block _ (by have:=HF4.size;omega) hn2).trans ((HF4.block _ qz hn2).trans ((HBW.o.block _ hqz).trans HQ2.o))⟩
     have ek:k2=q.ns.length:=(by omega);subst ek;rw[List.drop_length,List.flatMap_nil,List.append_nil] at HD2;go_wp2_with fail;go_roundg (gko-1);case measure=>omega
     refine⟨k+1,L2,by omega,by omega,by go_num,HI2.o,?_,HB2.o⟩;rw[<- HD2.o];exact HT.o
  have ek:k=c.nd.eqs.length:=by omega
  subst ek;rw[List.drop_length,List.flatMap_nil,List.append_nil] at HD;obtain⟨a0,af,az⟩:=zu HI.o.x1;go_wp2_with fail;go_ret;refine⟨_,rfl,by omega,?_,HB.o⟩;rw[HD.o];exact HI.o.lk
end
end Go.Proofs.YtenadialhccdiaaGreatDoor
