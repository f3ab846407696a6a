/- Part 11. -/
import Derived.Test.YtenadialhccdiaaGreatDoorK08
set_option maxRecDepth 100000
set_option maxHeartbeats 8000000
namespace Go.Proofs.YtenadialhccdiaaGreatDoor
open Go.Proofs.Tryz
open Go.RowKit
section
variable {N:Nat} {c:Sc} {ev nv:Xv} {w:Xw}
attribute [local go_sem ↓] Go.wp_at_zero Go.wp_at_succ
structure zdA (w:Xw) (N:Nat) (ts:List Tm) (v:Xv):Prop where
 ex:∃a cp,v=.slice a ts.length cp/\ts.length<=cp/\cp<=9223372036854775807/\(ts≠[]->∃g o,a=some (xD g o)/\g<N/\∀i u,ts[i]?=some u->∃ub,w.cell? (xD g (o+i))=some (xP ub)/\TT w N u (xP ub))
theorem zdA.old {w w':Xw}{ts:List Tm}{v:Xv}(h:zdA w N ts v)(ho:Old N w w'):zdA w' N ts v:=by obtain⟨a,cp,h1,h2,h3,h4⟩:=h.ex;refine⟨a,cp,h1,h2,h3,λhne=>?_⟩;obtain⟨g,o,h5,h6,h7⟩:=h4 hne;refine⟨g,o,h5,h6,λi u hi=>?_⟩;obtain⟨ub,h8,h9⟩:=h7 i u hi;exact⟨ub,(zWS (w:=w) (ho g h6)).trans h8,h9.old ho⟩
theorem zkm {t:Tm}{args:Xv}{vs:Xm}(hown:w.ownsRow 0 156 1 args vs.length vs)(hl:vs.length=t.ts.length)(hs:∀(i:Nat) (u:Tm) (x:Xv),t.ts[i]?=some u->vs[i]?=some x->TT w N u x)(hg:∀g,args.ownBlock=some g->g<N):zdA w N t.ts args:=by
 obtain⟨x,cp,rfl⟩:=zB hown;have hcp:vs.length<=cp/\cp<=9223372036854775807:=by
  rcases hown.2 with ⟨e,h⟩|⟨g,cap,cur,hv,_,_,h3,h4,_⟩
  . simp only[Value.slice.injEq] at e;omega
  cases hv;unfold maxLen at h4;exact⟨h3,by omega⟩
 refine⟨x,cp,by rw[hl],by omega,hcp.2,λhne=>?_⟩;have h0:0<vs.length:=by rw[hl];exact List.length_pos_iff.2 hne
 obtain⟨g,cap,hv,_⟩:=zM hown h0;cases hv;refine⟨g,0,rfl,hg g rfl,λi u hu=>?_⟩;have hi:=(zMJ.1 hu).1;have hv:vs[i]?=some vs[i]:=zsc (by omega);have hc:=zhv hown hv;have ht:=hs i u _ hu hv;obtain⟨ub,_,_,e,_⟩:=ht.ptr;rw[e] at hc ht;exact⟨ub,by rw[Nat.zero_add];exact hc,ht⟩
theorem zkY (c:Sc)(ty:Nat)(t:Tm)(l:List Tm):zcv c ty (t::l)=(zaj c t==ty&&zcv c ty l):=rfl
theorem zhS (hc:zbr c)(ty:Nat)(ts:List Tm)(v:Xv)(w:Xw)(HA:zdA w N ts v)(HSc:ScV w N c ev nv)(hN:N<=w.heap.size)(HO:∀t∈ts,zdg c t) :
 xK 138 #[.agg #[ev,nv],xI ty,v] w (λe w'=>e=.returned (.bool (zcv c ty ts))/\xB w w'):=by
 obtain⟨x,cp,rfl,hcp,hmx,_⟩:=HA.ex;obtain⟨xe,cpe,nb,rfl,rfl,hnb⟩:=HSc.shape;go_enter func138,ntmps138;go_wp2_with fail;go_loopg [11] (ts.length+1) (λj i wr=>∃k:Nat,k+j=ts.length+1/\k<=ts.length/\i=xI k/\Hid (zcv c ty (ts.drop k)=zcv c ty ts)/\Hid (xH wr w.heap.size #[xE xe c cpe,xP nb] 188)/\Hid (xB w wr));case atStart=>exact⟨0,by omega,zMN _,rfl,rfl,zc w _,zq w _⟩
 case round =>
  obtain⟨k,hkj,hk,rfl,HS,HX,HB⟩:=hrel;obtain⟨s0,s1,sf,sz⟩:=zp HX.o;by_cases hlt:k<ts.length
  . obtain⟨t,ht⟩:∃t,ts[k]?=some t:=⟨_,zsc hlt⟩;obtain⟨x',cp',e1,_,_,hin⟩:=(HA.old (zm HB.o hN)).ex;cases e1;obtain⟨g,o,rfl,hgN,hat⟩:=hin (by intro e;rw[e] at hlt;simp at hlt);obtain⟨ub,hcu,hTu⟩:=hat k t ht;have HT:=za (zcQ hc t (xP ub) wr hTu (HSc.old (zm HB.o hN)) (by have:=HB.o.size;omega) (HO t (zML ht)));have hd:ts.drop k=t::ts.drop (k+1):=by obtain⟨e1,e2⟩:=zMJ.1 ht;rw[zMT e1,e2]
    have hS:=HS.o;rw[hd,zkY] at hS;have hzr:=HB.o.size;by_cases hq:zaj c t=ty
    . have hq':((zaj c t:Int) != (ty:Int))=false:=(by simp[hq]);have HS2:Hid (zcv c ty (ts.drop (k+1))=zcv c ty ts):=(by unfold Hid;rw[<- hS];simp[hq]);go_wp2_with (go_at_call 136;refine HT.o.mono ?_;rintro e w1 ⟨rfl,HB1⟩);go_roundg (gk-1);case measure=>omega
      exact⟨k+1,by omega,by omega,by go_num,HS2.o,(HB1.block _ sz).trans HX.o,HB.o.trans (HB1.mono hzr)⟩
    have hq':((zaj c t:Int) != (ty:Int))=true:=(by simp;omega);have HS2:Hid (zcv c ty ts=false):=(by unfold Hid;rw[<- hS];simp[hq]);go_wp2_with (go_at_call 136;refine HT.o.mono ?_;rintro e w1 ⟨rfl,HB1⟩);go_ret;exact⟨by rw[HS2.o];rfl,HB.o.trans (HB1.mono hzr)⟩
  have hS:zcv c ty ts=true:=by rw[<- HS.o,List.drop_of_length_le (by omega)];rfl
  have HS2:=za hS;go_wp2_with fail;go_ret;exact⟨by rw[HS2.o];rfl,HB.o⟩
theorem zky (a b:Nat):Ending.returned (.bool ((a:Int)==(b:Int)))=Ending.returned (.bool (a==b)):=by
 have:((a:Int)==(b:Int))=(a==b):=by rw[Bool.eq_iff_iff];simp;omega
 rw[this]
theorem zfS (hc:zbr c)(t1 t2:Tm)(ts:List Tm)(v:Xv)(w:Xw)(hA:zdA w N (t1::t2::ts) v)(HSc:ScV w N c ev nv)(hN:N<=w.heap.size)(hO1:zdg c t1)(hO2:zdg c t2) :
 xK 139 #[.agg #[ev,nv],v] w (λe w'=>e=.returned (.bool (zc9 c (t1::t2::ts)))/\xB w w'):=by
 obtain⟨x,cp,rfl,hcp,hmx,hin⟩:=hA.ex;obtain⟨g,o,rfl,hgN,hat⟩:=hin (by simp);obtain⟨u1,c1,T1⟩:=hat 0 t1 rfl;obtain⟨u2,c2,T2⟩:=hat 1 t2 rfl;obtain⟨xe,cpe,nb,rfl,rfl,hnb⟩:=HSc.shape;have HT1:=za (λW (HB:xB w W)=>zcQ hc t1 (xP u1) W (T1.old (zm HB hN)) (HSc.old (zm HB hN)) (by have:=HB.size;omega) hO1);have HT2:=za (λW (HB:xB w W)=>zcQ hc t2 (xP u2) W (T2.old (zm HB hN)) (HSc.old (zm HB hN)) (by have:=HB.size;omega) hO2);have HE:Hid (zc9 c (t1::t2::ts)=(zaj c t1==zaj c t2)):=by unfold Hid zc9;rw[zbh,zbh,zbh]
 have hgz:g<w.heap.size:=by omega
 rw[Nat.add_zero] at c1;generalize zaj c t1=y1 at *;generalize zaj c t2=y2 at *;have a0:((xD g o):Addr).add 0=⟨g,o,none⟩:=by simp[Addr.add]
 have a1:((xD g o):Addr).add 1=⟨g,o+1,none⟩:=by simp[Addr.add]
 have n0:0<(t1::t2::ts).length:=by simp
 have n1:1<(t1::t2::ts).length:=by simp
 have l0:(0:Int)<((t1::t2::ts).length:Int):=by simp;omega
 have l1:(1:Int)<((t1::t2::ts).length:Int):=by simp;omega
 generalize (t1::t2::ts).length=nn at *;go_enter func139,ntmps139;go_upto_region 1 with fail;refine zn (λW=>(xH W w.heap.size #[xE xe c cpe,xP nb] 188)/\xB w W) ⟨zc w _,zq w _⟩ ?_;rintro W ⟨hs,HB⟩;obtain⟨s0,s1,sf,sz⟩:=zp hs;have c1':=zd HB c1 hgz;have c2':=zd HB c2 hgz;have hzW:=HB.size;have HD1:=za (HT1.o W.drew (zo HB))
 go_region_held3 (λw'=>w'.cell? (xD w.heap.size 0)=some (xE xe c cpe)/\w'.cell? (xD w.heap.size 1)=some (xP nb)/\w'.cell? (xD g o)=some (xP u1)/\w'.cell? (xD g (o+1))=some (xP u2))
  (first|(with_reducible (refine⟨?_,?_,?_,?_⟩ <;> repeat (first|assumption|refine zg ?_|refine zj _ ?_|refine zk (by omega) ?_|refine zd HB2.o ?_ (by first|omega|(rw[zsb];omega))|refine zd HB1.o ?_ (by first|omega|(rw[zsb];omega)))))|go_keep)
  (first
    | (go_at_call 136;refine HD2.o.mono ?_;rintro e w2 ⟨rfl,hB2⟩;have HB2:=za hB2)
    | (go_at_call 136;refine HD1.o.mono ?_;rintro e w1 ⟨rfl,hB1⟩;have HB1:=za (zw hB1);(have hzw1:W.heap.size<=w1.heap.size:=hB1.size);have HD2:=za (HT2.o w1 (HB.trans (HB1.o.mono hzW)))))
 all_goals go_wp2_with fail
 all_goals go_ret
 all_goals exact⟨by rw[HE.o];exact zky y1 y2,(HB.trans (HB1.o.mono hzW)).trans (HB2.o.mono (by omega))⟩
end
section
variable {N k:Nat} {c:Sc} {t:Tm} {v:Xv}
attribute [local go_sem ↓] Go.wp_at_zero Go.wp_at_succ
theorem zo0 {n:Nat}(h:arB k n=true):k<=23:=by
 rcases Nat.lt_or_ge 23 k with h'|h'
 . exfalso;unfold arB at h;simp only[show ¬k<=3 by omega,show ¬k=4 by omega,show ¬k=5 by omega,show ¬k=6 by omega,show ¬k<=8 by omega,show ¬k=9 by omega,show ¬k<=11 by omega,show ¬k<=23 by omega,if_false] at h;cases h
 exact h'
theorem zmE (w:Xw)(h:TT w N t v)(ha:arB t.k t.ts.length=true) :
 xK 140 #[v] w (λe w'=>e=.returned (.bool (zcG t))/\w=w'):=by
 obtain⟨b,args,vs,rfl,hb,hblk,hown,hlen,hsub,_⟩:=h.ptr;obtain⟨h0,h1,h2,h3,h4,h5,hf,hz⟩:=zt hblk;obtain⟨k,a,s,nm,n,ts⟩:=t;simp only[Tm.k,Tm.ts] at *;have h23:=zo0 ha;by_cases h10:k=10
 . subst h10;have hl:0<ts.length:=by simp[arB] at ha;omega
   obtain⟨u,hu⟩:∃u,ts[0]?=some u:=⟨_,zsc hl⟩;obtain⟨xa,cpa,rfl⟩:=zB hown;rw[hlen] at h5 hown;obtain⟨g,ub,rfl,hcu,hTu,_⟩:=TT.arg (t:=.mk 10 a s nm n ts) hown hlen hsub hu;obtain⟨_,_,_,e,_,hub,_⟩:=hTu.ptr;cases e;obtain⟨k0,_⟩:=zt hub;have he:zcG (.mk 10 a s nm n ts)=(u.k==0):=by
    unfold zcG;cases ts with
    | nil=>simp at hl
    | cons x ts=>simp at hu;subst hu;simp[Tm.k,Tm.ts]
   have HE:=za he;generalize u.k=uk at *;by_cases h0':uk=0
   . subst h0';go_enter func140,ntmps140;go_wp2_with fail;go_ret;exact⟨by rw[HE.o];rfl,rfl⟩
   have d0:((uk:Int)==0)=false:=(by simp;omega);go_enter func140,ntmps140;go_wp2_with fail;go_ret;exact⟨by rw[HE.o];simp[h0'],rfl⟩
 have hc:k=0∨k=1∨k=2∨(k≠0/\k≠1/\k≠2):=by omega
 rcases hc with rfl|rfl|rfl|⟨c1,c2,c3⟩
 . go_enter func140,ntmps140;go_wp2_with fail;go_ret;exact⟨rfl,rfl⟩
 . go_enter func140,ntmps140;go_wp2_with fail;go_ret;exact⟨rfl,rfl⟩
 . go_enter func140,ntmps140;go_wp2_with fail;go_ret;exact⟨rfl,rfl⟩
 have d1:((k:Int)==0)=false:=by simp;omega
 have d2:((k:Int)==1)=false:=by simp;omega
 have d3:((k:Int)==2)=false:=by simp;omega
 have d4:((k:Int)==10)=false:=by simp;omega
 have HE:Hid (zcG (.mk k a s nm n ts)=false):=by unfold Hid zcG;exact (zM1 (show ¬(k=0∨k=1∨k=2) by omega)).trans (zM1 (show ¬k=10 from h10))
 go_enter func140,ntmps140;go_wp2_with fail;go_ret;exact⟨by rw[HE.o];rfl,rfl⟩
def zci (k:Nat):Bool:=zaJ k&&k != 3
theorem zj3 (w:Xw)(h:TT w N t v) :
 xK 100 #[v] w (λe w'=>e=.returned (.bool (zci t.k))/\w=w'):=by
 have HN:=za (zf2 w h);obtain⟨b,args,vs,rfl,hb,hblk,_⟩:=h.ptr;obtain⟨h0,h1,h2,h3,h4,h5,hf,hz⟩:=zt hblk;generalize t.k=k at *;cases hn:zaJ k with
 | false => rw[hn] at HN;have HE:Hid (zci k=false):=(by unfold Hid zci;rw[hn];rfl);go_enter func100,ntmps100;go_wp2_with (go_at_call 94;refine HN.o.mono ?_;rintro e w1 ⟨rfl,rfl⟩);go_ret;exact⟨by rw[HE.o];rfl,rfl⟩
 | true =>
   rw[hn] at HN;by_cases h3':k=3
   . subst h3';go_enter func100,ntmps100;go_wp2_with (go_at_call 94;refine HN.o.mono ?_;rintro e w1 ⟨rfl,rfl⟩);go_ret;exact⟨rfl,rfl⟩
   have d1:((k:Int) != 3)=true:=(by simp;omega);have HE:Hid (zci k=true):=(by unfold Hid zci;rw[hn];simp[h3']);go_enter func100,ntmps100;go_wp2_with (go_at_call 94;refine HN.o.mono ?_;rintro e w1 ⟨rfl,rfl⟩);go_ret;exact⟨by rw[HE.o];rfl,rfl⟩
theorem ze3 {ts:List Tm}{vs:List Vr}{v:Vr}(ht:ts[k]?=some t)(hv:vs[k]?=some v):zaQ c (ts.drop k) (vs.drop k)=if (zaj c t != tyV v)=true then false else zaQ c (ts.drop (k+1)) (vs.drop (k+1)):=by obtain⟨h1,h2⟩:=zMJ.1 ht;obtain⟨h3,h4⟩:=zMJ.1 hv;rw[zMT h1,zMT h3,h2,h4];rfl
theorem zlM {d:Sc}{ev nv:Xv}(hc:zbr c)(t:Tm)(v:Xv)(w:Xw)(hT:TT w N t v)(HSc:ScV w N c ev nv)(hN:N<=w.heap.size)(HO:zdg c t)(hd:c.called t.s=some d)(hdi:d.nd.ins=t.ts.length) :
 xK 141 #[.agg #[ev,nv],v] w (λe w'=>e=.returned (.bool (zaQ c t.ts d.nd.vars))/\xB w w'):=by
 obtain⟨b,args,vs,rfl,hb,HBk,hown,hlen,hsub,hgs⟩:=hT.ptr;have hdw:=(hc.called hd).1.nd;have HA:=za (zkm hown hlen hsub hgs);obtain⟨xa,cpa,rfl⟩:=zB hown;obtain⟨xe,cpe,nb,rfl,rfl,hnb⟩:=HSc.shape;have hbz:=ze HBk;rw[hlen] at HBk HA;have hio:=hdw.io;have hou:=hdw.outs;have hfw:=hdw.few;go_enter func141,ntmps141;go_upto_region 1 with fail;refine zn (λW=>W.heap[w.heap.size]?=some (.cells #[xE xe c cpe,xP nb] 188 (0,0))/\xB w W) ⟨zc w _,zq w _⟩ ?_;rintro W ⟨Hs,HB⟩;obtain⟨s0,s1,sf,sz⟩:=zp Hs;obtain⟨m0,m1,m2,m3,m4,m5,mf,mz⟩:=zt ((HB.block b hbz).trans HBk);have hzW:=HB.size;have PRE:∀W,xB w W->ScV W N c (xE xe c cpe) (xP nb):=λW HB=>HSc.old (zm HB hN);have HC1:=za (zah t.s (t.nm:Int) W.drew (PRE W.drew (zo HB)) (by show N<=W.heap.size;omega) hc.few hd);have HC2:=za (λo=>zah t.s (t.nm:Int) (W.alloc o).drew (PRE _ (zo (HB.alloc (by omega) o))) (by show N<=(W.alloc o).heap.size;simp;omega) hc.few hd)
 go_region_held3 (λw'=>w'.cell? (xD w.heap.size 0)=some (xE xe c cpe)/\w'.cell? (xD w.heap.size 1)=some (xP nb)/\w'.cell? (xD b 2)=some (.string t.s)/\w'.cell? (xD b 3)=some (xI t.nm))
  (first|(with_reducible (refine⟨?_,?_,?_,?_⟩ <;> repeat (first|assumption|refine zg ?_|refine zj _ ?_|refine zk (by omega) ?_|refine zd HB1.o ?_ (by first|omega|(rw[zsb];omega)))))|go_keep)
  (first
    | (go_at_call 89;refine HC1.o.mono ?_;rintro e w1 ⟨x2,cp2,n2,rfl,hsc,hB1⟩;have HB1:=za (zw hB1);have HS2:=za hsc)
    | (go_at_call 89;refine (HC2.o _).mono ?_;rintro e w1 ⟨x2,cp2,n2,rfl,hsc,hB1⟩;have HB1:=za (zw hB1);have HS2:=za hsc;obtain⟨y0,y1,yf,yz⟩:=zp ((HB1.o.block W.heap.size (by rw[zsb];omega)).trans (zc W _))))
 all_goals go_upto_region 2 with fail
 refine zn (λW2=>Got w N d w1.heap.size n2 x2 cp2 W2/\xH W2 w.heap.size #[xE xe c cpe,xP nb] 188) ⟨zow HB HB1.o HS2.o hN,(zWP _ _ _ (by have:=HB1.o.size;omega)).trans ((HB1.o.block _ sz).trans Hs)⟩ ?_;generalize w1.heap.size=wz;rotate_left;refine zn (λW2=>Got w N d W.heap.size n2 x2 cp2 W2/\xH W2 w.heap.size #[xE xe c cpe,xP nb] 188) ⟨zos HB HB1.o HS2.o hN,(zr (by omega) rfl).trans ((zr (by omega) rfl).trans ((HB1.o.block _ (by rw[zsb];omega)).trans ((zWP _ _ _ sz).trans Hs)))⟩ ?_;generalize W.heap.size=wz
 all_goals
  rintro W2 ⟨HG,HSb⟩;obtain⟨t0,t1,tf,tz⟩:=zp HG.box;obtain⟨p0,p1,pf,pz⟩:=zp HSb;obtain⟨k0,k1,k2,k3,k4,k5,kf,kz⟩:=zt ((HG.bel.block b hbz).trans HBk);have hzz:=HG.bel.size;obtain⟨n2',vs2,qv2,xs2,e9,HNt⟩:=HG.sc.nd;cases e9;obtain⟨xv,cpv,rfl⟩:=zB HNt.vown;have hn2:=HNt.lo;obtain⟨_,_,e1,_,h16,_⟩:=HA.o.ex;simp only[Value.slice.injEq] at e1;obtain⟨rfl,_,rfl⟩:=e1;go_wp2_with fail;go_loopg [24] (t.ts.length+1) (λj i wr=>∃k:Nat,k+j=t.ts.length+1/\k<=t.ts.length/\i=xI k/\Hid (zaQ c (t.ts.drop k) (d.nd.vars.drop k)=zaQ c t.ts d.nd.vars)/\Hid (xB W2 wr));case atStart=>exact⟨0,by omega,zMN _,rfl,rfl,zWQ _ _⟩
  case round =>
   obtain⟨k,hkj,hk,rfl,HS,HBr⟩:=hrel;have hBw:xB w wr:=HG.bel.trans (HBr.o.mono hzz);have hzr:=HBr.o.size;by_cases hlt:k<t.ts.length
   . obtain⟨u,hu⟩:∃u,t.ts[k]?=some u:=⟨_,zsc hlt⟩;obtain⟨v,hv⟩:∃v,d.nd.vars[k]?=some v:=⟨_,zsc (by omega)⟩;obtain⟨x',cp',e1,_,_,hin⟩:=(HA.o.old (zm hBw hN)).ex;simp only[Value.slice.injEq] at e1;obtain⟨rfl,_,rfl⟩:=e1;obtain⟨g,o,rfl,hgN,hat⟩:=hin (by intro e;rw[e] at hlt;simp at hlt);obtain⟨ub,hcu,hTu⟩:=hat k u hu;have hnt2:=HNt.old (zm HBr.o (by omega:N<=W2.heap.size));obtain⟨gv,rfl,_,_,c2,_⟩:=zaM hnt2.vown hv;have hgv:=hnt2.vlo gv rfl;obtain⟨q0,q1,q2,q3,q4,q5,qf,qz⟩:=zt hnt2.blk;have b0:=zd HBr.o p0 pz;have b1:=zd HBr.o p1 pz;have d1:=zd HBr.o t1 tz;have HT:=za (zcQ hc u (xP ub) wr.drew (hTu.old (λ_ _=>rfl)) (HSc.old (w':=wr.drew) (zm (zo hBw) hN)) (by show N<=wr.heap.size;omega) (HO.sub (zML hu)));have hS:=ze3 (c:=c) hu hv;rw[HS.o] at hS;have i0:(0:Int)<=(k:Int):=(by omega);have i1:(k:Int)<(d.nd.vars.length:Int):=(by omega);have hty:tyV v=zaK v:=rfl;rw[hty] at hS;have hgvz:gv<wr.heap.size:=(by omega);have hnz:n2<wr.heap.size:=(by omega);generalize zaj c u=y1 at *;generalize zaK v=y2 at *;by_cases hq:y1=y2
     . have hq':((y1:Int) != (y2:Int))=false:=(by simp[hq]);rw[zM1 (by simp[hq])] at hS;have HS2:=za hS;go_upto_region 5 with fail
       go_region_held3 (λw'=>w'.cell? (xD w.heap.size 0)=some (xE xe c cpe)/\w'.cell? (xD w.heap.size 1)=some (xP nb)/\w'.cell? (xD wz 1)=some (xP n2)/\w'.cell? (xD n2 2)=some (xS gv d.nd.vars.length cpv)/\w'.cell? (xD gv (k*7+2))=some (xI y2))
        (first|(with_reducible (refine⟨?_,?_,?_,?_,?_⟩ <;> repeat (first|assumption|refine zg ?_|refine zj _ ?_|refine zk (by omega) ?_|refine zd HB1.o ?_ (by first|omega|(rw[zsb];omega)))))|go_keep)
        (first
          | (go_at_call 136;refine HT.o.mono ?_;rintro e w8 ⟨rfl,hB1⟩;have HB1:=za (zw hB1)))
       all_goals go_wp2_with fail
       all_goals
        go_roundg (gk-1);case measure=>omega
        exact⟨k+1,by omega,by omega,by go_num,HS2.o.symm,HBr.o.trans (HB1.o.mono hzr)⟩
     have hq':((y1:Int) != (y2:Int))=true:=(by simp;omega);rw[zM2 (by simp[hq])] at hS;have HS2:=za hS;go_upto_region 5 with fail
     go_region_held3 (λw'=>w'.cell? (xD w.heap.size 0)=some (xE xe c cpe)/\w'.cell? (xD w.heap.size 1)=some (xP nb)/\w'.cell? (xD wz 1)=some (xP n2)/\w'.cell? (xD n2 2)=some (xS gv d.nd.vars.length cpv)/\w'.cell? (xD gv (k*7+2))=some (xI y2))
      (first|(with_reducible (refine⟨?_,?_,?_,?_,?_⟩ <;> repeat (first|assumption|refine zg ?_|refine zj _ ?_|refine zk (by omega) ?_|refine zd HB1.o ?_ (by first|omega|(rw[zsb];omega)))))|go_keep)
      (first
        | (go_at_call 136;refine HT.o.mono ?_;rintro e w8 ⟨rfl,hB1⟩;have HB1:=za (zw hB1)))
     all_goals go_wp2_with fail
     all_goals go_ret
     all_goals exact⟨by rw[HS2.o];rfl,hBw.trans (HB1.o.mono (by omega))⟩
   have hS:zaQ c t.ts d.nd.vars=true:=(by rw[<- HS.o,List.drop_of_length_le (by omega)];rfl);have HS2:=za hS;go_wp2_with fail;go_ret;exact⟨by rw[HS2.o];rfl,hBw⟩
end
section
variable {ts:List Tm} {N cp n:Nat} {w:Xw}
attribute [local go_sem ↓] Go.wp_at_zero Go.wp_at_succ
theorem zdA.cut {a:Xp}(h:zdA w N ts (.slice a n cp)){k:Nat}(hk:k<=ts.length):zdA w N (ts.take k) (.slice a k cp):=by
 obtain⟨a',cp',h1,h2,h3,h4⟩:=h.ex;cases h1;have hl:(ts.take k).length=k:=by simp;omega
 refine⟨a,cp,by rw[hl],by omega,h3,λhne=>?_⟩;have hts:ts≠[]:=by intro e;subst e;simp at hne
 obtain⟨g,o,h5,h6,h7⟩:=h4 hts;refine⟨g,o,h5,h6,λi u hi=>h7 i u ?_⟩;rw[List.getElem?_take] at hi;split at hi
 . exact hi
 cases hi
theorem zaX {f:FuncId}{args:Xa}{v:Xv}(h:xK f args (w.drewN n) (λe w'=>e=.returned v/\w.drewN n=w')):xK f args (w.drewN n) (λe w'=>e=.returned v/\∃m,w'=w.drewN m):=h.mono λ_ _ h=>⟨h.1,n,h.2.symm⟩
theorem zdA.rest {t:Tm}{g o:Nat}(h:zdA w N (t::ts) (.slice (some (xD g o)) n cp)):zdA w N ts (.slice (some (xD g (o+1))) ts.length (cp-1)):=by obtain⟨a',cp',h1,h2,h3,h4⟩:=h.ex;cases h1;simp only[zMR] at h2;refine⟨_,cp-1,rfl,by omega,by omega,λhne=>?_⟩;obtain⟨g',o',h5,h6,h7⟩:=h4 (by simp);cases h5;refine⟨g,o+1,rfl,h6,λi u hi=>?_⟩;obtain⟨ub,h8,h9⟩:=h7 (i+1) u (by simpa using hi);exact⟨ub,by rw[show o+1+i=o+(i+1) by omega];exact h8,h9⟩
theorem ziU {c:Sc}{ev nv:Xv}(hc:zbr c)(t:Tm)(v:Xv)(w:Xw)(HTT:TT w N t v)(HSc:ScV w N c ev nv)(hN:N<=w.heap.size)(HO:zdg c t) :
 xK 101 #[.agg #[ev,nv],v] w (λe w'=>e=.returned (.bool (c.operands t))/\xB w w'):=by
 obtain⟨b,args,vs,rfl,hb,hblk,hown,hlen,hsub,hgs⟩:=HTT.ptr;have hA0:=zkm hown hlen hsub hgs;obtain⟨xa,cpa,rfl⟩:=zB hown;obtain⟨xe,cpe,nb,rfl,rfl,hnb⟩:=HSc.shape;have hbz:=ze hblk;obtain⟨o1,o2,o3⟩:=HO _ (zey za5 _);obtain⟨k,a,s,nm,n,ts⟩:=t;have hlen':vs.length=ts.length:=hlen;have hblk':w.heap[b]?=some (.cells #[xI k,xI a,.string s,xI nm,xI n,.slice xa ts.length cpa] 198 (0,0)):=by rw[<- hlen'];exact hblk
 have HBk:=za hblk';have HA:zdA w N ts (.slice xa ts.length cpa):=by rw[<- hlen'];exact hA0
 have HOs:∀u∈ts,zdg c u:=λu hu=>HO.sub hu;simp only[Tm.k,Tm.s,Tm.ts] at o1 o2 o3;have h23:=zo0 o3;obtain⟨h0,h1,h2,h3,h4,h5,hf,hz⟩:=zt hblk';have hmx:ts.length<=cpa/\cpa<=9223372036854775807:=by obtain⟨_,_,e,h2,h3,_⟩:=HA.ex;cases e;exact⟨h2,h3⟩
 have PRE:∀W,xB w W->ScV W N c (xE xe c cpe) (xP nb):=λW HB=>HSc.old (zm HB hN);have hcases:(k=10∨k=17∨k=18∨k=19∨k=20∨k=21∨k=22∨k=23)∨(k=11∨k=12∨k=13∨k=14)∨(k=15∨k=16∨k=6)∨k=5∨k=9∨k=4∨(k=0∨k=1∨k=2∨k=3∨k=7∨k=8):=by omega
 rcases hcases with hk|hk|hk|rfl|rfl|rfl|hk
 . rcases hk with rfl|rfl|rfl|rfl|rfl|rfl|rfl|rfl
   all_goals
    go_enter func101,ntmps101;go_upto_region 10 with fail;refine zn (λW=>(xH W w.heap.size #[xE xe c cpe,xP nb] 188)/\xB w W) ⟨zc w _,zq w _⟩ ?_;rintro W ⟨hs,HB⟩;obtain⟨s0,s1,sf,sz⟩:=zp hs;obtain⟨m0,m1,m2,m3,m4,m5,mf,mz⟩:=zt ((HB.block b hbz).trans HBk.o);have hzW:=HB.size;have HD:=za (zhS hc 0 ts (.slice xa ts.length cpa) W.drew (HA.old (zm (zo HB) hN)) (PRE W.drew (zo HB)) (by show N<=W.heap.size;omega) HOs)
    go_region_held3 (λw'=>w'.cell? (xD w.heap.size 0)=some (xE xe c cpe)/\w'.cell? (xD w.heap.size 1)=some (xP nb)/\w'.cell? (xD b 5)=some (.slice xa ts.length cpa))
     (first|(with_reducible (refine⟨?_,?_,?_⟩ <;> repeat (first|assumption|refine zg ?_|refine zj _ ?_|refine zk (by omega) ?_|refine zd HB1.o ?_ (by first|omega|(rw[zsb];omega)))))|go_keep)
     (first
       | (go_at_call 138;refine HD.o.mono ?_;rintro e w1 ⟨rfl,hB1⟩;have HB1:=za (zw hB1)))
    all_goals go_wp2_with fail
    all_goals go_ret
    all_goals exact⟨by rfl,HB.trans (HB1.o.mono (by omega))⟩
 . rcases hk with rfl|rfl|rfl|rfl
   all_goals
    go_enter func101,ntmps101;go_upto_region 15 with fail;refine zn (λW=>(xH W w.heap.size #[xE xe c cpe,xP nb] 188)/\xB w W) ⟨zc w _,zq w _⟩ ?_;rintro W ⟨hs,HB⟩;obtain⟨s0,s1,sf,sz⟩:=zp hs;obtain⟨m0,m1,m2,m3,m4,m5,mf,mz⟩:=zt ((HB.block b hbz).trans HBk.o);have hzW:=HB.size;have HD:=za (zhS hc 1 ts (.slice xa ts.length cpa) W.drew (HA.old (zm (zo HB) hN)) (PRE W.drew (zo HB)) (by show N<=W.heap.size;omega) HOs)
    go_region_held3 (λw'=>w'.cell? (xD w.heap.size 0)=some (xE xe c cpe)/\w'.cell? (xD w.heap.size 1)=some (xP nb)/\w'.cell? (xD b 5)=some (.slice xa ts.length cpa))
     (first|(with_reducible (refine⟨?_,?_,?_⟩ <;> repeat (first|assumption|refine zg ?_|refine zj _ ?_|refine zk (by omega) ?_|refine zd HB1.o ?_ (by first|omega|(rw[zsb];omega)))))|go_keep)
     (first
       | (go_at_call 138;refine HD.o.mono ?_;rintro e w1 ⟨rfl,hB1⟩;have HB1:=za (zw hB1)))
    all_goals go_wp2_with fail
    all_goals go_ret
    all_goals exact⟨by rfl,HB.trans (HB1.o.mono (by omega))⟩
 . rcases hk with rfl|rfl|rfl
   all_goals
    obtain⟨t1,t2,rest,rfl⟩:∃t1 t2 rest,ts=t1::t2::rest:=by
     rcases ts with _|⟨t1,_|⟨t2,rest⟩⟩
     . simp[arB] at o3
     . simp[arB] at o3
     exact⟨t1,t2,rest,rfl⟩
    go_enter func101,ntmps101;go_upto_region 19 with fail;refine zn (λW=>W.heap[w.heap.size]?=some (.cells #[xE xe c cpe,xP nb] 188 (0,0))/\xB w W) ⟨zc w _,zq w _⟩ ?_;rintro W ⟨hs,HB⟩;obtain⟨s0,s1,sf,sz⟩:=zp hs;obtain⟨m0,m1,m2,m3,m4,m5,mf,mz⟩:=zt ((HB.block b hbz).trans HBk.o);have hzW:=HB.size;have HD:=za (zfS hc t1 t2 rest (.slice xa (t1::t2::rest).length cpa) W.drew (HA.old (zm (zo HB) hN)) (PRE W.drew (zo HB)) (by show N<=W.heap.size;omega) (HOs t1 (by simp)) (HOs t2 (by simp)));generalize hnn:(t1::t2::rest).length=nn at *
    go_region_held3 (λw'=>w'.cell? (xD w.heap.size 0)=some (xE xe c cpe)/\w'.cell? (xD w.heap.size 1)=some (xP nb)/\w'.cell? (xD b 5)=some (.slice xa nn cpa))
     (first|(with_reducible (refine⟨?_,?_,?_⟩ <;> repeat (first|assumption|refine zg ?_|refine zj _ ?_|refine zk (by omega) ?_|refine zd HB1.o ?_ (by first|omega|(rw[zsb];omega)))))|go_keep)
     (first
       | (go_at_call 139;refine HD.o.mono ?_;rintro e w1 ⟨rfl,hB1⟩;have HB1:=za (zw hB1)))
    all_goals go_wp2_with fail
    all_goals go_ret
    all_goals exact⟨by rfl,HB.trans (HB1.o.mono (by omega))⟩
 . obtain⟨t1,t2,t3,rest,rfl⟩:∃t1 t2 t3 rest,ts=t1::t2::t3::rest:=by
    rcases ts with _|⟨t1,_|⟨t2,_|⟨t3,rest⟩⟩⟩
    . simp[arB] at o3
    . simp[arB] at o3
    . simp[arB] at o3
    exact⟨t1,t2,t3,rest,rfl⟩
   obtain⟨x9,cp9,e9,_,_,hin⟩:=HA.ex;cases e9;obtain⟨g,o,rfl,hgN,_⟩:=hin (by simp);have HE:Hid (c.operands (.mk 5 a s nm n (t1::t2::t3::rest))=(zcv c 1 [t1]&&zc9 c (t2::t3::rest))):=rfl;have HR:=za HA.rest;have HC:=za (HA.cut (k:=1) (by simp));have Hal:=za (λW (HB:xB w W)=>zhS hc 1 [t1] (.slice (some (xD g o)) 1 cpa) W (HC.o.old (zm HB hN)) (PRE W HB) (by have:=HB.size;omega) (λu hu=>HOs u (by simp at hu;simp[hu])));have Hak:=za (λW (HB:xB w W)=>zfS hc t2 t3 rest (.slice (some (xD g (o+1))) (t2::t3::rest).length (cpa-1)) W (HR.o.old (zm HB hN)) (PRE W HB) (by have:=HB.size;omega) (HOs t2 (by simp)) (HOs t3 (by simp)));have hl1:(t2::t3::rest).length=(t1::t2::t3::rest).length-1:=(by simp);rw[hl1] at Hak;have n3:3<=(t1::t2::t3::rest).length:=(by simp);generalize hnn:(t1::t2::t3::rest).length=nn at *;have j0:(1:Int)<=(nn:Int):=(by omega);have j1:(1:Int)<=(cpa:Int):=(by omega);have j2:¬(cpa=1):=(by omega);have j3:¬((cpa:Int)=1):=(by omega);have a1:((xD g o):Addr).add 1=⟨g,o+1,none⟩:=(by simp[Addr.add]);cases hb1:zcv c 1 [t1] with
   | true =>
     rw[hb1] at HE Hal;go_enter func101,ntmps101;go_upto_region 21 with fail;refine zn (λW=>(xH W w.heap.size #[xE xe c cpe,xP nb] 188)/\xB w W) ⟨zc w _,zq w _⟩ ?_;rintro W ⟨hs,HB⟩;obtain⟨s0,s1,sf,sz⟩:=zp hs;obtain⟨m0,m1,m2,m3,m4,m5,mf,mz⟩:=zt ((HB.block b hbz).trans HBk.o);have hzW:=HB.size;have HD1:=za (Hal.o W.drew (zo HB))
     go_region_held3 (λw'=>w'.cell? (xD w.heap.size 0)=some (xE xe c cpe)/\w'.cell? (xD w.heap.size 1)=some (xP nb)/\w'.cell? (xD b 5)=some (.slice (some (xD g o)) nn cpa))
      (first|(with_reducible (refine⟨?_,?_,?_⟩ <;> repeat (first|assumption|refine zg ?_|refine zj _ ?_|refine zk (by omega) ?_|refine zd HB2.o ?_ (by first|omega|(rw[zsb];omega))|refine zd HB1.o ?_ (by first|omega|(rw[zsb];omega)))))|go_keep)
      (first
        | (go_at_call 139;refine HD2.o.mono ?_;rintro e w2 ⟨rfl,hB2⟩;have HB2:=za hB2)
        | (go_at_call 138;refine HD1.o.mono ?_;rintro e w1 ⟨rfl,hB1⟩;have HB1:=za (zw hB1);(have hzw1:W.heap.size<=w1.heap.size:=hB1.size);have HD2:=za (Hak.o w1 (HB.trans (HB1.o.mono hzW)))))
     all_goals go_wp2_with fail
     all_goals go_ret
     all_goals exact⟨by rw[HE.o];rfl,(HB.trans (HB1.o.mono hzW)).trans (HB2.o.mono (by omega))⟩
   | false =>
     rw[hb1] at HE Hal;go_enter func101,ntmps101;go_upto_region 21 with fail;refine zn (λW=>(xH W w.heap.size #[xE xe c cpe,xP nb] 188)/\xB w W) ⟨zc w _,zq w _⟩ ?_;rintro W ⟨hs,HB⟩;obtain⟨s0,s1,sf,sz⟩:=zp hs;obtain⟨m0,m1,m2,m3,m4,m5,mf,mz⟩:=zt ((HB.block b hbz).trans HBk.o);have hzW:=HB.size;have HD1:=za (Hal.o W.drew (zo HB));refine wp_region_noPanic ?_;refine wp_region_held_drew (S:=(λw'=>w'.cell? (xD w.heap.size 0)=some (xE xe c cpe)/\w'.cell? (xD w.heap.size 1)=some (xP nb)/\w'.cell? (xD b 5)=some (.slice (some (xD g o)) nn cpa))) (by kernel_rfl) ?_ (λhHeld=>?_)
     . (try dsimp only);(first|(with_reducible (refine⟨?_,?_,?_⟩ <;> repeat (first|assumption|refine zg ?_|refine zj _ ?_|refine zk (by omega) ?_|refine zd HB1.o ?_ (by first|omega|(rw[zsb];omega)))))|go_keep)
     refine tkA 0 rfl (v:=?v1) (zM3 ⟨by rfl,?h1⟩) ?_;case h1=>(intro w hSw;(try dsimp only at hSw);go_simp;try with_reducible rfl)
     try simp only[Act.put,zx2]
     refine tkA 1 rfl (v:=?v2) (zM3 ⟨by rfl,?h2⟩) ?_;case h2=>(intro w hSw;(try dsimp only at hSw);go_simp;try with_reducible rfl)
     try simp only[Act.put,zx2]
     refine tkA 2 rfl (v:=?v3) (zM3 ⟨by rfl,?h3⟩) ?_;case h3=>(intro w hSw;(try dsimp only at hSw);go_simp;try with_reducible rfl)
     try simp only[Act.put,zx2]
     refine tkA 3 rfl (v:=?v4) (zM3 ⟨by rfl,?h4⟩) ?_;case h4=>(intro w hSw;(try dsimp only at hSw);go_simp;try with_reducible rfl)
     try simp only[Act.put,zx2]
     refine tkA 4 rfl (v:=?v5) (zM3 ⟨by rfl,?h5⟩) ?_;case h5=>(intro w hSw;(try dsimp only at hSw);go_simp;try with_reducible rfl)
     try simp only[Act.put,zx2]
     refine tkA 5 rfl (v:=?v6) (zM3 ⟨by rfl,?h6⟩) ?_;case h6=>(intro w hSw;(try dsimp only at hSw);go_simp;try with_reducible rfl)
     try simp only[Act.put,zx2]
     refine wpAnyH_ready (rs:=[6]) (by kernel_rfl) (by simp) ?_;refine AllReadyH.cons rfl (λK hK=>?_) ?_;go_simp;first|go_at_K|(((go_at_call 138;refine HD1.o.mono ?_;rintro e w1 ⟨rfl,hB1⟩;have HB1:=za (zw hB1)));first|go_at_K|go_wp2_with fail)
     refine hK.out _ _ ?_ (λh9=>?_)
     . (try dsimp only);(first|(with_reducible (refine⟨?_,?_,?_⟩ <;> repeat (first|assumption|refine zg ?_|refine zj _ ?_|refine zk (by omega) ?_|refine zd HB1.o ?_ (by first|omega|(rw[zsb];omega)))))|go_keep)
     clear hK K hHeld;have hHeld:=h9;try simp only[Act.put,zx2]
     refine tkA 7 rfl (v:=?v7) (zM3 ⟨by rfl,?h7⟩) ?_;case h7=>(intro w hSw;(try dsimp only at hSw);go_simp;try with_reducible rfl)
     try simp only[Act.put,zx2]
     refine tkH (i:=8) (v:=undef) rfl (by kernel_rfl) (λ_ _ _ HSc=>HSc) (zM4 ⟨by rfl,rfl⟩) (by assumption) ?_;try simp only[Act.put,zx2]
     refine tkH (i:=9) (v:=undef) rfl (by kernel_rfl) (λ_ _ _ HSc=>HSc) (zM4 ⟨by rfl,rfl⟩) (by assumption) ?_;try simp only[Act.put,zx2]
     refine tkH (i:=10) (v:=undef) rfl (by kernel_rfl) (λ_ _ _ HSc=>HSc) (zM4 ⟨by rfl,rfl⟩) (by assumption) ?_;try simp only[Act.put,zx2]
     refine tkH (i:=11) (v:=undef) rfl (by kernel_rfl) (λ_ _ _ HSc=>HSc) (zM4 ⟨by rfl,rfl⟩) (by assumption) ?_;try simp only[Act.put,zx2]
     refine tkH (i:=12) (v:=undef) rfl (by kernel_rfl) (λ_ _ _ HSc=>HSc) (zM4 ⟨by rfl,rfl⟩) (by assumption) ?_;try simp only[Act.put,zx2]
     refine tkH (i:=13) (v:=undef) rfl (by kernel_rfl) (λ_ _ _ HSc=>HSc) (zM4 ⟨by rfl,rfl⟩) (by assumption) ?_;try simp only[Act.put,zx2]
     refine tkH (i:=14) (v:=undef) rfl (by kernel_rfl) (λ_ _ _ HSc=>HSc) (zM4 ⟨by rfl,rfl⟩) (by assumption) ?_;try simp only[Act.put,zx2]
     refine tkA 15 rfl (v:=?v8) (zM3 ⟨by rfl,?h8⟩) ?_;case h8=>(intro w hSw;(try dsimp only at hSw);go_simp;try with_reducible rfl)
     try simp only[Act.put,zx2]
     refine tkA 16 rfl (v:=?v9) (zM3 ⟨by rfl,?h9⟩) ?_;case h9=>(intro w hSw;(try dsimp only at hSw);go_simp;try with_reducible rfl)
     try simp only[Act.put,zx2]
     refine wpAnyH_done (by kernel_rfl) ?_ _;rotate_left;exact AllReadyH.nil;all_goals refine NoPanic.normal ?_
     all_goals go_wp2_with fail
     all_goals go_ret
     all_goals exact⟨by rw[HE.o];rfl,HB.trans (HB1.o.mono hzW)⟩
 . obtain⟨t1,t2,rest,rfl⟩:∃t1 t2 rest,ts=t1::t2::rest:=by
    rcases ts with _|⟨t1,_|⟨t2,rest⟩⟩
    . simp[arB] at o3
    . simp[arB] at o3
    exact⟨t1,t2,rest,rfl⟩
   obtain⟨x9,cp9,e9,_,_,hin⟩:=HA.ex;cases e9;obtain⟨g,o,rfl,hgN,hat⟩:=hin (by simp);obtain⟨ub,hcu,hTu⟩:=hat 0 t1 rfl;rw[Nat.add_zero] at hcu;have HE:Hid (c.operands (.mk 9 a s nm n (t1::t2::rest))=(zcG t1&&zc9 c (t1::t2::rest))):=rfl;have Hcn:=za (λW (HB:xB w W)=>zmE W (hTu.old (zm HB hN)) ((HOs t1 (by simp)) t1 (zey za5 _)).2.2);have Hak:=za (λW (HB:xB w W)=>zfS hc t1 t2 rest (.slice (some (xD g o)) (t1::t2::rest).length cpa) W (HA.old (zm HB hN)) (PRE W HB) (by have:=HB.size;omega) (HOs t1 (by simp)) (HOs t2 (by simp)));have n3:0<(t1::t2::rest).length:=(by simp);generalize hnn:(t1::t2::rest).length=nn at *;have j0:(0:Int)<(nn:Int):=(by omega);have a0:((xD g o):Addr).add 0=⟨g,o,none⟩:=(by simp[Addr.add]);cases hb1:zcG t1 with
   | true =>
     rw[hb1] at HE Hcn;go_enter func101,ntmps101;go_upto_region 23 with fail;refine zn (λW=>(xH W w.heap.size #[xE xe c cpe,xP nb] 188)/\xB w W) ⟨zc w _,zq w _⟩ ?_;rintro W ⟨hs,HB⟩;obtain⟨s0,s1,sf,sz⟩:=zp hs;obtain⟨m0,m1,m2,m3,m4,m5,mf,mz⟩:=zt ((HB.block b hbz).trans HBk.o);have hzW:=HB.size;have hcu':=zd HB hcu (by omega);have HD1:=za (Hcn.o W.drew (zo HB));have HD2:=za (Hak.o W.drew (zo HB))
     go_region_held3 (λw'=>w'.cell? (xD w.heap.size 0)=some (xE xe c cpe)/\w'.cell? (xD w.heap.size 1)=some (xP nb)/\w'.cell? (xD b 5)=some (.slice (some (xD g o)) nn cpa)/\w'.cell? (xD g o)=some (xP ub))
      (first|(with_reducible (refine⟨?_,?_,?_,?_⟩ <;> repeat (first|assumption|refine zg ?_|refine zj _ ?_|refine zk (by omega) ?_|refine zd HB2.o ?_ (by first|omega|(rw[zsb];omega)))))|go_keep)
      (first
        | (go_at_call 139;refine HD2.o.mono ?_;rintro e w2 ⟨rfl,hB2⟩;have HB2:=za (zw hB2))
        | (go_at_call 140;refine HD1.o.mono ?_;rintro e w1 ⟨rfl,rfl⟩))
     all_goals go_wp2_with fail
     all_goals go_ret
     all_goals exact⟨by rw[HE.o];rfl,HB.trans (HB2.o.mono (by omega))⟩
   | false =>
     rw[hb1] at HE Hcn;go_enter func101,ntmps101;go_upto_region 23 with fail;refine zn (λW=>(xH W w.heap.size #[xE xe c cpe,xP nb] 188)/\xB w W) ⟨zc w _,zq w _⟩ ?_;rintro W ⟨hs,HB⟩;obtain⟨s0,s1,sf,sz⟩:=zp hs;obtain⟨m0,m1,m2,m3,m4,m5,mf,mz⟩:=zt ((HB.block b hbz).trans HBk.o);have hzW:=HB.size;have hcu':=zd HB hcu (by omega);have HD1:=za (λq=>zaX (Hcn.o (W.drewN q) (zI HB q)));go_quiet ((go_at_call 140;exact HD1.o _));all_goals go_wp2_with fail
     all_goals go_ret
     all_goals exact⟨by rw[HE.o];rfl,zI HB _⟩
 . obtain⟨d,hd,hdi⟩:=o2 rfl;have HE:Hid (c.operands (.mk 4 a s nm n ts)=zaQ c ts d.nd.vars):=by
    unfold Hid Sc.operands
    show (match c.called s with|none=>true|some d=>zaQ c ts d.nd.vars)=_;rw[hd]
   go_enter func101,ntmps101;go_upto_region 25 with fail;refine zn (λW=>(xH W w.heap.size #[xE xe c cpe,xP nb] 188)/\xB w W) ⟨zc w _,zq w _⟩ ?_;rintro W ⟨hs,HB⟩;obtain⟨s0,s1,sf,sz⟩:=zp hs;obtain⟨m0,m1,m2,m3,m4,m5,mf,mz⟩:=zt ((HB.block b hbz).trans HBk.o);have hzW:=HB.size;have HD:=za (zlM hc (.mk 4 a s nm n ts) (xP b) W (HTT.old (zm HB hN)) (PRE W HB) (by omega) HO hd hdi);go_wp2_with (go_at_call 141;refine HD.o.mono ?_;rintro e w1 ⟨rfl,hB1⟩;have HB1:=za hB1);go_ret;exact⟨by rw[HE.o];rfl,HB.trans (HB1.o.mono (by omega))⟩
 rcases hk with rfl|rfl|rfl|rfl|rfl|rfl
 all_goals
  go_enter func101,ntmps101;go_wp2_with fail;go_ret;exact⟨rfl,zq _ _⟩
end
section
variable {s:Xb} {ns:Xl} {N k:Nat} {c:Sc} {ev nv:Xv}
attribute [local go_sem ↓] Go.wp_at_zero Go.wp_at_succ
theorem zqv:∀(ns:Xl) (ps:Xn) (k:Nat) (s:Xb) (p:Nat),ns[k]?=some s->ps[k]?=some p->(nmC ns ps)[k*2]?=some (.string s)/\(nmC ns ps)[k*2+1]?=some (xI p):=by
 intro ns;induction ns with
 | nil=>intro ps k s p h;simp at h
 | cons a ns ih =>
   intro ps k s p hs hp;cases ps with
   | nil=>simp at hp
   | cons b ps =>
     cases k with
     | zero=>simp at hs hp;subst hs hp;exact⟨rfl,rfl⟩
     | succ k => obtain⟨h1,h2⟩:=ih ps k s p (by simpa using hs) (by simpa using hp);rw[show (k+1)*2=k*2+1+1 by omega];exact⟨by simpa [nmC] using h1,by simpa [nmC] using h2⟩
theorem zbe {w:Xw}{n cp:Nat}{a:Xp}{ps:Xn}(h:w.ownsRow 0 84 2 (.slice a n cp) n (nmC ns ps)){p:Nat}(hs:ns[k]?=some s)(hp:ps[k]?=some p)(hn:n=ns.length) :
 ∃g,a=some (xD g 0)/\w.cell? (xD g (k*2))=some (.string s)/\w.cell? (xD g (k*2+1))=some (xI p):=by
 have hk':=(zMJ.1 hs).1;obtain⟨g,cap,hv,_⟩:=zM h (by omega);cases hv;obtain⟨e1,e2⟩:=zqv ns ps k s p hs hp;have hc:=h.cells (g:=g) rfl;have e0:∀j,((xD g 0):Addr).add j=⟨g,j,none⟩:=λj=>by cases j <;> simp[Addr.add]
 refine⟨g,rfl,?_,?_⟩
 . have:=hc _ _ e1;rwa [e0] at this
 have:=hc _ _ e2;rwa [e0] at this
theorem ze7 {rs:List Vr}{v:Vr}(hs:ns[k]?=some s)(hv:rs[k]?=some v):zaE c (ns.drop k) (rs.drop k)=if (c.decl s != tyV v)=true then false else zaE c (ns.drop (k+1)) (rs.drop (k+1)):=by obtain⟨h1,h2⟩:=zMJ.1 hs;obtain⟨h3,h4⟩:=zMJ.1 hv;rw[zMT h1,zMT h3,h2,h4];rfl
theorem al2 (w:Xw)(o1 o2:Obj):((w.alloc o1).alloc o2).heap[w.heap.size]?=some o1/\((w.alloc o1).alloc o2).heap[w.heap.size+1]?=some o2:=by refine⟨(zWP _ _ _ (by simp)).trans (zc w o1),?_⟩;have:=zc (w.alloc o1) o2;rwa [zsb] at this
theorem zlF (hc:zbr c)(q:Qn)(lv rv:Xv)(w:Xw)(HEq:EqV w N q lv rv)(HSc:ScV w N c ev nv)(hN:N<=w.heap.size)(hO:zdg c q.r)(hh:∀s∈q.ns,c.has s=true)(hps:q.ns.length=q.ps.length)(h1:q.ns.length=1) :
 xK 98 #[.agg #[ev,nv],.agg #[lv,xI q.a,rv]] w (λe w'=>e=.returned (.bool (c.holds q))/\xB w w'):=by
 obtain⟨s,hs⟩:∃s,q.ns[0]?=some s:=⟨_,zsc (by omega)⟩;obtain⟨p,hp⟩:∃p,q.ps[0]?=some p:=⟨_,zsc (by omega)⟩;obtain⟨xl,cl,rfl⟩:=zB HEq.own;obtain⟨g,rfl,c0,c1⟩:=zbe HEq.own hs hp rfl;have hgN:=HEq.lo g rfl;obtain⟨rb,_,_,rfl,hrb,_⟩:=HEq.tt.ptr;obtain⟨xe,cpe,nb,rfl,rfl,hnb⟩:=HSc.shape;have hhs:=hh s (zML hs);have HE:Hid (c.holds q=(c.decl s==zaj c q.r)):=by
  unfold Hid Sc.holds;cases hn:q.ns with
  | nil=>rw[hn] at hs;simp at hs
  | cons x l =>
    cases l with
    | nil=>rw[hn] at hs;simp at hs;subst hs;rfl
    | cons y l=>rw[hn] at h1;simp at h1
 have PRE:∀W,xB w W->ScV W N c (xE xe c cpe) (xP nb):=λW HB=>HSc.old (zm HB hN);have HD:=za (λW (HB:xB w W)=>zbD s (p:Int) W (PRE W HB) (by have:=HB.size;omega) hhs);have HT:=za (λW (HB:xB w W)=>zcQ hc q.r (xP rb) W (HEq.tt.old (zm HB hN)) (PRE W HB) (by have:=HB.size;omega) hO);rw[Nat.zero_mul,Nat.zero_add] at c1;rw[Nat.zero_mul] at c0;have l1:((q.ns.length:Int)==1)=true:=by simp[h1]
 have l0:(0:Int)<(q.ns.length:Int):=by omega
 have l0':0<q.ns.length:=by omega
 clear hO hh hps hs hp hhs h1;generalize c.decl s=y1 at *;generalize zaj c q.r=y2 at *;go_enter func98,ntmps98;go_upto_region 2 with fail;refine zn (λW=>(xH W w.heap.size #[xE xe c cpe,xP nb] 188/\xH W (w.heap.size+1) #[xS g q.ns.length cl,xI q.a,xP rb] 158)/\xB w W) ⟨al2 w _ _,zaD w _ _⟩ ?_;rintro W ⟨⟨hs,hs2⟩,HB⟩;obtain⟨s0,s1,sf,sz⟩:=zp hs;obtain⟨r0,r1,r2,rf,rz⟩:=zL hs2;have hzW:=HB.size;have c0':=zd HB c0 (by omega);have c1':=zd HB c1 (by omega);have HD1:=za (HD.o W.drew (zo HB));clear hs hs2 sf rf
 go_region_held3 (λw'=>w'.cell? (xD w.heap.size 0)=some (xE xe c cpe)/\w'.cell? (xD w.heap.size 1)=some (xP nb)/\w'.cell? (xD (w.heap.size+1) 0)=some (xS g q.ns.length cl)/\w'.cell? (xD (w.heap.size+1) 2)=some (xP rb)/\w'.cell? (xD g 0)=some (.string s)/\w'.cell? (xD g 1)=some (xI p))
  (first|(with_reducible (refine⟨?_,?_,?_,?_,?_,?_⟩ <;> repeat (first|assumption|refine zg ?_|refine zj _ ?_|refine zk (by omega) ?_|refine zd HB2.o ?_ (by first|omega|(rw[zsb];omega))|refine zd HB1.o ?_ (by first|omega|(rw[zsb];omega)))))|go_keep)
  (first
    | (go_at_call 136;refine HD2.o.mono ?_;rintro e w2 ⟨rfl,hB2⟩;have HB2:=za hB2;clear hB2)
    | (go_at_call 97;refine HD1.o.mono ?_;rintro e w1 ⟨rfl,hB1⟩;have HB1:=za (zw hB1);(have hzw1:W.heap.size<=w1.heap.size:=hB1.size);have HD2:=za (HT.o w1 (HB.trans (HB1.o.mono hzW)));clear hB1))
 all_goals go_wp2_with fail
 all_goals go_ret
 all_goals exact⟨by rw[HE.o];exact zky y1 y2,(HB.trans (HB1.o.mono hzW)).trans (HB2.o.mono (by omega))⟩
theorem zk0 {d:Sc}(hc:zbr c)(q:Qn)(lv rv:Xv)(w:Xw)(hE:EqV w N q lv rv)(h:ScV w N c ev nv)(hN:N<=w.heap.size)(hh:∀s∈q.ns,c.has s=true)(hps:q.ns.length=q.ps.length)(h2:2<=q.ns.length)(hd:c.called q.r.s=some d)(hdo:d.nd.outs=q.ns.length) :
 xK 98 #[.agg #[ev,nv],.agg #[lv,xI q.a,rv]] w (λe w'=>e=.returned (.bool (c.holds q))/\xB w w'):=by
 have HEq:=za hE;obtain⟨xl,cl,rfl⟩:=zB hE.own;obtain⟨rb,_,_,rfl,hrb,hrblk,_⟩:=hE.tt.ptr;have hrz:=ze hrblk;have HRb:=za hrblk;have hdw:=(hc.called hd).1.nd;have hio:=hdw.io;have hin1:=hdw.ins;have hfw:=hdw.few;have HSc:=za h;obtain⟨xe,cpe,nb,rfl,rfl,hnb⟩:=h.shape;have HE:Hid (c.holds q=zaE c q.ns d.nd.results):=by
  unfold Hid Sc.holds;cases hn:q.ns with
  | nil=>rw[hn] at h2;simp at h2
  | cons x l =>
    cases l with
    | nil=>rw[hn] at h2;simp at h2
    | cons y l=>simp only[hd]
 have PRE:∀W,xB w W->ScV W N c (xE xe c cpe) (xP nb):=λW hB=>HSc.o.old (zm hB hN);have HH:=za hh;have HPs:=za hps;have l1:((q.ns.length:Int)==1)=false:=by simp;omega
 have od1:d.nd.outs<=q.ns.length:=by omega
 have od2:q.ns.length<=d.nd.outs:=by omega
 clear hE h hh hrblk hps hdo;go_enter func98,ntmps98;go_upto_region 3 with fail;refine zn (λW=>(xH W w.heap.size #[xE xe c cpe,xP nb] 188/\xH W (w.heap.size+1) #[.slice xl q.ns.length cl,xI q.a,xP rb] 158)/\xB w W) ⟨al2 w _ _,zaD w _ _⟩ ?_;rintro W ⟨⟨hs,hs2⟩,hB⟩;obtain⟨s0,s1,sf,sz⟩:=zp hs;obtain⟨r0,r1,r2,rf,rz⟩:=zL hs2;have HB:=za hB;have hzW:=hB.size;obtain⟨m0,m1,m2,m3,m4,m5,mf,mz⟩:=zt ((hB.block rb hrz).trans HRb.o);have HC1:=za (zah q.r.s (q.r.nm:Int) W.drew (PRE W.drew (zo hB)) (by show N<=W.heap.size;omega) hc.few hd);have HC2:=za (λo=>zah q.r.s (q.r.nm:Int) (W.alloc o).drew (PRE _ (zo (hB.alloc (by omega) o))) (by show N<=(W.alloc o).heap.size;simp;omega) hc.few hd);have Hs:=za hs;have Hs2:=za hs2;clear hs hs2 hB sf rf m0 m1 m4 m5 mf
 go_region_held3 (λw'=>w'.cell? (xD w.heap.size 0)=some (xE xe c cpe)/\w'.cell? (xD w.heap.size 1)=some (xP nb)/\w'.cell? (xD (w.heap.size+1) 2)=some (xP rb)/\w'.cell? (xD rb 2)=some (.string q.r.s)/\w'.cell? (xD rb 3)=some (xI q.r.nm))
  (first|(with_reducible (refine⟨?_,?_,?_,?_,?_⟩ <;> repeat (first|assumption|refine zg ?_|refine zj _ ?_|refine zk (by omega) ?_|refine zd HB1.o ?_ (by first|omega|(rw[zsb];omega)))))|go_keep)
  (first
    | (go_at_call 89;refine HC1.o.mono ?_;rintro e w1 ⟨x2,cp2,n2,rfl,hsc,hB1⟩;have HB1:=za (zw hB1);have HS2:=za hsc;clear hB1 hsc)
    | (go_at_call 89;refine (HC2.o _).mono ?_;rintro e w1 ⟨x2,cp2,n2,rfl,hsc,hB1⟩;have HB1:=za (zw hB1);have HS2:=za hsc;obtain⟨y0,y1,yf,yz⟩:=zp ((HB1.o.block W.heap.size (by rw[zsb];omega)).trans (zc W _));clear hB1 hsc))
 all_goals go_upto_region 4 with fail
 refine zn (λW2=>Got w N d w1.heap.size n2 x2 cp2 W2/\(xH W2 w.heap.size #[xE xe c cpe,xP nb] 188/\xH W2 (w.heap.size+1) #[.slice xl q.ns.length cl,xI q.a,xP rb] 158)) ⟨zow HB.o HB1.o HS2.o hN,(zWP _ _ _ (by have:=HB1.o.size;omega)).trans ((HB1.o.block _ sz).trans Hs.o),(zWP _ _ _ (by have:=HB1.o.size;omega)).trans ((HB1.o.block _ rz).trans Hs2.o)⟩ ?_;rotate_left;refine zn (λW2=>Got w N d W.heap.size n2 x2 cp2 W2/\(xH W2 w.heap.size #[xE xe c cpe,xP nb] 188/\xH W2 (w.heap.size+1) #[.slice xl q.ns.length cl,xI q.a,xP rb] 158)) ⟨zos HB.o HB1.o HS2.o hN,(zr (by omega) rfl).trans ((zr (by omega) rfl).trans ((HB1.o.block _ (by rw[zsb];omega)).trans ((zWP _ _ _ sz).trans Hs.o))),(zr (by omega) rfl).trans ((zr (by omega) rfl).trans ((HB1.o.block _ (by rw[zsb];omega)).trans ((zWP _ _ _ rz).trans Hs2.o)))⟩ ?_
 all_goals
  rintro W2 ⟨hG,hsb,hsb2⟩;obtain⟨t0,t1,tf,tz⟩:=zp hG.box;have HG:=za hG;obtain⟨p0,p1,pf,pz⟩:=zp hsb;obtain⟨e0,e1,e2,ef,ez⟩:=zL hsb2;have hzz:=hG.bel.size;obtain⟨n2',vs2,qv2,xs2,e9,hnt⟩:=hG.sc.nd;cases e9;have hn2:=hnt.lo;have HNt:=za hnt;have HR:=za (zdM W2 hnt hio (by omega));clear hG hsb hsb2 hnt s0 s1 r0 r1 r2 m2 m3 HB1 HS2 HC1 HC2;go_wp2_with (go_at_call 137;refine HR.o.mono ?_;rintro e w3 ⟨g9,cp9,e9,rfl,hB3⟩;subst e9;have HB3:=za hB3;have hz3:=hB3.size;clear hB3);have hvl:d.nd.results.length=d.nd.outs:=by unfold Nod.results;simp;omega
  have Hvl:=za hvl;have hHm:zaE c (q.ns.drop 0) (d.nd.results.drop 0)=zaE c q.ns d.nd.results:=rfl;have HHm:=za hHm;clear hvl hHm;go_loopg [39] (d.nd.outs+1) (λj i wr=>∃k:Nat,k+j=d.nd.outs+1/\k<=d.nd.outs/\i=xI k/\Hid (zaE c (q.ns.drop k) (d.nd.results.drop k)=zaE c q.ns d.nd.results)/\Hid (xB W2 wr));case atStart=>exact⟨0,by omega,zMN _,rfl,HHm.o,HB3.o⟩
  case round =>
   obtain⟨k,hkj,hk,rfl,HS,HBr⟩:=hrel;have hBw:xB w wr:=HG.o.bel.trans (HBr.o.mono hzz);have HBw:=za hBw;have hzr:=HBr.o.size;by_cases hlt:k<d.nd.outs
   . obtain⟨s,hsk⟩:∃s,q.ns[k]?=some s:=⟨_,zsc (by omega)⟩;obtain⟨p,hpk⟩:∃p,q.ps[k]?=some p:=⟨_,zsc (by have:=HPs.o;omega)⟩;obtain⟨v,hvk⟩:∃v,d.nd.results[k]?=some v:=⟨_,zsc (by have:=Hvl.o;omega)⟩;have hvv:d.nd.vars[d.nd.ins+k]?=some v:=(by unfold Nod.results at hvk;rw[List.getElem?_take_of_lt hlt,List.getElem?_drop] at hvk;exact hvk);have hnt2:=HNt.o.old (zm HBr.o (by omega:N<=W2.heap.size));obtain⟨gv,e9,z0,z1,c2,z3,z4,z5,z6⟩:=zaM hnt2.vown hvv;simp only[Option.some.injEq,Addr.mk.injEq,and_true] at e9;subst e9;have hidx:(d.nd.ins+k)*7=d.nd.ins*7+k*7:=(by omega);rw[hidx] at z0 z1 c2 z3 z4 z5 z6;have hE2:=HEq.o.old (zm hBw hN);obtain⟨g,rfl,c0,c1⟩:=zbe hE2.own hsk hpk rfl;have hgN:=hE2.lo g rfl;have b0:=zd HBr.o p0 pz;have b1:=zd HBr.o p1 pz;have f0:=zd HBr.o e0 ez;have hhs:=HH.o s (zML hsk);have HT:=za (λo=>zbD s (p:Int) (wr.alloc o).drew (PRE _ (zo (hBw.alloc (by omega) o))) (by show N<=(wr.alloc o).heap.size;simp;omega) hhs);have hS:=ze7 (c:=c) hsk hvk;rw[HS.o] at hS;have hty:tyV v=zaK v:=rfl;rw[hty] at hS;have hgz:g<wr.heap.size:=(by omega);have k0:(0:Int)<=(k:Int):=(by omega);have k1:(k:Int)<(q.ns.length:Int):=(by omega);clear HS hsk hpk hvk hvv hnt2 hE2 hty hidx hhs hBw HB3;generalize c.decl s=y1 at *;by_cases hq:y1=zaK v
     . have hq':((y1:Int) != (zaK v:Int))=false:=(by simp[hq]);rw[zM1 (by simp[hq])] at hS;have HS2:=za hS;clear hS;go_upto_region 7 with fail;refine zn (λW3=>(W3.cell? (xD w.heap.size 0)=some (xE xe c cpe)/\W3.cell? (xD w.heap.size 1)=some (xP nb)/\W3.cell? (xD (w.heap.size+1) 0)=some (xS g q.ns.length cl)/\W3.cell? (xD g (k*2))=some (.string s)/\W3.cell? (xD g (k*2+1))=some (xI p)/\W3.cell? (xD wr.heap.size 2)=some (xI (zaK v:Nat)))/\∃o,W3=wr.alloc o) ⟨⟨zj _ b0,zj _ b1,zj _ f0,zj _ c0,zj _ c1,by simp⟩,_,rfl⟩ ?_;rintro W3 ⟨⟨w0,w1',w2',w3',w4',w5'⟩,o,rfl⟩;have HT1:=za (HT.o o);clear HT z0 z1 z3 z4 z5 z6 b0 b1 f0 c0 c1 c2
       go_region_held3 (λw'=>w'.cell? (xD w.heap.size 0)=some (xE xe c cpe)/\w'.cell? (xD w.heap.size 1)=some (xP nb)/\w'.cell? (xD (w.heap.size+1) 0)=some (xS g q.ns.length cl)/\w'.cell? (xD g (k*2))=some (.string s)/\w'.cell? (xD g (k*2+1))=some (xI p)/\w'.cell? (xD wr.heap.size 2)=some (xI (zaK v:Nat)))
        (first|(with_reducible (refine⟨?_,?_,?_,?_,?_,?_⟩ <;> repeat (first|assumption|refine zg ?_|refine zd HB1.o ?_ (by rw[zsb];omega))))|go_keep)
        (first
          | (go_at_call 97;refine HT1.o.mono ?_;rintro e w8 ⟨rfl,hB1⟩;have HB1:=za (zw hB1);clear hB1))
       all_goals go_wp2_with fail
       all_goals
        go_roundg (gk-1);case measure=>omega
        exact⟨k+1,by omega,by omega,by go_num,HS2.o.symm,HBr.o.trans ((zE HB1.o).mono hzr)⟩
     have hq':((y1:Int) != (zaK v:Int))=true:=(by simp;omega);rw[zM2 (by simp[hq])] at hS;have HS2:=za hS;clear hS;go_upto_region 7 with fail;refine zn (λW3=>(W3.cell? (xD w.heap.size 0)=some (xE xe c cpe)/\W3.cell? (xD w.heap.size 1)=some (xP nb)/\W3.cell? (xD (w.heap.size+1) 0)=some (xS g q.ns.length cl)/\W3.cell? (xD g (k*2))=some (.string s)/\W3.cell? (xD g (k*2+1))=some (xI p)/\W3.cell? (xD wr.heap.size 2)=some (xI (zaK v:Nat)))/\∃o,W3=wr.alloc o) ⟨⟨zj _ b0,zj _ b1,zj _ f0,zj _ c0,zj _ c1,by simp⟩,_,rfl⟩ ?_;rintro W3 ⟨⟨w0,w1',w2',w3',w4',w5'⟩,o,rfl⟩;have HT1:=za (HT.o o);clear HT z0 z1 z3 z4 z5 z6 b0 b1 f0 c0 c1 c2
     go_region_held3 (λw'=>w'.cell? (xD w.heap.size 0)=some (xE xe c cpe)/\w'.cell? (xD w.heap.size 1)=some (xP nb)/\w'.cell? (xD (w.heap.size+1) 0)=some (xS g q.ns.length cl)/\w'.cell? (xD g (k*2))=some (.string s)/\w'.cell? (xD g (k*2+1))=some (xI p)/\w'.cell? (xD wr.heap.size 2)=some (xI (zaK v:Nat)))
      (first|(with_reducible (refine⟨?_,?_,?_,?_,?_,?_⟩ <;> repeat (first|assumption|refine zg ?_|refine zd HB1.o ?_ (by rw[zsb];omega))))|go_keep)
      (first
        | (go_at_call 97;refine HT1.o.mono ?_;rintro e w8 ⟨rfl,hB1⟩;have HB1:=za (zw hB1);clear hB1))
     all_goals go_wp2_with fail
     all_goals go_ret
     all_goals exact⟨by rw[HE.o,HS2.o];rfl,HBw.o.trans ((zE HB1.o).mono (by omega))⟩
   have hS:zaE c q.ns d.nd.results=true:=(by rw[<- HS.o,List.drop_of_length_le (by omega)];cases d.nd.results.drop k <;> rfl);have HS2:=za hS;clear HS hS;go_wp2_with fail;go_ret;exact⟨by rw[HE.o,HS2.o];rfl,hBw⟩
end
end Go.Proofs.YtenadialhccdiaaGreatDoor
