/- Part 21. -/
import Derived.Test.YtenadialhccdiaaGreatDoorK19
set_option maxRecDepth 100000
set_option maxHeartbeats 8000000
namespace Go.Proofs.YtenadialhccdiaaGreatDoor
open Go.Proofs.Tryz
section
open Go.RowKit
variable {N b1 bb cb k kd lb sb:Nat} {S:Xs} {st:Xo} {c:Sc} {askv ev nmv nv:Xv} {w w':Xw}
attribute [local go_sem ↓] Go.wp_at_zero Go.wp_at_succ
structure ClI (S:Xs) (kd lb bb sb:Nat) (nmv askv:Xv) (N:Nat) (c:Sc) (ev nv:Xv) (b1 cb:Nat) (st:Xo) (w:Xw):Prop where
 rp:RpI S kd lb bb sb nmv askv st w
 sc:ScV w N c ev nv
 ck:za7 w c cb
 x1:w.heap[b1]?=some (.cells #[ev,nv] 188 (0,0))
 d:∀b,b=b1∨b=cb->¬b=lb/\¬b=bb
 l1:N<=lb
 l2:N<=bb
 hN:N<=w.heap.size
theorem ClI.keep (h:ClI S kd lb bb sb nmv askv N c ev nv b1 cb st w)(hB:xB w w'):ClI S kd lb bb sb nmv askv N c ev nv b1 cb st w' :=
 ⟨h.rp.keep hB,h.sc.old (zm hB h.hN),h.ck.keep hB,(hB.block _ (ze h.x1)).trans h.x1,h.d,h.l1,h.l2,zMO h.hN hB.size⟩
theorem ClI.told {st':Xo}(h:ClI S kd lb bb sb nmv askv N c ev nv b1 cb st w)(hr:RpI S kd lb bb sb nmv askv st' w')(hf:Fr (RT lb bb) w w'):ClI S kd lb bb sb nmv askv N c ev nv b1 cb st' w':=by
 have hn:∀{b},(b=b1∨b=cb)->¬RT lb bb b:=λh1 e=>by rcases e with e|e;exact (h.d _ h1).1 e;exact (h.d _ h1).2 e
 exact⟨hr,h.sc.old (hf.old h.hN (λk e=>by rcases e with e|e;exact e▸h.l1;exact e▸h.l2)),h.ck.of' (hf.block _ h.ck.lt (hn (by simp))),(hf.block _ (ze h.x1) (hn (by simp))).trans h.x1,h.d,h.l1,h.l2,zMO h.hN hf.size⟩
theorem ClI.old (h:ClI S kd lb bb sb nmv askv N c ev nv b1 cb st w)(hf:Fr (RT lb bb) w w'):Old N w w':=hf.old h.hN (λk e=>by rcases e with e|e;exact e▸h.l1;exact e▸h.l2)
theorem ClI.on (h:ClI S kd lb bb sb nmv askv N c ev nv b1 cb st w)(hB:xB w w'){z:Nat}(hz:w.heap.size<=z)
 (y1:xH w' z #[ev,nv] 188) (y2:xH w' (z+1) #[.map (some cb)] 90) (y3:xH w' (z+1+1) #[zam lb bb sb] 186) :
 CkI S kd lb bb sb nmv askv N c ev nv cb z (z+1) (z+1+1) st w':=by
 have h':=h.keep hB;have z1:=ze h.rp.l;have z2:=ze h.rp.b;refine⟨h'.rp,h'.sc,h'.ck,y1,y2,y3,λb e=>?_,h.l1,h.l2,h'.hN⟩;rcases e with e|e|e|e
 . subst e;exact⟨by omega,by omega⟩
 . subst e;exact⟨by omega,by omega⟩
 . subst e;exact⟨by omega,by omega⟩
 subst e;exact h.d _ (zM4 rfl)
theorem zhM {l:List Vr}{v:Vr}(h:l[k]?=some v):zbv c (l.drop k) k=(if c.comesBack k=true then [v.a] else [])++zbv c (l.drop (k+1)) (k+1):=by obtain⟨h1,h2⟩:=zMJ.1 h;rw[zMT h1,zbv,h2]
theorem zg8 {q:Nat×Nat}{ns:Xl}{ps:Xn}{s:Xb}{p:Nat}(hs:ns[k]?=some s)(hp:ps[k]?=some p):zbl c q (ns.drop k) (ps.drop k)=(if c.of (c.idx s)=q then [] else [p])++zbl c q (ns.drop (k+1)) (ps.drop (k+1)):=by obtain⟨h1,h2⟩:=zMJ.1 hs;obtain⟨h3,h4⟩:=zMJ.1 hp;rw[zMT h1,zMT h3,zbl,h2,h4]
theorem zhJ (c:Sc)(q:Nat×Nat)(ps:Xn):zbl c q [] ps=[]:=by cases ps <;> rfl
theorem znE (gl n nl cl:Nat)(h1:n=nl+1)(h2:n<=cl):∃SA cpl,(∀w,(Instr.slice 155 (xS gl n cl) (some (xI 1)) none none).run prog w=.ok (.slice SA nl cpl) w)/\(0<nl->SA=some ⟨gl,2,none⟩):=by
 refine⟨if cl=1 then some (xD gl 0) else some (xD gl 2),cl-1,λw=>?_,λh=>zM1 (by omega)⟩;have i1:(1:Int)<=(n:Int):=by omega
 have e1:n-1=nl:=by omega
 by_cases h:cl=1
 . simp[Instr.slice,Instr.sliceBounds,Instr.sliceBound,run_underlying underlying155,asIntOf,i1,h,e1]
 simp[Instr.slice,Instr.sliceBounds,Instr.sliceBound,run_underlying underlying155,asIntOf,i1,h,e1,Addr.add]
theorem zmF (cb lb bb sb:Nat)(w:Xw)(xe:Xp)(n cp:Nat)(nb:Nat) :
 xK 104 #[.agg #[.slice xe n cp,xP nb],.map (some cb),.func (.func 110) #[] #[xP lb,xP bb,xP sb]] w.drew (λe w'=>e=.returned (.func (.func 143) #[] #[xP (w.heap.size+1),xP w.heap.size,xP (w.heap.size+1+1)])/\xB w w'/\w'.heap[w.heap.size]?=some (.cells #[.slice xe n cp,xP nb] 188 (0,0))/\w'.heap[w.heap.size+1]?=some (.cells #[.map (some cb)] 90 (0,0))/\w'.heap[w.heap.size+1+1]?=some (.cells #[zam lb bb sb] 186 (0,0))):=by
 refine (zn8 (.slice xe n cp) (xP nb) cb lb bb sb w.drew xe n cp nb rfl rfl).mono ?_;rintro e w' ⟨h1,h2,h3,h4,h5,h6⟩;exact⟨h1,zw h2,h3,h4,h5⟩
theorem ziv (S:Xs)(kd lb bb sb:Nat)(nmv askv:Xv)(N:Nat)(c:Sc)(hc:zbr c)(ev nv:Xv)(st:Xo)(w:Xw)(hR:RpI S kd lb bb sb nmv askv st w)(h:ScV w N c ev nv)(hN:N<=w.heap.size)(l1:N<=lb)(l2:N<=bb) :
 xK 48 #[.agg #[ev,nv],zam lb bb sb] w (λe w'=>e=.returned (.tuple #[])/\RpI S kd lb bb sb nmv askv (c.clocksL.foldl rep st) w'/\Fr (RT lb bb) w w'):=by
 obtain⟨xe,cpe,nb,rfl,rfl,hnb⟩:=h.shape;have hzl:=ze hR.l;have hzb:=ze hR.b;have HR:=za hR;have HSc:=za h;obtain⟨nb',vs,qv,xs,e9,hnt⟩:=h.nd;cases e9;obtain⟨xv,cpv,rfl⟩:=zB hnt.vown;obtain⟨xq,cpq,rfl⟩:=zB hnt.own;have HNt:=za hnt;have hfew:=hnt.few;have h16:c.nd.eqs.length<=9223372036854775807:=by
  rcases hnt.own.2 with ⟨_,h⟩|⟨g,cap,cur,hv,_,_,h3,h4,_⟩
  . omega
  unfold maxLen at h4;omega
 have HClo:=za (λo=>zeC (w.alloc o) (h.old (zeW hN o)) (by rw[zsb];omega));have HEq:=za hc.nd.eqs;clear hR h hnt hc;unfold zam;go_enter func48,ntmps48;go_upto_region 2 with (go_at_call 59;refine (HClo.o _).mono ?_;rintro e w1 ⟨cb,rfl,hcbz,hCk,hB1⟩;have HCk:=za hCk;have HB1:=za hB1;clear hCk hB1);refine zn (λW=>ClI S kd lb bb sb nmv askv N c (xE xe c cpe) (xP nb) w.heap.size cb st W/\Fr (RT lb bb) w W) ⟨⟨HR.o.keep (zE HB1.o),HSc.o.old (zm (zE HB1.o) hN),HCk.o,(HB1.o.block _ (by simp)).trans (zc w _),λb e=>by rw[zsb] at hcbz;rcases e with e|e <;> exact⟨by omega,by omega⟩,l1,l2,by have:=(zE HB1.o).size;omega⟩,zy (zE HB1.o)⟩ ?_;rintro W ⟨hIW,hFW⟩;have hOW:=hIW.old (Fr.refl _ _);obtain⟨m0,m1,m2,m3,m4,m5,mf,mz⟩:=zt ((hFW.block nb (by omega) (λe=>by rcases e with e|e <;> omega)).trans HNt.o.blk);obtain⟨s0,s1,sf,sz⟩:=zp hIW.x1;have HIW:=za hIW;have HFW:=za hFW;clear hIW hFW hOW HB1 HCk HClo HR;go_wp2_with fail;go_loopg [22] (c.nd.vars.length+1) (λj i wr=>∃(k:Nat) (st2:Xo),k+j=c.nd.vars.length+1/\k<=c.nd.vars.length/\i=xI k/\Hid (ClI S kd lb bb sb nmv askv N c (xE xe c cpe) (xP nb) w.heap.size cb st2 wr)/\Hid ((zbv c c.nd.vars 0).foldl rep st=(zbv c (c.nd.vars.drop k) k).foldl rep st2)/\Hid (Fr (RT lb bb) w wr));case atStart=>exact⟨0,st,by omega,zMN _,rfl,HIW.o,rfl,HFW.o⟩
 case round =>
  clear HIW HFW s0 s1 sf sz m0 m1 m2 m3 m4 m5 mf mz;obtain⟨k,st2,hkj,hk,rfl,HI,HD,HF⟩:=hrel;have hO:=HF.o.old hN (λk e=>by rcases e with e|e;exact e▸l1;exact e▸l2);by_cases hlt:k<c.nd.vars.length
  . obtain⟨v,hv⟩:∃v,c.nd.vars[k]?=some v:=⟨_,zsc hlt⟩;obtain⟨g,rfl,c0,c1,c2,c3,c4,c5,c6⟩:=zaM (HNt.o.old hO).vown hv;have hgN:=HNt.o.vlo g rfl;have hNr:=HI.o.hN;have HT:Hid ((zbv c c.nd.vars 0).foldl rep st=(zbv c (c.nd.vars.drop (k+1)) (k+1)).foldl rep ((if c.comesBack k=true then [v.a] else []).foldl rep st2)):=by unfold Hid;rw[HD.o,zhM hv,zMP]
    have HBk:=za (λo=>ziA k (wr.alloc o) (HI.o.keep (zq wr o)).ck (by omega));clear HD hv hO;cases hcm:c.comesBack k with
    | false =>
      rw[hcm] at HT HBk;clear hcm;go_wp2_with (go_at_call 102;refine (HBk.o _).mono ?_;rintro e w2 ⟨rfl,hB2⟩;have HB2:=za (zE hB2);clear hB2);go_roundg (gk-1);case measure=>omega
      exact⟨k+1,st2,by omega,by omega,by go_num,HI.o.keep HB2.o,HT.o,HF.o.trans (zy HB2.o)⟩
    | true =>
      rw[hcm] at HT HBk;clear hcm
      go_wp2_with (first
       | (go_at_call 110;refine (zaa S kd lb bb sb nmv askv st2 v.a _ HI2.o.rp).mono ?_;rintro e w3 ⟨rfl,hRt,hFt⟩;have HRt:=za hRt;have HFt:=za hFt;clear hRt hFt)
       | (go_at_call 102;refine (HBk.o _).mono ?_;rintro e w2 ⟨rfl,hB2⟩;have HI2:=za (HI.o.keep (zE hB2));have x1:=zd hB2 (zbZ (zc wr _)).2.1 (by simp);have HB2:=za (zE hB2);clear hB2))
      go_roundg (gk-1);case measure=>omega
      exact⟨k+1,rep st2 v.a,by omega,by omega,by go_num,HI2.o.told HRt.o HFt.o,HT.o,(HF.o.trans (zy HB2.o)).trans HFt.o⟩
  have ek:k=c.nd.vars.length:=by omega
  subst ek;rw[List.drop_length,zbv] at HD;have HD1:Hid (c.clocksL.foldl rep st=(c.nd.eqs.flatMap (zer c)).foldl rep st2):=by unfold Hid Sc.clocksL;rw[zMP,HD.o];rfl
  clear HD;obtain⟨m0,m1,m2,m3,m4,m5,mf,mz⟩:=zt ((hO nb HNt.o.lo).trans HNt.o.blk);obtain⟨s0,s1,sf,sz⟩:=zp HI.o.x1;clear hO;go_wp2_with fail;go_loopg [43] (c.nd.eqs.length+1) (λj i wr=>∃(k:Nat) (st3:Xo),k+j=c.nd.eqs.length+1/\k<=c.nd.eqs.length/\i=xI k/\Hid (ClI S kd lb bb sb nmv askv N c (xE xe c cpe) (xP nb) w.heap.size cb st3 wr)/\Hid (c.clocksL.foldl rep st=((c.nd.eqs.drop k).flatMap (zer c)).foldl rep st3)/\Hid (Fr (RT lb bb) w wr));case atStart=>exact⟨0,st2,by omega,zMN _,rfl,HI.o,HD1.o,HF.o⟩
  case round =>
   clear HI HF HD1 s0 s1 sf sz m0 m1 m2 m3 m4 m5 mf mz hkj hk hlt;obtain⟨k,st3,hkj,hk,rfl,HI,HD,HF⟩:=hrel;have hO:=HF.o.old hN (λk e=>by rcases e with e|e;exact e▸l1;exact e▸l2);by_cases hlt:k<c.nd.eqs.length
   . obtain⟨wo,rfl⟩:∃wo,wo=wr:=⟨_,rfl⟩;obtain⟨gko,rfl⟩:∃g,g=gk:=⟨_,rfl⟩;obtain⟨q,hq⟩:∃q,c.nd.eqs[k]?=some q:=⟨_,zsc hlt⟩;have hN2:=HNt.o.old hO;obtain⟨g,lv,rv,rfl,c0,c1,c2,hE⟩:=zcd hN2.own hN2.eqs hq rfl;obtain⟨rb,_,_,rfl,_⟩:=hE.tt.ptr;obtain⟨xl,cl,rfl⟩:=zB hE.own;have hgN:=HNt.o.elo g rfl;have HE:=za hE;obtain⟨hql,hq1,_⟩:=HEq.o q (zML hq);have h17:q.ns.length<=9223372036854775807:=by
      rcases hE.own.2 with ⟨_,h⟩|⟨g,cap,cur,hv,_,_,h3,h4,_⟩
      . omega
      unfold maxLen at h4;omega
     obtain⟨s,ss,hss⟩:∃s ss,q.ns=s::ss:=by
      cases hx:q.ns with
      | nil=>rw[hx] at hq1;simp at hq1
      | cons s ss=>exact⟨s,ss,rfl⟩
     obtain⟨p,pp,hpp⟩:∃p pp,q.ps=p::pp:=by
      cases hx:q.ps with
      | nil=>rw[hx] at hql;simp at hql;rw[hql] at hq1;simp at hq1
      | cons s ss=>exact⟨s,ss,rfl⟩
     have hcl:q.ns.length<=cl/\cl<=9223372036854775807:=by
      rcases hE.own.2 with ⟨h0,h⟩|⟨g,cap,cur,hv,_,_,h3,h4,_⟩
      . omega
      cases hv;unfold maxLen at h4;omega
     obtain⟨hcl1,hcl2⟩:=hcl;have i1:(1:Int)<=(q.ns.length:Int):=(by omega);have i2:(q.ns.length:Int)<=(cl:Int):=(by omega);have i3:(1:Int)<=(cl:Int):=(by omega);obtain⟨gl,rfl,n0,n1⟩:=zbe hE.own (k:=0) (s:=s) (p:=p) (by rw[hss];rfl) (by rw[hpp];rfl) rfl;have hglN:=HE.o.lo gl rfl;have hNo:=HI.o.hN;obtain⟨kq,hkq⟩:∃kq,c.of (c.idx s)=kq:=⟨_,rfl⟩;have HT:Hid (c.clocksL.foldl rep st=((c.nd.eqs.drop (k+1)).flatMap (zer c)).foldl rep ((onT c q.r kq).foldl rep ((zbl c kq (q.ns.drop 1) (q.ps.drop 1)).foldl rep st3))):=(by unfold Hid;obtain⟨h1,h2⟩:=zMJ.1 hq;rw[HD.o,zMT h1,List.flatMap_cons,h2,zMP];congr 1;unfold zer;rw[hss,hpp];simp only[List.headD_cons,List.tail_cons,List.drop_one];rw[hkq,zMP]);have HkX:=za (HI.o.keep (zq wo (.cells #[xS gl q.ns.length cl,xI q.a,xP rb] 158)));have HwX:=za (HF.o.alloc (.cells #[xS gl q.ns.length cl,xI q.a,xP rb] 158));have hlen1:1<=q.ns.length:=hq1;have hlen0:(0:Int)<(q.ns.length:Int):=(by omega);have hlenN:0<q.ns.length:=hq1;have hlenE:¬q.ns=[]:=(by rw[hss];simp);have Hss:=za hss;have Hpp:=za hpp;have Hql:=za hql;have Hkq:=za hkq;clear hN2 hE hq HD hO hss hpp hql hkq hq1;go_upto_region 11 with fail;go_cut [9,43] from 43 to 88 (λx y wx=>∃bk,x=xP bk/\y=xI k/\wo.heap.size<bk/\Hid (ClI S kd lb bb sb nmv askv N c (xE xe c cpe) (xP nb) w.heap.size cb st3 wx)/\Hid (Fr (RT lb bb) w wx)/\Hid (xH wx wo.heap.size #[xS gl q.ns.length cl,xI q.a,xP rb] 158)/\Hid (xH wx bk #[xI (kq.1:Nat),xI (kq.2:Nat)] 161))
     case first =>
      refine zn (λW=>ClI S kd lb bb sb nmv askv N c (xE xe c cpe) (xP nb) w.heap.size cb st3 W/\Fr (RT lb bb) w W/\xH W wo.heap.size #[xS gl q.ns.length cl,xI q.a,xP rb] 158/\xC W gl 0 (.string s)/\xC W gl 1 (xI p)) ⟨HkX.o,HwX.o,zc wo _,zj _ n0,zj _ n1⟩ ?_;rintro W ⟨hIW,hFW,hQW,a0,a1⟩;obtain⟨s0,s1,sf,sz⟩:=zp hIW.x1;obtain⟨q0,q1,q2,qf,qz⟩:=zL hQW;have hglW:gl<W.heap.size:=(by have:=hIW.hN;omega);have HIx:=za (λW' (hB:xB W W')=>zaz s (p:Int) W' (hIW.keep hB).sc (hIW.keep hB).hN);have HOf:=za (λW' (hB:xB W W')=>zbC (c.idx s) W' (hIW.keep hB).ck);rw[Hkq.o] at HOf;have HIW:=za hIW;have HFW:=za hFW;have HQW:=za hQW;clear hIW hFW hQW HkX HwX n0 n1 c0 c1 c2
      go_region_held3 (λw'=>w'.cell? (xD w.heap.size 0)=some (xE xe c cpe)/\w'.cell? (xD w.heap.size 1)=some (xP nb)/\w'.cell? (xD wo.heap.size 0)=some (xS gl q.ns.length cl)/\w'.cell? (xD gl 0)=some (.string s)/\w'.cell? (xD gl 1)=some (xI p))
       (first|(with_reducible (refine⟨?_,?_,?_,?_,?_⟩ <;> repeat (first|assumption|refine zg ?_|refine zj _ ?_|refine zk (by omega) ?_|refine zd HBw2.o ?_ (by first|omega|(rw[zsb];omega))|refine zd HBw1.o ?_ (by first|omega|(rw[zsb];omega)))))|go_keep)
       (first
         | (go_at_call 64;refine (HOf.o _ (by first|exact HBw1.o|exact zaU HBw1.o (zMK _) _)).mono ?_;rintro e w2 ⟨rfl,hB2⟩;have HB2:=za hB2;(first|(have hz2:xH w2 W.heap.size #[xI 0,xI 0] 161:=(hB2.block _ yz).trans HZ1.o;have HZ2:=za hz2;obtain⟨t0,t1,tf,tz⟩:=zp hz2;clear hz2)|(have hz2:xH w2 w1.heap.size #[xI 0,xI 0] 161:=(hB2.block w1.heap.size (by simp)).trans (zc w1 _);have HZ2:=za hz2;obtain⟨t0,t1,tf,tz⟩:=zp hz2;clear hz2)|skip);(first|have HBw2:=za (HBw1.o.trans (hB2.mono HBw1.o.size))|have HBw2:=za (HBw1.o.trans ((zE hB2).mono HBw1.o.size)));have hsz2:=HBw2.o.size;clear hB2)
         | (go_at_call 65;refine (HIx.o _ (by first|exact zo (zWQ _ _)|exact zaU (zo (zWQ _ _)) (zMK _) _)).mono ?_;rintro e w1 ⟨rfl,hB1⟩;have HB1:=za hB1;(first|(have hz1:xH w1 W.heap.size #[xI 0,xI 0] 161:=(hB1.block W.heap.size (by simp)).trans (zc W.drew _);have HZ1:=za hz1;obtain⟨y0,y1,yf,yz⟩:=zp hz1;clear hz1;have HBw1:=za (zw (zE hB1)))|have HBw1:=za (zw hB1));have hsz1:=HBw1.o.size;clear hB1))
      all_goals go_wp2_with fail
      all_goals go_meet
      . exact⟨_,rfl,rfl,by omega,HIW.o.keep (zaU HBw2.o (zMK _) _),HFW.o.trans (zy (zaU HBw2.o (zMK _) _)),((zaU HBw2.o (zMK _) _).block _ qz).trans HQW.o,zc w2 _⟩
      iterate 2
       . exact⟨_,rfl,rfl,by omega,HIW.o.keep (zC (zC HBw2.o (by omega) _) (by omega) _),HFW.o.trans (zy (zC (zC HBw2.o (by omega) _) (by omega) _)),zr (by omega) (zr (by omega) ((HBw2.o.block _ qz).trans HQW.o)),zdR HZ2.o _ _⟩
     case rest =>
      obtain⟨bk,rfl,rfl,hbk,HIx,HFx,HQx,HKx⟩:=hcut;clear HkX HwX n0 n1 c0 c1 c2;obtain⟨q0,q1,q2,qf,qz⟩:=zL HQx.o;obtain⟨nl,hnl⟩:∃nl,q.ns.length=nl+1:=⟨q.ns.length-1,by omega⟩;obtain⟨SA,cpl,hsl,hSA⟩:=znE gl q.ns.length nl cl hnl hcl1;have h18:nl<=9223372036854775807:=(by omega);have Hnl:=za hnl;have HSA:=za hSA;have hqzl:wo.heap.size<wc.heap.size:=qz;have hkzl:=ze HKx.o;have hlbo:lb<wo.heap.size/\bb<wo.heap.size:=⟨ze HI.o.rp.l,ze HI.o.rp.b⟩;obtain⟨hlo,hbo⟩:=hlbo;clear hnl hSA hcl1 hcl2 i1 i2 i3 h17 hlen1;go_wp2_with fail;go_loopg [60] (nl+1) (λj i wr=>∃(k3:Nat) (st4:Xo),k3+j=nl+1/\k3<=nl/\i=xI k3/\Hid (ClI S kd lb bb sb nmv askv N c (xE xe c cpe) (xP nb) w.heap.size cb st4 wr)/\Hid ((zbl c kq (q.ns.drop 1) (q.ps.drop 1)).foldl rep st3=(zbl c kq (q.ns.drop (1+k3)) (q.ps.drop (1+k3))).foldl rep st4)/\Hid (Fr (RT lb bb) w wr)/\Hid (xH wr wo.heap.size #[xS gl q.ns.length cl,xI q.a,xP rb] 158)/\Hid (xH wr bk #[xI (kq.1:Nat),xI (kq.2:Nat)] 161));case atStart=>exact⟨0,st3,by omega,zMN _,rfl,HIx.o,rfl,HFx.o,HQx.o,HKx.o⟩
      case round =>
       clear HIx HFx HQx HKx q0 q1 q2 qf qz hqzl hkzl;obtain⟨k3,st4,hkj3,hk3,rfl,HI4,HD4,HF4,HQ4,HK4⟩:=hrel;have hqz:=ze HQ4.o;have hbz:=ze HK4.o;have hNr:=HI4.o.hN;have hO4:Old N w wr:=HF4.o.old hN (λk e=>by rcases e with e|e;exact e▸l1;exact e▸l2);have hO5:Old N wo wr:=λb hb=>(hO4 b hb).trans ((HF.o.old hN (λk e=>by rcases e with e|e;exact e▸l1;exact e▸l2)) b hb).symm;by_cases hlt3:k3<nl
       . obtain⟨s',hs'⟩:∃s,q.ns[1+k3]?=some s:=⟨_,zsc (by have:=Hnl.o;omega)⟩;obtain⟨p',hp'⟩:∃p,q.ps[1+k3]?=some p:=⟨_,zsc (by have:=Hnl.o;have:=Hql.o;omega)⟩;obtain⟨gl',e9,d0,d1⟩:=zbe (HE.o.old hO5).own hs' hp' rfl;cases e9;rw[show (1+k3)*2=2+k3*2 by omega] at d0 d1;obtain rfl:=HSA.o (by omega);obtain⟨o,ho⟩:∃o,c.of (c.idx s')=o:=⟨_,rfl⟩;have HT4:=za HD4.o;rw[zg8 hs' hp',zMP,show 1+k3+1=1+(k3+1) by omega,ho] at HT4;clear HD4 hO4 hO5 hs' hp';by_cases e0:o=kq
         . rw[zM2 e0] at HT4;have e1':(o.1:Int)=(kq.1:Int):=(by rw[e0]);have e2':(o.2:Int)=(kq.2:Int):=(by rw[e0]);clear e0;go_upto_region 15 with fail;refine zn (λW=>ClI S kd lb bb sb nmv askv N c (xE xe c cpe) (xP nb) w.heap.size cb st4 W/\Fr (RT lb bb) w W/\xB wr W/\xH W wr.heap.size #[.string s',xI p'] 84) ⟨HI4.o.keep (zq wr _),HF4.o.alloc _,zq wr _,zc wr _⟩ ?_;rintro W ⟨hIW,hFW,hBW,hNW⟩;obtain⟨s0,s1,sf,sz⟩:=zp hIW.x1;obtain⟨a0,a1,af,az⟩:=zp hNW;obtain⟨k0,k1',kf,kz⟩:=zp ((hBW.block _ (ze HK4.o)).trans HK4.o);have HIx:=za (zaz s' (p':Int) W.drew (hIW.sc.old (λ_ _=>rfl)) hIW.hN);have HIW:=za hIW;have HFW:=za hFW;have HBW:=za hBW;have hWz:=hBW.size;clear hIW hFW hBW hNW
           go_region_held3 (λw'=>w'.cell? (xD w.heap.size 0)=some (xE xe c cpe)/\w'.cell? (xD w.heap.size 1)=some (xP nb)/\w'.cell? (xD wr.heap.size 0)=some (.string s')/\w'.cell? (xD wr.heap.size 1)=some (xI p')/\w'.cell? (xD bk 0)=some (xI (kq.1:Nat))/\w'.cell? (xD bk 1)=some (xI (kq.2:Nat)))
            (first|(with_reducible (refine⟨?_,?_,?_,?_,?_,?_⟩ <;> repeat (first|assumption|refine zg ?_|refine zj _ ?_|refine zk (by omega) ?_|refine zd HB2.o ?_ (by first|omega|(rw[zsb];omega))|refine zd HB1.o ?_ (by first|omega|(rw[zsb];omega)))))|go_keep)
            (first
              | (go_at_call 64;refine HOf.o.mono ?_;rintro e w2 ⟨rfl,hB2⟩;have HB2:=za hB2;have hz2:w1.heap.size<=w2.heap.size:=hB2.size;clear hB2)
              | (go_at_call 65;refine HIx.o.mono ?_;rintro e w1 ⟨rfl,hB1⟩;have HB1:=za (zw hB1);have hz1:W.heap.size<=w1.heap.size:=hB1.size;have HOf:=za (zbC (c.idx s') w1 (HIW.o.ck.keep HB1.o));(rw[ho] at HOf);clear hB1))
           have HB3:=za (HB1.o.trans (HB2.o.mono hz1));go_wp2_with fail;go_roundg (gk-1);case measure=>omega
           exact⟨k3+1,st4,by omega,by omega,by go_num,HIW.o.keep HB3.o,HT4.o,HFW.o.trans (zy HB3.o),(HB3.o.block _ (by omega)).trans ((HBW.o.block _ (ze HQ4.o)).trans HQ4.o),(HB3.o.block _ kz).trans ((HBW.o.block _ (ze HK4.o)).trans HK4.o)⟩
         rw[zM1 e0] at HT4;by_cases e1:o.1=kq.1
         . have e1':(o.1:Int)=(kq.1:Int):=(by omega);have e2':¬(o.2:Int)=(kq.2:Int):=λe=>e0 (Prod.ext e1 (by omega));clear e0 e1;go_upto_region 15 with fail;refine zn (λW=>ClI S kd lb bb sb nmv askv N c (xE xe c cpe) (xP nb) w.heap.size cb st4 W/\Fr (RT lb bb) w W/\xB wr W/\xH W wr.heap.size #[.string s',xI p'] 84) ⟨HI4.o.keep (zq wr _),HF4.o.alloc _,zq wr _,zc wr _⟩ ?_;rintro W ⟨hIW,hFW,hBW,hNW⟩;obtain⟨s0,s1,sf,sz⟩:=zp hIW.x1;obtain⟨a0,a1,af,az⟩:=zp hNW;obtain⟨k0,k1',kf,kz⟩:=zp ((hBW.block _ (ze HK4.o)).trans HK4.o);have HIx:=za (zaz s' (p':Int) W.drew (hIW.sc.old (λ_ _=>rfl)) hIW.hN);have HIW:=za hIW;have HFW:=za hFW;have HBW:=za hBW;have hWz:=hBW.size;clear hIW hFW hBW hNW
           go_region_held3 (λw'=>w'.cell? (xD w.heap.size 0)=some (xE xe c cpe)/\w'.cell? (xD w.heap.size 1)=some (xP nb)/\w'.cell? (xD wr.heap.size 0)=some (.string s')/\w'.cell? (xD wr.heap.size 1)=some (xI p')/\w'.cell? (xD bk 0)=some (xI (kq.1:Nat))/\w'.cell? (xD bk 1)=some (xI (kq.2:Nat)))
            (first|(with_reducible (refine⟨?_,?_,?_,?_,?_,?_⟩ <;> repeat (first|assumption|refine zg ?_|refine zj _ ?_|refine zk (by omega) ?_|refine zd HB2.o ?_ (by first|omega|(rw[zsb];omega))|refine zd HB1.o ?_ (by first|omega|(rw[zsb];omega)))))|go_keep)
            (first
              | (go_at_call 64;refine HOf.o.mono ?_;rintro e w2 ⟨rfl,hB2⟩;have HB2:=za hB2;have hz2:w1.heap.size<=w2.heap.size:=hB2.size;clear hB2)
              | (go_at_call 65;refine HIx.o.mono ?_;rintro e w1 ⟨rfl,hB1⟩;have HB1:=za (zw hB1);have hz1:W.heap.size<=w1.heap.size:=hB1.size;have HOf:=za (zbC (c.idx s') w1 (HIW.o.ck.keep HB1.o));(rw[ho] at HOf);clear hB1))
           have HB3:=za (HB1.o.trans (HB2.o.mono hz1));have r1:=zd HB3.o a1 az;have HTell:=za (zaa S kd lb bb sb nmv askv st4 p' w2 (HIW.o.keep HB3.o).rp);have hw2:=HB3.o.size;go_wp2_with (go_at_call 110;refine HTell.o.mono ?_;rintro e w6 ⟨rfl,hRt,hFt⟩;have HRt:=za hRt;have HFt:=za hFt;clear hRt hFt);go_roundg (gk-1);case measure=>omega
           exact⟨k3+1,rep st4 p',by omega,by omega,by go_num,(HIW.o.keep HB3.o).told HRt.o HFt.o,HT4.o,(HFW.o.trans (zy HB3.o)).trans HFt.o,(HFt.o.block _ (by omega) (λe=>by rcases e with e|e <;> omega)).trans ((HB3.o.block _ (by omega)).trans ((HBW.o.block _ (ze HQ4.o)).trans HQ4.o)),(HFt.o.block _ (by omega) (λe=>by rcases e with e|e <;> omega)).trans ((HB3.o.block _ kz).trans ((HBW.o.block _ (ze HK4.o)).trans HK4.o))⟩
         have e1':¬(o.1:Int)=(kq.1:Int):=(by omega);clear e0 e1;go_upto_region 15 with fail;refine zn (λW=>ClI S kd lb bb sb nmv askv N c (xE xe c cpe) (xP nb) w.heap.size cb st4 W/\Fr (RT lb bb) w W/\xB wr W/\xH W wr.heap.size #[.string s',xI p'] 84) ⟨HI4.o.keep (zq wr _),HF4.o.alloc _,zq wr _,zc wr _⟩ ?_;rintro W ⟨hIW,hFW,hBW,hNW⟩;obtain⟨s0,s1,sf,sz⟩:=zp hIW.x1;obtain⟨a0,a1,af,az⟩:=zp hNW;obtain⟨k0,k1',kf,kz⟩:=zp ((hBW.block _ (ze HK4.o)).trans HK4.o);have HIx:=za (zaz s' (p':Int) W.drew (hIW.sc.old (λ_ _=>rfl)) hIW.hN);have HIW:=za hIW;have HFW:=za hFW;have HBW:=za hBW;have hWz:=hBW.size;clear hIW hFW hBW hNW
         go_region_held3 (λw'=>w'.cell? (xD w.heap.size 0)=some (xE xe c cpe)/\w'.cell? (xD w.heap.size 1)=some (xP nb)/\w'.cell? (xD wr.heap.size 0)=some (.string s')/\w'.cell? (xD wr.heap.size 1)=some (xI p')/\w'.cell? (xD bk 0)=some (xI (kq.1:Nat))/\w'.cell? (xD bk 1)=some (xI (kq.2:Nat)))
          (first|(with_reducible (refine⟨?_,?_,?_,?_,?_,?_⟩ <;> repeat (first|assumption|refine zg ?_|refine zj _ ?_|refine zk (by omega) ?_|refine zd HB2.o ?_ (by first|omega|(rw[zsb];omega))|refine zd HB1.o ?_ (by first|omega|(rw[zsb];omega)))))|go_keep)
          (first
            | (go_at_call 64;refine HOf.o.mono ?_;rintro e w2 ⟨rfl,hB2⟩;have HB2:=za hB2;have hz2:w1.heap.size<=w2.heap.size:=hB2.size;clear hB2)
            | (go_at_call 65;refine HIx.o.mono ?_;rintro e w1 ⟨rfl,hB1⟩;have HB1:=za (zw hB1);have hz1:W.heap.size<=w1.heap.size:=hB1.size;have HOf:=za (zbC (c.idx s') w1 (HIW.o.ck.keep HB1.o));(rw[ho] at HOf);clear hB1))
         have HB3:=za (HB1.o.trans (HB2.o.mono hz1));have r1:=zd HB3.o a1 az;have HTell:=za (zaa S kd lb bb sb nmv askv st4 p' w2 (HIW.o.keep HB3.o).rp);have hw2:=HB3.o.size;go_wp2_with (go_at_call 110;refine HTell.o.mono ?_;rintro e w6 ⟨rfl,hRt,hFt⟩;have HRt:=za hRt;have HFt:=za hFt;clear hRt hFt);go_roundg (gk-1);case measure=>omega
         exact⟨k3+1,rep st4 p',by omega,by omega,by go_num,(HIW.o.keep HB3.o).told HRt.o HFt.o,HT4.o,(HFW.o.trans (zy HB3.o)).trans HFt.o,(HFt.o.block _ (by omega) (λe=>by rcases e with e|e <;> omega)).trans ((HB3.o.block _ (by omega)).trans ((HBW.o.block _ (ze HQ4.o)).trans HQ4.o)),(HFt.o.block _ (by omega) (λe=>by rcases e with e|e <;> omega)).trans ((HB3.o.block _ kz).trans ((HBW.o.block _ (ze HK4.o)).trans HK4.o))⟩
       have ek:k3=nl:=(by omega);subst ek;rw[show q.ns.drop (1+k3)=[] from List.drop_of_length_le (by have:=Hnl.o;omega),zhJ] at HD4;obtain⟨s0,s1,sf,sz⟩:=zp HI4.o.x1;obtain⟨q0,q1,q2,qf,qz⟩:=zL HQ4.o;obtain⟨k0,k1',kf,kz⟩:=zp HK4.o;have HOn:=za (zmF cb lb bb sb wr xe c.er.length cpe nb);have HTr:=za ((HE.o.old hO5).tt);clear hO4 hO5;go_upto_region 18 with fail
       go_region_held3 (λw'=>w'.cell? (xD w.heap.size 0)=some (xE xe c cpe)/\w'.cell? (xD w.heap.size 1)=some (xP nb)/\w'.cell? (xD wo.heap.size 2)=some (xP rb)/\w'.cell? (xD bk 0)=some (xI (kq.1:Nat))/\w'.cell? (xD bk 1)=some (xI (kq.2:Nat)))
        (first|(with_reducible (refine⟨?_,?_,?_,?_,?_⟩ <;> repeat (first|assumption|refine zg ?_|refine zS HF6.o ?_ (by omega) (by omega)|refine zd HB5.o ?_ (by omega))))|go_keep)
        (first
          | (go_at_call 103;refine HW.o.mono ?_;rintro e w6 ⟨rfl,hI6,hF6⟩;have HI6:=za hI6.rp;have HF6:=za hF6.fr;clear hI6 hF6)
          | (go_at_call 104;refine HOn.o.mono ?_;rintro e w5 ⟨rfl,hB5,y1,y2,y3⟩;have HB5:=za hB5;have HC5:=za (HI4.o.on hB5 (zMK _) y1 y2 y3);have hz5:wr.heap.size<=w5.heap.size:=hB5.size;have HW:=za (zjG (zqS S kd lb bb sb nmv askv N c (xE xe c cpe) (xP nb) cb wr.heap.size (wr.heap.size+1) (wr.heap.size+1+1)) q.r kq (xP rb) st4 w5 (HTr.o.old (zm hB5 hNr)) (by omega) HC5.o.sc HC5.o.ck HC5.o trivial trivial);(rw[zp1] at HW);(unfold ckW at HW);clear hB5 y1 y2 y3))
       go_wp2_with fail;go_roundg (gko-1);case measure=>omega
       refine⟨k+1,_,by omega,by omega,by go_num,(HI4.o.keep HB5.o).told HI6.o HF6.o,?_,(HF4.o.trans (zy HB5.o)).trans HF6.o⟩;rw[HT.o,HD4.o];rfl
   have ek:k=c.nd.eqs.length:=(by omega);subst ek;rw[List.drop_length,List.flatMap_nil] at HD;clear hO;go_wp2_with fail;first|go_end0|refine zWR (results_none rfl _ _ _) rfl ?_
   refine⟨rfl,?_,HF.o⟩;rw[HD.o];exact HI.o.rp
end
section
open Go.RowKit
variable {L:List (Nat×Nat)} {N b1 bb kd lb mb sb:Nat} {S:Xs} {st:Xo} {c:Sc} {askv ev nmv nv:Xv} {w w':Xw}
attribute [local go_sem ↓] Go.wp_at_zero Go.wp_at_succ
structure zfK (S:Xs) (kd lb bb sb:Nat) (nmv askv:Xv) (N:Nat) (c:Sc) (ev nv:Xv) (b1 mb:Nat) (L:List (Nat×Nat)) (st:Xo) (w:Xw):Prop where
 rp:RpI S kd lb bb sb nmv askv st w
 sc:ScV w N c ev nv
 lk:za8 w mb L
 x1:w.heap[b1]?=some (.cells #[ev,nv] 188 (0,0))
 d:∀b,b=b1∨b=mb->¬b=lb/\¬b=bb
 l1:N<=lb
 l2:N<=bb
 hN:N<=w.heap.size
theorem zfK.keep (h:zfK S kd lb bb sb nmv askv N c ev nv b1 mb L st w)(hB:xB w w'):zfK S kd lb bb sb nmv askv N c ev nv b1 mb L st w' :=
 ⟨h.rp.keep hB,h.sc.old (zm hB h.hN),h.lk.keep hB,(hB.block _ (ze h.x1)).trans h.x1,h.d,h.l1,h.l2,zMO h.hN hB.size⟩
theorem zfK.told {st':Xo}(h:zfK S kd lb bb sb nmv askv N c ev nv b1 mb L st w)(hr:RpI S kd lb bb sb nmv askv st' w')(hf:Fr (RT lb bb) w w'):zfK S kd lb bb sb nmv askv N c ev nv b1 mb L st' w':=by
 have hn:∀{b},(b=b1∨b=mb)->¬RT lb bb b:=λh1 e=>by rcases e with e|e;exact (h.d _ h1).1 e;exact (h.d _ h1).2 e
 exact⟨hr,h.sc.old (hf.old h.hN (λk e=>by rcases e with e|e;exact e▸h.l1;exact e▸h.l2)),h.lk.of' (hf.block _ h.lk.lt (hn (by simp))),(hf.block _ (ze h.x1) (hn (by simp))).trans h.x1,h.d,h.l1,h.l2,zMO h.hN hf.size⟩
theorem zoI (a:Nat)(L:List (Nat×Nat))(n m:Nat):zht a L n (m+1)=(if (n-(m+1),n-(m+1))∈L then [a] else [])++zht a L n m:=rfl
theorem ziB (S:Xs)(kd lb bb sb:Nat)(nmv askv:Xv)(N:Nat)(c:Sc)(hc:zbr c)(ev nv:Xv)(st:Xo)(w:Xw)(hR:RpI S kd lb bb sb nmv askv st w)(HSc:ScV w N c ev nv)(hN:N<=w.heap.size)(l1:N<=lb)(l2:N<=bb) :
 xK 50 #[.agg #[ev,nv],zam lb bb sb] w (λe w'=>e=.returned (.tuple #[])/\RpI S kd lb bb sb nmv askv (c.causesL.foldl rep st) w'/\Fr (RT lb bb) w w'):=by
 obtain⟨xe,cpe,nb,rfl,rfl,hnb⟩:=HSc.shape;have hzl:=ze hR.l;have hzb:=ze hR.b;have HR:=za hR;obtain⟨nb',vs,qv,xs,e9,HNt⟩:=HSc.nd;cases e9;obtain⟨xv,cpv,rfl⟩:=zB HNt.vown;obtain⟨xq,cpq,rfl⟩:=zB HNt.own;have hfew:=HNt.few;have HLo:=za (λo=>zgy hc (w.alloc o) (HSc.old (zeW hN o)) (by rw[zsb];omega));unfold zam;go_enter func50,ntmps50;go_upto_region 2 with (go_at_call 106;refine (HLo.o _).mono ?_;rintro e w1 ⟨mb,rfl,hmz,hLk,hB1⟩;have HLk:=za hLk;have hx1:=za ((hB1.block _ (by simp)).trans (zc w _));have HB1:=za (zE hB1));rw[zsb] at hmz;obtain⟨m0,m1,m2,m3,m4,m5,mf,mz⟩:=zt ((HB1.o.block nb (by omega)).trans HNt.blk);obtain⟨s0,s1,sf,sz⟩:=zp hx1.out;have HFo:=za (zk8 c.nd.vars.length (by omega) w1 HLk.o);go_upto_region 3 with (go_at_call 107;refine HFo.o.mono ?_;rintro e w2 ⟨rfl,hL2,hF2⟩;have HL2:=za hL2;have HF2:=za hF2;have HB2:=za (zbR HB1.o hF2 (by omega)));refine zn (λW=>zfK S kd lb bb sb nmv askv N c (xE xe c cpe) (xP nb) w.heap.size mb (zdT c.nd.vars.length c.linksL) st W/\Fr (RT lb bb) w W) ⟨⟨HR.o.keep HB2.o,HSc.old (zm HB2.o hN),HL2.o,(HF2.o.block _ sz (by omega)).trans hx1.out,λb e=>by rcases e with e|e <;> exact⟨by omega,by omega⟩,l1,l2,by have:=HB2.o.size;omega⟩,zy HB2.o⟩ ?_;rintro W ⟨hIW,hFW⟩;obtain⟨m0,m1,m2,m3,m4,m5,mf,mz⟩:=zt ((hFW.block nb (by omega) (λe=>by rcases e with e|e <;> omega)).trans HNt.blk);obtain⟨s0,s1,sf,sz⟩:=zp hIW.x1;have HIW:=za hIW;have HFW:=za hFW;go_wp2_with fail;go_loopg [25] (c.nd.vars.length+1) (λj i wr=>∃(k:Nat) (st2:Xo),k+j=c.nd.vars.length+1/\k<=c.nd.vars.length/\i=xI k/\Hid (zfK S kd lb bb sb nmv askv N c (xE xe c cpe) (xP nb) w.heap.size mb (zdT c.nd.vars.length c.linksL) st2 wr)/\Hid (c.causesL.foldl rep st=(zht c.nd.a (zdT c.nd.vars.length c.linksL) c.nd.vars.length (j-1)).foldl rep st2)/\Hid (Fr (RT lb bb) w wr));case atStart=>exact⟨0,st,by omega,zMN _,rfl,HIW.o,rfl,HFW.o⟩
 case round =>
  obtain⟨k,st2,hkj,hk,rfl,HI,HD,HF⟩:=hrel;by_cases hlt:k<c.nd.vars.length
  . obtain⟨m,rfl⟩:∃m,gk=m+1+1:=⟨gk-1-1,by omega⟩;have hE:=HD.o;rw[show m+1+1-1=m+1 from rfl,zoI,show c.nd.vars.length-(m+1)=k by omega,zMP] at hE;have HE:=za hE;have HH:=za (ze9 k k wr HI.o.lk);by_cases h1:(k,k)∈zdT c.nd.vars.length c.linksL
    . rw[zM2 h1] at HE;rw[decide_eq_true h1] at HH
      go_wp2_with (first
       | (go_at_call 110;refine (zaa S kd lb bb sb nmv askv st2 c.nd.a _ HI2.o.rp).mono ?_;rintro e w3 ⟨rfl,HRt,HFt⟩)
       | (go_at_call 108;refine HH.o.mono ?_;rintro e w2 ⟨rfl,hB2⟩;have HI2:=za (HI.o.keep hB2);have HF2:=za (HF.o.trans (zy hB2));obtain⟨s0,s1,sf,sz⟩:=zp HI2.o.x1;obtain⟨m0,m1,m2,m3,m4,m5,mf,mz⟩:=zt ((HF2.o.block nb (by omega) (λe=>by rcases e with e|e <;> omega)).trans HNt.blk)))
      go_roundg (m+1);case measure=>omega
      exact⟨k+1,rep st2 c.nd.a,by omega,by omega,by go_num,HI2.o.told HRt HFt,HE.o,HF2.o.trans HFt⟩
    rw[zM1 h1] at HE;rw[decide_eq_false h1] at HH;go_wp2_with (go_at_call 108;refine HH.o.mono ?_;rintro e w2 ⟨rfl,hB2⟩;have HB2:=za hB2);go_roundg (m+1);case measure=>omega
    exact⟨k+1,st2,by omega,by omega,by go_num,HI.o.keep HB2.o,HE.o,HF.o.trans (zy HB2.o)⟩
  have ek:k=c.nd.vars.length:=by omega
  subst ek;have:gk=1:=by omega
  subst this;have HE:Hid (c.causesL.foldl rep st=st2):=HD.o;go_wp2_with fail;first|go_end0|refine zWR (results_none rfl _ _ _) rfl ?_
  refine⟨rfl,?_,HF.o⟩;rw[HE.o];exact HI.o.rp
end
section
open Go.RowKit
variable {s:Int} {m:List (ByteArray×Nat)} {b cnb mbx:Nat} {w w':Xw}
attribute [local go_sem ↓] Go.wp_at_zero Go.wp_at_succ
def zdf (w:Xw)(b:Nat)(m:List (ByteArray×Nat)):Prop :=
 ∃l:List (ByteArray×Value),zbn w b Value.string l/\∀s,(zaT s l).getD (xI 0)=xI (zbi s m:Nat)
theorem zdf.of' (h:zdf w b m)(hb:w'.heap[b]?=w.heap[b]?):zdf w' b m:=by obtain⟨l,h1,h2⟩:=h;exact⟨l,h1.of hb,h2⟩
theorem zdf.lt (h:zdf w b m):b<w.heap.size:=by obtain⟨l,h1,_⟩:=h;exact h1.lt
theorem zdf.keep (h:zdf w b m)(hB:xB w w'):zdf w' b m:=h.of' (hB.block _ h.lt)
theorem Tryz.zeroI (w:Xw):(zeroValue 3).run prog w=.ok (xI 0) w:=by kernel_rfl
theorem zkF (h:zdf w b m)(s:Xb) :
 (Instr.lookup 214 (.map (some b)) (.string s) false).run prog w=.ok (xI (zbi s m:Nat)) w:=by
 obtain⟨l,h1,h2⟩:=h;refine (zgI Tryz.keyStr underlying214 Tryz.zeroI h1 s false).trans ?_;rw[<- h2 s];rfl
theorem zqN (h:zdf w b m)(s:Xb)(n:Nat) :
 ∃w',(Instr.mapUpdate 214 (.map (some b)) (.string s) (xI (n:Int))).run prog w=.ok () w'/\zdf w' b ((s,n)::m)/\Fr (·=b) w w':=by
 obtain⟨l,h1,h2⟩:=h;obtain⟨w',r,mm,f⟩:=zgh Tryz.keyStr underlying214 h1 s (xI (n:Int));refine⟨w',r,⟨_,mm,λs'=>?_⟩,f⟩;rw[zgD,zbi];by_cases e:s=s'
 . rw[zM2 e,zM2 e];rfl
 rw[zM1 e,zM1 e];exact h2 s'
def zbf (m:List (ByteArray×Nat))(s:Int)(t:Tm):Int:=if t.k=9∨t.k=4 then wrap64 (s+(za9 m t:Nat)) else s
structure CnI (cnb mbx b:Nat) (m:List (ByteArray×Nat)) (s:Int) (w:Xw):Prop where
 x1:w.heap[cnb]?=some (.cells #[xI s] 3 (0,0))
 x2:w.heap[mbx]?=some (.cells #[.map (some b)] 214 (0,0))
 cm:zdf w b m
 d1:¬mbx=cnb
 d2:¬b=cnb
theorem CnI.keep (h:CnI cnb mbx b m s w)(hB:xB w w'):CnI cnb mbx b m s w' :=
 ⟨(hB.block _ (ze h.x1)).trans h.x1,(hB.block _ (ze h.x2)).trans h.x2,h.cm.keep hB,h.d1,h.d2⟩
theorem CnI.put (h:CnI cnb mbx b m s w)(s':Int):CnI cnb mbx b m s' (w.setCell (xD cnb 0) (xI s')) :=
 ⟨zhY h.x1 _,zr h.d1 h.x2,h.cm.of' (zr h.d2 rfl),h.d1,h.d2⟩
theorem zqq:zH 147:=λ_ _=>by kernel_rfl
theorem zm7 (N:Nat)(n:Nod)(cnb mbx b:Nat)(m:List (ByteArray×Nat))(hm:∀s,zbi s m<=61)(hcn:N<=cnb) :
 zjB N (·=cnb) 147 #[xP cnb,xP mbx] (λ_=>True) n (λs _ t=>zbf m s t) (CnI cnb mbx b m) where
 enters:=zqq
 hT:=λ_ e=>e▸hcn
 keep:=λs w w' h hB=>h.keep hB
 sub:=λ_ _ _ _=>trivial
 root:=λ_ _=>trivial
 call:=by
  intro q lv rv t v s w _ hE hT _ hN HI0 _;obtain⟨bt,args,vs,rfl,hb',hblk,_⟩:=hT.ptr;obtain⟨xl,cl,rfl⟩:=zB hE.own;obtain⟨rb,_,_,rfl,_⟩:=hE.tt.ptr;have HI:=za (λo=>HI0.keep (zq w o));obtain⟨m0,m1,m2,m3,m4,m5,mf,mz⟩:=zt hblk;obtain⟨a0,af,az⟩:=zu HI0.x1;obtain⟨p0,pf,pz⟩:=zu HI0.x2;have hd:=HI0.d1;have hbc:¬bt=cnb:=by omega
  have hlk:=λo=>zkF (HI0.keep (zq w o)).cm t.s;have h61:=hm t.s;clear hT hblk hE hm
  show Calls prog _ #[.agg #[.slice xl q.ns.length cl,xI q.a,xP rb],xP bt,xP cnb,xP mbx] w _;by_cases h9:t.k=9
  . have HS:Hid (zbf m s t=wrap64 (s+1)):=by unfold Hid zbf za9;rw[zM2 (zM3 h9),zM2 h9];rfl
    have m0':w.cell? (xD bt 0)=some (xI 9):=(by rw[m0,h9];rfl);clear h9 m0;go_enter func147,ntmps147;go_wp2_with fail;go_ret;rw[HS.o];exact⟨rfl,(HI0.put _).keep (zq _ _),(Fr.set1 (Fr.refl _ w) _ _).alloc _⟩
  by_cases h4:t.k=4
  . have HS:Hid (zbf m s t=wrap64 (s+(1+(zbi t.s m:Nat)))):=by unfold Hid zbf za9;rw[zM2 (zM4 h4),zM1 h9,zM2 h4];rfl
    have m0':w.cell? (xD bt 0)=some (xI 4):=(by rw[m0,h4];rfl);have hw1:wrap64 (1+(zbi t.s m:Int))=1+(zbi t.s m:Int):=(by unfold wrap64;omega);clear h9 h4 m0;go_enter func147,ntmps147;go_upto_region 5 with fail;refine zn (λW=>CnI cnb mbx b m s W/\xB w W) ⟨HI.o _,zq w _⟩ ?_;rintro W ⟨HIW,HBW⟩;clear a0 af az p0 pf pz hlk;obtain⟨a0,af,az⟩:=zu HIW.x1;obtain⟨p0,pf,pz⟩:=zu HIW.x2;have r2:=zd HBW m2 mz;have hlk:(Instr.lookup 214 (.map (some b)) (.string t.s) false).run prog W.drew=.ok (xI (zbi t.s m:Nat)) W.drew:=zkF (w:=W.drew) (HIW.cm.of' (w':=W.drew) rfl) t.s;clear m0' m1 m2 m3 m4 m5 mf;go_region;go_wp2_with fail;go_ret;rw[HS.o];exact⟨rfl,(HIW.put _).keep (zo (zWQ _ _)),(Fr.set1 (zy HBW) _ _).trans (zy (zo (zWQ _ _)))⟩
  have HS:Hid (zbf m s t=s):=by unfold Hid zbf;rw[zM1 (by omega)]
  have h9':¬(t.k:Int)=9:=by omega
  have h4':¬(t.k:Int)=4:=by omega
  clear h9 h4;go_enter func147,ntmps147;go_wp2_with fail;go_ret;rw[HS.o];exact⟨rfl,HI.o _,zy (zq w _)⟩
end
section
def Nod.terms (n:Nod):List Tm:=n.eqs.flatMap λq=>zaV za5 q.r
end
end Go.Proofs.YtenadialhccdiaaGreatDoor
