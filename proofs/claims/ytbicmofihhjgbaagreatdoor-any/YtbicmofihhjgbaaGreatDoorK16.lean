/- Part 17 of the proof: ClkA ClkB ClkC. -/
import Derived.Carry
import Derived.Test.YtbicmofihhjgbaaGreatDoorK15
set_option maxRecDepth 100000
set_option maxHeartbeats 8000000
namespace Go.Proofs.YtbicmofihhjgbaaGreatDoor
open Go.Proofs.Tryz
open Go.RowKit
section
variable {cb:Nat} {c:Sc} {w w':World}
attribute [local go_sem ↓] Go.wp_at_zero Go.wp_at_succ
theorem zd8 (w:World)(o1 o2:Obj):((w.alloc o1).alloc o2).heap[w.heap.size]?=some o1/\((w.alloc o1).alloc o2).heap[w.heap.size+1]?=some o2:=by refine⟨(Below.heap_alloc _ _ _ (by simp)).trans (zc w o1),?_⟩;have:=zc (w.alloc o1) o2;rwa [zsb] at this
def clk (k:Nat×Nat):Int×Int:=((k.1:Int),(k.2:Int))
def ckL (c:Sc):Nat->List ((Int×Int)×Value)
 | 0=>[]
 | i+1=>ckL c i++[(((i:Int),1),pr (clk (c.of i))),(((i:Int),2),pr (clk (c.of i)))]
theorem zpm (c:Sc)(n:Nat):(ckL c n).length=2*n:=by
 induction n with
 | zero=>rfl
 | succ n ih=>rw[ckL,List.length_append,ih];simp;omega
theorem zqf (c:Sc)(n:Nat):∀p∈ckL c n,∃j,j<n/\p.1.1=(j:Int):=by
 induction n with
 | zero=>intro p h;simp[ckL] at h
 | succ n ih =>
   intro p h;rw[ckL,List.mem_append] at h;rcases h with h|h
   . obtain⟨j,h1,h2⟩:=ih p h;exact⟨j,by omega,h2⟩
   . simp at h;rcases h with rfl|rfl
     . exact⟨n,by omega,rfl⟩
     . exact⟨n,by omega,rfl⟩
theorem zkA (c:Sc)(n:Nat)(s:Int):((n:Int),s) ∉ (ckL c n).map (·.1):=by intro h;obtain⟨p,h1,h2⟩:=List.mem_map.1 h;obtain⟨j,h3,h4⟩:=zqf c n p h1;rw[h2] at h4;simp at h4;omega
theorem znw {κ:Type} [DecidableEq κ] (k:κ)(m:List (κ×Value)):∀l:List (κ×Value),zaT k (l++m)=match zaT k l with|some v=>some v|none=>zaT k m:=by
 intro l;induction l with
 | nil=>rfl
 | cons p l ih =>
   rw[List.cons_append];simp only[zaT];split
   . rfl
   . exact ih
theorem zoh (c:Sc)(n j s:Nat):zaT ((j:Int),(s:Int)) (ckL c n)=if j<n/\(s=1∨s=2) then some (pr (clk (c.of j))) else none:=by
 induction n with
 | zero=>simp[ckL,zaT]
 | succ n ih =>
   rw[ckL,znw,ih];by_cases h1:j<n
   . by_cases h2:s=1∨s=2
     . rw[if_pos ⟨h1,h2⟩,if_pos ⟨by omega,h2⟩]
     . rw[if_neg (λe=>h2 e.2),if_neg (λe=>h2 e.2)];simp only[zaT,Prod.mk.injEq];rw[if_neg (by omega),if_neg (by omega)]
   . rw[if_neg (λe=>h1 e.1)];simp only[zaT,Prod.mk.injEq];by_cases h3:j=n
     . subst h3;by_cases h4:s=1
       . subst h4;simp
       . by_cases h5:s=2
         . subst h5;simp
         . rw[if_neg (by omega),if_neg (by omega),if_neg (by omega)]
     . rw[if_neg (by omega),if_neg (by omega),if_neg (by omega)]
theorem zng (c:Sc)(n:Nat)(v:Value):upd ((n:Int),1) v (ckL c n)=ckL c n++[(((n:Int),1),v)]:=zh0 (zkA c n 1)
theorem zn3 (c:Sc)(n:Nat)(u v:Value):upd ((n:Int),2) v (ckL c n++[(((n:Int),1),u)])=ckL c n++[(((n:Int),1),u),(((n:Int),2),v)]:=by
 rw[zh0]
 . simp
 . rw[List.map_append,List.mem_append];rintro (h|h)
   . exact zkA c n 2 h
   . simp at h
def za7 (w:World)(c:Sc)(cb:Nat):Prop:=zbn w cb pr (ckL c c.nd.vars.length)
theorem za7.of' (h:za7 w c cb)(hb:w'.heap[cb]?=w.heap[cb]?):za7 w' c cb:=zbn.of h hb
theorem za7.lt (h:za7 w c cb):cb<w.heap.size:=zbn.lt h
theorem za7.keep (h:za7 w c cb)(hB:xB w w'):za7 w' c cb:=h.of' (hB.block _ h.lt)
theorem Tryz.zeroClock (w:World):(zeroValue 198).run prog w=.ok (pr (0,0)) w:=by unfold pr;kernel_rfl
theorem zoP (c:Sc)(i:Nat)(h:¬i<c.nd.vars.length):c.of i=(0,0):=by unfold Sc.of;rw[List.getElem?_eq_none (by omega)]
theorem zkW (h:za7 w c cb)(k:Nat×Nat) :
 (Instr.lookup 123 (.map (some cb)) (pr (clk k)) false).run prog w=.ok (pr (clk (c.up k))) w:=by
 rw[zgI Tryz.keyClock underlying123 Tryz.zeroClock h (clk k) false];rw[show clk k=((k.1:Int),(k.2:Int)) from rfl,zoh];refine congrArg (λv=>Result.ok v w) ?_
 show Option.getD _ _=_;unfold Sc.up;by_cases h2:k.2=1∨k.2=2
 . rw[if_pos h2];by_cases h1:k.1<c.nd.vars.length
   . rw[if_pos ⟨h1,h2⟩];rfl
   . rw[if_neg (λe=>h1 e.1),zoP c _ h1];rfl
 . rw[if_neg (λe=>h2 e.2),if_neg h2];rfl
theorem zru (h:za7 w c cb)(i:Nat) :
 (Instr.lookup 123 (.map (some cb)) (.agg #[xI (i:Int),xI 1]) false).run prog w=.ok (.agg #[xI ((c.of i).1:Nat),xI ((c.of i).2:Nat)]) w:=by
 have:=zkW h (i,1);rw[show c.up (i,1)=c.of i from if_pos (Or.inl rfl)] at this;exact this
theorem zqw (h:za7 w c cb)(ty:TypeId):(Builtin.len_ #[123] ty #[.map (some cb)]).run prog w=.ok (xI ((2*c.nd.vars.length:Nat):Int)) w:=by
 obtain⟨es,clock,h1,h2⟩:=h;have h3:es.size=2*c.nd.vars.length:=by have:=congrArg List.length h2;rw[List.length_map,List.length_map,zpm] at this;simpa using this
 rw[<- h3];have h4:prog.underlying 123=some (.map (prog.mapKeyOf 123) (prog.mapElemOf 123)):=by kernel_rfl
 exact run_len_map w 123 ty cb es clock h4 h1
theorem zbC (i:Nat)(w:World)(h:za7 w c cb) :
 xK 104 #[.map (some cb),xI (i:Int)] w (λe w'=>e=.returned (.agg #[xI ((c.of i).1:Nat),xI ((c.of i).2:Nat)])/\xB w w'):=by
 have hl:=λo=>zru (h.keep (zq w o)) i;go_enter func104,ntmps104;go_wp2_with fail;refine bodyPost_ret (v:=.agg #[xI ((c.of i).1:Nat),xI ((c.of i).2:Nat)]) (by simp[results,results104,go_sem]) rfl ⟨rfl,?_⟩;exact zq w _
theorem zdR {b:Nat}{e:TypeId}{u0 u1:Value}(h:xH w b #[u0,u1] e)(v0 v1:Value):((w.setCell (xD b 0) v0).setCell (xD b 1) v1).heap[b]?=some (.cells #[v0,v1] e (0,0)) :=
 zh _ _ _ _ (zh _ _ _ _ h)
theorem znR (c:Sc)(i:Nat)(m:Nat)(k:Nat×Nat):zhr c i (m+1) k=if k=(0,0) then false else if k.1=i then true else zhr c i m (c.up k):=rfl
theorem ziA (i:Nat)(w:World)(h:za7 w c cb)(h16:c.nd.vars.length<=1000) :
 xK 132 #[.map (some cb),xI (i:Int)] w (λe w'=>e=.returned (.bool (c.comesBack i))/\xB w w'):=by
 have HL:=zbC i w h;have HC:=za h;have hz:=h.lt;clear h;go_enter func132,ntmps132;go_upto_region 2 with (go_at_call 104;refine HL.mono ?_;rintro e w1 ⟨rfl,HB⟩);refine zn (λW=>za7 W c cb/\xB w W/\xH W w1.heap.size #[xI ((c.of i).1:Nat),xI ((c.of i).2:Nat)] 198) ⟨(HC.o.keep HB).keep (zq w1 _),zaU HB (Nat.le_refl _) _,zc w1 _⟩ ?_;rintro W ⟨hCW,hBW,hXW⟩;have hzw:w.heap.size<=w1.heap.size:=HB.size;have hlen:=zqw hCW;have HCW:=za hCW;have HBW:=za hBW;have HXW:=za hXW;clear hCW hBW hXW;go_wp2_with fail;go_loopg [11] (2*c.nd.vars.length+1) (λj x wr=>∃(k:Nat) (kk:Nat×Nat),k+j=2*c.nd.vars.length+1/\k<=2*c.nd.vars.length/\x=xI k/\Hid (za7 wr c cb)/\Hid (xH wr w1.heap.size #[xI (kk.1:Nat),xI (kk.2:Nat)] 198)/\Hid (c.comesBack i=zhr c i (j-1) kk)/\Hid (xB w wr));case atStart=>exact⟨0,c.of i,by omega,Nat.zero_le _,rfl,HCW.o,HXW.o,rfl,HBW.o⟩
 case round =>
  clear HCW HXW HBW hlen;obtain⟨k,kk,hkj,hk,rfl,HC,HX,HD,HB2⟩:=hrel;obtain⟨x0,x1,xf,xz⟩:=zp HX.o;by_cases hlt:k<2*c.nd.vars.length
  . obtain⟨m,rfl⟩:∃m,gk=m+1+1:=⟨gk-1-1,by omega⟩;have hE:=HD.o;rw[show m+1+1-1=m+1 from rfl,znR] at hE;have hlk:=zkW HC.o kk;unfold pr clk at hlk;clear HD;by_cases h0:kk=(0,0)
    . rw[if_pos h0] at hE;subst h0;have HE:=za hE;clear hE;go_wp2_with fail;go_ret;exact⟨by rw[HE.o];rfl,HB2.o⟩
    . rw[if_neg h0] at hE;by_cases h1:kk.1=i
      . rw[if_pos h1] at hE;have h1':(kk.1:Int)=(i:Int):=(by omega);have HE:=za hE;clear hE h1;obtain⟨k1,k2⟩:=kk;simp only[Prod.mk.injEq] at h0;simp only at h1' HX HE x0 x1 hlk;by_cases g0:(k1:Int)=0;have g1:¬(k2:Int)=0:=(by omega);simp only[g0] at hlk;all_goals clear h0
        . go_wp2_with fail;go_ret;exact⟨by rw[HE.o];rfl,HB2.o⟩
        . go_wp2_with fail;go_ret;exact⟨by rw[HE.o];rfl,HB2.o⟩
      . rw[if_neg h1] at hE;have h1':¬(kk.1:Int)=(i:Int):=(by omega);have HE:=za hE;clear hE h1;have hcn:¬cb=w1.heap.size:=(by omega);obtain⟨k1,k2⟩:=kk;simp only[Prod.mk.injEq] at h0;simp only at h1' HX HE x0 x1 hlk;by_cases g0:(k1:Int)=0;have g1:¬(k2:Int)=0:=(by omega);simp only[g0] at hlk;all_goals clear h0
        iterate 2
         . go_wp2_with fail;go_roundg (m+1);case measure=>omega
           exact⟨k+1,c.up (k1,k2),by omega,by omega,by go_num,HC.o.of' ((Below.heap_setCell _ _ _ _ hcn).trans (Below.heap_setCell _ _ _ _ hcn)),zdR HX.o _ _,HE.o,zC (zC HB2.o hzw _) hzw _⟩
  . have ek:k=2*c.nd.vars.length:=by omega
    subst ek;have:gk=1:=by omega
    subst this;have HE:Hid (c.comesBack i=false):=HD.o;clear HD;go_wp2_with fail;go_ret;exact⟨by rw[HE.o];rfl,HB2.o⟩
end
section
variable {N cb k:Nat} {c:Sc} {ev nv:Value} {v:Vr} {W:World}
attribute [local go_sem ↓] Go.wp_at_zero Go.wp_at_succ
theorem znZ (hv:c.nd.vars[k]?=some v)(h:zaA v=0):c.of k=(0,0):=by unfold Sc.of;rw[hv];exact if_pos h
theorem znq (hv:c.nd.vars[k]?=some v)(h:¬zaA v=0):c.of k=(c.idx v.ck,zaA v):=by unfold Sc.of;rw[hv];exact if_neg h
theorem zkk (h:zbn W cb pr (ckL c k)) :
 ∃W1 W2,(Instr.mapUpdate 123 (.map (some cb)) (.agg #[xI (k:Int),xI 1]) (.agg #[xI ((c.of k).1:Nat),xI ((c.of k).2:Nat)])).run prog W=.ok () W1/\Fr (·=cb) W W1/\(Instr.mapUpdate 123 (.map (some cb)) (.agg #[xI (k:Int),xI 2]) (.agg #[xI ((c.of k).1:Nat),xI ((c.of k).2:Nat)])).run prog W1=.ok () W2/\Fr (·=cb) W1 W2/\zbn W2 cb pr (ckL c (k+1)):=by
 obtain⟨W1,r1,m1,f1⟩:=zgh Tryz.keyClock underlying123 h ((k:Int),1) (pr (clk (c.of k)));rw[zng] at m1;obtain⟨W2,r2,m2,f2⟩:=zgh Tryz.keyClock underlying123 m1 ((k:Int),2) (pr (clk (c.of k)));rw[zn3] at m2;exact⟨W1,W2,r1,f1,r2,f2,m2⟩
theorem zbR {w W1:World}(h:xB w W)(hf:Fr (·=cb) W W1)(hcb:w.heap.size<=cb):xB w W1 :=
 ⟨hf.os.trans h.os,hf.tape.trans h.tape,hf.output.trans h.output,Nat.le_trans h.size hf.size,λk hk=>(hf.block k (Nat.lt_of_lt_of_le hk h.size) (by omega)).trans (h.block k hk)⟩
theorem zeC (w:World)(h:ScV w N c ev nv)(hN:N<=w.heap.size) :
 xK 99 #[.agg #[ev,nv]] w (λe w'=>∃cb,e=.returned (.map (some cb))/\w.heap.size<=cb/\za7 w' c cb/\xB w w'):=by
 obtain⟨xe,cpe,nb,rfl,rfl,hnb⟩:=h.shape;have HSc:=za h;obtain⟨nb',vs,qv,xs,e9,hnt⟩:=h.nd;cases e9;obtain⟨xv,cpv,rfl⟩:=zB hnt.vown;obtain⟨xq,cpq,rfl⟩:=zB hnt.own;obtain⟨m0,m1,m2,m3,m4,m5,mf,mz⟩:=zt hnt.blk;have HNt:=za hnt;have hfew:=hnt.few;have hmm:=@run_makeMap prog;have hnw:nb<w.heap.size:=by omega
 have hA:∀o1 o2,((w.alloc o1).alloc o2).heap[w.heap.size]?=some o1/\((w.alloc o1).alloc o2).heap[w.heap.size+1]?=some o2:=λo1 o2=>zd8 w o1 o2;have HA:=za hA;clear h hnt hA;go_enter func99,ntmps99;go_wp2_with fail;go_loopg [14] (c.nd.vars.length+1) (λj x wr=>∃k:Nat,k+j=c.nd.vars.length+1/\k<=c.nd.vars.length/\x=xI k/\Hid (zbn wr (w.heap.size+1) pr (ckL c k))/\Hid (xH wr w.heap.size #[xE xe c cpe,xP nb] 114)/\Hid (xB w wr));case atStart=>exact⟨0,by omega,Nat.zero_le _,rfl,⟨#[],0,(HA.o _ _).2,rfl⟩,(HA.o _ _).1,zaD w _ _⟩
 case round =>
  clear HA m0 m1 m2 m3 m4 m5 mf mz hmm;obtain⟨k,hkj,hk,rfl,HM,HX,HB⟩:=hrel;have hO:=zm HB.o hN;by_cases hlt:k<c.nd.vars.length
  . obtain⟨v,hv⟩:∃v,c.nd.vars[k]?=some v:=⟨_,zsc hlt⟩;obtain⟨g,rfl,c0,c1,c2,c3,c4,c5,c6⟩:=zaM (HNt.o.old hO).vown hv;have hgN:=HNt.o.vlo g rfl;obtain⟨s0,s1,sf,sz⟩:=zp HX.o;have hzr:=HM.o.lt;have HSr:=za (HSc.o.old hO);have hwz:=HB.o.size;have hA:=zd8 wr (.cells #[.string v.nm,xI v.a,xI (zaK v:Nat),xI (zaA v:Nat),xI v.on,.string v.ck,xI v.ca] 134) (.cells #[xI 0,xI 0] 198);have HA:=za hA;have HV:=za hv;clear hA hO hv;by_cases hsg:zaA v=0
    . have hsg':(zaA v:Int)=0:=(by omega);have ho:=znZ HV.o hsg;rw[hsg] at c3 HA;have HO:=za ho;clear ho hsg hsg';go_upto_region 8 with fail;refine zn (λW=>zbn W (w.heap.size+1) pr (ckL c k)/\xH W (wr.heap.size+1) #[xI ((c.of k).1:Nat),xI ((c.of k).2:Nat)] 198/\xB w W/\xH W w.heap.size #[xE xe c cpe,xP nb] 114) ⟨HM.o.of ((zaD wr _ _).block _ hzr),by rw[HO.o];exact HA.o.2,HB.o.trans ((zaD wr _ _).mono hwz),(Below.block (zaD wr _ _) _ sz).trans HX.o⟩ ?_;rintro W ⟨hMW,hZW,hBW,hXW⟩;obtain⟨W1,W2,r1,f1,r2,f2,m2⟩:=zkk hMW;obtain⟨o0,o1,of,oz⟩:=zp hZW;have hne:¬wr.heap.size+1=w.heap.size+1:=(by omega);obtain⟨p0,p1,pf,pz⟩:=zp ((f1.block _ oz hne).trans hZW);have HM2:=za m2;have HB2:=za (zbR (zbR hBW f1 (by omega)) f2 (by omega));have HX2:Hid (xH W2 w.heap.size #[xE xe c cpe,xP nb] 114):=(f2.block _ (by have:=f1.size;have:=ze hXW;omega) (by omega)).trans ((f1.block _ (ze hXW) (by omega)).trans hXW);clear hMW hZW hBW hXW f1 f2 m2;go_wp2_with fail;go_roundg (gk-1);case measure=>omega
      exact⟨k+1,by omega,by omega,by go_num,HM2.o,HX2.o,HB2.o⟩
    . have hsg':¬(zaA v:Int)=0:=(by omega);have ho:=znq HV.o hsg;have HO:=za ho;clear ho hsg;go_upto_region 7 with fail;refine zn (λW=>zbn W (w.heap.size+1) pr (ckL c k)/\xB w W/\xH W w.heap.size #[xE xe c cpe,xP nb] 114/\xH W wr.heap.size #[.string v.nm,xI v.a,xI (zaK v:Nat),xI (zaA v:Nat),xI v.on,.string v.ck,xI v.ca] 134/\xH W (wr.heap.size+1) #[xI 0,xI 0] 198) ⟨HM.o.of ((zaD wr _ _).block _ hzr),HB.o.trans ((zaD wr _ _).mono hwz),(Below.block (zaD wr _ _) _ sz).trans HX.o,HA.o.1,HA.o.2⟩ ?_;rintro W ⟨hMW,hBW,hXW,hVW,hZW⟩;obtain⟨s0,s1,sf,sz⟩:=zp hXW;obtain⟨v0,v1,v2,v3,v4,v5,v6,vf,vz⟩:=zbZ hVW;obtain⟨z0,z1,zf,zz⟩:=zp hZW;have hWz:w.heap.size<=W.heap.size:=hBW.size;have HIx:=za (zaz v.ck (v.ca:Int) W.drew (HSc.o.old (zm (zo hBW) hN)) (by show N<=W.heap.size;omega));have HMW:=za hMW;have HBW:=za hBW;have HXW:=za hXW;have HZW:=za hZW;clear hMW hBW hXW hVW hZW v0 v1 v2 v4 vf c0 c1 c2 c3 c4 c5 c6
      go_region_held3 (λw'=>w'.cell? (xD w.heap.size 0)=some (xE xe c cpe)/\w'.cell? (xD w.heap.size 1)=some (xP nb)/\w'.cell? (xD wr.heap.size 3)=some (xI (zaA v:Nat))/\w'.cell? (xD wr.heap.size 5)=some (.string v.ck)/\w'.cell? (xD wr.heap.size 6)=some (xI v.ca))
       (first|(with_reducible (refine⟨?_,?_,?_,?_,?_⟩ <;> repeat (first|assumption|refine zg ?_|refine zj _ ?_|refine zk (by omega) ?_|refine zd HB1.o ?_ (by first|omega|(rw[zsb];omega)))))|go_keep)
       (first|(go_at_call 105;refine HIx.o.mono ?_;rintro e w1 ⟨rfl,hB1⟩;have HB1:=za (zw hB1);have hz1:=hB1.size;have y0:=zd HB1.o z0 zz;have y1:=zd HB1.o z1 zz;have yf:=zai ((HB1.o.block _ zz).trans HZW.o);clear hB1))
      go_upto_region 8 with fail;refine zn (λW=>zbn W (w.heap.size+1) pr (ckL c k)/\xH W (wr.heap.size+1) #[xI ((c.of k).1:Nat),xI ((c.of k).2:Nat)] 198/\xB w W/\xH W w.heap.size #[xE xe c cpe,xP nb] 114) ⟨HMW.o.of (zr (by omega) (zr (by omega) (HB1.o.block _ HMW.o.lt))),by rw[HO.o];exact zdR ((HB1.o.block _ zz).trans HZW.o) _ _,zC (zC (HBW.o.trans (HB1.o.mono hWz)) (by omega) _) (by omega) _,zr (by omega) (zr (by omega) ((HB1.o.block _ sz).trans HXW.o))⟩ ?_;clear s0 s1 sf v3 v5 v6 z0 z1 zf y0 y1 yf;rintro W ⟨hMW,hZW,hBW,hXW⟩;obtain⟨W1,W2,r1,f1,r2,f2,m2⟩:=zkk hMW;obtain⟨o0,o1,of,oz⟩:=zp hZW;have hne:¬wr.heap.size+1=w.heap.size+1:=(by omega);obtain⟨p0,p1,pf,pz⟩:=zp ((f1.block _ oz hne).trans hZW);have HM2:=za m2;have HB2:=za (zbR (zbR hBW f1 (by omega)) f2 (by omega));have HX2:Hid (xH W2 w.heap.size #[xE xe c cpe,xP nb] 114):=(f2.block _ (by have:=f1.size;have:=ze hXW;omega) (by omega)).trans ((f1.block _ (ze hXW) (by omega)).trans hXW);clear hMW hZW hBW hXW f1 f2 m2;go_wp2_with fail;go_roundg (gk-1);case measure=>omega
      exact⟨k+1,by omega,by omega,by go_num,HM2.o,HX2.o,HB2.o⟩
  . have ek:k=c.nd.vars.length:=by omega
    subst ek;go_wp2_with fail;go_ret;exact⟨_,rfl,by omega,HM.o,HB.o⟩
theorem zjV (t:Tm)(v:Value)(i:Nat)(k:Nat×Nat)(w:World)(hT:TT w N t v)(HSc:ScV w N c ev nv)(HCk:za7 w c cb)(hN:N<=w.heap.size) :
 xK 176 #[.map (some cb),.agg #[ev,nv],v,xI (i:Int),.agg #[xI (k.1:Nat),xI (k.2:Nat)]] w (λe w'=>e=.returned (.agg #[xI ((c.operand t i k).1:Nat),xI ((c.operand t i k).2:Nat)])/\xB w w'):=by
 obtain⟨xe,cpe,nb,rfl,rfl,hnb⟩:=HSc.shape;obtain⟨b,args,vs,rfl,hb,HBk,_⟩:=hT.ptr;have hbz:=ze HBk;clear hT;go_enter func176,ntmps176;go_upto_region 1 with fail;refine zn (λW=>(ScV W N c (xE xe c cpe) (xP nb)/\za7 W c cb/\xB w W)/\xH W w.heap.size #[xE xe c cpe,xP nb] 114/\xH W (w.heap.size+1) #[xI (k.1:Nat),xI (k.2:Nat)] 198/\xH W (w.heap.size+1+1) #[xI 0,xI 0] 198) ⟨⟨HSc.old (zot hN _ _ _),HCk.keep (zcz w _ _ _),zcz w _ _ _⟩,(al3 w _ _ _).1,(al3 w _ _ _).2.1,(al3 w _ _ _).2.2⟩ ?_;rintro W ⟨⟨HSW,HCW,HBW⟩,hXW,hYW,HZW⟩;obtain⟨s0,s1,sf,sz⟩:=zp hXW;obtain⟨k0,k1,kf,kz⟩:=zp hYW;obtain⟨z0,z1,zf,zz⟩:=zp HZW;obtain⟨m0,m1,m2,m3,m4,m5,mf,mz⟩:=zt ((HBW.block b hbz).trans HBk);have hWz:w.heap.size<=W.heap.size:=HBW.size;have HIx:=za (zaz t.s (t.nm:Int) W.drew (HSW.old (λ_ _=>rfl)) (by show N<=W.heap.size;omega));clear hXW hYW m1 m4 m5;by_cases h7:t.k=7
 . have hk:=h7;have HO:c.operand t i k=c.of (c.idx t.s):=if_pos (Or.inl hk);have m0':W.cell? (xD b 0)=some (xI 7):=by rw[m0,hk];rfl
   clear m0 hk h7;go_upto_region 4 with fail
   go_region_held3 (λw'=>w'.cell? (xD w.heap.size 0)=some (xE xe c cpe)/\w'.cell? (xD w.heap.size 1)=some (xP nb)/\w'.cell? (xD b 2)=some (.string t.s)/\w'.cell? (xD b 3)=some (xI t.nm))
    (first|(with_reducible (refine⟨?_,?_,?_,?_⟩ <;> repeat (first|assumption|refine zg ?_|refine zj _ ?_|refine zk (by omega) ?_|refine zd HB2.o ?_ (by first|omega|(rw[zsb];omega))|refine zd HB1.o ?_ (by first|omega|(rw[zsb];omega)))))|go_keep)
    (first
      | (go_at_call 104;refine HOf.o.mono ?_;rintro e w2 ⟨rfl,hB2⟩;have HB2:=za hB2;have hz2:w1.heap.size<=w2.heap.size:=hB2.size;have y0:=zd HB2.o (zd HB1.o z0 zz) (by omega);have y1:=zd HB2.o (zd HB1.o z1 zz) (by omega);have yf:=zai ((HB2.o.block _ (by omega)).trans ((HB1.o.block _ zz).trans HZW));clear hB2)
      | (go_at_call 105;refine HIx.o.mono ?_;rintro e w1 ⟨rfl,hB1⟩;have HB1:=za (zw hB1);have hz1:W.heap.size<=w1.heap.size:=hB1.size;have HOf:=za (zbC (c.idx t.s) w1 (HCW.keep HB1.o));clear hB1))
   go_wp2_with fail;rw[HO];refine bodyPost_ret (v:=.agg #[xI ((c.of (c.idx t.s)).1:Nat),xI ((c.of (c.idx t.s)).2:Nat)]) (by simp[results,results176,go_sem,y0,y1]) rfl ⟨rfl,zC (zC (HBW.trans ((HB1.o.trans (HB2.o.mono hz1)).mono hWz)) (by omega) _) (by omega) _⟩
 by_cases h8:t.k=8
 . have hk:=h8;have HO:c.operand t i k=c.of (c.idx t.s):=if_pos (Or.inr hk);have m0':W.cell? (xD b 0)=some (xI 8):=by rw[m0,hk];rfl
   clear m0 hk h7 h8;go_upto_region 4 with fail
   go_region_held3 (λw'=>w'.cell? (xD w.heap.size 0)=some (xE xe c cpe)/\w'.cell? (xD w.heap.size 1)=some (xP nb)/\w'.cell? (xD b 2)=some (.string t.s)/\w'.cell? (xD b 3)=some (xI t.nm))
    (first|(with_reducible (refine⟨?_,?_,?_,?_⟩ <;> repeat (first|assumption|refine zg ?_|refine zj _ ?_|refine zk (by omega) ?_|refine zd HB2.o ?_ (by first|omega|(rw[zsb];omega))|refine zd HB1.o ?_ (by first|omega|(rw[zsb];omega)))))|go_keep)
    (first
      | (go_at_call 104;refine HOf.o.mono ?_;rintro e w2 ⟨rfl,hB2⟩;have HB2:=za hB2;have hz2:w1.heap.size<=w2.heap.size:=hB2.size;have y0:=zd HB2.o (zd HB1.o z0 zz) (by omega);have y1:=zd HB2.o (zd HB1.o z1 zz) (by omega);have yf:=zai ((HB2.o.block _ (by omega)).trans ((HB1.o.block _ zz).trans HZW));clear hB2)
      | (go_at_call 105;refine HIx.o.mono ?_;rintro e w1 ⟨rfl,hB1⟩;have HB1:=za (zw hB1);have hz1:W.heap.size<=w1.heap.size:=hB1.size;have HOf:=za (zbC (c.idx t.s) w1 (HCW.keep HB1.o));clear hB1))
   go_wp2_with fail;rw[HO];refine bodyPost_ret (v:=.agg #[xI ((c.of (c.idx t.s)).1:Nat),xI ((c.of (c.idx t.s)).2:Nat)]) (by simp[results,results176,go_sem,y0,y1]) rfl ⟨rfl,zC (zC (HBW.trans ((HB1.o.trans (HB2.o.mono hz1)).mono hWz)) (by omega) _) (by omega) _⟩
 by_cases hk:t.k=6;by_cases hi:0<i
 . have HO:c.operand t i k=(c.idx t.s,2):=by unfold Sc.operand;rw[if_neg (by omega),if_pos hk,if_pos hi]
   have m0':W.cell? (xD b 0)=some (xI 6):=(by rw[m0,hk];rfl);have hi': (0:Int)<(i:Int):=(by omega);clear m0 hk hi h7 h8;go_upto_region 9 with fail
   go_region_held3 (λw'=>w'.cell? (xD w.heap.size 0)=some (xE xe c cpe)/\w'.cell? (xD w.heap.size 1)=some (xP nb)/\w'.cell? (xD b 2)=some (.string t.s)/\w'.cell? (xD b 3)=some (xI t.nm))
    (first|(with_reducible (refine⟨?_,?_,?_,?_⟩ <;> repeat (first|assumption|refine zg ?_|refine zj _ ?_|refine zk (by omega) ?_|refine zd HB1.o ?_ (by first|omega|(rw[zsb];omega)))))|go_keep)
    (first
      | (go_at_call 105;refine HIx.o.mono ?_;rintro e w1 ⟨rfl,hB1⟩;have HB1:=za (zw hB1);have hz1:W.heap.size<=w1.heap.size:=hB1.size;have y0:=zd HB1.o z0 zz;have y1:=zd HB1.o z1 zz;have yf:=zai ((HB1.o.block _ zz).trans HZW);clear hB1))
   go_wp2_with fail;rw[HO];refine bodyPost_ret (v:=.agg #[xI (c.idx t.s:Nat),xI 2]) (by simp[results,results176,go_sem,y0,y1]) rfl ⟨rfl,zC (zC (HBW.trans (HB1.o.mono hWz)) (by omega) _) (by omega) _⟩
 . have HO:c.operand t i k=(c.idx t.s,1):=by unfold Sc.operand;rw[if_neg (by omega),if_pos hk,if_neg hi]
   have m0':W.cell? (xD b 0)=some (xI 6):=(by rw[m0,hk];rfl);have hi':¬(0:Int)<(i:Int):=(by omega);clear m0 hk hi h7 h8;go_upto_region 9 with fail
   go_region_held3 (λw'=>w'.cell? (xD w.heap.size 0)=some (xE xe c cpe)/\w'.cell? (xD w.heap.size 1)=some (xP nb)/\w'.cell? (xD b 2)=some (.string t.s)/\w'.cell? (xD b 3)=some (xI t.nm))
    (first|(with_reducible (refine⟨?_,?_,?_,?_⟩ <;> repeat (first|assumption|refine zg ?_|refine zj _ ?_|refine zk (by omega) ?_|refine zd HB1.o ?_ (by first|omega|(rw[zsb];omega)))))|go_keep)
    (first
      | (go_at_call 105;refine HIx.o.mono ?_;rintro e w1 ⟨rfl,hB1⟩;have HB1:=za (zw hB1);have hz1:W.heap.size<=w1.heap.size:=hB1.size;have y0:=zd HB1.o z0 zz;have y1:=zd HB1.o z1 zz;have yf:=zai ((HB1.o.block _ zz).trans HZW);clear hB1))
   go_wp2_with fail;rw[HO];refine bodyPost_ret (v:=.agg #[xI (c.idx t.s:Nat),xI 1]) (by simp[results,results176,go_sem,y0,y1]) rfl ⟨rfl,zC (zC (HBW.trans (HB1.o.mono hWz)) (by omega) _) (by omega) _⟩
 . have HO:c.operand t i k=k:=by unfold Sc.operand;rw[if_neg (by omega),if_neg hk]
   have g7:¬(t.k:Int)=7:=(by omega);have g8:¬(t.k:Int)=8:=(by omega);have g6:¬(t.k:Int)=6:=(by omega);clear h7 h8 hk;go_wp2_with fail;rw[HO];refine bodyPost_ret (v:=.agg #[xI (k.1:Nat),xI (k.2:Nat)]) (by simp[results,results176,go_sem,z0,z1]) rfl ⟨rfl,zC (zC HBW (by omega) _) (by omega) _⟩
end
section
variable {N:Nat} {c:Sc} {g:Tm->Nat×Nat->Bool} {w w':World} {T:World->Nat->Prop}
attribute [local go_sem ↓] Go.wp_at_zero Go.wp_at_succ
structure FT (T:World->Nat->Prop) (w w':World):Prop where
 fr:Fr (T w) w w'
 tk:∀k,T w' k->T w k∨w.heap.size<=k
theorem FT.trans {a b c:World}(h1:FT T a b)(h2:FT T b c):FT T a c:=by
 refine⟨⟨h2.fr.os.trans h1.fr.os,h2.fr.tape.trans h1.fr.tape,h2.fr.output.trans h1.fr.output,Nat.le_trans h1.fr.size h2.fr.size,λk hk hn=>?_⟩,λk hk=>?_⟩
 . refine (h2.fr.block k (Nat.lt_of_lt_of_le hk h1.fr.size) (λe=>?_)).trans (h1.fr.block k hk hn);rcases h1.tk k e with e|e
   . exact hn e
   . omega
 . rcases h2.tk k hk with e|e
   . exact h1.tk k e
   . exact Or.inr (Nat.le_trans h1.fr.size e)
theorem FT.below (h:xB w w')(ht:∀k,T w' k->T w k):FT T w w':=⟨Fr.of_below h,λk e=>Or.inl (ht k e)⟩
theorem FT.const {T:Nat->Prop}(h:Fr T w w'):FT (λ_=>T) w w':=⟨h,λ_ e=>Or.inl e⟩
theorem FT.cell {b i:Nat}{v:Value}(h:FT T w w')(hc:w.cell? (xD b i)=some v)(hb:¬T w b):w'.cell? (xD b i)=some v:=by
 have hlt:b<w.heap.size:=by
  rcases Nat.lt_or_ge b w.heap.size with h|h
  . exact h
  . simp[World.cell?,Array.getElem?_eq_none h] at hc
 exact (World.cell?_of_block (w:=w) (h.fr.block b hlt hb)).trans hc
theorem FT.old (h:FT T w w')(hN:N<=w.heap.size)(hT:∀k,T w k->N<=k):Old N w w':=h.fr.old hN hT
mutual
def zcs {σ:Type}(c:Sc)(g:Tm->Nat×Nat->Bool)(sE sL:σ->Tm->Nat×Nat->σ):Tm->Nat×Nat->σ->σ
 | .mk x a s nm n ts,k,st=>sL (if g (.mk x a s nm n ts) k=true then zcu c g sE sL (.mk x a s nm n ts) k ts 0 (sE st (.mk x a s nm n ts) k) else sE st (.mk x a s nm n ts) k) (.mk x a s nm n ts) k
def zcu {σ:Type}(c:Sc)(g:Tm->Nat×Nat->Bool)(sE sL:σ->Tm->Nat×Nat->σ)(t:Tm)(k:Nat×Nat):List Tm->Nat->σ->σ
 | [],_,st=>st
 | u::l,i,st=>zcu c g sE sL t k l (i+1) (zcs c g sE sL u (c.operand t i k) st)
end
def ckV (k:Nat×Nat):Value:=.agg #[xI (k.1:Nat),xI (k.2:Nat)]
structure znz {σ:Type} (N:Nat) (c:Sc) (ev nv:Value) (cb:Nat) (T:World->Nat->Prop) (FE:FuncId) (cE:Array Value) (FL:FuncId) (cL:Array Value) (Pt:Tm->Nat×Nat->Prop) (g:Tm->Nat×Nat->Bool) (sE sL:σ->Tm->Nat×Nat->σ) (I:σ->World->Prop) (Bd:σ->Prop):Prop where
 entE:zH FE
 entL:zH FL
 hT:∀s w k,I s w->T w k->N<=k/\k<w.heap.size/\¬k=cb
 keep:∀s w w',I s w->xB w w'->I s w'/\∀k,T w' k->T w k
 sub:∀t k i u,Pt t k->g t k=true->t.ts[i]?=some u->Pt u (c.operand t i k)
 bE:∀s t k,Bd (sE s t k)->Bd s
 bL:∀s t k,Bd (sL s t k)->Bd s
 callE:∀t v k s w,TT w N t v->N<=w.heap.size->ScV w N c ev nv->za7 w c cb->I s w->Pt t k->Bd (sE s t k)->xK FE (#[v,ckV k]++cE) w (λe w'=>e=.returned (.bool (g t k))/\I (sE s t k) w'/\FT T w w')
 callL:∀t v k s w,TT w N t v->N<=w.heap.size->ScV w N c ev nv->za7 w c cb->I s w->Pt t k->Bd (sL s t k)->xK FL (#[v,ckV k]++cL) w (λe w'=>e=.returned (.tuple #[])/\I (sL s t k) w'/\FT T w w')
theorem zi6 {σ:Type}{sE sL:σ->Tm->Nat×Nat->σ}{Bd:σ->Prop}(bE:∀s t k,Bd (sE s t k)->Bd s)(bL:∀s t k,Bd (sL s t k)->Bd s):∀(t:Tm) (k:Nat×Nat) (s:σ),Bd (zcs c g sE sL t k s)->Bd s:=by
 intro t;induction t using Tm.ind with
 | h x a s nm n ts ih =>
   intro k st h;have hl:∀(l:List Tm),(∀u∈l,u∈ts)->∀(i:Nat) (st:σ),Bd (zcu c g sE sL (.mk x a s nm n ts) k l i st)->Bd st:=by
    intro l;induction l with
    | nil=>intro _ i st h;exact h
    | cons u l ihl => intro hm i st h;rw[zcu] at h;exact ih u (hm u (List.mem_cons_self ..)) _ _ (ihl (λu hu=>hm u (List.mem_cons_of_mem _ hu)) _ _ h)
   rw[zcs] at h;have h2:=bL _ _ _ h;split at h2
   . exact bE _ _ _ (hl ts (λ_ h=>h) _ _ h2)
   . exact bE _ _ _ h2
theorem zkC {σ:Type}{sE sL:σ->Tm->Nat×Nat->σ}{Bd:σ->Prop}(bE:∀s t k,Bd (sE s t k)->Bd s)(bL:∀s t k,Bd (sL s t k)->Bd s)(t:Tm)(k:Nat×Nat):∀(l:List Tm) (i:Nat) (s:σ),Bd (zcu c g sE sL t k l i s)->Bd s:=by
 intro l;induction l with
 | nil=>intro i s h;exact h
 | cons u l ih => intro i s h;rw[zcu] at h;exact zi6 bE bL u _ s (ih _ _ h)
theorem zjG {σ:Type}{ev nv:Value}{cb:Nat}{FE:FuncId}{cE:Array Value}{FL:FuncId}{cL:Array Value}{Pt:Tm->Nat×Nat->Prop}{sE sL:σ->Tm->Nat×Nat->σ}{I:σ->World->Prop}{Bd:σ->Prop}(HV:znz N c ev nv cb T FE cE FL cL Pt g sE sL I Bd) :
 ∀(t:Tm) (k:Nat×Nat) (v:Value) (s:σ) (w:World),TT w N t v->N<=w.heap.size->ScV w N c ev nv->za7 w c cb->I s w->Pt t k->Bd (zcs c g sE sL t k s) ->
  xK 133 #[.map (some cb),.agg #[ev,nv],v,ckV k,.func (.func FE) #[] cE,.func (.func FL) #[] cL] w (λHEn w'=>HEn=.returned (.tuple #[])/\I (zcs c g sE sL t k s) w'/\FT T w w'):=by
 intro t;induction t using Tm.ind with
 | h kk a nm n p ts Hih =>
   intro k v s w h hN hS hC hI HP HBd;obtain⟨xe,cpe,nb,rfl,rfl,hnb⟩:=hS.shape;obtain⟨b,args,vs,rfl,hb,hblk,hown,hlen,Hsub,hgs⟩:=h.ptr;have hcE:∀(args:Array Value) (w:World),(callFunc FE args).run prog w=.ok (.enter FE args) w:=HV.entE;have hcL:∀(args:Array Value) (w:World),(callFunc FL args).run prog w=.ok (.enter FL args) w:=HV.entL;have HT:=za h;have HS:=za hS;have HC:=za hC;have HI:=za hI;have Hown:=za hown;have Hblk:=za hblk;have Hgs:=za hgs;obtain⟨x,cp,rfl⟩:=zB hown;have hlen':vs.length=ts.length:=hlen;rw[hlen'] at Hown Hblk Hgs;have hTt:=za (λk=>HV.hT s w k hI);unfold ckV;go_enter func133,ntmps133;go_upto_region 1 with fail;refine zn (λW=>(TT W N (.mk kk a nm n p ts) (xP b)/\N<=W.heap.size/\ScV W N c (xE xe c cpe) (xP nb)/\za7 W c cb/\I s W)/\FT T w W/\xH W w.heap.size #[xE xe c cpe,xP nb] 114/\xH W (w.heap.size+1) #[xI (k.1:Nat),xI (k.2:Nat)] 198/\¬T W w.heap.size/\¬T W (w.heap.size+1)) ⟨⟨HT.o.old (zfr hN _ _),by rw[zsb,zsb];omega,HS.o.old (zfr hN _ _),HC.o.keep (zaD w _ _),(HV.keep _ _ _ HI.o (zaD w _ _)).1⟩,FT.below (zaD w _ _) (HV.keep _ _ _ HI.o (zaD w _ _)).2,(zd8 w _ _).1,(zd8 w _ _).2,λHEn=>by have:=(hTt.out _ ((HV.keep s w _ HI.o (zaD w _ _)).2 _ HEn)).2.1;omega,λHEn=>by have:=(hTt.out _ ((HV.keep s w _ HI.o (zaD w _ _)).2 _ HEn)).2.1;omega⟩ ?_;rintro W ⟨⟨hTW,hNW,hSW,hCW,hIW⟩,HFW,hX,hY,n0,n1⟩;have hbE:Bd (sE s (.mk kk a nm n p ts) k):=by
    have hb:=HBd;rw[zcs] at hb;have hb2:=HV.bL _ _ _ hb;split at hb2
    . exact zkC HV.bE HV.bL _ _ _ _ _ hb2
    . exact hb2
   have HCE:=za (HV.callE _ _ k s W hTW hNW hSW hCW hIW HP hbE);have HST:∀s1 w1,I s1 w1->FT T W w1->(TT w1 N (.mk kk a nm n p ts) (xP b)/\N<=w1.heap.size/\ScV w1 N c (xE xe c cpe) (xP nb)/\za7 w1 c cb)/\Old N W w1/\w1.heap[w.heap.size]?=some (.cells #[xE xe c cpe,xP nb] 114 (0,0))/\w1.heap[w.heap.size+1]?=some (.cells #[xI (k.1:Nat),xI (k.2:Nat)] 198 (0,0))/\¬T w1 w.heap.size/\¬T w1 (w.heap.size+1):=by
    intro s1 w1 hI1 hF1;have hO:Old N W w1:=hF1.old hNW (λk HEn=>(HV.hT s W k hIW HEn).1);refine⟨⟨hTW.old hO,Nat.le_trans hNW hF1.fr.size,hSW.old hO,hCW.of' (hF1.fr.block cb hCW.lt (λHEn=>(HV.hT s W cb hIW HEn).2.2 rfl))⟩,hO,(hF1.fr.block _ (ze hX) n0).trans hX,(hF1.fr.block _ (ze hY) n1).trans hY,λHEn=>(hF1.tk _ HEn).elim n0 (λh=>?_),λHEn=>(hF1.tk _ HEn).elim n1 (λh=>?_)⟩
    . have:=ze hX;omega
    . have:=ze hY;omega
   obtain⟨x0,x1,xf,xz⟩:=zp hX;obtain⟨y0,y1,yf,yz⟩:=zp hY;have hbz:b<W.heap.size:=(by omega);have HnW:Hid (xH W b #[xI kk,xI a,.string nm,xI n,xI p,.slice x ts.length cp] 226):=(HFW.fr.block b (by omega) (λHEn=>by have:=(hTt.out b HEn).1;omega)).trans Hblk.o;have HoW:Hid (Old N w W):=HFW.old hN (λk HEn=>(hTt.out k HEn).1);unfold ckV at HCE;cases HG:g (.mk kk a nm n p ts) k with
   | false =>
     rw[HG] at HCE;have HEn:zcs c g sE sL (.mk kk a nm n p ts) k s=sL (sE s (.mk kk a nm n p ts) k) (.mk kk a nm n p ts) k:=(by unfold zcs;rw[HG];rfl);go_wp2_with fail;with_reducible refine HCE.o.mono ?_
     rintro HEn w1 ⟨rfl,hI1,hF1⟩;obtain⟨⟨hT1,hN1,hS1,hC1⟩,hO1,hX1,hY1,m0,m1⟩:=HST _ w1 hI1 hF1;have HCL:=za (HV.callL _ _ k _ w1 hT1 hN1 hS1 hC1 hI1 HP (by have hb:=HBd;rw[HEn] at hb;exact hb));unfold ckV at HCL;obtain⟨p0,p1,pf,pz⟩:=zp hX1;obtain⟨q0,q1,qf,qz⟩:=zp hY1;have HF1:=za hF1;go_wp2_with fail;with_reducible refine HCL.o.mono ?_
     rintro HEn w2 ⟨rfl,HI2,HF2⟩;go_wp2_with fail;go_end0;rw[HEn];exact⟨rfl,HI2,(HFW.trans HF1.o).trans HF2⟩
   | true =>
     rw[HG] at HCE;have HEn:zcs c g sE sL (.mk kk a nm n p ts) k s=sL (zcu c g sE sL (.mk kk a nm n p ts) k ts 0 (sE s (.mk kk a nm n p ts) k)) (.mk kk a nm n p ts) k:=(by rw[zcs,if_pos HG]);go_wp2_with fail;with_reducible refine HCE.o.mono ?_
     rintro HEn w1 ⟨rfl,hI1,hF1⟩;obtain⟨⟨hT1,hN1,hS1,hC1⟩,hO1,hX1,hY1,m0,m1⟩:=HST _ w1 hI1 hF1;obtain⟨r0,r1,r2,r3,r4,r5,rf,rz⟩:=zt ((hO1 b hb).trans HnW.o);have HI1:=za hI1;have HF1:=za hF1;have h16:ts.length<=9223372036854775807:=by
      have:=Hown.o;rcases this.2 with ⟨_,h⟩|⟨g,cap,cur,hv,_,_,h3,h4,_⟩
      . omega
      . unfold maxLen at h4;omega
     go_wp2_with fail;go_loopg [23] (ts.length+1) (λj x wr=>∃(i:Nat) (si:σ),i+j=ts.length+1/\i<=ts.length/\x=xI i/\Hid (I si wr)/\Hid (zcu c g sE sL (.mk kk a nm n p ts) k ts 0 (sE s (.mk kk a nm n p ts) k)=zcu c g sE sL (.mk kk a nm n p ts) k (ts.drop i) i si)/\Hid (FT T W wr));case atStart=>exact⟨0,_,by omega,Nat.zero_le _,rfl,HI1.o,rfl,HF1.o⟩
     case round =>
      obtain⟨i,si,hij,hi,rfl,HIi,HD,HFi⟩:=hrel;obtain⟨⟨HTr,hNr,HSr,HCr⟩,hOr,hXr,hYr,m0,m1⟩:=HST _ wr HIi.o HFi.o;obtain⟨p0,p1,pf,pz⟩:=zp hXr;obtain⟨q0,q1,qf,qz⟩:=zp hYr;by_cases hlt:i<ts.length
      . obtain⟨t,ht⟩:∃t,ts[i]?=some t:=⟨_,zsc hlt⟩;obtain⟨u,hu⟩:∃u,vs[i]?=some u:=⟨_,zsc (by omega)⟩;have hOw:Old N w wr:=HoW.o.trans hOr;have hown':wr.ownsRow 0 182 1 (.slice x ts.length cp) ts.length vs:=zi Hown.o (λj _ _ HEn=>hOw j (Hgs.o j HEn));obtain⟨g',rfl,hcell⟩:=zbE hown' hu;have HTu:=(Hsub i t u ht hu).old hOw;obtain⟨bu,_,_,rfl,_⟩:=HTu.ptr;have HOp:=za (zjV (.mk kk a nm n p ts) (xP b) i k wr.drew (HTr.old (λ_ _=>rfl)) (HSr.old (λ_ _=>rfl)) (HCr.of' rfl) hNr);have Hmem:=za (List.mem_of_getElem? ht);have HPu:=za (HV.sub _ k i t HP HG ht);have HDn:Hid (zcu c g sE sL (.mk kk a nm n p ts) k ts 0 (sE s (.mk kk a nm n p ts) k)=zcu c g sE sL (.mk kk a nm n p ts) k (ts.drop (i+1)) (i+1) (zcs c g sE sL t (c.operand (.mk kk a nm n p ts) i k) si)):=(by obtain⟨h1,h2⟩:=List.getElem?_eq_some_iff.1 ht;unfold Hid;rw[HD.o,List.drop_eq_getElem_cons h1,zcu,h2]);have HBu:Hid (Bd (zcs c g sE sL t (c.operand (.mk kk a nm n p ts) i k) si)):=(by have hb:=HBd;rw[HEn,HDn.o] at hb;exact zkC HV.bE HV.bL _ _ _ _ _ (HV.bL _ _ _ hb));go_upto_region 5 with fail
        go_region_held3 (λw'=>w'.cell? (xD w.heap.size 0)=some (xE xe c cpe)/\w'.cell? (xD w.heap.size 1)=some (xP nb)/\w'.cell? (xD (w.heap.size+1) 0)=some (xI (k.1:Nat))/\w'.cell? (xD (w.heap.size+1) 1)=some (xI (k.2:Nat)))
         (first|(refine⟨?_,?_,?_,?_⟩ <;> repeat (first|with_reducible exact p0|with_reducible exact p1|with_reducible exact q0|with_reducible exact q1|with_reducible refine zg ?_|with_reducible refine HF5.cell ?_ (by assumption)|with_reducible refine zd HB4.o ?_ (by omega)))|go_keep)
         (first
           | (go_at_call 133;refine HW.o.mono ?_;rintro HEn w5 ⟨rfl,HI5,HF5⟩)
           | (go_at_call 176;refine HOp.o.mono ?_;rintro HEn w4 ⟨rfl,hB4⟩;have HB4:=za (zw hB4);have hz4:wr.heap.size<=w4.heap.size:=hB4.size;have HK:=za (HV.keep _ _ _ HIi.o HB4.o);have m0':¬T w4 w.heap.size:=(λHEn=>m0 (HK.o.2 _ HEn));have m1':¬T w4 (w.heap.size+1):=(λHEn=>m1 (HK.o.2 _ HEn));have HW:=za (Hih t Hmem.o (c.operand (.mk kk a nm n p ts) i k) _ si w4 (HTu.old (zm HB4.o hNr)) (by omega) (HSr.old (zm HB4.o hNr)) (HCr.keep HB4.o) HK.o.1 HPu.o HBu.o)))
        go_wp2_with fail;go_roundg (gk-1);case measure=>omega
        exact⟨i+1,_,by omega,by omega,by go_num,HI5,HDn.o,(HFi.o.trans (FT.below HB4.o HK.o.2)).trans HF5⟩
      . have ei:i=ts.length:=(by omega);subst ei;rw[List.drop_length,zcu] at HD;have HCL:=za (HV.callL _ _ k _ wr HTr hNr HSr HCr HIi.o HP (by have hb:=HBd;rw[HEn,HD.o] at hb;exact hb));unfold ckV at HCL;go_wp2_with fail;with_reducible refine HCL.o.mono ?_
        rintro HEn w2 ⟨rfl,HI2,HF2⟩;go_wp2_with fail;go_end0;refine⟨rfl,?_,(HFW.trans HFi.o).trans HF2⟩;rw[HEn,HD.o];exact HI2
end
end Go.Proofs.YtbicmofihhjgbaaGreatDoor
