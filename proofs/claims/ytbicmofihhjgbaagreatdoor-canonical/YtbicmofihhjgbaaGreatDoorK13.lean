/- Part 14 of the proof. -/
import Derived.Test.YtbicmofihhjgbaaGreatDoorK12
set_option maxRecDepth 100000
set_option maxHeartbeats 8000000
namespace Go.Proofs.YtbicmofihhjgbaaGreatDoor
open Go.Proofs.Tryz
section
variable {us:List Tm} {st:St} {t u:Tm}
structure zRv (st:St) (R:Xl) (us:List Tm) (x:St×List Nat):Prop where
 at':At x.1 R
 op:x.1.op=st.op
 L:st.L <+: x.1.L
 tr:∃vs,Trs x.1.L x.2 vs/\vs.map eT=us.map eT
theorem zNE {rx:Fn}{f:Nat}{x:St×List Nat}(h:x.1.er≠0∨x.1.is 4 [44]=false):zc1 rx f x=x:=by
 cases f with
 | zero=>rfl
 | succ f => show (if _ then _ else x)=_;rw[zM1 (λe=>by rcases h with h|h;exact h e.1;rw[h] at e;cases e.2)]
section
variable {R:Xl} {d:Nat}
theorem zP3 (ha:zNj u)(hu:Rd u)(hus:∀v∈us,Rd v)(hz:Oks R)(st:St)(hd:Dp d st)(hA:At st (exT u++(zu6 true (exL us)++rpW::R))):Out st (zu6 true (exL us)++rpW::R) u ((lev d).ex st):=by
 cases us with
 | nil=>exact zPs ha hu st R hd (zNd zNq hz) hA
 | cons v us => have e:zu6 true (exL (v::us))++rpW::R=coW::(exT v++(zu6 true (exL us)++rpW::R)):=(by simp[exL,zu6]);rw[e] at hA ⊢;refine zSR ha hu st _ hd (zNd zPr (zNe (zNm (hus v (zMS ..))) (zNe (zNG _ _ ?_) (zNd zNq hz)))) hA;intro x hx;rw[zvt] at hx;obtain⟨w,hw,rfl⟩:=List.mem_map.1 hx;exact zNm (hus w (zMX _ hw))
theorem zN2 (hus:∀v∈us,Rd v)(b:Bool)(hz:Oks R):Oks (zu6 b (exL us)++rpW::R):=by refine zNe (zNG _ _ ?_) (zNd zNq hz);intro x hx;rw[zvt] at hx;obtain⟨w,hw,rfl⟩:=List.mem_map.1 hx;exact zNm (hus w hw)
theorem zPc (hz:Oks R)(hd:Dp d st):∀(us dn:List Tm) (f:Nat) (x:St×List Nat),us.length<f->(∀u∈us,zNj u)->(∀u∈us,Rd u)->zRv st (zu6 true (exL us)++rpW::R) dn x ->
 (zc1 (lev d).ex f x).1.er=3∨zRv st (rpW::R) (dn++us) (zc1 (lev d).ex f x)
 | [],dn,f,x,_,_,_,h=>by have hA:At x.1 (rpW::R):=h.at';rw[zNE (.inr (by rw[hA.is];decide +kernel)),List.append_nil];exact .inr h
 | u::us,dn,0,x,hf,_,_,_=>by cases hf
 | u::us,dn,f+1,x,hf,ha,hr,h=>by
   have e:zu6 true (exL (u::us))++rpW::R=coW::(exT u++(zu6 true (exL us)++rpW::R)):=(by simp[exL,zu6]);have hA:=h.at';rw[e] at hA;have hus:∀v∈us,Rd v:=λv hv=>hr v (zMX _ hv);have h1:=hA.step (zNe (zNm (hr u (zMS ..))) (zN2 hus true hz));have hd1:Dp d x.1.step:=(by unfold Dp;rw[St.step_op,h.op];exact hd);have h2:=zP3 (ha u (zMS ..)) (hr u (zMS ..)) hus hz x.1.step hd1 h1
   show (if _ then zc1 (lev d).ex f ((((lev d).ex x.1.step).1,x.2++[((lev d).ex x.1.step).2])) else x).1.er=3∨zRv st (rpW::R) (dn++u::us) (if _ then zc1 (lev d).ex f ((((lev d).ex x.1.step).1,x.2++[((lev d).ex x.1.step).2])) else x);rw[zM2 ⟨hA.er,by rw[hA.is];decide +kernel⟩];rcases h2 with h2|h2
   . left;rw[zNE (.inl (by show ((lev d).ex x.1.step).1.er≠0;rw[h2];decide))];exact h2
   have:=zPc hz hd us (dn++[u]) f (((lev d).ex x.1.step).1,x.2++[((lev d).ex x.1.step).2]) (by simp at hf;omega) (λv hv=>ha v (zMX _ hv)) hus ?_
   . rw[zMQ] at this;exact this
   obtain⟨vs,q1,q2⟩:=h.tr;obtain⟨t',q3,q4⟩:=h2.tr;have hL:=h2.L;rw[St.step_L] at hL;exact⟨h2.at',by show ((lev d).ex x.1.step).1.op=_;rw[h2.op,St.step_op,h.op],h.L.trans hL,⟨vs++[t'],(q1.more hL).snoc q3,by rw[List.map_append,List.map_append,q2];simp[q4]⟩⟩
theorem zPd {tk:Tk}(hA:At st (lpW::(exT u++(zu6 true (exL us)++rpW::R))))(hz:Oks R)(hd:Dp (d+1) st)(ha:∀v∈u::us,zNj v)(hr:∀v∈u::us,Rd v)(hl:us.length<=1200)(ht:eT t=.mk 4 0 tk.s 0 0 ((u::us).map eT)):Out st R t (zao (lev d).ex tk st):=by
 have hus:∀v∈us,Rd v:=λv hv=>hr v (zMX _ hv);unfold zao;rw[zM2 (by rw[hA.is];decide +kernel)];simp only;have L1:(tkB rpW).k=4/\(tkB rpW).s.toList=[41]:=by decide +kernel
 have hx:∀s:St,s.er≠0->((lev d).ex s).1=s:=λs h=>(zNQ d h).1;unfold zbG;obtain⟨f,hf⟩:∃f,f=1300:=⟨_,rfl⟩;rw[<- hf];rcases hA.enter (zNe (zNm (hr u (zMS ..))) (zN2 hus true hz)) with h1|⟨h1,ho⟩
 . left;have h2:=zNo hx h1;rw[zNE (.inl (by show ((lev d).ex st.enter).1.er≠0;rw[h2];decide))];exact zNk h2
 rcases zP3 (ha u (zMS ..)) (hr u (zMS ..)) hus hz st.enter (hd.enter ho) h1 with h2|h2
 . left;rw[zNE (.inl (by show ((lev d).ex st.enter).1.er≠0;rw[h2];decide))];exact zNk h2
 obtain⟨t',q1,q2⟩:=h2.tr;have h3:=zPc hz (hd.enter ho) us [u] f (((lev d).ex st.enter).1,[((lev d).ex st.enter).2]) (by omega) (λv hv=>ha v (zMX _ hv)) hus ⟨h2.at',h2.op,h2.L,⟨[t'],zQO q1,by simp[q2]⟩⟩;generalize zc1 (lev d).ex f (((lev d).ex st.enter).1,[((lev d).ex st.enter).2])=X at *;rcases h3 with h3|h3
 . exact .inl (zNk h3)
 right;obtain⟨vs,r1,r2⟩:=h3.tr;have hL:=h3.L;rw[St.enter_L] at hL;refine zNt (us:=vs) (h3.at'.must hz L1.1 L1.2).leave ?_ ?_ ?_ ?_
 . rw[St.leave_op,St.must_op,h3.op,St.enter_op];rfl
 . show _ <+: (X.1.must 4 [41]).L;rw[St.must_L];exact hL
 . show Trs (X.1.must 4 [41]).L X.2 vs;rw[St.must_L];exact r1
 show eT t=.mk (zag zef.toList 0) 0 tk.s 0 (zbF zef.toList 0) (vs.map eT);rw[ht,r2,show zag zef.toList 0=4 by decide +kernel,show zbF zef.toList 0=0 by decide +kernel];rfl
end
theorem zNY {y:Xb}{R:Xl}(hA:At st (y::R))(hz:Oks R){op:Xb}{n:Nat}(ht:eT t=.mk (zag op.toList n) 0 sE 0 (zbF op.toList n) []):Out st R t (zdP op n st):=by right;unfold zdP;exact zNt (us:=[]) (hA.step hz) (St.step_op st) (by rw[St.step_L];exact List.prefix_rfl) (Trs.nil _) ht
theorem zPg (h:Rd t):zNj t:=by
 induction h with
 | mk k a s nm n ts ar len nk sk n0 nn hr ih =>
   intro d st R hd hz hlp hA;obtain⟨d,rfl⟩:=hd.succ;have hk:=zPv ar;have hR:Rd (.mk k a s nm n ts):=.mk k a s nm n ts ar len nk sk n0 nn hr;rw[exT] at hA;unfold exW at hA;rw[zNT];by_cases k0:k=0
   . subst k0;rw[zM2 rfl] at hA;have hts:ts=[]:=List.length_eq_zero_iff.1 (by simpa [arB] using ar);obtain⟨_,g1,g2⟩:=zOn nn;unfold zap;rw[zM1 (λe=>e hA.er),zM2 (by rw[hA.2.1.1];exact g1)];refine zNY hA hz ?_;rw[hA.2.1.2.2,g2,eT,hts,eL,sk rfl];unfold zag zbF;rw[zM2 (by decide +kernel),zM2 (by decide +kernel)]
   rw[zM1 k0] at hA;have hn:n=0:=n0 k0;subst hn;by_cases k12:k=1∨k=2
   . rw[zM2 k12] at hA;have hts:ts=[]:=List.length_eq_zero_iff.1 (by rcases k12 with e|e <;> subst e <;> simpa [arB] using ar);have hs:s=sE:=sk (by rcases k12 with e|e <;> subst e <;> rfl);unfold zap;rcases k12 with e|e <;> subst e
     . rw[zM1 (λe=>e hA.er),hA.2.1.1,hA.is,hA.is,zM1 (by decide +kernel),zM1 (by decide +kernel),zM1 (by decide +kernel),zM2 (by decide +kernel)];refine zNY hA hz ?_;rw[eT,hts,eL,hs,show zag zcb.toList 1=1 by decide +kernel,show zbF zcb.toList 1=0 by decide +kernel]
     rw[zM1 (λe=>e hA.er),hA.2.1.1,hA.is,hA.is,hA.is,zM1 (by decide +kernel),zM1 (by decide +kernel),zM1 (by decide +kernel),zM1 (by decide +kernel),zM2 (by decide +kernel)];refine zNY hA hz ?_;rw[eT,hts,eL,hs,show zag zcb.toList 0=2 by decide +kernel,show zbF zcb.toList 0=0 by decide +kernel]
   rw[zM1 k12] at hA;by_cases k3:k=3
   . subst k3;rw[zM2 rfl] at hA;have hs:=nk rfl;have hts:ts=[]:=List.length_eq_zero_iff.1 (by simpa [arB] using ar);have hA':At st (s::R):=hA;have h1:=hA'.step hz;have h2:st.step.is 4 [40]=false:=by
      have:=hlp rfl;cases R with
      | nil=>unfold St.is;rw[h1.2];rfl
      | cons z R=>rw[h1.is];exact this
     have hk2:st.t.k=2:=(by rw[hA'.2.1.1];exact hs.k);unfold zap;rw[zM1 (λe=>e hA'.er),zM1 (by rw[hk2];decide),zM2 hk2,zM1 (by rw[h2];decide)];exact zPK hs hA' hz (by rw[eT,hts,eL])
   rw[zM1 k3] at hA;by_cases k4:k=4
   . subst k4;rw[zM2 rfl] at hA;have hs:=nk rfl;obtain⟨u,us,rfl⟩:∃u us,ts=u::us:=by
      cases ts with
      | nil=>simp[arB] at ar
      | cons u us=>exact⟨u,us,rfl⟩
     have hA':At st (s::lpW::(exT u++(zu6 true (exL us)++rpW::R))):=(by have e:[s]++zu5 (exL (u::us))++R=s::lpW::(exT u++(zu6 true (exL us)++rpW::R)):=(by simp[zu5,exL,zu6]);rw[e] at hA;exact hA);have hus:∀v∈us,Rd v:=λv hv=>hr v (zMX _ hv);have h1:=hA'.step (zNd zOV (zNe (zNm (hr u (zMS ..))) (zN2 hus true hz)));have hk2:st.t.k=2:=(by rw[hA'.2.1.1];exact hs.k);have hd1:Dp (d+1) st.step:=(by unfold Dp;rw[St.step_op];exact hd);unfold zap;rw[zM1 (λe=>e hA'.er),zM1 (by rw[hk2];decide),zM2 hk2,zM2 (by rw[h1.is];decide +kernel)];have h2:=zPd (tk:=st.t) (t:=.mk 4 a s nm 0 (u::us)) h1 hz hd1 ih hr (by simp at len;omega) (by rw[eT,zNC,hA'.2.1.2.1,hs.s]);rcases h2 with h2|h2
     . exact .inl h2
     refine .inr ⟨h2.at',by rw[h2.op,St.step_op],?_,h2.tr⟩;have:=h2.L;rw[St.step_L] at this;exact this
   rw[zM1 k4] at hA;have hA':At st (lpW::(opW k s (ts.map Tm.k) (exL ts)++rpW::R)):=(by simpa using hA);rw[zQm hA'];have hl:∀x∈exL ts,Oks x:=λx hx=>by rw[zvt] at hx;obtain⟨u,hu,rfl⟩:=List.mem_map.1 hx;exact zNm (hr u hu)
   refine zO9 hA' (zNe (zQ2 hk (by omega) nk hl) (zNd zNq hz)) hz (λs h=>(zNQ d h).1) (λh1 ho=>?_);have hd1:=hd.enter ho;obtain⟨e,rfl⟩:=hd1.succ;exact zQA hR ih (by omega) hz hd1 h1
end
section
def eV (v:Vr):Vr:=⟨v.nm,0,v.bl,v.inn,v.out,0,v.ck,0,v.nt,v.tm⟩
structure RdV (v:Vr):Prop where
 nm:zNi v.nm
 ck:v.tm=true->zNi v.ck/\v.inn=false/\v.out=false
 no:v.tm=false->v.ck=sE/\v.nt=false
section
variable {st:St} {R:Xl} {vars:List Vr} {v:Vr} {b:Bool}
theorem zRL (hA:At st ((if b=true then (⟨#[98,111,111,108]⟩:Xb) else ⟨#[105,110,116]⟩)::R))(hz:Oks R):At (z9 st) R/\st.is 5 zbq=b:=by
 cases b with
 | true => rw[zM2 rfl] at hA;have h:st.is 5 zbq=true:=(by rw[hA.is];decide +kernel);unfold z9;rw[zM2 h];exact⟨hA.step hz,h⟩
 | false => rw[zM1 (by decide)] at hA;have h:st.is 5 zbq=false:=(by rw[hA.is];decide +kernel);unfold z9;rw[zM1 (by rw[h];decide)];exact⟨hA.must hz (by decide +kernel) (by decide +kernel),h⟩
theorem zRZ:zNf (if b=true then (⟨#[98,111,111,108]⟩:Xb) else ⟨#[105,110,116]⟩):=by
 cases b
 . exact (zNh (k:=5) (by decide +kernel)).1
 exact (zNh (k:=5) (by decide +kernel)).1
theorem zPO:zNf ⟨#[58]⟩:=(zNh (k:=4) (by decide +kernel)).1
theorem zOo:zNf ⟨#[59]⟩:=(zNh (k:=4) (by decide +kernel)).1
theorem zNS (hv:RdV v):Oks (zu7 v):=zNd hv.nm.ok (zNd zPO (zNl zRZ))
structure zQu (st:St) (R:Xl) (vars:List Vr) (v:Vr) (x:St×List Vr):Prop where
 at':At x.1 R
 op:x.1.op=st.op
 L:x.1.L=st.L
 vs:∃v',x.2=vars++[v']/\eV v'=eV v
theorem zOh (hv:RdV v)(hA:At st (zu7 v++R))(hz:Oks R):st.t.s=v.nm/\At (z9 (st.name.must 4 [58])) R/\(st.name.must 4 [58]).is 5 zbq=v.bl:=by have hA':At st (v.nm::⟨#[58]⟩::(if v.bl=true then (⟨#[98,111,111,108]⟩:Xb) else ⟨#[105,110,116]⟩)::R):=hA;have z1:Oks ((if v.bl=true then (⟨#[98,111,111,108]⟩:Xb) else ⟨#[105,110,116]⟩)::R):=zNd zRZ hz;have h1:=hA'.name (zNd zPO z1) hv.nm.k;have h2:=h1.must (k:=4) (b:=[58]) z1 (by decide +kernel) (by decide +kernel);obtain⟨h3,h4⟩:=zRL h2 hz;exact⟨by rw[hA'.2.1.2.1,hv.nm.s],h3,h4⟩
theorem zPC {i o:Bool}(hv:RdV v)(ht:v.tm=false)(hi:v.inn=i)(ho:v.out=o)(hio:(!i&&!o)=false)(hA:At st (zu7 v++R))(hz:Oks R)(hl:¬16<=vars.length):zQu st R vars v (zx i o st vars):=by obtain⟨h1,h2,h3⟩:=zOh hv hA hz;unfold zx;rw[zM1 hl];simp only;rw[zM1 (by rw[Bool.and_assoc,hio,Bool.and_false];decide)];refine⟨h2,by rw[znk,St.must_op,St.name_op],by rw[zqh,St.must_L,St.name_L],⟨_,rfl,?_⟩⟩;obtain⟨c1,c2⟩:=hv.no ht;unfold eV;simp only[h1,h3,hi,ho,ht,c1,c2]
theorem zPB (hv:RdV v)(hi:v.inn=false)(ho:v.out=false)(hA:At st (zu9 v++R))(hz:Oks R)(hl:¬16<=vars.length):zQu st R vars v (zaR st vars):=by
 have zs:Oks (⟨#[59]⟩::R):=zNd zOo hz;have on_ok:zNf ⟨#[111,110]⟩:=(zNh (k:=5) (by decide +kernel)).1;have not_ok:zNf ⟨#[110,111,116]⟩:=(zNh (k:=5) (by decide +kernel)).1;have hL:zu9 v++R=zu7 v++(onW v++⟨#[59]⟩::R):=by unfold zu9;simp
 rw[hL] at hA;unfold zaR;simp only;cases ht:v.tm with
 | false => have hon:onW v=[]:=(by unfold onW zaA;rw[ht];simp);rw[hon] at hA;obtain⟨h1,h2,h3⟩:=zOh hv hA zs;obtain⟨c1,c2⟩:=hv.no ht;have hno:(z9 (st.name.must 4 [58])).is 5 kOn=false:=(by have h2':At (z9 (st.name.must 4 [58])) (⟨#[59]⟩::R):=h2;rw[h2'.is];decide +kernel);unfold zx;rw[zM1 hl];simp only;rw[hno,zM1 (by decide)];refine⟨At.must (x:=⟨#[59]⟩) h2 hz (by decide +kernel) (by decide +kernel),by rw[St.must_op,znk,St.must_op,St.name_op],by rw[St.must_L,zqh,St.must_L,St.name_L],⟨_,rfl,?_⟩⟩;unfold eV;simp only[h1,h3,hi,ho,ht,c1,c2]
 | true =>
   obtain⟨hc,_,_⟩:=hv.ck ht;have zc:Oks (v.ck::⟨#[59]⟩::R):=zNd hc.ok zs;cases hn:v.nt with
   | false => have hon:onW v=[⟨#[111,110]⟩,v.ck]:=(by unfold onW zaA;rw[ht,hn];simp);rw[hon] at hA;obtain⟨h1,h2,h3⟩:=zOh (R:=⟨#[111,110]⟩::v.ck::⟨#[59]⟩::R) hv hA (zNd on_ok zc);have hon1:(z9 (st.name.must 4 [58])).is 5 kOn=true:=(by rw[h2.is];decide +kernel);have h4:=h2.step zc;have hnn:(z9 (st.name.must 4 [58])).step.is 5 zet=false:=(by rw[h4.is,hc.k];rfl);have h5:za3 (z9 (st.name.must 4 [58])).step=(z9 (st.name.must 4 [58])).step:=(by unfold za3;rw[zM1 (by rw[hnn];decide)]);have h6:=h4.name zs hc.k;unfold zx;rw[zM1 hl];simp only;rw[hon1,zM2 (by decide),h5];refine⟨h6.must (k:=4) (b:=[59]) hz (by decide +kernel) (by decide +kernel),by rw[St.must_op,St.name_op,St.step_op,znk,St.must_op,St.name_op],by rw[St.must_L,St.name_L,St.step_L,zqh,St.must_L,St.name_L],⟨_,rfl,?_⟩⟩;unfold eV;simp only[h1,h3,hi,ho,ht,hn,hnn,h4.2.1.2.1,hc.s]
   | true => have hon:onW v=[⟨#[111,110]⟩,⟨#[110,111,116]⟩,v.ck]:=(by unfold onW zaA;rw[ht,hn];simp);rw[hon] at hA;have zn:Oks (⟨#[110,111,116]⟩::v.ck::⟨#[59]⟩::R):=zNd not_ok zc;obtain⟨h1,h2,h3⟩:=zOh (R:=⟨#[111,110]⟩::⟨#[110,111,116]⟩::v.ck::⟨#[59]⟩::R) hv hA (zNd on_ok zn);have hon1:(z9 (st.name.must 4 [58])).is 5 kOn=true:=(by rw[h2.is];decide +kernel);have h4:=h2.step zn;have hnn:(z9 (st.name.must 4 [58])).step.is 5 zet=true:=(by rw[h4.is];decide +kernel);have h5:za3 (z9 (st.name.must 4 [58])).step=(z9 (st.name.must 4 [58])).step.step:=(by unfold za3;rw[zM2 hnn]);have h7:=h4.step zc;have h6:=h7.name zs hc.k;unfold zx;rw[zM1 hl];simp only;rw[hon1,zM2 (by decide),h5];refine⟨h6.must (k:=4) (b:=[59]) hz (by decide +kernel) (by decide +kernel),by rw[St.must_op,St.name_op,St.step_op,St.step_op,znk,St.must_op,St.name_op],by rw[St.must_L,St.name_L,St.step_L,St.step_L,zqh,St.must_L,St.name_L],⟨_,rfl,?_⟩⟩;unfold eV;simp only[h1,h3,hi,ho,ht,hn,hnn,h7.2.1.2.1,hc.s]
end
end
section
variable {i:Bool} {us vs:List Vr} {f:Nat} {x:St×List Vr} {v:Vr}
structure VsL (st:St) (R:Xl) (vars vs:List Vr) (x:St×List Vr):Prop where
 at':At x.1 R
 op:x.1.op=st.op
 L:x.1.L=st.L
 vs:∃vs',x.2=vars++vs'/\vs'.map eV=vs.map eV
theorem VsL.len {st:St}{R:Xl}{vars:List Vr}(h:VsL st R vars vs x):x.2.length=vars.length+vs.length:=by obtain⟨vs',h1,h2⟩:=h.vs;have:=congrArg List.length h2;rw[List.length_map,List.length_map] at this;rw[h1,zMM,this]
theorem VsL.snoc {st s1:St}{R R':Xl}{vars:List Vr}{y:St×List Vr}(h:VsL st R vars vs x)(ho:s1.op=x.1.op)(hL:s1.L=x.1.L)(h':zQu s1 R' x.2 v y):VsL st R' vars (vs++[v]) y:=by obtain⟨vs',h1,h2⟩:=h.vs;obtain⟨v',h3,h4⟩:=h'.vs;refine⟨h'.at',by rw[h'.op,ho,h.op],by rw[h'.L,hL,h.L],⟨vs'++[v'],by rw[h3,h1,zMQ],by rw[List.map_append,List.map_append,h2];simp[h4]⟩⟩
section
variable {R:Xl} {st:St} {vars:List Vr}
theorem zQ4 (h:∀v∈us,RdV v)(b:Bool)(hz:Oks R):Oks (zu6 b (us.map zu7)++rpW::R):=by refine zNe (zNG _ _ ?_) (zNd zNq hz);intro x hx;obtain⟨w,hw,rfl⟩:=List.mem_map.1 hx;exact zNS (h w hw)
theorem zPY (h:x.1.is 4 [44]=false):zaG i f x=x:=by
 cases f with
 | zero=>rfl
 | succ f => show (if _ then _ else x)=_;rw[zM1 (λe=>by rw[h] at e;cases e.2)]
theorem zN9 (hz:Oks R):∀(us dn:List Vr) (f:Nat) (x:St×List Vr),us.length<f->(∀v∈us,RdV v/\v.tm=false/\v.inn=i/\v.out=!i)->vars.length+dn.length+us.length<=16->VsL st (zu6 true (us.map zu7)++rpW::R) vars dn x->VsL st (rpW::R) vars (dn++us) (zaG i f x)
 | [],dn,f,x,_,_,_,h=>by have hA:At x.1 (rpW::R):=h.at';rw[zPY (by rw[hA.is];decide +kernel),List.append_nil];exact h
 | u::us,dn,0,x,hf,_,_,_=>by cases hf
 | u::us,dn,f+1,x,hf,hr,hl,h=>by
   have e:zu6 true ((u::us).map zu7)++rpW::R=coW::(zu7 u++(zu6 true (us.map zu7)++rpW::R)):=(by simp[zu6]);have hA:=h.at';rw[e] at hA;obtain⟨r1,r2,r3,r4⟩:=hr u (zMS ..);have hus:∀v∈us,RdV v:=λv hv=>(hr v (zMX _ hv)).1;have zq:=zQ4 hus true hz;have h1:=hA.step (zNe (zNS r1) zq);have hl':¬16<=x.2.length:=(by rw[h.len];simp at hl;omega);have h2:=zPC (vars:=x.2) r1 r2 r3 r4 (by cases i <;> rfl) h1 zq hl'
   show VsL st (rpW::R) vars (dn++u::us) (if _ then zaG i f (zx i (!i) x.1.step x.2) else x);rw[zM2 ⟨hA.er,by rw[hA.is];decide +kernel⟩];have:=zN9 hz us (dn++[u]) f _ (by simp at hf;omega) (λv hv=>hr v (zMX _ hv)) (by simp at hl ⊢;omega) (h.snoc (St.step_op _) (St.step_L _) h2);rw[zMQ] at this;exact this
theorem zOq {u:Vr}(hz:Oks R)(hr:∀v∈u::us,RdV v/\v.tm=false/\v.inn=i/\v.out=!i)(hl:vars.length+(us.length+1)<=16)(hA:At st (zu5 ((u::us).map zu7)++R)):VsL st R vars (u::us) (zab i st vars):=by
 have e:zu5 ((u::us).map zu7)++R=lpW::(zu7 u++(zu6 true (us.map zu7)++rpW::R)):=by simp[zu5,zu6]
 rw[e] at hA;obtain⟨r1,r2,r3,r4⟩:=hr u (zMS ..);have hus:∀v∈us,RdV v:=λv hv=>(hr v (zMX _ hv)).1;have zq:=zQ4 hus true hz;have h1:=hA.must (k:=4) (b:=[40]) (zNe (zNS r1) zq) (by decide +kernel) (by decide +kernel);have h2:=zPC (vars:=vars) r1 r2 r3 r4 (by cases i <;> rfl) h1 zq (by omega);unfold zab;obtain⟨f,hf⟩:∃f,f=1300:=⟨_,rfl⟩;rw[<- hf];simp only;have h0:VsL st (zu6 true (us.map zu7)++rpW::R) vars [u] (zx i (!i) (st.must 4 [40]) vars):=by obtain⟨v',h3,h4⟩:=h2.vs;exact⟨h2.at',by rw[h2.op,St.must_op],by rw[h2.L,St.must_L],⟨[v'],h3,by simp[h4]⟩⟩
 have h5:=zN9 hz us [u] f _ (by omega) (λv hv=>hr v (zMX _ hv)) (by simp;omega) h0;generalize zaG i f (zx i (!i) (st.must 4 [40]) vars)=X at *;exact⟨h5.at'.must hz (by decide +kernel) (by decide +kernel),by rw[St.must_op,h5.op],by rw[St.must_L,h5.L],h5.vs⟩
def lbW:ByteArray:=⟨#[123]⟩
theorem zPt:zNf lbW:=(zNh (k:=4) (by decide +kernel)).1
theorem zP9 (h:RdV v):Oks (zu9 v):=by
 unfold zu9 onW;refine zNe (zNS h) (zNe ?_ (zNl zOo));cases ht:v.tm with
 | false=>rw[zM1 (by unfold zaA;rw[ht];simp),zM1 (by unfold zaA;rw[ht];simp)];exact zNn
 | true =>
   have hc:=(h.ck ht).1;split
   . exact zNd (zNh (k:=5) (by decide +kernel)).1 (zNl hc.ok)
   split
   . exact zNd (zNh (k:=5) (by decide +kernel)).1 (zNd (zNh (k:=5) (by decide +kernel)).1 (zNl hc.ok))
   exact zNn
theorem zN5 (h:∀v∈us,RdV v):Oks (us.flatMap zu9):=λx hx=>by obtain⟨v,hv,hx⟩:=zM8.1 hx;exact zP9 (h v hv) x hx
theorem zPw (h:¬x.1.t.k=2):zbA f x=x:=by
 cases f with
 | zero=>rfl
 | succ f => show (if _ then _ else x)=_;rw[zM1 (λe=>h e.2)]
theorem zOc (hz:Oks R):∀(us dn:List Vr) (f:Nat) (x:St×List Vr),us.length<f->(∀v∈us,RdV v/\v.inn=false/\v.out=false)->vars.length+dn.length+us.length<=16->VsL st (us.flatMap zu9++lbW::R) vars dn x->VsL st (lbW::R) vars (dn++us) (zbA f x)
 | [],dn,f,x,_,_,_,h=>by have hA:At x.1 (lbW::R):=h.at';rw[zPw (by rw[hA.2.1.1];decide +kernel),List.append_nil];exact h
 | u::us,dn,0,x,hf,_,_,_=>by cases hf
 | u::us,dn,f+1,x,hf,hr,hl,h=>by
   have e:(u::us).flatMap zu9++lbW::R=zu9 u++(us.flatMap zu9++lbW::R):=(by simp);have hA:=h.at';rw[e] at hA;obtain⟨r1,r2,r3⟩:=hr u (zMS ..);have hus:∀v∈us,RdV v:=λv hv=>(hr v (zMX _ hv)).1;have zq:Oks (us.flatMap zu9++lbW::R):=zNe (zN5 hus) (zNd zPt hz);have hl':¬16<=x.2.length:=(by rw[h.len];simp at hl;omega);have h2:=zPB (vars:=x.2) r1 r2 r3 hA zq hl';have hk:x.1.t.k=2:=by have hA':At x.1 (u.nm::(⟨#[58]⟩::(if u.bl=true then (⟨#[98,111,111,108]⟩:Xb) else ⟨#[105,110,116]⟩)::(onW u++[⟨#[59]⟩]++(us.flatMap zu9++lbW::R)))):=(by have e2:zu9 u++(us.flatMap zu9++lbW::R)=u.nm::(⟨#[58]⟩::(if u.bl=true then (⟨#[98,111,111,108]⟩:Xb) else ⟨#[105,110,116]⟩)::(onW u++[⟨#[59]⟩]++(us.flatMap zu9++lbW::R))):=(by unfold zu9 zu7;simp);rw[e2] at hA;exact hA);rw[hA'.2.1.1];exact r1.nm.k
   show VsL st (lbW::R) vars (dn++u::us) (if _ then zbA f (zaR x.1 x.2) else x);rw[zM2 ⟨hA.er,hk⟩];have:=zOc hz us (dn++[u]) f _ (by simp at hf;omega) (λv hv=>hr v (zMX _ hv)) (by simp at hl ⊢;omega) (h.snoc rfl rfl h2);rw[zMQ] at this;exact this
theorem zRi (hf:us.length<f)(hz:Oks R)(hr:∀v∈us,RdV v/\v.inn=false/\v.out=false)(hl:vars.length+us.length<=16)(hA:At st ((if 0<us.length then [(⟨#[118,97,114]⟩:Xb)] else [])++(us.flatMap zu9++lbW::R))):VsL st (lbW::R) vars us (zaS f st vars):=by
 unfold zaS;cases us with
 | nil => have hA':At st (lbW::R):=hA;rw[zM1 (by rw[hA'.is];decide +kernel)];exact⟨hA',rfl,rfl,⟨[],by simp,rfl⟩⟩
 | cons u us => rw[zM2 (by simp)] at hA;have hA':At st (⟨#[118,97,114]⟩::(zu9 u++(us.flatMap zu9++lbW::R))):=(by simpa using hA);obtain⟨r1,r2,r3⟩:=hr u (zMS ..);have hus:∀v∈us,RdV v:=λv hv=>(hr v (zMX _ hv)).1;have zq:Oks (us.flatMap zu9++lbW::R):=zNe (zN5 hus) (zNd zPt hz);have h1:=hA'.step (zNe (zP9 r1) zq);rw[zM2 (by rw[hA'.is];decide +kernel)];have h2:=zPB (vars:=vars) r1 r2 r3 h1 zq (by simp at hl;omega);have h0:VsL st (us.flatMap zu9++lbW::R) vars [u] (zaR st.step vars):=(by obtain⟨v',h3,h4⟩:=h2.vs;exact⟨h2.at',by rw[h2.op,St.step_op],by rw[h2.L,St.step_L],⟨[v'],h3,by simp[h4]⟩⟩);exact zOc hz us [u] f _ (by simp at hf;omega) (λv hv=>hr v (zMX _ hv)) (by simp at hl ⊢;omega) h0
end
end
section
variable {a:Xb} {e:Eqn} {us:Xl} {L L':List Ex} {q:Qn}
structure RdQ (q:Qn):Prop where
 ns:∀s∈q.ns,zNi s
 one:1<=q.ns.length
 len:q.ns.length<=1302
 r:Rd q.r
 call:q.ns.length≠1->q.r.k=4
structure EqR (L:List Ex) (e:Eqn) (q:Qn):Prop where
 ns:e.ns=q.ns
 r:∃t,zeA L e.ex t/\eT t=eT q.r
theorem EqR.more (h:EqR L e q)(hp:L <+: L'):EqR L' e q:=by obtain⟨t,h1,h2⟩:=h.r;exact⟨h.ns,t,zAz hp h1,h2⟩
def zOd (L:List Ex)(es:List Eqn)(qs:List Qn):Prop:=es.length=qs.length/\∀(i:Nat) (e:Eqn) (q:Qn),es[i]?=some e->qs[i]?=some q->EqR L e q
theorem zOd.snoc {es:List Eqn}{qs:List Qn}(h:zOd L es qs)(hp:L <+: L')(hq:EqR L' e q):zOd L' (es++[e]) (qs++[q]):=by
 refine⟨by rw[zMM,zMM,h.1];rfl,λi e' q' h1 h2=>?_⟩;by_cases hi:i<es.length
 . rw[zM6 hi] at h1;rw[zM6 (by rw[<- h.1];exact hi)] at h2;exact (h.2 i e' q' h1 h2).more hp
 rw[zM5 (by omega)] at h1;rw[zM5 (by rw[<- h.1];omega),<- h.1] at h2
 match i-es.length,h1,h2 with
 | 0,h1,h2=>cases h1;cases h2;exact hq
structure QsL (st:St) (R:Xl) (qs:List Qn) (x:St×List Eqn):Prop where
 at':At x.1 R
 op:x.1.op=st.op
 L:st.L <+: x.1.L
 eqs:zOd x.1.L x.2 qs
section
variable {R:Xl} {st:St}
def eqW:ByteArray:=⟨#[61]⟩
def smW:ByteArray:=⟨#[59]⟩
theorem zRX:zNf eqW:=(zNh (k:=4) (by decide +kernel)).1
theorem zSV {d:Nat}{u:Tm}(ha:zNj u)(hu:Rd u):Rds d (lev d).ex u smW:=zOQ ha hu (by decide +kernel) (by decide +kernel) (by decide +kernel) (by decide +kernel) (by decide +kernel) (by decide +kernel) (by decide +kernel)
theorem zP2 {f:Nat}{x:Nms}(h:x.st.is 4 [44]=false):zbO f x=x:=by
 cases f with
 | zero=>rfl
 | succ f => show (if _ then _ else x)=_;rw[zM1 (λe=>by rw[h] at e;cases e.2)]
structure NsL (st:St) (R:Xl) (ns:Xl) (x:Nms):Prop where
 at':At x.st R
 op:x.st.op=st.op
 L:x.st.L=st.L
 ns:x.ns=ns
theorem zP6 (h:∀s∈us,zNi s)(b:Bool)(hz:Oks R):Oks (zu6 b (us.map λs=>[s])++rpW::R):=by refine zNe (zNG _ _ ?_) (zNd zNq hz);intro x hx;obtain⟨w,hw,rfl⟩:=List.mem_map.1 hx;exact zNl (h w hw).ok
theorem zOu (hz:Oks R):∀(us dn:Xl) (f:Nat) (x:Nms),us.length<=f->(∀s∈us,zNi s)->NsL st (zu6 true (us.map λs=>[s])++rpW::R) dn x->NsL st (rpW::R) (dn++us) (zbO f x)
 | [],dn,f,x,_,_,h=>by have hA:At x.st (rpW::R):=h.at';rw[zP2 (by rw[hA.is];decide +kernel),List.append_nil];exact h
 | u::us,dn,0,x,hf,_,_=>by simp at hf
 | u::us,dn,f+1,x,hf,hr,h=>by
   have e:zu6 true ((u::us).map λs=>[s])++rpW::R=coW::u::(zu6 true (us.map λs=>[s])++rpW::R):=(by simp[zu6]);have hA:=h.at';rw[e] at hA;have hus:∀s∈us,zNi s:=λv hv=>hr v (zMX _ hv);have hu:=hr u (zMS ..);have zq:=zP6 hus true hz;have h1:=hA.step (zNd hu.ok zq);have h2:=h1.name zq hu.k
   show NsL st (rpW::R) (dn++u::us) (if _ then zbO f x.more else x);rw[zM2 ⟨hA.er,by rw[hA.is];decide +kernel⟩];have:=zOu hz us (dn++[u]) f x.more (by simp at hf;omega) hus ⟨h2,by show x.st.step.name.op=_;rw[St.name_op,St.step_op,h.op],by show x.st.step.name.L=_;rw[St.name_L,St.step_L,h.L],by show x.ns++[x.st.step.t.s]=_;rw[h.ns,h1.2.1.2.1,hu.s]⟩;rw[zMQ] at this;exact this
theorem zRk {b:Xb}(hz:Oks R)(hr:∀s∈a::b::us,zNi s)(hl:us.length<=1300)(hA:At st (zu5 ((a::b::us).map λs=>[s])++R)):st.is 4 [40]=true/\NsL st R (a::b::us) (zaH st):=by
 have e:zu5 ((a::b::us).map λs=>[s])++R=lpW::a::coW::b::(zu6 true (us.map λs=>[s])++rpW::R):=by simp[zu5,zu6]
 rw[e] at hA;have ha:=hr a (by simp);have hb:=hr b (by simp);have zq:=zP6 (λs hs=>hr s (by simp[hs])) true hz (us:=us);have hi:st.is 4 [40]=true:=by rw[hA.is];decide +kernel
 have h1:=hA.step (zNd ha.ok (zNd zPr (zNd hb.ok zq)));have h2:=h1.name (zNd zPr (zNd hb.ok zq)) ha.k;have h3:=h2.must (k:=4) (b:=[44]) (zNd hb.ok zq) (by decide +kernel) (by decide +kernel);have h4:=h3.name zq hb.k;refine⟨hi,?_⟩;unfold zaH;rw[zM2 hi];unfold zdH;obtain⟨f,hf⟩:∃f,f=1300:=⟨_,rfl⟩;rw[<- hf];simp only
 have h5:=zOu (st:=st) hz us [a,b] f ⟨(st.step.name.must 4 [44]).name,[st.step.t.s,(st.step.name.must 4 [44]).t.s],[st.step.t.a,(st.step.name.must 4 [44]).t.a]⟩ (by omega) (λs hs=>hr s (by simp[hs]))
  ⟨h4,by show (st.step.name.must 4 [44]).name.op=_;rw[St.name_op,St.must_op,St.name_op,St.step_op],by show (st.step.name.must 4 [44]).name.L=_;rw[St.name_L,St.must_L,St.name_L,St.step_L],by show [_,_]=_;rw[h1.2.1.2.1,h3.2.1.2.1,ha.s,hb.s]⟩
 generalize zbO f _=X at *;exact⟨h5.at'.must hz (by decide +kernel) (by decide +kernel),by show (X.st.must 4 [41]).op=_;rw[St.must_op,h5.op],by show (X.st.must 4 [41]).L=_;rw[St.must_L,h5.L],h5.ns⟩
theorem zRF (hz:Oks R)(ha:zNi a)(hA:At st (a::R)):st.is 4 [40]=false/\NsL st R [a] (zaH st):=by
 have hi:st.is 4 [40]=false:=by rw[hA.is,ha.k];rfl
 refine⟨hi,?_⟩;unfold zaH;rw[zM1 (by rw[hi];decide)];exact⟨hA.name hz ha.k,St.name_op st,St.name_L st,by show [st.t.s]=_;rw[hA.2.1.2.1,ha.s]⟩
end
end
section
section
variable {R:Xl} {st:St} {d:Nat} {q:Qn} {es:List Eqn} {qs:List Qn}
theorem zPq:zNf smW:=zOo
theorem Dp.of {s:St}(h:Dp d st)(ho:s.op=st.op):Dp d s:=by unfold Dp;rw[ho];exact h
theorem zN6 (hq:RdQ q)(hd:Dp (d+1) st)(hz:Oks R)(hA:At st (zvd q++R))(h:zOd st.L es qs) :
 (zF (lev d).ex (lev (d+1)).ex st es).1.er=3∨QsL st R (qs++[q]) (zF (lev d).ex (lev (d+1)).ex st es):=by
 have zr:Oks (exT q.r++smW::R):=zNe (zNm hq.r) (zNd zPq hz);have ze:Oks (eqW::(exT q.r++smW::R)):=zNd zRX zr;have L1:(tkB eqW).k=4/\(tkB eqW).s.toList=[61]:=by decide +kernel
 have L2:(tkB smW).k=4/\(tkB smW).s.toList=[59]:=by decide +kernel
 unfold zF;simp only;have fin:∀(m:Bool) (l:Nms) (X:St×Nat),NsL st (eqW::(exT q.r++smW::R)) q.ns l->Out (l.st.must 4 [61]) (smW::R) q.r X->(X.1.must 4 [59]).er=3∨QsL st R (qs++[q]) (X.1.must 4 [59],es++[⟨l.ns,l.ps,l.st.t.a,X.2⟩]):=by
  intro m l X hl hX;rcases hX with hX|hX
  . exact .inl (zNk hX)
  right;have hL:=hX.L;rw[St.must_L,hl.L] at hL;refine⟨hX.at'.must hz L2.1 L2.2,by show (X.1.must 4 [59]).op=_;rw[St.must_op,hX.op,St.must_op,hl.op],by show _ <+: (X.1.must 4 [59]).L;rw[St.must_L];exact hL,?_⟩
  show zOd (X.1.must 4 [59]).L _ _;rw[St.must_L];exact h.snoc hL ⟨hl.ns,hX.tr⟩
 obtain⟨a,us,hns⟩:∃a us,q.ns=a::us:=by
  have:=hq.one;cases hn:q.ns with
  | nil=>rw[hn] at this;simp at this
  | cons a us=>exact⟨a,us,rfl⟩
 cases us with
 | nil =>
   have ha:zNi a:=hq.ns a (by rw[hns];simp);have hA':At st (a::eqW::(exT q.r++smW::R)):=(by have e:zvd q++R=a::eqW::(exT q.r++smW::R):=(by unfold zvd;rw[hns];simp[eqW,smW]);rw[e] at hA;exact hA);obtain⟨h1,h2⟩:=zRF ze ha hA';have h3:=h2.at'.must zr L1.1 L1.2;refine fin false _ _ (by rw[hns];exact h2) ?_;rw[h1]
   show Out _ _ _ ((lev (d+1)).ex _);exact zSV (zPg hq.r) hq.r _ R (hd.of (by rw[St.must_op,h2.op])) (zNd zPq hz) h3
 | cons b us =>
   have h4:q.r.k=4:=hq.call (by rw[hns];simp);have hA':At st (zu5 ((a::b::us).map λs=>[s])++(eqW::(exT q.r++smW::R))):=(by have e:zvd q++R=zu5 ((a::b::us).map λs=>[s])++(eqW::(exT q.r++smW::R)):=(by unfold zvd;rw[hns,zM1 (by simp)];simp[eqW,smW]);rw[e] at hA;exact hA);have hl:=hq.len;rw[hns] at hl;obtain⟨h1,h2⟩:=zRk ze (λs hs=>hq.ns s (by rw[hns];exact hs)) (by simp at hl;omega) hA';have h3:=h2.at'.must zr L1.1 L1.2;refine fin true _ _ (by rw[hns];exact h2) ?_;rw[h1]
   show Out _ _ _ (zao (lev d).ex _ _);generalize hs1:(zaH st).st.must 4 [61]=s1 at *;have hd1:Dp (d+1) s1:=hd.of (by rw[<- hs1,St.must_op,h2.op]);generalize hr:q.r=r at *;have hrd:Rd r:=(by rw[<- hr];exact hq.r);cases hrd with
   | mk k a' s nm n ts ar len nk sk n0 nn hrr =>
     have hk4:k=4:=h4;subst hk4;have hs:=nk rfl;have hn:=n0 (by decide);subst hn;obtain⟨u,us',rfl⟩:∃u us,ts=u::us:=by
      cases ts with
      | nil=>simp[arB] at ar
      | cons u us=>exact⟨u,us,rfl⟩
     have h5:At s1 (s::lpW::(exT u++(zu6 true (exL us')++rpW::smW::R))):=(by have e:exT (.mk 4 a' s nm 0 (u::us'))++smW::R=s::lpW::(exT u++(zu6 true (exL us')++rpW::smW::R)):=(by rw[exT];simp[exW,zu5,exL,zu6]);rw[e] at h3;exact h3);have hus:∀v∈us',Rd v:=λv hv=>hrr v (zMX _ hv);have h6:=h5.name (zNd zOV (zNe (zNm (hrr u (zMS ..))) (zN2 hus true (zNd zPq hz)))) hs.k;have h7:=zPd (tk:=s1.t) (t:=.mk 4 a' s nm 0 (u::us')) h6 (zNd zPq hz) (hd1.of (St.name_op s1)) (λv hv=>zPg (hrr v hv)) hrr (by simp at len;omega) (by rw[eT,zNC,h5.2.1.2.1,hs.s]);rcases h7 with h7|h7
     . exact .inl h7
     refine .inr ⟨h7.at',by rw[h7.op,St.name_op],?_,h7.tr⟩;have:=h7.L;rw[St.name_L] at this;exact this
end
end
section
variable {l:List Qn} {q:Qn}
section
variable {R:Xl} {st:St} {d p:Nat}
def rbW:ByteArray:=⟨#[125]⟩
theorem zPo:zNf rbW:=(zNh (k:=4) (by decide +kernel)).1
theorem zQs (h:RdQ q):Oks (zvd q):=by
 unfold zvd;refine zNe ?_ (zNe (zNl zRX) (zNe (zNm h.r) (zNl zOo)));split
 . exact λx hx=>(h.ns x hx).ok
 refine zOD (λx hx=>?_);obtain⟨s,hs,rfl⟩:=List.mem_map.1 hx;exact zNl (h.ns s hs).ok
theorem zNV (h:∀q∈l,RdQ q):Oks (l.flatMap zvd):=λx hx=>by obtain⟨q,hq,hx⟩:=zM8.1 hx;exact zQs (h q hq) x hx
theorem zRB (h:RdQ q):∃y l,zvd q=y::l/\((tkB y).k=2∨y=lpW):=by
 unfold zvd;split
 . rename_i e
   cases hn:q.ns with
   | nil=>rw[hn] at e;simp at e
   | cons a us=>exact⟨a,_,rfl,.inl (h.ns a (by rw[hn];simp)).k⟩
 exact⟨lpW,_,rfl,.inr rfl⟩
theorem zPb (hd:d=17)(hz:Oks R):∀(l dn:List Qn) (f:Nat) (x:St×List Eqn),l.length<f->(∀q∈l,RdQ q)->Inv p x.1->x.1.op=0->QsL st (l.flatMap zvd++rbW::R) dn x ->
 (zb5 (lev d).ex (lev (d+1)).ex f x).1.er=3∨QsL st (rbW::R) (dn++l) (zb5 (lev d).ex (lev (d+1)).ex f x)
 | [],dn,0,x,hf,_,_,_,_=>by cases hf
 | [],dn,f+1,x,_,_,_,_,h=>by
   have hA:At x.1 (rbW::R):=h.at';right
   show QsL st (rbW::R) (dn++[]) (if _ then zb5 _ _ f _ else x);rw[zM1 (by rw[hA.2.1.1,hA.is];decide +kernel),List.append_nil];exact h
 | q::l,dn,0,x,hf,_,_,_,_=>by cases hf
 | q::l,dn,f+1,x,hf,hr,hI,ho,h=>by
   have e:(q::l).flatMap zvd++rbW::R=zvd q++(l.flatMap zvd++rbW::R):=(by simp);have hA:=h.at';rw[e] at hA;have hq:=hr q (zMS ..);have hus:∀v∈l,RdQ v:=λv hv=>hr v (zMX _ hv);have zq:Oks (l.flatMap zvd++rbW::R):=zNe (zNV hus) (zNd zPo hz);have g17:zv 17 (lev d).ex:=hd▸(zgP d).1;have g18:zv 18 (lev (d+1)).ex:=(by have:=(zgP (d+1)).1;rw[show d+1=18 by omega] at this ⊢;exact this);have g:=za1 g17 g18 (eqs:=x.2) hI ho;have hD:Dp (d+1) x.1:=⟨by omega,by omega⟩;have h2:=zN6 (d:=d) (es:=x.2) (qs:=dn) hq hD zq hA h.eqs;have hc:x.1.t.k=2∨x.1.is 4 [40]=true:=by
    obtain⟨y,l',hy,hk⟩:=zRB hq;rw[hy] at hA;rcases hk with hk|rfl
    . exact .inl (by rw[hA.2.1.1];exact hk)
    exact .inr (by rw[hA.is];decide +kernel)
   show (if _ then zb5 (lev d).ex (lev (d+1)).ex f (zF (lev d).ex (lev (d+1)).ex x.1 x.2) else x).1.er=3∨QsL st (rbW::R) (dn++q::l) (if _ then zb5 (lev d).ex (lev (d+1)).ex f (zF (lev d).ex (lev (d+1)).ex x.1 x.2) else x);rw[zM2 hc];rcases h2 with h2|h2
   . left;rw[zl3 g.1.inv (by rw[h2];decide)];exact h2
   have h3:QsL st (l.flatMap zvd++rbW::R) (dn++[q]) (zF (lev d).ex (lev (d+1)).ex x.1 x.2):=⟨h2.at',by rw[h2.op,h.op],h.L.trans h2.L,h2.eqs⟩;have:=zPb hd hz l (dn++[q]) f _ (by simp at hf;omega) hus g.1.inv (g.2.trans ho) h3;rw[zMQ] at this;exact this
theorem zQ9 (hd:d=17)(hz:Oks R){f:Nat}(hf:l.length<f)(hr:∀v∈q::l,RdQ v)(hI:Inv p st)(ho:st.op=0)(hA:At st (lbW::((q::l).flatMap zvd++rbW::R))) :
 (zdr (lev d).ex (lev (d+1)).ex f st).1.er=3∨QsL st R (q::l) (zdr (lev d).ex (lev (d+1)).ex f st):=by
 have hq:=hr q (zMS ..);have hus:∀v∈l,RdQ v:=λv hv=>hr v (zMX _ hv);have zq:Oks (l.flatMap zvd++rbW::R):=zNe (zNV hus) (zNd zPo hz);have e:(q::l).flatMap zvd++rbW::R=zvd q++(l.flatMap zvd++rbW::R):=by simp
 rw[e] at hA;have h1:=hA.must (k:=4) (b:=[123]) (zNe (zQs hq) zq) (by decide +kernel) (by decide +kernel);have g17:zv 17 (lev d).ex:=hd▸(zgP d).1;have g18:zv 18 (lev (d+1)).ex:=by have:=(zgP (d+1)).1;rw[show d+1=18 by omega] at this ⊢;exact this
 have m1:=Fwd.must hI 4 [123];have o1:(st.must 4 [123]).op=0:=by rw[St.must_op,ho]
 have g:=za1 g17 g18 (eqs:=[]) m1.inv o1;have hD:Dp (d+1) (st.must 4 [123]):=⟨by omega,by omega⟩;have h2:=zN6 (d:=d) (es:=[]) (qs:=[]) hq hD zq h1 ⟨rfl,λi e q h=>by simp at h⟩;unfold zdr;simp only;rcases h2 with h2|h2
 . left;rw[zl3 g.1.inv (by rw[h2];decide)];exact zNk h2
 have h3:QsL st (l.flatMap zvd++rbW::R) [q] (zF (lev d).ex (lev (d+1)).ex (st.must 4 [123]) []):=⟨h2.at',by rw[h2.op,St.must_op],by have:=h2.L;rw[St.must_L] at this;exact this,h2.eqs⟩;rcases zPb hd hz l [q] f _ hf hus g.1.inv (g.2.trans o1) h3 with h4|h4
 . exact .inl (zNk h4)
 generalize zb5 (lev d).ex (lev (d+1)).ex f _=X at *;exact .inr ⟨h4.at'.must hz (by decide +kernel) (by decide +kernel),by show (X.1.must 4 [125]).op=_;rw[St.must_op,h4.op],by show _ <+: (X.1.must 4 [125]).L;rw[St.must_L];exact h4.L,by show zOd (X.1.must 4 [125]).L _ _;rw[St.must_L];exact h4.eqs⟩
end
end
section
variable {R:Xl} {st:St}
structure RdN (n:Nod):Prop where
 nm:zNi n.nm
 vs:∀v∈n.vars,RdV v
 i0:1<=n.ins
 o0:1<=n.outs
 io:n.ins+n.outs<=n.vars.length
 len:n.vars.length<=16
 vi:∀v∈n.vars.take n.ins,v.tm=false/\v.inn=true/\v.out=false
 vo:∀v∈(n.vars.drop n.ins).take n.outs,v.tm=false/\v.inn=false/\v.out=true
 vl:∀v∈n.vars.drop (n.ins+n.outs),v.inn=false/\v.out=false
 q0:n.eqs≠[]
 ql:n.eqs.length<=1201
 qs:∀q∈n.eqs,RdQ q
structure NdE (d:Nd) (n:Nod):Prop where
 nm:d.nm=n.nm
 vars:d.vars.map eV=n.vars.map eV
 eqs:zOd d.exs d.eqs n.eqs
theorem At.fresh (h:At st R):At st.fresh R:=by cases R <;> exact h
def ndW:ByteArray:=⟨#[110,111,100,101]⟩
def arW:ByteArray:=⟨#[45,62]⟩
theorem zSU:zNf ndW:=(zNh (k:=5) (by decide +kernel)).1
theorem zQR:zNf arW:=(zNh (k:=4) (by decide +kernel)).1
theorem zQ7:zNf ⟨#[118,97,114]⟩:=(zNh (k:=5) (by decide +kernel)).1
theorem zN4 {us:List Vr}(h:∀v∈us,RdV v):Oks (zu5 (us.map zu7)):=zOD (λx hx=>by
 obtain⟨w,hw,rfl⟩:=List.mem_map.1 hx;exact zNS (h w hw))
theorem zO8 {d p f:Nat}{n:Nod}(hd:d=17)(hn:RdN n)(hz:Oks R)(hI:Inv p st)(ho:st.op=0)(hf:1200<f)(hA:At st (zu4 n++R)) :
 (zax (lev d).ex (lev (d+1)).ex f st).1.er=3∨(At (zax (lev d).ex (lev (d+1)).ex f st).1 R/\NdE (zax (lev d).ex (lev (d+1)).ex f st).2 n):=by
 obtain⟨A,hAe⟩:∃A,n.vars.take n.ins=A:=⟨_,rfl⟩;obtain⟨B,hBe⟩:∃B,(n.vars.drop n.ins).take n.outs=B:=⟨_,rfl⟩;obtain⟨C,hCe⟩:∃C,n.vars.drop (n.ins+n.outs)=C:=⟨_,rfl⟩;have hABC:n.vars=A++(B++C):=by rw[<- hAe,<- hBe,<- hCe,<- List.drop_drop,List.take_append_drop,List.take_append_drop]
 have lA:A.length=n.ins:=by rw[<- hAe,List.length_take];have:=hn.io;omega
 have lB:B.length=n.outs:=by rw[<- hBe,List.length_take,List.length_drop];have:=hn.io;omega
 have hlen:=hn.len;rw[hABC,zMM,zMM] at hlen;have rA:∀v∈A,RdV v/\v.tm=false/\v.inn=true/\v.out=!true:=λv hv=>⟨hn.vs v (by rw[hABC];simp[hv]),hn.vi v (by rw[hAe];exact hv)⟩;have rB:∀v∈B,RdV v/\v.tm=false/\v.inn=false/\v.out=!false:=λv hv=>⟨hn.vs v (by rw[hABC];simp[hv]),hn.vo v (by rw[hBe];exact hv)⟩;have rC:∀v∈C,RdV v/\v.inn=false/\v.out=false:=λv hv=>⟨hn.vs v (by rw[hABC];simp[hv]),hn.vl v (by rw[hCe];exact hv)⟩;obtain⟨q,l,hE⟩:∃q l,n.eqs=q::l:=by
  cases h:n.eqs with
  | nil=>exact absurd h hn.q0
  | cons q l=>exact⟨q,l,rfl⟩
 have rE:∀v∈q::l,RdQ v:=λv hv=>hn.qs v (by rw[hE];exact hv);have z1:Oks ((q::l).flatMap zvd++rbW::R):=zNe (zNV rE) (zNd zPo hz);have z2:Oks (C.flatMap zu9++lbW::((q::l).flatMap zvd++rbW::R)):=zNe (zN5 (λv hv=>(rC v hv).1)) (zNd zPt z1);have z3:Oks ((if 0<C.length then [(⟨#[118,97,114]⟩:Xb)] else [])++(C.flatMap zu9++lbW::((q::l).flatMap zvd++rbW::R))):=by
  refine zNe ?_ z2;split
  . exact zNl zQ7
  exact zNn
 obtain⟨Q3,hQ3⟩:∃Q3,(if 0<C.length then [(⟨#[118,97,114]⟩:Xb)] else [])++(C.flatMap zu9++lbW::((q::l).flatMap zvd++rbW::R))=Q3:=⟨_,rfl⟩;have z4:Oks (zu5 (B.map zu7)++Q3):=zNe (zN4 (λv hv=>(rB v hv).1)) (hQ3▸z3);have z5:Oks (zu5 (A.map zu7)++arW::(zu5 (B.map zu7)++Q3)):=zNe (zN4 (λv hv=>(rA v hv).1)) (zNd zQR z4);have e:zu4 n++R=ndW::n.nm::(zu5 (A.map zu7)++arW::(zu5 (B.map zu7)++Q3)):=by unfold zu4;rw[hAe,hBe,hCe,hE,<- hQ3];simp[ndW,arW,lbW,rbW]
 rw[e] at hA;have h0:=Fwd.fresh hI;have gh:=zit h0;have gv:=zeP (f:=f) (vars:=(zaI st.fresh).2) gh.1.inv;have s1:=hA.fresh.must (k:=5) (b:=zW) (zNd hn.nm.ok z5) (by decide +kernel) (by decide +kernel);have s2:=s1.name z5 hn.nm.k;obtain⟨a,A',hA'⟩:∃a A',A=a::A':=by
  cases A with
  | nil=>have:=hn.i0;simp at lA;omega
  | cons a A'=>exact⟨a,A',rfl⟩
 obtain⟨b,B',hB'⟩:∃b B',B=b::B':=by
  cases B with
  | nil=>have:=hn.o0;simp at lB;omega
  | cons b B'=>exact⟨b,B',rfl⟩
 have p1:=zOq (vars:=[]) (i:=true) (u:=a) (us:=A') (R:=arW::(zu5 (B.map zu7)++Q3)) (zNd zQR z4) (by rw[<- hA'];exact rA) (by rw[hA'] at hlen;simp at hlen ⊢;omega) (by rw[<- hA'];exact s2);rw[<- hA'] at p1;unfold zax;unfold zaI at gh gv ⊢;simp only at gh gv ⊢;generalize hX:zab true (st.fresh.must 5 zW).name []=X at *;have s3:=p1.at'.must (k:=4) (b:=[45,62]) z4 (by decide +kernel) (by decide +kernel);have lX:=p1.len;have p2:=zOq (vars:=X.2) (i:=false) (u:=b) (us:=B') (R:=Q3) (hQ3▸z3) (by rw[<- hB'];exact rB) (by rw[lX];rw[hB'] at hlen;simp at hlen ⊢;omega) (by rw[<- hB'];exact s3);rw[<- hB'] at p2;generalize hY:zab false (X.1.must 4 [45,62]) X.2=Y at *;have lY:=p2.len;have p3:=zRi (vars:=Y.2) (f:=f) (us:=C) (R:=(q::l).flatMap zvd++rbW::R) (by omega) z1 rC (by rw[lY,lX];simp;omega) (by rw[hQ3];exact p2.at');generalize hZ:zaS f Y.1 Y.2=Z at *;have oZ:Z.1.op=0:=by rw[p3.op,p2.op,St.must_op,p1.op,St.name_op,St.must_op];exact ho
 have hql:=hn.ql;rw[hE] at hql;rcases zQ9 (f:=f) hd hz (by simp at hql;omega) rE gv.1.inv oZ p3.at' with h|h
 . exact .inl h
 right;refine⟨h.at',?_,?_,by rw[hE];exact h.eqs⟩
 . show (st.fresh.must 5 zW).t.s=n.nm;rw[s1.2.1.2.1,hn.nm.s]
 show Z.2.map eV=_;obtain⟨v1,e1,f1⟩:=p1.vs;obtain⟨v2,e2,f2⟩:=p2.vs;obtain⟨v3,e3,f3⟩:=p3.vs;rw[e3,e2,e1,hABC];simp only[List.nil_append,List.map_append,f1,f2,f3,zMQ]
end
section
def Wh (w:Xu):Prop:=∀c∈w,zbY c.toNat=true
def Lay:List ByteArray->List UInt8->Prop
 | [],u=>Wh u
 | x::l,u=>∃w c v,u=w++(x.data.toList++c::v)/\Wh w/\zbY c.toNat=true/\Lay l (c::v)
theorem zPx {l:Xl}{r:Xu}(hr:Lay l (10::r)):∀(xs:Xl) (x:Xb) (w:Xu),Wh w->Lay (x::xs++l) (w++(([32]:Xu).intercalate ((x::xs).map (·.data.toList))++10::r))
 | [],x,w,hw=>⟨w,10,r,by simp[List.intercalate],hw,rfl,hr⟩
 | y::xs,x,w,hw=>by have ih:=zPx hr xs y [32] (λc hc=>by rw[zMZ.1 hc];rfl);exact⟨w,32,([32]:Xu).intercalate ((y::xs).map (·.data.toList))++10::r,by simp[List.intercalate],hw,rfl,ih⟩
theorem zPD:∀(ns:List Nod) (w:Xu),Wh w->Lay (ns.flatMap zu4) (w++zu3 ns)
 | [],w,hw=>by rw[show zu3 []=[] from rfl,List.append_nil];exact hw
 | n::ns,w,hw=>by have ih:=zPD ns [10] (λc hc=>by rw[zMZ.1 hc];rfl);obtain⟨x,xs,hx⟩:∃x xs,zu4 n=x::xs:=⟨_,_,rfl⟩;have:=zPx (l:=ns.flatMap zu4) (r:=zu3 ns) ih xs x w hw;rw[<- hx] at this;have e:w++zu3 (n::ns)=w++(([32]:Xu).intercalate ((zu4 n).map (·.data.toList))++10::zu3 ns):=(by show w++(zvg n++zu3 ns)=_;unfold zvg;simp);rw[e,List.flatMap_cons];exact this
theorem zOY {u:Xu}:∀(w pre:Xu),Wh w->(∀c v,u=c::v->zbY c.toNat=false)->zQ zbY ⟨(pre++(w++u)).toArray⟩ pre.length=pre.length+w.length
 | [],pre,_,hu=>by
   rw[List.nil_append,zNb,Nat.add_zero];cases u with
   | nil=>exact zjm (by show (pre++[]).toArray.size<=_;simp)
   | cons c v => refine zif ?_;rw[zNz (by simp)];simp only[List.getElem_append_right (zMK _),Nat.sub_self,zr6];exact hu c v rfl
 | c::w,pre,hw,hu=>by have hc:=hw c (zMS ..);have e:pre++(c::w++u)=(pre++[c])++(w++u):=(by simp);have hl:pre.length<(pre++(c::w++u)).length:=(by simp);rw[zd1 (by show _<(pre++(c::w++u)).toArray.size;simp) (by rw[zNz hl];simp only[List.getElem_append_right (zMK _),Nat.sub_self,List.cons_append,zr6];exact hc)];have:=zOY (u:=u) w (pre++[c]) (λx hx=>hw x (zMX _ hx)) hu;rw[e,show pre.length+1=(pre++[c]).length by simp,this];simp;omega
theorem zP5:∀(l:Xl) (u pre:Xu),(∀x∈l,zQM x)->Lay l u->Rst ⟨(pre++u).toArray⟩ pre.length l
 | [],u,pre,_,h=>by
   have:=zOY (u:=[]) u pre h (λc v e=>by cases e);rw[List.append_nil] at this
   show zQ zbY _ _=(pre++u).toArray.size;rw[this];simp
 | x::l,u,pre,hl,h=>by
   obtain⟨w,c,v,rfl,hw,hc,h⟩:=h;have hx:=hl x (zMS ..);have hxl:x.data.toList.length=x.size:=(by show x.data.toList.length=x.data.size;simp);have hsp:=zOY (u:=x.data.toList++c::v) w pre hw (λc' v' e=>by
    have h0:=hx.2 0 (by have:=hx.1;omega);have hb:bt x 0=c'.toNat:=(by have e2:x=⟨x.data.toList.toArray⟩:=(by simp);have hlt:0<x.data.toList.length:=(by rw[hxl];have:=hx.1;omega);have e3:=zNz (l:=x.data.toList) hlt;rw[<- e2] at e3;have:(x.data.toList++c::v)[0]'(by rw[zMM];omega)=c':=(by simp only[e,zr6]);rw[List.getElem_append_left hlt] at this;rw[e3,this]);rw[hb] at h0;exact h0)
   have hsz:(⟨(pre++(w++(x.data.toList++c::v))).toArray⟩:Xb).size=pre.length+w.length+x.size+1+v.length:=(by show (pre++(w++(x.data.toList++c::v))).toArray.size=_;simp only[List.size_toArray,zMM,zMR,hxl];omega);have hat:∀i,i<x.size->bt ⟨(pre++(w++(x.data.toList++c::v))).toArray⟩ (pre.length+w.length+i)=bt x i:=λi hi=>by have hlt:i<x.data.toList.length:=(by rw[hxl];exact hi);have e2:x=⟨x.data.toList.toArray⟩:=(by simp);have e3:bt x i=(x.data.toList[i]).toNat:=(by have:=zNz (l:=x.data.toList) hlt;rw[<- e2] at this;exact this);rw[e3,zNz (by simp;omega)];congr 1;rw[List.getElem_append_right (by omega),List.getElem_append_right (by omega),List.getElem_append_left (by omega)];congr 1;omega
   have hcw:bt ⟨(pre++(w++(x.data.toList++c::v))).toArray⟩ (pre.length+w.length+x.size)=c.toNat:=(by rw[zNz (by simp;omega)];congr 1;rw[List.getElem_append_right (by omega),List.getElem_append_right (by omega),List.getElem_append_right (by omega)];simp only[show pre.length+w.length+x.size-pre.length-w.length-x.data.toList.length=0 by omega,zr6]);refine⟨by rw[hsp,hsz];omega,by rw[hsp];exact hat,by rw[hsp,hcw];exact hc,?_⟩;rw[hsp];have ih:=zP5 l (c::v) (pre++w++x.data.toList) (λy hy=>hl y (zMX _ hy)) h;have e1:pre++(w++(x.data.toList++c::v))=pre++w++x.data.toList++c::v:=(by simp);have e2:(pre++w++x.data.toList).length=pre.length+w.length+x.size:=(by rw[zMM,zMM,hxl]);rw[e1,<- e2];exact ih
end
section
variable {ns:List Nod} {n:Nod}
theorem zPT (hn:RdN n):Oks (zu4 n):=by
 unfold zu4;refine zNe (zNd zSU (zNl hn.nm.ok)) (zNe (zN4 λv hv=>hn.vs v (List.mem_of_mem_take hv)) (zNe (zNl zQR) (zNe (zN4 λv hv=>hn.vs v (List.mem_of_mem_drop (List.mem_of_mem_take hv))) (zNe ?_ (zNe (zN5 λv hv=>hn.vs v (List.mem_of_mem_drop hv)) (zNe (zNl zPt) (zNe (zNV hn.qs) (zNl zPo))))))));split
 . exact zNl zQ7
 exact zNn
theorem zN7 (h:∀n∈ns,RdN n):Oks (ns.flatMap zu4):=λx hx=>by obtain⟨n,hn,hx⟩:=zM8.1 hx;exact zPT (h n hn) x hx
def zNX (ds:List Nd)(ns:List Nod):Prop:=ds.length=ns.length/\∀(i:Nat) (d:Nd) (n:Nod),ds[i]?=some d->ns[i]?=some n->NdE d n
theorem zNX.snoc {ds:List Nd}{d:Nd}(h:zNX ds ns)(hq:NdE d n):zNX (ds++[d]) (ns++[n]):=by
 refine⟨by rw[zMM,zMM,h.1];rfl,λi e' q' h1 h2=>?_⟩;by_cases hi:i<ds.length
 . rw[zM6 hi] at h1;rw[zM6 (by rw[<- h.1];exact hi)] at h2;exact h.2 i e' q' h1 h2
 rw[zM5 (by omega)] at h1;rw[zM5 (by rw[<- h.1];omega),<- h.1] at h2
 match i-ds.length,h1,h2 with
 | 0,h1,h2=>cases h1;cases h2;exact hq
section
variable {d g:Nat}
theorem zOs (hd:d=17)(hg:1200<g):∀(ns dn:List Nod) (f p:Nat) (x:St×List Nd),ns.length<f->(∀n∈ns,RdN n)->dn.length+ns.length<=6->Inv p x.1->x.1.op=0->At x.1 (ns.flatMap zu4)->zNX x.2 dn ->
 (zdZ (lev d).ex (lev (d+1)).ex g f x).1.er=3∨(At (zdZ (lev d).ex (lev (d+1)).ex g f x).1 []/\zNX (zdZ (lev d).ex (lev (d+1)).ex g f x).2 (dn++ns))
 | [],dn,0,p,x,hf,_,_,_,_,_,_=>by cases hf
 | [],dn,f+1,p,x,_,_,_,_,_,hA,h=>by
   have hA':At x.1 []:=hA;right
   show At (if _ then zdZ _ _ g f _ else x).1 []/\zNX (if _ then zdZ _ _ g f _ else x).2 (dn++[]);rw[zM1 (by rintro⟨e,_⟩;unfold St.is at e;rw[hA'.2] at e;cases e),List.append_nil];exact⟨hA',h⟩
 | n::ns,dn,0,p,x,hf,_,_,_,_,_,_=>by cases hf
 | n::ns,dn,f+1,p,x,hf,hr,hl,hI,ho,hA,h=>by
   rw[List.flatMap_cons] at hA;have hn:=hr n (zMS ..);have hus:∀v∈ns,RdN v:=λv hv=>hr v (zMX _ hv);have g17:zv 17 (lev d).ex:=hd▸(zgP d).1;have g18:zv 18 (lev (d+1)).ex:=(by have:=(zgP (d+1)).1;rw[show d+1=18 by omega] at this ⊢;exact this);obtain⟨_,_,hi,hop,_⟩:=zhx g17 g18 (f:=g) (nodes:=[]) hI ho (by simp);have h2:=zO8 (d:=d) (f:=g) hd hn (zN7 hus) hI ho hg hA;have hc:x.1.is 5 zW=true/\x.2.length<6:=by have hA':At x.1 (ndW::(n.nm::_)):=hA;refine⟨by rw[hA'.is];decide +kernel,?_⟩;rw[h.1];simp at hl;omega
   show (if _ then zdZ (lev d).ex (lev (d+1)).ex g f ((zax (lev d).ex (lev (d+1)).ex g x.1).1,x.2++[(zax (lev d).ex (lev (d+1)).ex g x.1).2]) else x).1.er=3∨(At (if _ then zdZ (lev d).ex (lev (d+1)).ex g f ((zax (lev d).ex (lev (d+1)).ex g x.1).1,x.2++[(zax (lev d).ex (lev (d+1)).ex g x.1).2]) else x).1 []/\zNX (if _ then zdZ (lev d).ex (lev (d+1)).ex g f ((zax (lev d).ex (lev (d+1)).ex g x.1).1,x.2++[(zax (lev d).ex (lev (d+1)).ex g x.1).2]) else x).2 (dn++n::ns));rw[zM2 hc];rcases h2 with h2|⟨h2,h3⟩
   . left;rw[zze (p:=0) hi (by show (zax (lev d).ex (lev (d+1)).ex g x.1).1.er≠0;rw[h2];decide)];exact h2
   have:=zOs hd hg ns (dn++[n]) f 0 ((zax (lev d).ex (lev (d+1)).ex g x.1).1,x.2++[(zax (lev d).ex (lev (d+1)).ex g x.1).2]) (by simp at hf;omega) hus (by simp at hl ⊢;omega) hi hop h2 (h.snoc h3);rw[zMQ] at this;exact this
theorem zQS (hd:d=17)(hg:1200<g)(h1:1<=ns.length)(h6:ns.length<=6)(hr:∀n∈ns,RdN n)(hI:Inv 0 (⟨⟨(zu3 ns).toArray⟩,zZ ⟨(zu3 ns).toArray⟩ 0,0,0,0,[]⟩:St)) :
 (zgo (lev d).ex (lev (d+1)).ex g ⟨(zu3 ns).toArray⟩).1.er=3∨((zgo (lev d).ex (lev (d+1)).ex g ⟨(zu3 ns).toArray⟩).1.er=0/\zNX (zgo (lev d).ex (lev (d+1)).ex g ⟨(zu3 ns).toArray⟩).2 ns):=by
 have hok:=zN7 hr;have hR:=zP5 (ns.flatMap zu4) (zu3 ns) [] (λx hx=>(hok x hx).cl) (zPD ns [] (λc hc=>by cases hc));obtain⟨s,hs⟩:∃s:Xb,s=⟨(zu3 ns).toArray⟩:=⟨_,rfl⟩;rw[List.nil_append,<- hs] at hR;rw[<- hs] at hI ⊢;have hA:At (⟨s,zZ s 0,0,0,0,[]⟩:St) (ns.flatMap zu4):=zQk hR hok _ rfl rfl rfl;obtain⟨x0,hx0⟩:∃x0:St,x0=⟨s,zZ s 0,0,0,0,[]⟩:=⟨_,rfl⟩;have ho:x0.op=0:=by rw[hx0]
 unfold zgo;rw[<- hx0] at hI hA ⊢;simp only;obtain⟨n,ns',rfl⟩:∃n l,ns=n::l:=by
  cases ns with
  | nil=>simp at h1
  | cons n l=>exact⟨n,l,rfl⟩
 rw[List.flatMap_cons] at hA;have hn:=hr n (zMS ..);have hus:∀v∈ns',RdN v:=λv hv=>hr v (zMX _ hv);have g17:zv 17 (lev d).ex:=hd▸(zgP d).1;have g18:zv 18 (lev (d+1)).ex:=by have:=(zgP (d+1)).1;rw[show d+1=18 by omega] at this ⊢;exact this
 obtain⟨_,_,hi,hop,_⟩:=zhx g17 g18 (f:=g) (nodes:=[]) hI ho (by simp);have fin3:∀X:St,X.er=3->(zbB X).er=3:=λX e=>by rw[(zzQ X (by rw[e];decide)).1];exact e
 rcases zO8 (d:=d) (f:=g) hd hn (zN7 hus) hI ho hg hA with h2|⟨h2,h3⟩
 . left;rw[zze (p:=0) hi (by show (zax (lev d).ex (lev (d+1)).ex g x0).1.er≠0;rw[h2];decide)];exact fin3 _ h2
 have h4:=zOs hd hg ns' [n] g 0 ((zax (lev d).ex (lev (d+1)).ex g x0).1,[(zax (lev d).ex (lev (d+1)).ex g x0).2]) (by simp at h6;omega) hus (by simp at h6 ⊢;omega) hi hop h2 ⟨rfl,λi d' n' e1 e2=>by
  match i,e1,e2 with
  | 0,e1,e2=>cases e1;cases e2;exact h3⟩
 generalize zdZ (lev d).ex (lev (d+1)).ex g g _=X at *;rcases h4 with h4|⟨h4,h5⟩
 . exact .inl (fin3 _ h4)
 right;have:zbB X.1=X.1:=by unfold zbB;rw[zM2 h4.2]
 rw[this];exact⟨h4.1,h5⟩
end
end
end Go.Proofs.YtbicmofihhjgbaaGreatDoor
