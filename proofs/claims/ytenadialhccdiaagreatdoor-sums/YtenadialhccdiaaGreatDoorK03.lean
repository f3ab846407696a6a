/- Part 4. -/
import Derived.Test.YtenadialhccdiaaGreatDoorK02
set_option maxRecDepth 100000
set_option maxHeartbeats 8000000
namespace Go.Proofs.YtenadialhccdiaaGreatDoor
open Go.Proofs.Tryz
section
open Go.RowKit
variable {ns:Xb} {l:Xu} {vars:List Vr} {k n na ty:Nat} {st:St}
theorem zfC (he:st.er≠0)(e a:Nat):st.fail e a=st.bad:=by unfold St.fail St.bad;rw[zM1 he]
theorem zhq (hk:st.t.k=1)(h:k≠1):st.is k l=false:=zeN (by omega)
theorem zgX (he:st.er≠0)(hk:st.t.k=1):st.name=st.bad:=by unfold St.name;rw[zM1 (by omega),zfC he]
theorem zfp (he:st.er≠0)(hk:st.t.k=1)(h:k≠1):st.must k l=st.bad:=by unfold St.must;rw[zhq hk h];exact zfC he _ _
theorem zgM (he:st.er≠0)(hk:st.t.k=1):z9 st=st.bad:=by unfold z9;rw[zhq hk (by decide)];exact zfp he hk (by decide)
theorem zmu (he:st.er≠0)(n:Nat):st.decl0 n=st.bad∨st.decl0 n=st:=by
 unfold St.decl0;split
 . exact zM3 (zfC he _ _)
 exact zM4 rfl
theorem zio (he:st.er≠0)(hk:st.t.k=1)(n:Nat):za4 st n=st.bad:=by
 unfold za4;have hb:st.bad.er≠0:=he;have hbk:st.bad.t.k=1:=rfl;rcases zmu he n with h|h
 . rw[h,zgX hb hbk,zfp (st:=st.bad.bad) hb hbk (by decide),zgM (st:=st.bad.bad.bad) hb hbk];rfl
 rw[h,zgX he hk,zfp (st:=st.bad) hb hbk (by decide),zgM (st:=st.bad.bad) hb hbk];rfl
theorem zkJ (he:st.er≠0)(hk:st.t.k=1)(i o:Bool)(vars:List Vr):(zx i o st vars).1=st.bad:=by
 unfold zx;split
 . exact zfC he _ _
 have hb:st.bad.er≠0:=he;have hbk:st.bad.t.k=1:=rfl;have h3:z9 (st.name.must 4 [58])=st.bad:=by rw[zgX he hk,zfp (st:=st.bad) hb hbk (by decide),zgM (st:=st.bad.bad) hb hbk];rfl
 simp only[h3];rw[zhq hbk (by decide)];rfl
theorem zhb (n:Nat)(h:n=16):za4 st n=st.fail 2 st.t.a:=by unfold za4 St.decl0;rw[zM2 h,St.fail_name' _ (by decide),St.fail_must' _ (by decide) (by decide)];unfold z9;rw[St.fail_is _ (by decide)];exact St.fail_must' _ (by decide) (by decide)
theorem zj1 (i:Bool)(hB:Bad st)(hn:st.er=0->n=vars.length/\vars.length<=16):za4 st n=(zx i (!i) st vars).1:=by
 by_cases he:st.er=0
 . obtain⟨h1,h2⟩:=hn he;by_cases h16:n=16
   . rw[zhb n h16];unfold zx;rw[zM2 (by omega)]
   unfold zx;rw[zM1 (by omega)];have hc:((z9 (st.name.must 4 [58])).is 5 kOn&&!i&&!!i)=false:=(by cases i <;> simp);simp only[hc];unfold za4 St.decl0;rw[zM1 h16];rfl
 rw[zio he (hB.bad he),zkJ he (hB.bad he)]
theorem zk2 (hB:Bad st)(hn:st.er=0->n=vars.length/\vars.length<=16):onM (za4 st n)=(zx false false st vars).1:=by
 by_cases he:st.er=0
 . obtain⟨h1,h2⟩:=hn he;by_cases h16:n=16
   . rw[zhb n h16];have h1:onM (st.fail 2 st.t.a)=st.fail 2 st.t.a:=(by unfold onM;rw[St.fail_is _ (by decide)];rfl);rw[h1];unfold zx;rw[zM2 (by omega)]
   unfold zx;rw[zM1 (by omega)];have hd:za4 st n=z9 (st.name.must 4 [58]):=(by unfold za4 St.decl0;rw[zM1 h16]);rw[hd];unfold onM;cases hc:(z9 (st.name.must 4 [58])).is 5 kOn with
   | true=>simp only[hc,Bool.not_false,Bool.and_self,if_true]
   | false=>simp only[hc,Bool.not_false,Bool.false_and];rfl
 rw[zio he (hB.bad he),zkJ he (hB.bad he)];unfold onM;rw[zhq rfl (by decide)];rfl
def zaA (v:Vr):Nat:=if v.tm=true then (if v.nt=true then 2 else 1) else 0
def vrC (v:Vr):List Value:=[.string v.nm,xI v.a,xI (if v.bl=true then 1 else 0:Nat),xI (zaA v:Nat),xI v.on,.string v.ck,xI v.ca]
def zb0 (l:List Vr):List Value:=l.flatMap vrC
theorem zf4 (l:List Vr)(v:Vr):zb0 (l++[v])=zb0 l++vrC v:=by simp[zb0]
theorem zeH (h:st.name.er=0):st.t.k=2:=by
 by_cases h2:st.t.k=2
 . exact h2
 exfalso;unfold St.name at h;rw[zM1 h2] at h;exact St.fail_er _ (by decide) h
theorem zay (h:(st.must k l).er=0):st.er=0:=by
 unfold St.must at h;split at h
 . rwa [St.step_er] at h
 exact absurd h (St.fail_er _ (by decide))
theorem zeo (h:(z9 st).er=0):st.er=0:=by
 unfold z9 at h;split at h
 . rwa [St.step_er] at h
 exact zay h
theorem zel (h:st.name.er=0):st.er=0:=by have:=zeH h;unfold St.name at h;rw[zM2 this,St.step_er] at h;exact h
theorem zpY (i:Bool)(hn:st.er=0->n=vars.length/\vars.length<=16)(hk:(st.decl0 n).t.k=2->ns=(st.decl0 n).t.s/\na=(st.decl0 n).t.a)(hty:ty=if ((st.decl0 n).name.must 4 [58]).is 5 zbq=true then 1 else 0)
 (he:(zx i (!i) st vars).1.er=0):st.er=0/\(zx i (!i) st vars).2.length=n+1/\n+1<=16/\zb0 (zx i (!i) st vars).2=zb0 vars++[.string ns,xI na,xI ty,xI (0:Nat),xI (0:Nat),.string ⟨#[]⟩,xI (0:Nat)]:=by
 by_cases h16:16<=vars.length
 . unfold zx at he;rw[zM2 h16] at he;exact absurd he (St.fail_er _ (by decide))
 have hc:((z9 (st.name.must 4 [58])).is 5 kOn&&!i&&!!i)=false:=by cases i <;> simp
 have hV:zx i (!i) st vars=(z9 (st.name.must 4 [58]),vars++[⟨st.t.s,st.t.a,(st.name.must 4 [58]).is 5 zbq,i,!i,0,sE,0,false,false⟩]):=by unfold zx;rw[zM1 h16];simp only[hc];rfl
 rw[hV] at he ⊢;have e0:st.er=0:=zel (zay (zeo he));obtain⟨h1,h2⟩:=hn e0;have hd:st.decl0 n=st:=by unfold St.decl0;rw[zM1 (by omega)]
 rw[hd] at hk hty;obtain⟨k1,k2⟩:=hk (zeH (zay (zeo he)));refine⟨e0,by simp[h1],by omega,?_⟩;simp only[zf4];unfold vrC zaA;subst k1 k2 hty;rfl
theorem ziI (hn:st.er=0->n=vars.length/\vars.length<=16){os:Xb}{sg pl oa:Nat}(hk:(st.decl0 n).t.k=2->ns=(st.decl0 n).t.s/\na=(st.decl0 n).t.a)(hty:ty=if ((st.decl0 n).name.must 4 [58]).is 5 zbq=true then 1 else 0)(hon:zkT (za4 st n) sg pl os oa)
 (he:(zx false false st vars).1.er=0):st.er=0/\(zx false false st vars).2.length=n+1/\n+1<=16/\zb0 (zx false false st vars).2=zb0 vars++[.string ns,xI na,xI ty,xI sg,xI pl,.string os,xI oa]:=by
 by_cases h16:16<=vars.length
 . unfold zx at he;rw[zM2 h16] at he;exact absurd he (St.fail_er _ (by decide))
 cases hc:(z9 (st.name.must 4 [58])).is 5 kOn with
 | false => have hV:zx false false st vars=(z9 (st.name.must 4 [58]),vars++[⟨st.t.s,st.t.a,(st.name.must 4 [58]).is 5 zbq,false,false,0,sE,0,false,false⟩]):=(by unfold zx;rw[zM1 h16];simp only[hc,Bool.false_and];rfl);rw[hV] at he ⊢;have e0:st.er=0:=zel (zay (zeo he));obtain⟨h1,h2⟩:=hn e0;have hd:st.decl0 n=st:=(by unfold St.decl0;rw[zM1 (by omega)]);have hdS:za4 st n=z9 (st.name.must 4 [58]):=(by unfold za4;rw[hd]);rw[hd] at hk hty;rw[hdS] at hon;obtain⟨k1,k2⟩:=hk (zeH (zay (zeo he)));obtain⟨o1,o2,o3,o4⟩:=hon.2 hc;refine⟨e0,by simp[h1],by omega,?_⟩;simp only[zf4];unfold vrC zaA;subst k1 k2 hty o1 o2 o3 o4;rfl
 | true =>
   have hV:zx false false st vars=((za3 (z9 (st.name.must 4 [58])).step).name,vars++[⟨st.t.s,st.t.a,(st.name.must 4 [58]).is 5 zbq,false,false,(z9 (st.name.must 4 [58])).t.a,(za3 (z9 (st.name.must 4 [58])).step).t.s,(za3 (z9 (st.name.must 4 [58])).step).t.a,(z9 (st.name.must 4 [58])).step.is 5 zet,true⟩]):=(by unfold zx;rw[zM1 h16];simp only[hc,Bool.not_false,Bool.and_self,if_true]);rw[hV] at he ⊢;have hne:(za3 (z9 (st.name.must 4 [58])).step).er=0:=zel he;have hne2:(z9 (st.name.must 4 [58])).er=0:=by
    unfold za3 at hne;split at hne
    . rw[St.step_er,St.step_er] at hne;exact hne
    rw[St.step_er] at hne;exact hne
   have e0:st.er=0:=zel (zay (zeo hne2));obtain⟨h1,h2⟩:=hn e0;have hd:st.decl0 n=st:=(by unfold St.decl0;rw[zM1 (by omega)]);have hdS:za4 st n=z9 (st.name.must 4 [58]):=(by unfold za4;rw[hd]);rw[hd] at hk hty;rw[hdS] at hon;obtain⟨k1,k2⟩:=hk (zeH (zay (zeo hne2)));obtain⟨o1,o2,o3⟩:=hon.1 hc;obtain⟨o4,o5⟩:=o3 (zeH he);refine⟨e0,by simp[h1],by omega,?_⟩;simp only[zf4];unfold vrC zaA;subst k1 k2 hty o1 o2 o4 o5;rfl
end
section
open Go.RowKit
structure VI (S:Xs) (pb nb B p:Nat) (w wr:Xw) (c0 c1 c3 c4 c5:Xv) (s:St) (vars:List Vr) (vs:Xv) (n:Nat) (xs:Xm):Prop where
 inv:Inv p s
 pl:PL S wr pb s
 blk:xH wr nb #[c0,c1,vs,c3,c4,c5] 88
 own:wr.ownsRow B 101 7 vs n xs
 ok:s.er=0->n=vars.length/\vars.length<=16/\xs=zb0 vars
 fr:Fr (λk=>k=pb∨k=nb∨B<=k) w wr
theorem VI.dec {S:Xs}{pb nb B p:Nat}{w wr:Xw}{c0 c1 c3 c4 c5:Xv}{s:St}{vars:List Vr}{vs:Xv}{n:Nat}{xs:Xm}(h:VI S pb nb B p w wr c0 c1 c3 c4 c5 s vars vs n xs):s.er=0->n=vars.length/\vars.length<=16:=λhe=>⟨(h.ok he).1,(h.ok he).2.1⟩
theorem ziY (S:Xs)(pb nb B p:Nat)(w wr:Xw)(c0 c1 c3 c4 c5:Xv)(s:St)(vars:List Vr)(vs:Xv)(n:Nat)(xs:Xm)(hn:n<=50)(hnp:pb<nb)(hBn:nb<B)(hBw:B<=w.heap.size)(h:VI S pb nb B p w wr c0 c1 c3 c4 c5 s vars vs n xs) :
 xK 132 #[xP pb,xP nb] wr λe w'=>e=.returned (.tuple #[])/\∃vs' xs',VI S pb nb B p w w' c0 c1 c3 c4 c5 (zaR s vars).1 (zaR s vars).2 vs' (n+1) xs':=by
 have hzr:=h.fr.size;refine (zm1 S pb nb B s wr c0 c1 c3 c4 c5 vs n xs h.inv.toBad hn h.pl h.blk h.own hnp hBn (by omega)).mono ?_;rintro e w' ⟨ns,os,na,ty,sg,pl,oa,v',rfl,h1,h2,h3,⟨h4,h5⟩,h6,h7,_⟩;have hg:=zej (vars:=vars) h.inv;rw[zk2 h.inv.toBad h.dec] at h1;refine⟨rfl,v',_,hg.1.inv,h1,h2,h3,?_,?_⟩
 . intro he;have he1:(zx false false s vars).1.er=0:=zay he;obtain⟨r1,r2,r3,r4⟩:=ziI h.dec h4 h5 h6.out he1;obtain⟨k1,k2,k3⟩:=h.ok r1;refine⟨?_,?_,?_⟩
   . show n+1=(zx false false s vars).2.length;omega
   . show (zx false false s vars).2.length<=16;omega
   show xs++_=zb0 (zx false false s vars).2;rw[r4,k3]
 exact h.fr.trans' h7 (λi hi hs=>by
  rcases hs with hs|hs|hs
  . exact zM3 hs
  . exact zM4 (zM3 hs)
  exact zM4 (zM4 (h.own.lt i hs).1))
end
section
open Go.RowKit
variable {xs:Xm} {vars:List Vr} {B n nb p pb:Nat} {S:Xs} {s:St} {c0 c1 c3 c4 c5 vs:Xv} {w wr:Xw}
theorem zjY:zH 156:=λ_ _=>by kernel_rfl
theorem zpn {w1 w9:Xw}{v':Xv}{X:Obj}{ns:Xb}{na ty:Nat}(i:Bool)
 (h:VI S pb nb B p w wr c0 c1 c3 c4 c5 s vars vs n xs) (hnp:pb<nb) (hBn:nb<B) (_hBw:B<=w.heap.size) (hk:Hid (((s.decl0 n).t.k=2->ns=(s.decl0 n).t.s/\na=(s.decl0 n).t.a)/\ty=if ((s.decl0 n).name.must 4 [58]).is 5 zbq=true then 1 else 0))
 (hF1:Fr (·=pb) wr w1) (hL9:PL S w9 pb (za4 s n)) (h4:xH w9 nb #[c0,c1,vs,c3,c4,c5] 88) (h5:w9.ownsRow B 101 7 v' (n+1) (xs++[.string ns,xI na,xI ty,xI 0,xI 0,.string ⟨#[]⟩,xI 0]))
 (h8:Fr (λk=>vs.ownBlock=some k) (w1.alloc X) w9):VI S pb nb B p w (w9.setCell (xD nb 2) v') c0 c1 c3 c4 c5 (zx i (!i) s vars).1 (zx i (!i) s vars).2 v' (n+1) (xs++[.string ns,xI na,xI ty,xI 0,xI 0,.string ⟨#[]⟩,xI 0]):=by
 rw[zj1 i h.inv.toBad h.dec] at hL9;have hg:=zbI (i:=i) (o:=!i) (vars:=vars) h.inv;refine⟨hg.1.inv,hL9.setOther hnp _ _,zh _ _ _ _ h4,zi h5 (λk hk _ _=>zr (by omega) rfl),?_,?_⟩
 . intro he;obtain⟨r1,r2,r3,r4⟩:=zpY i h.dec hk.out.1 hk.out.2 he;obtain⟨k1,k2,k3⟩:=h.ok r1;exact⟨by omega,by omega,by rw[r4,k3];rfl⟩
 have g1:Fr (λk=>k=pb∨k=nb∨B<=k) w (w1.alloc X):=(h.fr.trans' hF1 (λ_ _ h=>zM3 h)).alloc X;exact (g1.trans' h8 (λk _ hs=>zM4 (zM4 (h.own.lt k hs).1))).setCell (zM3 (zM4 (zM3 rfl))) _
theorem zii {e:Xy}(h:w.ownsRow B e 7 vs n xs):∃x cp,vs=.slice x n cp:=by
 rcases h.2 with ⟨h1,h2⟩|⟨g,cap,cur,h1,_⟩
 . exact⟨none,0,by rw[h1,h2]⟩
 exact⟨_,cap,h1⟩
theorem VI.goes {w':Xw}{s':St}(h:VI S pb nb B p w wr c0 c1 c3 c4 c5 s vars vs n xs)(hnp:pb<nb)(hBn:nb<B)(hI:Inv p s')(he:s'.er=0->s.er=0)(hL:PL S w' pb s')(hF:Fr (·=pb) wr w'):VI S pb nb B p w w' c0 c1 c3 c4 c5 s' vars vs n xs :=
 ⟨hI,hL,(hF.block nb (ze h.blk) (by omega)).trans h.blk,zi h.own (λk h1 h2 _=>hF.block k h2 (by omega)),λh'=>h.ok (he h'),h.fr.trans' hF (λ_ _ h=>zM3 h)⟩
theorem zhz (S:Xs)(pb nb B p m:Nat)(i:Bool)(w wr:Xw)(c0 c1 c3 c4 c5:Xv)(st:St)(vars:List Vr)(vs:Xv)(n:Nat)(xs:Xm)(hn:n<=m)(hm:m<=40)(hm6:16<=m)(hnp:pb<nb)(hBn:nb<B)(hBw:B<=w.heap.size)(H:VI S pb nb B p w wr c0 c1 c3 c4 c5 st vars vs n xs) :
 xK 130 #[xP pb,xP nb] wr λe w'=>∃(vs':Xv) (n':Nat) (xs':Xm),e=.returned (xI ((n':Int)-(n:Int)))/\n'<=m+1/\VI S pb nb B p w w' c0 c1 c3 c4 c5 (zab i st vars).1 (zab i st vars).2 vs' n' xs':=by
 obtain⟨x,cp,hvs⟩:∃x cp,vs=.slice x n cp:=by
  rcases H.own.2 with ⟨h1,h2⟩|⟨g,cap,cur,h1,_⟩
  . exact⟨none,0,by rw[h1,h2]⟩
  exact⟨_,cap,h1⟩
 have hblk:=H.blk;rw[hvs] at hblk;obtain⟨q0,q1,q2,q3,q4,q5,qf,qz⟩:=zt hblk;have HBd:=za H.inv.toBad;have hlt:=H.pl.lt;clear hblk;go_enter func130,ntmps130;go_wp2_with fail;refine (zP S pb st _ _ zfn _ HBd.o H.pl).mono ?_;rintro e w1 ⟨rfl,HL1,HF1⟩;rw[zan H.pl.tx (by decide)] at HL1;have f1:=Fwd.must H.inv 4 [40];have HV1:=H.goes hnp hBn f1.inv (λHer=>zay Her) HL1 HF1;have hRes0:zab i st vars=((zaG i 1300 (zx i (!i) (st.must 4 [40]) vars)).1.must 4 [41],(zaG i 1300 (zx i (!i) (st.must 4 [40]) vars)).2):=rfl;have HPM:=za hRes0;obtain⟨R,HR0⟩:∃R,zaG i 1300 (zx i (!i) (st.must 4 [40]) vars)=R:=⟨_,rfl⟩;rw[HR0] at HPM;have Hta:Hid (1201-(st.must 4 [40]).t.a<1300):=by unfold Hid;omega
 generalize st.must 4 [40]=s0 at *;obtain⟨i0,hi,hi0,hi1,hi2⟩:=info_parts Tryz.infoVar;clear q0 q1 q2 q3 q4 q5 qf f1 hRes0;go_wp2_with fail;go_loopg [6] 1300 (λk mo wx=>∃(b:Bool) (s:St) (vl:List Vr) (vv:Xv) (nn:Nat) (xx:Xm),mo=.bool b/\Hid (VI S pb nb B p w wx c0 c1 c3 c4 c5 s vl vv nn xx)/\nn<=m+1/\Hid (b=true->nn<=m/\zaG i k (zx i (!i) s vl)=R/\1201-s.t.a<k)/\Hid (b=false->(s,vl)=R));case atStart=>exact⟨true,s0,vars,vs,n,xs,rfl,HV1,by omega,λ_=>⟨hn,HR0,Hta.o⟩,λH=>by cases H⟩
 case round =>
  obtain⟨b,s,vl,vv,nn,xx,rfl,HA,hnn,HT,HFa⟩:=hrel;have hzr:=HA.o.fr.size;have hltr:=HA.o.pl.lt;have HBs:=za HA.o.inv.toBad;cases b with
  | false => have HQ:=za (HFa.o rfl);obtain⟨x2,cp2,hvv⟩:=zii HA.o.own;have Hb2:=HA.o.blk;rw[hvv] at Hb2;clear HT HFa hvv;go_wp2_with (go_at_call 128;refine (zP S pb s _ [41] zlq _ HBs.o HA.o.pl).mono ?_;rintro e w2 ⟨rfl,HL2,HF2⟩;have hn2:=(HF2.block nb (ze Hb2) (by omega)).trans Hb2;obtain⟨q0,q1,q2,q3,q4,q5,qf,qz2⟩:=zt hn2;clear hn2);go_ret;have hm':=zan HA.o.pl.tx (l:=[41]) (by decide);have HL2:=HL2;rw[hm'] at HL2;rw[HPM.o,<- HQ.o];refine⟨vv,nn,xx,?_,hnn,HA.o.goes hnp hBn (Fwd.must HA.o.inv 4 [41]).inv (λHer=>zay Her) HL2 HF2⟩;first|rfl|(congr 2;go_num)
  | true =>
    obtain⟨hnm,hR1,Hrem⟩:=HT.o rfl;obtain⟨x2,cp2,hvv⟩:=zii HA.o.own;have Hb2:=HA.o.blk;have hb2':=Hb2;rw[hvv] at hb2';obtain⟨q0,q1,q2,q3,q4,q5,qf,qz2⟩:=zt Hb2;have HDc:=za (λw1 (hh:w1.heap[nb]?=wr.heap[nb]?) H=>zfH S pb s w1 nb x2 nn cp2 HBs.o (by omega) (ze (hh.trans hb2')) (zt (hh.trans hb2')).2.2.1 H);have HR1:=za hR1;have mx:nn+1<=maxLen:=(by unfold maxLen;omega);have by':(nn+1)*72<=140737488355328:=(by omega);have Hnm:=za hnm;clear HT HFa hR1 hvv hb2';go_upto_block 1 with fail;go_cut [] (λwy=>∃vs' xs',Hid (VI S pb nb B p w wy c0 c1 c3 c4 c5 (zx i (!i) s vl).1 (zx i (!i) s vl).2 vs' (nn+1) xs'));case first =>
     go_wp2_with fail;go_region_law (first|(refine zde rfl 156 (.tmp 22) (.tmp 23) 181 77 rfl zjY (xP pb) (xP nb) rfl rfl (HDc.o _ rfl HA.o.pl.drew) ?_;rintro e w1 ⟨ns,na,ty,rfl,HK1,HL1,hF1'⟩;refine⟨_,rfl,?_⟩;have HF1:Fr (·=pb) wr w1:=hF1'.undrew;have hzc:=HF1.size;have Hn1:=(HF1.block nb (ze Hb2) (by omega)).trans Hb2;obtain⟨f0,f1,f2,f3,f4,f5,ff,fz⟩:=zt Hn1;have Hown1:=za (zi HA.o.own (λk h1 h2 _=>HF1.block k h2 (by omega)));have hzw:B<=w1.heap.size+1:=(by omega);clear hF1')|(refine zJ _ rfl (.tmp 21) (.tmp 25) 85 rfl B 101 i0 _ 7 72 underlying85 hi hi0 hi1 hi2 rfl (by decide) vv nn xx rfl (zD Hown1.o _) (xD w1.heap.size 0) 1 1 [.string ns,xI na,xI ty,xI 0,xI 0,.string ⟨#[]⟩,xI 0] rfl rfl (zN (zc w1 _) rfl) zoU mx by' (by simpa using hzw) ?_;intro v' w9 Hown9 hgrow hnew;obtain⟨g9,cap9,rfl,hg9⟩:=zM Hown9 (by omega);have HF9:=Fr.of_grown hgrow;have hb9:w9.heap[nb]?=w1.heap[nb]?:=((HF9.block nb (by rw[zsb];omega) (λH=>by have:=(Hown1.o.lt nb H).1;omega)).trans (zWP _ _ _ (by omega)));have Hn9:=za (hb9.trans Hn1);obtain⟨m0,m1,m2,m3,m4,m5,mf,mz⟩:=zt Hn9.o;have HL9:=za (PL.fr (HL1.alloc _) HF9 (λk hk=>by have:=(Hown1.o.lt k hk).1;omega));clear hgrow hnew hb9));all_goals go_wp2_with fail
     all_goals go_meet
     all_goals exact⟨_,_,zpn i HA.o hnp hBn hBw HK1 HF1 HL9.o Hn9.o Hown9 HF9⟩
    case rest =>
     obtain⟨vs2,xs2,HA2⟩:=hcut;have hzq:=HA2.o.fr.size;have HBd2:=za HA2.o.inv.toBad;generalize Hy:zx i (!i) s vl=y at *;have HSk:=za (zbg S pb y.1 ⟨#[44]⟩ [44] zlz wc HBd2.o HA2.o.pl);have hska:y.1.skipM [44]=if y.1.is 4 [44]=true then y.1.step else y.1:=(by unfold St.skipM;rw[zaB HA2.o.pl.tx (by decide)]);rw[zaB HA2.o.pl.tx (by decide),hska] at HSk;clear q0 q1 q2 q3 q4 q5 qf qz2 hska;obtain⟨g,rfl⟩:∃g,gk=g+1:=⟨gk-1,by have:=Hrem;omega⟩;have hR1:=HR1.o;have hunf:zaG i (g+1) y=if y.1.er=0/\y.1.is 4 [44]=true then zaG i g (zx i (!i) y.1.step y.2) else y:=rfl;rw[hunf] at hR1;cases hc:y.1.is 4 [44] with
     | true =>
       have Her:y.1.er=0:=HBd2.o.er (by rw[Inv.is_k hc];decide);rw[zM2 ⟨Her,hc⟩] at hR1;rw[hc,zM2 rfl] at HSk;have e5:=Fwd.step HA2.o.inv;have hta:y.1.t.a+1<=y.1.step.t.a:=(by have h1:=HA2.o.inv.tok (by rw[Inv.is_k hc];decide);have h2:=zV y.1.src y.1.t.t HA2.o.inv.ok.tt;rw[St.step_ok Her];simp only;omega);have HN:Hid (nn+1<=m/\zaG i g (zx i (!i) y.1.step y.2)=R/\1201-y.1.step.t.a<g):=(by have h1:s.t.a<=y.1.t.a:=(by have:=(zbI (i:=i) (o:=!i) (vars:=vl) HA.o.inv).1.ta;rwa [Hy] at this);have h2:=Hrem;have h3:=HA.o.inv.ok.ta_le;have h4:=e5.inv.ok.ta_le;have h5:=(HA2.o.ok Her);exact⟨by omega,hR1,by omega⟩);have HI5:=za e5.inv;clear hR1 hunf hc e5 hta;go_wp2_with (go_at_call 131;refine HSk.o.mono ?_;rintro e w3 ⟨rfl,HL3,HF3⟩);go_roundg g;case measure=>omega
       exact⟨true,y.1.step,y.2,vs2,nn+1,xs2,rfl,HA2.o.goes hnp hBn HI5.o (λ_=>Her) HL3 HF3,by have:=HN.o.1;omega,λ_=>HN.o,λH=>by cases H⟩
     | false =>
       rw[zM1 (by rw[hc];simp)] at hR1;have HR2:=za hR1;rw[hc,zM1 (by simp)] at HSk;clear hR1 hunf hc;go_wp2_with (go_at_call 131;refine HSk.o.mono ?_;rintro e w3 ⟨rfl,HL3,HF3⟩);go_roundg g;case measure=>omega
       exact⟨false,y.1,y.2,vs2,nn+1,xs2,rfl,HA2.o.goes hnp hBn HA2.o.inv (λH=>H) HL3 HF3,by have:=Hnm.o;omega,(λH=>by cases H),λ_=>HR2.o⟩
end
section
variable {r17 r18:Fn} {p:Nat} {st:St}
structure Eqn where
 ns:List ByteArray
 ps:List Nat
 a:Nat
 ex:Nat
structure Nms where
 st:St
 ns:List ByteArray
 ps:List Nat
def Nms.more (x:Nms):Nms:=⟨x.st.step.name,x.ns++[x.st.step.t.s],x.ps++[x.st.step.t.a]⟩
def zbO:Nat->Nms->Nms
 | 0,x=>x
 | f+1,x=>if x.st.er=0/\x.st.is 4 [44]=true then zbO f x.more else x
def zdH (st:St):Nms :=
 let s3:=st.step.name.must 4 [44]
 let y:=zbO 1300 ⟨s3.name,[st.step.t.s,s3.t.s],[st.step.t.a,s3.t.a]⟩
 ⟨y.st.must 4 [41],y.ns,y.ps⟩
def zaH (st:St):Nms:=if st.is 4 [40]=true then zdH st else ⟨st.name,[st.t.s],[st.t.a]⟩
def zck (r17 r18:Fn)(many:Bool)(st:St):St×Nat:=if many=true then zao r17 st.t st.name else r18 st
def zF (r17 r18:Fn)(st:St)(eqs:List Eqn):St×List Eqn :=
 let l:=zaH st
 let e:=zck r17 r18 (st.is 4 [40]) (l.st.must 4 [61])
 (e.1.must 4 [59],eqs++[⟨l.ns,l.ps,l.st.t.a,e.2⟩])
theorem zdO:∀(f p:Nat) (x:Nms),Inv p x.st->Fwd p x.st (zbO f x).st/\(zbO f x).st.op=x.st.op/\(zbO f x).st.L=x.st.L:=by
 intro f;induction f with
 | zero=>intro p x hI;exact⟨Fwd.refl hI,rfl,rfl⟩
 | succ f ih =>
   intro p x hI
   show Fwd p x.st (if _ then _ else x).st/\(if _ then _ else x).st.op=x.st.op/\(if _ then _ else x).st.L=x.st.L;by_cases hc:x.st.er=0/\x.st.is 4 [44]=true
   . rw[zM2 hc];have h1:=Fwd.step hI;have h2:=Fwd.name h1.inv;have h3:=ih p x.more h2.inv;exact⟨(h1.trans h2).trans h3.1,h3.2.1.trans ((St.name_op _).trans (St.step_op _)),h3.2.2.trans ((St.name_L _).trans (St.step_L _))⟩
   rw[zM1 hc];exact⟨Fwd.refl hI,rfl,rfl⟩
theorem zmR (hI:Inv p st):Fwd p st (zdH st).st/\(zdH st).st.op=st.op/\(zdH st).st.L=st.L:=by
 have h1:=Fwd.step hI;have h2:=Fwd.name h1.inv;have h3:=Fwd.must h2.inv 4 [44];have h4:=Fwd.name h3.inv;have h5:=zdO 1300 p ⟨(st.step.name.must 4 [44]).name,[st.step.t.s,(st.step.name.must 4 [44]).t.s],[st.step.t.a,(st.step.name.must 4 [44]).t.a]⟩ h4.inv;have h6:=Fwd.must h5.1.inv 4 [41];refine⟨((((h1.trans h2).trans h3).trans h4).trans h5.1).trans h6,?_,?_⟩
 . unfold zdH;simp only;rw[St.must_op,h5.2.1];simp only;rw[St.name_op,St.must_op,St.name_op,St.step_op]
 unfold zdH;simp only;rw[St.must_L,h5.2.2];simp only;rw[St.name_L,St.must_L,St.name_L,St.step_L]
theorem zfO (hI:Inv p st):Fwd p st (zaH st).st/\(zaH st).st.op=st.op/\(zaH st).st.L=st.L:=by
 unfold zaH;split
 . exact zmR hI
 exact⟨Fwd.name hI,St.name_op _,St.name_L _⟩
theorem zfx (g17:zv 17 r17)(g18:zv 18 r18){many:Bool}(hI:Inv p st)(ho:st.op=0)(hm:many=true->1<=st.t.a):Fwd p st (zck r17 r18 many st).1/\(zck r17 r18 many st).1.op=st.op:=by
 unfold zck;split
 . rename_i hmm
   have h1:=Fwd.name hI;by_cases he:st.name.er=0
   . have h2:=zis g17 st.t h1.inv he (by rw[St.name_op,ho];omega) (zMO (hm hmm) h1.ta);exact⟨h1.trans h2.fwd,h2.op.trans (St.name_op _)⟩
   have hb:st.name.is 4 [40]=false:=(by have:=h1.inv.bad he;simp[St.is,this]);have e:zao r17 st.t st.name=(st.name.fail 2 st.name.t.a,0):=(by unfold zao;rw[zM1 (by rw[hb];simp)]);rw[e];exact⟨h1.trans (Fwd.fail h1.inv (by omega) (by omega) h1.inv.ok.ta_le),(St.fail_op _ _ _).trans (St.name_op _)⟩
 have h2:=g18 st p hI (by omega);exact⟨h2.fwd,h2.op⟩
theorem zkp (hI:Inv p st)(hm:st.is 4 [40]=true):1<=(zaH st).st.t.a:=by
 have he:=hI.is_ok (by omega) hm;have hk:=Inv.is_k hm;have h0:zaH st=zdH st:=by unfold zaH;rw[zM2 hm]
 rw[h0];have h1:1<=st.step.t.a:=by have:=hI.tok (by omega);rw[St.step_ok he];have hf:=zV st.src st.t.t hI.ok.tt;simp only;omega
 have e1:=Fwd.step hI;have e2:=Fwd.name e1.inv;have e3:=Fwd.must e2.inv 4 [44];have e4:=Fwd.name e3.inv;have e5:=zdO 1300 p ⟨(st.step.name.must 4 [44]).name,[st.step.t.s,(st.step.name.must 4 [44]).t.s],[st.step.t.a,(st.step.name.must 4 [44]).t.a]⟩ e4.inv;have e6:=Fwd.must e5.1.inv 4 [41];have h:=((((e2.trans e3).trans e4).trans e5.1).trans e6).ta;exact zMO h1 h
theorem za1 (g17:zv 17 r17)(g18:zv 18 r18){eqs:List Eqn}(hI:Inv p st)(ho:st.op=0):Fwd p st (zF r17 r18 st eqs).1/\(zF r17 r18 st eqs).1.op=st.op:=by
 have h1:=zfO hI;have h2:=Fwd.must h1.1.inv 4 [61];have o2:((zaH st).st.must 4 [61]).op=0:=by rw[St.must_op,h1.2.1,ho]
 have h3:=zfx g17 g18 (many:=st.is 4 [40]) h2.inv o2 (λhm=>zMO (zkp hI hm) h2.ta);have h4:=Fwd.must h3.1.inv 4 [59];refine⟨((h1.1.trans h2).trans h3.1).trans h4,?_⟩;unfold zF;simp only;rw[St.must_op,h3.2,o2,ho]
end
section
variable {f:Nat} {R:Nms} {st:St}
def zeh (st:St):Nms:=⟨(st.step.name.must 4 [44]).name,[st.step.t.s,(st.step.name.must 4 [44]).t.s],[st.step.t.a,(st.step.name.must 4 [44]).t.a]⟩
structure zrA (st:St) (R:Nms) (p:Nat):Prop where
 many:zdH st=⟨R.st.must 4 [41],R.ns,R.ps⟩
 x0:Inv p (zeh st).st
 r:Inv p R.st
 rL:R.st.L=st.L
 rop:R.st.op=st.op
 ta:1<=R.st.t.a
theorem zko (hf:f=1300)(h:zbO f (zeh st)=R):zdH st=⟨R.st.must 4 [41],R.ns,R.ps⟩:=by subst h;subst hf;rfl
theorem zkV {p:Nat}(hI:Inv p st)(hm:st.is 4 [40]=true)(hf:f=1300)(h:zbO f (zeh st)=R):zrA st R p:=by
 have he:=hI.is_ok (by omega) hm;have hk:=Inv.is_k hm;have h1:1<=st.step.t.a:=by have:=hI.tok (by omega);rw[St.step_ok he];have hf:=zV st.src st.t.t hI.ok.tt;simp only;omega
 have e1:=Fwd.step hI;have e2:=Fwd.name e1.inv;have e3:=Fwd.must e2.inv 4 [44];have e4:=Fwd.name e3.inv;have e5:=zdO f p (zeh st) e4.inv;rw[h] at e5;refine⟨zko hf h,e4.inv,e5.1.inv,?_,?_,?_⟩
 . rw[e5.2.2];unfold zeh;simp only;rw[St.name_L,St.must_L,St.name_L,St.step_L]
 . rw[e5.2.1];unfold zeh;simp only;rw[St.name_op,St.must_op,St.name_op,St.step_op]
 exact zMO h1 (((e2.trans e3).trans e4).trans e5.1).ta
theorem zjK {r17 r18:Fn}{eqs:List Eqn}(hm:st.is 4 [40]=true)(h:zdH st=⟨R.st.must 4 [41],R.ns,R.ps⟩) :
 zF r17 r18 st eqs=((zao r17 ((R.st.must 4 [41]).must 4 [61]).t ((R.st.must 4 [41]).must 4 [61]).name).1.must 4 [59],eqs++[⟨R.ns,R.ps,(R.st.must 4 [41]).t.a,(zao r17 ((R.st.must 4 [41]).must 4 [61]).t ((R.st.must 4 [41]).must 4 [61]).name).2⟩]):=by
 have h1:zaH st=⟨R.st.must 4 [41],R.ns,R.ps⟩:=by unfold zaH;rw[zM2 hm,h]
 unfold zF zck;simp only[h1];rw[zM2 hm]
end
section
variable {r17 r18:Fn} {vars:List Vr} {f p:Nat} {st:St}
structure Nd where
 nm:ByteArray
 a:Nat
 vars:List Vr
 exs:List Ex
 eqs:List Eqn
def zW:List UInt8:=[110,111,100,101]
def zi2:List UInt8:=[118,97,114]
def zbA:Nat->St×List Vr->St×List Vr
 | 0,x=>x
 | f+1,x=>if x.1.er=0/\x.1.t.k=2 then zbA f (zaR x.1 x.2) else x
def zd6 (r17 r18:Fn):Nat->St×List Eqn->St×List Eqn
 | 0,x=>x
 | f+1,x=>if x.1.er=0/\x.1.is 4 [125]=false then zd6 r17 r18 f (zF r17 r18 x.1 x.2) else x
def zaS (f:Nat)(st:St)(vars:List Vr):St×List Vr:=if st.is 5 zi2=true then zbA f (zaR st.step vars) else (st,vars)
def St.fresh (st:St):St:={ st with L:=[] }
def zaI (st:St):St×List Vr :=
 let x:=zab true (st.must 5 zW).name []
 zab false (x.1.must 4 [45,62]) x.2
def zeO (r17 r18:Fn)(f:Nat)(st:St):St×List Eqn :=
 let x:=zd6 r17 r18 f (zF r17 r18 (st.must 4 [123]) [])
 (x.1.must 4 [125],x.2)
def zei (r17 r18:Fn)(f:Nat)(st:St)(nodes:List Nd):St×List Nd :=
 if 6<=nodes.length then (st.fresh.fail 2 st.t.a,nodes)
 else
  let h:=zaI st.fresh
  let v:=zaS f h.1 h.2
  let b:=zeO r17 r18 f v.1
  (b.1,nodes++[⟨(st.fresh.must 5 zW).t.s,(st.fresh.must 5 zW).t.a,v.2,b.1.L,b.2⟩])
theorem Fwd.fresh (h:Inv p st):Inv 0 st.fresh:=by have h0:=h.ok;refine⟨⟨h0.src,h0.tt,h0.ta,h0.tn,h0.op,h0.er,h0.at',h0.tk⟩,?_,h.op1,h.op0,h.bad,h.tok⟩;simp[St.fresh]
theorem zfI (hI:Inv p st)(he:st.er=0)(hs:st.name.er=0):st.t.a+1<=st.name.t.a:=by
 by_cases hk:st.t.k=2
 . have e:st.name=st.step:=by unfold St.name;rw[zM2 hk]
   have:=hI.tok (by omega);rw[e,St.step_ok he];have hf:=zV st.src st.t.t hI.ok.tt;simp only;omega
 have e:st.name=st.fail 2 st.t.a:=by unfold St.name;rw[zM1 hk]
 rw[e] at hs;exact absurd hs (St.fail_er st (by omega))
theorem Fwd.back {a b:St}(h:Fwd p a b)(hb:b.er=0):a.er=0:=by
 by_cases he:a.er=0
 . exact he
 exact absurd hb (h.er he)
theorem zix {i o:Bool}(hI:Inv p st)(he:st.er=0)(hs:(zx i o st vars).1.er=0):st.t.a+1<=(zx i o st vars).1.t.a:=by
 unfold zx at hs ⊢;split
 . rename_i hl
   rw[zM2 hl] at hs;exact absurd hs (St.fail_er st (by omega))
 rename_i hl
 rw[zM1 hl] at hs;have h1:=Fwd.name hI;have h2:=Fwd.must h1.inv 4 [58];have h3:=Fwd.type h2.inv;simp only at hs ⊢;split
 . rename_i hc
   rw[zM2 hc] at hs;have h4:=Fwd.step h3.inv;have h5:=Fwd.nott h4.inv;have h6:=Fwd.name h5.inv;have hw:=(((h2.trans h3).trans h4).trans h5).trans h6;exact zMO (zfI hI he (hw.back hs)) hw.ta
 rename_i hc
 rw[zM1 hc] at hs;have hw:=h2.trans h3;exact zMO (zfI hI he (hw.back hs)) hw.ta
theorem zlj (hI:Inv p st)(he:st.er=0)(hs:(zaR st vars).1.er=0):st.t.a+1<=(zaR st vars).1.t.a:=by have h1:=zbI (i:=false) (o:=false) (vars:=vars) hI;have h2:=Fwd.must h1.1.inv 4 [59];exact zMO (zix hI he (h2.back hs)) h2.ta
theorem zmp (hI:Inv p st)(he:st.er=0)(hs:(zaH st).st.er=0):st.t.a+1<=(zaH st).st.t.a:=by
 unfold zaH at hs ⊢;split
 . rename_i hm
   rw[zM2 hm] at hs;have hk:=Inv.is_k hm;have h0:st.t.a+1<=st.step.t.a:=(by have:=hI.tok (by omega);rw[St.step_ok he];have hf:=zV st.src st.t.t hI.ok.tt;simp only;omega);have e1:=Fwd.step hI;have e2:=Fwd.name e1.inv;have e3:=Fwd.must e2.inv 4 [44];have e4:=Fwd.name e3.inv;have e5:=zdO 1300 p (zeh st) e4.inv;have e6:=Fwd.must e5.1.inv 4 [41];have hw:=(((e2.trans e3).trans e4).trans e5.1).trans e6;exact zMO h0 hw.ta
 rename_i hm
 rw[zM1 hm] at hs;exact zfI hI he hs
theorem ziF (g17:zv 17 r17)(g18:zv 18 r18){eqs:List Eqn}(hI:Inv p st)(ho:st.op=0)(he:st.er=0)(hs:(zF r17 r18 st eqs).1.er=0):st.t.a+1<=(zF r17 r18 st eqs).1.t.a:=by
 have h1:=zfO hI;have h2:=Fwd.must h1.1.inv 4 [61];have o2:((zaH st).st.must 4 [61]).op=0:=by rw[St.must_op,h1.2.1,ho]
 have h3:=zfx g17 g18 (many:=st.is 4 [40]) h2.inv o2 (λhm=>zMO (zkp hI hm) h2.ta);have h4:=Fwd.must h3.1.inv 4 [59];have hw:=(h2.trans h3.1).trans h4;exact zMO (zmp hI he (hw.back hs)) hw.ta
theorem ziS:∀(f p:Nat) (x:St×List Vr),Inv p x.1->Fwd p x.1 (zbA f x).1/\(zbA f x).1.op=x.1.op/\(zbA f x).1.L=x.1.L:=by
 intro f;induction f with
 | zero=>intro p x hI;exact⟨Fwd.refl hI,rfl,rfl⟩
 | succ f ih =>
   intro p x hI
   show Fwd p x.1 (if _ then _ else x).1/\(if _ then _ else x).1.op=x.1.op/\(if _ then _ else x).1.L=x.1.L;by_cases hc:x.1.er=0/\x.1.t.k=2
   . rw[zM2 hc];have h2:=zej (vars:=x.2) hI;have h3:=ih p _ h2.1.inv;exact⟨h2.1.trans h3.1,h3.2.1.trans h2.2.1,h3.2.2.trans h2.2.2⟩
   rw[zM1 hc];exact⟨Fwd.refl hI,rfl,rfl⟩
theorem zh4 (g17:zv 17 r17)(g18:zv 18 r18):∀(f p:Nat) (x:St×List Eqn),Inv p x.1->x.1.op=0->Fwd p x.1 (zd6 r17 r18 f x).1/\(zd6 r17 r18 f x).1.op=0:=by
 intro f;induction f with
 | zero=>intro p x hI ho;exact⟨Fwd.refl hI,ho⟩
 | succ f ih =>
   intro p x hI ho
   show Fwd p x.1 (if _ then _ else x).1/\(if _ then _ else x).1.op=0;by_cases hc:x.1.er=0/\x.1.is 4 [125]=false
   . rw[zM2 hc];have h2:=za1 g17 g18 (eqs:=x.2) hI ho;have h3:=ih p _ h2.1.inv (h2.2.trans ho);exact⟨h2.1.trans h3.1,h3.2⟩
   rw[zM1 hc];exact⟨Fwd.refl hI,ho⟩
theorem zeP (hI:Inv p st):Fwd p st (zaS f st vars).1/\(zaS f st vars).1.op=st.op/\(zaS f st vars).1.L=st.L:=by
 unfold zaS;split
 . have h1:=Fwd.step hI;have h2:=zej (vars:=vars) h1.inv;have h3:=ziS f p _ h2.1.inv;exact⟨(h1.trans h2.1).trans h3.1,h3.2.1.trans (h2.2.1.trans (St.step_op _)),h3.2.2.trans (h2.2.2.trans (St.step_L _))⟩
 exact⟨Fwd.refl hI,rfl,rfl⟩
theorem zit (hI:Inv p st):Fwd p st (zaI st).1/\(zaI st).1.op=st.op/\(zaI st).1.L=st.L:=by
 have h1:=Fwd.must hI 5 zW;have h2:=Fwd.name h1.inv;have h3:=zbx (i:=true) (vars:=[]) h2.inv;have h4:=Fwd.must h3.1.inv 4 [45,62];have h5:=zbx (i:=false) (vars:=(zab true (st.must 5 zW).name []).2) h4.inv;refine⟨(((h1.trans h2).trans h3.1).trans h4).trans h5.1,?_,?_⟩
 . show (zab false ((zab true (st.must 5 zW).name []).1.must 4 [45,62]) (zab true (st.must 5 zW).name []).2).1.op=_;rw[h5.2.1,St.must_op,h3.2.1,St.name_op,St.must_op]
 show (zab false ((zab true (st.must 5 zW).name []).1.must 4 [45,62]) (zab true (st.must 5 zW).name []).2).1.L=_;rw[h5.2.2,St.must_L,h3.2.2,St.name_L,St.must_L]
theorem zmn (g17:zv 17 r17)(g18:zv 18 r18)(hI:Inv p st)(ho:st.op=0):Fwd p st (zeO r17 r18 f st).1/\(zeO r17 r18 f st).1.op=0:=by
 have h1:=Fwd.must hI 4 [123];have h2:=za1 g17 g18 (eqs:=[]) h1.inv (by rw[St.must_op,ho]);have h3:=zh4 g17 g18 f p _ h2.1.inv (by rw[h2.2,St.must_op,ho]);have h4:=Fwd.must h3.1.inv 4 [125];refine⟨((h1.trans h2.1).trans h3.1).trans h4,?_⟩
 show ((zd6 r17 r18 f (zF r17 r18 (st.must 4 [123]) [])).1.must 4 [125]).op=0;rw[St.must_op,h3.2]
theorem zmW (g17:zv 17 r17)(g18:zv 18 r18){nodes:List Nd}(hI:Inv p st)(ho:st.op=0):Inv 0 (zei r17 r18 f st nodes).1/\(zei r17 r18 f st nodes).1.op=0/\st.t.a<=(zei r17 r18 f st nodes).1.t.a/\(st.er≠0->(zei r17 r18 f st nodes).1.er≠0):=by
 have h0:=Fwd.fresh hI;have hta:st.fresh.t.a=st.t.a:=rfl;have her:st.fresh.er=st.er:=rfl;have hop:st.fresh.op=0:=ho;unfold zei;split
 . have h1:=Fwd.fail h0 (e:=2) (a:=st.t.a) (by omega) (by omega) hI.ok.ta_le;exact⟨h1.inv,by rw[St.fail_op];exact hop,by have:=h1.ta;simp only;omega,λe=>h1.er (by rw[her];exact e)⟩
 have h1:=zit h0;have h2:=zeP (f:=f) (vars:=(zaI st.fresh).2) h1.1.inv;have h3:=zmn g17 g18 (f:=f) h2.1.inv (by rw[h2.2.1,h1.2.1];exact hop);have hw:=(h1.1.trans h2.1).trans h3.1;exact⟨hw.inv,h3.2,by have:=hw.ta;simp only;omega,λe=>hw.er (by rw[her];exact e)⟩
end
section
structure zo4 (r17 r18:Fn) (f:Nat) (st:St) (x3 x5 x6:St×List Vr) (x8 R:St×List Eqn):Prop where
 h3:zab true (st.fresh.must 5 zW).name []=x3
 h5:zab false (x3.1.must 4 [45,62]) x3.2=x5
 h6:zaS f x5.1 x5.2=x6
 h8:zF r17 r18 (x6.1.must 4 [123]) []=x8
 hR:zd6 r17 r18 f x8=R
structure zlN (st:St) (x3 x5 x6:St×List Vr) (x8 R:St×List Eqn):Prop where
 i0:Inv 0 st.fresh
 i1:Inv 0 (st.fresh.must 5 zW)
 i2:Inv 0 (st.fresh.must 5 zW).name
 i3:Inv 0 x3.1
 i4:Inv 0 (x3.1.must 4 [45,62])
 i5:Inv 0 x5.1
 i6:Inv 0 x6.1
 i7:Inv 0 (x6.1.must 4 [123])
 i8:Inv 0 x8.1
 iR:Inv 0 R.1
 o7:(x6.1.must 4 [123]).op=0
 o8:x8.1.op=0
 l3:x3.1.L=(st.fresh.must 5 zW).name.L
 l5:x5.1.L=(x3.1.must 4 [45,62]).L
 l6:x6.1.L=x5.1.L
theorem zkO {r17 r18:Fn}(g17:zv 17 r17)(g18:zv 18 r18){f p:Nat}{st:St}{x3 x5 x6:St×List Vr}{x8 R:St×List Eqn}(hI:Inv p st)(ho:st.op=0)(h:zo4 r17 r18 f st x3 x5 x6 x8 R):zlN st x3 x5 x6 x8 R:=by
 have i0:=Fwd.fresh hI;have i1:=(Fwd.must i0 5 zW).inv;have i2:=(Fwd.name i1).inv;have g3:=zbx (i:=true) (vars:=[]) i2;rw[h.h3] at g3;have i4:=(Fwd.must g3.1.inv 4 [45,62]).inv;have g5:=zbx (i:=false) (vars:=x3.2) i4;rw[h.h5] at g5;have g6:=zeP (f:=f) (vars:=x5.2) g5.1.inv;rw[h.h6] at g6;have i7:=(Fwd.must g6.1.inv 4 [123]).inv;have o7:(x6.1.must 4 [123]).op=0:=by rw[St.must_op,g6.2.1,g5.2.1,St.must_op,g3.2.1,St.name_op,St.must_op];exact ho
 have g8:=za1 g17 g18 (eqs:=[]) i7 o7;rw[h.h8] at g8;have o8:x8.1.op=0:=by rw[g8.2,o7]
 have gR:=zh4 g17 g18 f 0 x8 g8.1.inv o8;rw[h.hR] at gR;exact⟨i0,i1,i2,g3.1.inv,i4,g5.1.inv,g6.1.inv,i7,g8.1.inv,gR.1.inv,o7,o8,g3.2.2,g5.2.2,g6.2.2⟩
end
end Go.Proofs.YtenadialhccdiaaGreatDoor
