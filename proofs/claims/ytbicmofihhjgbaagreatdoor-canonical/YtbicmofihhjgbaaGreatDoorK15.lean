/- Part 16 of the proof. -/
import Derived.Carry
import Derived.Deep.MidRow
import Derived.LaidEql
import Derived.RowKitTokens
import Derived.Stop.Asserts
import Derived.Test.YtbicmofihhjgbaaGreatDoorK14
set_option maxRecDepth 100000
set_option maxHeartbeats 8000000
namespace Go.Proofs.YtbicmofihhjgbaaGreatDoor
open Go.Proofs.Tryz
section
variable {M atm part rx:Fn} {L L':List Ex} {ts us vs:List Tm} {a b c d lv:Nat} {st:St} {t:Tm}
mutual
def zHu:Tm->List Tm
 | .mk k a s nm n ts=>zHt ts++[.mk k a s nm n ts]
def zHt:List Tm->List Tm
 | []=>[]
 | t::l=>zHu t++zHt l
end
theorem zKH (ts:List Tm)(t:Tm):zHt (ts++[t])=zHt ts++zHu t:=by
 induction ts with
 | nil=>rw[List.nil_append,zHt,zHt,zHt,List.append_nil,List.nil_append]
 | cons u ts ih=>rw[List.cons_append,zHt,ih,zHt,zMQ]
def Po (L:List Ex)(a:Nat)(us:List Tm):Prop:=∀(i:Nat) (u:Tm),us[i]?=some u->zeA (L.take (a+i+1)) (a+i) u
theorem zLk (hp:L <+: L')(m:Nat):L.take m <+: L'.take m:=by obtain⟨E,rfl⟩:=hp;rw[List.take_append];exact List.prefix_append _ _
theorem Po.nil (L:List Ex)(a:Nat):Po L a []:=λi u h=>by simp at h
theorem Po.more (hp:L <+: L')(h:Po L a us):Po L' a us:=λi u hu=>zAz (zLk hp _) (h i u hu)
theorem Po.app (h:Po L a us)(h':Po L (a+us.length) vs):Po L a (us++vs):=λi u hu=>by
 by_cases hi:i<us.length
 . rw[zM6 hi] at hu;exact h i u hu
 rw[zM5 (by omega)] at hu;have:=h' _ u hu;rw[show a+us.length+(i-us.length)=a+i by omega] at this;exact this
structure zHx (L:List Ex) (a b:Nat) (us:List Tm):Prop where
 len:a+us.length=b
 po:Po L a us
theorem zHx.nil (L:List Ex)(a:Nat):zHx L a a []:=⟨rfl,Po.nil L a⟩
theorem zHx.more (hp:L <+: L')(h:zHx L a b us):zHx L' a b us:=⟨h.len,h.po.more hp⟩
theorem zHx.app (h:zHx L a b us)(h':zHx L b c vs):zHx L a c (us++vs) :=
 ⟨by have:=h.len;have:=h'.len;rw[zMM];omega,h.po.app (by rw[h.len];exact h'.po)⟩
theorem zHx.one (h:zHx L a b (zHu t)):zHx L a b (zHt [t]):=by rw[zHt,zHt,List.append_nil];exact h
theorem zHx.snoc (h:zHx L a b (zHt ts))(h':zHx L b c (zHu t)):zHx L a c (zHt (ts++[t])):=by rw[zKH];exact h.app h'
structure zIg (st:St) (r:St×Nat):Prop where
 er0:st.er=0
 op:r.1.op=st.op
 pre:st.L <+: r.1.L
 tr:∃t,zeA r.1.L r.2 t/\zHx r.1.L st.L.length r.1.L.length (zHu t)
 nx:r.2+1=r.1.L.length
def PoD (d:Nat)(M:Fn):Prop:=∀st,Cd' d st->(M st).1.er=0->zIg st (M st)
theorem zHG {s1:St}{e:Ex}(he:st.er=0)(ho:s1.op=st.op)(hp:st.L <+: s1.L)(ht:Trs s1.L e.ins ts)(hv:zHx s1.L st.L.length s1.L.length (zHt ts)):zIg st (s1.put e):=by
 have hL:(s1.put e).1.L=s1.L++[e]:=rfl;have hT:zeA (s1.L++[e]) s1.L.length (.mk (zag e.op.toList e.n) e.a e.s e.nm (zbF e.op.toList e.n) ts):=by refine .mk s1.L.length e ts ?_ ht.1 (λi y t h1 h2=>zAz (List.prefix_append _ _) (ht.2 i y t h1 h2));rw[zM5 (zMK _),Nat.sub_self];rfl
 refine⟨he,ho,by rw[hL];exact hp.trans (List.prefix_append _ _),⟨.mk (zag e.op.toList e.n) e.a e.s e.nm (zbF e.op.toList e.n) ts,by rw[hL];exact hT,?_⟩,by rw[hL,zMM];rfl⟩;rw[hL,zHu,zMM,List.length_singleton];refine (hv.more (List.prefix_append _ _)).app ⟨rfl,λi u hu=>?_⟩
 match i,hu with
 | 0,hu=>cases hu;rw[zMU (by rw[zMM];simp)];exact hT
theorem Cd'.nextP (hM:PoD d M)(h:Cd' d st):Cd' d (M st).1:=λhe=>by have o:=hM st h he;rw[o.op];exact h o.er0
theorem zJP (hp:PoD d part)(st:St):∀(f:Nat) (x:St×Nat),Cd' d x.1->(x.1.er=0->zIg st x)->(zdq lv part f x).1.er=0->zIg st (zdq lv part f x)
 | 0,_,_,h,he=>h he
 | f+1,x,hc,h,he=>by
   unfold zdq at he ⊢;split
   . rename_i hl
     rw[zM2 hl] at he;have o:=h hl.1;refine zJP hp st f _ ?_ (λe1=>?_) he
     . exact Cd'.nextP hp hc.step
     have o2:=hp _ hc.step e1;obtain⟨t1,q1,v1⟩:=o.tr;obtain⟨t2,q2,v2⟩:=o2.tr;have pL:x.1.L <+: (part x.1.step).1.L:=(by have:=o2.pre;rw[St.step_L] at this;exact this);rw[St.step_L] at v2;refine zHG (ts:=[t1,t2]) o.er0 (by rw[o2.op,St.step_op,o.op]) (o.pre.trans pL) (((Trs.one q1).more pL).snoc q2) ?_;exact ((zHx.one v1).more pL).snoc v2
   rename_i hl
   rw[zM1 hl] at he;exact h he
theorem zIH (hp:PoD d part):PoD d (zcT lv part):=λst hc he=>zJP hp st 1300 _ (Cd'.nextP hp hc) (λe=>hp st hc e) he
theorem zLF {sum:Fn}(hs:PoD d sum):PoD d (zdJ sum):=by
 intro st hc he;unfold zdJ at he ⊢;simp only at he ⊢;split
 . rename_i hl
   rw[zM2 hl] at he;have o:=hs st hc hl.1;have o2:=hs _ (Cd'.nextP hs hc).step he;obtain⟨t1,q1,v1⟩:=o.tr;obtain⟨t2,q2,v2⟩:=o2.tr;have pL:(sum st).1.L <+: (sum (sum st).1.step).1.L:=(by have:=o2.pre;rw[St.step_L] at this;exact this);rw[St.step_L] at v2;refine zHG (ts:=[t1,t2]) o.er0 (by rw[o2.op,St.step_op,o.op]) (o.pre.trans pL) (((Trs.one q1).more pL).snoc q2) ?_;exact ((zHx.one v1).more pL).snoc v2
 rename_i hl
 rw[zM1 hl] at he;exact hs st hc he
theorem zIg.inner {r:St×Nat}(h:zIg st.enter r):st.er=0/\r.1.leave.op=st.op/\st.L <+: r.1.leave.L/\r.2+1=r.1.leave.L.length/\∃t,zeA r.1.leave.L r.2 t/\zHx r.1.leave.L st.L.length r.1.leave.L.length (zHu t):=by have h1:=(zzd h.er0).1;have hp:=h.pre;obtain⟨t,q,v⟩:=h.tr;rw[St.enter_L] at hp v;exact⟨h1,by rw[St.leave_op,h.op,St.enter_op];omega,by rw[St.leave_L];exact hp,by rw[St.leave_L];exact h.nx,t,by rw[St.leave_L];exact q,by rw[St.leave_L];exact v⟩
theorem zK2 {ru smp:Fn}(hr:PoD d ru)(hs:PoD (d+1) smp):PoD (d+1) (zdn ru smp):=by
 intro st hc he;unfold zdn at he ⊢;split
 . rename_i hl
   rw[zM2 hl] at he;obtain⟨h1,h2,h3,_,t,q,v⟩:=(hr _ hc.enter he).inner;exact zHG (ts:=[t]) h1 h2 h3 (Trs.one q) v.one
 rename_i hl
 rw[zM1 hl] at he;exact hs st hc he
theorem zIu (st:St):∀(f:Nat) (x:St×Nat),Cd' d x.1->(x.1.er=0->zIg st x)->(zaY f x).1.er=0->zIg st (zaY f x)
 | 0,_,_,h,he=>h he
 | f+1,x,hc,h,he=>by
   unfold zaY at he ⊢;split
   . rename_i hl
     rw[zM2 hl] at he;have o:=h hl.1;refine zIu st f _ (hc.step.name) (λ_=>?_) he;obtain⟨t1,q1,v1⟩:=o.tr;have eL:x.1.step.name.L=x.1.L:=(by rw[St.name_L,St.step_L]);refine zHG (ts:=[t1]) o.er0 (by rw[St.name_op,St.step_op,o.op]) (by rw[eL];exact o.pre) (by rw[eL];exact Trs.one q1) ?_;rw[eL];exact v1.one
   rename_i hl
   rw[zM1 hl] at he;exact h he
theorem zJ5 (ha:PoD d atm):PoD d (zfu atm):=λst hc he=>zIu st 1300 _ (Cd'.nextP ha hc) (λe=>ha st hc e) he
theorem zIz (op:Xb)(n:Nat):PoD d (zdP op n):=by intro st hc he;have h1:st.er=0:=(zbu.step st).back he;have eL:st.step.L=st.L:=st.step_L;exact zHG (ts:=[]) h1 st.step_op (by rw[eL];exact List.prefix_refl _) (Trs.nil _) (by rw[eL];exact zHx.nil _ _)
theorem zKt:PoD d zjx:=by intro st hc he;have h1:st.er=0:=(zbu.step st).back he;have eL:st.step.L=st.L:=st.step_L;exact zHG (ts:=[]) h1 st.step_op (by rw[eL];exact List.prefix_refl _) (Trs.nil _) (by rw[eL];exact zHx.nil _ _)
theorem zLB (ha:PoD d atm):PoD d (zch atm):=by
 intro st hc he;unfold zch at he ⊢;split
 . rename_i hl
   rw[zM2 hl] at he;exact ha st hc he
 rename_i hl
 rw[zM1 hl] at he;exact zKt (d:=d) st hc he
structure zKE (st:St) (x:St×List Nat):Prop where
 er0:st.er=0
 op:x.1.op=st.op
 pre:st.L <+: x.1.L
 tr:∃ts,Trs x.1.L x.2 ts/\zHx x.1.L st.L.length x.1.L.length (zHt ts)
theorem zJj (hr:PoD d rx)(st:St):∀(f:Nat) (x:St×List Nat),Cd' d x.1->(x.1.er=0->zKE st x)->(zc1 rx f x).1.er=0->zKE st (zc1 rx f x)
 | 0,_,_,h,he=>h he
 | f+1,x,hc,h,he=>by
   unfold zc1 at he ⊢;split
   . rename_i hl
     rw[zM2 hl] at he;have o:=h hl.1;refine zJj hr st f _ (Cd'.nextP hr hc.step) (λe1=>?_) he;have o2:=hr _ hc.step e1;obtain⟨ts,q1,v1⟩:=o.tr;obtain⟨t2,q2,v2⟩:=o2.tr;have pL:x.1.L <+: (rx x.1.step).1.L:=(by have:=o2.pre;rw[St.step_L] at this;exact this);rw[St.step_L] at v2;exact⟨o.er0,by show (rx x.1.step).1.op=_;rw[o2.op,St.step_op,o.op],o.pre.trans pL,ts++[t2],(q1.more pL).snoc q2,(v1.more pL).snoc v2⟩
   rename_i hl
   rw[zM1 hl] at he;exact h he
theorem zLA (hr:PoD d rx)(hc:Cd' d st)(he:(zbG rx st).1.er=0):zKE st (zbG rx st):=by refine zJj hr st 1300 _ (Cd'.nextP hr hc) (λe=>?_) he;have o:=hr st hc e;obtain⟨t,q,v⟩:=o.tr;exact⟨o.er0,o.op,o.pre,[t],Trs.one q,v.one⟩
theorem zJX (hr:PoD d rx)(t:Tk):PoD (d+1) (zao rx t):=by
 intro st hc he;unfold zao at he ⊢;split
 . rename_i hl
   rw[zM2 hl] at he;simp only at he ⊢;have h1:(zbG rx st.enter).1.er=0:=(zbu.must _ 4 [41]).back he;have o:=zLA hr hc.enter h1;obtain⟨ts,q,v⟩:=o.tr;have hp:=o.pre;have eL:(((zbG rx st.enter).1.must 4 [41]).leave).L=(zbG rx st.enter).1.L:=(by rw[St.leave_L,St.must_L]);rw[St.enter_L] at hp v;exact zHG (ts:=ts) (zzd o.er0).1 (by rw[St.leave_op,St.must_op,o.op,St.enter_op];omega) (by rw[eL];exact hp) (by rw[eL];exact q) (by rw[eL];exact v)
 rename_i hl
 rw[zM1 hl] at he;exact absurd he (zzP _ _)
theorem zKO (hr:PoD d rx):PoD (d+1) (zdx rx):=by
 intro st hc he;have he':(rx ((rx ((rx st.enter).1.must 5 [116,104,101,110])).1.must 5 [101,108,115,101])).1.er=0:=he;have c1:=Cd'.nextP hr hc.enter;have c2:=c1.must 5 [116,104,101,110];have c3:=(Cd'.nextP hr c2).must 5 [101,108,115,101];have o3:=hr _ c3 he';have o2:=hr _ c2 ((zbu.must _ 5 [101,108,115,101]).back o3.er0);have o1:=hr _ hc.enter ((zbu.must _ 5 [116,104,101,110]).back o2.er0);obtain⟨t1,q1,v1⟩:=o1.tr;obtain⟨t2,q2,v2⟩:=o2.tr;obtain⟨t3,q3,v3⟩:=o3.tr;have p1:=o1.pre;have p2:=o2.pre;have p3:=o3.pre;rw[St.enter_L] at p1 v1;rw[St.must_L] at p2 v2 p3 v3;unfold zdx;simp only;refine zHG (ts:=[t1,t2,t3]) (zzd o1.er0).1 ?_ ?_ ?_ ?_
 . rw[St.leave_op,o3.op,St.must_op,o2.op,St.must_op,o1.op,St.enter_op];omega
 . rw[St.leave_L];exact (p1.trans p2).trans p3
 . rw[St.leave_L];exact ((((Trs.one q1).more p2).snoc q2).more p3).snoc q3
 rw[St.leave_L];exact ((((zHx.one v1).more p2).snoc v2).more p3).snoc v3
theorem zKX (ha:PoD d atm):PoD (d+1) (zeE atm):=by
 intro st hc he;have he':(zch atm (zch atm st.enter.name).1).1.er=0:=he;have hs:=zLB ha;have c1:=hc.enter.name;have o2:=hs _ (Cd'.nextP hs c1) he';have o1:=hs _ c1 o2.er0;obtain⟨t1,q1,v1⟩:=o1.tr;obtain⟨t2,q2,v2⟩:=o2.tr;have p1:=o1.pre;rw[St.name_L,St.enter_L] at p1 v1;unfold zeE;simp only;refine zHG (ts:=[t1,t2]) (zzd ((zbu.name _).back o1.er0)).1 ?_ ?_ ?_ ?_
 . rw[St.leave_op,o2.op,o1.op,St.name_op,St.enter_op];omega
 . rw[St.leave_L];exact p1.trans o2.pre
 . rw[St.leave_L];exact ((Trs.one q1).more o2.pre).snoc q2
 rw[St.leave_L];exact ((zHx.one v1).more o2.pre).snoc v2
theorem zKY (hr:PoD d rx):PoD (d+1) (zfQ rx):=by
 intro st hc he;have h1:(rx st.enter).1.er=0:=(zbu.must _ 4 [41]).back he;have o:=hr _ hc.enter h1;obtain⟨t,q,v⟩:=o.tr;have hp:=o.pre;have eL:(((rx st.enter).1.must 4 [41]).leave).L=(rx st.enter).1.L:=by rw[St.leave_L,St.must_L]
 rw[St.enter_L] at hp v;exact⟨(zzd o.er0).1,by show (((rx st.enter).1.must 4 [41]).leave).op=_;rw[St.leave_op,St.must_op,o.op,St.enter_op];omega,by show _ <+: (((rx st.enter).1.must 4 [41]).leave).L;rw[eL];exact hp,⟨t,by show zeA (((rx st.enter).1.must 4 [41]).leave).L _ t;rw[eL];exact q,by show zHx (((rx st.enter).1.must 4 [41]).leave).L _ (((rx st.enter).1.must 4 [41]).leave).L.length _;rw[eL];exact v⟩,by show _=(((rx st.enter).1.must 4 [41]).leave).L.length;rw[eL];exact o.nx⟩
theorem zKW (h:PoD d M)(hc:Cd' d st)(he:(M st.step).1.er=0):zIg st (M st.step):=by have o:=h _ hc.step he;have hp:=o.pre;obtain⟨t,q,v⟩:=o.tr;rw[St.step_L] at hp v;exact⟨(zbu.step st).back o.er0,by rw[o.op,St.step_op],hp,⟨t,q,v⟩,o.nx⟩
theorem zLu {ra:Fn}(hr:PoD d rx)(ha:PoD d ra):PoD (d+1) (zap rx ra):=by
 intro st hc he;unfold zap at he ⊢;by_cases h0:st.er≠0
 . rw[zM2 h0] at he;exact absurd he h0
 rw[zM1 h0] at he ⊢;by_cases h1:st.t.k=3
 . rw[zM2 h1] at he ⊢;exact zIz zcq _ st hc he
 rw[zM1 h1] at he ⊢;by_cases h2:st.t.k=2
 . rw[zM2 h2] at he ⊢;by_cases h3:st.step.is 4 [40]=true
   . rw[zM2 h3] at he ⊢;exact zKW (zJX hr st.t) hc he
   rw[zM1 h3] at he ⊢;exact zKt st hc he
 rw[zM1 h2] at he ⊢;by_cases h4:st.is 4 [40]=true
 . rw[zM2 h4] at he ⊢;exact zKY hr st hc he
 rw[zM1 h4] at he ⊢;by_cases h5:st.is 5 [116,114,117,101]=true
 . rw[zM2 h5] at he ⊢;exact zIz zcb 1 st hc he
 rw[zM1 h5] at he ⊢;by_cases h6:st.is 5 [102,97,108,115,101]=true
 . rw[zM2 h6] at he ⊢;exact zIz zcb 0 st hc he
 rw[zM1 h6] at he ⊢;by_cases h7:st.is 5 [105,102]=true
 . rw[zM2 h7] at he ⊢;exact zKO hr st hc he
 rw[zM1 h7] at he ⊢;by_cases h8:st.is 5 [109,101,114,103,101]=true
 . rw[zM2 h8] at he ⊢;exact zKX ha st hc he
 rw[zM1 h8] at he;exact absurd he (zzP _ _)
theorem zLz {eith:Fn}(hr:PoD d rx)(hE:PoD (d+1) eith):PoD (d+1) (zgk rx eith):=by
 intro st hc he;unfold zgk at he ⊢;simp only at he ⊢;split
 . rename_i hl
   rw[zM2 hl] at he;have o:=hE st hc hl.1;obtain⟨t1,q1,v1⟩:=o.tr;obtain⟨_,h2,h3,_,t2,q2,v2⟩:=(hr _ (Cd'.nextP hE hc).enter he).inner;refine zHG (ts:=[t1,t2]) o.er0 (by rw[h2,o.op]) (o.pre.trans h3) (((Trs.one q1).more h3).snoc q2) ?_;exact ((zHx.one v1).more h3).snoc v2
 rename_i hl
 rw[zM1 hl] at he;exact hE st hc he
theorem zJe:∀d:Nat,PoD d (lev d).ex/\PoD d (lev d).un/\PoD d (lev d).at'
 | 0=>by
   have h:∀st:St,Cd' 0 st->st.er=0->zIg st (st,0):=λst hc he=>by have:=hc he;omega
   exact⟨λst hc he=>h st hc he,λst hc he=>h st hc he,λst hc he=>h st hc he⟩
 | d+1=>by obtain⟨h1,h2,h3⟩:=zJe d;have ha:PoD (d+1) (zap (lev d).ex (lev d).at'):=zLu h1 h3;have hu:PoD (d+1) (zdn (lev d).un (zfu (zap (lev d).ex (lev d).at'))):=zK2 h2 (zJ5 ha);exact⟨zLz h1 (zIH (zIH (zLF (zIH (zIH hu))))),hu,ha⟩
end
section
variable {r17 r18:Fn} {L:List Ex}
def zHC (L:List Ex):Nat->List Eqn->List Qn->Nat->Prop
 | a,[],qs,b=>qs=[]/\a=b
 | a,q::l,qs,b=>∃q' l' c,qs=q'::l'/\zrJ L q q'/\zHx L a c (zHu q'.r)/\q.ex+1=c/\zHC L c l l' b
theorem zHC.more {L':List Ex}(hp:L <+: L'):∀{l:List Eqn} {a b:Nat} {qs:List Qn},zHC L a l qs b->zHC L' a l qs b:=by
 intro l;induction l with
 | nil=>intro a b qs h;exact h
 | cons q l ih => rintro a b qs ⟨q',l',c,rfl,h1,h2,h3,h4⟩;exact⟨q',l',c,rfl,⟨h1.ns,h1.ps,h1.a,zAz hp h1.r⟩,h2.more hp,h3,ih h4⟩
theorem zHC.snoc {q:Eqn}{q':Qn}{b c:Nat}(hq:zrJ L q q')(hs:zHx L b c (zHu q'.r))(hx:q.ex+1=c):∀{l:List Eqn} {a:Nat} {qs:List Qn},zHC L a l qs b->zHC L a (l++[q]) (qs++[q']) c:=by
 intro l;induction l with
 | nil=>rintro a qs ⟨rfl,rfl⟩;exact⟨q',[],c,rfl,hq,hs,hx,rfl,rfl⟩
 | cons e l ih => rintro a qs ⟨e',l',d,rfl,h1,h2,h3,h4⟩;exact⟨e',l'++[q'],d,rfl,h1,h2,h3,ih h4⟩
theorem zHC.qns:∀{l:List Eqn} {a b:Nat} {qs:List Qn},zHC L a l qs b->zge L l qs:=by
 intro l;induction l with
 | nil=>rintro a b qs ⟨rfl,_⟩;rfl
 | cons e l ih => rintro a b qs ⟨e',l',d,rfl,h1,_,_,h4⟩;exact⟨e',l',rfl,h1,ih h4⟩
def SQP (L:List Ex)(eqs:List Eqn):Prop:=∃qs,zHC L 0 eqs qs L.length
theorem zIL (s17:PoD 17 r17)(s18:PoD 18 r18){st:St}{eqs:List Eqn}{p:Nat}(hI:Inv p st)(ho:st.op=0)(h:SQP st.L eqs)(hn:(zF r17 r18 st eqs).1.er=0):SQP (zF r17 r18 st eqs).1.L (zF r17 r18 st eqs).2:=by
 obtain⟨gl,g2,g3⟩:=zfO hI;have hi2:=(Fwd.must gl.inv 4 [61]).inv;have o2:((zaH st).st.must 4 [61]).op=0:=by rw[St.must_op,g2,ho]
 have L2:((zaH st).st.must 4 [61]).L=st.L:=by rw[St.must_L,g3]
 have he:(zck r17 r18 (st.is 4 [40]) ((zaH st).st.must 4 [61])).1.er=0:=(zbu.must _ 4 [59]).back hn;obtain⟨s2,hs2⟩:∃s2,(zaH st).st.must 4 [61]=s2:=⟨_,rfl⟩;rw[hs2] at hi2 o2 L2 he;have eE:zF r17 r18 st eqs=((zck r17 r18 (st.is 4 [40]) s2).1.must 4 [59],eqs++[⟨(zaH st).ns,(zaH st).ps,(zaH st).st.t.a,(zck r17 r18 (st.is 4 [40]) s2).2⟩]):=by unfold zF;simp only;rw[hs2]
 have key:∃t,zeA (zck r17 r18 (st.is 4 [40]) s2).1.L (zck r17 r18 (st.is 4 [40]) s2).2 t/\zHx (zck r17 r18 (st.is 4 [40]) s2).1.L st.L.length (zck r17 r18 (st.is 4 [40]) s2).1.L.length (zHu t)/\st.L <+: (zck r17 r18 (st.is 4 [40]) s2).1.L/\(zck r17 r18 (st.is 4 [40]) s2).2+1=(zck r17 r18 (st.is 4 [40]) s2).1.L.length:=by
  unfold zck at he ⊢;split
  . rename_i hm
    rw[zM2 hm] at he;have hc:Cd' 18 s2.name:=λ_=>by rw[St.name_op,o2];omega
    obtain⟨_,_,k3,⟨t,k4,k5⟩,k6⟩:=zJX s17 s2.t s2.name hc he;rw[St.name_L,L2] at k3 k5;exact⟨t,k4,k5,k3,k6⟩
  rename_i hm
  rw[zM1 hm] at he;have hc:Cd' 18 s2:=λ_=>by rw[o2];omega
  obtain⟨_,_,k3,⟨t,k4,k5⟩,k6⟩:=s18 s2 hc he;rw[L2] at k3 k5;exact⟨t,k4,k5,k3,k6⟩
 obtain⟨t,k1,k2,k3,k4⟩:=key;obtain⟨qs,q1⟩:=h;rw[eE];refine⟨qs++[⟨(zaH st).ns,(zaH st).ps,(zaH st).st.t.a,t⟩],?_⟩
 show zHC ((zck r17 r18 (st.is 4 [40]) s2).1.must 4 [59]).L 0 (eqs++[⟨(zaH st).ns,(zaH st).ps,(zaH st).st.t.a,(zck r17 r18 (st.is 4 [40]) s2).2⟩]) _ ((zck r17 r18 (st.is 4 [40]) s2).1.must 4 [59]).L.length;rw[St.must_L];exact (q1.more k3).snoc ⟨rfl,rfl,rfl,k1⟩ k2 k4
theorem zKs (s17:PoD 17 r17)(s18:PoD 18 r18)(g17:zv 17 r17)(g18:zv 18 r18):∀(f p:Nat) (x:St×List Eqn),Inv p x.1->x.1.op=0->(x.1.er=0->SQP x.1.L x.2)->(zb5 r17 r18 f x).1.er=0->SQP (zb5 r17 r18 f x).1.L (zb5 r17 r18 f x).2
 | 0,_,_,_,_,h,hn=>h hn
 | f+1,p,x,hI,ho,h,hn=>by
   by_cases hc:x.1.t.k=2∨x.1.is 4 [40]=true
   . have e:zb5 r17 r18 (f+1) x=zb5 r17 r18 f (zF r17 r18 x.1 x.2):=(by rw[zb5,zM2 hc]);rw[e] at hn ⊢;obtain⟨gF,gO⟩:=za1 g17 g18 (eqs:=x.2) hI ho;exact zKs s17 s18 g17 g18 f p _ gF.inv (by rw[gO];exact ho) (λhe=>zIL s17 s18 hI ho (h (gF.back he)) he) hn
   have e:zb5 r17 r18 (f+1) x=x:=(by rw[zb5,zM1 hc]);rw[e] at hn ⊢;exact h hn
def NdP (d:Nd):Prop:=SQP d.exs d.eqs/\d.exs.length<=1201
theorem zJV (s17:PoD 17 r17)(s18:PoD 18 r18)(g17:zv 17 r17)(g18:zv 18 r18)(f p:Nat)(st:St)(hI:Inv p st)(ho:st.op=0)(hn:(zax r17 r18 f st).1.er=0):NdP (zax r17 r18 f st).2:=by
 have i0:=Fwd.fresh hI;have gh:=zit i0;have gv:=zeP (f:=f) (vars:=(zaI st.fresh).2) gh.1.inv;have g1:=Fwd.must gv.1.inv 4 [123];have o1:((zaS f (zaI st.fresh).1 (zaI st.fresh).2).1.must 4 [123]).op=0:=by rw[St.must_op,gv.2.1,gh.2.1];exact ho
 have L1:((zaS f (zaI st.fresh).1 (zaI st.fresh).2).1.must 4 [123]).L=[]:=by rw[St.must_L,gv.2.2,gh.2.2];rfl
 obtain⟨V,hV⟩:∃V,zaS f (zaI st.fresh).1 (zaI st.fresh).2=V:=⟨_,rfl⟩;rw[hV] at g1 o1 L1;have e:zax r17 r18 f st=((zdr r17 r18 f V.1).1,⟨(st.fresh.must 5 zW).t.s,(st.fresh.must 5 zW).t.a,V.2,(zdr r17 r18 f V.1).1.L,(zdr r17 r18 f V.1).2⟩):=by unfold zax;simp only;rw[hV]
 rw[e] at hn ⊢;obtain⟨gF,gO⟩:=za1 g17 g18 (eqs:=[]) g1.inv o1;have gE:=zfZ g17 g18 f _ (zF r17 r18 (V.1.must 4 [123]) []) gF.inv (by rw[gO];exact o1);have gM:=Fwd.must gE.1.inv 4 [125];have h2:(zb5 r17 r18 f (zF r17 r18 (V.1.must 4 [123]) [])).1.er=0:=(zbu.must _ 4 [125]).back hn;have hs:=zKs s17 s18 g17 g18 f _ _ gF.inv (by rw[gO];exact o1) (λhe=>zIL s17 s18 g1.inv o1 ⟨[],by rw[L1];exact⟨rfl,rfl⟩⟩ he) h2;have eL:(zdr r17 r18 f V.1).1.L=(zb5 r17 r18 f (zF r17 r18 (V.1.must 4 [123]) [])).1.L:=St.must_L _ _ _;refine⟨?_,?_⟩
 . show SQP (zdr r17 r18 f V.1).1.L _;rw[eL];exact hs
 show (zdr r17 r18 f V.1).1.L.length<=1201;have h3:=gM.inv.pot;have h4:=gM.inv.ok.ta_le;have h5:(zdr r17 r18 f V.1).1=(zb5 r17 r18 f (zF r17 r18 (V.1.must 4 [123]) [])).1.must 4 [125]:=rfl;rw[h5];split at h3 <;> omega
theorem zJl (s17:PoD 17 r17)(s18:PoD 18 r18)(g17:zv 17 r17)(g18:zv 18 r18)(g:Nat):∀(f p:Nat) (x:St×List Nd),Inv p x.1->x.1.op=0->(∀nd∈x.2,NdP nd)->(zdZ r17 r18 g f x).1.er=0->(∀nd∈(zdZ r17 r18 g f x).2,NdP nd)
 | 0,_,_,_,_,h,_=>h
 | f+1,p,x,hI,ho,h,hn=>by
   by_cases hc:x.1.is 5 zW=true/\x.2.length<6
   . have e:zdZ r17 r18 g (f+1) x=zdZ r17 r18 g f ((zax r17 r18 g x.1).1,x.2++[(zax r17 r18 g x.1).2]):=(by rw[zdZ,zM2 hc]);rw[e] at hn ⊢;obtain⟨i1,o1⟩:=zzR g17 g18 g p x.1 hI ho;have h1:(zax r17 r18 g x.1).1.er=0:=by
      by_cases h2:(zax r17 r18 g x.1).1.er=0
      . exact h2
      rw[zze i1 h2] at hn;exact absurd hn h2
     refine zJl s17 s18 g17 g18 g f 0 _ i1 o1 (λnd hnd=>?_) hn;rcases zzv hnd with hnd|rfl
     . exact h nd hnd
     exact zJV s17 s18 g17 g18 g p x.1 hI ho h1
   have e:zdZ r17 r18 g (f+1) x=x:=(by rw[zdZ,zM1 hc]);rw[e];exact h
theorem zLj (s17:PoD 17 r17)(s18:PoD 18 r18)(g17:zv 17 r17)(g18:zv 18 r18)(g:Nat)(s:Xb)(hI:Inv 0 (⟨s,zZ s 0,0,0,0,[]⟩:St))(hn:(zgo r17 r18 g s).1.er=0):∀nd∈(zgo r17 r18 g s).2,NdP nd:=by
 have h1:(zdZ r17 r18 g g ((zax r17 r18 g ⟨s,zZ s 0,0,0,0,[]⟩).1,[(zax r17 r18 g ⟨s,zZ s 0,0,0,0,[]⟩).2])).1.er=0:=(zzQ _).back hn;obtain⟨i1,o1⟩:=zzR g17 g18 g 0 ⟨s,zZ s 0,0,0,0,[]⟩ hI rfl;have h2:(zax r17 r18 g ⟨s,zZ s 0,0,0,0,[]⟩).1.er=0:=by
  by_cases h3:(zax r17 r18 g ⟨s,zZ s 0,0,0,0,[]⟩).1.er=0
  . exact h3
  rw[zze i1 h3] at h1;exact absurd h1 h3
 refine zJl s17 s18 g17 g18 g g 0 _ i1 o1 (λnd hnd=>?_) h1;rw[zMZ.1 hnd];exact zJV s17 s18 g17 g18 g 0 _ hI rfl h2
end
section
def Nod.terms (n:Nod):List Tm:=n.eqs.flatMap λq=>zaV za5 q.r
def vzQ (qs:List Qn):Nat:=(qs.map λq=>vz q.r).sum
def NdZ (d:Nd):Prop:=(∃qs,zge d.exs d.eqs qs/\vzQ qs<=d.exs.length)/\d.exs.length<=1201
theorem zLt:∀t:Tm,(zHu t).length=vz t:=by
 intro t;induction t using Tm.ind with
 | h k a s nm n ts ih =>
   have hl:∀l:List Tm,(∀t∈l,(zHu t).length=vz t)->(zHt l).length=vzL l:=by
    intro l;induction l with
    | nil=>intro _;rw[zHt];rfl
    | cons t l ih2=>intro h;rw[zHt,zMM,zys,h t (zMS ..),ih2 (λt ht=>h t (zMX _ ht))]
   rw[zHu,zBn,zMM,hl ts ih];simp;omega
theorem zK7 {d:Nd}(h:NdP d):NdZ d:=by
 obtain⟨⟨qs,hq⟩,h2⟩:=h;have key:∀{l:List Eqn} {a b:Nat} {qs:List Qn},zHC d.exs a l qs b->a+vzQ qs=b:=by
  intro l;induction l with
  | nil=>rintro a b qs ⟨rfl,rfl⟩;rfl
  | cons q l ih => rintro a b qs ⟨q',l',c,rfl,_,h2,_,h4⟩;have:=ih h4;have:=h2.len;rw[zLt] at this;unfold vzQ at *;rw[List.map_cons,List.sum_cons];omega
 exact⟨⟨qs,hq.qns,by have:=key hq;omega⟩,h2⟩
theorem zF1:∀{l:List Nd},(∀d∈l,NdZ d)->∃ns,ze5 l ns/\∀n∈ns,n.terms.length<=1201:=by
 intro l;induction l with
 | nil=>intro _;exact⟨[],rfl,λn h=>by cases h⟩
 | cons d l ih =>
   intro h;obtain⟨ns,h1,h2⟩:=ih (λd hd=>h d (zMX _ hd));obtain⟨⟨qs,q1,q2⟩,q3⟩:=h d (zMS ..);refine⟨⟨d.nm,d.a,d.vars,d.ins,d.outs,qs⟩::ns,⟨_,ns,rfl,⟨rfl,rfl,rfl,rfl,rfl,q1⟩,h1⟩,λn hn=>?_⟩;rcases zNa.1 hn with rfl|hn
   . have:(Nod.terms ⟨d.nm,d.a,d.vars,d.ins,d.outs,qs⟩).length=vzQ qs:=by unfold Nod.terms vzQ;rw[List.length_flatMap];rfl
     rw[this];omega
   exact h2 n hn
end
section
variable {L:List Ex}
theorem zeA.uno {x:Nat}{t t':Tm}(h:zeA L x t)(h':zeA L x t'):t=t':=by
 induction h generalizing t' with
 | mk x ex ts hx hl hr ih =>
   cases h' with
   | mk _ ex' ts' hx' hl' hr' =>
     rw[hx] at hx';cases hx';have:ts=ts':=by
      apply List.ext_getElem?;intro i;by_cases hi:i<ts.length
      . have e1:=zsc hi;have e2:=zsc (show i<ts'.length by omega);have e3:=zsc (show i<ex.ins.length by omega);rw[e1,e2,ih i _ _ e3 e1 (hr' i _ _ e3 e2)]
      rw[List.getElem?_eq_none (by omega),List.getElem?_eq_none (by omega)]
     rw[this]
theorem zC1:∀{l:List Eqn} {qs qs':List Qn},zge L l qs->zge L l qs'->qs=qs':=by
 intro l;induction l with
 | nil=>rintro qs qs' rfl rfl;rfl
 | cons q l ih => rintro qs qs' ⟨a,la,rfl,ha,hla⟩ ⟨b,lb,rfl,hb,hlb⟩;rw[ih hla hlb];obtain⟨a1,a2,a3,a4⟩:=a;obtain⟨b1,b2,b3,b4⟩:=b;obtain⟨h1,h2,h3,h4⟩:=ha;obtain⟨k1,k2,k3,k4⟩:=hb;simp only at h1 h2 h3 h4 k1 k2 k3 k4;subst h1 h2 h3 k1 k2 k3;rw[h4.uno k4]
theorem zGG (t:Tm):1<=vz t:=by
 cases t with
 | mk k a s nm n ts=>rw[zBn];omega
theorem zDn:∀(qs:List Qn),qs.length<=vzQ qs
 | []=>zMK 0
 | q::qs=>by have h1:=zDn qs;have h2:=zGG q.r;unfold vzQ at h1 ⊢;simp only[List.map_cons,List.sum_cons,zMR];omega
structure NdR (d:Nd):Prop where
 s:NdS d
 o:zAr d
 z:NdZ d
theorem zz5 {d:Nd}{n:Nod}(hn:zo6 d n)(h:NdR d):vzQ n.eqs<=1201:=by obtain⟨⟨qs,q1,q2⟩,q3⟩:=h.z;rw[zC1 hn.eqs q1];omega
theorem zCD:∀{l:List Nd} {ns:List Nod},ze5 l ns->∀(i:Nat) (d:Nd),l[i]?=some d->∃n,ns[i]?=some n/\zo6 d n:=by
 intro l;induction l with
 | nil=>intro ns _ i d h;simp at h
 | cons d0 l ih =>
   rintro ns ⟨n,l',rfl,hn,hl⟩ i d hi;cases i with
   | zero=>simp at hi;subst hi;exact⟨n,rfl,hn⟩
   | succ i => obtain⟨n2,h1,h2⟩:=ih hl i d (by simpa using hi);exact⟨n2,by simpa using h1,h2⟩
theorem zCJ:∀{l:List Nd} {ns ms:List Nod},ze5 l ns->ze5 l ms->ns=ms:=by
 intro l;induction l with
 | nil=>rintro ns ms rfl rfl;rfl
 | cons d l ih => rintro ns ms ⟨a,la,rfl,ha,hla⟩ ⟨b,lb,rfl,hb,hlb⟩;rw[ih hla hlb];obtain⟨a1,a2,a3,a4,a5,a6⟩:=a;obtain⟨b1,b2,b3,b4,b5,b6⟩:=b;obtain⟨h1,h2,h3,h4,h5,h6⟩:=ha;obtain⟨k1,k2,k3,k4,k5,k6⟩:=hb;simp only at h1 h2 h3 h4 h5 h6 k1 k2 k3 k4 k5 k6;subst h1 h2 h3 h4 h5 k1 k2 k3 k4 k5;rw[zC1 h6 k6]
end
section
variable {L:List Ex} {l:Xu} {x:Nat} {n:Nod}
theorem zSC:(zy0.all λl=>nmK (zag l 0)==nmO l&&nmK (zag l 1)==nmO l)=true:=by decide +kernel
theorem zSr {n:Nat}(h:n≠1):zag l n=zag l 0:=by unfold zag;rw[zM1 h,zM1 (show ¬(0:Nat)=1 by decide)]
theorem zRP (h:l∈zy0)(n:Nat):nmK (zag l n)=nmO l:=by
 have:=List.all_eq_true.1 zSC l h;simp only[Bool.and_eq_true,beq_iff_eq] at this;by_cases e:n=1
 . rw[e];exact this.2
 rw[zSr e];exact this.1
theorem zRc:∀ts:List Tm,ts.length<=szL ts
 | []=>zMN _
 | t::l=>by have:=zRc l;have h:1<=szT t:=(by cases t;rw[szT];omega);rw[szL,zMR];omega
theorem zSA (hS:∀e∈L,exS e)(hN:∀e∈L,exN e){t:Tm}(h:zeA L x t):Wf t->szT t<=1201->Rd t:=by
 induction h with
 | mk x ex ts hx hl hr ih =>
   intro hw hz;have hex:=hS ex (zML hx);have hen:=hN ex (zML hx);rw[szT] at hz;have h1:=zRc ts;refine .mk _ _ _ _ _ _ hw.ar (by omega) (λe=>hen.1 (by rw[zRP hex.2.2.1] at e;exact e)) (λe=>hen.2 (by rw[zRP hex.2.2.1] at e;exact e)) (λhk=>?_) ?_ (λt ht=>?_)
   . unfold zbF;split
     . rename_i e;exact absurd (by rw[e];rfl) hk
     rfl
   . unfold zbF;split
     . exact hex.1
     exact zMN _
   obtain⟨i,hi⟩:=List.mem_iff_getElem?.1 ht;have hil:=(zMJ.1 hi).1;have h2:=zkw ht;exact ih i _ t (zsc (show i<ex.ins.length by omega)) hi (hw.sub ht) (by omega)
theorem zQb {α:Type}{p:α->Bool}{l:List α}(h:∀x∈l,p x=true):l.filter p=l:=List.filter_eq_self.2 h
theorem zOT {α:Type}{p:α->Bool}{l:List α}(h:∀x∈l,p x=false):l.filter p=[]:=List.filter_eq_nil_iff.2 (λx hx e=>by rw[h x hx] at e;cases e)
theorem zRQ:∀t:Tm,szT t=vz t:=by
 intro t;induction t using Tm.ind with
 | h k a s nm n ts ih =>
   have hl:∀l:List Tm,(∀u∈l,szT u=vz u)->szL l=vzL l:=by
    intro l;induction l with
    | nil=>intro _;rfl
    | cons u l ih2=>intro h;rw[szL,zys,h u (zMS ..),ih2 (λy hy=>h y (zMX _ hy))]
   rw[szT,zBn,hl ts ih];omega
theorem zPH:∀{l:List Eqn} {qs:List Qn},zge L l qs->∀q∈qs,∃e∈l,zrJ L e q
 | [],qs,h,q,hq=>by rw[show qs=[] from h] at hq;cases hq
 | e::l,qs,⟨q',l',h1,h2,h3⟩,q,hq=>by
   subst h1;rcases zNa.1 hq with rfl|hq
   . exact⟨e,zMS ..,h2⟩
   obtain⟨e',h4,h5⟩:=zPH h3 q hq;exact⟨e',zMX _ h4,h5⟩
theorem zQl {l:Xn}(h:x∈l):x<=l.sum:=by
 induction l with
 | nil=>cases h
 | cons y l ih =>
   rw[List.sum_cons];rcases zNa.1 h with rfl|h
   . omega
   have:=ih h;omega
theorem zSK {d:Nd}(hn:zo6 d n)(hz:NzN d)(hR:NdR d)(hw:zeJ n):RdN n:=by
 obtain⟨A,B,C,hv,hA,hB,hC,a1,b1⟩:=hz.vars;have hvz:=zz5 hn hR;have ei:n.ins=A.length:=by rw[hn.ins];unfold Nd.ins;rw[hv,List.filter_append,List.filter_append,zQb (λv h=>(hA v h).2.1),zOT (λv h=>(hB v h).2.1),zOT (λv h=>(hC v h).2.1)];simp
 have eo:n.outs=B.length:=by rw[hn.outs];unfold Nd.outs;rw[hv,List.filter_append,List.filter_append,zOT (λv h=>(hA v h).2.2),zQb (λv h=>(hB v h).2.2),zOT (λv h=>(hC v h).2.2)];simp
 have ev:n.vars=A++(B++C):=hn.vars.trans hv;have t1:n.vars.take n.ins=A:=by rw[ev,ei];simp
 have t2:(n.vars.drop n.ins).take n.outs=B:=by rw[ev,ei,eo];simp
 have t3:n.vars.drop (n.ins+n.outs)=C:=by rw[<- List.drop_drop,ev,ei,eo];simp
 have ntm:∀{v:Vr},RdV v->v.inn=true∨v.out=true->v.tm=false:=fun {v} h e=>by
  cases ht:v.tm with
  | false=>rfl
  | true =>
    obtain⟨_,h1,h2⟩:=h.ck ht;rcases e with e|e
    . rw[h1] at e;cases e
    rw[h2] at e;cases e
 have hl:=hn.eqs.len;refine⟨by rw[hn.nm];exact hz.nm,λv hm=>?_,hw.ins,hw.outs,hw.io,hw.few,?_,?_,?_,?_,?_,λq hq=>?_⟩
 . rw[ev] at hm;rcases zMY.1 hm with h|h
   . exact (hA v h).1
   rcases zMY.1 h with h|h
   . exact (hB v h).1
   exact (hC v h).1
 . rw[t1];exact λv h=>⟨ntm (hA v h).1 (.inl (hA v h).2.1),(hA v h).2⟩
 . rw[t2];exact λv h=>⟨ntm (hB v h).1 (.inr (hB v h).2.2),(hB v h).2⟩
 . rw[t3];exact λv h=>(hC v h).2
 . intro e;have:=hz.one;rw[e] at hl;simp at hl;omega
 . have:=zDn n.eqs;omega
 obtain⟨e,he,hq'⟩:=zPH hn.eqs q hq;have hQ:=hz.eqs e he;obtain⟨w1,w2,w3,w4⟩:=hw.eqs q hq;have hsz:vz q.r<=vzQ n.eqs:=zQl (List.mem_map.2 ⟨q,hq,rfl⟩);refine⟨λs hs=>hQ.ns s (by rw[<- hq'.ns];exact hs),w2,by rw[hq'.ns];exact hQ.len,zSA hR.s.exs hz.exs hq'.r w3 (by rw[zRQ];omega),λhne=>w4 (by omega)⟩
theorem zSo {d':Nd}{n':Nod}(hi:n.ins=(n.vars.filter (·.inn)).length)(ho:n.outs=(n.vars.filter (·.out)).length)(h:NdE d' n)(hn:zo6 d' n'):zQF n' n:=by
 have fl:∀(f:Vr->Bool),(∀v,f (eV v)=f v)->∀l:List Vr,(l.filter f).length=((l.map eV).filter f).length:=λf hf l=>by rw[List.filter_map,List.length_map];congr 2;funext v;exact (hf v).symm
 refine⟨hn.nm.trans h.nm,?_,?_,by rw[hn.vars];exact h.vars,hn.eqs.len.trans h.eqs.1,λi q' q h1 h2=>?_⟩
 . rw[hn.ins,hi];unfold Nd.ins;rw[fl _ (λ_=>rfl) d'.vars,h.vars,<- fl _ (λ_=>rfl)]
 . rw[hn.outs,ho];unfold Nd.outs;rw[fl _ (λ_=>rfl) d'.vars,h.vars,<- fl _ (λ_=>rfl)]
 have hl:=hn.eqs.len;have hil:=(zMJ.1 h1).1;have h3:=zsc (show i<d'.eqs.length by omega);obtain⟨e1,t,e2,e3⟩:=h.eqs.2 i _ q h3 h2;have key:∀{l:List Eqn} {qs:List Qn} (_:zge d'.exs l qs) (i:Nat) (e:Eqn) (q:Qn),l[i]?=some e->qs[i]?=some q->zrJ d'.exs e q:=by
  intro l;induction l with
  | nil=>intro qs _ i e q h;simp at h
  | cons e0 l ih =>
    rintro qs ⟨q0,l',rfl,k1,k2⟩ i e q h1 h2;cases i with
    | zero=>simp at h1 h2;subst h1 h2;exact k1
    | succ i=>exact ih k2 i e q (by simpa using h1) (by simpa using h2)
 have k:=key hn.eqs i _ q' h3 h1;exact⟨k.ns.trans e1,by rw[k.r.uno e2];exact e3⟩
end
section
variable {n:Nod}
def mL (l:List (List ByteArray)):Nat:=(l.map λx=>x.length+1).sum
theorem zNR:∀(b:Bool) (l:List (List ByteArray)),(zu6 b l).length<=mL l
 | _,[]=>zMK 0
 | b,x::l=>by have h:=zNR true l;rw[zu6,zMM,zMM];unfold mL at h ⊢;rw[List.map_cons,List.sum_cons];have:(if b=true then [coW] else []).length<=1:=(by split <;> simp);omega
theorem zR3 (l:List (List ByteArray)):(l.getD 0 []).length+(l.getD 1 []).length+(l.getD 2 []).length<=mL l:=by
 unfold mL
 match l with
 | []=>simp
 | [a]=>simp
 | [a,b]=>simp;omega
 | a::b::c::l=>simp;omega
theorem zPN (k:Nat)(l:Xl):(zvi k l).length<=l.length+2:=by
 unfold zvi;split
 . simp
 omega
theorem zSz (k:Nat)(s:Xb)(ks:Xn)(l:List (List ByteArray)):(opW k s ks l).length<=mL l+6:=by
 have h:=zR3 l;have h1:=zPN (ks.getD 0 0) (l.getD 0 []);have h2:=zPN (ks.getD 1 0) (l.getD 1 []);unfold opW;generalize l.getD 0 []=a at *;generalize l.getD 1 []=b at *;generalize l.getD 2 []=c at *
 repeat' split
 all_goals simp only[zMM,zMR,zNb]
 all_goals omega
theorem zR0 (k:Nat)(s:Xb)(n:Nat)(ks:Xn)(l:List (List ByteArray)):(exW k s n ks l).length<=mL l+8:=by
 have h:=zSz k s ks l;have h1:=zNR false l;unfold exW zu5
 repeat' split
 all_goals simp only[zMM,zMR,zNb]
 all_goals omega
mutual
theorem zRo:∀t:Tm,(exT t).length+1<=10*szT t
 | .mk k a s nm n ts=>by have h1:=zR0 k s n (ts.map Tm.k) (exL ts);have h2:=zQe ts;rw[exT,szT];omega
theorem zQe:∀ts:List Tm,mL (exL ts)<=10*szL ts
 | []=>by rw[exL];exact zMN _
 | t::l=>by have h1:=zRo t;have h2:=zQe l;rw[exL,szL];unfold mL at h2 ⊢;rw[List.map_cons,List.sum_cons];omega
end
theorem zOA {α:Type}(f:α->List ByteArray)(m:Nat)(l:List α)(h:∀x∈l,(f x).length<=m):mL (l.map f)<=l.length*(m+1):=by
 unfold mL;induction l with
 | nil=>simp
 | cons x l ih => have h1:=h x (zMS ..);have h2:=ih (λy hy=>h y (zMX _ hy));simp only[List.map_cons,List.sum_cons,zMR];rw[Nat.succ_mul];omega
theorem zQd {α:Type}(f:α->List ByteArray)(m:Nat)(l:List α)(h:∀x∈l,(f x).length<=m):(l.flatMap f).length<=l.length*m:=by
 induction l with
 | nil=>simp
 | cons x l ih => have h1:=h x (zMS ..);have h2:=ih (λy hy=>h y (zMX _ hy));rw[List.flatMap_cons,zMM,zMR,Nat.succ_mul];omega
theorem zSl {q:Qn}(h:RdQ q)(hz:szT q.r<=1201):(zvd q).length<=20000:=by
 have h1:=zRo q.r;have h2:=zNR false (q.ns.map λs=>[s]);have h3:=zOA (λs=>[s]) 1 q.ns (λ_ _=>by simp);have h4:=h.len;have h5:(if q.ns.length=1 then q.ns else zu5 (q.ns.map (λs=>[s]))).length<=3000:=by
  split
  . omega
  unfold zu5;simp only[zMM,zMR,zNb];omega
 unfold zvd;simp only[zMM,zMR,zNb];omega
theorem zSe (v:Vr):(onW v).length<=3:=by
 unfold onW;split
 . simp
 split <;> simp
theorem zPi (h:RdN n)(hz:∀q∈n.eqs,szT q.r<=1201):(zu4 n).length<=30000000:=by
 have l1:=zNR false ((n.vars.take n.ins).map zu7);have l2:=zOA zu7 3 (n.vars.take n.ins) (λv _=>zMK _);have l3:=zNR false (((n.vars.drop n.ins).take n.outs).map zu7);have l4:=zOA zu7 3 ((n.vars.drop n.ins).take n.outs) (λv _=>zMK _);have l5:=zQd zu9 7 (n.vars.drop (n.ins+n.outs)) (λv _=>by
  have:=zSe v;unfold zu9 zu7;simp only[zMM,zMR,zNb];omega)
 have l6:=zQd zvd 20000 n.eqs (λq hq=>zSl (h.qs q hq) (hz q hq));have a1:(n.vars.take n.ins).length<=16:=by rw[List.length_take];have:=h.len;omega
 have a2:((n.vars.drop n.ins).take n.outs).length<=16:=by rw[List.length_take,List.length_drop];have:=h.len;omega
 have a3:(n.vars.drop (n.ins+n.outs)).length<=16:=by rw[List.length_drop];have:=h.len;omega
 have a4:=h.ql;unfold zu4 zu5;have a5:(if 0<(n.vars.drop (n.ins+n.outs)).length then [(⟨#[118,97,114]⟩:Xb)] else []).length<=1:=by split <;> simp
 simp only[zMM,zMR,zNb];omega
theorem zO7:∀l:List (List UInt8),(∀x∈l,x.length<=40)->(([32]:Xu).intercalate l).length<=41*l.length
 | [],_=>by simp[List.intercalate]
 | [x],h=>by have:=h x (by simp);simp[List.intercalate];omega
 | x::y::l,h=>by have h1:=h x (by simp);have h2:=zO7 (y::l) (λz hz=>h z (zMX _ hz));simp only[List.intercalate,List.intersperse_cons_cons,List.flatten_cons,zMM,zMR,zNb] at h2 ⊢;omega
theorem zRC (h:RdN n)(hz:∀q∈n.eqs,szT q.r<=1201):(zvg n).length<=1300000000:=by
 have h1:=zPi h hz;have h2:=zO7 ((zu4 n).map (·.data.toList)) (λx hx=>by
  obtain⟨y,hy,rfl⟩:=List.mem_map.1 hx;have:=(zPT h y hy).sz
  show y.data.toList.length<=40;have e:y.data.toList.length=y.size:=by rw[Array.length_toList];rfl
  omega)
 unfold zvg;rw[zMM];rw[List.length_map] at h2;simp only[zMR,zNb];omega
theorem zR1 {ns:List Nod}(h:∀n∈ns,(zvg n).length<=1300000000):(zu3 ns).length<=ns.length*1300000000:=by
 induction ns with
 | nil=>exact zMK 0
 | cons n ns ih => have h1:=h n (zMS ..);have h2:=ih (λx hx=>h x (zMX _ hx));unfold zu3 at h2 ⊢;rw[List.flatMap_cons,zMM,zMR];omega
end
section
open Go.RowKit Go.Extern.Stop Go.Stop Go.Extern
theorem Tryz.isTypeOf (v:Xv)(w:Xw):(Extern.ReflectliteType.typeOf #[.iface 324 v]).run prog w=.ok (.iface 245 (.agg #[.pointer (some (xD 21 324))])) w:=by kernel_rfl
def zxB:Array Value->Sem Value:=Extern.ReflectliteType.method λt=>do Extern.Rtype.noPackHeld "Comparable" t;pure (.bool (<- typeInfo t).comparable)
theorem Tryz.isMethodComparable (v:Xv)(w:Xw):(Go.method 465 245 v "Comparable").run prog w=.ok (278,v) w:=by kernel_rfl
theorem Tryz.isMethodUnwrapP (v:Xv)(w:Xw):(Go.method 465 169 v "Unwrap").run prog w=.ok (275,v) w:=by kernel_rfl
theorem Tryz.isMethodUnwrapF (v:Xv)(w:Xw):(Go.method 465 71 v "Unwrap").run prog w=.ok (269,v) w:=by kernel_rfl
theorem Tryz.callCmp (args:Xa)(w:Xw):(callFunc 278 args).run prog w=((zxB args).run prog w).andThen λv w'=>.ok (.value v) w':=run_callFunc_extern func278 (by kernel_rfl) (by kernel_rfl) (by kernel_rfl) (by kernel_rfl) args w
theorem Tryz.callTypeOf (args:Xa)(w:Xw):(callFunc 141 args).run prog w=((Extern.ReflectliteType.typeOf args).run prog w).andThen λv w'=>.ok (.value v) w':=run_callFunc_extern func141 (by kernel_rfl) (by kernel_rfl) (by kernel_rfl) (by kernel_rfl) args w
theorem Tryz.isComparable (w:Xw):(zxB #[.agg #[.pointer (some (xD 21 324))]]).run prog w=.ok (.bool true) w:=by kernel_rfl
theorem Tryz.isComp:(prog.info? 324).map (·.comparable)=some true:=by kernel_rfl
theorem Tryz.isSize:(prog.info? 326).map (·.size)=some 1:=by kernel_rfl
theorem Tryz.noIsE (v:Xv)(xT:Xy)(w:Xw):(Instr.typeAssert (.iface 324 v) xT 285 true).run prog w=.ok (.tuple #[.nilIface,.bool false]) w:=run_typeAssert_lacksB underlying285 (by kernel_rfl) (by kernel_rfl) v xT w
theorem Tryz.noUnwrapE (v:Xv)(xT:Xy)(w:Xw):(Instr.typeAssert (.iface 324 v) xT 253 true).run prog w=.ok (.tuple #[.nilIface,.bool false]) w:=run_typeAssert_lacksB underlying253 (by kernel_rfl) (by kernel_rfl) v xT w
theorem Tryz.noUnwrapsE (v:Xv)(xT:Xy)(w:Xw):(Instr.typeAssert (.iface 324 v) xT 255 true).run prog w=.ok (.tuple #[.nilIface,.bool false]) w:=run_typeAssert_lacksB underlying255 (by kernel_rfl) (by kernel_rfl) v xT w
theorem Tryz.noIsP (v:Xv)(xT:Xy)(w:Xw):(Instr.typeAssert (.iface 169 v) xT 285 true).run prog w=.ok (.tuple #[.nilIface,.bool false]) w:=run_typeAssert_lacksB underlying285 (by kernel_rfl) (by kernel_rfl) v xT w
theorem Tryz.hasUnwrapP (v:Xv)(xT:Xy)(w:Xw):(Instr.typeAssert (.iface 169 v) xT 253 true).run prog w=.ok (.tuple #[.iface 169 v,.bool true]) w:=run_typeAssert_hasB underlying253 (by kernel_rfl) v xT w
theorem Tryz.noIsF (v:Xv)(xT:Xy)(w:Xw):(Instr.typeAssert (.iface 71 v) xT 285 true).run prog w=.ok (.tuple #[.nilIface,.bool false]) w:=run_typeAssert_lacksB underlying285 (by kernel_rfl) (by kernel_rfl) v xT w
theorem Tryz.hasUnwrapF (v:Xv)(xT:Xy)(w:Xw):(Instr.typeAssert (.iface 71 v) xT 253 true).run prog w=.ok (.tuple #[.iface 71 v,.bool true]) w:=run_typeAssert_hasB underlying253 (by kernel_rfl) v xT w
theorem zvv (p:Xb)(e:Xv)(w:Xw):xK 275 #[.agg #[.string p,e]] w λr w'=>r=.returned e/\xB w w':=by go_enter func275,ntmps275;go_wp2;go_ret;refine⟨rfl,?_⟩;first|exact Below.refl _ _|exact zq w _
theorem zv2 (k e:Xv)(w:Xw):xK 269 #[.agg #[k,e]] w λr w'=>r=.returned k/\xB w w':=by go_enter func269,ntmps269;go_wp2;go_ret;refine⟨rfl,?_⟩;first|exact Below.refl _ _|exact zq w _
theorem zxv (p:Xb)(a b:Addr)(at':Int)(r:Bool)(w:Xw)(HEq:∀W,xB w W->(binOp .eql 53 (.iface 324 (.pointer (some a))) (.iface 324 (.pointer (some b)))).run prog W=.ok (.bool r) W) :
 xK 77 #[zeQ p (.iface 71 (.agg #[.iface 324 (.pointer (some a)),xI at'])),.iface 324 (.pointer (some b))] w λe w'=>e=.returned (.bool r)/\xB w w':=by
 have h8:=Tryz.callTypeOf;have h32:=Tryz.callCmp;have mR:=Tryz.isMethodComparable;have mP:=Tryz.isMethodUnwrapP;have mF:=Tryz.isMethodUnwrapF;have tT:=Tryz.isTypeOf;have cT:=Tryz.isComparable;have nP:=Tryz.noIsP;have uP:=Tryz.hasUnwrapP;have nF:=Tryz.noIsF;have uF:=Tryz.hasUnwrapF;have nE:=Tryz.noIsE;have uE:=Tryz.noUnwrapE;have vE:=Tryz.noUnwrapsE;have eP:=λv v' W=>run_eql_iface_types (P:=prog) 169 324 v v' underlying53 (by decide) W;have eF:=λv v' W=>run_eql_iface_types (P:=prog) 71 324 v v' underlying53 (by decide) W;unfold zeQ;go_enter func77,ntmps77;go_wp2;refine wp_loop_rounds 3 ?_;rw[rounds_succ];go_wp2_with (go_at_call 275;refine (zvv _ _ _).mono ?_;rintro e w1 ⟨rfl,HB1⟩);rw[rounds_succ];go_wp2_with (go_at_call 269;refine (zv2 _ _ _).mono ?_;rintro e w2 ⟨rfl,HB2⟩);have HB3:=za (HB1.trans (HB2.mono HB1.size));have he:=HEq w2 HB3.o;rw[rounds_succ];cases r with
 | true => go_wp2;go_ret;exact⟨rfl,HB3.o⟩
 | false => go_wp2;go_ret;exact⟨rfl,HB3.o⟩
theorem Tryz.valueOfP (t:Addr)(w:Xw):(ReflectliteValue.unpack (.iface 73 (.pointer (some t)))).run prog w
 = .ok (.agg #[.pointer (some (xD 21 73)),xP w.heap.size,.int .u64 150]) (w.alloc (.cells #[.pointer (some t)] 73)):=by kernel_rfl
theorem Tryz.typeP (a:Addr)(w:Xw):(ReflectliteValue.methodAny (ReflectliteValue.valueError "reflectlite.Value.Type" 0) (λt _ _ _=>ReflectliteType.toType t) #[.agg #[.pointer (some (xD 21 73)),.pointer (some a),.int .u64 150]]).run prog w
 = .ok (.iface 245 (.agg #[.pointer (some (xD 21 73))])) w:=by kernel_rfl
theorem Tryz.methodKind (h:Xv)(w:Xw):(Go.method 465 245 (.agg #[h]) "Kind").run prog w=.ok (265,h) w:=by kernel_rfl
theorem Tryz.methodElem (h:Xv)(w:Xw):(Go.method 465 245 (.agg #[h]) "Elem").run prog w=.ok (279,.agg #[h]) w:=by kernel_rfl
theorem Tryz.methodImplements (h:Xv)(w:Xw):(Go.method 465 245 (.agg #[h]) "Implements").run prog w=.ok (280,.agg #[h]) w:=by kernel_rfl
theorem Tryz.methodAssignableTo (h:Xv)(w:Xw):(Go.method 465 245 (.agg #[h]) "AssignableTo").run prog w=.ok (277,.agg #[h]) w:=by kernel_rfl
theorem Tryz.kindP (w:Xw):((ReflectliteType.abiMethod λt=>Functor.map (λa:Nat=>Value.int IntKind.u8 (a:Int)) (Rtype.kind t)) #[.pointer (some (xD 21 73))]).run prog w=.ok (.int .u8 22) w:=by kernel_rfl
theorem Tryz.kindF (w:Xw):((ReflectliteType.abiMethod λt=>Functor.map (λa:Nat=>Value.int IntKind.u8 (a:Int)) (Rtype.kind t)) #[.pointer (some (xD 21 71))]).run prog w=.ok (.int .u8 25) w:=by kernel_rfl
theorem Tryz.elemP (w:Xw):(ReflectliteType.method ReflectliteType.elem #[.agg #[.pointer (some (xD 21 73))]]).run prog w=.ok (.iface 245 (.agg #[.pointer (some (xD 21 71))])) w:=by kernel_rfl
theorem Tryz.implementsF (w:Xw):(ReflectliteType.relation "Implements" ReflectliteType.implements_ #[.agg #[.pointer (some (xD 21 71))],.iface 245 (.agg #[.pointer (some (xD 21 53))])]).run prog w=.ok (.bool true) w:=by kernel_rfl
theorem Tryz.typeOfF (v:Xv)(w:Xw):(ReflectliteType.typeOf #[.iface 71 v]).run prog w=.ok (.iface 245 (.agg #[.pointer (some (xD 21 71))])) w:=by kernel_rfl
theorem Tryz.typeOfPs (v:Xv)(w:Xw):(ReflectliteType.typeOf #[.iface 169 v]).run prog w=.ok (.iface 245 (.agg #[.pointer (some (xD 21 169))])) w:=by kernel_rfl
theorem Tryz.assignableF (w:Xw):(ReflectliteType.relation "AssignableTo" ReflectliteType.assignableTo #[.agg #[.pointer (some (xD 21 71))],.iface 245 (.agg #[.pointer (some (xD 21 71))])]).run prog w=.ok (.bool true) w:=by kernel_rfl
theorem Tryz.assignableP (w:Xw):(ReflectliteType.relation "AssignableTo" ReflectliteType.assignableTo #[.agg #[.pointer (some (xD 21 169))],.iface 245 (.agg #[.pointer (some (xD 21 71))])]).run prog w=.ok (.bool false) w:=by kernel_rfl
theorem Tryz.valueOfF (k e:Xv)(w:Xw):(ReflectliteValue.unpack (.iface 71 (.agg #[k,e]))).run prog w
 = .ok (.agg #[.pointer (some (xD 21 71)),xP w.heap.size,.int .u64 153]) (w.alloc (.cells #[k,e] 71)):=by kernel_rfl
theorem Tryz.noAsP (v:Xv)(xT:Xy)(w:Xw):(Instr.typeAssert (.iface 169 v) xT 250 true).run prog w=.ok (.tuple #[.nilIface,.bool false]) w:=run_typeAssert_lacksB underlying250 (by kernel_rfl) (by kernel_rfl) v xT w
theorem rlm (z:Sem Value)(f:TypeId->Addr->Nat->Nat->Sem Value)(v:Xv) :
 ReflectliteValue.method z f #[v]=(do match <- ReflectliteValue.parts v with|none=>z|some (t,a,fl)=>f t a fl (fl % 32)):=rfl
theorem Tryz.partsP (a:Addr)(w:Xw):(ReflectliteValue.parts (.agg #[.pointer (some (xD 21 73)),.pointer (some a),.int .u64 150])).run prog w=.ok (some (73,a,150)) w:=by kernel_rfl
theorem Tryz.isNilP (a p:Addr)(W:Xw)(ha:W.cell? a=some (.pointer (some p))) :
 (ReflectliteValue.method (ReflectliteValue.valueError "reflectlite.Value.IsNil" 0) ReflectliteValue.isNil #[.agg #[.pointer (some (xD 21 73)),.pointer (some a),.int .u64 150]]).run prog W=.ok (.bool false) W:=by
 rw[rlm];simp only[Sem.run_bind,Tryz.partsP,Result.andThen];simp[ReflectliteValue.isNil,loadVar,isAgg,underlying,underlying73,ha,Result.andThen]
theorem Tryz.elemOfP (w:Xw):(Rtype.elem? 73).run prog w=.ok (some 71) w:=by kernel_rfl
theorem Tryz.mkF (p:Addr)(w:Xw):(ReflectliteValue.mk 71 p ReflectliteValue.flagAddr).run prog w=.ok (.agg #[.pointer (some (xD 21 71)),.pointer (some p),.int .u64 409]) w:=by kernel_rfl
theorem Tryz.elemVP (a p:Addr)(W:Xw)(ha:W.cell? a=some (.pointer (some p))) :
 (ReflectliteValue.method (ReflectliteValue.valueError "reflectlite.Value.Elem" 0) ReflectliteValue.elem #[.agg #[.pointer (some (xD 21 73)),.pointer (some a),.int .u64 150]]).run prog W
   = .ok (.agg #[.pointer (some (xD 21 71)),.pointer (some p),.int .u64 409]) W:=by
 rw[rlm];simp only[Sem.run_bind,Tryz.partsP,Result.andThen];simp[ReflectliteValue.elem,loadVar,isAgg,underlying,underlying73,ha,Result.andThen,Tryz.elemOfP,Tryz.mkF]
theorem rls (v x:Xv):ReflectliteValue.set #[v,x]=(do
 let (some (dst,a,fl),some (src,b,_)):=(<- ReflectliteValue.parts v,<- ReflectliteValue.parts x)
  | unsupported (.noEntry "extern/(internal/reflectlite.Value).Set.zeroValue")
 if fl / ReflectliteValue.flagAddr % 2==0 then unsupported (.noEntry "extern/(internal/reflectlite.Value).Set.unaddressable")
 let val <- loadVar src b
 if <- Rtype.directlyAssignable dst src then storeVar dst a val
 else if <- Rtype.implements dst src then
  if (<- Rtype.kind src)==20 then
   match val with
   | .nilIface=>unsupported (.noEntry "extern/reflectlite: a nil value of one interface type handed on as a value of another")
   | _=>storeVar dst a val
  else storeVar dst a (.iface src val)
 else panicString ("reflectlite.Set: value of type "++(<- Rtype.spelt src)++ " is not assignable to type "++(<- Rtype.spelt dst))
 pure (.tuple #[])):=rfl
theorem Tryz.partsFa (a:Addr)(w:Xw):(ReflectliteValue.parts (.agg #[.pointer (some (xD 21 71)),.pointer (some a),.int .u64 409])).run prog w=.ok (some (71,a,409)) w:=by kernel_rfl
theorem Tryz.partsF (a:Addr)(w:Xw):(ReflectliteValue.parts (.agg #[.pointer (some (xD 21 71)),.pointer (some a),.int .u64 153])).run prog w=.ok (some (71,a,153)) w:=by kernel_rfl
theorem Tryz.directF (w:Xw):(Rtype.directlyAssignable 71 71).run prog w=.ok true w:=by kernel_rfl
theorem Tryz.aggF (w:Xw):(isAgg 71).run prog w=.ok true w:=by kernel_rfl
theorem Tryz.sizeF (w:Xw):(sizeOf 71).run prog w=.ok 2 w:=by kernel_rfl
theorem Tryz.setF (ta b:Nat)(k e o1 o2:Xv)(W:Xw)(hk:k.oneCell'=true)(he:e.oneCell'=true)(hb:xH W b #[k,e] 71)(ht:xH W ta #[o1,o2] 71) :
 (ReflectliteValue.set #[.agg #[.pointer (some (xD 21 71)),xP ta,.int .u64 409],.agg #[.pointer (some (xD 21 71)),xP b,.int .u64 153]]).run prog W
   = .ok (.tuple #[]) ((W.setCell (xD ta 0) k).setCell (xD ta 1) e):=by
 have hl:(loadVar 71 (xD b 0)).run prog W=.ok (.agg #[k,e]) W:=by
  have h0:=run_loadCells_list (P:=prog) W (xD b 0) [k,e] (λj v hj=>by
   obtain⟨c0,c1,_,_⟩:=zp hb;rcases j with _|_|j
   . simp at hj;subst hj;exact c0
   . simp at hj;subst hj;exact c1
   simp at hj)
  have h1:(loadCells (xD b 0) 2).run prog W=.ok #[k,e] W:=h0;unfold loadVar;simp only[Sem.run_bind,Tryz.aggF,Tryz.sizeF,Result.andThen,if_true,h1];rfl
 have hs:(storeVar 71 (xD ta 0) (.agg #[k,e])).run prog W=.ok () ((W.setCell (xD ta 0) k).setCell (xD ta 1) e):=by
  refine run_storeVar_mid (P:=prog) W ta 0 71 #[k,e] (λj hj=>?_) (by kernel_rfl) (by simp[hk,he]);obtain⟨c0,c1,cf,_⟩:=zp ht;have hj2:j<2:=hj;rcases j with _|_|j
  . exact⟨by rw[Nat.zero_add,c0];rfl,cf _⟩
  . exact⟨by rw[Nat.zero_add,c1];rfl,cf _⟩
  omega
 rw[rls];simp only[Sem.run_bind,Tryz.partsFa,Tryz.partsF,Result.andThen];simp[ReflectliteValue.flagAddr,hl,Tryz.directF,hs]
end
section
open Go.RowKit
variable {cb:Nat} {c:Sc} {w w':Xw}
attribute [local go_sem ↓] Go.wp_at_zero Go.wp_at_succ
theorem zd8 (w:Xw)(o1 o2:Obj):((w.alloc o1).alloc o2).heap[w.heap.size]?=some o1/\((w.alloc o1).alloc o2).heap[w.heap.size+1]?=some o2:=by refine⟨(Below.heap_alloc _ _ _ (by simp)).trans (zc w o1),?_⟩;have:=zc (w.alloc o1) o2;rwa [zsb] at this
def clk (k:Nat×Nat):Int×Int:=((k.1:Int),(k.2:Int))
def ckL (c:Sc):Nat->List ((Int×Int)×Value)
 | 0=>[]
 | i+1=>ckL c i++[(((i:Int),1),pr (clk (c.of i))),(((i:Int),2),pr (clk (c.of i)))]
theorem zpm (c:Sc)(n:Nat):(ckL c n).length=2*n:=by
 induction n with
 | zero=>rfl
 | succ n ih=>rw[ckL,zMM,ih];simp;omega
theorem zqf (c:Sc)(n:Nat):∀p∈ckL c n,∃j,j<n/\p.1.1=(j:Int):=by
 induction n with
 | zero=>intro p h;simp[ckL] at h
 | succ n ih =>
   intro p h;rw[ckL,zMY] at h;rcases h with h|h
   . obtain⟨j,h1,h2⟩:=ih p h;exact⟨j,by omega,h2⟩
   simp at h;rcases h with rfl|rfl
   . exact⟨n,by omega,rfl⟩
   exact⟨n,by omega,rfl⟩
theorem zkA (c:Sc)(n:Nat)(s:Int):((n:Int),s) ∉ (ckL c n).map (·.1):=by intro h;obtain⟨p,h1,h2⟩:=List.mem_map.1 h;obtain⟨j,h3,h4⟩:=zqf c n p h1;rw[h2] at h4;simp at h4;omega
theorem znw {κ:Type} [DecidableEq κ] (k:κ)(m:List (κ×Value)):∀l:List (κ×Value),zaT k (l++m)=match zaT k l with|some v=>some v|none=>zaT k m:=by
 intro l;induction l with
 | nil=>rfl
 | cons p l ih =>
   rw[List.cons_append];simp only[zaT];split
   . rfl
   exact ih
theorem zoh (c:Sc)(n j s:Nat):zaT ((j:Int),(s:Int)) (ckL c n)=if j<n/\(s=1∨s=2) then some (pr (clk (c.of j))) else none:=by
 induction n with
 | zero=>simp[ckL,zaT]
 | succ n ih =>
   rw[ckL,znw,ih];by_cases h1:j<n
   . by_cases h2:s=1∨s=2
     . rw[zM2 ⟨h1,h2⟩,zM2 ⟨by omega,h2⟩]
     rw[zM1 (λe=>h2 e.2),zM1 (λe=>h2 e.2)];simp only[zaT,Prod.mk.injEq];rw[zM1 (by omega),zM1 (by omega)]
   rw[zM1 (λe=>h1 e.1)];simp only[zaT,Prod.mk.injEq];by_cases h3:j=n
   . subst h3;by_cases h4:s=1
     . subst h4;simp
     by_cases h5:s=2
     . subst h5;simp
     rw[zM1 (by omega),zM1 (by omega),zM1 (by omega)]
   rw[zM1 (by omega),zM1 (by omega),zM1 (by omega)]
theorem zng (c:Sc)(n:Nat)(v:Xv):upd ((n:Int),1) v (ckL c n)=ckL c n++[(((n:Int),1),v)]:=zh0 (zkA c n 1)
theorem zn3 (c:Sc)(n:Nat)(u v:Xv):upd ((n:Int),2) v (ckL c n++[(((n:Int),1),u)])=ckL c n++[(((n:Int),1),u),(((n:Int),2),v)]:=by
 rw[zh0]
 . simp
 rw[List.map_append,zMY];rintro (h|h)
 . exact zkA c n 2 h
 simp at h
def za7 (w:Xw)(c:Sc)(cb:Nat):Prop:=zbn w cb pr (ckL c c.nd.vars.length)
theorem za7.of' (h:za7 w c cb)(hb:w'.heap[cb]?=w.heap[cb]?):za7 w' c cb:=zbn.of h hb
theorem za7.lt (h:za7 w c cb):cb<w.heap.size:=zbn.lt h
theorem za7.keep (h:za7 w c cb)(hB:xB w w'):za7 w' c cb:=h.of' (hB.block _ h.lt)
theorem Tryz.zeroClock (w:Xw):(zeroValue 198).run prog w=.ok (pr (0,0)) w:=by unfold pr;kernel_rfl
theorem zoP (c:Sc)(i:Nat)(h:¬i<c.nd.vars.length):c.of i=(0,0):=by unfold Sc.of;rw[List.getElem?_eq_none (by omega)]
theorem zkW (h:za7 w c cb)(k:Nat×Nat) :
 (Instr.lookup 123 (.map (some cb)) (pr (clk k)) false).run prog w=.ok (pr (clk (c.up k))) w:=by
 rw[zgI Tryz.keyClock underlying123 Tryz.zeroClock h (clk k) false];rw[show clk k=((k.1:Int),(k.2:Int)) from rfl,zoh];refine congrArg (λv=>Result.ok v w) ?_
 show Option.getD _ _=_;unfold Sc.up;by_cases h2:k.2=1∨k.2=2
 . rw[zM2 h2];by_cases h1:k.1<c.nd.vars.length
   . rw[zM2 ⟨h1,h2⟩];rfl
   rw[zM1 (λe=>h1 e.1),zoP c _ h1];rfl
 rw[zM1 (λe=>h2 e.2),zM1 h2];rfl
theorem zru (h:za7 w c cb)(i:Nat) :
 (Instr.lookup 123 (.map (some cb)) (.agg #[xI (i:Int),xI 1]) false).run prog w=.ok (.agg #[xI ((c.of i).1:Nat),xI ((c.of i).2:Nat)]) w:=by
 have:=zkW h (i,1);rw[show c.up (i,1)=c.of i from zM2 (zM3 rfl)] at this;exact this
theorem zqw (h:za7 w c cb)(ty:Xy):(Builtin.len_ #[123] ty #[.map (some cb)]).run prog w=.ok (xI ((2*c.nd.vars.length:Nat):Int)) w:=by
 obtain⟨es,clock,h1,h2⟩:=h;have h3:es.size=2*c.nd.vars.length:=by have:=congrArg List.length h2;rw[List.length_map,List.length_map,zpm] at this;simpa using this
 rw[<- h3];have h4:prog.underlying 123=some (.map (prog.mapKeyOf 123) (prog.mapElemOf 123)):=by kernel_rfl
 exact run_len_map w 123 ty cb es clock h4 h1
theorem zbC (i:Nat)(w:Xw)(h:za7 w c cb) :
 xK 104 #[.map (some cb),xI (i:Int)] w (λe w'=>e=.returned (.agg #[xI ((c.of i).1:Nat),xI ((c.of i).2:Nat)])/\xB w w'):=by
 have hl:=λo=>zru (h.keep (zq w o)) i;go_enter func104,ntmps104;go_wp2_with fail;refine bodyPost_ret (v:=.agg #[xI ((c.of i).1:Nat),xI ((c.of i).2:Nat)]) (by simp[results,results104,go_sem]) rfl ⟨rfl,?_⟩;exact zq w _
theorem zdR {b:Nat}{e:Xy}{u0 u1:Xv}(h:xH w b #[u0,u1] e)(v0 v1:Xv):((w.setCell (xD b 0) v0).setCell (xD b 1) v1).heap[b]?=some (.cells #[v0,v1] e (0,0)) :=
 zh _ _ _ _ (zh _ _ _ _ h)
theorem znR (c:Sc)(i:Nat)(m:Nat)(k:Nat×Nat):zhr c i (m+1) k=if k=(0,0) then false else if k.1=i then true else zhr c i m (c.up k):=rfl
theorem ziA (i:Nat)(w:Xw)(h:za7 w c cb)(h16:c.nd.vars.length<=1000) :
 xK 132 #[.map (some cb),xI (i:Int)] w (λe w'=>e=.returned (.bool (c.comesBack i))/\xB w w'):=by
 have HL:=zbC i w h;have HC:=za h;have hz:=h.lt;clear h;go_enter func132,ntmps132;go_upto_region 2 with (go_at_call 104;refine HL.mono ?_;rintro e w1 ⟨rfl,HB⟩);refine zn (λW=>za7 W c cb/\xB w W/\xH W w1.heap.size #[xI ((c.of i).1:Nat),xI ((c.of i).2:Nat)] 198) ⟨(HC.o.keep HB).keep (zq w1 _),zaU HB (zMK _) _,zc w1 _⟩ ?_;rintro W ⟨hCW,hBW,hXW⟩;have hzw:w.heap.size<=w1.heap.size:=HB.size;have hlen:=zqw hCW;have HCW:=za hCW;have HBW:=za hBW;have HXW:=za hXW;clear hCW hBW hXW;go_wp2_with fail;go_loopg [11] (2*c.nd.vars.length+1) (λj x wr=>∃(k:Nat) (kk:Nat×Nat),k+j=2*c.nd.vars.length+1/\k<=2*c.nd.vars.length/\x=xI k/\Hid (za7 wr c cb)/\Hid (xH wr w1.heap.size #[xI (kk.1:Nat),xI (kk.2:Nat)] 198)/\Hid (c.comesBack i=zhr c i (j-1) kk)/\Hid (xB w wr));case atStart=>exact⟨0,c.of i,by omega,zMN _,rfl,HCW.o,HXW.o,rfl,HBW.o⟩
 case round =>
  clear HCW HXW HBW hlen;obtain⟨k,kk,hkj,hk,rfl,HC,HX,HD,HB2⟩:=hrel;obtain⟨x0,x1,xf,xz⟩:=zp HX.o;by_cases hlt:k<2*c.nd.vars.length
  . obtain⟨m,rfl⟩:∃m,gk=m+1+1:=⟨gk-1-1,by omega⟩;have hE:=HD.o;rw[show m+1+1-1=m+1 from rfl,znR] at hE;have hlk:=zkW HC.o kk;unfold pr clk at hlk;clear HD;by_cases h0:kk=(0,0)
    . rw[zM2 h0] at hE;subst h0;have HE:=za hE;clear hE;go_wp2_with fail;go_ret;exact⟨by rw[HE.o];rfl,HB2.o⟩
    rw[zM1 h0] at hE;by_cases h1:kk.1=i
    . rw[zM2 h1] at hE;have h1':(kk.1:Int)=(i:Int):=(by omega);have HE:=za hE;clear hE h1;obtain⟨k1,k2⟩:=kk;simp only[Prod.mk.injEq] at h0;simp only at h1' HX HE x0 x1 hlk;by_cases g0:(k1:Int)=0;have g1:¬(k2:Int)=0:=(by omega);simp only[g0] at hlk;all_goals clear h0
      . go_wp2_with fail;go_ret;exact⟨by rw[HE.o];rfl,HB2.o⟩
      go_wp2_with fail;go_ret;exact⟨by rw[HE.o];rfl,HB2.o⟩
    rw[zM1 h1] at hE;have h1':¬(kk.1:Int)=(i:Int):=(by omega);have HE:=za hE;clear hE h1;have hcn:¬cb=w1.heap.size:=(by omega);obtain⟨k1,k2⟩:=kk;simp only[Prod.mk.injEq] at h0;simp only at h1' HX HE x0 x1 hlk;by_cases g0:(k1:Int)=0;have g1:¬(k2:Int)=0:=(by omega);simp only[g0] at hlk;all_goals clear h0
    iterate 2
     . go_wp2_with fail;go_roundg (m+1);case measure=>omega
       exact⟨k+1,c.up (k1,k2),by omega,by omega,by go_num,HC.o.of' ((Below.heap_setCell _ _ _ _ hcn).trans (Below.heap_setCell _ _ _ _ hcn)),zdR HX.o _ _,HE.o,zC (zC HB2.o hzw _) hzw _⟩
  have ek:k=2*c.nd.vars.length:=by omega
  subst ek;have:gk=1:=by omega
  subst this;have HE:Hid (c.comesBack i=false):=HD.o;clear HD;go_wp2_with fail;go_ret;exact⟨by rw[HE.o];rfl,HB2.o⟩
end
section
open Go.RowKit Go.Extern.Stop Go.Stop Go.Extern
def ErT (w:Xw):Prop:=w.cell? (xD 7 0)=some (.iface 245 (.agg #[.pointer (some (xD 21 53))]))
theorem zxw (p:Xb)(k:Xv)(at':Int)(hk:k.oneCell'=true)(tb:Nat)(o1 o2:Xv)(w:Xw)(hT:ErT w)(ht:w.heap[tb]?=some (.cells #[o1,o2] 71 (0,0))) :
 xK 39 #[zeQ p (.iface 71 (.agg #[k,xI at'])),.iface 73 (xP tb)] w λe w'=>e=.returned (.bool true)/\w'.heap[tb]?=some (.cells #[k,xI at'] 71 (0,0))/\Fr (λj=>j=tb) w w':=by
 have htb:=ze ht;have h50:∀args w,(callFunc 73 args).run prog w=(((λargs=>ReflectliteValue.unpack (args.getD 0 (.tuple #[]))) args).run prog w).andThen λv w'=>.ok (.value v) w':=run_callFunc_extern func73 (by kernel_rfl) (by kernel_rfl) (by kernel_rfl) (by kernel_rfl);have h51:=@run_callFunc_extern prog 74 _ (ReflectliteValue.methodAny (ReflectliteValue.valueError "reflectlite.Value.Type" 0) (λt _ _ _=>ReflectliteType.toType t)) func74 (by kernel_rfl) (by kernel_rfl) (by kernel_rfl) (by kernel_rfl);have h52:=@run_callFunc_extern prog 75 _ (ReflectliteValue.method (ReflectliteValue.valueError "reflectlite.Value.IsNil" 0) ReflectliteValue.isNil) func75 (by kernel_rfl) (by kernel_rfl) (by kernel_rfl) (by kernel_rfl);have hKd:=@run_callFunc_extern prog 265 _ (ReflectliteType.abiMethod λt=>do pure (.int .u8 (<- Rtype.kind t))) func265 (by kernel_rfl) (by kernel_rfl) (by kernel_rfl) (by kernel_rfl);have hEl:=@run_callFunc_extern prog 279 _ (ReflectliteType.method ReflectliteType.elem) func279 (by kernel_rfl) (by kernel_rfl) (by kernel_rfl) (by kernel_rfl);have hIm:=@run_callFunc_extern prog 280 _ (ReflectliteType.relation "Implements" ReflectliteType.implements_) func280 (by kernel_rfl) (by kernel_rfl) (by kernel_rfl) (by kernel_rfl);have hTo:=Tryz.callTypeOf;have hAs:=@run_callFunc_extern prog 277 _ (ReflectliteType.relation "AssignableTo" ReflectliteType.assignableTo) func277 (by kernel_rfl) (by kernel_rfl) (by kernel_rfl) (by kernel_rfl);have hVe:=@run_callFunc_extern prog 142 _ (ReflectliteValue.method (ReflectliteValue.valueError "reflectlite.Value.Elem" 0) ReflectliteValue.elem) func142 (by kernel_rfl) (by kernel_rfl) (by kernel_rfl) (by kernel_rfl);have hSe:=@run_callFunc_extern prog 143 _ ReflectliteValue.set func143 (by kernel_rfl) (by kernel_rfl) (by kernel_rfl) (by kernel_rfl);have mP:=Tryz.isMethodUnwrapP;have tF:=Tryz.typeOfF;have tP:=Tryz.typeOfPs;have mA:=Tryz.methodAssignableTo;have aF:=Tryz.assignableF;have aP:=Tryz.assignableP;have vF:=Tryz.valueOfF;have vP:=Tryz.valueOfP;have yP:=Tryz.typeP;have mK:=Tryz.methodKind;have mE:=Tryz.methodElem;have mI:=Tryz.methodImplements;have kP:=Tryz.kindP;have kF:=Tryz.kindF;have eP:=Tryz.elemP;have iF:=Tryz.implementsF;have nP:=Tryz.noAsP;have uP:=Tryz.hasUnwrapP;have h1:7<w.heap.size:=World.block_lt_of_cell? w (xD 7 0) hT;have hNi:=Tryz.isNilP (xD w.heap.size 0) (xD tb 0) ((w.alloc (.cells #[xP tb] 73)).alloc (.cells #[.pointer (some (xD 21 73)),xP w.heap.size,.int .u64 150] 158)) (by simp);have hg2:((w.alloc (.cells #[xP tb] 73)).alloc (.cells #[.pointer (some (xD 21 73)),xP w.heap.size,.int .u64 150] 158)).cell? (xD 7 0)=some (.iface 245 (.agg #[.pointer (some (xD 21 53))])):=zj _ (zj _ hT);unfold zeQ;go_enter func39,ntmps39;go_wp2;refine zn (λW=>(xB w W)/\w.heap.size+3<=W.heap.size/\W.heap[w.heap.size]?=some (.cells #[xP tb] 73 (0,0))/\W.heap[w.heap.size+2]?=some (.cells #[.pointer (some (xD 21 73)),xP w.heap.size,.int .u64 150] 158 (0,0))) ⟨zaU (zaU (zq w _) (zMK _) _) (zMK _) _,by simp,?_,?_⟩ ?_
 . rw[Below.heap_alloc _ _ _ (by simp;omega),Below.heap_alloc _ _ _ (by simp)];exact zc w _
 . have h9:=zc ((w.alloc (.cells #[xP tb] 73)).alloc (.cells #[.pointer (some (xD 21 73)),xP w.heap.size,.int .u64 150] 158)) (.cells #[.pointer (some (xD 21 73)),xP w.heap.size,.int .u64 150] 158);rw[zsb,zsb] at h9;exact h9
 rintro W0 ⟨HB0,hz0,HA0,HV0⟩;clear hNi hg2;obtain⟨v0,v1,v2,vf,vz⟩:=zL HV0;refine wp_loop_rounds 2 ?_;rw[rounds_succ];go_wp2_with (go_at_call 275;refine (zvv _ _ _).mono ?_;rintro e w1 ⟨rfl,HB1⟩);have hz1:=HB1.size;have hA1:=(HB1.block w.heap.size (by omega)).trans HA0;obtain⟨y0,y1,y2,yf,yz⟩:=zL ((HB1.block (w.heap.size+2) (by omega)).trans HV0);have Ht1:=(HB1.block tb (by have:=HB0.size;omega)).trans ((HB0.block tb htb).trans ht);have hE1:=Tryz.elemVP (xD w.heap.size 0) (xD tb 0) w1 (zu hA1).1;have hS1:=Tryz.setF tb w1.heap.size k (xI at') o1 o2 (w1.alloc (.cells #[k,xI at'] 71)) hk rfl (zc w1 _) ((Below.heap_alloc _ _ _ (ze Ht1)).trans Ht1);have hzt:=ze Ht1;clear v0 v1 v2 hA1;rw[rounds_succ];go_wp2;go_ret;refine⟨rfl,?_,?_⟩
 . exact (Below.heap_alloc _ _ _ (by simpa [World.setCell] using hzt)).trans (zdR Ht1 k (xI at'))
 exact (((((Fr.of_below HB0).trans' (Fr.of_below (S:=λj=>j=tb) HB1) (λ_ _ e=>e)).setCell (zM3 rfl) k).setCell (zM3 rfl) _).alloc _)
end
end Go.Proofs.YtbicmofihhjgbaaGreatDoor
