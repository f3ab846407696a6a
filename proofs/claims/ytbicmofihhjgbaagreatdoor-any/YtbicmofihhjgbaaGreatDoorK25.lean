/- Part 26 of the proof: MdlL ChkO CmpF. -/
import Derived.Test.YtbicmofihhjgbaaGreatDoorK24
set_option maxRecDepth 100000
set_option maxHeartbeats 8000000
namespace Go.Proofs.YtbicmofihhjgbaaGreatDoor
open Go.Proofs.Tryz
section
variable {c:Sc} {u:Tm} {g:Tm->Bool}
theorem zji:∀{ts:List Tm},u∈zdk g ts->∃t∈ts,u∈zaV g t:=by
 intro ts;induction ts with
 | nil=>intro h;rw[zdk] at h;cases h
 | cons x ts ih =>
   intro h;rw[zdk] at h;rcases List.mem_append.1 h with h|h
   . exact⟨x,List.mem_cons_self,h⟩
   . obtain⟨t,h1,h2⟩:=ih h;exact⟨t,List.mem_cons_of_mem _ h1,h2⟩
theorem Wf.vis {t:Tm}(h:Wf t)(hu:u∈zaV g t):Wf u:=by
 induction h generalizing u with
 | mk k a s nm n ts h hr ih =>
   rw[zaV] at hu;rcases List.mem_cons.1 hu with rfl|hu
   . exact Wf.mk k a s nm n ts h hr
   . split at hu
     . obtain⟨t,h1,h2⟩:=zji hu;exact ih t h1 h2
     . cases hu
theorem zjj:∀{l:List Vr} {i:Nat},zat c l i=[]->∀v∈l,zaA v≠0->c.has v.ck=true:=by
 intro l;induction l with
 | nil=>intro i _ v hv;cases hv
 | cons x l ih =>
   intro i h v hv hs;rw[zat,List.append_eq_nil_iff,List.append_eq_nil_iff] at h;rcases List.mem_cons.1 hv with rfl|hv
   . have h2:=h.1.2;cases hh:c.has v.ck with
     | true=>rfl
     | false=>rw[hh] at h2;simp[hs] at h2
   . exact ih h.2 v hv hs
theorem ziH:∀{ns:List ByteArray} {ps:List Nat},ns.length=ps.length->z7 c ns ps=[]->∀s∈ns,c.has s=true/\¬c.idx s<c.nd.ins:=by
 intro ns;induction ns with
 | nil=>intro ps _ _ s hs;cases hs
 | cons x ns ih =>
   intro ps hl h s hs;cases ps with
   | nil=>simp at hl
   | cons p ps =>
     rw[z7,List.append_eq_nil_iff] at h;rcases List.mem_cons.1 hs with rfl|hs
     . have h2:=h.1;constructor
       . cases hh:c.has s with
         | true=>rfl
         | false=>rw[hh] at h2;simp at h2
       . intro hi;rw[decide_eq_true hi] at h2;simp at h2
     . exact ih (by simpa using hl) h.2 s hs
theorem zgU {α:Type}{f:α->List Nat}{l:List α}(h:l.flatMap f=[]):∀x∈l,f x=[]:=List.flatMap_eq_nil_iff.1 h
theorem zex (hc:zbr c)(h:c.namesL=[]):zfw c:=by
 unfold Sc.namesL at h;rw[List.append_eq_nil_iff,List.append_eq_nil_iff,List.append_eq_nil_iff] at h;obtain⟨⟨⟨_,h2⟩,h3⟩,h4⟩:=h;have hT:∀q∈c.nd.eqs,∀u∈zaV za5 q.r,(zaJ u.k=true->c.has u.s=true)/\(u.k=4->∃d,c.called u.s=some d/\d.nd.ins=u.ts.length/\d.nd.outs=zda q u):=by
  intro q hq u hu;have h5:=zgU (zgU h4 q hq) u hu;unfold zaL at h5;rw[List.append_eq_nil_iff] at h5;refine⟨λhn=>?_,λhk=>?_⟩
  . cases hh:c.has u.s with
    | true=>rfl
    | false=>have:=h5.1;rw[hh,hn] at this;simp at this
  . have h6:=h5.2;cases hf:c.fits u (zda q u) with
    | false=>rw[hf,hk] at h6;simp at h6
    | true =>
      unfold Sc.fits at hf;split at hf
      . cases hf
      . rename_i d hd
        simp only[Bool.and_eq_true,beq_iff_eq] at hf;exact⟨d,hd,hf.1,hf.2⟩
 refine⟨λq hq u hu=>?_,zjj h2,λq hq s hs=>(ziH (hc.nd.eqs q hq).1 (zgU h3 q hq) s hs).1,λq hq h=>?_⟩
 . obtain⟨a1,a2⟩:=hT q hq u hu;exact⟨a1,λhk=>by obtain⟨d,b1,b2,_⟩:=a2 hk;exact⟨d,b1,b2⟩,((hc.nd.eqs q hq).2.2.1.vis hu).ar⟩
 . obtain⟨d,b1,_,b3⟩:=(hT q hq q.r (zey _ _)).2 ((hc.nd.eqs q hq).2.2.2 h);refine⟨d,b1,?_⟩;rw[b3];unfold zda;rw[if_pos rfl]
end
section
open Go.RowKit
variable {d:List Bool} {N b1 b2 bb kd lb sb:Nat} {S:Nat->Addr} {st:Option Nat} {c:Sc} {askv ev nmv nv:Value} {w w':World}
attribute [local go_sem ↓] Go.wp_at_zero Go.wp_at_succ
theorem Tryz.infoBl:(prog.info? 4).map (λi=>(i.zero,i.size,i.bytes))=some (some (.bool false),1,1):=by kernel_rfl
def zdC (l:List Bool):List Value:=l.map .bool
theorem zkG (n:Nat)(hc:n<=3145728)(w:World):(Instr.makeSlice 100 (xI (n:Int)) (xI (n:Int))).run prog w=.ok (xS w.heap.size n n) (w.alloc (.cells (zdC (List.replicate n false)).toArray 4)):=by
 obtain⟨i0,hi,hi0,hi1,hi2⟩:=info_parts Tryz.infoBl;have:=run_make (P:=prog) w 100 4 i0 _ underlying100 hi hi0 .i64 .i64 (n:Int) (n:Int) (by omega) (by omega) (by rw[hi2];omega) (by omega);refine this.trans ?_;rw[hi1];simp only[Int.toNat_natCast,Nat.mul_one];refine congrArg (λx=>Result.ok (xS w.heap.size n n) (w.alloc (.cells x 4))) ?_;unfold madeCells;apply Array.ext
 . simp[zdC]
 . intro j h1 h2;simp[zdC,Value.cells,Nat.mod_one]
theorem zdF {b k:Nat}{e:TypeId}{x:Bool}(h:w.heap[b]?=some (.cells (zdC d).toArray e (0,0)))(hk:d[k]?=some x):w.cell? (xD b k)=some (.bool x):=by simp[World.cell?,h,zdC,hk]
theorem zja (c:Sc)(ps:List Nat)(d:List Bool):zaC c [] ps d=([],d):=by cases ps <;> rfl
structure zdD (S:Nat->Addr) (kd lb bb sb:Nat) (nmv askv:Value) (N:Nat) (c:Sc) (ev nv:Value) (b1 b2:Nat) (d:List Bool) (st:Option Nat) (w:World):Prop where
 rp:RpI S kd lb bb sb nmv askv st w
 sc:ScV w N c ev nv
 x1:w.heap[b1]?=some (.cells #[ev,nv] 216 (0,0))
 x2:w.heap[b2]?=some (.cells (zdC d).toArray 4 (0,0))
 d1:¬b1=lb
 d2:¬b1=bb
 d3:¬b2=lb
 d4:¬b2=bb
 d5:¬b1=b2
 d6:¬b2=sb
 l1:N<=lb
 l2:N<=bb
 l3:N<=b2
 hN:N<=w.heap.size
theorem zdD.keep (h:zdD S kd lb bb sb nmv askv N c ev nv b1 b2 d st w)(hB:xB w w'):zdD S kd lb bb sb nmv askv N c ev nv b1 b2 d st w' :=
 ⟨h.rp.keep hB,h.sc.old (zm hB h.hN),(hB.block _ (ze h.x1)).trans h.x1,(hB.block _ (ze h.x2)).trans h.x2,h.d1,h.d2,h.d3,h.d4,h.d5,h.d6,h.l1,h.l2,h.l3,Nat.le_trans h.hN hB.size⟩
theorem zdD.told {st':Option Nat}(h:zdD S kd lb bb sb nmv askv N c ev nv b1 b2 d st w)(hr:RpI S kd lb bb sb nmv askv st' w')(hf:Fr (RT lb bb) w w'):zdD S kd lb bb sb nmv askv N c ev nv b1 b2 d st' w':=by have h1:=h.d1;have h2:=h.d2;have h3:=h.d3;have h4:=h.d4;have l1:=h.l1;have l2:=h.l2;exact⟨hr,h.sc.old (hf.old h.hN (λk e=>by rcases e with e|e;exact e▸l1;exact e▸l2)),(hf.block _ (ze h.x1) (λe=>by rcases e with e|e;exact h1 e;exact h2 e)).trans h.x1,(hf.block _ (ze h.x2) (λe=>by rcases e with e|e;exact h3 e;exact h4 e)).trans h.x2,h.d1,h.d2,h.d3,h.d4,h.d5,h.d6,h.l1,h.l2,h.l3,Nat.le_trans h.hN hf.size⟩
theorem zjw (d:List Bool)(i:Nat)(b:Bool):(zdC d).toArray.setIfInBounds i (.bool b)=(zdC (d.set i b)).toArray:=by unfold zdC;rw[List.map_set];simp
theorem zdD.put (h:zdD S kd lb bb sb nmv askv N c ev nv b1 b2 d st w)(i:Nat)(b:Bool):zdD S kd lb bb sb nmv askv N c ev nv b1 b2 (d.set i b) st (w.setCell (xD b2 i) (.bool b)):=by
 have l3:=h.l3;have hk:∀k,¬k=b2->(w.setCell (xD b2 i) (.bool b)).heap[k]?=w.heap[k]?:=λk hk=>Below.heap_setCell w _ _ k hk;refine⟨⟨(hk _ λe=>h.d3 e.symm).trans h.rp.l,(hk _ λe=>h.d4 e.symm).trans h.rp.b,(hk _ λe=>h.d6 e.symm).trans h.rp.s,h.rp.n1,h.rp.n2,h.rp.n3⟩,h.sc.old (λk hk'=>hk k (by omega)),(hk _ h.d5).trans h.x1,?_,h.d1,h.d2,h.d3,h.d4,h.d5,h.d6,h.l1,h.l2,h.l3,?_⟩
 . rw[zh _ _ _ _ h.x2,zjw]
 . have:=h.hN;simpa using this
theorem zpj {s:ByteArray}(h:c.has s=true):c.idx s<c.nd.vars.length:=by unfold Sc.has at h;unfold Sc.idx;obtain⟨j,hj⟩:=Option.isSome_iff_exists.1 h;rw[hj];have:=(zgO hj).2.1;simpa using this
theorem zgb (S:Nat->Addr)(kd lb bb sb:Nat)(nmv askv:Value)(N:Nat)(c:Sc)(hc:zbr c)(hn:zfw c)(ev nv:Value)(st:Option Nat)(w:World)(hR:RpI S kd lb bb sb nmv askv st w)(h:ScV w N c ev nv)(hN:N<=w.heap.size)(l1:N<=lb)(l2:N<=bb) :
 xK 69 #[.agg #[ev,nv],zam lb bb sb] w (λe w'=>e=.returned (.tuple #[])/\RpI S kd lb bb sb nmv askv (c.definesL.foldl rep st) w'/\Fr (RT lb bb) w w'):=by
 obtain⟨xe,cpe,nb,rfl,rfl,hnb⟩:=h.shape;have hzl:=ze hR.l;have hzb:=ze hR.b;have hzs:=ze hR.s;have hA0:∀o1 o2,((w.alloc o1).alloc o2).heap[w.heap.size]?=some o1/\((w.alloc o1).alloc o2).heap[w.heap.size+1]?=some o2:=λo1 o2=>al2 w o1 o2
 have hAs:zdD S kd lb bb sb nmv askv N c (xE xe c cpe) (xP nb) w.heap.size (w.heap.size+1) (List.replicate c.nd.vars.length false) st ((w.alloc (.cells #[xE xe c cpe,xP nb] 216)).alloc (.cells (zdC (List.replicate c.nd.vars.length false)).toArray 4)) :=
  ⟨hR.keep (zaD w _ _),h.old (zfr hN _ _),(hA0 _ _).1,(hA0 _ _).2,by omega,by omega,by omega,by omega,by omega,by omega,l1,l2,by omega,by simp;omega⟩
 have HAs:=za hAs;obtain⟨nb',vs,qv,xs,e9,hnt⟩:=h.nd;cases e9;obtain⟨xv,cpv,rfl⟩:=zB hnt.vown;obtain⟨xq,cpq,rfl⟩:=zB hnt.own;obtain⟨m0,m1,m2,m3,m4,m5,mf,mz⟩:=zt hnt.blk;have HNt:=za hnt;have hfew:=hnt.few;have h16:c.nd.eqs.length<=9223372036854775807:=by
  rcases hnt.own.2 with ⟨_,h⟩|⟨g,cap,cur,hv,_,_,h3,h4,_⟩
  . omega
  . unfold maxLen at h4;omega
 have mk:=zkG c.nd.vars.length (by omega);have HFr0:=za (zy (T:=RT lb bb) (zaD w (.cells #[xE xe c cpe,xP nb] 216) (.cells (zdC (List.replicate c.nd.vars.length false)).toArray 4)));have hnw:nb<w.heap.size:=by omega
 clear hR h hA0 hAs hnt;unfold zam;go_enter func69,ntmps69;go_wp2_with fail;go_loopg [27] (c.nd.eqs.length+1) (λj i wr=>∃(k:Nat) (d:List Bool) (st':Option Nat),k+j=c.nd.eqs.length+1/\k<=c.nd.eqs.length/\i=xI k/\Hid (zdD S kd lb bb sb nmv askv N c (xE xe c cpe) (xP nb) w.heap.size (w.heap.size+1) d st' wr)/\Hid (d.length=c.nd.vars.length)/\Hid ((zcN c c.nd.eqs (List.replicate c.nd.vars.length false)).1.foldl rep st=(zcN c (c.nd.eqs.drop k) d).1.foldl rep st'/\(zcN c c.nd.eqs (List.replicate c.nd.vars.length false)).2=(zcN c (c.nd.eqs.drop k) d).2)/\Hid (Fr (RT lb bb) w wr));case atStart=>exact⟨0,_,st,by omega,Nat.zero_le _,rfl,HAs.o,List.length_replicate,⟨rfl,rfl⟩,HFr0.o⟩
 case round =>
  clear HAs HFr0 m0 m1 m2 m3 m4 m5 mf mz mk;obtain⟨k,d,st',hkj,hk,rfl,HI,Hdl,HD,HF⟩:=hrel;have hO:=HF.o.old hN (λk e=>by rcases e with e|e;exact e▸l1;exact e▸l2);by_cases hlt:k<c.nd.eqs.length
  . obtain⟨wo,rfl⟩:∃wo,wo=wr:=⟨_,rfl⟩;obtain⟨gko,rfl⟩:∃g,g=gk:=⟨_,rfl⟩;obtain⟨q,hq⟩:∃q,c.nd.eqs[k]?=some q:=⟨_,zsc hlt⟩;have hN2:=HNt.o.old hO;obtain⟨g,lv,rv,rfl,c0,c1,c2,hE⟩:=zcd hN2.own hN2.eqs hq rfl;obtain⟨rb,_,_,rfl,_⟩:=hE.tt.ptr;obtain⟨xl,cl,rfl⟩:=zB hE.own;have hgN:=HNt.o.elo g rfl;have HEq:=za hE;have hqm:=List.mem_of_getElem? hq;have hql:=(hc.nd.eqs q hqm).1;have Hql:=za hql;have HLf:=za (hn.left q hqm);have hNr:=HI.o.hN;have hDq:zcN c (c.nd.eqs.drop k) d=((zaC c q.ns q.ps d).1++(zcN c (c.nd.eqs.drop (k+1)) (zaC c q.ns q.ps d).2).1,(zcN c (c.nd.eqs.drop (k+1)) (zaC c q.ns q.ps d).2).2):=by obtain⟨h1,h2⟩:=List.getElem?_eq_some_iff.1 hq;rw[List.drop_eq_getElem_cons h1,zcN,h2]
    have HDq:=za hDq;have h17:q.ns.length<=9223372036854775807:=by
     rcases hE.own.2 with ⟨_,h⟩|⟨g,cap,cur,hv,_,_,h3,h4,_⟩
     . omega
     . unfold maxLen at h4;omega
    have HkX:=za (HI.o.keep (zq wo (.cells #[.slice xl q.ns.length cl,xI q.a,xP rb] 184)));have HwX:=za (HF.o.alloc (.cells #[.slice xl q.ns.length cl,xI q.a,xP rb] 184));clear hN2 hE hq hql hO hDq hqm;go_wp2_with fail;go_loopg [34] (q.ns.length+1) (λj i wr=>∃(k2:Nat) (d2:List Bool) (st2:Option Nat),k2+j=q.ns.length+1/\k2<=q.ns.length/\i=xI k2/\Hid (zdD S kd lb bb sb nmv askv N c (xE xe c cpe) (xP nb) w.heap.size (w.heap.size+1) d2 st2 wr)/\Hid (d2.length=c.nd.vars.length)/\Hid ((zaC c q.ns q.ps d).1.foldl rep st'=(zaC c (q.ns.drop k2) (q.ps.drop k2) d2).1.foldl rep st2/\(zaC c q.ns q.ps d).2=(zaC c (q.ns.drop k2) (q.ps.drop k2) d2).2)/\Hid (Fr (RT lb bb) w wr));case atStart=>exact⟨0,d,st',by omega,Nat.zero_le _,rfl,HkX.o,Hdl.o,⟨rfl,rfl⟩,HwX.o⟩
    case round =>
     clear HkX HwX c0 c1 c2;obtain⟨k2,d2,st2,hkj2,hk2,rfl,HI2,Hdl2,HD2,HF2⟩:=hrel;by_cases hlt2:k2<q.ns.length
     . obtain⟨s,hs⟩:∃s,q.ns[k2]?=some s:=⟨_,zsc hlt2⟩;obtain⟨p,hp⟩:∃p,q.ps[k2]?=some p:=⟨_,zsc (by have:=Hql.o;omega)⟩;have hO2:=HF2.o.old hN (λk e=>by rcases e with e|e;exact e▸l1;exact e▸l2);have hOe:Old N wo wr:=λb hb=>(hO2 b hb).trans ((HF.o.old hN (λk e=>by rcases e with e|e;exact e▸l1;exact e▸l2)) b hb).symm;obtain⟨gl,rfl,c0,c1⟩:=zbe (HEq.o.old hOe).own hs hp rfl;have hglN:=HEq.o.lo gl rfl;have hNs:=HI2.o.hN;have hha:=HLf.o s (List.mem_of_getElem? hs);have hix:=zpj hha;obtain⟨b,hb⟩:∃b,d2[c.idx s]?=some b:=⟨_,zsc (by have:=Hdl2.o;omega)⟩;have HIx:=za (zaz s (p:Int) (wr.alloc (.cells #[.string s,xI p] 117)) (HI2.o.keep (zq wr _)).sc (HI2.o.keep (zq wr _)).hN);obtain⟨s0,s1,sf,sz⟩:=zp HI2.o.x1;have hDe:zaC c (q.ns.drop k2) (q.ps.drop k2) d2=((if b=true then [p] else [])++(zaC c (q.ns.drop (k2+1)) (q.ps.drop (k2+1)) (d2.set (c.idx s) true)).1,(zaC c (q.ns.drop (k2+1)) (q.ps.drop (k2+1)) (d2.set (c.idx s) true)).2):=(by obtain⟨h1,h2⟩:=List.getElem?_eq_some_iff.1 hs;obtain⟨h3,h4⟩:=List.getElem?_eq_some_iff.1 hp;rw[List.drop_eq_getElem_cons h1,List.drop_eq_getElem_cons h3,zaC,h2,h4];rw[show d2.getD (c.idx s) false=b by rw[List.getD_eq_getElem?_getD,hb];rfl]);have HT:Hid ((zaC c q.ns q.ps d).1.foldl rep st'=(zaC c (q.ns.drop (k2+1)) (q.ps.drop (k2+1)) (d2.set (c.idx s) true)).1.foldl rep ((if b=true then [p] else []).foldl rep st2)/\(zaC c q.ns q.ps d).2=(zaC c (q.ns.drop (k2+1)) (q.ps.drop (k2+1)) (d2.set (c.idx s) true)).2):=(by have a:=HD2.o;rw[hDe,List.foldl_append] at a;exact a);have i0:(0:Int)<=(c.idx s:Int):=(by omega);have i1:(c.idx s:Int)<(c.nd.vars.length:Int):=(by omega);have Hb:=za hb;clear hO2 hOe hs hp hb hDe HD2;cases b with
       | false =>
         go_wp2_with (go_at_call 105;refine HIx.o.mono ?_;rintro e w1 ⟨rfl,hB1⟩;have HB1:=za hB1;have HI3:=za (HI2.o.keep (zE hB1));have e0:=zdF HI3.o.x2 Hb.o;have e2:=zai HI3.o.x2 (c.idx s);have e3:=ze HI3.o.x2;clear hB1);go_roundg (gk-1);case measure=>omega
         exact⟨k2+1,d2.set (c.idx s) true,st2,by omega,by omega,by go_num,HI3.o.put _ _,by unfold Hid;rw[List.length_set];exact Hdl2.o,HT.o,(HF2.o.belowed (zE HB1.o)).setNew (by omega) _ _⟩
       | true =>
         go_wp2_with (first
          | (go_at_call 140;refine (zaa S kd lb bb sb nmv askv st2 p _ HI3.o.rp).mono ?_;rintro e w2 ⟨rfl,hRt,hFt⟩;have HI4:=za (HI3.o.told hRt hFt);have HFt:=za hFt;have f0:=zdF HI4.o.x2 Hb.o;have f2:=zai HI4.o.x2 (c.idx s);have f3:=ze HI4.o.x2;clear hRt hFt)
          | (go_at_call 105;refine HIx.o.mono ?_;rintro e w1 ⟨rfl,hB1⟩;have HB1:=za hB1;have HI3:=za (HI2.o.keep (zE hB1));have e0:=zdF HI3.o.x2 Hb.o;have e1:xC w1 wr.heap.size 1 (xI p):=zd HB1.o (zp (zc wr _)).2.1 (by simp);clear hB1))
         go_roundg (gk-1);case measure=>omega
         exact⟨k2+1,d2.set (c.idx s) true,rep st2 p,by omega,by omega,by go_num,HI4.o.put _ _,by unfold Hid;rw[List.length_set];exact Hdl2.o,HT.o,((HF2.o.belowed (zE HB1.o)).trans HFt.o).setNew (by omega) _ _⟩
     . have ek:k2=q.ns.length:=(by omega);subst ek;rw[List.drop_length,zja] at HD2;go_wp2_with fail;go_roundg (gko-1);case measure=>omega
       refine⟨k+1,d2,st2,by omega,by omega,by go_num,HI2.o,Hdl2.o,?_,HF2.o⟩;have a:=HD.o;have b:=HD2.o;rw[HDq.o,b.2] at a;refine⟨a.1.trans ?_,a.2⟩;rw[List.foldl_append,b.1];rfl
  . have ek:k=c.nd.eqs.length:=by omega
    subst ek;rw[List.drop_length,zcN] at HD;obtain⟨hD1,hD2⟩:=HD.o;have HT:Hid (c.definesL.foldl rep st=(zb1 c.nd.ins d c.nd.vars 0).foldl rep st'):=(by unfold Hid Sc.definesL;simp only[List.foldl_append];rw[hD1,hD2];rfl);clear HD hD1 hD2;obtain⟨s0,s1,sf,sz⟩:=zp HI.o.x1;obtain⟨n0,n1,n2,n3,n4,n5,nf,nz⟩:=zt ((hO nb HNt.o.lo).trans HNt.o.blk);clear hO;go_wp2_with fail;go_loopg [62] (c.nd.vars.length+1) (λj i wr=>∃(k:Nat) (st2:Option Nat),k+j=c.nd.vars.length+1/\k<=c.nd.vars.length/\i=xI k/\Hid (zdD S kd lb bb sb nmv askv N c (xE xe c cpe) (xP nb) w.heap.size (w.heap.size+1) d st2 wr)/\Hid ((zb1 c.nd.ins d c.nd.vars 0).foldl rep st'=(zb1 c.nd.ins d (c.nd.vars.drop k) k).foldl rep st2)/\Hid (Fr (RT lb bb) w wr));case atStart=>exact⟨0,st',by omega,Nat.zero_le _,rfl,HI.o,rfl,HF.o⟩
    case round =>
     clear HI HF s0 s1 sf sz n0 n1 n2 n3 n4 n5 nf nz hkj hk hlt;obtain⟨k,st2,hkj,hk,rfl,HI,HD,HF⟩:=hrel;have hO:=HF.o.old hN (λk e=>by rcases e with e|e;exact e▸l1;exact e▸l2);by_cases hlt:k<c.nd.vars.length
     . obtain⟨v,hv⟩:∃v,c.nd.vars[k]?=some v:=⟨_,zsc hlt⟩;obtain⟨g,rfl,c0,c1,c2,c3,c4,c5,c6⟩:=zaM (HNt.o.old hO).vown hv;have hgN:=HNt.o.vlo g rfl;obtain⟨bk,hbk⟩:∃bk,d[k]?=some bk:=⟨_,zsc (by have:=Hdl.o;omega)⟩;have hD1:zb1 c.nd.ins d (c.nd.vars.drop k) k=(if (decide (c.nd.ins<=k)&&!bk)=true then [v.a] else [])++zb1 c.nd.ins d (c.nd.vars.drop (k+1)) (k+1):=(by obtain⟨h1,h2⟩:=List.getElem?_eq_some_iff.1 hv;rw[List.drop_eq_getElem_cons h1,zb1,h2];rw[show d.getD k false=bk by rw[List.getD_eq_getElem?_getD,hbk];rfl]);have HT2:Hid ((zb1 c.nd.ins d c.nd.vars 0).foldl rep st'=(zb1 c.nd.ins d (c.nd.vars.drop (k+1)) (k+1)).foldl rep ((if (decide (c.nd.ins<=k)&&!bk)=true then [v.a] else []).foldl rep st2)):=(by unfold Hid;rw[HD.o,hD1,List.foldl_append]);obtain⟨s0,s1,sf,sz⟩:=zp HI.o.x1;obtain⟨n0,n1,n2,n3,n4,n5,nf,nz⟩:=zt ((hO nb HNt.o.lo).trans HNt.o.blk);have b0:xC wr (w.heap.size+1) k (.bool bk):=zdF HI.o.x2 hbk;have bz:=ze HI.o.x2;have hnr:nb<wr.heap.size:=(by omega);have dlen:d.length=c.nd.vars.length:=Hdl.o;have i0:(0:Int)<=(k:Int):=(by omega);have i1:(k:Int)<(c.nd.vars.length:Int):=(by omega);have HTell:=za (λo=>zaa S kd lb bb sb nmv askv st2 v.a (wr.alloc o) (HI.o.rp.keep (zq wr o)));clear hD1 HD hO dlen hbk hv n0 n1 n2 n4 n5;by_cases hin:c.nd.ins<=k
       . have hin':(c.nd.ins:Int)<=(k:Int):=(by omega);cases bk with
         | true =>
           simp only[hin,decide_true,Bool.not_true,Bool.and_false] at HT2;clear hin;go_wp2_with fail;go_roundg (gk-1);case measure=>omega
           exact⟨k+1,st2,by omega,by omega,by go_num,HI.o.keep (zq wr _),HT2.o,HF.o.alloc _⟩
         | false =>
           simp only[hin,decide_true,Bool.not_false,Bool.and_true] at HT2;clear hin;go_wp2_with (go_at_call 140;refine (HTell.o _).mono ?_;rintro e w2 ⟨rfl,hRt,hFt⟩;have HRt:=za hRt;have HFt:=za hFt;clear hRt hFt);go_roundg (gk-1);case measure=>omega
           exact⟨k+1,rep st2 v.a,by omega,by omega,by go_num,(HI.o.keep (zq wr _)).told HRt.o HFt.o,HT2.o,(HF.o.alloc _).trans HFt.o⟩
       . have hin':¬(c.nd.ins:Int)<=(k:Int):=(by omega);simp only[hin,decide_false,Bool.false_and] at HT2;clear hin;go_wp2_with fail;go_roundg (gk-1);case measure=>omega
         exact⟨k+1,st2,by omega,by omega,by go_num,HI.o.keep (zq wr _),HT2.o,HF.o.alloc _⟩
     . have ek:k=c.nd.vars.length:=(by omega);subst ek;rw[List.drop_length,zb1] at HD;clear hO;go_wp2_with fail;first|go_end0|refine bodyPost_ret (results_none rfl _ _ _) rfl ?_
       refine⟨rfl,?_,HF.o⟩;rw[HT.o,HD.o];exact HI.o.rp
end
section
open Go.RowKit
variable {K:Cd} {N base:Nat} {c:Sc}
attribute [local go_sem ↓] Go.wp_at_zero Go.wp_at_succ
def zlY (k:Nat):Nat:=if k=5 then 5 else k-3
def zbt (w:World):Prop:=∀k,(k=5∨10<=k)->k<=23->w.cell? (xD 13 k)=some (.int .u8 (zlY k:Nat))
theorem zbt.old {w w':World}(h:zbt w)(ho:Old N w w')(hN:21<=N):zbt w':=λk h1 h2=>(World.cell?_of_block (w:=w) (a:=(xD 13 k)) (ho 13 (Nat.lt_of_lt_of_le (show 13<21 by decide) hN))).trans (h k h1 h2)
def zeb (bod:Sc->Nat->Cd->Cd)(c:Sc)(base fu:Nat)(K:Cd)(t:Tm)(k:Nat×Nat):Cd :=
 match c.called t.s with
 | none=>K
 | some d =>
   let b:=base+c.nd.vars.length+1
   (bod d b ((K.adds ((List.range t.ts.length).reverse.map λi=>(2,((b+i:Nat):Int)))).adds (whM c base fu k))).adds ((List.range d.nd.outs).map λi=>(1,((b+(d.nd.ins+i):Nat):Int)))
def zal (bod:Sc->Nat->Cd->Cd)(c:Sc)(base fu:Nat)(s:Cd×List Lt)(t:Tm)(k:Nat×Nat):Cd×List Lt :=
 if t.k<=2 then (s.1.add 0 (zav t),s.2)
 else if t.k=3 then (s.1.add 1 ((base+c.idx t.s:Nat):Int),s.2)
 else if t.k=7∨t.k=8 then s
 else if t.k=6 then (s.1.add 6 ((base+c.idx t.s:Nat):Int),s.2)
 else if t.k=9 then ((s.1.cell (zhD t.ts)).add 3 s.1.cells.length,s.2++(match t.ts with|_::a::_=>[⟨s.1.cells.length,a,k⟩]|_=>[]))
 else if t.k=4 then (zeb bod c base fu s.1 t k,s.2)
 else (s.1.add (zlY t.k) 0,s.2)
def BdK (K:Cd):Prop:=K.row.length<=1000000/\K.cells.length<=1000000
def BdW (s:Cd×List Lt):Prop:=BdK s.1/\s.2.length<=1000000
theorem zmN (c:Sc)(s:ByteArray):c.idx s<=c.nd.vars.length:=by
 unfold Sc.idx;cases h:c.nd.find s with
 | none=>simp
 | some j=>have:=(zgO h).2.1;simp;omega
theorem zb3 {op:Nat}{x:Int}(h:BdK (K.add op x)):BdK K:=by unfold BdK Cd.add at h;simp at h;exact⟨by omega,h.2⟩
theorem zb4 {l:List (Nat×Int)}(h:BdK (K.adds l)):BdK K:=by unfold BdK Cd.adds at h;simp at h;exact⟨by omega,h.2⟩
theorem zi7 {bod:Sc->Nat->Cd->Cd}(hb:∀d b K,BdK (bod d b K)->BdK K){fu:Nat}(s:Cd×List Lt)(t:Tm)(k:Nat×Nat)(h:BdW (zal bod c base fu s t k)):BdW s:=by
 unfold zal at h;split at h
 . exact⟨zb3 h.1,h.2⟩
 split at h
 . exact⟨zb3 h.1,h.2⟩
 split at h
 . exact h
 split at h
 . exact⟨zb3 h.1,h.2⟩
 split at h
 . have h1:=zb3 h.1;refine⟨⟨h1.1,?_⟩,?_⟩
   . have:=h1.2;unfold Cd.cell at this;simp at this;omega
   . have:=h.2;simp at this;omega
 split at h
 . refine⟨?_,h.2⟩;have h1:=h.1;unfold zeb at h1;split at h1
   . exact h1
   . exact zb4 (zb4 (hb _ _ _ (zb4 h1)))
 . exact⟨zb3 h.1,h.2⟩
theorem zlB {B wb kb qb cb:Nat}{ev nv lv:Value}(bod:Sc->Nat->Cd->Cd)(fu:Nat)(hN21:21<=N)(hbase:base<=100000)(t:Tm)(HWf:Wf t)(v:Value)(k:Nat×Nat)(s:Cd×List Lt)(w:World)(HT:TT w N t v)(H:WL N B wb kb qb cb base c ev nv lv s.1 s.2 w)(Hop:zbt w)(_hbd:BdW (zal bod c base fu s t k))(hbs:BdW s)
 (Hcal:t.k=4->∀W,WL N B wb kb qb cb base c ev nv lv s.1 s.2 W->TT W N t v->zbt W->xK 198 #[xP wb,xP qb,v,ckV k] W (λe w'=>e=.returned (.tuple #[])/\(∃lv',WL N B wb kb qb cb base c ev nv lv' (zeb bod c base fu s.1 t k) s.2 w')/\FT (CT kb qb) W w')) :
 xK 166 #[xP wb,xP qb,v,ckV k] w (λe w'=>e=.returned (.tuple #[])/\(∃lv',WL N B wb kb qb cb base c ev nv lv' (zal bod c base fu s t k).1 (zal bod c base fu s t k).2 w')/\FT (CT kb qb) w w'):=by
 obtain⟨xe,cpe,nb,rfl,rfl,hnb⟩:=H.wi.qi.sc.shape;have hfew:c.nd.vars.length<=16:=by obtain⟨_,_,_,_,_,hnt⟩:=H.wi.qi.sc.nd;exact hnt.few
 have hidx:=zmN c t.s;obtain⟨b,args,vs,rfl,hb,HBk,_⟩:=HT.ptr;have HX:=za (CX.new H (.cells #[xI (k.1:Nat),xI (k.2:Nat)] 198));have hbs1:s.1.row.length<=1000000:=hbs.1.1;have hbs2:s.1.cells.length<=1000000:=hbs.1.2;have hbs3:s.2.length<=1000000:=hbs.2;have hNw:=H.wi.qi.hN;obtain⟨Sf,HSf⟩:∃Sf,zal bod c base fu s t k=Sf:=⟨_,rfl⟩;rw[HSf];unfold ckV;go_enter func166,ntmps166;go_upto_region 1 with fail;refine zn (λW=>CX N B wb kb qb cb base c (xE xe c cpe) (xP nb) w w.heap.size (.cells #[xI (k.1:Nat),xI (k.2:Nat)] 198) lv s.1 s.2 W) HX.o ?_;intro W hX;have hO:=hX.old H;obtain⟨m0,m1,m2,m3,m4,m5,mf,mz⟩:=zt ((hO b hb).trans HBk);obtain⟨z0,z1,zf,zz⟩:=zp hX.bx;have HTW:=za (HT.old hO);have HopW:=za (Hop.old hO hN21);have HX:=za hX;by_cases hk:t.k=0
 . have HE:Hid (zal bod c base fu s t k=(s.1.add 0 (zav t),s.2)):=by unfold Hid zal;rw[if_pos (by omega)]
   have m0':W.cell? (xD b 0)=some (xI 0):=(by rw[m0,hk];rfl)
   go_wp2_with (first
    | (go_at_call 56;refine (HX.o.add 0 (zav t) hbs1).mono ?_;rintro e w3 ⟨rfl,hX3⟩;have HX3:=za hX3)
    | (go_at_call 196;refine (zdp t HWf _ _ HTW.o).mono ?_;rintro e w2 ⟨rfl,rfl⟩))
   first|go_end0|refine bodyPost_ret (results_none rfl _ _ _) rfl ?_
   rw[<- HSf,HE.o];exact⟨rfl,⟨_,HX3.o.wl⟩,HX3.o.ft⟩
 have h0:=hk;by_cases hk:t.k=1
 . have HE:Hid (zal bod c base fu s t k=(s.1.add 0 (zav t),s.2)):=by unfold Hid zal;rw[if_pos (by omega)]
   have m0':W.cell? (xD b 0)=some (xI 1):=(by rw[m0,hk];rfl)
   go_wp2_with (first
    | (go_at_call 56;refine (HX.o.add 0 (zav t) hbs1).mono ?_;rintro e w3 ⟨rfl,hX3⟩;have HX3:=za hX3)
    | (go_at_call 196;refine (zdp t HWf _ _ HTW.o).mono ?_;rintro e w2 ⟨rfl,rfl⟩))
   first|go_end0|refine bodyPost_ret (results_none rfl _ _ _) rfl ?_
   rw[<- HSf,HE.o];exact⟨rfl,⟨_,HX3.o.wl⟩,HX3.o.ft⟩
 have h1:=hk;by_cases hk:t.k=2
 . have HE:Hid (zal bod c base fu s t k=(s.1.add 0 (zav t),s.2)):=by unfold Hid zal;rw[if_pos (by omega)]
   have m0':W.cell? (xD b 0)=some (xI 2):=(by rw[m0,hk];rfl)
   go_wp2_with (first
    | (go_at_call 56;refine (HX.o.add 0 (zav t) hbs1).mono ?_;rintro e w3 ⟨rfl,hX3⟩;have HX3:=za hX3)
    | (go_at_call 196;refine (zdp t HWf _ _ HTW.o).mono ?_;rintro e w2 ⟨rfl,rfl⟩))
   first|go_end0|refine bodyPost_ret (results_none rfl _ _ _) rfl ?_
   rw[<- HSf,HE.o];exact⟨rfl,⟨_,HX3.o.wl⟩,HX3.o.ft⟩
 have h2:=hk;by_cases hk:t.k=3
 . have HE:Hid (zal bod c base fu s t k=(s.1.add 1 ((base+c.idx t.s:Nat):Int),s.2)):=by unfold Hid zal;rw[if_neg (by omega),if_pos hk]
   have m0':W.cell? (xD b 0)=some (xI 3):=(by rw[m0,hk];rfl)
   go_wp2_with (first
    | (go_at_call 56;refine (HX1.o.add 1 ((base+c.idx t.s:Nat):Int) hbs1).mono ?_;rintro e w3 ⟨rfl,hX3⟩;have HX3:=za hX3)
    | (go_at_call 107;refine (zfz t.s (t.nm:Int) _ HX.o.wl.wi.qi (by omega) (by omega)).mono ?_;rintro e w2 ⟨rfl,hB2⟩;have HX1:=za (HX.o.keep hB2)))
   first|go_end0|refine bodyPost_ret (results_none rfl _ _ _) rfl ?_
   rw[<- HSf,HE.o];exact⟨rfl,⟨_,HX3.o.wl⟩,HX3.o.ft⟩
 have h3:=hk;by_cases hk:t.k=6
 . have HE:Hid (zal bod c base fu s t k=(s.1.add 6 ((base+c.idx t.s:Nat):Int),s.2)):=by unfold Hid zal;rw[if_neg (by omega),if_neg (by omega),if_neg (by omega),if_pos hk]
   have m0':W.cell? (xD b 0)=some (xI 6):=(by rw[m0,hk];rfl)
   go_wp2_with (first
    | (go_at_call 56;refine (HX1.o.add 6 ((base+c.idx t.s:Nat):Int) hbs1).mono ?_;rintro e w3 ⟨rfl,hX3⟩;have HX3:=za hX3)
    | (go_at_call 107;refine (zfz t.s (t.nm:Int) _ HX.o.wl.wi.qi (by omega) (by omega)).mono ?_;rintro e w2 ⟨rfl,hB2⟩;have HX1:=za (HX.o.keep hB2)))
   first|go_end0|refine bodyPost_ret (results_none rfl _ _ _) rfl ?_
   rw[<- HSf,HE.o];exact⟨rfl,⟨_,HX3.o.wl⟩,HX3.o.ft⟩
 have h6:=hk;by_cases hk:t.k=7
 . have HE:Hid (zal bod c base fu s t k=s):=by unfold Hid zal;rw[if_neg (by omega),if_neg (by omega),if_pos (by omega)]
   have m0':W.cell? (xD b 0)=some (xI 7):=(by rw[m0,hk];rfl);go_wp2_with fail;first|go_end0|refine bodyPost_ret (results_none rfl _ _ _) rfl ?_
   rw[<- HSf,HE.o];exact⟨rfl,⟨_,HX.o.wl⟩,HX.o.ft⟩
 have h7:=hk;by_cases hk:t.k=8
 . have HE:Hid (zal bod c base fu s t k=s):=by unfold Hid zal;rw[if_neg (by omega),if_neg (by omega),if_pos (by omega)]
   have m0':W.cell? (xD b 0)=some (xI 8):=(by rw[m0,hk];rfl);go_wp2_with fail;first|go_end0|refine bodyPost_ret (results_none rfl _ _ _) rfl ?_
   rw[<- HSf,HE.o];exact⟨rfl,⟨_,HX.o.wl⟩,HX.o.ft⟩
 have h8:=hk;by_cases hk:t.k=9
 . have har:=HWf.ar;rw[hk] at har;obtain⟨a0,a1,hts⟩:∃a0 a1,t.ts=[a0,a1]:=by
    rcases hx:t.ts with _|⟨a0,_|⟨a1,_|⟨a2,l⟩⟩⟩
    . rw[hx] at har;simp[arB] at har
    . rw[hx] at har;simp[arB] at har
    . exact⟨a0,a1,rfl⟩
    . rw[hx] at har;simp[arB] at har
   have HE:Hid (zal bod c base fu s t k=((s.1.cell (zav a0)).add 3 s.1.cells.length,s.2++[⟨s.1.cells.length,a1,k⟩])):=(by unfold Hid zal;rw[if_neg (by omega),if_neg (by omega),if_neg (by omega),if_neg (by omega),if_pos hk,hts,zhD]);have HRe:=za (zhK t a0 a1 hts HWf (xP b) k s.1 s.2 W HTW.o HX.o.wl hbs1 hbs2 hbs3);unfold ckV at HRe;have m0':W.cell? (xD b 0)=some (xI 9):=(by rw[m0,hk];rfl);go_wp2_with (go_at_call 197;refine HRe.o.mono ?_;rintro e w3 ⟨rfl,⟨lv3,hL3⟩,hF3⟩;have HX3:=za (HX.o.stepL hL3 hF3));first|go_end0|refine bodyPost_ret (results_none rfl _ _ _) rfl ?_
   rw[<- HSf,HE.o];exact⟨rfl,⟨_,HX3.o.wl⟩,HX3.o.ft⟩
 have h9:=hk;by_cases hk:t.k=4
 . have HE:Hid (zal bod c base fu s t k=(zeb bod c base fu s.1 t k,s.2)):=by unfold Hid zal;rw[if_neg (by omega),if_neg (by omega),if_neg (by omega),if_neg (by omega),if_neg (by omega),if_pos hk]
   have HCa:=za (Hcal hk W HX.o.wl HTW.o HopW.o);unfold ckV at HCa;have m0':W.cell? (xD b 0)=some (xI 4):=(by rw[m0,hk];rfl);go_wp2_with (go_at_call 198;refine HCa.o.mono ?_;rintro e w3 ⟨rfl,⟨lv3,hL3⟩,hF3⟩;have HX3:=za (HX.o.stepL hL3 hF3));first|go_end0|refine bodyPost_ret (results_none rfl _ _ _) rfl ?_
   rw[<- HSf,HE.o];exact⟨rfl,⟨_,HX3.o.wl⟩,HX3.o.ft⟩
 have h4:=hk;have HE:Hid (zal bod c base fu s t k=(s.1.add (zlY t.k) 0,s.2)):=by unfold Hid zal;rw[if_neg (by omega),if_neg (by omega),if_neg (by omega),if_neg (by omega),if_neg (by omega),if_neg (by omega)]
 have h23:t.k<=23:=by
  have har:=HWf.ar;unfold arB at har;rcases Nat.lt_or_ge 23 t.k with H|H
  . rw[if_neg (by omega),if_neg (by omega),if_neg (by omega),if_neg (by omega),if_neg (by omega),if_neg (by omega),if_neg (by omega),if_neg (by omega)] at har;cases har
  . exact H
 have ho:=HopW.o t.k (by omega) h23;have g0:¬(t.k:Int)=0:=by omega
 have g1:¬(t.k:Int)=1:=by omega
 have g2:¬(t.k:Int)=2:=by omega
 have g3:¬(t.k:Int)=3:=by omega
 have g4:¬(t.k:Int)=4:=by omega
 have g6:¬(t.k:Int)=6:=by omega
 have g7:¬(t.k:Int)=7:=by omega
 have g8:¬(t.k:Int)=8:=by omega
 have g9:¬(t.k:Int)=9:=by omega
 have i0:(0:Int)<=(t.k:Int):=by omega
 have i1:(t.k:Int)<24:=by omega
 go_wp2_with (go_at_call 56;refine (HX.o.add (zlY t.k) 0 hbs1).mono ?_;rintro e w3 ⟨rfl,hX3⟩;have HX3:=za hX3);first|go_end0|refine bodyPost_ret (results_none rfl _ _ _) rfl ?_
 rw[<- HSf,HE.o];exact⟨rfl,⟨_,HX3.o.wl⟩,HX3.o.ft⟩
end
end Go.Proofs.YtbicmofihhjgbaaGreatDoor
