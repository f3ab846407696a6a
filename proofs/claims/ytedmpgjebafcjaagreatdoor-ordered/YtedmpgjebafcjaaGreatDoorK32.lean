/- Part 33 of the proof: ChkM ChkN MdlL ChkO. -/
import Derived.Test.YtedmpgjebafcjaaGreatDoorK31
set_option maxRecDepth 100000
set_option maxHeartbeats 8000000
namespace Go.Proofs.YtedmpgjebafcjaaGreatDoor
section
open Go.RowKit
attribute [local go_sem ↓] Go.wp_at_zero Go.wp_at_succ
def zoD (S:Nat->Addr) (kd lb bb sb:Nat) (nmv askv:Value) (N:Nat) (f:FuncId) (L:Sc->List Nat) (c:Sc):Prop :=
 ∀(ev nv:Value) (st:Option Nat) (w:World),RpI S kd lb bb sb nmv askv st w->ScV w N c ev nv->N<=w.heap.size ->
  Calls Tryz.prog f #[.agg #[ev,nv],zam lb bb sb] w (λe w'=>e=.returned (.tuple #[])/\RpI S kd lb bb sb nmv askv ((L c).foldl rep st) w'/\Fr (RT lb bb) w w')
def zgj (ns:List Nod) (k:Nat):List Sc:=(List.range k).filterMap λi=>(ns[i]?).map λn=>⟨ns.take i,n⟩
theorem zkP {ns:List Nod} {k:Nat} {n:Nod} (h:ns[k]?=some n):zgj ns (k+1)=zgj ns k++[⟨ns.take k,n⟩]:=by
 unfold zgj
 rw [List.range_succ,List.filterMap_append]
 simp [h]
theorem zp9 {ns:List Nod} {k:Nat} {n:Nod} (h:ns[k]?=some n):(⟨ns.take k,n⟩:Sc)∈scs ns:=by
 unfold scs
 rw [List.mem_filterMap]
 exact ⟨k,List.mem_range.2 (List.getElem?_eq_some_iff.1 h).1,by rw [h];rfl⟩
theorem zoq (S:Nat->Addr) (kd lb bb sb:Nat) (nmv askv:Value) (N:Nat) (f:FuncId) (hcf:zH f) (L:Sc->List Nat) (ns:List Nod) (hA:∀c∈scs ns,zoD S kd lb bb sb nmv askv N f L c) (pv:Value) (ab:Nat) (e:TypeId) (st:Option Nat) (w:World) (hR:RpI S kd lb bb sb nmv askv st w) (hP:PT w N ns pv) (hN:N<=w.heap.size) (l1:N<=lb) (l2:N<=bb) (hab:w.heap[ab]?=some (.cells #[.func (.func f) #[] #[]] e (0,0))) (d1:¬ab=lb) (d2:¬ab=bb) :
 Calls Tryz.prog 95 #[pv,zam lb bb sb,.pointer (some ⟨ab,0,none⟩)] w (λe w'=>e=.returned (.tuple #[])/\RpI S kd lb bb sb nmv askv (((scs ns).flatMap L).foldl rep st) w'/\Fr (RT lb bb) w w'):=by
 have hcf:∀(args:Array Value) (w:World),(callFunc f args).run Tryz.prog w=.ok (.enter f args) w:=hcf
 have HP:=za hP
 have HR:=za hR
 have HA:=za hA
 have hab0:=ze hab
 have Hab:=za hab
 obtain ⟨gb,gv,xs,rfl,hgb,hg,hl⟩:=hP
 have h6:=hl.few
 obtain ⟨x,cp,rfl,hcp,hmx,hin⟩:=hl.ne
 obtain ⟨p0,pf,pz⟩:=zu hg
 clear hin hl hg hR hA hab
 unfold zam
 go_enter Tryz.func95,Tryz.ntmps95
 go_wp2_with fail
 go_loopg [11] (ns.length+1) (λj i wr=>∃k:Nat,k+j=ns.length+1/\k<=ns.length/\i=.int .i64 k/\Hid (RpI S kd lb bb sb nmv askv (((zgj ns k).flatMap L).foldl rep st) wr)/\Hid (Fr (RT lb bb) w wr))
 case atStart=>exact ⟨0,by omega,Nat.zero_le _,rfl,HR.out,Fr.refl _ _⟩
 case round =>
  obtain ⟨k,hkj,hk,rfl,HI,HF⟩:=hrel
  clear p0
  by_cases hlt:k<ns.length
  · obtain ⟨n,hn⟩:∃n,ns[k]?=some n:=⟨_,zsc hlt⟩
    have hO:=HF.out.old hN (λk e=>by rcases e with e|e;exact e▸l1;exact e▸l2)
    have hz:=HF.out.size
    have hNr:N<=wr.heap.size:=by omega
    have HSc:=za (zh3 k n wr.drew ((HP.out.old hO).old (λ_ _=>rfl)) hNr hn)
    have hAk:=HA.out _ (zp9 hn)
    unfold zoD zam at hAk
    have HAk:=za hAk
    have hT:=zkP hn
    have HT:Hid (((zgj ns (k+1)).flatMap L).foldl rep st=(L ⟨ns.take k,n⟩).foldl rep (((zgj ns k).flatMap L).foldl rep st)):=by
     unfold Hid;rw [hT,List.flatMap_append,List.foldl_append];simp
    obtain ⟨a0,af,az⟩:=zu ((HF.out.block ab hab0 (λe=>by rcases e with e|e <;> omega)).trans Hab.out)
    generalize hc:(⟨ns.take k,n⟩:Sc)=c at *
    clear hT hn hO hc hAk
    go_wp2_with fail
    go_region_held3 (λw'=>w'.cell? ⟨ab,0,none⟩=some (.func (.func f) #[] #[]))
     (first
       | exact zg a0
       | exact zd HB1.out a0 az
       | exact b0)
     (first
       | (refine (HAk.out _ _ _ w1 (HI.out.keep HB1.out) HS1.out hN1).mono ?_;rintro e w2 ⟨rfl,hR2,hF2⟩;have HR2:=za hR2;have HF2:=za hF2;have b0:=(World.cell?_of_block (HF2.out.block ab (Nat.lt_of_lt_of_le az HB1.out.size) (λe=>by rcases e with e|e <;> omega))).trans (zd HB1.out a0 az);clear hR2 hF2)
       | (go_at_call 35;refine HSc.out.mono ?_;rintro e w1 ⟨x1,cp1,nb1,rfl,hS1,hB1⟩;have HB1:=za (zw hB1);have HS1:=za hS1;have hN1:=Nat.le_trans hNr HB1.out.size;clear hB1 hS1))
    go_wp2_with fail
    go_roundg (gk-1)
    case measure=>omega
    refine ⟨k+1,by omega,by omega,by go_num,?_,(HF.out.trans (zy HB1.out)).trans HF2.out⟩
    rw [HT.out]
    exact HR2.out
  · have ek:k=ns.length:=by omega
    subst ek
    go_wp2_with fail
    first|go_end0|refine bodyPost_ret (results_none rfl _ _ _) rfl ?_
    exact ⟨rfl,HI.out,HF.out⟩
end
section
open Go.RowKit
attribute [local go_sem ↓] Go.wp_at_zero Go.wp_at_succ
theorem zjA (f:FuncId) (w:World) :
 Calls Tryz.prog 57 #[.func (.func f) #[] #[]] w (λe w'=>e=.returned (.func (.func 95) #[] #[.pointer (some ⟨w.heap.size,0,none⟩)])/\∃t,w'=w.alloc (.cells #[.func (.func f) #[] #[]] t (0,0))):=by
 have hmf:∀(fn:Go.Fn) (first cap:Array Value) (w:World),(Instr.makeFunc fn first cap).run Tryz.prog w=.ok (.func fn first cap) w:=λ_ _ _ _=>rfl
 go_enter Tryz.func57,Tryz.ntmps57
 go_wp2_with fail
 go_ret
 exact ⟨rfl,_,rfl⟩
def zry (S:Nat->Addr) (kd lb bb sb:Nat) (nmv askv:Value) (F:FuncId) (cap:Array Value) (pv:Value) (l:List Nat) (w:World):Prop :=
 RpI S kd lb bb sb nmv askv none w->Calls Tryz.prog F (#[pv,zam lb bb sb]++cap) w (λe w'=>e=.returned (.tuple #[])/\RpI S kd lb bb sb nmv askv (l.foldl rep none) w'/\Fr (RT lb bb) w w')
theorem zkt (S:Nat->Addr) (kd:Nat) (nm:ByteArray) (F:FuncId) (hcf:zH F) (cap:Array Value) (gb:Nat) (l:List Nat) (w:World)
 (hA:∀W,Below w.heap.size w W->zry S kd (w.heap.size+1) (w.heap.size+1+1) w.heap.size (.string nm) (.func (.func F) #[] cap) F cap (.pointer (some ⟨gb,0,none⟩)) l W) :
 Calls Tryz.prog 64 #[.agg #[.string nm,sen S kd,.func (.func F) #[] cap],.pointer (some ⟨gb,0,none⟩)] w (λe w'=>e=.returned (zbp S kd (zO l))/\Below w.heap.size w w'):=by
 have hcf:∀(args:Array Value) (w:World),(callFunc F args).run Tryz.prog w=.ok (.enter F args) w:=hcf
 have hmf:∀(fn:Go.Fn) (first cap:Array Value) (w:World),(Instr.makeFunc fn first cap).run Tryz.prog w=.ok (.func fn first cap) w:=λ_ _ _ _=>rfl
 have hB3:=zcz w (.cells #[.string nm,.iface 293 (.pointer (some (S kd))),.func (.func F) #[] cap] 153 (0,0)) (.cells #[.nilIface] 43 (0,0)) (.cells #[.int .i64 0] 3 (0,0))
 have hA3:=al3 w (.cells #[.string nm,.iface 293 (.pointer (some (S kd))),.func (.func F) #[] cap] 153 (0,0)) (.cells #[.nilIface] 43 (0,0)) (.cells #[.int .i64 0] 3 (0,0))
 have hRP:RpI S kd (w.heap.size+1) (w.heap.size+1+1) w.heap.size (.string nm) (.func (.func F) #[] cap) none _:=⟨hA3.2.1,hA3.2.2,hA3.1,by omega,by omega,by omega⟩
 have hC:=hA _ hB3 hRP
 unfold zam at hC
 have HC:=za hC
 have HB3:=za hB3
 clear hA hC hB3 hA3 hRP
 unfold sen
 go_enter Tryz.func64,Tryz.ntmps64
 go_wp2_with fail
 refine HC.out.mono ?_
 rintro e w' ⟨rfl,hR,hF⟩
 have HBn:Hid (Below w.heap.size w w'):=⟨hF.os.trans HB3.out.os,hF.tape.trans HB3.out.tape,hF.output.trans HB3.out.output,Nat.le_trans HB3.out.size hF.size,λk hk=>(hF.block k (Nat.lt_of_lt_of_le hk HB3.out.size) (λe=>by rcases e with e|e <;> omega)).trans (HB3.out.block k hk)⟩
 obtain ⟨l0,lf,lz⟩:=zu hR.l
 clear hR hF HC HB3
 change w'.cell? _=some (zbp S kd (zO l)) at l0
 cases hl:zO l with
 | none =>
   rw [hl] at l0
   unfold zbp at l0
   go_wp2_with fail
   go_ret
   exact ⟨by rw [hl];rfl,HBn.out⟩
 | some p =>
   rw [hl] at l0
   unfold zbp sen at l0
   go_wp2_with fail
   go_ret
   exact ⟨by rw [hl];rfl,HBn.out⟩
end
section
theorem zji {g:Tm->Bool} {u:Tm}:∀{ts:List Tm},u∈zdk g ts->∃t∈ts,u∈zaV g t:=by
 intro ts
 induction ts with
 | nil=>intro h;rw [zdk] at h;cases h
 | cons x ts ih =>
   intro h
   rw [zdk] at h
   rcases List.mem_append.1 h with h|h
   · exact ⟨x,List.mem_cons_self,h⟩
   · obtain ⟨t,h1,h2⟩:=ih h
     exact ⟨t,List.mem_cons_of_mem _ h1,h2⟩
theorem Wf.vis {g:Tm->Bool} {t u:Tm} (h:Wf t) (hu:u∈zaV g t):Wf u:=by
 induction h generalizing u with
 | mk k a s nm n ts h hr ih =>
   rw [zaV] at hu
   rcases List.mem_cons.1 hu with rfl|hu
   · exact Wf.mk k a s nm n ts h hr
   · split at hu
     · obtain ⟨t,h1,h2⟩:=zji hu
       exact ih t h1 h2
     · cases hu
theorem zjj {c:Sc}:∀{l:List Vr} {i:Nat},zat c l i=[]->∀v∈l,zaA v≠0->c.has v.ck=true:=by
 intro l
 induction l with
 | nil=>intro i _ v hv;cases hv
 | cons x l ih =>
   intro i h v hv hs
   rw [zat,List.append_eq_nil_iff,List.append_eq_nil_iff] at h
   rcases List.mem_cons.1 hv with rfl|hv
   · have h2:=h.1.2
     cases hh:c.has v.ck with
     | true=>rfl
     | false=>rw [hh] at h2;simp [hs] at h2
   · exact ih h.2 v hv hs
theorem ziH {c:Sc}:∀{ns:List ByteArray} {ps:List Nat},ns.length=ps.length->z7 c ns ps=[]->∀s∈ns,c.has s=true/\¬c.idx s<c.nd.ins:=by
 intro ns
 induction ns with
 | nil=>intro ps _ _ s hs;cases hs
 | cons x ns ih =>
   intro ps hl h s hs
   cases ps with
   | nil=>simp at hl
   | cons p ps =>
     rw [z7,List.append_eq_nil_iff] at h
     rcases List.mem_cons.1 hs with rfl|hs
     · have h2:=h.1
       constructor
       · cases hh:c.has s with
         | true=>rfl
         | false=>rw [hh] at h2;simp at h2
       · intro hi
         rw [decide_eq_true hi] at h2
         simp at h2
     · exact ih (by simpa using hl) h.2 s hs
theorem zgU {α:Type} {f:α->List Nat} {l:List α} (h:l.flatMap f=[]):∀x∈l,f x=[]:=List.flatMap_eq_nil_iff.1 h
theorem zex {c:Sc} (hc:zbr c) (h:c.namesL=[]):zfw c:=by
 unfold Sc.namesL at h
 rw [List.append_eq_nil_iff,List.append_eq_nil_iff,List.append_eq_nil_iff] at h
 obtain ⟨⟨⟨_,h2⟩,h3⟩,h4⟩:=h
 have hT:∀q∈c.nd.eqs,∀u∈zaV za5 q.r,(zaJ u.k=true->c.has u.s=true)/\(u.k=4->∃d,c.called u.s=some d/\d.nd.ins=u.ts.length/\d.nd.outs=zda q u):=by
  intro q hq u hu
  have h5:=zgU (zgU h4 q hq) u hu
  unfold zaL at h5
  rw [List.append_eq_nil_iff] at h5
  refine ⟨λhn=>?_,λhk=>?_⟩
  · cases hh:c.has u.s with
    | true=>rfl
    | false=>have:=h5.1;rw [hh,hn] at this;simp at this
  · have h6:=h5.2
    cases hf:c.fits u (zda q u) with
    | false=>rw [hf,hk] at h6;simp at h6
    | true =>
      unfold Sc.fits at hf
      split at hf
      · cases hf
      · rename_i d hd
        simp only [Bool.and_eq_true,beq_iff_eq] at hf
        exact ⟨d,hd,hf.1,hf.2⟩
 refine ⟨λq hq u hu=>?_,zjj h2,λq hq s hs=>(ziH (hc.nd.eqs q hq).1 (zgU h3 q hq) s hs).1,λq hq h=>?_⟩
 · obtain ⟨a1,a2⟩:=hT q hq u hu
   exact ⟨a1,λhk=>by obtain ⟨d,b1,b2,_⟩:=a2 hk;exact ⟨d,b1,b2⟩,((hc.nd.eqs q hq).2.2.1.vis hu).ar⟩
 · obtain ⟨d,b1,_,b3⟩:=(hT q hq q.r (zey _ _)).2 ((hc.nd.eqs q hq).2.2.2 h)
   refine ⟨d,b1,?_⟩
   rw [b3]
   unfold zda
   rw [if_pos rfl]
end
section
open Go.RowKit
attribute [local go_sem ↓] Go.wp_at_zero Go.wp_at_succ
theorem Tryz.infoBl:(Tryz.prog.info? 4).map (λi=>(i.zero,i.size,i.bytes))=some (some (.bool false),1,1):=by kernel_rfl
def zdC (l:List Bool):List Value:=l.map .bool
theorem zkG (n:Nat) (hc:n<=3145728) (w:World):(Instr.makeSlice 64 (.int .i64 (n:Int)) (.int .i64 (n:Int))).run Tryz.prog w=.ok (.slice (some ⟨w.heap.size,0,none⟩) n n) (w.alloc (.cells (zdC (List.replicate n false)).toArray 4)):=by
 obtain ⟨i0,hi,hi0,hi1,hi2⟩:=info_parts Tryz.infoBl
 have:=run_make (P:=Tryz.prog) w 64 4 i0 _ Tryz.underlying64 hi hi0 .i64 .i64 (n:Int) (n:Int) (by omega) (by omega) (by rw [hi2];omega) (by omega)
 refine this.trans ?_
 clear this
 rw [hi1]
 simp only [Int.toNat_natCast,Nat.mul_one]
 refine congrArg (λx=>Result.ok (Value.slice (some ⟨w.heap.size,0,none⟩) n n) (w.alloc (.cells x 4))) ?_
 unfold madeCells
 apply Array.ext
 · simp [zdC]
 · intro j h1 h2
   simp [zdC,Value.cells,Nat.mod_one]
theorem zdF {w:World} {b k:Nat} {d:List Bool} {e:TypeId} {x:Bool} (h:w.heap[b]?=some (.cells (zdC d).toArray e (0,0))) (hk:d[k]?=some x):w.cell? ⟨b,k,none⟩=some (.bool x):=by
 simp [World.cell?,h,zdC,hk]
theorem zja (c:Sc) (ps:List Nat) (d:List Bool):zaC c [] ps d=([],d):=by cases ps <;> rfl
structure zdD (S:Nat->Addr) (kd lb bb sb:Nat) (nmv askv:Value) (N:Nat) (c:Sc) (ev nv:Value) (b1 b2:Nat) (d:List Bool) (st:Option Nat) (w:World):Prop where
 rp:RpI S kd lb bb sb nmv askv st w
 sc:ScV w N c ev nv
 x1:w.heap[b1]?=some (.cells #[ev,nv] 206 (0,0))
 x2:w.heap[b2]?=some (.cells (zdC d).toArray 4 (0,0))
 d1:¬b1=lb
 d2:¬b1=bb
 d3:¬b2=lb
 d4:¬b2=bb
 d5:¬b1=b2
 d6:¬b2=sb
 l1:N<=lb
 l2:N<=bb
 l3:N<=b2
 hN:N<=w.heap.size
theorem zdD.keep {S:Nat->Addr} {kd lb bb sb:Nat} {nmv askv:Value} {N:Nat} {c:Sc} {ev nv:Value} {b1 b2:Nat} {d:List Bool} {st:Option Nat} {w w':World} (h:zdD S kd lb bb sb nmv askv N c ev nv b1 b2 d st w) (hB:Below w.heap.size w w'):zdD S kd lb bb sb nmv askv N c ev nv b1 b2 d st w' :=
 ⟨h.rp.keep hB,h.sc.old (zm hB h.hN),(hB.block _ (ze h.x1)).trans h.x1,(hB.block _ (ze h.x2)).trans h.x2,h.d1,h.d2,h.d3,h.d4,h.d5,h.d6,h.l1,h.l2,h.l3,Nat.le_trans h.hN hB.size⟩
theorem zdD.told {S:Nat->Addr} {kd lb bb sb:Nat} {nmv askv:Value} {N:Nat} {c:Sc} {ev nv:Value} {b1 b2:Nat} {d:List Bool} {st st':Option Nat} {w w':World} (h:zdD S kd lb bb sb nmv askv N c ev nv b1 b2 d st w) (hr:RpI S kd lb bb sb nmv askv st' w') (hf:Fr (RT lb bb) w w'):zdD S kd lb bb sb nmv askv N c ev nv b1 b2 d st' w':=by
 have h1:=h.d1
 have h2:=h.d2
 have h3:=h.d3
 have h4:=h.d4
 have l1:=h.l1
 have l2:=h.l2
 exact ⟨hr,h.sc.old (hf.old h.hN (λk e=>by rcases e with e|e;exact e▸l1;exact e▸l2)),(hf.block _ (ze h.x1) (λe=>by rcases e with e|e;exact h1 e;exact h2 e)).trans h.x1,(hf.block _ (ze h.x2) (λe=>by rcases e with e|e;exact h3 e;exact h4 e)).trans h.x2,h.d1,h.d2,h.d3,h.d4,h.d5,h.d6,h.l1,h.l2,h.l3,Nat.le_trans h.hN hf.size⟩
theorem zjw (d:List Bool) (i:Nat) (b:Bool):(zdC d).toArray.setIfInBounds i (.bool b)=(zdC (d.set i b)).toArray:=by
 unfold zdC
 rw [List.map_set]
 simp
theorem zdD.put {S:Nat->Addr} {kd lb bb sb:Nat} {nmv askv:Value} {N:Nat} {c:Sc} {ev nv:Value} {b1 b2:Nat} {d:List Bool} {st:Option Nat} {w:World} (h:zdD S kd lb bb sb nmv askv N c ev nv b1 b2 d st w) (i:Nat) (b:Bool):zdD S kd lb bb sb nmv askv N c ev nv b1 b2 (d.set i b) st (w.setCell ⟨b2,i,none⟩ (.bool b)):=by
 have l3:=h.l3
 have hk:∀k,¬k=b2->(w.setCell ⟨b2,i,none⟩ (.bool b)).heap[k]?=w.heap[k]?:=λk hk=>Below.heap_setCell w _ _ k hk
 refine ⟨⟨(hk _ λe=>h.d3 e.symm).trans h.rp.l,(hk _ λe=>h.d4 e.symm).trans h.rp.b,(hk _ λe=>h.d6 e.symm).trans h.rp.s,h.rp.n1,h.rp.n2,h.rp.n3⟩,h.sc.old (λk hk'=>hk k (by omega)),(hk _ h.d5).trans h.x1,?_,h.d1,h.d2,h.d3,h.d4,h.d5,h.d6,h.l1,h.l2,h.l3,?_⟩
 · rw [zh _ _ _ _ h.x2,zjw]
 · have:=h.hN
   simpa using this
theorem zpj {c:Sc} {s:ByteArray} (h:c.has s=true):c.idx s<c.nd.vars.length:=by
 unfold Sc.has at h
 unfold Sc.idx
 obtain ⟨j,hj⟩:=Option.isSome_iff_exists.1 h
 rw [hj]
 have:=(zgO hj).2.1
 simpa using this
theorem zgb (S:Nat->Addr) (kd lb bb sb:Nat) (nmv askv:Value) (N:Nat) (c:Sc) (hc:zbr c) (hn:zfw c) (ev nv:Value) (st:Option Nat) (w:World) (hR:RpI S kd lb bb sb nmv askv st w) (h:ScV w N c ev nv) (hN:N<=w.heap.size) (l1:N<=lb) (l2:N<=bb) :
 Calls Tryz.prog 61 #[.agg #[ev,nv],zam lb bb sb] w (λe w'=>e=.returned (.tuple #[])/\RpI S kd lb bb sb nmv askv (c.definesL.foldl rep st) w'/\Fr (RT lb bb) w w'):=by
 obtain ⟨xe,cpe,nb,rfl,rfl,hnb⟩:=h.shape
 have hzl:=ze hR.l
 have hzb:=ze hR.b
 have hzs:=ze hR.s
 have hA0:∀o1 o2,((w.alloc o1).alloc o2).heap[w.heap.size]?=some o1/\((w.alloc o1).alloc o2).heap[w.heap.size+1]?=some o2:=λo1 o2=>al2 w o1 o2
 have hAs:zdD S kd lb bb sb nmv askv N c (.slice xe c.er.length cpe) (.pointer (some ⟨nb,0,none⟩)) w.heap.size (w.heap.size+1) (List.replicate c.nd.vars.length false) st ((w.alloc (.cells #[.slice xe c.er.length cpe,.pointer (some ⟨nb,0,none⟩)] 206)).alloc (.cells (zdC (List.replicate c.nd.vars.length false)).toArray 4)) :=
  ⟨hR.keep (zaD w _ _),h.old (zfr hN _ _),(hA0 _ _).1,(hA0 _ _).2,by omega,by omega,by omega,by omega,by omega,by omega,l1,l2,by omega,by simp;omega⟩
 have HAs:=za hAs
 obtain ⟨nb',vs,qv,xs,e9,hnt⟩:=h.nd
 cases e9
 obtain ⟨xv,cpv,rfl⟩:=zB hnt.vown
 obtain ⟨xq,cpq,rfl⟩:=zB hnt.own
 obtain ⟨m0,m1,m2,m3,m4,m5,mf,mz⟩:=zt hnt.blk
 have HNt:=za hnt
 have hfew:=hnt.few
 have h16:c.nd.eqs.length<=9223372036854775807:=by
  rcases hnt.own.2 with ⟨_,h⟩|⟨g,cap,cur,hv,_,_,h3,h4,_⟩
  · omega
  · unfold maxLen at h4;omega
 have mk:=zkG c.nd.vars.length (by omega)
 have HFr0:=za (zy (T:=RT lb bb) (zaD w (.cells #[.slice xe c.er.length cpe,.pointer (some ⟨nb,0,none⟩)] 206) (.cells (zdC (List.replicate c.nd.vars.length false)).toArray 4)))
 have hnw:nb<w.heap.size:=by omega
 clear hR h hA0 hAs hnt
 unfold zam
 go_enter Tryz.func61,Tryz.ntmps61
 go_wp2_with fail
 go_loopg [27] (c.nd.eqs.length+1) (λj i wr=>∃(k:Nat) (d:List Bool) (st':Option Nat),k+j=c.nd.eqs.length+1/\k<=c.nd.eqs.length/\i=.int .i64 k/\Hid (zdD S kd lb bb sb nmv askv N c (.slice xe c.er.length cpe) (.pointer (some ⟨nb,0,none⟩)) w.heap.size (w.heap.size+1) d st' wr)/\Hid (d.length=c.nd.vars.length)/\Hid ((zcN c c.nd.eqs (List.replicate c.nd.vars.length false)).1.foldl rep st=(zcN c (c.nd.eqs.drop k) d).1.foldl rep st'/\(zcN c c.nd.eqs (List.replicate c.nd.vars.length false)).2=(zcN c (c.nd.eqs.drop k) d).2)/\Hid (Fr (RT lb bb) w wr))
 case atStart=>exact ⟨0,_,st,by omega,Nat.zero_le _,rfl,HAs.out,List.length_replicate,⟨rfl,rfl⟩,HFr0.out⟩
 case round =>
  clear HAs HFr0 m0 m1 m2 m3 m4 m5 mf mz mk
  obtain ⟨k,d,st',hkj,hk,rfl,HI,Hdl,HD,HF⟩:=hrel
  have hO:=HF.out.old hN (λk e=>by rcases e with e|e;exact e▸l1;exact e▸l2)
  by_cases hlt:k<c.nd.eqs.length
  · obtain ⟨wo,rfl⟩:∃wo,wo=wr:=⟨_,rfl⟩
    obtain ⟨gko,rfl⟩:∃g,g=gk:=⟨_,rfl⟩
    obtain ⟨q,hq⟩:∃q,c.nd.eqs[k]?=some q:=⟨_,zsc hlt⟩
    have hN2:=HNt.out.old hO
    obtain ⟨g,lv,rv,rfl,c0,c1,c2,hE⟩:=zcd hN2.own hN2.eqs hq rfl
    obtain ⟨rb,_,_,rfl,_⟩:=hE.tt.ptr
    obtain ⟨xl,cl,rfl⟩:=zB hE.own
    have hgN:=HNt.out.elo g rfl
    have HEq:=za hE
    have hqm:=List.mem_of_getElem? hq
    have hql:=(hc.nd.eqs q hqm).1
    have Hql:=za hql
    have HLf:=za (hn.left q hqm)
    have hNr:=HI.out.hN
    have hDq:zcN c (c.nd.eqs.drop k) d=((zaC c q.ns q.ps d).1++(zcN c (c.nd.eqs.drop (k+1)) (zaC c q.ns q.ps d).2).1,(zcN c (c.nd.eqs.drop (k+1)) (zaC c q.ns q.ps d).2).2):=by
     obtain ⟨h1,h2⟩:=List.getElem?_eq_some_iff.1 hq
     rw [List.drop_eq_getElem_cons h1,zcN,h2]
    have HDq:=za hDq
    have h17:q.ns.length<=9223372036854775807:=by
     rcases hE.own.2 with ⟨_,h⟩|⟨g,cap,cur,hv,_,_,h3,h4,_⟩
     · omega
     · unfold maxLen at h4;omega
    have HkX:=za (HI.out.keep (zq wo (.cells #[.slice xl q.ns.length cl,.int .i64 q.a,.pointer (some ⟨rb,0,none⟩)] 166)))
    have HwX:=za (HF.out.alloc (.cells #[.slice xl q.ns.length cl,.int .i64 q.a,.pointer (some ⟨rb,0,none⟩)] 166))
    clear hN2 hE hq hql hO hDq hqm
    go_wp2_with fail
    go_loopg [34] (q.ns.length+1) (λj i wr=>∃(k2:Nat) (d2:List Bool) (st2:Option Nat),k2+j=q.ns.length+1/\k2<=q.ns.length/\i=.int .i64 k2/\Hid (zdD S kd lb bb sb nmv askv N c (.slice xe c.er.length cpe) (.pointer (some ⟨nb,0,none⟩)) w.heap.size (w.heap.size+1) d2 st2 wr)/\Hid (d2.length=c.nd.vars.length)/\Hid ((zaC c q.ns q.ps d).1.foldl rep st'=(zaC c (q.ns.drop k2) (q.ps.drop k2) d2).1.foldl rep st2/\(zaC c q.ns q.ps d).2=(zaC c (q.ns.drop k2) (q.ps.drop k2) d2).2)/\Hid (Fr (RT lb bb) w wr))
    case atStart=>exact ⟨0,d,st',by omega,Nat.zero_le _,rfl,HkX.out,Hdl.out,⟨rfl,rfl⟩,HwX.out⟩
    case round =>
     clear HkX HwX c0 c1 c2
     obtain ⟨k2,d2,st2,hkj2,hk2,rfl,HI2,Hdl2,HD2,HF2⟩:=hrel
     by_cases hlt2:k2<q.ns.length
     · obtain ⟨s,hs⟩:∃s,q.ns[k2]?=some s:=⟨_,zsc hlt2⟩
       obtain ⟨p,hp⟩:∃p,q.ps[k2]?=some p:=⟨_,zsc (by have:=Hql.out;omega)⟩
       have hO2:=HF2.out.old hN (λk e=>by rcases e with e|e;exact e▸l1;exact e▸l2)
       have hOe:Old N wo wr:=λb hb=>(hO2 b hb).trans ((HF.out.old hN (λk e=>by rcases e with e|e;exact e▸l1;exact e▸l2)) b hb).symm
       obtain ⟨gl,rfl,c0,c1⟩:=zbe (HEq.out.old hOe).own hs hp rfl
       have hglN:=HEq.out.lo gl rfl
       have hNs:=HI2.out.hN
       have hha:=HLf.out s (List.mem_of_getElem? hs)
       have hix:=zpj hha
       obtain ⟨b,hb⟩:∃b,d2[c.idx s]?=some b:=⟨_,zsc (by have:=Hdl2.out;omega)⟩
       have HIx:=za (zaz s (p:Int) (wr.alloc (.cells #[.string s,.int .i64 p] 93)) (HI2.out.keep (zq wr _)).sc (HI2.out.keep (zq wr _)).hN)
       obtain ⟨s0,s1,sf,sz⟩:=zp HI2.out.x1
       have hDe:zaC c (q.ns.drop k2) (q.ps.drop k2) d2=((if b=true then [p] else [])++(zaC c (q.ns.drop (k2+1)) (q.ps.drop (k2+1)) (d2.set (c.idx s) true)).1,(zaC c (q.ns.drop (k2+1)) (q.ps.drop (k2+1)) (d2.set (c.idx s) true)).2):=by
        obtain ⟨h1,h2⟩:=List.getElem?_eq_some_iff.1 hs
        obtain ⟨h3,h4⟩:=List.getElem?_eq_some_iff.1 hp
        rw [List.drop_eq_getElem_cons h1,List.drop_eq_getElem_cons h3,zaC,h2,h4]
        rw [show d2.getD (c.idx s) false=b by rw [List.getD_eq_getElem?_getD,hb];rfl]
       have HT:Hid ((zaC c q.ns q.ps d).1.foldl rep st'=(zaC c (q.ns.drop (k2+1)) (q.ps.drop (k2+1)) (d2.set (c.idx s) true)).1.foldl rep ((if b=true then [p] else []).foldl rep st2)/\(zaC c q.ns q.ps d).2=(zaC c (q.ns.drop (k2+1)) (q.ps.drop (k2+1)) (d2.set (c.idx s) true)).2):=by
        have a:=HD2.out
        rw [hDe,List.foldl_append] at a
        exact a
       have i0:(0:Int)<=(c.idx s:Int):=by omega
       have i1:(c.idx s:Int)<(c.nd.vars.length:Int):=by omega
       have Hb:=za hb
       clear hO2 hOe hs hp hb hDe HD2
       cases b with
       | false =>
         go_wp2_with (go_at_call 72;refine HIx.out.mono ?_;rintro e w1 ⟨rfl,hB1⟩;have HB1:=za hB1;have HI3:=za (HI2.out.keep (zE hB1));have e0:=zdF HI3.out.x2 Hb.out;have e2:=zai HI3.out.x2 (c.idx s);have e3:=ze HI3.out.x2;clear hB1)
         go_roundg (gk-1)
         case measure=>omega
         exact ⟨k2+1,d2.set (c.idx s) true,st2,by omega,by omega,by go_num,HI3.out.put _ _,by unfold Hid;rw [List.length_set];exact Hdl2.out,HT.out,(HF2.out.belowed (zE HB1.out)).setNew (by omega) _ _⟩
       | true =>
         go_wp2_with (first
          | (go_at_call 117;refine (zaa S kd lb bb sb nmv askv st2 p _ HI3.out.rp).mono ?_;rintro e w2 ⟨rfl,hRt,hFt⟩;have HI4:=za (HI3.out.told hRt hFt);have HFt:=za hFt;have f0:=zdF HI4.out.x2 Hb.out;have f2:=zai HI4.out.x2 (c.idx s);have f3:=ze HI4.out.x2;clear hRt hFt)
          | (go_at_call 72;refine HIx.out.mono ?_;rintro e w1 ⟨rfl,hB1⟩;have HB1:=za hB1;have HI3:=za (HI2.out.keep (zE hB1));have e0:=zdF HI3.out.x2 Hb.out;have e1:w1.cell? ⟨wr.heap.size,1,none⟩=some (.int .i64 p):=zd HB1.out (zp (zc wr _)).2.1 (by simp);clear hB1))
         go_roundg (gk-1)
         case measure=>omega
         exact ⟨k2+1,d2.set (c.idx s) true,rep st2 p,by omega,by omega,by go_num,HI4.out.put _ _,by unfold Hid;rw [List.length_set];exact Hdl2.out,HT.out,((HF2.out.belowed (zE HB1.out)).trans HFt.out).setNew (by omega) _ _⟩
     · have ek:k2=q.ns.length:=by omega
       subst ek
       rw [List.drop_length,zja] at HD2
       go_wp2_with fail
       go_roundg (gko-1)
       case measure=>omega
       refine ⟨k+1,d2,st2,by omega,by omega,by go_num,HI2.out,Hdl2.out,?_,HF2.out⟩
       have a:=HD.out
       have b:=HD2.out
       rw [HDq.out,b.2] at a
       refine ⟨a.1.trans ?_,a.2⟩
       rw [List.foldl_append,b.1]
       rfl
  · have ek:k=c.nd.eqs.length:=by omega
    subst ek
    rw [List.drop_length,zcN] at HD
    obtain ⟨hD1,hD2⟩:=HD.out
    have HT:Hid (c.definesL.foldl rep st=(zb1 c.nd.ins d c.nd.vars 0).foldl rep st'):=by
     unfold Hid Sc.definesL
     simp only [List.foldl_append]
     rw [hD1,hD2]
     rfl
    clear HD hD1 hD2
    obtain ⟨s0,s1,sf,sz⟩:=zp HI.out.x1
    obtain ⟨n0,n1,n2,n3,n4,n5,nf,nz⟩:=zt ((hO nb HNt.out.lo).trans HNt.out.blk)
    clear hO
    go_wp2_with fail
    go_loopg [62] (c.nd.vars.length+1) (λj i wr=>∃(k:Nat) (st2:Option Nat),k+j=c.nd.vars.length+1/\k<=c.nd.vars.length/\i=.int .i64 k/\Hid (zdD S kd lb bb sb nmv askv N c (.slice xe c.er.length cpe) (.pointer (some ⟨nb,0,none⟩)) w.heap.size (w.heap.size+1) d st2 wr)/\Hid ((zb1 c.nd.ins d c.nd.vars 0).foldl rep st'=(zb1 c.nd.ins d (c.nd.vars.drop k) k).foldl rep st2)/\Hid (Fr (RT lb bb) w wr))
    case atStart=>exact ⟨0,st',by omega,Nat.zero_le _,rfl,HI.out,rfl,HF.out⟩
    case round =>
     clear HI HF s0 s1 sf sz n0 n1 n2 n3 n4 n5 nf nz hkj hk hlt
     obtain ⟨k,st2,hkj,hk,rfl,HI,HD,HF⟩:=hrel
     have hO:=HF.out.old hN (λk e=>by rcases e with e|e;exact e▸l1;exact e▸l2)
     by_cases hlt:k<c.nd.vars.length
     · obtain ⟨v,hv⟩:∃v,c.nd.vars[k]?=some v:=⟨_,zsc hlt⟩
       obtain ⟨g,rfl,c0,c1,c2,c3,c4,c5,c6⟩:=zaM (HNt.out.old hO).vown hv
       have hgN:=HNt.out.vlo g rfl
       obtain ⟨bk,hbk⟩:∃bk,d[k]?=some bk:=⟨_,zsc (by have:=Hdl.out;omega)⟩
       have hD1:zb1 c.nd.ins d (c.nd.vars.drop k) k=(if (decide (c.nd.ins<=k)&&!bk)=true then [v.a] else [])++zb1 c.nd.ins d (c.nd.vars.drop (k+1)) (k+1):=by
        obtain ⟨h1,h2⟩:=List.getElem?_eq_some_iff.1 hv
        rw [List.drop_eq_getElem_cons h1,zb1,h2]
        rw [show d.getD k false=bk by rw [List.getD_eq_getElem?_getD,hbk];rfl]
       have HT2:Hid ((zb1 c.nd.ins d c.nd.vars 0).foldl rep st'=(zb1 c.nd.ins d (c.nd.vars.drop (k+1)) (k+1)).foldl rep ((if (decide (c.nd.ins<=k)&&!bk)=true then [v.a] else []).foldl rep st2)):=by
        unfold Hid;rw [HD.out,hD1,List.foldl_append]
       obtain ⟨s0,s1,sf,sz⟩:=zp HI.out.x1
       obtain ⟨n0,n1,n2,n3,n4,n5,nf,nz⟩:=zt ((hO nb HNt.out.lo).trans HNt.out.blk)
       have b0:wr.cell? ⟨w.heap.size+1,k,none⟩=some (.bool bk):=zdF HI.out.x2 hbk
       have bz:=ze HI.out.x2
       have hnr:nb<wr.heap.size:=by omega
       have dlen:d.length=c.nd.vars.length:=Hdl.out
       have i0:(0:Int)<=(k:Int):=by omega
       have i1:(k:Int)<(c.nd.vars.length:Int):=by omega
       have HTell:=za (λo=>zaa S kd lb bb sb nmv askv st2 v.a (wr.alloc o) (HI.out.rp.keep (zq wr o)))
       clear hD1 HD hO dlen hbk hv n0 n1 n2 n4 n5
       by_cases hin:c.nd.ins<=k
       · have hin':(c.nd.ins:Int)<=(k:Int):=by omega
         cases bk with
         | true =>
           simp only [hin,decide_true,Bool.not_true,Bool.and_false] at HT2
           clear hin
           go_wp2_with fail
           go_roundg (gk-1)
           case measure=>omega
           exact ⟨k+1,st2,by omega,by omega,by go_num,HI.out.keep (zq wr _),HT2.out,HF.out.alloc _⟩
         | false =>
           simp only [hin,decide_true,Bool.not_false,Bool.and_true] at HT2
           clear hin
           go_wp2_with (go_at_call 117;refine (HTell.out _).mono ?_;rintro e w2 ⟨rfl,hRt,hFt⟩;have HRt:=za hRt;have HFt:=za hFt;clear hRt hFt)
           go_roundg (gk-1)
           case measure=>omega
           exact ⟨k+1,rep st2 v.a,by omega,by omega,by go_num,(HI.out.keep (zq wr _)).told HRt.out HFt.out,HT2.out,(HF.out.alloc _).trans HFt.out⟩
       · have hin':¬(c.nd.ins:Int)<=(k:Int):=by omega
         simp only [hin,decide_false,Bool.false_and] at HT2
         clear hin
         go_wp2_with fail
         go_roundg (gk-1)
         case measure=>omega
         exact ⟨k+1,st2,by omega,by omega,by go_num,HI.out.keep (zq wr _),HT2.out,HF.out.alloc _⟩
     · have ek:k=c.nd.vars.length:=by omega
       subst ek
       rw [List.drop_length,zb1] at HD
       clear hO
       go_wp2_with fail
       first|go_end0|refine bodyPost_ret (results_none rfl _ _ _) rfl ?_
       refine ⟨rfl,?_,HF.out⟩
       rw [HT.out,HD.out]
       exact HI.out.rp
end
end Go.Proofs.YtedmpgjebafcjaaGreatDoor
