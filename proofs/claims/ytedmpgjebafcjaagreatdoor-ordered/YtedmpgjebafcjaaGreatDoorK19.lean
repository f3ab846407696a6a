/- Part 20 of the proof: TreX RunG ClkA. -/
import Derived.Carry
import Derived.Test.YtedmpgjebafcjaaGreatDoorK18
set_option maxRecDepth 100000
set_option maxHeartbeats 8000000
namespace Go.Proofs.YtedmpgjebafcjaaGreatDoor
section
open Go.RowKit
attribute [local go_sem ↓] Go.wp_at_zero Go.wp_at_succ
structure EqV (w:World) (N:Nat) (q:Qn) (lv rv:Value):Prop where
 own:w.ownsRow 0 93 2 lv q.ns.length (nmC q.ns q.ps)
 lo:∀g,lv.ownBlock=some g->g<N
 tt:TT w N q.r rv
theorem EqV.old {w w':World} {N:Nat} {q:Qn} {lv rv:Value} (h:EqV w N q lv rv) (ho:Old N w w'):EqV w' N q lv rv :=
 ⟨zi h.own (λg _ _ e=>ho g (h.lo g e)),h.lo,h.tt.old ho⟩
theorem zcU.at {w:World} {N:Nat}:∀{qs:List Qn} {xs:List Value},zcU w N qs xs->∀{k:Nat} {q:Qn},qs[k]?=some q->∃lv rv,xs[k*3]?=some lv/\xs[k*3+1]?=some (.int .i64 q.a)/\xs[k*3+2]?=some rv/\EqV w N q lv rv:=by
 intro qs
 induction qs with
 | nil=>intro xs _ k q h;simp at h
 | cons q0 qs ih =>
   rintro xs ⟨lv,v,ys,rfl,h2,h3,h4,h5⟩ k q hq
   cases k with
   | zero=>simp at hq;subst hq;exact ⟨lv,v,rfl,rfl,rfl,h2,h3,h4⟩
   | succ k =>
     obtain ⟨lv',rv',e1,e2,e3,e4⟩:=ih h5 (by simpa using hq)
     refine ⟨lv',rv',?_,?_,?_,e4⟩
     · rw [show (k+1)*3=k*3+1+1+1 by omega];simpa using e1
     · rw [show (k+1)*3+1=k*3+1+1+1+1 by omega];simpa using e2
     · rw [show (k+1)*3+2=k*3+2+1+1+1 by omega];simpa using e3
theorem zcd {w:World} {N n cp:Nat} {a:Option Addr} {qs:List Qn} {xs:List Value} (h:w.ownsRow 0 166 3 (.slice a n cp) n xs) (hE:zcU w N qs xs) {k:Nat} {q:Qn} (hk:qs[k]?=some q) (hn:n=qs.length) :
 ∃g lv rv,a=some ⟨g,0,none⟩/\w.cell? ⟨g,k*3,none⟩=some lv/\w.cell? ⟨g,k*3+1,none⟩=some (.int .i64 q.a)/\w.cell? ⟨g,k*3+2,none⟩=some rv/\EqV w N q lv rv:=by
 have hk':=(List.getElem?_eq_some_iff.1 hk).1
 obtain ⟨g,cap,hv,_⟩:=zM h (by omega)
 cases hv
 obtain ⟨lv,rv,e1,e2,e3,e4⟩:=hE.at hk
 have hc:=h.cells (g:=g) rfl
 have e0:∀j,(⟨g,0,none⟩:Addr).add j=⟨g,j,none⟩:=λj=>by cases j <;> simp [Addr.add]
 refine ⟨g,lv,rv,rfl,?_,?_,?_,e4⟩
 · have:=hc _ _ e1;rwa [e0] at this
 · have:=hc _ _ e2;rwa [e0] at this
 · have:=hc _ _ e3;rwa [e0] at this
def zfa (q:Qn) (rv:Value) (t:Tm) (v:Value):Prop:=(t=q.r/\v=rv)∨szT t<szT q.r
theorem zfa.sub {q:Qn} {rv:Value} {t:Tm} {v:Value} (h:zfa q rv t v) {u:Tm} (x:Value) (hu:u∈t.ts):zfa q rv u x:=by
 have h1:szT u<szT t:=by
  cases t with
  | mk k a s nm n ts=>have:=zkw hu;simp only [szT];simp only [Tm.ts] at this;omega
 right
 rcases h with ⟨rfl,_⟩|h
 · exact h1
 · omega
structure zjB {σ:Type} (N:Nat) (T:Nat->Prop) (F:FuncId) (caps:Array Value) (Pt:Tm->Prop) (n:Nod) (step:σ->Qn->Tm->σ) (I:σ->World->Prop):Prop where
 enters:zH F
 hT:∀k,T k->N<=k
 keep:∀s w w',I s w->Below w.heap.size w w'->I s w'
 sub:∀t u,Pt t->u∈t.ts->Pt u
 root:∀q∈n.eqs,Pt q.r
 call:∀q lv rv t v s w,q∈n.eqs->EqV w N q lv rv->TT w N t v->zfa q rv t v->N<=w.heap.size->I s w->Pt t->Calls Tryz.prog F (#[.agg #[lv,.int .i64 q.a,rv],v]++caps) w (λe w'=>e=.returned (.bool true)/\I (step s q t) w'/\Fr T w w')
theorem zox:zH 137:=λ_ _=>by kernel_rfl
theorem zmv {σ:Type} {N:Nat} {T:Nat->Prop} {F:FuncId} {caps:Array Value} {Pt:Tm->Prop} {n:Nod} {step:σ->Qn->Tm->σ} {I:σ->World->Prop} (hV:zjB N T F caps Pt n step I) (q:Qn) (hq:q∈n.eqs) (lv rv:Value) (b1 b2:Nat) (hb1:¬T b1) (hb2:¬T b2) (hMN:N<=b1) :
 Vis N T 137 #[.pointer (some ⟨b1,0,none⟩),.pointer (some ⟨b2,0,none⟩)] (λt v=>Pt t/\zfa q rv t v) za5 (λs t=>step s q t) (λs w=>I s w/\w.heap[b1]?=some (.cells #[.func (.func F) #[] caps] 219 (0,0))/\w.heap[b2]?=some (.cells #[lv,.int .i64 q.a,rv] 166 (0,0))/\EqV w N q lv rv) where
 enters:=zox
 hT:=hV.hT
 keep:=λs w w' h hB=>⟨hV.keep s w w' h.1 hB,(hB.block _ (ze h.2.1)).trans h.2.1,(hB.block _ (ze h.2.2.1)).trans h.2.2.1,h.2.2.2.old (zm hB (by have:=ze h.2.1;omega))⟩
 sub:=λt v u x h hu=>⟨hV.sub t u h.1 hu,h.2.sub x hu⟩
 call:=by
  intro t v s w hT hN hI hP
  obtain ⟨hI0,hx1,hx2,hE⟩:=hI
  obtain ⟨p0,pf,pz⟩:=zu hx1
  obtain ⟨q0,q1,q2,qf,qz⟩:=zL hx2
  have HC:=za (hV.call q lv rv t v s w hq hE hT hP.2 hN hI0 hP.1)
  have hcf:∀(args:Array Value) (w:World),(callFunc F args).run Tryz.prog w=.ok (.enter F args) w:=hV.enters
  have HX1:=za hx1
  have HX2:=za hx2
  have HE:=za hE
  have HV:=za hV
  have h21:=pz
  clear hI0 hx1 hx2 hE hP hV hT
  show Calls Tryz.prog _ #[v,.pointer (some ⟨b1,0,none⟩),.pointer (some ⟨b2,0,none⟩)] w _
  go_enter Tryz.func137,Tryz.ntmps137
  go_wp2_with fail
  with_reducible refine HC.out.mono ?_
  rintro e w1 ⟨rfl,hI1,hF1⟩
  have HI1:=za hI1
  have HF1:=za hF1
  clear hI1 hF1
  go_wp2_with fail
  go_ret
  exact ⟨rfl,⟨HI1.out,(HF1.out.block _ pz hb1).trans HX1.out,(HF1.out.block _ qz hb2).trans HX2.out,HE.out.old (HF1.out.old hN HV.out.hT)⟩,HF1.out⟩
theorem zfN {σ:Type} {N:Nat} {T:Nat->Prop} {F:FuncId} {caps:Array Value} {Pt:Tm->Prop} {n:Nod} {step:σ->Qn->Tm->σ} {I:σ->World->Prop} (hV:zjB N T F caps Pt n step I) (nb:Nat) (vs ev:Value) (xs:List Value) (s:σ) (w:World) (h:NT w N n nb vs ev xs) (hN:N<=w.heap.size) (hTw:∀k,T k->k<w.heap.size) (hI:I s w) :
 Calls Tryz.prog 99 #[.pointer (some ⟨nb,0,none⟩),.func (.func F) #[] caps] w (λe w'=>e=.returned (.tuple #[])/\I (n.eqs.foldl (λs q=>(zaV za5 q.r).foldl (λs t=>step s q t) s) s) w'/\Fr T w w'):=by
 obtain ⟨h0,h1,h2,h3,h4,h5,hf,hz⟩:=zt h.blk
 obtain ⟨x,cp,rfl⟩:=zB h.own
 have HN:=za h
 have HV:=za hV
 have hI1:=hV.keep s w (w.alloc (.cells #[.func (.func F) #[] caps] 219)) hI (zq w _)
 have HI1:=za hI1
 have HTw:=za hTw
 have h16:n.eqs.length<=9223372036854775807:=by
  rcases h.own.2 with ⟨_,h⟩|⟨g,cap,cur,hv,_,_,h3,h4,_⟩
  · omega
  · unfold maxLen at h4;omega
 have hnz:=h.lo
 clear hV hI h hI1 hTw
 go_enter Tryz.func99,Tryz.ntmps99
 go_wp2_with fail
 go_loopg [11] (n.eqs.length+1) (λj i wr=>∃k:Nat,k+j=n.eqs.length+1/\k<=n.eqs.length/\i=.int .i64 k/\Hid (I ((n.eqs.take k).foldl (λs q=>(zaV za5 q.r).foldl (λs t=>step s q t) s) s) wr)/\Hid (wr.heap[w.heap.size]?=some (.cells #[.func (.func F) #[] caps] 219 (0,0)))/\Hid (Fr T w wr))
 case atStart=>exact ⟨0,by omega,Nat.zero_le _,rfl,HI1.out,zc w _,(Fr.refl T w).alloc _⟩
 case round =>
  obtain ⟨k,hkj,hk,rfl,HIk,HBk,HFk⟩:=hrel
  have hOk:Old N w wr:=HFk.out.old hN HV.out.hT
  have hzk:=HFk.out.size
  have hzk2:=ze HBk.out
  by_cases hlt:k<n.eqs.length
  · obtain ⟨q,hq⟩:∃q,n.eqs[k]?=some q:=⟨_,zsc hlt⟩
    have hN2:=HN.out.old hOk
    obtain ⟨g,lv,rv,rfl,c0,c1,c2,hE⟩:=zcd hN2.own hN2.eqs hq rfl
    obtain ⟨bb,_,_,rfl,_⟩:=hE.tt.ptr
    obtain ⟨xl,cl,rfl⟩:=zB hE.own
    have hVis:=zmv HV.out q (List.mem_of_getElem? hq) (.slice xl q.ns.length cl) (.pointer (some ⟨bb,0,none⟩)) w.heap.size wr.heap.size (λe=>by have:=HTw.out _ e;omega) (λe=>by have:=HTw.out _ e;omega) (by omega)
    have hold1:Old N wr (wr.alloc (.cells #[.slice xl q.ns.length cl,.int .i64 q.a,.pointer (some ⟨bb,0,none⟩)] 166)):=λk hk=>Below.heap_alloc _ _ _ (by omega)
    have HW:=za (ziV hVis q.r (.pointer (some ⟨bb,0,none⟩)) _ (wr.alloc (.cells #[.slice xl q.ns.length cl,.int .i64 q.a,.pointer (some ⟨bb,0,none⟩)] 166)) (hE.tt.old hold1) (by rw [zsb];omega) ⟨HV.out.keep _ _ _ HIk.out (zq wr _),(Below.heap_alloc _ _ _ hzk2).trans HBk.out,zc wr _,hE.old hold1⟩ ⟨HV.out.root q (List.mem_of_getElem? hq),Or.inl ⟨rfl,rfl⟩⟩)
    have HQ:=za hq
    clear hq hN2 hE hVis hold1 hOk
    go_wp2_with (go_at_call 136;refine HW.out.mono ?_;rintro e w2 ⟨rfl,hI2,hF2⟩;have HI2:=za hI2;have HF2:=za (((HFk.out.alloc _).trans hF2));clear hI2 hF2)
    go_roundg (gk-1)
    case measure=>omega
    refine ⟨k+1,by omega,by omega,by go_num,?_,HI2.out.2.1,HF2.out⟩
    obtain ⟨e1,e2⟩:=List.getElem?_eq_some_iff.1 HQ.out
    rw [List.take_succ_eq_append_getElem e1,e2,List.foldl_append]
    exact HI2.out.1
  · have ek:k=n.eqs.length:=by omega
    subst ek
    rw [List.take_length] at HIk
    go_wp2_with fail
    first|go_end0|refine bodyPost_ret (results_none rfl _ _ _) rfl ?_
    exact ⟨rfl,HIk.out,HFk.out⟩
end
section
open Go.RowKit
attribute [local go_sem ↓] Go.wp_at_zero Go.wp_at_succ
def zbX (n:Nat):Array Value:=(zK (List.replicate n 0)).toArray
theorem zhd (n c:Nat) (h:n<=c) (hc:c<=3145728) (w:World):(Instr.makeSlice 22 (.int .i64 (n:Int)) (.int .i64 (c:Int))).run Tryz.prog w=.ok (.slice (some ⟨w.heap.size,0,none⟩) n c) (w.alloc (.cells (zbX c) 2)):=by
 obtain ⟨i0,hi,hi0,hi1,hi2⟩:=info_parts Tryz.infoI64
 have:=run_make (P:=Tryz.prog) w 22 2 i0 _ Tryz.underlying22 hi hi0 .i64 .i64 (n:Int) (c:Int) (by omega) (by omega) (by rw [hi2];omega) (by omega)
 refine this.trans ?_
 clear this
 rw [hi1]
 simp only [Int.toNat_natCast,Nat.mul_one]
 refine congrArg (λx=>Result.ok (Value.slice (some ⟨w.heap.size,0,none⟩) n c) (w.alloc (.cells x 2))) ?_
 unfold zbX madeCells
 apply Array.ext
 · simp [zK]
 · intro j h1 h2
   simp [zK,Value.cells,Nat.mod_one]
theorem al4 (w:World) (o1 o2 o3 o4:Obj):((((w.alloc o1).alloc o2).alloc o3).alloc o4).drew.heap[w.heap.size]?=some o1/\((((w.alloc o1).alloc o2).alloc o3).alloc o4).drew.heap[w.heap.size+1]?=some o2/\((((w.alloc o1).alloc o2).alloc o3).alloc o4).drew.heap[w.heap.size+1+1]?=some o3/\((((w.alloc o1).alloc o2).alloc o3).alloc o4).drew.heap[w.heap.size+1+1+1]?=some o4/\Below w.heap.size w ((((w.alloc o1).alloc o2).alloc o3).alloc o4).drew:=by
 have h (w:World) (o:Obj) (k:Nat):(w.alloc o).heap[k]?=if k=w.heap.size then some o else w.heap[k]?:=by
  show (w.heap.push o)[k]?=_
  rw [Array.getElem?_push]
 have e (W:World) (k:Nat):W.drew.heap[k]?=W.heap[k]?:=rfl
 refine ⟨?_,?_,?_,?_,⟨rfl,rfl,rfl,by simp [World.drew];omega,λk hk=>?_⟩⟩
 all_goals
  rw [e]
  simp only [h,zsb]
 · rw [if_neg (by omega),if_neg (by omega),if_neg (by omega),if_pos trivial]
 · rw [if_neg (by omega),if_neg (by omega),if_pos trivial]
 · rw [if_neg (by omega),if_pos trivial]
 · rw [if_pos trivial]
 · rw [if_neg (by omega),if_neg (by omega),if_neg (by omega),if_neg (by omega)]
theorem zqs {w W:World} {N cb mb b1 b2 g n1 n2 n3:Nat} {bv cv rv:Value} {c:Cd} (h:CB w N cb bv cv rv c) (hN:N<=w.heap.size) (hB:Below w.heap.size w W) (e1:n1=c.cells.length) (e2:n2=c.slots)
 (hm:W.heap[mb]?=some (.cells #[.pointer (some ⟨cb,0,none⟩),.slice (some ⟨b1,0,none⟩) n1 n1,.slice (some ⟨b2,0,none⟩) n2 n2,.slice (some ⟨g,0,none⟩) 0 n3] 63 (0,0)))
 (h1:W.heap[b1]?=some (.cells (zbX n1) 2 (0,0))) (h2:W.heap[b2]?=some (.cells (zbX n2) 2 (0,0))) (h3:W.heap[g]?=some (.cells (zbX n3) 2 (0,0))) (hn3:n3<=3145728)
 (l0:w.heap.size<=mb) (l1:w.heap.size<=b1) (l2:w.heap.size<=b2) (l3:w.heap.size<=g) (d1:mb≠b1) (d2:mb≠b2) (d3:b1≠b2) (d4:g≠mb) (d5:g≠b1) (d6:g≠b2) :
 Mc W w.heap.size mb cb b1 b2 bv cv rv (.slice (some ⟨g,0,none⟩) 0 n3) c (List.replicate n1 0) (List.replicate n2 0) []:=by
 subst e1 e2
 have hc:CB W w.heap.size cb bv cv rv c:=by
  have:=h.old (zm hB hN)
  exact ⟨this.blk,this.bown,this.cown,this.rown,Nat.lt_of_lt_of_le this.h0 hN,λk e=>Nat.lt_of_lt_of_le (this.h1 k e) hN,λk e=>Nat.lt_of_lt_of_le (this.h2 k e) hN,λk e=>Nat.lt_of_lt_of_le (this.h3 k e) hN,this.outsB,this.slotsB,this.cellsB,this.depthB,this.rowB⟩
 refine ⟨hc,⟨?_,?_,?_,?_,d1,d2,d3,?_,?_,?_,hB.size⟩,l0,l1,l2,by simp,by simp⟩
 · simpa using hm
 · exact h1
 · exact h2
 · refine ⟨rfl,Or.inr ⟨g,n3,zbX n3,rfl,l3,h3,by simp,by unfold maxLen;omega,by simp [zbX,zK],by simp [zK]⟩⟩
 · intro e;cases e;exact d4 rfl
 · intro e;cases e;exact d5 rfl
 · intro e;cases e;exact d6 rfl
theorem zpK (N cb:Nat) (bv cv rv:Value) (c:Cd) (w:World) (h:CB w N cb bv cv rv c) (hN:N<=w.heap.size) :
 Calls Tryz.prog 20 #[.pointer (some ⟨cb,0,none⟩)] w (λe w'=>∃mb b1 b2 sv,e=.returned (.pointer (some ⟨mb,0,none⟩))/\Mc w' w.heap.size mb cb b1 b2 bv cv rv sv c c.cells (List.replicate c.slots 0) []/\Below w.heap.size w w'):=by
 obtain ⟨k0,k1,k2,k3,k4,k5,kf,kz⟩:=zt h.blk
 obtain ⟨x,cp,rfl⟩:=zB h.cown
 have H:=za h
 have a1:=h.slotsB
 have a2:=h.cellsB
 have a3:=h.depthB
 have b1:(0:Int)<=(c.cells.length:Int):=by omega
 have b2:(0:Int)<=(c.slots:Int):=by omega
 have b3:(0:Int)<=(c.depth:Int):=by omega
 have m1:=zhd c.cells.length c.cells.length (by omega) (by omega)
 have m2:=zhd c.slots c.slots (by omega) (by omega)
 have m3:∀w,(Instr.makeSlice 22 (.int .i64 0) (.int .i64 (c.depth:Int))).run Tryz.prog w=_:=zhd 0 c.depth (by omega) (by omega)
 clear h
 go_enter Tryz.func20,Tryz.ntmps20
 go_upto_region 1 with fail
 go_region_held3 (λw'=>w'.cell? ⟨cb,3,none⟩=some (.slice x c.cells.length cp)/\w'.cell? ⟨cb,2,none⟩=some (.int .i64 c.slots)/\w'.cell? ⟨cb,4,none⟩=some (.int .i64 c.depth)) (first|(refine ⟨?_,?_,?_⟩ <;> repeat (first|with_reducible exact k2|with_reducible exact k3|with_reducible exact k4|with_reducible refine zg ?_|with_reducible refine zj _ ?_))|go_keep) (fail)
 all_goals
  go_wp2_with (go_at_call 43;obtain ⟨e1,e2,e3,e4,e5⟩:=al4 w _ _ _ _;refine (zm3 w.heap.size _ cb _ _ bv _ rv _ c _ _ [] _ (zqs H.out hN e5 rfl rfl e4 (by first|exact e1|exact e2|exact e3) (by first|exact e1|exact e2|exact e3) (by first|exact e1|exact e2|exact e3) a3 (by omega) (by omega) (by omega) (by omega) (by omega) (by omega) (by omega) (by omega) (by omega) (by omega))).mono ?_;rintro e w1 ⟨rfl,hM1,hF1⟩;have HM1:=za hM1;have HB1:Hid (Below w.heap.size w w1):=e5.trans (hF1.below e5.size (by omega));clear hM1 hF1 e1 e2 e3 e4 e5)
 all_goals go_ret
 all_goals exact ⟨_,_,_,_,rfl,HM1.out,HB1.out⟩
end
section
open Go.RowKit
attribute [local go_sem ↓] Go.wp_at_zero Go.wp_at_succ
theorem zd8 (w:World) (o1 o2:Obj):((w.alloc o1).alloc o2).heap[w.heap.size]?=some o1/\((w.alloc o1).alloc o2).heap[w.heap.size+1]?=some o2:=by
 refine ⟨(Below.heap_alloc _ _ _ (by simp)).trans (zc w o1),?_⟩
 have:=zc (w.alloc o1) o2
 rwa [zsb] at this
def clk (k:Nat×Nat):Int×Int:=((k.1:Int),(k.2:Int))
def ckL (c:Sc):Nat->List ((Int×Int)×Value)
 | 0=>[]
 | i+1=>ckL c i++[(((i:Int),1),pr (clk (c.of i))),(((i:Int),2),pr (clk (c.of i)))]
theorem zpm (c:Sc) (n:Nat):(ckL c n).length=2*n:=by
 induction n with
 | zero=>rfl
 | succ n ih=>rw [ckL,List.length_append,ih];simp;omega
theorem zqf (c:Sc) (n:Nat):∀p∈ckL c n,∃j,j<n/\p.1.1=(j:Int):=by
 induction n with
 | zero=>intro p h;simp [ckL] at h
 | succ n ih =>
   intro p h
   rw [ckL,List.mem_append] at h
   rcases h with h|h
   · obtain ⟨j,h1,h2⟩:=ih p h
     exact ⟨j,by omega,h2⟩
   · simp at h
     rcases h with rfl|rfl
     · exact ⟨n,by omega,rfl⟩
     · exact ⟨n,by omega,rfl⟩
theorem zkA (c:Sc) (n:Nat) (s:Int):((n:Int),s) ∉ (ckL c n).map (·.1):=by
 intro h
 obtain ⟨p,h1,h2⟩:=List.mem_map.1 h
 obtain ⟨j,h3,h4⟩:=zqf c n p h1
 rw [h2] at h4
 simp at h4
 omega
theorem znw {κ:Type} [DecidableEq κ] (k:κ) (m:List (κ×Value)):∀l:List (κ×Value),zaT k (l++m)=match zaT k l with|some v=>some v|none=>zaT k m:=by
 intro l
 induction l with
 | nil=>rfl
 | cons p l ih =>
   rw [List.cons_append]
   simp only [zaT]
   split
   · rfl
   · exact ih
theorem zoh (c:Sc) (n j s:Nat):zaT ((j:Int),(s:Int)) (ckL c n)=if j<n/\(s=1∨s=2) then some (pr (clk (c.of j))) else none:=by
 induction n with
 | zero=>simp [ckL,zaT]
 | succ n ih =>
   rw [ckL,znw,ih]
   by_cases h1:j<n
   · by_cases h2:s=1∨s=2
     · rw [if_pos ⟨h1,h2⟩,if_pos ⟨by omega,h2⟩]
     · rw [if_neg (λe=>h2 e.2),if_neg (λe=>h2 e.2)]
       simp only [zaT,Prod.mk.injEq]
       rw [if_neg (by omega),if_neg (by omega)]
   · rw [if_neg (λe=>h1 e.1)]
     simp only [zaT,Prod.mk.injEq]
     by_cases h3:j=n
     · subst h3
       by_cases h4:s=1
       · subst h4;simp
       · by_cases h5:s=2
         · subst h5;simp
         · rw [if_neg (by omega),if_neg (by omega),if_neg (by omega)]
     · rw [if_neg (by omega),if_neg (by omega),if_neg (by omega)]
theorem zng (c:Sc) (n:Nat) (v:Value):upd ((n:Int),1) v (ckL c n)=ckL c n++[(((n:Int),1),v)]:=zh0 (zkA c n 1)
theorem zn3 (c:Sc) (n:Nat) (u v:Value):upd ((n:Int),2) v (ckL c n++[(((n:Int),1),u)])=ckL c n++[(((n:Int),1),u),(((n:Int),2),v)]:=by
 rw [zh0]
 · simp
 · rw [List.map_append,List.mem_append]
   rintro (h|h)
   · exact zkA c n 2 h
   · simp at h
def za7 (w:World) (c:Sc) (cb:Nat):Prop:=zbn w cb pr (ckL c c.nd.vars.length)
theorem za7.of' {w w':World} {c:Sc} {cb:Nat} (h:za7 w c cb) (hb:w'.heap[cb]?=w.heap[cb]?):za7 w' c cb:=zbn.of h hb
theorem za7.lt {w:World} {c:Sc} {cb:Nat} (h:za7 w c cb):cb<w.heap.size:=zbn.lt h
theorem za7.keep {w w':World} {c:Sc} {cb:Nat} (h:za7 w c cb) (hB:Below w.heap.size w w'):za7 w' c cb:=h.of' (hB.block _ h.lt)
theorem Tryz.zeroClock (w:World):(zeroValue 169).run Tryz.prog w=.ok (pr (0,0)) w:=by
 unfold pr
 kernel_rfl
theorem zoP (c:Sc) (i:Nat) (h:¬i<c.nd.vars.length):c.of i=(0,0):=by
 unfold Sc.of
 rw [List.getElem?_eq_none (by omega)]
theorem zkW {w:World} {c:Sc} {cb:Nat} (h:za7 w c cb) (k:Nat×Nat) :
 (Instr.lookup 99 (.map (some cb)) (pr (clk k)) false).run Tryz.prog w=.ok (pr (clk (c.up k))) w:=by
 rw [zgI Tryz.keyClock Tryz.underlying99 Tryz.zeroClock h (clk k) false]
 rw [show clk k=((k.1:Int),(k.2:Int)) from rfl,zoh]
 refine congrArg (λv=>Result.ok v w) ?_
 show Option.getD _ _=_
 unfold Sc.up
 by_cases h2:k.2=1∨k.2=2
 · rw [if_pos h2]
   by_cases h1:k.1<c.nd.vars.length
   · rw [if_pos ⟨h1,h2⟩];rfl
   · rw [if_neg (λe=>h1 e.1),zoP c _ h1];rfl
 · rw [if_neg (λe=>h2 e.2),if_neg h2];rfl
theorem zru {w:World} {c:Sc} {cb:Nat} (h:za7 w c cb) (i:Nat) :
 (Instr.lookup 99 (.map (some cb)) (.agg #[.int .i64 (i:Int),.int .i64 1]) false).run Tryz.prog w=.ok (.agg #[.int .i64 ((c.of i).1:Nat),.int .i64 ((c.of i).2:Nat)]) w:=by
 have:=zkW h (i,1)
 rw [show c.up (i,1)=c.of i from if_pos (Or.inl rfl)] at this
 exact this
theorem zqw {w:World} {c:Sc} {cb:Nat} (h:za7 w c cb) (ty:TypeId):(Builtin.len_ #[99] ty #[.map (some cb)]).run Tryz.prog w=.ok (.int .i64 ((2*c.nd.vars.length:Nat):Int)) w:=by
 obtain ⟨es,clock,h1,h2⟩:=h
 have h3:es.size=2*c.nd.vars.length:=by
  have:=congrArg List.length h2
  rw [List.length_map,List.length_map,zpm] at this
  simpa using this
 rw [<- h3]
 have h4:Tryz.prog.underlying 99=some (.map (Tryz.prog.mapKeyOf 99) (Tryz.prog.mapElemOf 99)):=by kernel_rfl
 exact run_len_map w 99 ty cb es clock h4 h1
theorem zbC {c:Sc} {cb:Nat} (i:Nat) (w:World) (h:za7 w c cb) :
 Calls Tryz.prog 71 #[.map (some cb),.int .i64 (i:Int)] w (λe w'=>e=.returned (.agg #[.int .i64 ((c.of i).1:Nat),.int .i64 ((c.of i).2:Nat)])/\Below w.heap.size w w'):=by
 have hl:=λo=>zru (h.keep (zq w o)) i
 clear h
 go_enter Tryz.func71,Tryz.ntmps71
 go_wp2_with fail
 refine bodyPost_ret (v:=.agg #[.int .i64 ((c.of i).1:Nat),.int .i64 ((c.of i).2:Nat)]) (by simp [results,Tryz.results71,go_sem]) rfl ⟨rfl,?_⟩
 exact zq w _
theorem zdR {w:World} {b:Nat} {e:TypeId} {u0 u1:Value} (h:w.heap[b]?=some (.cells #[u0,u1] e (0,0))) (v0 v1:Value):((w.setCell ⟨b,0,none⟩ v0).setCell ⟨b,1,none⟩ v1).heap[b]?=some (.cells #[v0,v1] e (0,0)) :=
 zh _ _ _ _ (zh _ _ _ _ h)
theorem znR (c:Sc) (i:Nat) (m:Nat) (k:Nat×Nat):zhr c i (m+1) k=if k=(0,0) then false else if k.1=i then true else zhr c i m (c.up k):=rfl
theorem ziA {c:Sc} {cb:Nat} (i:Nat) (w:World) (h:za7 w c cb) (h16:c.nd.vars.length<=1000) :
 Calls Tryz.prog 109 #[.map (some cb),.int .i64 (i:Int)] w (λe w'=>e=.returned (.bool (c.comesBack i))/\Below w.heap.size w w'):=by
 have hl:=zbC i w h
 have HL:=za hl
 have HC:=za h
 have hz:=h.lt
 clear h hl
 go_enter Tryz.func109,Tryz.ntmps109
 go_upto_region 2 with (go_at_call 71;refine HL.out.mono ?_;rintro e w1 ⟨rfl,hB⟩;have HB:=za hB;clear hB)
 refine zn (λW=>za7 W c cb/\Below w.heap.size w W/\W.heap[w1.heap.size]?=some (.cells #[.int .i64 ((c.of i).1:Nat),.int .i64 ((c.of i).2:Nat)] 169 (0,0))) ⟨(HC.out.keep HB.out).keep (zq w1 _),zaU HB.out (Nat.le_refl _) _,zc w1 _⟩ ?_
 rintro W ⟨hCW,hBW,hXW⟩
 have hzw:w.heap.size<=w1.heap.size:=HB.out.size
 have hlen:=zqw hCW
 have HCW:=za hCW
 have HBW:=za hBW
 have HXW:=za hXW
 clear hCW hBW hXW
 go_wp2_with fail
 go_loopg [11] (2*c.nd.vars.length+1) (λj x wr=>∃(k:Nat) (kk:Nat×Nat),k+j=2*c.nd.vars.length+1/\k<=2*c.nd.vars.length/\x=.int .i64 k/\Hid (za7 wr c cb)/\Hid (wr.heap[w1.heap.size]?=some (.cells #[.int .i64 (kk.1:Nat),.int .i64 (kk.2:Nat)] 169 (0,0)))/\Hid (c.comesBack i=zhr c i (j-1) kk)/\Hid (Below w.heap.size w wr))
 case atStart=>exact ⟨0,c.of i,by omega,Nat.zero_le _,rfl,HCW.out,HXW.out,rfl,HBW.out⟩
 case round =>
  clear HCW HXW HBW hlen
  obtain ⟨k,kk,hkj,hk,rfl,HC,HX,HD,HB2⟩:=hrel
  obtain ⟨x0,x1,xf,xz⟩:=zp HX.out
  by_cases hlt:k<2*c.nd.vars.length
  · obtain ⟨m,rfl⟩:∃m,gk=m+1+1:=⟨gk-1-1,by omega⟩
    have hE:=HD.out
    rw [show m+1+1-1=m+1 from rfl,znR] at hE
    have hlk:=zkW HC.out kk
    unfold pr clk at hlk
    clear HD
    by_cases h0:kk=(0,0)
    · rw [if_pos h0] at hE
      subst h0
      have HE:=za hE
      clear hE
      go_wp2_with fail
      go_ret
      exact ⟨by rw [HE.out];rfl,HB2.out⟩
    · rw [if_neg h0] at hE
      by_cases h1:kk.1=i
      · rw [if_pos h1] at hE
        have h1':(kk.1:Int)=(i:Int):=by omega
        have HE:=za hE
        clear hE h1
        obtain ⟨k1,k2⟩:=kk
        simp only [Prod.mk.injEq] at h0
        simp only at h1' HX HE x0 x1 hlk
        by_cases g0:(k1:Int)=0
        have g1:¬(k2:Int)=0:=by omega
        simp only [g0] at hlk
        all_goals clear h0
        · go_wp2_with fail
          go_ret
          exact ⟨by rw [HE.out];rfl,HB2.out⟩
        · go_wp2_with fail
          go_ret
          exact ⟨by rw [HE.out];rfl,HB2.out⟩
      · rw [if_neg h1] at hE
        have h1':¬(kk.1:Int)=(i:Int):=by omega
        have HE:=za hE
        clear hE h1
        have hcn:¬cb=w1.heap.size:=by omega
        obtain ⟨k1,k2⟩:=kk
        simp only [Prod.mk.injEq] at h0
        simp only at h1' HX HE x0 x1 hlk
        by_cases g0:(k1:Int)=0
        have g1:¬(k2:Int)=0:=by omega
        simp only [g0] at hlk
        all_goals clear h0
        · go_wp2_with fail
          go_roundg (m+1)
          case measure=>omega
          exact ⟨k+1,c.up (k1,k2),by omega,by omega,by go_num,HC.out.of' ((Below.heap_setCell _ _ _ _ hcn).trans (Below.heap_setCell _ _ _ _ hcn)),zdR HX.out _ _,HE.out,zC (zC HB2.out hzw _) hzw _⟩
        · go_wp2_with fail
          go_roundg (m+1)
          case measure=>omega
          exact ⟨k+1,c.up (k1,k2),by omega,by omega,by go_num,HC.out.of' ((Below.heap_setCell _ _ _ _ hcn).trans (Below.heap_setCell _ _ _ _ hcn)),zdR HX.out _ _,HE.out,zC (zC HB2.out hzw _) hzw _⟩
  · have ek:k=2*c.nd.vars.length:=by omega
    subst ek
    have:gk=1:=by omega
    subst this
    have HE:Hid (c.comesBack i=false):=HD.out
    clear HD
    go_wp2_with fail
    go_ret
    exact ⟨by rw [HE.out];rfl,HB2.out⟩
end
end Go.Proofs.YtedmpgjebafcjaaGreatDoor
