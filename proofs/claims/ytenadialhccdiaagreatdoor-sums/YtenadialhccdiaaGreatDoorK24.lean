/- Part 25. -/
import Derived.Test.YtenadialhccdiaaGreatDoorK23
set_option maxRecDepth 100000
set_option maxHeartbeats 8000000
namespace Go.Proofs.YtenadialhccdiaaGreatDoor
open Go.Proofs.Tryz
section
open Go.RowKit
variable {c:Cd} {cells l slots:List Int} {R:Ms} {N b1 b2 cb cp k mb:Nat} {i:Nat×Int} {a:Xp} {bv cv rv sv sv':Xv} {w w' wr:Xw}
attribute [local go_sem ↓] Go.wp_at_zero Go.wp_at_succ
theorem ziz (S:Xs)(N mb cb:Nat)(c1 c2 c3 bv cv rv:Xv)(c:Cd)(w:Xw)(v:Xv)(g:Nat)(l:List Int)(hG:Gl S w)(hb:xH w mb #[xP cb,c1,c2,c3] 114)(h:CB w N cb bv cv rv c)(hl:Nm w v g l)(hr:zdE c.bools l=none) :
 xK 38 #[xP mb,v] w (λe w'=>e=.returned .nilIface/\xB w w'):=by
 unfold zdE at hr;split at hr
 . rename_i he
   refine (ziw S N mb cb c1 c2 c3 bv cv rv c w v g l hG hb h hl he).mono ?_;rintro e w' ⟨h1,h2⟩;refine⟨?_,h2⟩;rw[hr] at h1;unfold zhk at h1;simpa using h1
 cases hr
theorem Tryz.zeroI64 (w:Xw):(zeroValue 2).run prog w=.ok (xI 0) w:=by kernel_rfl
theorem zmq (hls:slots.length=c.slots):zK l++(List.replicate slots.length (xI 0)).drop (zK l).length=zK (zdY c.slots l):=by unfold zdY zK;rw[List.map_append,hls];simp[List.drop_replicate]
theorem zq7 {ns nc:Nat}:∀(l:List (Nat×Int)) (h h' k:Nat) (i:Nat×Int),zd9 ns nc h l=some h'->l[k]?=some i->∃h1 h2,zd9 ns nc h (l.take k)=some h1/\zgT ns nc h1 i=some h2/\h1<=h+k:=by
 intro l;induction l with
 | nil=>intro h h' k i _ hk;simp at hk
 | cons a l ih =>
   intro h h' k i hf hk;unfold zd9 at hf;split at hf
   . cases hf
   rename_i h1 hf1
   cases k with
   | zero => simp at hk;subst hk;exact⟨h,h1,rfl,hf1,by omega⟩
   | succ k =>
     simp at hk;obtain⟨a1,a2,e1,e2,e3⟩:=ih h1 h' k i hf hk;refine⟨a1,a2,?_,e2,?_⟩
     . rw[zMW];unfold zd9;rw[hf1];exact e1
     have:h1<=h+1:=by
      unfold zgT at hf1;split at hf1
      . cases hf1
      rename_i s hs
      split at hf1
      . cases hf1;have:s.2.2<=1:=by have h20:=zeB hs;have hm:s∈zY:=zML hs;have:∀t∈zY,t.2.2<=1:=(by decide);exact this s hm
        omega
      cases hf1
     omega
theorem zn4 {m:Ms}{l:List (Nat×Int)}(hk:l[k]?=some i):zea m (l.take (k+1))=doM (zea m (l.take k)) i:=by obtain⟨h1,h2⟩:=zMJ.1 hk;rw[List.take_succ_eq_append_getElem h1,h2];unfold zea;rw[zMP];rfl
theorem MFr.ofFr {T:Xj}(h:Fr T w w')(hT:∀k,T k->k=mb∨k=b1∨k=b2):MFr mb b1 b2 w sv w' sv :=
 ⟨h.mono (λk _ e=>by rcases hT k e with e|e|e;exact zM3 e;exact zM4 (zM3 e);exact zM4 (zM4 (zM3 e))),λ_ e=>zM3 e⟩
theorem MFr.old (h:MFr mb b1 b2 w sv w' sv')(hN:N<=w.heap.size)(l0:N<=mb)(l1:N<=b1)(l2:N<=b2)(ls:∀k,sv.ownBlock=some k->N<=k):Old N w w' :=
 h.fr.old hN (λk e=>by rcases e with e|e|e|e;omega;omega;omega;exact ls k e)
theorem zmo {B n:Nat}{e:Xy}{l:List (Nat×Int)}(h:w.ownsRow B e 2 (.slice a n cp) n (zbs l))(hk:l[k]?=some i):∃g,a=some (xD g 0)/\xC w g (k*2) (.int .u8 i.1)/\xC w g (k*2+1) (xI i.2):=by
 have hl:l.length=n:=by have:=h.1;rw[zgC] at this;omega
 have hk':=(zMJ.1 hk).1;obtain⟨g,cap,hv,_⟩:=zM h (by omega);cases hv;obtain⟨e1,e2⟩:=zkl l k i hk;have h1:=h.cells (g:=g) rfl _ _ e1;have h2:=h.cells (g:=g) rfl _ _ e2;have e0:∀j,((xD g 0):Addr).add j=⟨g,j,none⟩:=λj=>by cases j <;> simp[Addr.add]
 rw[e0] at h1 h2;exact⟨g,rfl,h1,h2⟩
theorem zpD {w1:Xw}{g:Nat}(hB:xB w w1)(h:Mc w N mb cb b1 b2 bv cv rv sv c cells slots [])(hl:Nm w (.slice a l.length cp) g l)(hg2:l≠[]->g≠b2)(hle:l.length=c.bools.length) :
 ∃w2 w3,(Builtin.clear_ #[22] 0 #[xS b2 slots.length slots.length]).run prog w1=.ok (.tuple #[]) w2 /\
  (Builtin.copy_ #[22,22] 3 #[xS b2 slots.length slots.length,.slice a l.length cp]).run prog w2=.ok (goInt l.length) w3 /\
  w1.cell? (xD mb 2)=some (xS b2 slots.length slots.length)/\w2.cell? (xD mb 2)=some (xS b2 slots.length slots.length) /\
  Mc w3 N mb cb b1 b2 bv cv rv sv c cells (zdY c.slots l) []/\MFr mb b1 b2 w sv w3 sv:=by
 have hz:=h.mem.lt;have hM1:=h.mem.fr (λk hk=>hB.block k hk) hB.size;obtain⟨w2,hclr,hg3,hf2⟩:=ziG (P:=prog) w1 22 2 0 (xI 0) underlying22 Tryz.zeroI64 rfl rfl b2 slots.length (zK slots) 2 hM1.sl;rw[zbS] at hclr hg3;have hM2:=hM1.slots' (slots':=List.replicate slots.length 0) (by simp) (by simpa [zK] using hg3) hf2;have ho:=h.code.outsB;have hls:=h.ls;obtain⟨a',cp',hv,hcp,hmx,hin⟩:=hl.ex;cases hv;have hsrc:0<(zK l).length->∃ad,a=some ad/\∀j v,(zK l)[j]?=some v->w2.cell? (ad.add j)=some v:=by
  intro hp;have hne:l≠[]:=by intro e;subst e;simp[zK] at hp
  obtain⟨o,e1,e2⟩:=hin hne;refine⟨_,e1,λj v hj=>?_⟩;have e0:((xD g o):Addr).add j=⟨g,o+j,none⟩:=by cases j <;> simp[Addr.add]
  rw[e0];unfold zK at hj;rw[List.getElem?_map] at hj;obtain⟨x,hx,rfl⟩:=Option.map_eq_some_iff.1 hj;have h1:=e2 j x hx;have hlt:g<w.heap.size:=World.block_lt_of_cell? w (xD g (o+j)) h1;exact (zWS (w:=w1) (hf2.block g (zM9 hlt hB.size) (hg2 hne))).trans ((zWS (w:=w) (hB.block g hlt)).trans h1)
 obtain⟨w3,hcpy,hg4,hf3⟩:=zew (P:=prog) w2 22 22 3 2 b2 slots.length slots.length a l.length cp (List.replicate slots.length (xI 0)) 2 (zK l) underlying22 Tryz.i64size hg3 (by rw[zbS];exact (Nat.min_eq_left (by omega)).symm) hsrc (by rw[zbS];simp;omega) zfs;rw[zbS] at hcpy;rw[zmq hls] at hg4;have hM3:=hM2.slots' (slots':=zdY c.slots l) (by unfold zdY;simp;omega) hg4 hf3;have hF:MFr mb b1 b2 w sv w3 sv:=by have f1:MFr mb b1 b2 w sv w1 sv:=MFr.ofFr (T:=λ_=>False) (Fr.of_below hB) (λ_ e=>e.elim);have f2:MFr mb b1 b2 w1 sv w2 sv:=MFr.ofFr hf2 (λ_ e=>zM4 (zM4 e));have f3:MFr mb b1 b2 w2 sv w3 sv:=MFr.ofFr hf3 (λ_ e=>zM4 (zM4 e));exact (f1.trans f2).trans f3
 have c2:=(zU hM2.blk).2.2.1;rw[List.length_replicate] at c2;refine⟨w2,w3,hclr,hcpy,(zU hM1.blk).2.2.1,c2,⟨h.code.old (hF.old h.mem.hB h.n0 h.n1 h.n2 (λk e=>(h.mem.own.lt k e).1)),hM3,h.n0,h.n1,h.n2,h.lc,by unfold zdY;simp;omega⟩,hF⟩
theorem zoy (hRs:R.slots.length=c.slots)(ho:c.bools.length+c.outs<=c.slots):(zcX c R).length=c.outs:=by unfold zcX;simp;omega
theorem znG (h:MB wr mb cb b1 b2 N sv R.cells R.slots [])(hRs:R.slots.length=c.slots)(ho:c.bools.length+c.outs<=c.slots)(sp:Xp)(sl sc:Nat)(hsp:0<c.outs->sp=some (xD b2 c.bools.length))(hsl:sl=c.slots-c.bools.length) :
 ∃w7,(Builtin.copy_ #[22,22] 3 #[xS wr.heap.size c.outs c.outs,.slice sp sl sc]).run prog (wr.alloc (.cells (zbX c.outs) 2)).drew=.ok (goInt c.outs) w7 /\
  w7.heap[wr.heap.size]?=some (.cells (zK (zcX c R)).toArray 2 (0,0))/\Fr (·=wr.heap.size) (wr.alloc (.cells (zbX c.outs) 2)) w7:=by
 have hl:=zoy hRs ho;have hsrc:0<(zK (zcX c R)).length->∃ad,sp=some ad/\∀j v,(zK (zcX c R))[j]?=some v->(wr.alloc (.cells (zbX c.outs) 2)).drew.cell? (ad.add j)=some v:=by
  intro hp;rw[zbS,hl] at hp;refine⟨_,hsp hp,λj v hj=>?_⟩;have e0:((xD b2 c.bools.length):Addr).add j=⟨b2,c.bools.length+j,none⟩:=by cases j <;> simp[Addr.add]
  rw[e0];unfold zK at hj;rw[List.getElem?_map] at hj;obtain⟨x,hx,rfl⟩:=Option.map_eq_some_iff.1 hj;refine zg (zj _ (zbT h.sl (k:=c.bools.length+j) (v:=x) ?_));unfold zcX at hx;rw[List.getElem?_take] at hx;split at hx
  . rwa [List.getElem?_drop] at hx
  cases hx
 obtain⟨w7,h1,h2,h3⟩:=zew (P:=prog) (wr.alloc (.cells (zbX c.outs) 2)).drew 22 22 3 2 wr.heap.size c.outs c.outs sp sl sc (zK (List.replicate c.outs 0)) 2 (zK (zcX c R)) underlying22 Tryz.i64size (zc wr _) (by rw[zbS,hl,hsl];exact (Nat.min_eq_right (by omega)).symm) hsrc (by rw[zbS,hl,zbS];simp) zfs;rw[zbS,hl] at h1 h2;rw[List.drop_eq_nil_of_le (by rw[zbS];simp),List.append_nil] at h2;exact⟨w7,h1,h2,h3.undrew⟩
theorem zjF {w3 w7:Xw}(h:Mc w N mb cb b1 b2 bv cv rv sv c cells slots [])(hF3:MFr mb b1 b2 w sv w3 sv)(hFk:MFr mb b1 b2 w3 sv wr sv')(hM:MB wr mb cb b1 b2 N sv' R.cells R.slots [])(hC:CB wr N cb bv cv rv c)(hRc:R.cells.length=c.cells.length)(hRs:R.slots.length=c.slots)
 (hG7:w7.heap[wr.heap.size]?=some (.cells (zK (zcX c R)).toArray 2 (0,0))) (hF7:Fr (·=wr.heap.size) (wr.alloc (.cells (zbX c.outs) 2)) w7) :
 ∃ob sv',Ending.returned (.tuple #[xS wr.heap.size c.outs c.outs,.nilIface])=.returned (.tuple #[xS ob c.outs c.outs,.nilIface])/\w.heap.size<=ob/\w7.heap[ob]?=some (.cells (zK (zcX c R)).toArray 2 (0,0))/\(∀k,sv'.ownBlock=some k->k≠ob)/\Mc w7 N mb cb b1 b2 bv cv rv sv' c R.cells R.slots []/\MFr mb b1 b2 w sv w7 sv':=by
 have hk:∀k,k<wr.heap.size->w7.heap[k]?=wr.heap[k]?:=λk hk=>(hF7.block k (by rw[zsb];omega) (by omega)).trans (zWP _ _ _ hk);have hz:wr.heap.size<=w7.heap.size:=by have:=hF7.size;rw[zsb] at this;omega
 have hF:MFr mb b1 b2 w sv wr sv':=hF3.trans hFk;refine⟨wr.heap.size,sv',rfl,hF.fr.size,hG7,λk e=>?_,⟨hC.old (λk hk'=>hk k (by have:=hM.hB;omega)),hM.fr hk hz,h.n0,h.n1,h.n2,hRc,hRs⟩,?_⟩
 . have:=(hM.own.lt k e).2;omega
 refine hF.trans ⟨⟨hF7.os,hF7.tape,hF7.output,hz,λk hk' _=>hk k hk'⟩,λ_ e=>zM3 e⟩
theorem zjy (S:Xs)(N mb cb b1 b2:Nat)(bv cv rv sv:Xv)(c:Cd)(cells slots:List Int)(w:Xw)(v:Xv)(g:Nat)(l:List Int)(hG:Gl S w)(h:Mc w N mb cb b1 b2 bv cv rv sv c cells slots [])(hl:Nm w v g l)(hg2:l≠[]->g≠b2)(hr:zdE c.bools l=none)(hfit:zd9 c.slots c.cells.length 0 c.row=some 0) :
 xK 18 #[xP mb,v] w (λe w'=>∃ob sv',e=.returned (.tuple #[xS ob c.outs c.outs,.nilIface])/\w.heap.size<=ob/\w'.heap[ob]?=some (.cells (zK (zcX c (zbm c cells l))).toArray 2 (0,0))/\(∀k,sv'.ownBlock=some k->k≠ob)/\Mc w' N mb cb b1 b2 bv cv rv sv' c (zbm c cells l).cells (zbm c cells l).slots []/\MFr mb b1 b2 w sv w' sv'):=by
 have HR:=za (ziz S N mb cb _ _ _ bv cv rv c w v g l hG h.mem.blk h.code hl hr);have hle:l.length=c.bools.length:=by
  unfold zdE at hr;split at hr
  . assumption
  cases hr
 obtain⟨h0,h1,h2,h3,hf,hz⟩:=zU h.mem.blk;obtain⟨hz0,hz1,hz2,hz3⟩:=h.mem.lt;obtain⟨xr,cpr,rfl⟩:=zB h.code.rown;obtain⟨a,cp,rfl,hcp,hmx,hin⟩:=hl.ex;unfold maxLen at hmx;have hls:=h.ls;have hlc:=h.lc;have ho1:=h.code.outsB;have ho2:=h.code.slotsB;have hrb:=h.code.rowB;have H:=za h;have HL:=za hl;have Hg2:=za hg2;have Hfit:=za hfit;have hNw:=h.mem.hB;have n0:=h.n0;have n1:=h.n1;have n2:=h.n2;have Hle:=za hle;have Hls:=za hls;have Hlc:=za hlc;have q1:c.bools.length+c.outs<=slots.length:=by omega
 have q2:slots.length<=255:=by omega
 have q3:l.length<=slots.length:=by omega
 clear h hl hr hG hin hg2 hfit hle hls hlc;go_enter func18,ntmps18;go_wp2_with (go_at_call 38;refine HR.o.mono ?_;rintro e w1 ⟨rfl,hB⟩;obtain⟨w2,w3,hclr,hcpy,hc1,hc2,hM3,hF3⟩:=zpD hB H.o HL.o Hg2.o Hle.o;obtain⟨p0,p1,p2,p3,pf,pz⟩:=zU hM3.mem.blk;obtain⟨d0,d1,d2,d3,d4,d5,df,dz⟩:=zt hM3.code.blk;have HM3:=za hM3;have HF3:=za hF3;clear hB hM3 hF3);obtain⟨m0,hm0⟩:∃m0:Ms,m0=⟨cells,zdY c.slots l,[]⟩:=⟨_,rfl⟩;have hMB:MB w3 mb cb b1 b2 N sv m0.cells m0.slots m0.st:=by rw[hm0];exact HM3.o.mem
 have HMB:=za hMB;have HW:Hid (zbm c cells l=zea m0 c.row):=by rw[hm0];exact rfl
 have hlm:m0.cells.length=c.cells.length:=by rw[hm0];exact HM3.o.lc
 have hsm:m0.slots.length=c.slots:=by rw[hm0];exact HM3.o.ls
 have hst:m0.st.length=0:=by rw[hm0];rfl
 have Hlm:=za hlm;have Hsm:=za hsm;have Hst:=za hst;clear hMB hm0 hlm hsm hst HR hclr hcpy hc1 hc2;go_loopg [35] (c.row.length+1) (λj i wr=>∃(k:Nat) (sv':Xv),i=xI k/\k+j=c.row.length+1/\k<=c.row.length/\Hid (MB wr mb cb b1 b2 N sv' (zea m0 (c.row.take k)).cells (zea m0 (c.row.take k)).slots (zea m0 (c.row.take k)).st)/\Hid (MFr mb b1 b2 w3 sv wr sv'));case atStart=>exact⟨0,sv,rfl,by omega,by omega,HMB.o,MFr.refl _ _ _ _ _⟩
 case round =>
  obtain⟨k,sv',rfl,hkj,hkn,HMk,HFk⟩:=hrel;have hO:Old N w3 wr:=HFk.o.old HM3.o.mem.hB n0 n1 n2 (λk e=>(HM3.o.mem.own.lt k e).1);have hC:=HM3.o.code.old hO;have HC:=za hC;clear hO;by_cases hlt:k<c.row.length
  . obtain⟨i,hi⟩:∃i,c.row[k]?=some i:=⟨_,zsc hlt⟩;obtain⟨gr,rfl,hr1,hr2⟩:=zmo hC.rown hi;obtain⟨f1,f2,e1,e2,e3⟩:=zq7 c.row 0 0 k i Hfit.o hi;obtain⟨e4,e5,e6⟩:=zkI _ _ _ m0 e1 Hst.o;have hD:=λo=>zqr mb cb b1 b2 N sv' (zea m0 (c.row.take k)) i f1 f2 (wr.alloc o) (HMk.o.alloc o) (by rw[e5,e6,Hlm.o,Hsm.o];exact e2) e4 (by omega);rw[<- zn4 hi] at hD;have HD:=za hD;clear hi e1 e2 e4 e5 e6 hD hC;obtain⟨op,x⟩:=i;simp only at hr1 hr2 HD;go_wp2_with (go_at_call 39;refine (HD.o _).mono ?_;rintro e w4 ⟨rfl,sv4,hM4,hF4⟩;have HM4:=za hM4;have HF4:=za (HFk.o.trans hF4.ofAlloc);clear hM4 hF4);go_roundg (gk-1);case measure=>omega
    exact⟨k+1,sv4,by go_num,by omega,by omega,HM4.o,HF4.o⟩
  have ek:k=c.row.length:=by omega
  subst ek;rw[List.take_length,<- HW.o] at HMk;obtain⟨e4,e5,e6⟩:=zkI _ _ _ m0 Hfit.o Hst.o;rw[<- HW.o] at e4 e5 e6;obtain⟨R,hR⟩:∃R,zbm c cells l=R:=⟨_,rfl⟩;rw[hR] at HMk e4 e5 e6;have es:R.st=[]:=List.eq_nil_of_length_eq_zero e4;rw[es] at HMk;have hRc:R.cells.length=c.cells.length:=e5.trans Hlm.o;have hRs:R.slots.length=c.slots:=e6.trans Hsm.o;have HR':=za hR;obtain⟨t0,t1,t2,t3,tf,tz⟩:=zU HMk.o.blk;obtain⟨_,_,tz2,_⟩:=HMk.o.lt;rw[hRs] at t2;have HOu:=za (zjL mb cb N _ _ _ bv cv _ c wr HMk.o.blk hC);have HIn:=za (λo=>zec mb cb N _ _ _ bv cv _ c (wr.alloc o).drew (HMk.o.alloc o).blk (hC.old (λk hk=>zWP _ _ _ (by have:=HMk.o.hB;omega))));have mk:=zhd c.outs c.outs (by omega) (by omega);have HRc:=za hRc;have HRs:=za hRs;have i1:(0:Int)<=(c.bools.length:Int):=by omega
  have i2:(c.bools.length:Int)<=(c.slots:Int):=by omega
  clear hC hR es e4 e5 e6 hRc hRs HM3 HMB;go_upto_region 12 with (go_at_call 40;refine HOu.o.mono ?_;rintro e w5 ⟨rfl,rfl⟩);have u2:=zj (.cells (zbX c.outs) 2) t2;have HMa:=za (HMk.o.alloc (.cells (zbX c.outs) 2));have Hcp:=za (znG (c:=c) HMk.o HRs.o ho1);by_cases hlow:c.bools.length<c.slots
  . obtain⟨w7,hcp7,hg7,hf7⟩:=Hcp.o (some (xD b2 c.bools.length)) (c.slots-c.bools.length) (c.slots-c.bools.length) (λ_=>rfl) rfl;have hcb:=HC.o.h0;have i3:(c.bools.length:Int)<(c.slots:Int):=by omega
    have i4:¬((c.bools.length:Int)=(c.slots:Int)):=(by omega);have i5:¬(c.bools.length=c.slots):=(by omega);have v2:w7.cell? (xD mb 2)=some (xS b2 c.slots c.slots):=(zWS (w:=wr.alloc (.cells (zbX c.outs) 2)) (hf7.block mb (by rw[zsb];omega) (by omega))).trans u2;have HG7:=za hg7;have HF7:=za hf7;clear hg7 hf7 Hcp
    go_region_held3 (λw'=>w'.cell? (xD mb 2)=some (xS b2 c.slots c.slots)) (first|with_reducible exact zg u2|with_reducible exact v2|go_keep)
     (first
       | (go_at_call 41;refine (HIn.o _).mono ?_;rintro e w6 ⟨rfl,rfl⟩))
    all_goals go_wp2_with fail
    all_goals
     refine zWR (v:=.tuple #[xS wr.heap.size c.outs c.outs,.nilIface]) (by simp[results,results18,go_sem]) rfl ?_;rw[HR'.o];exact zjF H.o HF3.o HFk.o HMk.o HC.o HRc.o HRs.o HG7.o HF7.o
  obtain⟨w7,hcp7,hg7,hf7⟩:=Hcp.o (some (xD b2 0)) 0 0 (λh=>by omega) (by omega);have hcb:=HC.o.h0;have i3:(c.bools.length:Int)=(c.slots:Int):=by omega
  have i5:c.bools.length=c.slots:=by omega
  have v2:w7.cell? (xD mb 2)=some (xS b2 c.slots c.slots):=(zWS (w:=wr.alloc (.cells (zbX c.outs) 2)) (hf7.block mb (by rw[zsb];omega) (by omega))).trans u2;have HG7:=za hg7;have HF7:=za hf7;clear hg7 hf7 Hcp
  go_region_held3 (λw'=>w'.cell? (xD mb 2)=some (xS b2 c.slots c.slots)) (first|with_reducible exact zg u2|with_reducible exact v2|go_keep)
   (first
     | (go_at_call 41;refine (HIn.o _).mono ?_;rintro e w6 ⟨rfl,rfl⟩))
  all_goals go_wp2_with fail
  all_goals
   refine zWR (v:=.tuple #[xS wr.heap.size c.outs c.outs,.nilIface]) (by simp[results,results18,go_sem]) rfl ?_;rw[HR'.o];exact zjF H.o HF3.o HFk.o HMk.o HC.o HRc.o HRs.o HG7.o HF7.o
end
section
open Go.RowKit
def ziO (l:Xn)(s:Ir):Ir:=[99,100,110,50].foldl (λs m=>zbU ((zG l s).1==m) (zG l s).2) s
def cdM (b:Xn):Option Cd :=
 let h:=zdL b (ziO b ⟨0,none⟩)
 let r:=zdw b h.1.slots h.1.cells.length (b.length+2) ⟨h.2,0,0,[]⟩
 if r.s.er=none then some { h.1 with depth:=r.mx,row:=r.row } else none
def zcR (l:Xn):Option Cd:=(zdN l).bind cdM
def zg5:ByteArray:=⟨#[108,111,97,100,105,110,103]⟩
def zfJ (S:Xs)(w:Xw)(o:Option Cd)(e:Ending)(w':Xw):Prop :=
 match o with
 | none=>∃p,e=.returned (.tuple #[.pointer none,zeQ zg5 (zcE S p)])
 | some c=>∃cb B,e=.returned (.tuple #[xP cb,.nilIface])/\w.heap.size<=cb/\w.heap.size<=B/\UC B cb c w'
theorem zl6 (l:Xn)(s:Ir)(h:∀x∈l,x<256):(zdL l s).1.slots<=1000000/\(zdL l s).1.cells.length<=1000000/\(zdL l s).1.depth=0/\(zdL l s).1.row=[]:=by
 have hn:∀n t,(zcy l n t).1.length=n:=by
  intro n;induction n with
  | zero=>intro t;rfl
  | succ n ih=>intro t;show (_::_).length=_;rw[zMR,ih]
 refine⟨?_,?_,rfl,rfl⟩
 . have:=zcI l (zG l (zbb l (zG l s).1 (zG l s).2).2).2 h
   show (zG l _).1<=_;omega
 show (zcy l _ _).1.length<=_;rw[hn];have:=zeS l 61 (zbU (decide ((zbb l (zG l s).1 (zG l s).2).1.length+(zG l (zbb l (zG l s).1 (zG l s).2).2).1<=(zG l (zG l (zbb l (zG l s).1 (zG l s).2).2).2).1)) (zG l (zG l (zbb l (zG l s).1 (zG l s).2).2).2).2) h;omega
theorem zgq (y m:Nat):((y:Int)==(m:Int))=(y==m):=by
 by_cases h:y=m
 . subst h;rw[beq_self_eq_true,beq_self_eq_true]
 have h':¬(y:Int)=(m:Int):=by omega
 rw[zM0.2 h,zM0.2 h']
theorem zk9 (S:Xs)(a:Xp)(c g:Nat)(l:Xn)(w:Xw)(HG:Gl S w)(HS:zbW w)(hy:By w (.slice a l.length c) g l)(hg:g<w.heap.size) :
 xK 16 #[.slice a l.length c] w (λe w'=>(xB w w')/\zfJ S w (zcR l) e w'):=by
 have HO:=za (zjZ S a c g l w HG HS hy hg);obtain⟨P,hP⟩:∃P,P=zfJ S w (zcR l):=⟨_,rfl⟩;rw[<- hP];cases ho:zdN l with
 | none =>
   rw[ho] at HO;unfold zgN at HO;have HP:Hid (P=zfJ S w none):=(by unfold Hid;rw[hP];unfold zcR;rw[ho];rfl);clear ho hP hy hg;go_enter func16,ntmps16
   go_wp2_with (first
    | (go_at_call 31;refine HO.o.mono ?_;rintro e w1 ⟨hB,p,rfl⟩;unfold zcE;have HB:=za hB;clear hB)
    | (go_at_call 32;refine (zdo _ _ _ _).mono ?_;rintro e w3 ⟨rfl,rfl⟩))
   exact zWR (v:=.tuple #[.pointer none,zeQ zg5 (zcE S p)]) (by simp[results,results16,go_sem,zg5,zcE]) rfl ⟨HB.o,by rw[HP.o];exact⟨p,rfl⟩⟩
 | some b =>
   rw[ho] at HO;unfold zgN at HO;have hP2:P=zfJ S w (cdM b):=(by rw[hP];unfold zcR;rw[ho];rfl);obtain⟨hb1,hb2⟩:b=l.take (l.length-8)/\b.length<=1048576:=by
    unfold zdN at ho;split at ho
    . cases ho
    split at ho
    . cases ho;exact⟨rfl,by rw[List.length_take];omega⟩
    cases ho
   have Hy:By w (.slice a b.length c) g b:=(by have:=hy.take (n:=b.length) (by rw[hb1,List.length_take];omega);rwa [show l.take b.length=b by rw[hb1,List.length_take];congr 1;omega] at this);obtain⟨_,cc,hcc,hc1,hc2,_⟩:=Hy.ex;cases hcc;have hcm:c<=9223372036854775807:=(by unfold maxLen at hc2;omega);have h21:=HG.size;have hi:=HG.image;have HP:=za hP2;clear hP hP2 ho hb1 hy hc2;go_enter func16,ntmps16;go_wp2_with (go_at_call 31;refine HO.o.mono ?_;rintro e w1' ⟨hB,rfl,-,-⟩;have hz1:=hB.size;have HB:=za hB;clear hB);have HR0:Hid (RL S (w1'.alloc (.cells #[.slice a b.length c,xI 0,.nilIface] 108)) w1'.heap.size (.slice a b.length c) g b ⟨0,none⟩):=RL.new (HG.of (T:=λ_=>False) (Fr.of_below HB.o) (λ_ e=>e.elim)) (HS.old (zm HB.o (zMK _)) h21) (Hy.of (HB.o.block g hg)) (by omega) hb2 0 (zMN _);have hB0:xB w (w1'.alloc (.cells #[.slice a b.length c,xI 0,.nilIface] 108)):=HB.o.alloc (by omega) _;have HB0:=za hB0;clear hB0 HO;obtain⟨W0,hW0⟩:∃W,W=(w1'.alloc (.cells #[.slice a b.length c,xI 0,.nilIface] 108)):=⟨_,rfl⟩;obtain⟨rb,hrb⟩:∃rb,rb=w1'.heap.size:=⟨_,rfl⟩;have hz0:W0.heap.size=rb+1:=(by rw[hW0,hrb];simp);have hz0':rb<W0.heap.size:=(by omega);rw[<- hW0] at HR0 HB0 ⊢;rw[<- hrb] at HR0 ⊢;have hrw:w.heap.size<=rb:=(by omega);clear hW0 hrb HB hz0;go_loopg [20] 5 (λj i wr=>∃(k:Nat) (t:Ir),k+j=5/\k<=4/\i=xI k/\Hid (ziO b ⟨0,none⟩=([99,100,110,50].drop k).foldl (λs m=>zbU ((zG b s).1==m) (zG b s).2) t)/\Hid (RL S wr rb (.slice a b.length c) g b t)/\Hid (Fr (·=rb) W0 wr));case atStart=>exact⟨0,⟨0,none⟩,rfl,by omega,rfl,za rfl,HR0.o,Fr.refl _ _⟩
   case round =>
    obtain⟨k,t,hk,hk4,rfl,HM,HR,HF⟩:=hrel;by_cases hlt:k<4
    . have HB1:=za (zem S rb _ g b t wr.drew (HR.o.below (zo (zWQ _ _))));have hy:=zcI b t HR.o.by'.lt;have gi:=HR.o.gl.image;rcases hR:zG b t with ⟨y,t1⟩;rw[hR] at HB1 hy;simp only at HB1 hy;obtain⟨q,hq⟩:∃q:Bool,q=(y==[99,100,110,50].getD k 0):=⟨_,rfl⟩;have HM2:Hid (ziO b ⟨0,none⟩=([99,100,110,50].drop (k+1)).foldl (λs m=>zbU ((zG b s).1==m) (zG b s).2) (zbU q t1)):=by
       unfold Hid;rw[HM.o,hq];have:k=0∨k=1∨k=2∨k=3:=by omega
       rcases this with rfl|rfl|rfl|rfl <;> simp[hR]
      have HQ:=za (λw1 (h1:RL S w1 rb (.slice a b.length c) g b t1)=>zeg S rb _ g b t1 q w1 h1);unfold sen at gi;have hz21:=HR.o.gl.size;clear hR HM;have:k=0∨k=1∨k=2∨k=3:=(by omega);rcases this with rfl|rfl|rfl|rfl
      all_goals
       first
        | have hdec:((y:Int)==99)=q:=by rw[hq];exact zgq y 99
        | have hdec:((y:Int)==100)=q:=by rw[hq];exact zgq y 100
        | have hdec:((y:Int)==110)=q:=by rw[hq];exact zgq y 110
        | have hdec:((y:Int)==50)=q:=by rw[hq];exact zgq y 50
       have hx0:(⟨#[99,100,110,50]⟩:Xb)[0].toNat=99:=rfl;have hx1:(⟨#[99,100,110,50]⟩:Xb)[1].toNat=100:=rfl;have hx2:(⟨#[99,100,110,50]⟩:Xb)[2].toNat=110:=rfl;have hx3:(⟨#[99,100,110,50]⟩:Xb)[3].toNat=50:=rfl;clear hq;go_wp2_with fail
       go_region_held3 (λw'=>w'.cell? (xD 10 0)=some (.iface 290 (.pointer (some (S 10)))))
        (repeat (first|with_reducible exact gi|with_reducible exact g2|with_reducible exact g1|with_reducible refine zg ?_))
        (first
          | (go_at_call 33;revert H1;intro H1;refine (HQ.o w1 H1.o).mono ?_;rintro e w2 ⟨rfl,h1,h2⟩;have g2:=h1.gl.image;unfold sen at g2;have H3:=za h1;have H4:=za (H2.o.trans h2);clear h1 h2)
          | (go_at_call 34;refine HB1.o.mono ?_;rintro e w1 ⟨rfl,h1,h2⟩;have g1:=h1.gl.image;unfold sen at g1;have H1:=za h1;have H2:=za (HF.o.trans h2.undrew);clear h1 h2))
       all_goals go_wp2_with fail
       all_goals go_roundg (gk-1)
       all_goals first
        | omega
        | exact⟨_,_,by omega,by omega,by go_num,HM2,H3.o,H4.o⟩
    have e4:k=4:=(by omega);subst e4;have hM:ziO b ⟨0,none⟩=t:=HM.o;obtain⟨f1,f2,f3,f4⟩:=zl6 b t HR.o.by'.lt;have HH:=za (zql S rb (.slice a b.length c) g b t wr HR.o);have HP3:=HP.o;unfold cdM at HP3;simp only[hM] at HP3;rcases hhd:zdL b t with ⟨⟨bs,o,ns,cs,dpt,rw'⟩,t2⟩;rw[hhd] at HH f1 f2 f3 f4 HP3;simp only at HH f1 f2 f3 f4 HP3;subst f3;subst f4;obtain⟨R,hR⟩:∃R,R=zdw b ns cs.length (b.length+2) ⟨t2,0,0,[]⟩:=⟨_,rfl⟩;rw[<- hR] at HP3;have hzr:=HF.o.size;have HRo:=za (λw2 (h1:RL S w2 rb (.slice a b.length c) g b t2) (h2:UC (wr.heap.size+1) wr.heap.size ⟨bs,o,ns,cs,0,[]⟩ w2)=>zrd S rb wr.heap.size (wr.heap.size+1) (.slice a b.length c) g b t2 bs o ns cs w2 h1 h2 (by omega) (λ_=>by omega) (by omega) f1 f2 R hR);have HBr:=za (HB0.o.trans (HF.o.below (B:=w.heap.size) (by have:=HB0.o.size;omega) (λk e=>e▸hrw)));have hcbw:w.heap.size<=wr.heap.size:=HBr.o.size;clear hM HM hhd hR HP HR0 HB0;obtain⟨⟨rp,rer⟩,rdp,rmx,rrow⟩:=R;simp only at HRo HP3;cases rer with
    | none =>
      rw[zM2 rfl] at HP3
      go_wp2_with (first
       | (go_at_call 36;revert H1;intro H1;refine (HRo.o w2 H1.o H2.o).mono ?_;rintro e w3 ⟨rfl,h1,h2,h3⟩;obtain⟨a0,a1,a2,af,az⟩:=zL h1.blk;unfold erV at a2;simp only at a2;have K1:=za h1;have K2:=za h2;have K3:=za (H3.o.trans (h3.below (B:=w.heap.size) (by have:=H3.o.size;omega) (λk e=>by rcases e with e|e <;> omega)));clear h1 h2 h3)
       | (go_at_call 35;refine HH.o.mono ?_;rintro e w2 ⟨rfl,h1,h2,h3⟩;have H1:=za h1;have H2:=za h2;have H3:=za (HBr.o.trans (h3.below (B:=w.heap.size) hcbw (λk e=>e▸hrw)));clear h1 h2 h3))
      exact zWR (v:=.tuple #[xP wr.heap.size,.nilIface]) (by simp[results,results16,go_sem]) rfl ⟨K3.o,by rw[HP3];exact⟨_,_,rfl,hcbw,by omega,K2.o⟩⟩
    | some p =>
      rw[zM1 (by simp)] at HP3
      go_wp2_with (first
       | (go_at_call 32;refine (zdo _ _ _ _).mono ?_;rintro e w4 ⟨rfl,rfl⟩)
       | (go_at_call 36;revert H1;intro H1;refine (HRo.o w2 H1.o H2.o).mono ?_;rintro e w3 ⟨rfl,h1,h2,h3⟩;obtain⟨a0,a1,a2,af,az⟩:=zL h1.blk;unfold erV at a2;simp only at a2;have K1:=za h1;have K2:=za h2;have K3:=za (H3.o.trans (h3.below (B:=w.heap.size) (by have:=H3.o.size;omega) (λk e=>by rcases e with e|e <;> omega)));clear h1 h2 h3)
       | (go_at_call 35;refine HH.o.mono ?_;rintro e w2 ⟨rfl,h1,h2,h3⟩;have H1:=za h1;have H2:=za h2;have H3:=za (HBr.o.trans (h3.below (B:=w.heap.size) hcbw (λk e=>e▸hrw)));clear h1 h2 h3))
      exact zWR (v:=.tuple #[.pointer none,zeQ zg5 (zcE S p)]) (by simp[results,results16,go_sem,zg5,zcE]) rfl ⟨K3.o,by rw[HP3];exact⟨p,rfl⟩⟩
theorem zmA (w:Xw):xK 13 #[.nilIface] w (λe w'=>e=.returned (.tuple #[xI 0,xI 0])/\w=w'):=by go_enter func13,ntmps13;go_wp2_with fail;exact zWR (v:=.tuple #[xI 0,xI 0]) (by simp[results,results13,go_sem]) rfl ⟨rfl,rfl⟩
end
section
variable {M atm part rx:Fn} {L L':List Ex} {ts us vs:List Tm} {a b c d lv:Nat} {st:St} {t:Tm}
mutual
def zHu:Tm->List Tm
 | .mk k a s nm n ts=>zHt ts++[.mk k a s nm n ts]
def zHt:List Tm->List Tm
 | []=>[]
 | t::l=>zHu t++zHt l
end
theorem zKH (ts:List Tm)(t:Tm):zHt (ts++[t])=zHt ts++zHu t:=by
 induction ts with
 | nil=>rw[List.nil_append,zHt,zHt,zHt,List.append_nil,List.nil_append]
 | cons u ts ih=>rw[List.cons_append,zHt,ih,zHt,zMQ]
def Po (L:List Ex)(a:Nat)(us:List Tm):Prop:=∀(i:Nat) (u:Tm),us[i]?=some u->zeA (L.take (a+i+1)) (a+i) u
theorem zLk (hp:L <+: L')(m:Nat):L.take m <+: L'.take m:=by obtain⟨E,rfl⟩:=hp;rw[List.take_append];exact List.prefix_append _ _
theorem Po.nil (L:List Ex)(a:Nat):Po L a []:=λi u h=>by simp at h
theorem Po.more (hp:L <+: L')(h:Po L a us):Po L' a us:=λi u hu=>zAz (zLk hp _) (h i u hu)
theorem Po.app (h:Po L a us)(h':Po L (a+us.length) vs):Po L a (us++vs):=λi u hu=>by
 by_cases hi:i<us.length
 . rw[zM6 hi] at hu;exact h i u hu
 rw[zM5 (by omega)] at hu;have:=h' _ u hu;rw[show a+us.length+(i-us.length)=a+i by omega] at this;exact this
structure zHx (L:List Ex) (a b:Nat) (us:List Tm):Prop where
 len:a+us.length=b
 po:Po L a us
theorem zHx.nil (L:List Ex)(a:Nat):zHx L a a []:=⟨rfl,Po.nil L a⟩
theorem zHx.more (hp:L <+: L')(h:zHx L a b us):zHx L' a b us:=⟨h.len,h.po.more hp⟩
theorem zHx.app (h:zHx L a b us)(h':zHx L b c vs):zHx L a c (us++vs) :=
 ⟨by have:=h.len;have:=h'.len;rw[zMM];omega,h.po.app (by rw[h.len];exact h'.po)⟩
theorem zHx.one (h:zHx L a b (zHu t)):zHx L a b (zHt [t]):=by rw[zHt,zHt,List.append_nil];exact h
theorem zHx.snoc (h:zHx L a b (zHt ts))(h':zHx L b c (zHu t)):zHx L a c (zHt (ts++[t])):=by rw[zKH];exact h.app h'
structure zIg (st:St) (r:St×Nat):Prop where
 er0:st.er=0
 op:r.1.op=st.op
 pre:st.L <+: r.1.L
 tr:∃t,zeA r.1.L r.2 t/\zHx r.1.L st.L.length r.1.L.length (zHu t)
 nx:r.2+1=r.1.L.length
def PoD (d:Nat)(M:Fn):Prop:=∀st,Cd' d st->(M st).1.er=0->zIg st (M st)
theorem zHG {s1:St}{e:Ex}(he:st.er=0)(ho:s1.op=st.op)(hp:st.L <+: s1.L)(ht:Trs s1.L e.ins ts)(hv:zHx s1.L st.L.length s1.L.length (zHt ts)):zIg st (s1.put e):=by
 have hL:(s1.put e).1.L=s1.L++[e]:=rfl;have hT:zeA (s1.L++[e]) s1.L.length (.mk (zag e.op.toList e.n) e.a e.s e.nm (zbF e.op.toList e.n) ts):=by refine .mk s1.L.length e ts ?_ ht.1 (λi y t h1 h2=>zAz (List.prefix_append _ _) (ht.2 i y t h1 h2));rw[zM5 (zMK _),Nat.sub_self];rfl
 refine⟨he,ho,by rw[hL];exact hp.trans (List.prefix_append _ _),⟨.mk (zag e.op.toList e.n) e.a e.s e.nm (zbF e.op.toList e.n) ts,by rw[hL];exact hT,?_⟩,by rw[hL,zMM];rfl⟩;rw[hL,zHu,zMM,List.length_singleton];refine (hv.more (List.prefix_append _ _)).app ⟨rfl,λi u hu=>?_⟩
 match i,hu with
 | 0,hu=>cases hu;rw[zMU (by rw[zMM];simp)];exact hT
theorem Cd'.nextP (hM:PoD d M)(h:Cd' d st):Cd' d (M st).1:=λhe=>by have o:=hM st h he;rw[o.op];exact h o.er0
theorem zJP (hp:PoD d part)(st:St):∀(f:Nat) (x:St×Nat),Cd' d x.1->(x.1.er=0->zIg st x)->(zdq lv part f x).1.er=0->zIg st (zdq lv part f x)
 | 0,_,_,h,he=>h he
 | f+1,x,hc,h,he=>by
   unfold zdq at he ⊢;split
   . rename_i hl
     rw[zM2 hl] at he;have o:=h hl.1;refine zJP hp st f _ ?_ (λe1=>?_) he
     . exact Cd'.nextP hp hc.step
     have o2:=hp _ hc.step e1;obtain⟨t1,q1,v1⟩:=o.tr;obtain⟨t2,q2,v2⟩:=o2.tr;have pL:x.1.L <+: (part x.1.step).1.L:=(by have:=o2.pre;rw[St.step_L] at this;exact this);rw[St.step_L] at v2;refine zHG (ts:=[t1,t2]) o.er0 (by rw[o2.op,St.step_op,o.op]) (o.pre.trans pL) (((Trs.one q1).more pL).snoc q2) ?_;exact ((zHx.one v1).more pL).snoc v2
   rename_i hl
   rw[zM1 hl] at he;exact h he
theorem zIH (hp:PoD d part):PoD d (zcT lv part):=λst hc he=>zJP hp st 1300 _ (Cd'.nextP hp hc) (λe=>hp st hc e) he
theorem zLF {sum:Fn}(hs:PoD d sum):PoD d (zdJ sum):=by
 intro st hc he;unfold zdJ at he ⊢;simp only at he ⊢;split
 . rename_i hl
   rw[zM2 hl] at he;have o:=hs st hc hl.1;have o2:=hs _ (Cd'.nextP hs hc).step he;obtain⟨t1,q1,v1⟩:=o.tr;obtain⟨t2,q2,v2⟩:=o2.tr;have pL:(sum st).1.L <+: (sum (sum st).1.step).1.L:=(by have:=o2.pre;rw[St.step_L] at this;exact this);rw[St.step_L] at v2;refine zHG (ts:=[t1,t2]) o.er0 (by rw[o2.op,St.step_op,o.op]) (o.pre.trans pL) (((Trs.one q1).more pL).snoc q2) ?_;exact ((zHx.one v1).more pL).snoc v2
 rename_i hl
 rw[zM1 hl] at he;exact hs st hc he
theorem zIg.inner {r:St×Nat}(h:zIg st.enter r):st.er=0/\r.1.leave.op=st.op/\st.L <+: r.1.leave.L/\r.2+1=r.1.leave.L.length/\∃t,zeA r.1.leave.L r.2 t/\zHx r.1.leave.L st.L.length r.1.leave.L.length (zHu t):=by have h1:=(zzd h.er0).1;have hp:=h.pre;obtain⟨t,q,v⟩:=h.tr;rw[St.enter_L] at hp v;exact⟨h1,by rw[St.leave_op,h.op,St.enter_op];omega,by rw[St.leave_L];exact hp,by rw[St.leave_L];exact h.nx,t,by rw[St.leave_L];exact q,by rw[St.leave_L];exact v⟩
theorem zK2 {ru smp:Fn}(hr:PoD d ru)(hs:PoD (d+1) smp):PoD (d+1) (zdn ru smp):=by
 intro st hc he;unfold zdn at he ⊢;split
 . rename_i hl
   rw[zM2 hl] at he;obtain⟨h1,h2,h3,_,t,q,v⟩:=(hr _ hc.enter he).inner;exact zHG (ts:=[t]) h1 h2 h3 (Trs.one q) v.one
 rename_i hl
 rw[zM1 hl] at he;exact hs st hc he
theorem zIu (st:St):∀(f:Nat) (x:St×Nat),Cd' d x.1->(x.1.er=0->zIg st x)->(zaY f x).1.er=0->zIg st (zaY f x)
 | 0,_,_,h,he=>h he
 | f+1,x,hc,h,he=>by
   unfold zaY at he ⊢;split
   . rename_i hl
     rw[zM2 hl] at he;have o:=h hl.1;refine zIu st f _ (hc.step.name) (λ_=>?_) he;obtain⟨t1,q1,v1⟩:=o.tr;have eL:x.1.step.name.L=x.1.L:=(by rw[St.name_L,St.step_L]);refine zHG (ts:=[t1]) o.er0 (by rw[St.name_op,St.step_op,o.op]) (by rw[eL];exact o.pre) (by rw[eL];exact Trs.one q1) ?_;rw[eL];exact v1.one
   rename_i hl
   rw[zM1 hl] at he;exact h he
theorem zJ5 (ha:PoD d atm):PoD d (zfu atm):=λst hc he=>zIu st 1300 _ (Cd'.nextP ha hc) (λe=>ha st hc e) he
theorem zIz (op:Xb)(n:Nat):PoD d (zdP op n):=by intro st hc he;have h1:st.er=0:=(zbu.step st).back he;have eL:st.step.L=st.L:=st.step_L;exact zHG (ts:=[]) h1 st.step_op (by rw[eL];exact List.prefix_refl _) (Trs.nil _) (by rw[eL];exact zHx.nil _ _)
theorem zKt:PoD d zjx:=by intro st hc he;have h1:st.er=0:=(zbu.step st).back he;have eL:st.step.L=st.L:=st.step_L;exact zHG (ts:=[]) h1 st.step_op (by rw[eL];exact List.prefix_refl _) (Trs.nil _) (by rw[eL];exact zHx.nil _ _)
theorem zLB (ha:PoD d atm):PoD d (zch atm):=by
 intro st hc he;unfold zch at he ⊢;split
 . rename_i hl
   rw[zM2 hl] at he;exact ha st hc he
 rename_i hl
 rw[zM1 hl] at he;exact zKt (d:=d) st hc he
structure zKE (st:St) (x:St×List Nat):Prop where
 er0:st.er=0
 op:x.1.op=st.op
 pre:st.L <+: x.1.L
 tr:∃ts,Trs x.1.L x.2 ts/\zHx x.1.L st.L.length x.1.L.length (zHt ts)
theorem zJj (hr:PoD d rx)(st:St):∀(f:Nat) (x:St×List Nat),Cd' d x.1->(x.1.er=0->zKE st x)->(zc1 rx f x).1.er=0->zKE st (zc1 rx f x)
 | 0,_,_,h,he=>h he
 | f+1,x,hc,h,he=>by
   unfold zc1 at he ⊢;split
   . rename_i hl
     rw[zM2 hl] at he;have o:=h hl.1;refine zJj hr st f _ (Cd'.nextP hr hc.step) (λe1=>?_) he;have o2:=hr _ hc.step e1;obtain⟨ts,q1,v1⟩:=o.tr;obtain⟨t2,q2,v2⟩:=o2.tr;have pL:x.1.L <+: (rx x.1.step).1.L:=(by have:=o2.pre;rw[St.step_L] at this;exact this);rw[St.step_L] at v2;exact⟨o.er0,by show (rx x.1.step).1.op=_;rw[o2.op,St.step_op,o.op],o.pre.trans pL,ts++[t2],(q1.more pL).snoc q2,(v1.more pL).snoc v2⟩
   rename_i hl
   rw[zM1 hl] at he;exact h he
theorem zLA (hr:PoD d rx)(hc:Cd' d st)(he:(zbG rx st).1.er=0):zKE st (zbG rx st):=by refine zJj hr st 1300 _ (Cd'.nextP hr hc) (λe=>?_) he;have o:=hr st hc e;obtain⟨t,q,v⟩:=o.tr;exact⟨o.er0,o.op,o.pre,[t],Trs.one q,v.one⟩
theorem zJX (hr:PoD d rx)(t:Tk):PoD (d+1) (zao rx t):=by
 intro st hc he;unfold zao at he ⊢;split
 . rename_i hl
   rw[zM2 hl] at he;simp only at he ⊢;have h1:(zbG rx st.enter).1.er=0:=(zbu.must _ 4 [41]).back he;have o:=zLA hr hc.enter h1;obtain⟨ts,q,v⟩:=o.tr;have hp:=o.pre;have eL:(((zbG rx st.enter).1.must 4 [41]).leave).L=(zbG rx st.enter).1.L:=(by rw[St.leave_L,St.must_L]);rw[St.enter_L] at hp v;exact zHG (ts:=ts) (zzd o.er0).1 (by rw[St.leave_op,St.must_op,o.op,St.enter_op];omega) (by rw[eL];exact hp) (by rw[eL];exact q) (by rw[eL];exact v)
 rename_i hl
 rw[zM1 hl] at he;exact absurd he (zzP _ _)
theorem zKO (hr:PoD d rx):PoD (d+1) (zdx rx):=by
 intro st hc he;have he':(rx ((rx ((rx st.enter).1.must 5 [116,104,101,110])).1.must 5 [101,108,115,101])).1.er=0:=he;have c1:=Cd'.nextP hr hc.enter;have c2:=c1.must 5 [116,104,101,110];have c3:=(Cd'.nextP hr c2).must 5 [101,108,115,101];have o3:=hr _ c3 he';have o2:=hr _ c2 ((zbu.must _ 5 [101,108,115,101]).back o3.er0);have o1:=hr _ hc.enter ((zbu.must _ 5 [116,104,101,110]).back o2.er0);obtain⟨t1,q1,v1⟩:=o1.tr;obtain⟨t2,q2,v2⟩:=o2.tr;obtain⟨t3,q3,v3⟩:=o3.tr;have p1:=o1.pre;have p2:=o2.pre;have p3:=o3.pre;rw[St.enter_L] at p1 v1;rw[St.must_L] at p2 v2 p3 v3;unfold zdx;simp only;refine zHG (ts:=[t1,t2,t3]) (zzd o1.er0).1 ?_ ?_ ?_ ?_
 . rw[St.leave_op,o3.op,St.must_op,o2.op,St.must_op,o1.op,St.enter_op];omega
 . rw[St.leave_L];exact (p1.trans p2).trans p3
 . rw[St.leave_L];exact ((((Trs.one q1).more p2).snoc q2).more p3).snoc q3
 rw[St.leave_L];exact ((((zHx.one v1).more p2).snoc v2).more p3).snoc v3
theorem zKX (ha:PoD d atm):PoD (d+1) (zeE atm):=by
 intro st hc he;have he':(zch atm (zch atm st.enter.name).1).1.er=0:=he;have hs:=zLB ha;have c1:=hc.enter.name;have o2:=hs _ (Cd'.nextP hs c1) he';have o1:=hs _ c1 o2.er0;obtain⟨t1,q1,v1⟩:=o1.tr;obtain⟨t2,q2,v2⟩:=o2.tr;have p1:=o1.pre;rw[St.name_L,St.enter_L] at p1 v1;unfold zeE;simp only;refine zHG (ts:=[t1,t2]) (zzd ((zbu.name _).back o1.er0)).1 ?_ ?_ ?_ ?_
 . rw[St.leave_op,o2.op,o1.op,St.name_op,St.enter_op];omega
 . rw[St.leave_L];exact p1.trans o2.pre
 . rw[St.leave_L];exact ((Trs.one q1).more o2.pre).snoc q2
 rw[St.leave_L];exact ((zHx.one v1).more o2.pre).snoc v2
theorem zKY (hr:PoD d rx):PoD (d+1) (zfQ rx):=by
 intro st hc he;have h1:(rx st.enter).1.er=0:=(zbu.must _ 4 [41]).back he;have o:=hr _ hc.enter h1;obtain⟨t,q,v⟩:=o.tr;have hp:=o.pre;have eL:(((rx st.enter).1.must 4 [41]).leave).L=(rx st.enter).1.L:=by rw[St.leave_L,St.must_L]
 rw[St.enter_L] at hp v;exact⟨(zzd o.er0).1,by show (((rx st.enter).1.must 4 [41]).leave).op=_;rw[St.leave_op,St.must_op,o.op,St.enter_op];omega,by show _ <+: (((rx st.enter).1.must 4 [41]).leave).L;rw[eL];exact hp,⟨t,by show zeA (((rx st.enter).1.must 4 [41]).leave).L _ t;rw[eL];exact q,by show zHx (((rx st.enter).1.must 4 [41]).leave).L _ (((rx st.enter).1.must 4 [41]).leave).L.length _;rw[eL];exact v⟩,by show _=(((rx st.enter).1.must 4 [41]).leave).L.length;rw[eL];exact o.nx⟩
theorem zKW (h:PoD d M)(hc:Cd' d st)(he:(M st.step).1.er=0):zIg st (M st.step):=by have o:=h _ hc.step he;have hp:=o.pre;obtain⟨t,q,v⟩:=o.tr;rw[St.step_L] at hp v;exact⟨(zbu.step st).back o.er0,by rw[o.op,St.step_op],hp,⟨t,q,v⟩,o.nx⟩
theorem zLu {ra:Fn}(hr:PoD d rx)(ha:PoD d ra):PoD (d+1) (zap rx ra):=by
 intro st hc he;unfold zap at he ⊢;by_cases h0:st.er≠0
 . rw[zM2 h0] at he;exact absurd he h0
 rw[zM1 h0] at he ⊢;by_cases h1:st.t.k=3
 . rw[zM2 h1] at he ⊢;exact zIz zcq _ st hc he
 rw[zM1 h1] at he ⊢;by_cases h2:st.t.k=2
 . rw[zM2 h2] at he ⊢;by_cases h3:st.step.is 4 [40]=true
   . rw[zM2 h3] at he ⊢;exact zKW (zJX hr st.t) hc he
   rw[zM1 h3] at he ⊢;exact zKt st hc he
 rw[zM1 h2] at he ⊢;by_cases h4:st.is 4 [40]=true
 . rw[zM2 h4] at he ⊢;exact zKY hr st hc he
 rw[zM1 h4] at he ⊢;by_cases h5:st.is 5 [116,114,117,101]=true
 . rw[zM2 h5] at he ⊢;exact zIz zcb 1 st hc he
 rw[zM1 h5] at he ⊢;by_cases h6:st.is 5 [102,97,108,115,101]=true
 . rw[zM2 h6] at he ⊢;exact zIz zcb 0 st hc he
 rw[zM1 h6] at he ⊢;by_cases h7:st.is 5 [105,102]=true
 . rw[zM2 h7] at he ⊢;exact zKO hr st hc he
 rw[zM1 h7] at he ⊢;by_cases h8:st.is 5 [109,101,114,103,101]=true
 . rw[zM2 h8] at he ⊢;exact zKX ha st hc he
 rw[zM1 h8] at he;exact absurd he (zzP _ _)
theorem zLz {eith:Fn}(hr:PoD d rx)(hE:PoD (d+1) eith):PoD (d+1) (zgk rx eith):=by
 intro st hc he;unfold zgk at he ⊢;simp only at he ⊢;split
 . rename_i hl
   rw[zM2 hl] at he;have o:=hE st hc hl.1;obtain⟨t1,q1,v1⟩:=o.tr;obtain⟨_,h2,h3,_,t2,q2,v2⟩:=(hr _ (Cd'.nextP hE hc).enter he).inner;refine zHG (ts:=[t1,t2]) o.er0 (by rw[h2,o.op]) (o.pre.trans h3) (((Trs.one q1).more h3).snoc q2) ?_;exact ((zHx.one v1).more h3).snoc v2
 rename_i hl
 rw[zM1 hl] at he;exact hE st hc he
theorem zJe:∀d:Nat,PoD d (lev d).ex/\PoD d (lev d).un/\PoD d (lev d).at'
 | 0=>by
   have h:∀st:St,Cd' 0 st->st.er=0->zIg st (st,0):=λst hc he=>by have:=hc he;omega
   exact⟨λst hc he=>h st hc he,λst hc he=>h st hc he,λst hc he=>h st hc he⟩
 | d+1=>by obtain⟨h1,h2,h3⟩:=zJe d;have ha:PoD (d+1) (zap (lev d).ex (lev d).at'):=zLu h1 h3;have hu:PoD (d+1) (zdn (lev d).un (zfu (zap (lev d).ex (lev d).at'))):=zK2 h2 (zJ5 ha);exact⟨zLz h1 (zIH (zIH (zLF (zIH (zIH hu))))),hu,ha⟩
end
section
variable {i:Bool} {s:Xb} {atm part r17 r18 rx:Fn} {vars:List Vr} {f g lv:Nat} {st:St} {t:Tk}
def zy0:List (List UInt8):=[[110,117,109,98,101,114],[98,111,111,108],[118,97,114],[99,97,108,108],[105,102],[109,101,114,103,101],[119,104,101,110],[119,104,101,110,111,116],[102,98,121],[110,101,103],[110,111,116],[97,110,100],[111,114],[120,111,114],[61],[60,62],[60],[60,61],[43],[45],[42],[47],[37]]
def isV (l:Xu):Bool:=l==[118,97,114]
def exS (e:Ex):Prop:=e.n<=9223372036854775807/\e.s.size<=1200/\e.op.toList∈zy0/\e.ins.length<=1400/\(isV e.op.toList=true->e.a=e.nm)
abbrev zHR (l:Xu):Prop:=l∈zy0/\isV l=false
theorem zFc {n:Nat}(h:zco t n=true):zHR t.s.toList:=by
 unfold zco at h;split at h
 . cases h
 split at h
 . rename_i h1;rcases h1 with h1|h1 <;> (rw[h1];decide)
 split at h
 . rename_i h1;rw[h1];decide
 split at h
 . rename_i h1;rcases h1 with h1|h1 <;> (rw[h1];decide)
 split at h
 . rename_i h1;rcases h1 with h1|h1|h1 <;> (rw[h1];decide)
 cases h
theorem zF7 (h:zcn t=true):zHR t.s.toList:=by unfold zcn at h;simp only[Bool.and_eq_true,Bool.or_eq_true,beq_iff_eq] at h;rcases h.2 with ((h1|h1)|h1)|h1 <;> (rw[h1];decide)
theorem zGj (h:zdi st=true):zHR st.t.s.toList:=by unfold zdi St.is at h;simp only[Bool.or_eq_true,Bool.and_eq_true,beq_iff_eq] at h;rcases h with h1|h1 <;> (rw[h1.2];decide)
theorem zGK:zHR zlo.toList:=by decide +kernel
theorem zGO:zHR zk5.toList:=by decide +kernel
theorem zGo:zHR zef.toList:=by decide +kernel
theorem zG9:zHR sIf.toList:=by decide +kernel
theorem zF3:zHR zep.toList:=by decide +kernel
theorem zGI:zHR zgW.toList:=by decide +kernel
theorem zGJ:zfR.toList∈zy0:=by decide +kernel
theorem zEK:zHR zcb.toList:=by decide +kernel
theorem zGQ:zHR zcq.toList:=by decide +kernel
structure Zs (st:St):Prop where
 src:st.src.size<=1200
 tt:st.t.t<=st.src.size
 tn:st.t.n<=9223372036854775807
 ts:st.t.s.size<=1200
 L:∀e∈st.L,exS e
def ZK (M:Fn):Prop:=∀st,Zs st->Zs (M st).1
theorem zCE (s:Xb)(p:Nat)(hs:s.size<=1200):(zZ s p).s.size<=1200:=by
 have hx:∀a b:Nat,(s.extract a b).size<=1200:=by intro a b;rw[ByteArray.size_extract];omega
 have h0:(⟨#[]⟩:Xb).size=0:=rfl;have h1:(⟨#[48]⟩:Xb).size=1:=rfl;unfold zZ zfg zgc zfh;simp only
 repeat' split
 all_goals first|exact hx _ _|(rw[h0];omega)|(rw[h1];omega)
theorem Zs.step (h:Zs st):Zs st.step:=by
 unfold St.step;split
 . have:=zV st.src st.t.t h.tt;exact⟨h.src,this.2.2.1,this.2.2.2.1,zCE _ _ h.src,h.L⟩
 exact h
theorem Zs.fail (h:Zs st)(e a:Nat):Zs (st.fail e a):=by unfold St.fail;split <;> exact⟨h.src,h.tt,zMN _,zMN _,h.L⟩
theorem Zs.must (h:Zs st)(k:Nat)(l:Xu):Zs (st.must k l):=by unfold St.must;split;exact h.step;exact h.fail _ _
theorem Zs.name (h:Zs st):Zs st.name:=by unfold St.name;split;exact h.step;exact h.fail _ _
theorem Zs.enter (h:Zs st):Zs st.enter:=by have h1:Zs ({ st with op:=st.op+1 }:St):=⟨h.src,h.tt,h.tn,h.ts,h.L⟩;unfold St.enter;split;exact h1.fail _ _;exact h1.step
theorem Zs.leave (h:Zs st):Zs st.leave:=⟨h.src,h.tt,h.tn,h.ts,h.L⟩
theorem Zs.put (h:Zs st){e:Ex}(he:exS e):Zs (st.put e).1:=by
 refine⟨h.src,h.tt,h.tn,h.ts,λx hx=>?_⟩;rcases zMY.1 (show x∈st.L++[e] from hx) with hx|hx
 . exact h.L x hx
 rw[zMZ.1 hx];exact he
theorem zz8 {op:Xb}{a b:Nat}{l:Xn}(ho:zHR op.toList)(h:s.size<=1200)(hl:l.length<=1400:=by simp):exS ⟨op,a,b,l,s,0⟩:=⟨zMN _,h,ho.1,hl,λe=>by rw[ho.2] at e;cases e⟩
theorem zzj:sE.size<=1200:=zMN _
theorem zDo (hp:ZK part):∀(f:Nat) (x:St×Nat),Zs x.1->Zs (zdq lv part f x).1
 | 0,_,h=>h
 | f+1,x,h=>by
   unfold zdq;split
   . rename_i hc
     exact zDo hp f _ ((hp _ h.step).put (zz8 (zFc hc.2) zzj))
   exact h
theorem zBm (hp:ZK part):ZK (zcT lv part):=λst h=>zDo hp 1300 _ (hp st h)
theorem zGl {sum:Fn}(hs:ZK sum):ZK (zdJ sum):=by
 intro st h;unfold zdJ;simp only;split
 . rename_i hc
   exact (hs _ (hs st h).step).put (zz8 (zF7 hc.2) zzj)
 exact hs st h
theorem zE9 {ru smp:Fn}(hr:ZK ru)(hs:ZK smp):ZK (zdn ru smp):=by
 intro st h;unfold zdn;split
 . refine (hr _ h.enter).leave.put (zz8 ?_ zzj);split
   . exact zGK
   exact zGO
 exact hs st h
theorem zAW:∀(f:Nat) (x:St×Nat),Zs x.1->Zs (zaY f x).1
 | 0,_,h=>h
 | f+1,x,h=>by
   unfold zaY;split
   . rename_i hc
     exact zAW f _ (h.step.name.put (zz8 (zGj hc.2) h.step.ts))
   exact h
theorem zDr (ha:ZK atm):ZK (zfu atm):=λst h=>zAW 1300 _ (ha st h)
theorem zCj (hr:ZK rx):∀(f:Nat) (x:St×List Nat),Zs x.1->Zs (zc1 rx f x).1
 | 0,_,h=>h
 | f+1,x,h=>by
   unfold zc1;split
   . exact zCj hr f _ (hr _ h.step)
   exact h
theorem zDh {ry:Fn}:∀(f:Nat) (x:St×List Nat),(zc1 ry f x).2.length<=x.2.length+f
 | 0,_=>zMK _
 | f+1,x=>by
   unfold zc1;split
   . have:=zDh (ry:=ry) f ((ry x.1.step).1,x.2++[(ry x.1.step).2]);simp only[zMM,List.length_singleton] at this;omega
   omega
theorem zDp (hr:ZK rx)(t:Tk)(ht:t.s.size<=1200):ZK (zao rx t):=by
 intro st h;unfold zao;split
 . exact ((zCj hr 1300 _ (hr _ h.enter)).must _ _).leave.put (zz8 zGo ht (zMO (zDh 1300 _) (by simp)))
 exact h.fail _ _
theorem zEf (hr:ZK rx):ZK (zdx rx):=λ_ h =>
 (hr _ ((hr _ ((hr _ h.enter).must _ _)).must _ _)).leave.put (zz8 zG9 zzj)
theorem zDV:ZK zjx:=λ_ h=>h.step.put ⟨zMN _,h.ts,zGJ,zMN _,λ_=>rfl⟩
theorem zDa (ha:ZK atm):ZK (zch atm):=by
 intro st h;unfold zch;split
 . exact ha st h
 exact zDV st h
theorem zFB (ha:ZK atm):ZK (zeE atm):=λ_ h =>
 (zDa ha _ (zDa ha _ h.enter.name)).leave.put (zz8 zF3 h.enter.ts)
theorem zFq (hr:ZK rx):ZK (zfQ rx):=λ_ h=>((hr _ h.enter).must _ _).leave
theorem zA5 (op:Xb)(n:Nat)(ho:zHR op.toList)(hn:n<=9223372036854775807):ZK (zdP op n):=λ_ h=>h.step.put ⟨hn,zzj,ho.1,zMN _,λe=>by rw[ho.2] at e;cases e⟩
theorem zF8 {ra:Fn}(hr:ZK rx)(ha:ZK ra):ZK (zap rx ra):=by
 intro st h;unfold zap;split
 . exact h
 split
 . exact zA5 _ _ zGQ h.tn st h
 split
 . split
   . exact zDp hr _ h.ts _ h.step
   exact zDV st h
 split
 . exact zFq hr st h
 split
 . exact zA5 _ _ zEK (by omega) st h
 split
 . exact zA5 _ _ zEK (by omega) st h
 split
 . exact zEf hr st h
 split
 . exact zFB ha st h
 exact h.fail _ _
theorem zFU {eith:Fn}(hr:ZK rx)(he:ZK eith):ZK (zgk rx eith):=by
 intro st h;unfold zgk;simp only;split
 . exact (hr _ (he st h).enter).leave.put (zz8 zGI zzj)
 exact he st h
theorem zCG:∀d:Nat,ZK (lev d).ex/\ZK (lev d).un/\ZK (lev d).at'
 | 0=>⟨λ_ h=>h,λ_ h=>h,λ_ h=>h⟩
 | d+1=>by obtain⟨h1,h2,h3⟩:=zCG d;have ha:ZK (zap (lev d).ex (lev d).at'):=zF8 h1 h3;have hu:ZK (zdn (lev d).un (zfu (zap (lev d).ex (lev d).at'))):=zE9 h2 (zDr ha);exact⟨zFU h1 (zBm (zBm (zGl (zBm (zBm hu))))),hu,ha⟩
def VrS (v:Vr):Prop:=v.nm.size<=1200/\v.ck.size<=1200
structure NdS (d:Nd):Prop where
 nm:d.nm.size<=1200
 vars:∀v∈d.vars,VrS v
 exs:∀e∈d.exs,exS e
 eqs:∀q∈d.eqs,∀s∈q.ns,s.size<=1200
 ns:∀q∈d.eqs,q.ns.length<=1400
theorem zzv {α:Type}{l:List α}{a x:α}(h:x∈l++[a]):x∈l∨x=a:=by
 rcases zMY.1 h with h|h
 . exact zM3 h
 exact zM4 (zMZ.1 h)
theorem Zs.type (h:Zs st):Zs (z9 st):=by unfold z9;split;exact h.step;exact h.must _ _
theorem Zs.nott (h:Zs st):Zs (za3 st):=by unfold za3;split;exact h.step;exact h
def ZV (x:St×List Vr):Prop:=Zs x.1/\∀v∈x.2,VrS v
theorem zzy {o:Bool}(h:Zs st)(hv:∀v∈vars,VrS v):ZV (zx i o st vars):=by
 unfold zx;split
 . exact⟨h.fail _ _,hv⟩
 have h3:=(h.name.must 4 [58]).type;simp only;split
 . refine⟨h3.step.nott.name,λv hm=>?_⟩;rcases zzv hm with hm|rfl
   . exact hv v hm
   exact⟨h.ts,h3.step.nott.ts⟩
 refine⟨h3,λv hm=>?_⟩;rcases zzv hm with hm|rfl
 . exact hv v hm
 exact⟨h.ts,zzj⟩
theorem zBh:∀(f:Nat) (x:St×List Vr),ZV x->ZV (zaG i f x)
 | 0,_,h=>h
 | f+1,x,h=>by
   unfold zaG;split
   . exact zBh f _ (zzy h.1.step h.2)
   exact h
theorem zBY (h:Zs st)(hv:∀v∈vars,VrS v):ZV (zab i st vars):=by have:=zBh (i:=i) 1300 _ (zzy (i:=i) (o:=!i) (h.must 4 [40]) hv);exact⟨this.1.must _ _,this.2⟩
theorem zCx (h:Zs st)(hv:∀v∈vars,VrS v):ZV (zaR st vars) :=
 ⟨(zzy h hv).1.must _ _,(zzy h hv).2⟩
theorem zBk:∀(f:Nat) (x:St×List Vr),ZV x->ZV (zbA f x)
 | 0,_,h=>h
 | f+1,x,h=>by
   unfold zbA;split
   . exact zBk f _ (zCx h.1 h.2)
   exact h
theorem zGd (h:Zs st)(hv:∀v∈vars,VrS v):ZV (zaS f st vars):=by
 unfold zaS;split
 . exact zBk f _ (zCx h.step hv)
 exact⟨h,hv⟩
theorem zFY (h:Zs st):ZV (zaI st):=by have h3:=zBY (i:=true) (vars:=[]) (h.must 5 zW).name (λv hv=>by cases hv);exact zBY (h3.1.must _ _) h3.2
def ZN (x:Nms):Prop:=Zs x.st/\∀s∈x.ns,s.size<=1200
theorem zBN:∀(f:Nat) (x:Nms),ZN x->ZN (zbO f x)
 | 0,_,h=>h
 | f+1,x,h=>by
   unfold zbO;split
   . refine zBN f _ ⟨h.1.step.name,λs hs=>?_⟩;rcases zzv hs with hs|rfl
     . exact h.2 s hs
     exact h.1.step.ts
   exact h
theorem zF2 (h:Zs st):ZN (zaH st):=by
 unfold zaH;split
 . have h3:=h.step.name.must 4 [44];have hy:=zBN 1300 ⟨(st.step.name.must 4 [44]).name,[st.step.t.s,(st.step.name.must 4 [44]).t.s],[st.step.t.a,(st.step.name.must 4 [44]).t.a]⟩ ⟨h3.name,λs hs=>by
    simp only[zNa,List.not_mem_nil,or_false] at hs;rcases hs with rfl|rfl
    . exact h.step.ts
    exact h3.ts⟩
   exact⟨hy.1.must _ _,hy.2⟩
 exact⟨h.name,λs hs=>by rw[zMZ.1 hs];exact h.ts⟩
theorem zDm:∀(f:Nat) (x:Nms),(zbO f x).ns.length<=x.ns.length+f
 | 0,_=>zMK _
 | f+1,x=>by
   unfold zbO;split
   . have:=zDm f x.more;have h:x.more.ns.length=x.ns.length+1:=(by show (x.ns++[_]).length=_;simp);omega
   omega
theorem zFV (st:St):(zaH st).ns.length<=1400:=by
 unfold zaH;split
 . have:=zDm 1300 ⟨(st.step.name.must 4 [44]).name,[st.step.t.s,(st.step.name.must 4 [44]).t.s],[st.step.t.a,(st.step.name.must 4 [44]).t.a]⟩;exact zMO this (by simp)
 simp
def EqS (q:Eqn):Prop:=(∀s∈q.ns,s.size<=1200)/\q.ns.length<=1400
def ZQ (x:St×List Eqn):Prop:=Zs x.1/\∀q∈x.2,EqS q
theorem zAU (z17:ZK r17)(z18:ZK r18){eqs:List Eqn}(h:Zs st)(hq:∀q∈eqs,EqS q):ZQ (zF r17 r18 st eqs):=by
 have hl:=zF2 h;have h2:=hl.1.must 4 [61];have hr:Zs (zck r17 r18 (st.is 4 [40]) ((zaH st).st.must 4 [61])).1:=by
  unfold zck;split
  . exact zDp z17 _ h2.ts _ h2.name
  exact z18 _ h2
 refine⟨hr.must _ _,λq hm=>?_⟩;rcases zzv hm with hm|rfl
 . exact hq q hm
 exact⟨hl.2,zFV st⟩
theorem zC8 (z17:ZK r17)(z18:ZK r18):∀(f:Nat) (x:St×List Eqn),ZQ x->ZQ (zb5 r17 r18 f x)
 | 0,_,h=>h
 | f+1,x,h=>by
   unfold zb5;split
   . exact zC8 z17 z18 f _ (zAU z17 z18 h.1 h.2)
   exact h
theorem zCz (z17:ZK r17)(z18:ZK r18)(h:Zs st):Zs (zax r17 r18 f st).1/\NdS (zax r17 r18 f st).2:=by
 have h0:Zs st.fresh:=⟨h.src,h.tt,h.tn,h.ts,λe he=>by cases he⟩;have hh:=zFY h0;have hv:=zGd (f:=f) hh.1 hh.2;obtain⟨V,hV⟩:∃V,zaS f (zaI st.fresh).1 (zaI st.fresh).2=V:=⟨_,rfl⟩;rw[hV] at hv;have hb:=zC8 z17 z18 f _ (zAU z17 z18 (eqs:=[]) (hv.1.must 4 [123]) (λq hq=>by cases hq));have e:zax r17 r18 f st=((zdr r17 r18 f V.1).1,⟨(st.fresh.must 5 zW).t.s,(st.fresh.must 5 zW).t.a,V.2,(zdr r17 r18 f V.1).1.L,(zdr r17 r18 f V.1).2⟩):=by unfold zax;simp only;rw[hV]
 rw[e];exact⟨hb.1.must _ _,(h0.must 5 zW).ts,hv.2,(hb.1.must 4 [125]).L,λq hq=>(hb.2 q hq).1,λq hq=>(hb.2 q hq).2⟩
theorem zB1 (z17:ZK r17)(z18:ZK r18):∀(f:Nat) (x:St×List Nd),Zs x.1->(∀d∈x.2,NdS d)->∀d∈(zdZ r17 r18 g f x).2,NdS d
 | 0,_,_,h=>h
 | f+1,x,hz,h=>by
   unfold zdZ;split
   . have:=zCz z17 z18 (f:=g) hz;refine zB1 z17 z18 f _ this.1 (λd hd=>?_);rcases zzv hd with hd|rfl
     . exact h d hd
     exact this.2
   exact h
theorem zE2 (z17:ZK r17)(z18:ZK r18)(hs:s.size<=1200):∀d∈(zgo r17 r18 g s).2,NdS d:=by have h1:=zV s 0 (zMN _);have h0:Zs (⟨s,zZ s 0,0,0,0,[]⟩:St):=⟨hs,h1.2.2.1,h1.2.2.2.1,zCE s 0 hs,λe he=>by cases he⟩;have:=zCz z17 z18 (f:=g) h0;exact zB1 z17 z18 g _ this.1 (λd hd=>by rw[zMZ.1 hd];exact this.2)
theorem zBg:∀(f:Nat) (x:St×List Nd),x.2.length<=6->(zdZ r17 r18 g f x).2.length<=6
 | 0,_,h=>h
 | f+1,x,h=>by
   unfold zdZ;split
   . rename_i hc
     exact zBg f _ (by simp;omega)
   exact h
theorem zDZ (r17 r18:Fn)(g:Nat)(s:Xb):(zgo r17 r18 g s).2.length<=6:=zBg g _ (by simp)
end
section
variable {r17 r18:Fn} {L:List Ex}
def zHC (L:List Ex):Nat->List Eqn->List Qn->Nat->Prop
 | a,[],qs,b=>qs=[]/\a=b
 | a,q::l,qs,b=>∃q' l' c,qs=q'::l'/\zrJ L q q'/\zHx L a c (zHu q'.r)/\q.ex+1=c/\zHC L c l l' b
theorem zHC.more {L':List Ex}(hp:L <+: L'):∀{l:List Eqn} {a b:Nat} {qs:List Qn},zHC L a l qs b->zHC L' a l qs b:=by
 intro l;induction l with
 | nil=>intro a b qs h;exact h
 | cons q l ih => rintro a b qs ⟨q',l',c,rfl,h1,h2,h3,h4⟩;exact⟨q',l',c,rfl,⟨h1.ns,h1.ps,h1.a,zAz hp h1.r⟩,h2.more hp,h3,ih h4⟩
theorem zHC.snoc {q:Eqn}{q':Qn}{b c:Nat}(hq:zrJ L q q')(hs:zHx L b c (zHu q'.r))(hx:q.ex+1=c):∀{l:List Eqn} {a:Nat} {qs:List Qn},zHC L a l qs b->zHC L a (l++[q]) (qs++[q']) c:=by
 intro l;induction l with
 | nil=>rintro a qs ⟨rfl,rfl⟩;exact⟨q',[],c,rfl,hq,hs,hx,rfl,rfl⟩
 | cons e l ih => rintro a qs ⟨e',l',d,rfl,h1,h2,h3,h4⟩;exact⟨e',l'++[q'],d,rfl,h1,h2,h3,ih h4⟩
theorem zHC.qns:∀{l:List Eqn} {a b:Nat} {qs:List Qn},zHC L a l qs b->zge L l qs:=by
 intro l;induction l with
 | nil=>rintro a b qs ⟨rfl,_⟩;rfl
 | cons e l ih => rintro a b qs ⟨e',l',d,rfl,h1,_,_,h4⟩;exact⟨e',l',rfl,h1,ih h4⟩
def SQP (L:List Ex)(eqs:List Eqn):Prop:=∃qs,zHC L 0 eqs qs L.length
theorem zIL (s17:PoD 17 r17)(s18:PoD 18 r18){st:St}{eqs:List Eqn}{p:Nat}(hI:Inv p st)(ho:st.op=0)(h:SQP st.L eqs)(hn:(zF r17 r18 st eqs).1.er=0):SQP (zF r17 r18 st eqs).1.L (zF r17 r18 st eqs).2:=by
 obtain⟨gl,g2,g3⟩:=zfO hI;have hi2:=(Fwd.must gl.inv 4 [61]).inv;have o2:((zaH st).st.must 4 [61]).op=0:=by rw[St.must_op,g2,ho]
 have L2:((zaH st).st.must 4 [61]).L=st.L:=by rw[St.must_L,g3]
 have he:(zck r17 r18 (st.is 4 [40]) ((zaH st).st.must 4 [61])).1.er=0:=(zbu.must _ 4 [59]).back hn;obtain⟨s2,hs2⟩:∃s2,(zaH st).st.must 4 [61]=s2:=⟨_,rfl⟩;rw[hs2] at hi2 o2 L2 he;have eE:zF r17 r18 st eqs=((zck r17 r18 (st.is 4 [40]) s2).1.must 4 [59],eqs++[⟨(zaH st).ns,(zaH st).ps,(zaH st).st.t.a,(zck r17 r18 (st.is 4 [40]) s2).2⟩]):=by unfold zF;simp only;rw[hs2]
 have key:∃t,zeA (zck r17 r18 (st.is 4 [40]) s2).1.L (zck r17 r18 (st.is 4 [40]) s2).2 t/\zHx (zck r17 r18 (st.is 4 [40]) s2).1.L st.L.length (zck r17 r18 (st.is 4 [40]) s2).1.L.length (zHu t)/\st.L <+: (zck r17 r18 (st.is 4 [40]) s2).1.L/\(zck r17 r18 (st.is 4 [40]) s2).2+1=(zck r17 r18 (st.is 4 [40]) s2).1.L.length:=by
  unfold zck at he ⊢;split
  . rename_i hm
    rw[zM2 hm] at he;have hc:Cd' 18 s2.name:=λ_=>by rw[St.name_op,o2];omega
    obtain⟨_,_,k3,⟨t,k4,k5⟩,k6⟩:=zJX s17 s2.t s2.name hc he;rw[St.name_L,L2] at k3 k5;exact⟨t,k4,k5,k3,k6⟩
  rename_i hm
  rw[zM1 hm] at he;have hc:Cd' 18 s2:=λ_=>by rw[o2];omega
  obtain⟨_,_,k3,⟨t,k4,k5⟩,k6⟩:=s18 s2 hc he;rw[L2] at k3 k5;exact⟨t,k4,k5,k3,k6⟩
 obtain⟨t,k1,k2,k3,k4⟩:=key;obtain⟨qs,q1⟩:=h;rw[eE];refine⟨qs++[⟨(zaH st).ns,(zaH st).ps,(zaH st).st.t.a,t⟩],?_⟩
 show zHC ((zck r17 r18 (st.is 4 [40]) s2).1.must 4 [59]).L 0 (eqs++[⟨(zaH st).ns,(zaH st).ps,(zaH st).st.t.a,(zck r17 r18 (st.is 4 [40]) s2).2⟩]) _ ((zck r17 r18 (st.is 4 [40]) s2).1.must 4 [59]).L.length;rw[St.must_L];exact (q1.more k3).snoc ⟨rfl,rfl,rfl,k1⟩ k2 k4
theorem zKs (s17:PoD 17 r17)(s18:PoD 18 r18)(g17:zv 17 r17)(g18:zv 18 r18):∀(f p:Nat) (x:St×List Eqn),Inv p x.1->x.1.op=0->(x.1.er=0->SQP x.1.L x.2)->(zb5 r17 r18 f x).1.er=0->SQP (zb5 r17 r18 f x).1.L (zb5 r17 r18 f x).2
 | 0,_,_,_,_,h,hn=>h hn
 | f+1,p,x,hI,ho,h,hn=>by
   by_cases hc:x.1.t.k=2∨x.1.is 4 [40]=true
   . have e:zb5 r17 r18 (f+1) x=zb5 r17 r18 f (zF r17 r18 x.1 x.2):=(by rw[zb5,zM2 hc]);rw[e] at hn ⊢;obtain⟨gF,gO⟩:=za1 g17 g18 (eqs:=x.2) hI ho;exact zKs s17 s18 g17 g18 f p _ gF.inv (by rw[gO];exact ho) (λhe=>zIL s17 s18 hI ho (h (gF.back he)) he) hn
   have e:zb5 r17 r18 (f+1) x=x:=(by rw[zb5,zM1 hc]);rw[e] at hn ⊢;exact h hn
def NdP (d:Nd):Prop:=SQP d.exs d.eqs/\d.exs.length<=1201
theorem zJV (s17:PoD 17 r17)(s18:PoD 18 r18)(g17:zv 17 r17)(g18:zv 18 r18)(f p:Nat)(st:St)(hI:Inv p st)(ho:st.op=0)(hn:(zax r17 r18 f st).1.er=0):NdP (zax r17 r18 f st).2:=by
 have i0:=Fwd.fresh hI;have gh:=zit i0;have gv:=zeP (f:=f) (vars:=(zaI st.fresh).2) gh.1.inv;have g1:=Fwd.must gv.1.inv 4 [123];have o1:((zaS f (zaI st.fresh).1 (zaI st.fresh).2).1.must 4 [123]).op=0:=by rw[St.must_op,gv.2.1,gh.2.1];exact ho
 have L1:((zaS f (zaI st.fresh).1 (zaI st.fresh).2).1.must 4 [123]).L=[]:=by rw[St.must_L,gv.2.2,gh.2.2];rfl
 obtain⟨V,hV⟩:∃V,zaS f (zaI st.fresh).1 (zaI st.fresh).2=V:=⟨_,rfl⟩;rw[hV] at g1 o1 L1;have e:zax r17 r18 f st=((zdr r17 r18 f V.1).1,⟨(st.fresh.must 5 zW).t.s,(st.fresh.must 5 zW).t.a,V.2,(zdr r17 r18 f V.1).1.L,(zdr r17 r18 f V.1).2⟩):=by unfold zax;simp only;rw[hV]
 rw[e] at hn ⊢;obtain⟨gF,gO⟩:=za1 g17 g18 (eqs:=[]) g1.inv o1;have gE:=zfZ g17 g18 f _ (zF r17 r18 (V.1.must 4 [123]) []) gF.inv (by rw[gO];exact o1);have gM:=Fwd.must gE.1.inv 4 [125];have h2:(zb5 r17 r18 f (zF r17 r18 (V.1.must 4 [123]) [])).1.er=0:=(zbu.must _ 4 [125]).back hn;have hs:=zKs s17 s18 g17 g18 f _ _ gF.inv (by rw[gO];exact o1) (λhe=>zIL s17 s18 g1.inv o1 ⟨[],by rw[L1];exact⟨rfl,rfl⟩⟩ he) h2;have eL:(zdr r17 r18 f V.1).1.L=(zb5 r17 r18 f (zF r17 r18 (V.1.must 4 [123]) [])).1.L:=St.must_L _ _ _;refine⟨?_,?_⟩
 . show SQP (zdr r17 r18 f V.1).1.L _;rw[eL];exact hs
 show (zdr r17 r18 f V.1).1.L.length<=1201;have h3:=gM.inv.pot;have h4:=gM.inv.ok.ta_le;have h5:(zdr r17 r18 f V.1).1=(zb5 r17 r18 f (zF r17 r18 (V.1.must 4 [123]) [])).1.must 4 [125]:=rfl;rw[h5];split at h3 <;> omega
theorem zJl (s17:PoD 17 r17)(s18:PoD 18 r18)(g17:zv 17 r17)(g18:zv 18 r18)(g:Nat):∀(f p:Nat) (x:St×List Nd),Inv p x.1->x.1.op=0->(∀nd∈x.2,NdP nd)->(zdZ r17 r18 g f x).1.er=0->(∀nd∈(zdZ r17 r18 g f x).2,NdP nd)
 | 0,_,_,_,_,h,_=>h
 | f+1,p,x,hI,ho,h,hn=>by
   by_cases hc:x.1.is 5 zW=true/\x.2.length<6
   . have e:zdZ r17 r18 g (f+1) x=zdZ r17 r18 g f ((zax r17 r18 g x.1).1,x.2++[(zax r17 r18 g x.1).2]):=(by rw[zdZ,zM2 hc]);rw[e] at hn ⊢;obtain⟨i1,o1⟩:=zzR g17 g18 g p x.1 hI ho;have h1:(zax r17 r18 g x.1).1.er=0:=by
      by_cases h2:(zax r17 r18 g x.1).1.er=0
      . exact h2
      rw[zze i1 h2] at hn;exact absurd hn h2
     refine zJl s17 s18 g17 g18 g f 0 _ i1 o1 (λnd hnd=>?_) hn;rcases zzv hnd with hnd|rfl
     . exact h nd hnd
     exact zJV s17 s18 g17 g18 g p x.1 hI ho h1
   have e:zdZ r17 r18 g (f+1) x=x:=(by rw[zdZ,zM1 hc]);rw[e];exact h
theorem zLj (s17:PoD 17 r17)(s18:PoD 18 r18)(g17:zv 17 r17)(g18:zv 18 r18)(g:Nat)(s:Xb)(hI:Inv 0 (⟨s,zZ s 0,0,0,0,[]⟩:St))(hn:(zgo r17 r18 g s).1.er=0):∀nd∈(zgo r17 r18 g s).2,NdP nd:=by
 have h1:(zdZ r17 r18 g g ((zax r17 r18 g ⟨s,zZ s 0,0,0,0,[]⟩).1,[(zax r17 r18 g ⟨s,zZ s 0,0,0,0,[]⟩).2])).1.er=0:=(zzQ _).back hn;obtain⟨i1,o1⟩:=zzR g17 g18 g 0 ⟨s,zZ s 0,0,0,0,[]⟩ hI rfl;have h2:(zax r17 r18 g ⟨s,zZ s 0,0,0,0,[]⟩).1.er=0:=by
  by_cases h3:(zax r17 r18 g ⟨s,zZ s 0,0,0,0,[]⟩).1.er=0
  . exact h3
  rw[zze i1 h3] at h1;exact absurd h1 h3
 refine zJl s17 s18 g17 g18 g g 0 _ i1 o1 (λnd hnd=>?_) h1;rw[zMZ.1 hnd];exact zJV s17 s18 g17 g18 g 0 _ hI rfl h2
end
section
def vzQ (qs:List Qn):Nat:=(qs.map λq=>vz q.r).sum
def NdZ (d:Nd):Prop:=(∃qs,zge d.exs d.eqs qs/\vzQ qs<=d.exs.length)/\d.exs.length<=1201
theorem zLt:∀t:Tm,(zHu t).length=vz t:=by
 intro t;induction t using Tm.ind with
 | h k a s nm n ts ih =>
   have hl:∀l:List Tm,(∀t∈l,(zHu t).length=vz t)->(zHt l).length=vzL l:=by
    intro l;induction l with
    | nil=>intro _;rw[zHt];rfl
    | cons t l ih2=>intro h;rw[zHt,zMM,zys,h t (zMS ..),ih2 (λt ht=>h t (zMX _ ht))]
   rw[zHu,zBn,zMM,hl ts ih];simp;omega
theorem zK7 {d:Nd}(h:NdP d):NdZ d:=by
 obtain⟨⟨qs,hq⟩,h2⟩:=h;have key:∀{l:List Eqn} {a b:Nat} {qs:List Qn},zHC d.exs a l qs b->a+vzQ qs=b:=by
  intro l;induction l with
  | nil=>rintro a b qs ⟨rfl,rfl⟩;rfl
  | cons q l ih => rintro a b qs ⟨q',l',c,rfl,_,h2,_,h4⟩;have:=ih h4;have:=h2.len;rw[zLt] at this;unfold vzQ at *;rw[List.map_cons,List.sum_cons];omega
 exact⟨⟨qs,hq.qns,by have:=key hq;omega⟩,h2⟩
theorem zF1:∀{l:List Nd},(∀d∈l,NdZ d)->∃ns,ze5 l ns/\∀n∈ns,n.terms.length<=1201:=by
 intro l;induction l with
 | nil=>intro _;exact⟨[],rfl,λn h=>by cases h⟩
 | cons d l ih =>
   intro h;obtain⟨ns,h1,h2⟩:=ih (λd hd=>h d (zMX _ hd));obtain⟨⟨qs,q1,q2⟩,q3⟩:=h d (zMS ..);refine⟨⟨d.nm,d.a,d.vars,d.ins,d.outs,qs⟩::ns,⟨_,ns,rfl,⟨rfl,rfl,rfl,rfl,rfl,q1⟩,h1⟩,λn hn=>?_⟩;rcases zNa.1 hn with rfl|hn
   . have:(Nod.terms ⟨d.nm,d.a,d.vars,d.ins,d.outs,qs⟩).length=vzQ qs:=by unfold Nod.terms vzQ;rw[List.length_flatMap];rfl
     rw[this];omega
   exact h2 n hn
end
section
variable {L:List Ex}
theorem zeA.uno {x:Nat}{t t':Tm}(h:zeA L x t)(h':zeA L x t'):t=t':=by
 induction h generalizing t' with
 | mk x ex ts hx hl hr ih =>
   cases h' with
   | mk _ ex' ts' hx' hl' hr' =>
     rw[hx] at hx';cases hx';have:ts=ts':=by
      apply List.ext_getElem?;intro i;by_cases hi:i<ts.length
      . have e1:=zsc hi;have e2:=zsc (show i<ts'.length by omega);have e3:=zsc (show i<ex.ins.length by omega);rw[e1,e2,ih i _ _ e3 e1 (hr' i _ _ e3 e2)]
      rw[List.getElem?_eq_none (by omega),List.getElem?_eq_none (by omega)]
     rw[this]
theorem zC1:∀{l:List Eqn} {qs qs':List Qn},zge L l qs->zge L l qs'->qs=qs':=by
 intro l;induction l with
 | nil=>rintro qs qs' rfl rfl;rfl
 | cons q l ih => rintro qs qs' ⟨a,la,rfl,ha,hla⟩ ⟨b,lb,rfl,hb,hlb⟩;rw[ih hla hlb];obtain⟨a1,a2,a3,a4⟩:=a;obtain⟨b1,b2,b3,b4⟩:=b;obtain⟨h1,h2,h3,h4⟩:=ha;obtain⟨k1,k2,k3,k4⟩:=hb;simp only at h1 h2 h3 h4 k1 k2 k3 k4;subst h1 h2 h3 k1 k2 k3;rw[h4.uno k4]
structure NdR (d:Nd):Prop where
 s:NdS d
 o:zAr d
 z:NdZ d
theorem zCD:∀{l:List Nd} {ns:List Nod},ze5 l ns->∀(i:Nat) (d:Nd),l[i]?=some d->∃n,ns[i]?=some n/\zo6 d n:=by
 intro l;induction l with
 | nil=>intro ns _ i d h;simp at h
 | cons d0 l ih =>
   rintro ns ⟨n,l',rfl,hn,hl⟩ i d hi;cases i with
   | zero=>simp at hi;subst hi;exact⟨n,rfl,hn⟩
   | succ i => obtain⟨n2,h1,h2⟩:=ih hl i d (by simpa using hi);exact⟨n2,by simpa using h1,h2⟩
theorem zCJ:∀{l:List Nd} {ns ms:List Nod},ze5 l ns->ze5 l ms->ns=ms:=by
 intro l;induction l with
 | nil=>rintro ns ms rfl rfl;rfl
 | cons d l ih => rintro ns ms ⟨a,la,rfl,ha,hla⟩ ⟨b,lb,rfl,hb,hlb⟩;rw[ih hla hlb];obtain⟨a1,a2,a3,a4,a5,a6⟩:=a;obtain⟨b1,b2,b3,b4,b5,b6⟩:=b;obtain⟨h1,h2,h3,h4,h5,h6⟩:=ha;obtain⟨k1,k2,k3,k4,k5,k6⟩:=hb;simp only at h1 h2 h3 h4 h5 h6 k1 k2 k3 k4 k5 k6;subst h1 h2 h3 h4 h5 k1 k2 k3 k4 k5;rw[zC1 h6 k6]
end
section
open Go.RowKit
structure zlK (src:Xb) (ns:List Nod):Prop where
 size:src.size<=1200
 rd:∃R,zgo (lev 17).ex (lev 18).ex 1300 src=R/\R.1.er=0/\R.2.length<=6/\ze5 R.2 ns
 wf:∀n∈ns,zeJ n
 tms:∀n∈ns,n.terms.length<=1000000
 chk:zbc ns=none
theorem zlR (S:Xs)(src:Xb)(ns:List Nod)(h:zlK src ns)(w:Xw)(HG:Gl S w) :
 xK 12 #[.string src] w (λe w'=>∃gb N,e=.returned (.tuple #[xP gb,.nilIface])/\PT w' N ns (xP gb)/\w.heap.size<=N/\N<=w'.heap.size/\xB w w'):=by
 obtain⟨r17,r18,e17,e18,hX,hK,g17,g18⟩:=zk1;obtain⟨h1,⟨R,hR,h2,h3,h4⟩,H5,H6,H7⟩:=h;rw[<- e17,<- e18] at hR;have HRd:=za (zni hX hK g17 g18 S 1300 (by decide) (by decide) src w HG h1 (R:=R) hR);have H4:=za h4;clear hR h4 hX hK;have HRr:xK 19 #[.string src] w (λe w'=>∃gb,e=.returned (.tuple #[xP gb,.nilIface])/\PT w' w'.heap.size ns (xP gb)/\xB w w'):=by refine HRd.o.mono ?_;rintro e w' ⟨_,hok,hB⟩;obtain⟨a,rfl,hPG⟩:=hok h2;obtain⟨ns',hns,hPT⟩:=zpt hPG h3;have:=zCJ hns H4.o;subst this;obtain⟨gb,gv,xs,e0,rest⟩:=hPT;cases e0;exact⟨gb,rfl,⟨gb,gv,xs,rfl,rest⟩,hB⟩
 clear HRd H4 h2 h3;go_enter func12,ntmps12
 go_wp2_with (first
  | (go_at_call 20;revert HP1;intro HP1;refine (zjO S w1.heap.size ns H5 H6 gb w1 (HG.of (T:=λ_=>False) (Fr.of_below HB1.o) (λ_ e=>e.elim)) HP1.o (zMK _)).mono ?_;rw[H7];rintro e w2 ⟨rfl,hB⟩;unfold zq3;have hz2:=hB.size;have HB2:=za hB)
  | (go_at_call 19;refine HRr.mono ?_;rintro e w1 ⟨gb,rfl,hP,hB⟩;have hz1:=hB.size;have HP1:=za hP;have HB1:=za hB))
 exact zWR (v:=.tuple #[xP gb,.nilIface]) (by simp[results,results12,go_sem]) rfl ⟨gb,w1.heap.size,rfl,HP1.o.old (zm HB2.o (zMK _)),hz1,hz2,HB1.o.trans (HB2.o.mono hz1)⟩
theorem KW.pk {B wb kb:Nat}{K:Cd}{w:Xw}(h:KW B wb kb K w)(h1:K.bools.length<=1000000)(h2:K.cells.length<=1000000)(h3:K.row.length<=1000000)(h4:∀i∈K.row,i.1<=20):∃bv cv rv,PkI w kb bv cv rv K:=by obtain⟨bv,cv,rv,h⟩:=h;exact⟨bv,cv,rv,h.blk,zR h.bown (zMN _),zR h.cown (zMN _),zR h.rown (zMN _),h1,h2,h3,h4⟩
structure zl2 (fu gas f:Nat) (pre:List Nod) (n:Nod) (K:Cd):Prop where
 hK:zca fu gas f ⟨pre,n⟩ 0 ((hdM ⟨pre,n⟩).add 0 1)=K
 hgas:gas<=1000000
 hf:17*f<=100000
 gd:GdC fu gas f ⟨pre,n⟩
 b:K.bools.length<=1000000
 c:K.cells.length<=1000000
 r:K.row.length<=1000000
 ops:∀i∈K.row,i.1<=20
theorem zlg (S:Xs)(src:Xb)(pre:List Nod)(n:Nod)(h:zlK src (pre++[n]))(fu gas f:Nat)(K:Cd)(hc:zl2 fu gas f pre n K)(w:Xw)(hG:Gl S w)(hop:zbt w)(hS:zbW w) :
 xK 9 #[.string src] w (λe w'=>∃v B,e=.returned (.tuple #[v,xI 0,xI 0])/\BR B w' v (zcw (zcx K))/\w.heap.size<=B/\xB w w'):=by
 obtain⟨hK,hgas,hf,hgd,hb,hcl,hr,ho⟩:=hc;have HCk:=za (zlR S src (pre++[n]) h w hG);have h21:=hG.size;have Hop:=za hop;have HS:=za hS;have HCm:=za (λN (hN:21<=N) gb W hP hNW hopW=>zjW (N:=N) fu gas f hgas hN hf pre n (xP gb) W hP hNW hopW hgd ⟨by rw[hK];omega,by rw[hK];exact hcl⟩);rw[hK] at HCm;have HPk:=za (λB wb kb W (hW:KW B wb kb K W) (hS:zbW W) (hz:21<=W.heap.size)=>(by
  obtain⟨bv,cv,rv,hI⟩:=hW.pk hb hcl hr ho;exact zpP kb bv cv rv K W hI hS hz:xK 14 #[xP kb] W (zhf W.heap.size (zcw (zcx K)) W)))
 go_enter func9,ntmps9
 go_wp2_with (first
  | (go_at_call 14;revert HK2;intro HK2;refine (HPk.o _ _ _ w2 HK2.o (HS.o.old ((zm HB1.o (zMK _)).trans (zm HB2.o hz1)) h21) (by omega)).mono ?_;rintro e w3 ⟨v3,rfl,hR3,hB3⟩;have HR3:=za hR3;have HB3:=za hB3)
  | (go_at_call 15;revert HP1;intro HP1;refine (HCm.o N (by omega) gb w1 HP1.o hN1 (Hop.o.old (zm HB1.o (zMK _)) h21)).mono ?_;rintro e w2 ⟨B,wb,kb,rfl,hkb,hB,hKW,hB2⟩;have hz2:=hB2.size;have HK2:=za hKW;have HB2:=za hB2)
  | (go_at_call 12;refine HCk.o.mono ?_;rintro e w1 ⟨gb,N,rfl,hP,hN0,hN1,hB⟩;have hz1:=hB.size;have HP1:=za hP;have HB1:=za hB))
 exact zWR (v:=.tuple #[v3,xI 0,xI 0]) (by simp[results,results9,go_sem]) rfl ⟨v3,w2.heap.size,rfl,HR3.o,by omega,(HB1.o.trans (HB2.o.mono hz1)).trans (HB3.o.mono (by omega))⟩
end
section
open Go.RowKit
variable {c:Cd} {cells slots:List Int} {sv:Xv} {w w':Xw}
structure zlx (c:Cd):Prop where
 outsB:c.bools.length+c.outs<=c.slots
 slotsB:c.slots<=255
 cellsB:c.cells.length<=255
 depthB:c.depth<=3145728
 rowB:c.row.length<=1048576
theorem UC.cb {B cb:Nat}(h:UC B cb c w)(hc:zlx c):∃bv cv rv,CB w w.heap.size cb bv cv rv c/\(∀k,bv.ownBlock=some k∨cv.ownBlock=some k∨rv.ownBlock=some k->B<=k):=by
 obtain⟨bv,cv,rv,h⟩:=h;refine⟨bv,cv,rv,⟨h.blk,zR h.bown (zMN _),zR h.cown (zMN _),zR h.rown (zMN _),ze h.blk,λk e=>(h.bown.lt k e).2,λk e=>(h.cown.lt k e).2,λk e=>(h.rown.lt k e).2,hc.outsB,hc.slotsB,hc.cellsB,hc.depthB,hc.rowB⟩,?_⟩;rintro k (e|e|e)
 . exact (h.bown.lt k e).1
 . exact (h.cown.lt k e).1
 exact (h.rown.lt k e).1
structure Ma where
 M:Nat
 N:Nat
 mb:Nat
 cb:Nat
 b1:Nat
 b2:Nat
 bv:Value
 cv:Value
 rv:Value
def Ma.own (a:Ma)(sv:Xv)(k:Nat):Prop:=k=a.M∨k=a.mb∨k=a.cb∨k=a.b1∨k=a.b2∨a.bv.ownBlock=some k∨a.cv.ownBlock=some k∨a.rv.ownBlock=some k∨sv.ownBlock=some k
structure MM (w:Xw) (a:Ma) (sv:Xv) (c:Cd) (cells slots:List Int):Prop where
 blk:w.heap[a.M]?=some (.cells #[xP a.mb] 54 (0,0))
 mc:Mc w a.N a.mb a.cb a.b1 a.b2 a.bv a.cv a.rv sv c cells slots []
 m0:¬a.M=a.mb
 m1:¬a.M=a.b1
 m2:¬a.M=a.b2
 ms:¬sv.ownBlock=some a.M
theorem Mc.keep {N mb cb b1 b2:Nat}{bv cv rv:Xv}{st:List Int}(h:Mc w N mb cb b1 b2 bv cv rv sv c cells slots st)(hB:xB w w'):Mc w' N mb cb b1 b2 bv cv rv sv c cells slots st :=
 ⟨h.code.old (zm hB h.mem.hB),h.mem.fr (λk hk=>hB.block k hk) hB.size,h.n0,h.n1,h.n2,h.lc,h.ls⟩
theorem MM.keep {a:Ma}(h:MM w a sv c cells slots)(hB:xB w w'):MM w' a sv c cells slots :=
 ⟨(hB.block _ (ze h.blk)).trans h.blk,h.mc.keep hB,h.m0,h.m1,h.m2,h.ms⟩
theorem zUE (S:Xs)(a:Xp)(cp g:Nat)(l:Xn)(c:Cd)(Hc:zlx c)(hu:zcR l=some c)(w:Xw)(hG:Gl S w)(hS:zbW w)(hy:By w (.slice a l.length cp) g l)(hg:g<w.heap.size) :
 xK 10 #[.slice a l.length cp] w (λe w'=>∃(m:Ma) (sv:Xv),e=.returned (.tuple #[xP m.M,xI 0])/\MM w' m sv c c.cells (List.replicate c.slots 0)/\w.heap.size<=m.N/\xB w w'/\∀k,m.own sv k->w.heap.size<=k):=by
 have HU:=za (zk9 S a cp g l w hG hS hy hg);rw[hu] at HU;unfold zfJ at HU;go_enter func10,ntmps10
 go_wp2_with (first
  | (go_at_call 17;revert HB1;intro HB1;refine (zpK w1.heap.size cb bv cv rv c w1 HCB (zMK _)).mono ?_;rintro e w2 ⟨mb,b1,b2,sv,rfl,HM,hB⟩;have hz2:=hB.size;have HB2:=za hB)
  | (go_at_call 16;refine HU.o.mono ?_;rintro e w1 ⟨hB,cb,B,rfl,hcb,hBB,hUC⟩;have hz1:=hB.size;obtain⟨bv,cv,rv,HCB,hlow⟩:=hUC.cb Hc;have Hlow:=za hlow;clear hlow;have HB1:=za hB))
 obtain⟨l0,l1,l2,ls⟩:=HM.mem.lt;have hB3:=zq w2 (.cells #[xP mb] 54)
 refine zWR (v:=.tuple #[xP w2.heap.size,xI 0]) (by simp[results,results10,go_sem]) rfl
  ⟨⟨w2.heap.size,w1.heap.size,mb,cb,b1,b2,bv,cv,rv⟩,sv,rfl,⟨zc w2 _,HM.keep hB3,(by show ¬w2.heap.size=mb;omega),(by show ¬w2.heap.size=b1;omega),(by show ¬w2.heap.size=b2;omega),λe=>Nat.lt_irrefl w2.heap.size (ls w2.heap.size e)⟩,hz1,(HB1.o.trans (HB2.o.mono hz1)).trans (hB3.mono (by omega)),?_⟩
 rintro k (e|e|e|e|e|e|e|e|e)
 . exact e▸(show w.heap.size<=w2.heap.size by omega)
 . exact e▸zMO hz1 HM.n0
 . exact e▸hcb
 . exact e▸zMO hz1 HM.n1
 . exact e▸zMO hz1 HM.n2
 . exact zMO hBB (Hlow.o k (.inl e))
 . exact zMO hBB (Hlow.o k (.inr (.inl e)))
 . exact zMO hBB (Hlow.o k (.inr (.inr e)))
 exact zMO hz1 (HM.mem.own.lt k e).1
theorem zp7 (S:Xs)(m:Ma)(sv:Xv)(c:Cd)(cells slots:List Int)(w:Xw)(v:Xv)(g:Nat)(l:List Int)(hG:Gl S w)(H:MM w m sv c cells slots)(hl:Nm w v g l)(hg2:l≠[]->g≠m.b2)(hr:zdE c.bools l=none)(hfit:zd9 c.slots c.cells.length 0 c.row=some 0) :
 xK 11 #[xP m.M,v] w (λe w'=>∃ob sv',e=.returned (.tuple #[xS ob c.outs c.outs,xI 0])/\w.heap.size<=ob/\w'.heap[ob]?=some (.cells (zK (zcX c (zbm c cells l))).toArray 2 (0,0))/\MM w' m sv' c (zbm c cells l).cells (zbm c cells l).slots/\Fr (λj=>m.N<=j) w w'):=by
 have HSt:=za (zjy S m.N m.mb m.cb m.b1 m.b2 m.bv m.cv m.rv sv c cells slots w v g l hG H.mc hl hg2 hr hfit);obtain⟨a0,af,az⟩:=zu H.blk;go_enter func11,ntmps11
 go_wp2_with (first
  | (go_at_call 13;refine (zmA _).mono ?_;rintro e w3 ⟨rfl,rfl⟩)
  | (go_at_call 18;refine HSt.o.mono ?_;rintro e w1 ⟨ob,sv',rfl,H1,H2,h3,H4,H5⟩))
 refine zWR (v:=.tuple #[xS ob c.outs c.outs,xI 0]) (by simp[results,results11,go_sem]) rfl ⟨ob,sv',rfl,H1,H2,⟨?_,H4,H.m0,H.m1,H.m2,?_⟩,?_⟩
 . refine (H5.fr.block _ az ?_).trans H.blk;rintro (e|e|e|e)
   . exact H.m0 e
   . exact H.m1 e
   . exact H.m2 e
   exact H.ms e
 . intro e;rcases H5.new _ e with e|e
   . exact H.ms e
   omega
 refine H5.fr.mono ?_;rintro k _ (e|e|e|e)
 . exact e▸H.mc.n0
 . exact e▸H.mc.n1
 . exact e▸H.mc.n2
 exact (H.mc.mem.own.lt _ e).1
end
section
open Go.RowKit
variable {c:Cd}
theorem zvI (l:Xn)(s:Ir)(h:(zG l s).2.er=none):s.er=none:=by
 by_cases hs:s.er=none
 . exact hs
 rw[(zg9 l s).1 hs] at h;exact h
theorem zvf (l:Xn)(s:Ir)(h:s.at'<=l.length):(zG l s).2.at'<=l.length:=by
 unfold zG;split
 . split
   . exact h
   simp only;omega
 exact h
theorem zwk (l:Xn)(bd:Nat)(s:Ir)(h:(zad l bd s).2.er=none):s.er=none:=zvI l s (zhR _ _ h).1
theorem zvj (l:Xn)(bd:Nat)(s:Ir)(h:s.at'<=l.length):(zad l bd s).2.at'<=l.length:=by show (zbU _ _).at'<=_;rw[zks];exact zvf l s h
theorem zvY (l:Xn):∀(n:Nat) (s:Ir),(zc2 l n s).2.er=none->s.er=none
 | 0,_,h=>h
 | n+1,s,h=>zvI l s (zvY l n _ h)
theorem zvK (l:Xn):∀(n:Nat) (s:Ir),s.at'<=l.length->(zc2 l n s).2.at'<=l.length
 | 0,_,h=>h
 | n+1,s,h=>zvK l n _ (zvf l s h)
theorem zvC (l:Xn):∀(n:Nat) (s:Ir),s.at'<=l.length->(zbb l n s).2.at'<=l.length
 | 0,_,h=>h
 | n+1,s,h=>zvC l n _ (zvj l 2 s h)
theorem zv7 (l:Xn)(s:Ir)(h:s.at'<=l.length):(zcK l s).2.at'<=l.length:=by unfold zcK;exact zvK l 8 s h
theorem zxh (l:Xn)(s:Ir)(h:(zcK l s).2.er=none):s.er=none:=by unfold zcK at h;exact zvY l 8 s h
theorem zvJ (l:Xn):∀(n:Nat) (s:Ir),(zcy l n s).2.er=none->s.er=none
 | 0,_,h=>h
 | n+1,s,h=>zxh l s (zvJ l n _ h)
theorem zvR (l:Xn):∀(n:Nat) (s:Ir),s.at'<=l.length->(zcy l n s).2.at'<=l.length
 | 0,_,h=>h
 | n+1,s,h=>zvR l n _ (zv7 l s h)
theorem zvA (l:Xn):∀(n:Nat) (s:Ir),(zcy l n s).1.length=n
 | 0,_=>rfl
 | n+1,s=>by show (_::_).length=_;rw[zMR,zvA l n]
theorem zw7 (l:Xn)(ns nc:Nat)(s:Ir)(h:(zcV l ns nc s).2.er=none):(zad l 21 s).2.er=none:=by
 unfold zcV at h;by_cases ho:(zad l 21 s).2.er=none
 . exact ho
 simp only[zM1 ho] at h;exact absurd h ho
theorem zv8 (l:Xn)(ns nc:Nat)(s:Ir):(zcV l ns nc s).2=(zad l 21 s).2∨(zcV l ns nc s).2=(zcK l (zad l 21 s).2).2∨(zcV l ns nc s).2=(zad l ns (zad l 21 s).2).2∨(zcV l ns nc s).2=(zad l nc (zad l 21 s).2).2:=by
 unfold zcV;generalize zad l 21 s=o;simp only;by_cases h0:o.2.er=none
 . rw[zM2 h0];by_cases h1:(zY.getD o.1 (0,0,0)).1=1
   . rw[zM2 h1];exact zM4 (zM3 rfl)
   rw[zM1 h1];by_cases h2:(zY.getD o.1 (0,0,0)).1=2
   . rw[zM2 h2];exact zM4 (zM4 (zM3 rfl))
   rw[zM1 h2];by_cases h3:(zY.getD o.1 (0,0,0)).1=3
   . rw[zM2 h3];exact zM4 (zM4 (zM4 rfl))
   rw[zM1 h3];exact zM3 rfl
 rw[zM1 h0];exact zM3 rfl
theorem zxm (l:Xn)(ns nc:Nat)(s:Ir)(h:s.at'<=l.length):(zcV l ns nc s).2.at'<=l.length:=by
 have h1:=zvj l 21 s h;rcases zv8 l ns nc s with e|e|e|e
 . rw[e];exact h1
 . rw[e];exact zv7 l _ h1
 . rw[e];exact zvj l ns _ h1
 rw[e];exact zvj l nc _ h1
theorem zwQ (l:Xn)(ns nc:Nat)(s:Ir)(h:(zcV l ns nc s).2.er=none)(sh:Nat×Nat×Nat)(hsh:zY[(zcV l ns nc s).1.1]?=some sh) :
 (sh.1=2->0<=(zcV l ns nc s).1.2/\(zcV l ns nc s).1.2.toNat<ns)/\(sh.1=3->0<=(zcV l ns nc s).1.2/\(zcV l ns nc s).1.2.toNat<nc):=by
 have ho:=zw7 l ns nc s h;unfold zcV at h hsh ⊢;simp only[zM2 ho] at h hsh ⊢;have key:∀k:Nat,zY[k]?=some sh->zY.getD k (0,0,0)=sh:=λk e=>by rw[List.getD_eq_getElem?_getD,e];rfl
 by_cases c1:(zY.getD (zad l 21 s).1 (0,0,0)).1=1
 . rw[zM2 c1] at hsh ⊢;have:=key _ hsh;rw[this] at c1;exact⟨λe=>by omega,λe=>by omega⟩
 rw[zM1 c1] at h hsh ⊢;by_cases c2:(zY.getD (zad l 21 s).1 (0,0,0)).1=2
 . rw[zM2 c2] at h hsh ⊢;have hk:=key _ hsh;rw[hk] at c2;have:=zh5 h;exact⟨λ_=>⟨by simp,by simpa using this⟩,λe=>by omega⟩
 rw[zM1 c2] at h hsh ⊢;by_cases c3:(zY.getD (zad l 21 s).1 (0,0,0)).1=3
 . rw[zM2 c3] at h hsh ⊢;have hk:=key _ hsh;rw[hk] at c3;have:=zh5 h;exact⟨λe=>by omega,λ_=>⟨by simp,by simpa using this⟩⟩
 rw[zM1 c3] at h hsh ⊢;have hk:=key _ hsh;rw[hk] at c2 c3;exact⟨λe=>absurd e c2,λe=>absurd e c3⟩
theorem zvz (ns nc:Nat)(i:Nat×Int):∀(l:List (Nat×Int)) (h h':Nat),zd9 ns nc h l=some h'->zd9 ns nc h (l++[i])=zgT ns nc h' i
 | [],h,h',e=>by
   cases e
   show (match zgT ns nc h i with|none=>none|some h'=>zd9 ns nc h' [])=_;cases zgT ns nc h i <;> rfl
 | j::l,h,h',e=>by
   show (match zgT ns nc h j with|none=>none|some h'=>zd9 ns nc h' (l++[i]))=_;have e':(match zgT ns nc h j with|none=>none|some h'=>zd9 ns nc h' l)=some h':=e;cases hj:zgT ns nc h j with
   | none=>rw[hj] at e';cases e'
   | some g=>rw[hj] at e';exact zvz ns nc i l g h' e'
structure RwK (l:Xn) (ns nc:Nat) (x:Rw'):Prop where
 i:RwI x
 le:x.s.at'<=l.length
 fit:x.s.er=none->zd9 ns nc 0 x.row=some x.dp.toNat
 few:x.s.er=none->x.row.length<=x.s.at'
theorem zwL {k:Nat}(h:k<21):∃sh,zY[k]?=some sh:=⟨_,zsc (show k<zY.length from h)⟩
theorem zxl (l:Xn)(ns nc:Nat)(x:Rw')(h:RwK l ns nc x)(hs:x.s.er=none):RwK l ns nc (zc3 l ns nc x):=by
 obtain⟨sh,hsh⟩:=zwL (zpb l ns nc x.s);have e:zY.getD (zcV l ns nc x.s).1.1 (0,0,0)=sh:=by rw[List.getD_eq_getElem?_getD,hsh];rfl
 have hat:(zc3 l ns nc x).s.at'=(zcV l ns nc x.s).2.at':=zks _ _;refine⟨znc l ns nc x h.i hs sh hsh,by rw[hat];exact zxm l ns nc x.s h.le,λhn=>?_,λhn=>?_⟩
 . obtain⟨h1,h2⟩:=zhR _ _ hn;obtain⟨q2,q3⟩:=zwQ l ns nc x.s h1 sh hsh;have h0:=h.i.ok hs
   show zd9 ns nc 0 (x.row++[(zcV l ns nc x.s).1])=some (x.dp-(zY.getD (zcV l ns nc x.s).1.1 (0,0,0)).2.1+(zY.getD (zcV l ns nc x.s).1.1 (0,0,0)).2.2:Int).toNat;rw[zvz ns nc _ _ _ _ (h.fit hs)];simp only[e,decide_eq_true_eq] at h2;unfold zgT;rw[hsh,e];simp only;rw[zM2 ⟨by omega,q2,q3⟩];congr 1;omega
 have h1:=(zhR _ _ hn).1;have:=znd l ns nc x.s hs h1;have hf:=h.few hs;rw[hat]
 show (x.row++[_]).length<=_;rw[zMM,List.length_singleton];omega
theorem zvN (l:Xn)(ns nc:Nat):∀(f:Nat) (x:Rw'),RwK l ns nc x->zjl l x<f->(zdw l ns nc f x).s.er=none->RwK l ns nc (zdw l ns nc f x)/\goW l (zdw l ns nc f x)=false
 | 0,x,_,hp,_=>by omega
 | f+1,x,hk,hp,hn=>by
   by_cases hg:goW l x=true
   . have hs:x.s.er=none:=(by unfold goW at hg;simp at hg;exact hg.1);have hk':=zxl l ns nc x hk hs;have hpt:=zmw l ns nc x hs hk'.le;have e:zdw l ns nc (f+1) x=zdw l ns nc f (zc3 l ns nc x):=(by rw[zdw,zM2 hg]);rw[e] at hn ⊢;exact zvN l ns nc f _ hk' (by omega) hn
   have hg':goW l x=false:=(by simpa using hg);rw[zih l ns nc _ x hg'] at hn ⊢;exact⟨hk,hg'⟩
theorem zxg (l:Xn)(ns nc f:Nat)(x:Rw')(h:(zdw l ns nc f x).s.er=none):x.s.er=none:=by
 by_cases hg:goW l x=true
 . unfold goW at hg;simp at hg;exact hg.1
 rw[zih l ns nc f x (by simpa using hg)] at h;exact h
theorem zwR (l:Xn)(s:Ir)(h:s.at'<=l.length):(ziO l s).at'<=l.length:=by
 unfold ziO;have:∀(ms:Xn) (s:Ir),s.at'<=l.length->(ms.foldl (λs m=>zbU ((zG l s).1==m) (zG l s).2) s).at'<=l.length:=by
  intro ms;induction ms with
  | nil=>intro s h;exact h
  | cons m ms ih=>intro s h;exact ih _ (by rw[zks];exact zvf l s h)
 exact this _ _ h
theorem zwZ (l:Xn)(s:Ir)(h:s.at'<=l.length):(zdL l s).2.at'<=l.length:=by unfold zdL;simp only;exact zvR l _ _ (zvj l 61 _ (by rw[zks];exact zvf l _ (zvf l _ (zvC l _ _ (zvf l _ h)))))
theorem zwX (l:Xn)(s:Ir)(hl:∀x∈l,x<256)(h:(zdL l s).2.er=none):(zdL l s).1.bools.length+(zdL l s).1.outs<=(zdL l s).1.slots/\(zdL l s).1.slots<=255/\(zdL l s).1.cells.length<=255:=by
 unfold zdL at *;simp only at *;have h1:=zvJ l _ _ h;have h2:=zwk l 61 _ h1;have h3:=(zhR _ _ h2).2;have h4:=zh5 h1;refine⟨of_decide_eq_true h3,?_,?_⟩
 . have:=zcI l (zG l (zbb l (zG l s).1 (zG l s).2).2).2 hl;omega
 rw[zvA];omega
theorem zxs {b:Xn}(hb:∀x∈b,x<256)(hl:b.length<=1048576)(h:cdM b=some c):zlx c/\zd9 c.slots c.cells.length 0 c.row=some 0:=by
 unfold cdM at h;simp only at h;split at h
 . rename_i hr
   have hc:=Option.some.inj h;have h0:(ziO b ⟨0,none⟩).at'<=b.length:=zwR b _ (zMN _);have hle:(zdL b (ziO b ⟨0,none⟩)).2.at'<=b.length:=zwZ b _ h0;have hh:=zwX b (ziO b ⟨0,none⟩) hb;generalize zdL b (ziO b ⟨0,none⟩)=H at *
   obtain⟨hk,hg⟩:=zvN b H.1.slots H.1.cells.length (b.length+2) ⟨H.2,0,0,[]⟩
    ⟨⟨(by decide:(-3:Int)<=0),(by decide:(0:Int)<=((0:Nat):Int)),λ_=>(by decide:(0:Int)<=0),zMK 0⟩,hle,λ_=>rfl,λ_=>zMN _⟩ (by unfold zjl;split <;> omega) hr
   have he0:H.2.er=none:=zxg _ _ _ _ _ hr;obtain⟨R,hR⟩:∃R,zdw b H.1.slots H.1.cells.length (b.length+2) ⟨H.2,0,0,[]⟩=R:=⟨_,rfl⟩;rw[hR] at hr hk hg hc;have hd:R.dp=0:=(by have h1:=hk.i.ok hr;unfold goW at hg;simp[hr] at hg;omega);have hrow:=hk.few hr;have hmx:=hk.i.mx;have hat:=hk.le;have hfit:=hk.fit hr;rw[hd] at hfit;obtain⟨k1,k2,k3⟩:=hh he0;subst hc;refine⟨⟨k1,k2,k3,?_,?_⟩,hfit⟩
   . show R.mx<=3145728;omega
   show R.row.length<=1048576;omega
 cases h
theorem zwn {l:Xn}(hl:∀x∈l,x<256)(h:zcR l=some c):zlx c/\zd9 c.slots c.cells.length 0 c.row=some 0:=by
 unfold zcR at h;obtain⟨b,h1,h2⟩:=Option.bind_eq_some_iff.1 h;unfold zdN at h1;split at h1
 . cases h1
 rename_i h3
 split at h1
 . have e:=Option.some.inj h1;have hb:∀x∈b,x<256:=λx hx=>hl x (List.mem_of_mem_take (e▸hx));have hlb:b.length<=1048576:=by rw[<- e,List.length_take];omega
   exact zxs hb hlb h2
 cases h1
end
section
open Go.RowKit
theorem zTn (pre:Xn)(x:Nat)(zHu:Xn)(p:Nat)(hp:p=pre.length):zG (pre++x::zHu) ⟨p,none⟩=(x,⟨p+1,none⟩):=by subst hp;unfold zG;rw[zM2 rfl,zM1 (by simp)];simp[List.getD_eq_getElem?_getD]
theorem zTU:∀(xs pre zHu:Xn) (p n:Nat),p=pre.length->n=xs.length->zc2 (pre++xs++zHu) n ⟨p,none⟩=(xs,⟨p+xs.length,none⟩)
 | [],pre,zHu,p,n,hp,hn=>by subst hn;rfl
 | x::xs,pre,zHu,p,n,hp,hn=>by subst hn;rw[zMR,zc2];have hb:zG (pre++(x::xs)++zHu) ⟨p,none⟩=(x,⟨p+1,none⟩):=(by rw[zMQ,List.cons_append];exact zTn pre x (xs++zHu) p hp);have hl:pre++(x::xs)++zHu=(pre++[x])++xs++zHu:=(by simp);have ih:=zTU xs (pre++[x]) zHu (p+1) xs.length (by rw[hp];simp) rfl;rw[hb];simp only;rw[hl,ih];simp only[Prod.mk.injEq,true_and];congr 1;omega
theorem zU1 (v:Int)(M:Nat):v / ((256*M:Nat):Int)=v / 256 / (M:Int):=by rw[Int.natCast_mul];exact (Int.ediv_ediv_of_nonneg (show (0:Int)<=256 by decide)).symm
theorem zTk (v:Int)(i:Nat):byt v (i+1)=byt (v / 256) i:=by
 unfold byt;have e:2 ^ (8*(i+1))=256*2 ^ (8*i):=by rw[show 8*(i+1)=8+8*i by omega,Nat.pow_add]
 rw[e,zU1]
theorem zUQ (v:Int)(M:Nat)(hM:0<M):v % 256+256*(v / 256 % (M:Int))=v % ((M*256:Nat):Int):=by
 have h1:=Int.mul_ediv_add_emod v 256;have h2:=Int.mul_ediv_add_emod (v / 256) (M:Int);have h3:=Int.emod_nonneg v (show (256:Int)≠0 by decide);have h4:=Int.emod_lt_of_pos v (show (0:Int)<256 by decide);have hM':(0:Int)<(M:Int):=by omega
 have h5:=Int.emod_nonneg (v / 256) (show (M:Int)≠0 by omega);have h6:=Int.emod_lt_of_pos (v / 256) hM';have e:v=(v % 256+256*(v / 256 % (M:Int)))+((M*256:Nat):Int)*(v / 256 / (M:Int)):=by
  rw[Int.natCast_mul];have:(M:Int)*((256:Nat):Int)*(v / 256 / (M:Int))=256*((M:Int)*(v / 256 / (M:Int))):=by rw[Int.mul_comm (M:Int),Int.mul_assoc];rfl
  rw[this];omega
 have h7:v % ((M*256:Nat):Int)=(v % 256+256*(v / 256 % (M:Int))) % ((M*256:Nat):Int):=by
  conv=>lhs;rw[e]
  rw[Int.add_mul_emod_self_left]
 rw[h7];exact (Int.emod_eq_of_lt (by omega) (by rw[Int.natCast_mul];omega)).symm
def zUa:Nat->Int->List Nat
 | 0,_=>[]
 | n+1,v=>byt v 0::zUa n (v / 256)
theorem zUz (v:Int):zct v=zUa 8 v:=by unfold zct;simp only[zUa];rw[zTk v 0,zTk v 1,zTk v 2,zTk v 3,zTk v 4,zTk v 5,zTk v 6];rw[zTk _ 0,zTk _ 1,zTk _ 2,zTk _ 3,zTk _ 4,zTk _ 5];rw[zTk _ 0,zTk _ 1,zTk _ 2,zTk _ 3,zTk _ 4];rw[zTk _ 0,zTk _ 1,zTk _ 2,zTk _ 3];rw[zTk _ 0,zTk _ 1,zTk _ 2];rw[zTk _ 0,zTk _ 1];rw[zTk _ 0]
theorem zT8:∀(n:Nat) (v:Int),((ze2 (zUa n v):Nat):Int)=v % (256 ^ n:Nat)
 | 0,v=>by show (0:Int)=v % 1;omega
 | n+1,v=>by
   have ih:=zT8 n (v / 256);have hb:((byt v 0:Nat):Int)=v % 256:=by unfold byt;have:((2 ^ (8*0):Nat):Int)=1:=rfl;rw[this];omega
   show ((byt v 0+256*ze2 (zUa n (v / 256)):Nat):Int)=_;rw[Int.natCast_add,Int.natCast_mul,hb,ih,Nat.pow_succ];exact zUQ v (256 ^ n) (by first|exact Nat.pow_pos (by decide)|exact Nat.pos_pow_of_pos _ (by decide))
theorem zUu (v:Int)(h:-9223372036854775808<=v/\v<=9223372036854775807):wrap64 ((ze2 (zct v):Nat):Int)=v:=by rw[zUz,zT8 8 v];have:((256 ^ 8:Nat):Int)=18446744073709551616:=rfl;rw[this];unfold wrap64;omega
theorem zTM (pre zHu:Xn)(v:Int)(p:Nat)(hp:p=pre.length)(h:-9223372036854775808<=v/\v<=9223372036854775807):zcK (pre++zct v++zHu) ⟨p,none⟩=(v,⟨p+8,none⟩):=by unfold zcK;rw[zTU (zct v) pre zHu p 8 hp rfl];simp only;rw[zUu v h];rfl
theorem zTp (s:Ir):zbU true s=s:=rfl
theorem zTq (pre zHu:Xn)(x bd p:Nat)(hp:p=pre.length)(h:x<bd):zad (pre++x::zHu) bd ⟨p,none⟩=(x,⟨p+1,none⟩):=by unfold zad;rw[zTn pre x zHu p hp];simp only;rw[decide_eq_true h];rfl
theorem zTR:∀(bs:Xk) (pre zHu:Xn) (p n:Nat),p=pre.length->n=bs.length->zbb (pre++bs.map zfo++zHu) n ⟨p,none⟩=(bs,⟨p+bs.length,none⟩)
 | [],pre,zHu,p,n,hp,hn=>by subst hn;rfl
 | b::bs,pre,zHu,p,n,hp,hn=>by subst hn;rw[zMR,zbb];have hb:zad (pre++(b::bs).map zfo++zHu) 2 ⟨p,none⟩=(zfo b,⟨p+1,none⟩):=(by rw[List.map_cons,zMQ,List.cons_append];exact zTq pre _ (zfo b) 2 p hp (by cases b <;> decide));have hl:pre++(b::bs).map zfo++zHu=(pre++[zfo b])++bs.map zfo++zHu:=(by simp);have ih:=zTR bs (pre++[zfo b]) zHu (p+1) bs.length (by rw[hp];simp) rfl;rw[hb];simp only;rw[hl,ih];have hf:(zfo b==1)=b:=(by cases b <;> rfl);simp only[hf,Prod.mk.injEq,true_and];congr 1;omega
theorem zT0:∀(cs:List Int) (pre zHu:Xn) (p n:Nat),p=pre.length->n=cs.length->(∀x∈cs,-9223372036854775808<=x/\x<=9223372036854775807)->zcy (pre++cs.flatMap zct++zHu) n ⟨p,none⟩=(cs,⟨p+8*cs.length,none⟩)
 | [],pre,zHu,p,n,hp,hn,_=>by subst hn;rfl
 | c::cs,pre,zHu,p,n,hp,hn,h=>by subst hn;rw[zMR,zcy];have hb:zcK (pre++(c::cs).flatMap zct++zHu) ⟨p,none⟩=(c,⟨p+8,none⟩):=(by rw[List.flatMap_cons,<- zMQ,zMQ];exact zTM pre _ c p hp (h c (zMS ..)));have hl:pre++(c::cs).flatMap zct++zHu=(pre++zct c)++cs.flatMap zct++zHu:=(by rw[List.flatMap_cons,<- zMQ]);have ih:=zT0 cs (pre++zct c) zHu (p+8) cs.length (by rw[hp,zMM];rfl) rfl (λx hx=>h x (zMX _ hx));rw[hb];simp only;rw[hl,ih];simp only[Prod.mk.injEq,true_and];congr 1;omega
def zUn (ns nc:Nat)(i:Nat×Int):Prop:=∃sh,zY[i.1]?=some sh/\(sh.1=0->i.2=0)/\(sh.1=1->-9223372036854775808<=i.2/\i.2<=9223372036854775807)/\(sh.1=2->0<=i.2/\i.2.toNat<ns)/\(sh.1=3->0<=i.2/\i.2.toNat<nc)
theorem zTS {x:Int}{n:Nat}(h:0<=x)(h1:x.toNat<n)(h2:n<=256):byt x 0=x.toNat:=by unfold byt;have:((2 ^ (8*0):Nat):Int)=1:=rfl;rw[this];omega
theorem zU3 (ns nc:Nat)(hns:ns<=256)(hnc:nc<=256)(pre zHu:Xn)(i:Nat×Int)(p:Nat)(hp:p=pre.length)(h:zUn ns nc i):zcV (pre++zeF i++zHu) ns nc ⟨p,none⟩=(i,⟨p+(zeF i).length,none⟩):=by
 obtain⟨sh,hsh,k0,k1,k2,k3⟩:=h;obtain⟨op,x⟩:=i;have e:zY.getD op (0,0,0)=sh:=by rw[List.getD_eq_getElem?_getD,hsh];rfl
 have hop:op<21:=by have:=(zMJ.1 hsh).1;exact this
 unfold zeF;simp only[e];rw[zMQ,List.cons_append];have hb:=zTq pre (zeX sh.1 x++zHu) op 21 p hp hop;unfold zcV;rw[hb];simp only[e,if_true];have hl:pre++op::(zeX sh.1 x++zHu)=(pre++[op])++zeX sh.1 x++zHu:=by simp
 have hp1:p+1=(pre++[op]).length:=by rw[hp];simp
 rcases zjQ _ _ hsh with c|c|c|c
 . rw[zM1 (by omega),zM1 (by omega),zM1 (by omega)];have:=k0 c;simp only at this;subst this;simp[zeX,c]
 . rw[zM2 c,hl];have hx:=k1 c;simp only at hx;have ho:zeX sh.1 x=zct x:=by unfold zeX;rw[zM2 c]
   rw[ho,zTM (pre++[op]) zHu x (p+1) hp1 hx];simp only[Prod.mk.injEq,true_and,zMR];rfl
 . rw[zM1 (by omega),zM2 c,hl];obtain⟨q0,q1⟩:=k2 c;simp only at q0 q1;have ho:zeX sh.1 x=[byt x 0]:=by unfold zeX;rw[zM1 (by omega),zM1 (by omega)]
   rw[ho,zTS q0 q1 hns];have:=zTq (pre++[op]) zHu x.toNat ns (p+1) hp1 q1;rw[zMQ (pre++[op]),List.singleton_append,this];simp only[Prod.mk.injEq,zMR,zNb,true_and];exact⟨by omega,by first|trivial|rfl|(congr 1 <;> first|trivial|omega)⟩
 rw[zM1 (by omega),zM1 (by omega),zM2 c,hl];obtain⟨q0,q1⟩:=k3 c;simp only at q0 q1;have ho:zeX sh.1 x=[byt x 0]:=by unfold zeX;rw[zM1 (by omega),zM1 (by omega)]
 rw[ho,zTS q0 q1 hnc];have:=zTq (pre++[op]) zHu x.toNat nc (p+1) hp1 q1;rw[zMQ (pre++[op]),List.singleton_append,this];simp only[Prod.mk.injEq,zMR,zNb,true_and];exact⟨by omega,by first|trivial|rfl|(congr 1 <;> first|trivial|omega)⟩
def hiR:Nat->Nat->List (Nat×Int)->Nat
 | _,mx,[]=>mx
 | h,mx,i::r=>hiR (h-(zY.getD i.1 (0,0,0)).2.1+(zY.getD i.1 (0,0,0)).2.2) (max mx (h-(zY.getD i.1 (0,0,0)).2.1+(zY.getD i.1 (0,0,0)).2.2)) r
theorem zUg (ns nc:Nat)(hns:ns<=256)(hnc:nc<=256):∀(r:List (Nat×Int)) (pre:Xn) (p h mx f:Nat) (done:List (Nat×Int)),p=pre.length->(∀i∈r,zUn ns nc i)->zd9 ns nc h r=some 0->r.length<f ->
 zdw (pre++r.flatMap zeF) ns nc f ⟨⟨p,none⟩,h,mx,done⟩=⟨⟨(pre++r.flatMap zeF).length,none⟩,0,hiR h mx r,done++r⟩
 | [],pre,p,h,mx,f,done,hp,_,hf,_=>by
   cases hf;rw[zih]
   . simp[hp,hiR]
   unfold goW;simp[hp]
 | i::r,pre,p,h,mx,f,done,hp,hi,hf,hlt=>by
   obtain⟨f,rfl⟩:∃g,f=g+1:=⟨f-1,by simp at hlt;omega⟩;have hin:=hi i (zMS ..);obtain⟨sh,hsh,_⟩:=hin;have e:zY.getD i.1 (0,0,0)=sh:=(by rw[List.getD_eq_getElem?_getD,hsh];rfl);have hf':(match zgT ns nc h i with|none=>none|some h'=>zd9 ns nc h' r)=some 0:=hf;have hfi:zgT ns nc h i=some (h-sh.2.1+sh.2.2)/\sh.2.1<=h:=by
    unfold zgT at hf' ⊢;rw[hsh] at hf' ⊢;simp only at hf' ⊢;split at hf'
    . cases hf'
    rename_i hh
    split at hh
    . rename_i hc;rw[zM2 hc];exact⟨rfl,hc.1⟩
    cases hh
   rw[hfi.1] at hf';have hl:pre++(i::r).flatMap zeF=(pre++zeF i)++r.flatMap zeF:=(by rw[List.flatMap_cons,zMQ]);have hgo:goW (pre++(i::r).flatMap zeF) ⟨⟨p,none⟩,h,mx,done⟩=true:=(by unfold goW;refine decide_eq_true ⟨rfl,zM3 ?_⟩;rw[hp,hl];unfold zeF;simp);rw[zdw,zM2 hgo];have hst:zc3 (pre++(i::r).flatMap zeF) ns nc ⟨⟨p,none⟩,h,mx,done⟩=⟨⟨p+(zeF i).length,none⟩,(h-sh.2.1+sh.2.2:Nat),max mx (h-sh.2.1+sh.2.2),done++[i]⟩:=by
    unfold zc3;rw[hl,zU3 ns nc hns hnc pre (r.flatMap zeF) i p hp (hi i (zMS ..))];simp only[e];have h2:=hfi.2;rw[decide_eq_true (by omega),zTp];congr 1
    . omega
    congr 1;omega
   rw[hst,hl];have ih:=zUg ns nc hns hnc r (pre++zeF i) (p+(zeF i).length) (h-sh.2.1+sh.2.2) (max mx (h-sh.2.1+sh.2.2)) f (done++[i]) (by rw[hp,zMM]) (λj hj=>hi j (zMX _ hj)) hf' (by simp at hlt;omega);rw[ih];congr 1
   . show hiR _ _ r=hiR h mx (i::r);rw[hiR,e]
   simp
structure zT5 (K:Cd):Prop where
 outs:K.bools.length+K.outs<=K.slots
 slots:K.slots<=255
 few:K.cells.length<=60
 nums:∀x∈K.cells,-9223372036854775808<=x/\x<=9223372036854775807
 row:∀i∈K.row,zUn K.slots K.cells.length i
 fit:zd9 K.slots K.cells.length 0 K.row=some 0
 len:(zcx K).length+8<=1048576
theorem zU0 (t:Xn):ziO ([99,100,110,50]++t) ⟨0,none⟩=⟨4,none⟩:=by unfold ziO;simp only[List.foldl];have e0:=zTn [] 99 ([100,110,50]++t) 0 rfl;have e1:=zTn [99] 100 ([110,50]++t) 1 rfl;have e2:=zTn [99,100] 110 ([50]++t) 2 rfl;have e3:=zTn [99,100,110] 50 t 3 rfl;simp only[List.nil_append,List.cons_append] at e0 e1 e2 e3 ⊢;rw[e0];simp only[beq_self_eq_true,zTp];rw[e1];simp only[beq_self_eq_true,zTp];rw[e2];simp only[beq_self_eq_true,zTp];rw[e3];simp only[beq_self_eq_true,zTp]
theorem zUX (K:Cd)(h:zT5 K)(zHu:Xn):zdL (zhg K++zHu) ⟨4,none⟩=(⟨K.bools,K.outs,K.slots,K.cells,0,[]⟩,⟨(zhg K).length,none⟩):=by
 have h1:=h.outs;have h2:=h.slots;have h3:=h.few;have m1:K.bools.length % 256=K.bools.length:=Nat.mod_eq_of_lt (by omega);have m2:K.outs % 256=K.outs:=Nat.mod_eq_of_lt (by omega);have m3:K.slots % 256=K.slots:=Nat.mod_eq_of_lt (by omega);have m4:K.cells.length % 256=K.cells.length:=Nat.mod_eq_of_lt (by omega);have eb:zhg K++zHu=[99,100,110,50]++K.bools.length::(K.bools.map zfo++(K.outs::K.slots::K.cells.length::(K.cells.flatMap zct++zHu))):=by unfold zhg zfl zgr;rw[m1,m2,m3,m4];simp
 have lb:(zhg K).length=5+K.bools.length+3+8*K.cells.length:=by unfold zhg zfl zgr;rw[zMM,zMM,zMM,zUs,List.length_map];simp
 rw[eb];unfold zdL;have s1:=zTn [99,100,110,50] K.bools.length (K.bools.map zfo++(K.outs::K.slots::K.cells.length::(K.cells.flatMap zct++zHu))) 4 rfl;rw[s1];simp only;have a2:[99,100,110,50]++K.bools.length::(K.bools.map zfo++(K.outs::K.slots::K.cells.length::(K.cells.flatMap zct++zHu)))=[99,100,110,50,K.bools.length]++K.bools.map zfo++(K.outs::K.slots::K.cells.length::(K.cells.flatMap zct++zHu)):=by simp
 rw[a2];have s2:=zTR K.bools [99,100,110,50,K.bools.length] (K.outs::K.slots::K.cells.length::(K.cells.flatMap zct++zHu)) 5 K.bools.length rfl rfl;rw[s2];simp only;have s3:=zTn ([99,100,110,50,K.bools.length]++K.bools.map zfo) K.outs (K.slots::K.cells.length::(K.cells.flatMap zct++zHu)) (5+K.bools.length) (by simp;omega);rw[s3];simp only;have a4:[99,100,110,50,K.bools.length]++K.bools.map zfo++(K.outs::K.slots::K.cells.length::(K.cells.flatMap zct++zHu))=([99,100,110,50,K.bools.length]++K.bools.map zfo++[K.outs])++K.slots::K.cells.length::(K.cells.flatMap zct++zHu):=by simp
 have s4:=zTn ([99,100,110,50,K.bools.length]++K.bools.map zfo++[K.outs]) K.slots (K.cells.length::(K.cells.flatMap zct++zHu)) (5+K.bools.length+1) (by simp;omega);rw[a4,s4];simp only;rw[decide_eq_true h1,zTp];have a5:([99,100,110,50,K.bools.length]++K.bools.map zfo++[K.outs])++K.slots::K.cells.length::(K.cells.flatMap zct++zHu)=([99,100,110,50,K.bools.length]++K.bools.map zfo++[K.outs,K.slots])++K.cells.length::(K.cells.flatMap zct++zHu):=by simp
 have s5:=zTq ([99,100,110,50,K.bools.length]++K.bools.map zfo++[K.outs,K.slots]) (K.cells.flatMap zct++zHu) K.cells.length 61 (5+K.bools.length+1+1) (by simp;omega) (by omega);rw[a5,s5];simp only;have a6:([99,100,110,50,K.bools.length]++K.bools.map zfo++[K.outs,K.slots])++K.cells.length::(K.cells.flatMap zct++zHu)=([99,100,110,50,K.bools.length]++K.bools.map zfo++[K.outs,K.slots,K.cells.length])++K.cells.flatMap zct++zHu:=by simp
 have s6:=zT0 K.cells ([99,100,110,50,K.bools.length]++K.bools.map zfo++[K.outs,K.slots,K.cells.length]) zHu (5+K.bools.length+1+1+1) K.cells.length (by simp;omega) rfl h.nums;rw[a6,s6];simp only[Prod.mk.injEq,true_and];rw[lb]
theorem zU7 (K:Cd)(h:zT5 K):cdM (zcx K)=some { K with depth:=hiR 0 0 K.row }:=by
 have e4:∃t,zcx K=[99,100,110,50]++t:=⟨K.bools.length % 256::(K.bools.map zfo++([K.outs % 256,K.slots % 256,K.cells.length % 256]++(K.cells.flatMap zct++K.row.flatMap zeF))),by unfold zcx zhg zfl zgr;simp⟩;obtain⟨t,et⟩:=e4;have hm:ziO (zcx K) ⟨0,none⟩=⟨4,none⟩:=by rw[et];exact zU0 t
 unfold cdM;rw[hm];have eb:zcx K=zhg K++K.row.flatMap zeF:=rfl;have hlen:=h.len;rw[eb] at hlen ⊢;rw[zUX K h];simp only;have hrl:K.row.length<=(K.row.flatMap zeF).length:=by
  generalize K.row=r;induction r with
  | nil=>exact zMK _
  | cons i r ih=>rw[List.flatMap_cons,zMM,zMR];unfold zeF;simp only[zMR];unfold zeF at ih;omega
 have hr:zdw (zhg K++K.row.flatMap zeF) K.slots K.cells.length ((zhg K++K.row.flatMap zeF).length+2) ⟨⟨(zhg K).length,none⟩,0,0,[]⟩=⟨⟨(zhg K++K.row.flatMap zeF).length,none⟩,0,hiR 0 0 K.row,[]++K.row⟩:=zUg K.slots K.cells.length (by have:=h.slots;omega) (by have:=h.few;omega) K.row (zhg K) (zhg K).length 0 0 _ [] rfl h.row h.fit (by rw[zMM];omega);rw[hr];simp
theorem zUx (b:Xn)(hl:b.length+8<=1048576):zdN (zcw b)=some b:=by
 have hs:-9223372036854775808<=zf5 b/\zf5 b<=9223372036854775807:=by unfold zf5;generalize fnv b=z;unfold wrap64;omega
 obtain⟨y,hy⟩:∃y,zf5 b=y:=⟨_,rfl⟩;rw[hy] at hs;unfold zcw;rw[hy];have e1:(b++zct y).length=b.length+8:=by rw[zMM,zgR]
 have e2:(b++zct y).take b.length=b:=by simp
 have e3:=zTM b [] y b.length rfl hs;rw[List.append_nil] at e3;have e4:(zcK (b++zct y) ⟨b.length,none⟩).1=y:=by rw[e3]
 unfold zdN;rw[e1,zM1 (by omega),Nat.add_sub_cancel,e2,e4,hy,zM2 rfl]
theorem zUo (K:Cd)(h:zT5 K):zcR (zcw (zcx K))=some { K with depth:=hiR 0 0 K.row }:=by unfold zcR;rw[zUx (zcx K) h.len,Option.bind_some];exact zU7 K h
end
section
variable {x:Int} {op:Nat}
def zTl (R:List (Nat×Int)):Nat:=(R.flatMap zeF).length
theorem zTm (a b:List (Nat×Int)):zTl (a++b)=zTl a+zTl b:=by unfold zTl;rw[List.flatMap_append,zMM]
structure Pc (S N h h':Nat) (R:List (Nat×Int)):Prop where
 fit:zd9 S N h R=some h'
 ok:∀i∈R,zUn S N i
theorem zUh {S N:Nat}:∀{R R':List (Nat×Int)} {h h1 h2:Nat},zd9 S N h R=some h1->zd9 S N h1 R'=some h2->zd9 S N h (R++R')=some h2
 | [],R',h,h1,h2,e1,e2=>by cases e1;exact e2
 | i::l,R',h,h1,h2,e1,e2=>by
   rw[zd9] at e1;rw[List.cons_append,zd9];cases e:zgT S N h i with
   | none=>rw[e] at e1;cases e1
   | some h3=>rw[e] at e1;exact zUh e1 e2
section
variable {S N h h1 h2:Nat} {R R':List (Nat×Int)}
theorem Pc.nil:Pc S N h h []:=⟨rfl,λi hi=>by cases hi⟩
theorem Pc.app (a:Pc S N h h1 R)(b:Pc S N h1 h2 R'):Pc S N h h2 (R++R') :=
 ⟨zUh a.fit b.fit,λi hi=>(zMY.1 hi).elim (a.ok i) (b.ok i)⟩
theorem Pc.one {sh:Nat×Nat×Nat}(hs:zY[op]?=some sh)(ht:sh.2.1<=h)(hh:h-sh.2.1+sh.2.2=h1)(h0:sh.1=0->x=0)(hc:sh.1=1->-9223372036854775808<=x/\x<=9223372036854775807)(h2':sh.1=2->0<=x/\x.toNat<S)(h3:sh.1=3->0<=x/\x.toNat<N):Pc S N h h1 [(op,x)]:=by
 refine⟨?_,λi hi=>?_⟩
 . rw[zd9,zgT,hs];simp only;rw[zM2 ⟨ht,h2',h3⟩,hh];rfl
 rw[zMZ.1 hi];exact⟨sh,hs,h0,hc,h2',h3⟩
theorem Pc.push (hx:-9223372036854775808<=x/\x<=9223372036854775807):Pc S N h (h+1) [(0,x)]:=Pc.one (sh:=(1,0,1)) rfl (zMN _) rfl (λe=>by cases e) (λ_=>hx) (λe=>by cases e) (λe=>by cases e)
theorem Pc.load {n:Nat}(hn:n<S):Pc S N h (h+1) [(1,(n:Int))]:=Pc.one (sh:=(2,0,1)) rfl (zMN _) rfl (λe=>by cases e) (λe=>by cases e) (λ_=>⟨by omega,by simpa using hn⟩) (λe=>by cases e)
theorem Pc.store {n:Nat}(hn:n<S):Pc S N (h+1) h [(2,(n:Int))]:=Pc.one (sh:=(2,1,0)) rfl (by simp) rfl (λe=>by cases e) (λe=>by cases e) (λ_=>⟨by omega,by simpa using hn⟩) (λe=>by cases e)
theorem Pc.recall {n:Nat}(hn:n<N):Pc S N h (h+1) [(3,(n:Int))]:=Pc.one (sh:=(3,0,1)) rfl (zMN _) rfl (λe=>by cases e) (λe=>by cases e) (λe=>by cases e) (λ_=>⟨by omega,by simpa using hn⟩)
theorem Pc.keep {n:Nat}(hn:n<N):Pc S N (h+2) h [(4,(n:Int))]:=Pc.one (sh:=(3,2,0)) rfl (by simp) rfl (λe=>by cases e) (λe=>by cases e) (λe=>by cases e) (λ_=>⟨by omega,by simpa using hn⟩)
theorem Pc.choose {n:Nat}(hn:n<S):Pc S N (h+2) (h+1) [(6,(n:Int))]:=Pc.one (sh:=(2,2,1)) rfl (by simp) rfl (λe=>by cases e) (λe=>by cases e) (λ_=>⟨by omega,by simpa using hn⟩) (λe=>by cases e)
theorem Pc.oper {a:Nat}(hs:zY[op]?=some (0,a,1)):Pc S N (h+a) (h+1) [(op,0)]:=Pc.one hs (by simp) (by simp) (λ_=>rfl) (λe=>by cases e) (λe=>by cases e) (λe=>by cases e)
end
theorem zUY:((List.range 24).all λk=>decide (k<10∨(zY[k-3]?=some (0,if k<=11 then 1 else 2,1))))=true:=by decide +kernel
theorem zVf {k:Nat}(h:10<=k)(h2:k<24):zY[zlY k]?=some (0,if k<=11 then 1 else 2,1):=by
 have:=List.all_eq_true.1 zUY k (List.mem_range.2 h2);simp only[decide_eq_true_eq] at this;unfold zlY;rw[zM1 (by omega)];rcases this with e|e
 . omega
 exact e
theorem zTo (op:Nat)(x:Int)(h:op≠0):zTl [(op,x)]<=2:=by
 have:∀op,op≠0->(zY.getD op (0,0,0)).1≠1:=by
  intro op h
  match op,h with
  | 1,_=>decide
  | 2,_=>decide
  | 3,_=>decide
  | 4,_=>decide
  | 5,_=>decide
  | 6,_=>decide
  | n+7,_ =>
    by_cases hn:n<14
    . have:∀n,n<14->(zY.getD (n+7) (0,0,0)).1≠1:=by decide
      exact this n hn
    rw[List.getD_eq_getElem?_getD,List.getElem?_eq_none (by simp[zY];omega)];decide
 unfold zTl zeF;simp only[List.flatMap_cons,List.flatMap_nil,List.append_nil,zMR];unfold zeX;rw[zM1 (this op h)];split <;> simp
theorem zTI (op:Nat)(x:Int):zTl [(op,x)]<=9:=by unfold zTl zeF;simp only[List.flatMap_cons,List.flatMap_nil,List.append_nil,zMR];have:=znS (zY.getD op (0,0,0)).1 x;omega
def I64 (x:Int):Prop:=-9223372036854775808<=x/\x<=9223372036854775807
structure Ly (K K':Cd) (lo hi a b w n:Nat):Prop where
 ex:∃R C,K'.row=K.row++R/\K'.cells=K.cells++C/\(∀x∈C,I64 x)/\C.length<=n/\zTl R<=w/\∀S N h,lo<=S->K'.slots<=S->K'.cells.length<=N->Pc S N (h+a) (h+b) R
 bools:K'.bools=K.bools
 outs:K'.outs=K.outs
 s1:K.slots<=K'.slots
 s2:K'.slots<=max K.slots hi
section
variable {K K1 K2:Cd} {lo hi a b d w n w1 n1:Nat}
theorem Ly.cl (h:Ly K K1 lo hi a b w n):K.cells.length<=K1.cells.length:=by obtain⟨R,C,_,e,_⟩:=h.ex;rw[e,zMM];omega
theorem Ly.refl:Ly K K lo hi a a 0 0:=⟨⟨[],[],by simp,by simp,(λx hx=>by cases hx),zMK _,zMK _,λS N h _ _ _=>Pc.nil⟩,rfl,rfl,zMK _,by omega⟩
theorem Ly.trans (h:Ly K K1 lo hi a b w n)(h':Ly K1 K2 lo hi b d w1 n1):Ly K K2 lo hi a d (w+w1) (n+n1):=by
 have hc:=h'.cl;obtain⟨R,C,e1,e2,e3,e4,e5,e6⟩:=h.ex;obtain⟨R',C',f1,f2,f3,f4,f5,f6⟩:=h'.ex;refine⟨⟨R++R',C++C',by rw[f1,e1,zMQ],by rw[f2,e2,zMQ],λx hx=>(zMY.1 hx).elim (e3 x) (f3 x),by rw[zMM];omega,by rw[zTm];omega,λS N x h1 h2 h3=>?_⟩,h'.bools.trans h.bools,h'.outs.trans h.outs,zMO h.s1 h'.s1,?_⟩
 . exact (e6 S N x h1 (zMO h'.s1 h2) (zMO hc h3)).app (f6 S N x h1 h2 h3)
 have:=h.s2;have:=h'.s2;omega
theorem Ly.up (h:Ly K K1 lo hi a b w n)(m:Nat):Ly K K1 lo hi (m+a) (m+b) w n:=by obtain⟨R,C,e1,e2,e3,e4,e5,e6⟩:=h.ex;exact⟨⟨R,C,e1,e2,e3,e4,e5,λS N x h1 h2 h3=>by have:=e6 S N (x+m) h1 h2 h3;rwa [Nat.add_assoc,Nat.add_assoc] at this⟩,h.bools,h.outs,h.s1,h.s2⟩
theorem Ly.mono {lo' hi' w' n':Nat}(h:Ly K K1 lo hi a b w n)(h1:lo<=lo')(h2:hi<=hi')(h3:w<=w')(h4:n<=n'):Ly K K1 lo' hi' a b w' n':=by obtain⟨R,C,e1,e2,e3,e4,e5,e6⟩:=h.ex;exact⟨⟨R,C,e1,e2,e3,by omega,by omega,λS N x g1 g2 g3=>e6 S N x (by omega) g2 g3⟩,h.bools,h.outs,h.s1,by have:=h.s2;omega⟩
theorem Ly.adds {R:List (Nat×Int)}(hw:zTl R<=w)(h:∀S N x,lo<=S->K.cells.length<=N->Pc S N (x+a) (x+b) R):Ly K (K.adds R) lo hi a b w 0 :=
 ⟨⟨R,[],rfl,by show K.cells=_;simp,(λx hx=>by cases hx),zMK _,hw,λS N x h1 _ h3=>h S N x h1 h3⟩,rfl,rfl,zMK _,by show K.slots<=_;omega⟩
end
end
section
mutual
def nmB:Tm->Bool
 | .mk _ _ _ _ n ts=>decide (n<=9223372036854775807)&&nmL ts
def nmL:List Tm->Bool
 | []=>true
 | t::l=>nmB t&&nmL l
end
theorem zxp {ts:List Tm}(h:nmL ts=true){t:Tm}(ht:t∈ts):nmB t=true:=by
 induction ts with
 | nil=>cases ht
 | cons x l ih =>
   unfold nmL at h;rw[Bool.and_eq_true] at h;rcases zNa.1 ht with rfl|ht
   . exact h.1
   exact ih h.2 ht
end
end Go.Proofs.YtenadialhccdiaaGreatDoor
