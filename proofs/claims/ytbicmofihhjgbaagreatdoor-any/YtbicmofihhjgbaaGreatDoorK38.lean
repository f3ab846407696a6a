/- Part 39 of the proof: RunJ UpJ FixB GlA GlB GlC. -/
import Derived.Test.YtbicmofihhjgbaaGreatDoorK37
set_option maxRecDepth 100000
set_option maxHeartbeats 8000000
namespace Go.Proofs.YtbicmofihhjgbaaGreatDoor
open Go.Proofs.Tryz
open Go.RowKit
section
variable {c:Cd} {cells l slots:List Int} {R:Ms} {N b1 b2 cb cp k mb:Nat} {i:Nat×Int} {a:Option Addr} {bv cv rv sv sv':Value} {w w' wr:World}
attribute [local go_sem ↓] Go.wp_at_zero Go.wp_at_succ
def zvG:ByteArray:=⟨#[115,116,101,112]⟩
theorem zvZ (S:Nat->Addr)(N mb cb:Nat)(c1 c2 c3 bv cv rv:Value)(c:Cd)(w:World)(v:Value)(g:Nat)(l:List Int)(hG:Gl S w)(hb:xH w mb #[xP cb,c1,c2,c3] 138)(h:CB w N cb bv cv rv c)(hl:Nm w v g l)(hr:(zdE c.bools l).isSome=true) :
 xK 33 #[xP mb,v] w (λe w'=>∃p:Int,e=.returned (.tuple #[.slice none 0 0,zeQ zvG (.iface 71 (.agg #[sen S 11,xI p]))])/\xB w w'):=by
 have HR:=zkX S N mb cb c1 c2 c3 bv cv rv c w v g l hG hb h hl;rw[hr] at HR;go_enter func33,ntmps33;go_wp2_with (first|(go_at_call 58;refine HR.mono ?_;rintro e w1 ⟨⟨p,rfl⟩,HB⟩)|(go_at_call 41;refine (zdo _ _ _ _).mono ?_;rintro e w3 ⟨rfl,rfl⟩));exact bodyPost_ret (v:=.tuple #[.slice none 0 0,zeQ zvG (.iface 71 (.agg #[sen S 11,xI p]))]) (by simp[results,results33,go_sem,zvG]) rfl ⟨p,rfl,HB⟩
theorem ziz (S:Nat->Addr)(N mb cb:Nat)(c1 c2 c3 bv cv rv:Value)(c:Cd)(w:World)(v:Value)(g:Nat)(l:List Int)(hG:Gl S w)(hb:xH w mb #[xP cb,c1,c2,c3] 138)(h:CB w N cb bv cv rv c)(hl:Nm w v g l)(hr:zdE c.bools l=none) :
 xK 58 #[xP mb,v] w (λe w'=>e=.returned .nilIface/\xB w w'):=by
 refine (zkX S N mb cb c1 c2 c3 bv cv rv c w v g l hG hb h hl).mono ?_;rintro e w' ⟨h1,h2⟩;refine⟨?_,h2⟩;rw[hr] at h1;unfold zhk at h1;simpa using h1
theorem Tryz.zeroI64 (w:World):(zeroValue 2).run prog w=.ok (xI 0) w:=by kernel_rfl
theorem zmq (hls:slots.length=c.slots):zK l++(List.replicate slots.length (xI 0)).drop (zK l).length=zK (zdY c.slots l):=by unfold zdY zK;rw[List.map_append,hls];simp[List.drop_replicate]
theorem zq7 {ns nc:Nat}:∀(l:List (Nat×Int)) (h h' k:Nat) (i:Nat×Int),zd9 ns nc h l=some h'->l[k]?=some i->∃h1 h2,zd9 ns nc h (l.take k)=some h1/\zgT ns nc h1 i=some h2/\h1<=h+k:=by
 intro l;induction l with
 | nil=>intro h h' k i _ hk;simp at hk
 | cons a l ih =>
   intro h h' k i hf hk;unfold zd9 at hf;split at hf
   . cases hf
   . rename_i h1 hf1
     cases k with
     | zero => simp at hk;subst hk;exact⟨h,h1,rfl,hf1,by omega⟩
     | succ k =>
       simp at hk;obtain⟨a1,a2,e1,e2,e3⟩:=ih h1 h' k i hf hk;refine⟨a1,a2,?_,e2,?_⟩
       . rw[List.take_succ_cons];unfold zd9;rw[hf1];exact e1
       . have:h1<=h+1:=by
          unfold zgT at hf1;split at hf1
          . cases hf1
          . rename_i s hs
            split at hf1
            . cases hf1;have:s.2.2<=1:=by have h20:=zeB hs;have hm:s∈zY:=List.mem_of_getElem? hs;have:∀t∈zY,t.2.2<=1:=(by decide);exact this s hm
              omega
            . cases hf1
         omega
theorem zn4 {m:Ms}{l:List (Nat×Int)}(hk:l[k]?=some i):zea m (l.take (k+1))=doM (zea m (l.take k)) i:=by obtain⟨h1,h2⟩:=List.getElem?_eq_some_iff.1 hk;rw[List.take_succ_eq_append_getElem h1,h2];unfold zea;rw[List.foldl_append];rfl
theorem MFr.ofFr {T:Nat->Prop}(h:Fr T w w')(hT:∀k,T k->k=mb∨k=b1∨k=b2):MFr mb b1 b2 w sv w' sv :=
 ⟨h.mono (λk _ e=>by rcases hT k e with e|e|e;exact Or.inl e;exact Or.inr (Or.inl e);exact Or.inr (Or.inr (Or.inl e))),λ_ e=>Or.inl e⟩
theorem MFr.alloc (h:MFr mb b1 b2 w sv w' sv')(o:Obj):MFr mb b1 b2 w sv (w'.alloc o) sv':=⟨h.fr.alloc o,h.new⟩
theorem MFr.old (h:MFr mb b1 b2 w sv w' sv')(hN:N<=w.heap.size)(l0:N<=mb)(l1:N<=b1)(l2:N<=b2)(ls:∀k,sv.ownBlock=some k->N<=k):Old N w w' :=
 h.fr.old hN (λk e=>by rcases e with e|e|e|e;omega;omega;omega;exact ls k e)
theorem zmo {B n:Nat}{e:TypeId}{l:List (Nat×Int)}(h:w.ownsRow B e 2 (.slice a n cp) n (zbs l))(hk:l[k]?=some i):∃g,a=some (xD g 0)/\xC w g (k*2) (.int .u8 i.1)/\xC w g (k*2+1) (xI i.2):=by
 have hl:l.length=n:=by have:=h.1;rw[zgC] at this;omega
 have hk':=(List.getElem?_eq_some_iff.1 hk).1;obtain⟨g,cap,hv,_⟩:=zM h (by omega);cases hv;obtain⟨e1,e2⟩:=zkl l k i hk;have h1:=h.cells (g:=g) rfl _ _ e1;have h2:=h.cells (g:=g) rfl _ _ e2;have e0:∀j,((xD g 0):Addr).add j=⟨g,j,none⟩:=λj=>by cases j <;> simp[Addr.add]
 rw[e0] at h1 h2;exact⟨g,rfl,h1,h2⟩
theorem zpD {w1:World}{g:Nat}(hB:xB w w1)(h:Mc w N mb cb b1 b2 bv cv rv sv c cells slots [])(hl:Nm w (.slice a l.length cp) g l)(hg2:l≠[]->g≠b2)(hle:l.length=c.bools.length) :
 ∃w2 w3,(Builtin.clear_ #[32] 0 #[xS b2 slots.length slots.length]).run prog w1=.ok (.tuple #[]) w2 /\
  (Builtin.copy_ #[32,32] 3 #[xS b2 slots.length slots.length,.slice a l.length cp]).run prog w2=.ok (goInt l.length) w3 /\
  w1.cell? (xD mb 2)=some (xS b2 slots.length slots.length)/\w2.cell? (xD mb 2)=some (xS b2 slots.length slots.length) /\
  Mc w3 N mb cb b1 b2 bv cv rv sv c cells (zdY c.slots l) []/\MFr mb b1 b2 w sv w3 sv:=by
 have hz:=h.mem.lt;have hM1:=h.mem.fr (λk hk=>hB.block k hk) hB.size;obtain⟨w2,hclr,hg3,hf2⟩:=ziG (P:=prog) w1 32 2 0 (xI 0) underlying32 Tryz.zeroI64 rfl rfl b2 slots.length (zK slots) 2 hM1.sl;rw[zbS] at hclr hg3;have hM2:=hM1.slots' (slots':=List.replicate slots.length 0) (by simp) (by simpa [zK] using hg3) hf2;have ho:=h.code.outsB;have hls:=h.ls;obtain⟨a',cp',hv,hcp,hmx,hin⟩:=hl.ex;cases hv;have hsrc:0<(zK l).length->∃ad,a=some ad/\∀j v,(zK l)[j]?=some v->w2.cell? (ad.add j)=some v:=by
  intro hp;have hne:l≠[]:=by intro e;subst e;simp[zK] at hp
  obtain⟨o,e1,e2⟩:=hin hne;refine⟨_,e1,λj v hj=>?_⟩;have e0:((xD g o):Addr).add j=⟨g,o+j,none⟩:=by cases j <;> simp[Addr.add]
  rw[e0];unfold zK at hj;rw[List.getElem?_map] at hj;obtain⟨x,hx,rfl⟩:=Option.map_eq_some_iff.1 hj;have h1:=e2 j x hx;have hlt:g<w.heap.size:=World.block_lt_of_cell? w (xD g (o+j)) h1;exact (World.cell?_of_block (w:=w1) (hf2.block g (Nat.lt_of_lt_of_le hlt hB.size) (hg2 hne))).trans ((World.cell?_of_block (w:=w) (hB.block g hlt)).trans h1)
 obtain⟨w3,hcpy,hg4,hf3⟩:=zew (P:=prog) w2 32 32 3 2 b2 slots.length slots.length a l.length cp (List.replicate slots.length (xI 0)) 2 (zK l) underlying32 Tryz.i64size hg3 (by rw[zbS];exact (Nat.min_eq_left (by omega)).symm) hsrc (by rw[zbS];simp;omega) zfs;rw[zbS] at hcpy;rw[zmq hls] at hg4;have hM3:=hM2.slots' (slots':=zdY c.slots l) (by unfold zdY;simp;omega) hg4 hf3;have hF:MFr mb b1 b2 w sv w3 sv:=by have f1:MFr mb b1 b2 w sv w1 sv:=MFr.ofFr (T:=λ_=>False) (Fr.of_below hB) (λ_ e=>e.elim);have f2:MFr mb b1 b2 w1 sv w2 sv:=MFr.ofFr hf2 (λ_ e=>Or.inr (Or.inr e));have f3:MFr mb b1 b2 w2 sv w3 sv:=MFr.ofFr hf3 (λ_ e=>Or.inr (Or.inr e));exact (f1.trans f2).trans f3
 have c2:=(zU hM2.blk).2.2.1;rw[List.length_replicate] at c2;refine⟨w2,w3,hclr,hcpy,(zU hM1.blk).2.2.1,c2,⟨h.code.old (hF.old h.mem.hB h.n0 h.n1 h.n2 (λk e=>(h.mem.own.lt k e).1)),hM3,h.n0,h.n1,h.n2,h.lc,by unfold zdY;simp;omega⟩,hF⟩
theorem zoy (hRs:R.slots.length=c.slots)(ho:c.bools.length+c.outs<=c.slots):(zcX c R).length=c.outs:=by unfold zcX;simp;omega
theorem znG (h:MB wr mb cb b1 b2 N sv R.cells R.slots [])(hRs:R.slots.length=c.slots)(ho:c.bools.length+c.outs<=c.slots)(sp:Option Addr)(sl sc:Nat)(hsp:0<c.outs->sp=some (xD b2 c.bools.length))(hsl:sl=c.slots-c.bools.length) :
 ∃w7,(Builtin.copy_ #[32,32] 3 #[xS wr.heap.size c.outs c.outs,.slice sp sl sc]).run prog (wr.alloc (.cells (zbX c.outs) 2)).drew=.ok (goInt c.outs) w7 /\
  w7.heap[wr.heap.size]?=some (.cells (zK (zcX c R)).toArray 2 (0,0))/\Fr (·=wr.heap.size) (wr.alloc (.cells (zbX c.outs) 2)) w7:=by
 have hl:=zoy hRs ho;have hsrc:0<(zK (zcX c R)).length->∃ad,sp=some ad/\∀j v,(zK (zcX c R))[j]?=some v->(wr.alloc (.cells (zbX c.outs) 2)).drew.cell? (ad.add j)=some v:=by
  intro hp;rw[zbS,hl] at hp;refine⟨_,hsp hp,λj v hj=>?_⟩;have e0:((xD b2 c.bools.length):Addr).add j=⟨b2,c.bools.length+j,none⟩:=by cases j <;> simp[Addr.add]
  rw[e0];unfold zK at hj;rw[List.getElem?_map] at hj;obtain⟨x,hx,rfl⟩:=Option.map_eq_some_iff.1 hj;refine zg (zj _ (zbT h.sl (k:=c.bools.length+j) (v:=x) ?_));unfold zcX at hx;rw[List.getElem?_take] at hx;split at hx
  . rwa [List.getElem?_drop] at hx
  . cases hx
 obtain⟨w7,h1,h2,h3⟩:=zew (P:=prog) (wr.alloc (.cells (zbX c.outs) 2)).drew 32 32 3 2 wr.heap.size c.outs c.outs sp sl sc (zK (List.replicate c.outs 0)) 2 (zK (zcX c R)) underlying32 Tryz.i64size (zc wr _) (by rw[zbS,hl,hsl];exact (Nat.min_eq_right (by omega)).symm) hsrc (by rw[zbS,hl,zbS];simp) zfs;rw[zbS,hl] at h1 h2;rw[List.drop_eq_nil_of_le (by rw[zbS];simp),List.append_nil] at h2;exact⟨w7,h1,h2,h3.undrew⟩
theorem zjF {w3 w7:World}(h:Mc w N mb cb b1 b2 bv cv rv sv c cells slots [])(hF3:MFr mb b1 b2 w sv w3 sv)(hFk:MFr mb b1 b2 w3 sv wr sv')(hM:MB wr mb cb b1 b2 N sv' R.cells R.slots [])(hC:CB wr N cb bv cv rv c)(hRc:R.cells.length=c.cells.length)(hRs:R.slots.length=c.slots)
 (hG7:w7.heap[wr.heap.size]?=some (.cells (zK (zcX c R)).toArray 2 (0,0))) (hF7:Fr (·=wr.heap.size) (wr.alloc (.cells (zbX c.outs) 2)) w7) :
 ∃ob sv',Ending.returned (.tuple #[xS wr.heap.size c.outs c.outs,.nilIface])=.returned (.tuple #[xS ob c.outs c.outs,.nilIface])/\w.heap.size<=ob/\w7.heap[ob]?=some (.cells (zK (zcX c R)).toArray 2 (0,0))/\(∀k,sv'.ownBlock=some k->k≠ob)/\Mc w7 N mb cb b1 b2 bv cv rv sv' c R.cells R.slots []/\MFr mb b1 b2 w sv w7 sv':=by
 have hk:∀k,k<wr.heap.size->w7.heap[k]?=wr.heap[k]?:=λk hk=>(hF7.block k (by rw[zsb];omega) (by omega)).trans (Below.heap_alloc _ _ _ hk);have hz:wr.heap.size<=w7.heap.size:=by have:=hF7.size;rw[zsb] at this;omega
 have hF:MFr mb b1 b2 w sv wr sv':=hF3.trans hFk;refine⟨wr.heap.size,sv',rfl,hF.fr.size,hG7,λk e=>?_,⟨hC.old (λk hk'=>hk k (by have:=hM.hB;omega)),hM.fr hk hz,h.n0,h.n1,h.n2,hRc,hRs⟩,?_⟩
 . have:=(hM.own.lt k e).2;omega
 . refine hF.trans ⟨⟨hF7.os,hF7.tape,hF7.output,hz,λk hk' _=>hk k hk'⟩,λ_ e=>Or.inl e⟩
theorem zjy (S:Nat->Addr)(N mb cb b1 b2:Nat)(bv cv rv sv:Value)(c:Cd)(cells slots:List Int)(w:World)(v:Value)(g:Nat)(l:List Int)(hG:Gl S w)(h:Mc w N mb cb b1 b2 bv cv rv sv c cells slots [])(hl:Nm w v g l)(hg2:l≠[]->g≠b2)(hr:zdE c.bools l=none)(hfit:zd9 c.slots c.cells.length 0 c.row=some 0) :
 xK 33 #[xP mb,v] w (λe w'=>∃ob sv',e=.returned (.tuple #[xS ob c.outs c.outs,.nilIface])/\w.heap.size<=ob/\w'.heap[ob]?=some (.cells (zK (zcX c (zbm c cells l))).toArray 2 (0,0))/\(∀k,sv'.ownBlock=some k->k≠ob)/\Mc w' N mb cb b1 b2 bv cv rv sv' c (zbm c cells l).cells (zbm c cells l).slots []/\MFr mb b1 b2 w sv w' sv'):=by
 have HR:=za (ziz S N mb cb _ _ _ bv cv rv c w v g l hG h.mem.blk h.code hl hr);have hle:l.length=c.bools.length:=by
  unfold zdE at hr;split at hr
  . assumption
  . cases hr
 obtain⟨h0,h1,h2,h3,hf,hz⟩:=zU h.mem.blk;obtain⟨hz0,hz1,hz2,hz3⟩:=h.mem.lt;obtain⟨xr,cpr,rfl⟩:=zB h.code.rown;obtain⟨a,cp,rfl,hcp,hmx,hin⟩:=hl.ex;unfold maxLen at hmx;have hls:=h.ls;have hlc:=h.lc;have ho1:=h.code.outsB;have ho2:=h.code.slotsB;have hrb:=h.code.rowB;have H:=za h;have HL:=za hl;have Hg2:=za hg2;have Hfit:=za hfit;have hNw:=h.mem.hB;have n0:=h.n0;have n1:=h.n1;have n2:=h.n2;have Hle:=za hle;have Hls:=za hls;have Hlc:=za hlc;have q1:c.bools.length+c.outs<=slots.length:=by omega
 have q2:slots.length<=255:=by omega
 have q3:l.length<=slots.length:=by omega
 clear h hl hr hG hin hg2 hfit hle hls hlc;go_enter func33,ntmps33;go_wp2_with (go_at_call 58;refine HR.o.mono ?_;rintro e w1 ⟨rfl,hB⟩;obtain⟨w2,w3,hclr,hcpy,hc1,hc2,hM3,hF3⟩:=zpD hB H.o HL.o Hg2.o Hle.o;obtain⟨p0,p1,p2,p3,pf,pz⟩:=zU hM3.mem.blk;obtain⟨d0,d1,d2,d3,d4,d5,df,dz⟩:=zt hM3.code.blk;have HM3:=za hM3;have HF3:=za hF3;clear hB hM3 hF3);obtain⟨m0,hm0⟩:∃m0:Ms,m0=⟨cells,zdY c.slots l,[]⟩:=⟨_,rfl⟩;have hMB:MB w3 mb cb b1 b2 N sv m0.cells m0.slots m0.st:=by rw[hm0];exact HM3.o.mem
 have HMB:=za hMB;have HW:Hid (zbm c cells l=zea m0 c.row):=by rw[hm0];exact rfl
 have hlm:m0.cells.length=c.cells.length:=by rw[hm0];exact HM3.o.lc
 have hsm:m0.slots.length=c.slots:=by rw[hm0];exact HM3.o.ls
 have hst:m0.st.length=0:=by rw[hm0];rfl
 have Hlm:=za hlm;have Hsm:=za hsm;have Hst:=za hst;clear hMB hm0 hlm hsm hst HR hclr hcpy hc1 hc2;go_loopg [35] (c.row.length+1) (λj i wr=>∃(k:Nat) (sv':Value),i=xI k/\k+j=c.row.length+1/\k<=c.row.length/\Hid (MB wr mb cb b1 b2 N sv' (zea m0 (c.row.take k)).cells (zea m0 (c.row.take k)).slots (zea m0 (c.row.take k)).st)/\Hid (MFr mb b1 b2 w3 sv wr sv'));case atStart=>exact⟨0,sv,rfl,by omega,by omega,HMB.o,MFr.refl _ _ _ _ _⟩
 case round =>
  obtain⟨k,sv',rfl,hkj,hkn,HMk,HFk⟩:=hrel;have hO:Old N w3 wr:=HFk.o.old HM3.o.mem.hB n0 n1 n2 (λk e=>(HM3.o.mem.own.lt k e).1);have hC:=HM3.o.code.old hO;have HC:=za hC;clear hO;by_cases hlt:k<c.row.length
  . obtain⟨i,hi⟩:∃i,c.row[k]?=some i:=⟨_,zsc hlt⟩;obtain⟨gr,rfl,hr1,hr2⟩:=zmo hC.rown hi;obtain⟨f1,f2,e1,e2,e3⟩:=zq7 c.row 0 0 k i Hfit.o hi;obtain⟨e4,e5,e6⟩:=zkI _ _ _ m0 e1 Hst.o;have hD:=λo=>zqr mb cb b1 b2 N sv' (zea m0 (c.row.take k)) i f1 f2 (wr.alloc o) (HMk.o.alloc o) (by rw[e5,e6,Hlm.o,Hsm.o];exact e2) e4 (by omega);rw[<- zn4 hi] at hD;have HD:=za hD;clear hi e1 e2 e4 e5 e6 hD hC;obtain⟨op,x⟩:=i;simp only at hr1 hr2 HD;go_wp2_with (go_at_call 59;refine (HD.o _).mono ?_;rintro e w4 ⟨rfl,sv4,hM4,hF4⟩;have HM4:=za hM4;have HF4:=za (HFk.o.trans hF4.ofAlloc);clear hM4 hF4);go_roundg (gk-1);case measure=>omega
    exact⟨k+1,sv4,by go_num,by omega,by omega,HM4.o,HF4.o⟩
  . have ek:k=c.row.length:=by omega
    subst ek;rw[List.take_length,<- HW.o] at HMk;obtain⟨e4,e5,e6⟩:=zkI _ _ _ m0 Hfit.o Hst.o;rw[<- HW.o] at e4 e5 e6;obtain⟨R,hR⟩:∃R,zbm c cells l=R:=⟨_,rfl⟩;rw[hR] at HMk e4 e5 e6;have es:R.st=[]:=List.eq_nil_of_length_eq_zero e4;rw[es] at HMk;have hRc:R.cells.length=c.cells.length:=e5.trans Hlm.o;have hRs:R.slots.length=c.slots:=e6.trans Hsm.o;have HR':=za hR;obtain⟨t0,t1,t2,t3,tf,tz⟩:=zU HMk.o.blk;obtain⟨_,_,tz2,_⟩:=HMk.o.lt;rw[hRs] at t2;have HOu:=za (zjL mb cb N _ _ _ bv cv _ c wr HMk.o.blk hC);have HIn:=za (λo=>zec mb cb N _ _ _ bv cv _ c (wr.alloc o).drew (HMk.o.alloc o).blk (hC.old (λk hk=>Below.heap_alloc _ _ _ (by have:=HMk.o.hB;omega))));have mk:=zhd c.outs c.outs (by omega) (by omega);have HRc:=za hRc;have HRs:=za hRs;have i1:(0:Int)<=(c.bools.length:Int):=(by omega);have i2:(c.bools.length:Int)<=(c.slots:Int):=(by omega);clear hC hR es e4 e5 e6 hRc hRs HM3 HMB;go_upto_region 12 with (go_at_call 35;refine HOu.o.mono ?_;rintro e w5 ⟨rfl,rfl⟩);have u2:=zj (.cells (zbX c.outs) 2) t2;have HMa:=za (HMk.o.alloc (.cells (zbX c.outs) 2));have Hcp:=za (znG (c:=c) HMk.o HRs.o ho1);by_cases hlow:c.bools.length<c.slots
    . obtain⟨w7,hcp7,hg7,hf7⟩:=Hcp.o (some (xD b2 c.bools.length)) (c.slots-c.bools.length) (c.slots-c.bools.length) (λ_=>rfl) rfl;have hcb:=HC.o.h0;have i3:(c.bools.length:Int)<(c.slots:Int):=(by omega);have i4:¬((c.bools.length:Int)=(c.slots:Int)):=(by omega);have i5:¬(c.bools.length=c.slots):=(by omega);have v2:w7.cell? (xD mb 2)=some (xS b2 c.slots c.slots):=(World.cell?_of_block (w:=wr.alloc (.cells (zbX c.outs) 2)) (hf7.block mb (by rw[zsb];omega) (by omega))).trans u2;have HG7:=za hg7;have HF7:=za hf7;clear hg7 hf7 Hcp
      go_region_held3 (λw'=>w'.cell? (xD mb 2)=some (xS b2 c.slots c.slots)) (first|with_reducible exact zg u2|with_reducible exact v2|go_keep)
       (first
         | (go_at_call 32;refine (HIn.o _).mono ?_;rintro e w6 ⟨rfl,rfl⟩))
      all_goals go_wp2_with fail
      all_goals
       refine bodyPost_ret (v:=.tuple #[xS wr.heap.size c.outs c.outs,.nilIface]) (by simp[results,results33,go_sem]) rfl ?_;rw[HR'.o];exact zjF H.o HF3.o HFk.o HMk.o HC.o HRc.o HRs.o HG7.o HF7.o
    . obtain⟨w7,hcp7,hg7,hf7⟩:=Hcp.o (some (xD b2 0)) 0 0 (λh=>by omega) (by omega);have hcb:=HC.o.h0;have i3:(c.bools.length:Int)=(c.slots:Int):=(by omega);have i5:c.bools.length=c.slots:=(by omega);have v2:w7.cell? (xD mb 2)=some (xS b2 c.slots c.slots):=(World.cell?_of_block (w:=wr.alloc (.cells (zbX c.outs) 2)) (hf7.block mb (by rw[zsb];omega) (by omega))).trans u2;have HG7:=za hg7;have HF7:=za hf7;clear hg7 hf7 Hcp
      go_region_held3 (λw'=>w'.cell? (xD mb 2)=some (xS b2 c.slots c.slots)) (first|with_reducible exact zg u2|with_reducible exact v2|go_keep)
       (first
         | (go_at_call 32;refine (HIn.o _).mono ?_;rintro e w6 ⟨rfl,rfl⟩))
      all_goals go_wp2_with fail
      all_goals
       refine bodyPost_ret (v:=.tuple #[xS wr.heap.size c.outs c.outs,.nilIface]) (by simp[results,results33,go_sem]) rfl ?_;rw[HR'.o];exact zjF H.o HF3.o HFk.o HMk.o HC.o HRc.o HRs.o HG7.o HF7.o
end
section
def ziO (l:List Nat)(s:Ir):Ir:=[99,100,110,50].foldl (λs m=>zbU ((zG l s).1==m) (zG l s).2) s
def cdM (b:List Nat):Option Cd :=
 let h:=zdL b (ziO b ⟨0,none⟩)
 let r:=zdw b h.1.slots h.1.cells.length (b.length+2) ⟨h.2,0,0,[]⟩
 if r.s.er=none then some { h.1 with depth:=r.mx,row:=r.row } else none
def zcR (l:List Nat):Option Cd:=(zdN l).bind cdM
def zg5:ByteArray:=⟨#[108,111,97,100,105,110,103]⟩
def zfJ (S:Nat->Addr)(w:World)(o:Option Cd)(e:Ending)(w':World):Prop :=
 match o with
 | none=>∃p,e=.returned (.tuple #[.pointer none,zeQ zg5 (zcE S p)])
 | some c=>∃cb B,e=.returned (.tuple #[xP cb,.nilIface])/\w.heap.size<=cb/\w.heap.size<=B/\UC B cb c w'
theorem zl6 (l:List Nat)(s:Ir)(h:∀x∈l,x<256):(zdL l s).1.slots<=1000000/\(zdL l s).1.cells.length<=1000000/\(zdL l s).1.depth=0/\(zdL l s).1.row=[]:=by
 have hn:∀n t,(zcy l n t).1.length=n:=by
  intro n;induction n with
  | zero=>intro t;rfl
  | succ n ih=>intro t;show (_::_).length=_;rw[List.length_cons,ih]
 refine⟨?_,?_,rfl,rfl⟩
 . have:=zcI l (zG l (zbb l (zG l s).1 (zG l s).2).2).2 h
   show (zG l _).1<=_;omega
 . show (zcy l _ _).1.length<=_;rw[hn];have:=zeS l 61 (zbU (decide ((zbb l (zG l s).1 (zG l s).2).1.length+(zG l (zbb l (zG l s).1 (zG l s).2).2).1<=(zG l (zG l (zbb l (zG l s).1 (zG l s).2).2).2).1)) (zG l (zG l (zbb l (zG l s).1 (zG l s).2).2).2).2) h;omega
theorem zgq (y m:Nat):((y:Int)==(m:Int))=(y==m):=by
 by_cases h:y=m
 . subst h;rw[beq_self_eq_true,beq_self_eq_true]
 . have h':¬(y:Int)=(m:Int):=by omega
   rw[beq_eq_false_iff_ne.2 h,beq_eq_false_iff_ne.2 h']
theorem zk9 (S:Nat->Addr)(a:Option Addr)(c g:Nat)(l:List Nat)(w:World)(HG:Gl S w)(HS:zbW w)(hy:By w (.slice a l.length c) g l)(hg:g<w.heap.size) :
 xK 36 #[.slice a l.length c] w (λe w'=>(xB w w')/\zfJ S w (zcR l) e w'):=by
 have HO:=za (zjZ S a c g l w HG HS hy hg);obtain⟨P,hP⟩:∃P,P=zfJ S w (zcR l):=⟨_,rfl⟩;rw[<- hP];cases ho:zdN l with
 | none =>
   rw[ho] at HO;unfold zgN at HO;have HP:Hid (P=zfJ S w none):=(by unfold Hid;rw[hP];unfold zcR;rw[ho];rfl);clear ho hP hy hg;go_enter func36,ntmps36
   go_wp2_with (first
    | (go_at_call 60;refine HO.o.mono ?_;rintro e w1 ⟨hB,p,rfl⟩;unfold zcE;have HB:=za hB;clear hB)
    | (go_at_call 41;refine (zdo _ _ _ _).mono ?_;rintro e w3 ⟨rfl,rfl⟩))
   exact bodyPost_ret (v:=.tuple #[.pointer none,zeQ zg5 (zcE S p)]) (by simp[results,results36,go_sem,zg5,zcE]) rfl ⟨HB.o,by rw[HP.o];exact⟨p,rfl⟩⟩
 | some b =>
   rw[ho] at HO;unfold zgN at HO;have hP2:P=zfJ S w (cdM b):=(by rw[hP];unfold zcR;rw[ho];rfl);obtain⟨hb1,hb2⟩:b=l.take (l.length-8)/\b.length<=1048576:=by
    unfold zdN at ho;split at ho
    . cases ho
    . split at ho
      . cases ho;exact⟨rfl,by rw[List.length_take];omega⟩
      . cases ho
   have Hy:By w (.slice a b.length c) g b:=(by have:=hy.take (n:=b.length) (by rw[hb1,List.length_take];omega);rwa [show l.take b.length=b by rw[hb1,List.length_take];congr 1;omega] at this);obtain⟨_,cc,hcc,hc1,hc2,_⟩:=Hy.ex;cases hcc;have hcm:c<=9223372036854775807:=(by unfold maxLen at hc2;omega);have h21:=HG.size;have hi:=HG.image;have HP:=za hP2;clear hP hP2 ho hb1 hy hc2;go_enter func36,ntmps36;go_wp2_with (go_at_call 60;refine HO.o.mono ?_;rintro e w1' ⟨hB,rfl,-,-⟩;have hz1:=hB.size;have HB:=za hB;clear hB);have HR0:Hid (RL S (w1'.alloc (.cells #[.slice a b.length c,xI 0,.nilIface] 144)) w1'.heap.size (.slice a b.length c) g b ⟨0,none⟩):=RL.new (HG.of (T:=λ_=>False) (Fr.of_below HB.o) (λ_ e=>e.elim)) (HS.old (zm HB.o (Nat.le_refl _)) h21) (Hy.of (HB.o.block g hg)) (by omega) hb2 0 (Nat.zero_le _);have hB0:xB w (w1'.alloc (.cells #[.slice a b.length c,xI 0,.nilIface] 144)):=HB.o.alloc (by omega) _;have HB0:=za hB0;clear hB0 HO;obtain⟨W0,hW0⟩:∃W,W=(w1'.alloc (.cells #[.slice a b.length c,xI 0,.nilIface] 144)):=⟨_,rfl⟩;obtain⟨rb,hrb⟩:∃rb,rb=w1'.heap.size:=⟨_,rfl⟩;have hz0:W0.heap.size=rb+1:=(by rw[hW0,hrb];simp);have hz0':rb<W0.heap.size:=(by omega);rw[<- hW0] at HR0 HB0 ⊢;rw[<- hrb] at HR0 ⊢;have hrw:w.heap.size<=rb:=(by omega);clear hW0 hrb HB hz0;go_loopg [20] 5 (λj i wr=>∃(k:Nat) (t:Ir),k+j=5/\k<=4/\i=xI k/\Hid (ziO b ⟨0,none⟩=([99,100,110,50].drop k).foldl (λs m=>zbU ((zG b s).1==m) (zG b s).2) t)/\Hid (RL S wr rb (.slice a b.length c) g b t)/\Hid (Fr (·=rb) W0 wr));case atStart=>exact⟨0,⟨0,none⟩,rfl,by omega,rfl,za rfl,HR0.o,Fr.refl _ _⟩
   case round =>
    obtain⟨k,t,hk,hk4,rfl,HM,HR,HF⟩:=hrel;by_cases hlt:k<4
    . have HB1:=za (zem S rb _ g b t wr.drew (HR.o.below (zo (Below.refl _ _))));have hy:=zcI b t HR.o.by'.lt;have gi:=HR.o.gl.image;rcases hR:zG b t with ⟨y,t1⟩;rw[hR] at HB1 hy;simp only at HB1 hy;obtain⟨q,hq⟩:∃q:Bool,q=(y==[99,100,110,50].getD k 0):=⟨_,rfl⟩;have HM2:Hid (ziO b ⟨0,none⟩=([99,100,110,50].drop (k+1)).foldl (λs m=>zbU ((zG b s).1==m) (zG b s).2) (zbU q t1)):=by
       unfold Hid;rw[HM.o,hq];have:k=0∨k=1∨k=2∨k=3:=by omega
       rcases this with rfl|rfl|rfl|rfl <;> simp[hR]
      have HQ:=za (λw1 (h1:RL S w1 rb (.slice a b.length c) g b t1)=>zeg S rb _ g b t1 q w1 h1);unfold sen at gi;have hz21:=HR.o.gl.size;clear hR HM;have:k=0∨k=1∨k=2∨k=3:=(by omega);rcases this with rfl|rfl|rfl|rfl
      all_goals
       first
        | have hdec:((y:Int)==99)=q:=by rw[hq];exact zgq y 99
        | have hdec:((y:Int)==100)=q:=by rw[hq];exact zgq y 100
        | have hdec:((y:Int)==110)=q:=by rw[hq];exact zgq y 110
        | have hdec:((y:Int)==50)=q:=by rw[hq];exact zgq y 50
       have hx0:(⟨#[99,100,110,50]⟩:ByteArray)[0].toNat=99:=rfl;have hx1:(⟨#[99,100,110,50]⟩:ByteArray)[1].toNat=100:=rfl;have hx2:(⟨#[99,100,110,50]⟩:ByteArray)[2].toNat=110:=rfl;have hx3:(⟨#[99,100,110,50]⟩:ByteArray)[3].toNat=50:=rfl;clear hq;go_wp2_with fail
       go_region_held3 (λw'=>w'.cell? (xD 10 0)=some (.iface 324 (.pointer (some (S 10)))))
        (repeat (first|with_reducible exact gi|with_reducible exact g2|with_reducible exact g1|with_reducible refine zg ?_))
        (first
          | (go_at_call 61;revert H1;intro H1;refine (HQ.o w1 H1.o).mono ?_;rintro e w2 ⟨rfl,h1,h2⟩;have g2:=h1.gl.image;unfold sen at g2;have H3:=za h1;have H4:=za (H2.o.trans h2);clear h1 h2)
          | (go_at_call 62;refine HB1.o.mono ?_;rintro e w1 ⟨rfl,h1,h2⟩;have g1:=h1.gl.image;unfold sen at g1;have H1:=za h1;have H2:=za (HF.o.trans h2.undrew);clear h1 h2))
       all_goals go_wp2_with fail
       all_goals go_roundg (gk-1)
       all_goals first
        | omega
        | exact⟨_,_,by omega,by omega,by go_num,HM2,H3.o,H4.o⟩
    . have e4:k=4:=(by omega);subst e4;have hM:ziO b ⟨0,none⟩=t:=HM.o;obtain⟨f1,f2,f3,f4⟩:=zl6 b t HR.o.by'.lt;have HH:=za (zql S rb (.slice a b.length c) g b t wr HR.o);have HP3:=HP.o;unfold cdM at HP3;simp only[hM] at HP3;rcases hhd:zdL b t with ⟨⟨bs,o,ns,cs,dpt,rw'⟩,t2⟩;rw[hhd] at HH f1 f2 f3 f4 HP3;simp only at HH f1 f2 f3 f4 HP3;subst f3;subst f4;obtain⟨R,hR⟩:∃R,R=zdw b ns cs.length (b.length+2) ⟨t2,0,0,[]⟩:=⟨_,rfl⟩;rw[<- hR] at HP3;have hzr:=HF.o.size;have HRo:=za (λw2 (h1:RL S w2 rb (.slice a b.length c) g b t2) (h2:UC (wr.heap.size+1) wr.heap.size ⟨bs,o,ns,cs,0,[]⟩ w2)=>zrd S rb wr.heap.size (wr.heap.size+1) (.slice a b.length c) g b t2 bs o ns cs w2 h1 h2 (by omega) (λ_=>by omega) (by omega) f1 f2 R hR);have HBr:=za (HB0.o.trans (HF.o.below (B:=w.heap.size) (by have:=HB0.o.size;omega) (λk e=>e▸hrw)));have hcbw:w.heap.size<=wr.heap.size:=HBr.o.size;clear hM HM hhd hR HP HR0 HB0;obtain⟨⟨rp,rer⟩,rdp,rmx,rrow⟩:=R;simp only at HRo HP3;cases rer with
      | none =>
        rw[if_pos rfl] at HP3
        go_wp2_with (first
         | (go_at_call 64;revert H1;intro H1;refine (HRo.o w2 H1.o H2.o).mono ?_;rintro e w3 ⟨rfl,h1,h2,h3⟩;obtain⟨a0,a1,a2,af,az⟩:=zL h1.blk;unfold erV at a2;simp only at a2;have K1:=za h1;have K2:=za h2;have K3:=za (H3.o.trans (h3.below (B:=w.heap.size) (by have:=H3.o.size;omega) (λk e=>by rcases e with e|e <;> omega)));clear h1 h2 h3)
         | (go_at_call 63;refine HH.o.mono ?_;rintro e w2 ⟨rfl,h1,h2,h3⟩;have H1:=za h1;have H2:=za h2;have H3:=za (HBr.o.trans (h3.below (B:=w.heap.size) hcbw (λk e=>e▸hrw)));clear h1 h2 h3))
        exact bodyPost_ret (v:=.tuple #[xP wr.heap.size,.nilIface]) (by simp[results,results36,go_sem]) rfl ⟨K3.o,by rw[HP3];exact⟨_,_,rfl,hcbw,by omega,K2.o⟩⟩
      | some p =>
        rw[if_neg (by simp)] at HP3
        go_wp2_with (first
         | (go_at_call 41;refine (zdo _ _ _ _).mono ?_;rintro e w4 ⟨rfl,rfl⟩)
         | (go_at_call 64;revert H1;intro H1;refine (HRo.o w2 H1.o H2.o).mono ?_;rintro e w3 ⟨rfl,h1,h2,h3⟩;obtain⟨a0,a1,a2,af,az⟩:=zL h1.blk;unfold erV at a2;simp only at a2;have K1:=za h1;have K2:=za h2;have K3:=za (H3.o.trans (h3.below (B:=w.heap.size) (by have:=H3.o.size;omega) (λk e=>by rcases e with e|e <;> omega)));clear h1 h2 h3)
         | (go_at_call 63;refine HH.o.mono ?_;rintro e w2 ⟨rfl,h1,h2,h3⟩;have H1:=za h1;have H2:=za h2;have H3:=za (HBr.o.trans (h3.below (B:=w.heap.size) hcbw (λk e=>e▸hrw)));clear h1 h2 h3))
        exact bodyPost_ret (v:=.tuple #[.pointer none,zeQ zg5 (zcE S p)]) (by simp[results,results36,go_sem,zg5,zcE]) rfl ⟨K3.o,by rw[HP3];exact⟨p,rfl⟩⟩
def zo5 (fu gas f:Nat)(ns:List Nod):Option Cd :=
 match ns.getLast? with
 | none=>none
 | some n =>
   let c:Sc:=⟨ns.dropLast,n⟩
   let K:=zca fu gas f c 0 ((hdM c).add 0 1)
   if (ns.all zjC&&(ns.all λn=>decide (n.terms.length<=1000000))&&decide (zbc ns=none)&&gdB fu gas f c&&decide (K.row.length<=100000)&&decide (K.cells.length<=1000000)&&decide (K.bools.length<=1000000)&&K.row.all λi=>decide (i.1<=20))=true then some K else none
def zju (fu gas f:Nat)(src:ByteArray):Option Cd :=
 let R:=zgo (lev 17).ex (lev 18).ex 1300 src
 if src.size<=1200/\R.1.er=0/\R.2.length<=6 then
  match ziP R.2 with
  | none=>none
  | some ns=>zo5 fu gas f ns
 else none
theorem zmA (w:World):xK 27 #[.nilIface] w (λe w'=>e=.returned (.tuple #[xI 0,xI 0])/\w=w'):=by go_enter func27,ntmps27;go_wp2_with fail;exact bodyPost_ret (v:=.tuple #[xI 0,xI 0]) (by simp[results,results27,go_sem]) rfl ⟨rfl,rfl⟩
structure zlK (src:ByteArray) (ns:List Nod):Prop where
 size:src.size<=1200
 er:(zgo (lev 17).ex (lev 18).ex 1300 src).1.er=0
 few:(zgo (lev 17).ex (lev 18).ex 1300 src).2.length<=6
 nods:ziP (zgo (lev 17).ex (lev 18).ex 1300 src).2=some ns
 wf:∀n∈ns,zeJ n
 tms:∀n∈ns,n.terms.length<=1000000
 chk:zbc ns=none
theorem zlR (S:Nat->Addr)(src:ByteArray)(ns:List Nod)(h:zlK src ns)(w:World)(HG:Gl S w) :
 xK 26 #[.string src] w (λe w'=>∃gb N,e=.returned (.tuple #[xP gb,.nilIface])/\PT w' N ns (xP gb)/\w.heap.size<=N/\N<=w'.heap.size/\xB w w'):=by
 obtain⟨r17,r18,e17,e18,hX,hK,g17,g18⟩:=zk1;obtain⟨h1,h2,h3,h4,H5,H6,H7⟩:=h;rw[<- e17,<- e18] at h2 h3 h4;obtain⟨R,hR⟩:∃R,R=zgo r17 r18 1300 src:=⟨_,rfl⟩;have HRd:=za (zni hX hK g17 g18 S 1300 (by decide) (by decide) src w HG h1 (R:=R) hR.symm);rw[<- hR] at h2 h3 h4;have HRr:xK 28 #[.string src] w (λe w'=>∃gb,e=.returned (.tuple #[xP gb,.nilIface])/\PT w' w'.heap.size ns (xP gb)/\xB w w'):=by refine HRd.o.mono ?_;rintro e w' ⟨_,hok,hB⟩;obtain⟨a,rfl,hPG⟩:=hok h2;obtain⟨ns',hns,hPT⟩:=zpt hPG h3;have:=znV hns h4;subst this;obtain⟨gb,gv,xs,e0,rest⟩:=hPT;cases e0;exact⟨gb,rfl,⟨gb,gv,xs,rfl,rest⟩,hB⟩
 go_enter func26,ntmps26
 go_wp2_with (first
  | (go_at_call 38;revert HP1;intro HP1;refine (zjO S w1.heap.size ns H5 H6 gb w1 (HG.of (T:=λ_=>False) (Fr.of_below HB1.o) (λ_ e=>e.elim)) HP1.o (Nat.le_refl _)).mono ?_;rw[H7];rintro e w2 ⟨rfl,hB⟩;unfold zq3;have hz2:=hB.size;have HB2:=za hB)
  | (go_at_call 28;refine HRr.mono ?_;rintro e w1 ⟨gb,rfl,hP,hB⟩;have hz1:=hB.size;have HP1:=za hP;have HB1:=za hB))
 exact bodyPost_ret (v:=.tuple #[xP gb,.nilIface]) (by simp[results,results26,go_sem]) rfl ⟨gb,w1.heap.size,rfl,HP1.o.old (zm HB2.o (Nat.le_refl _)),hz1,hz2,HB1.o.trans (HB2.o.mono hz1)⟩
theorem KW.pk {B wb kb:Nat}{K:Cd}{w:World}(h:KW B wb kb K w)(h1:K.bools.length<=1000000)(h2:K.cells.length<=1000000)(h3:K.row.length<=100000)(h4:∀i∈K.row,i.1<=20):∃bv cv rv,PkI w kb bv cv rv K:=by obtain⟨bv,cv,rv,h⟩:=h;exact⟨bv,cv,rv,h.blk,zR h.bown (Nat.zero_le _),zR h.cown (Nat.zero_le _),zR h.rown (Nat.zero_le _),h1,h2,h3,h4⟩
structure zl2 (fu gas f:Nat) (pre:List Nod) (n:Nod) (K:Cd):Prop where
 hK:zca fu gas f ⟨pre,n⟩ 0 ((hdM ⟨pre,n⟩).add 0 1)=K
 hgas:gas<=1000000
 hf:17*f<=100000
 gd:GdC fu gas f ⟨pre,n⟩
 b:K.bools.length<=1000000
 c:K.cells.length<=1000000
 r:K.row.length<=100000
 ops:∀i∈K.row,i.1<=20
theorem zlg (S:Nat->Addr)(src:ByteArray)(pre:List Nod)(n:Nod)(h:zlK src (pre++[n]))(fu gas f:Nat)(K:Cd)(hc:zl2 fu gas f pre n K)(w:World)(hG:Gl S w)(hop:zbt w)(hS:zbW w) :
 xK 13 #[.string src] w (λe w'=>∃v B,e=.returned (.tuple #[v,xI 0,xI 0])/\BR B w' v (zcw (zcx K))/\w.heap.size<=B/\xB w w'):=by
 obtain⟨hK,hgas,hf,hgd,hb,hcl,hr,ho⟩:=hc;have HCk:=za (zlR S src (pre++[n]) h w hG);have h21:=hG.size;have Hop:=za hop;have HS:=za hS;have HCm:=za (λN (hN:21<=N) gb W hP hNW hopW=>zjW (N:=N) fu gas f hgas hN hf pre n (xP gb) W hP hNW hopW hgd ⟨by rw[hK];omega,by rw[hK];exact hcl⟩);rw[hK] at HCm;have HPk:=za (λB wb kb W (hW:KW B wb kb K W) (hS:zbW W) (hz:21<=W.heap.size)=>(by
  obtain⟨bv,cv,rv,hI⟩:=hW.pk hb hcl hr ho;exact zpP kb bv cv rv K W hI hS hz:xK 30 #[xP kb] W (zhf W.heap.size (zcw (zcx K)) W)))
 go_enter func13,ntmps13
 go_wp2_with (first
  | (go_at_call 30;revert HK2;intro HK2;refine (HPk.o _ _ _ w2 HK2.o (HS.o.old ((zm HB1.o (Nat.le_refl _)).trans (zm HB2.o hz1)) h21) (by omega)).mono ?_;rintro e w3 ⟨v3,rfl,hR3,hB3⟩;have HR3:=za hR3;have HB3:=za hB3)
  | (go_at_call 31;revert HP1;intro HP1;refine (HCm.o N (by omega) gb w1 HP1.o hN1 (Hop.o.old (zm HB1.o (Nat.le_refl _)) h21)).mono ?_;rintro e w2 ⟨B,wb,kb,rfl,hkb,hB,hKW,hB2⟩;have hz2:=hB2.size;have HK2:=za hKW;have HB2:=za hB2)
  | (go_at_call 26;refine HCk.o.mono ?_;rintro e w1 ⟨gb,N,rfl,hP,hN0,hN1,hB⟩;have hz1:=hB.size;have HP1:=za hP;have HB1:=za hB))
 exact bodyPost_ret (v:=.tuple #[v3,xI 0,xI 0]) (by simp[results,results13,go_sem]) rfl ⟨v3,w2.heap.size,rfl,HR3.o,by omega,(HB1.o.trans (HB2.o.mono hz1)).trans (HB3.o.mono (by omega))⟩
end
section
variable {c:Cd} {cells slots:List Int} {sv:Value} {w w':World}
structure zlx (c:Cd):Prop where
 outsB:c.bools.length+c.outs<=c.slots
 slotsB:c.slots<=255
 cellsB:c.cells.length<=255
 depthB:c.depth<=3145728
 rowB:c.row.length<=1048576
theorem UC.cb {B cb:Nat}(h:UC B cb c w)(hc:zlx c):∃bv cv rv,CB w w.heap.size cb bv cv rv c:=by obtain⟨bv,cv,rv,h⟩:=h;exact⟨bv,cv,rv,h.blk,zR h.bown (Nat.zero_le _),zR h.cown (Nat.zero_le _),zR h.rown (Nat.zero_le _),ze h.blk,λk e=>(h.bown.lt k e).2,λk e=>(h.cown.lt k e).2,λk e=>(h.rown.lt k e).2,hc.outsB,hc.slotsB,hc.cellsB,hc.depthB,hc.rowB⟩
structure Ma where
 M:Nat
 N:Nat
 mb:Nat
 cb:Nat
 b1:Nat
 b2:Nat
 bv:Value
 cv:Value
 rv:Value
structure MM (w:World) (a:Ma) (sv:Value) (c:Cd) (cells slots:List Int):Prop where
 blk:w.heap[a.M]?=some (.cells #[xP a.mb] 63 (0,0))
 mc:Mc w a.N a.mb a.cb a.b1 a.b2 a.bv a.cv a.rv sv c cells slots []
 m0:¬a.M=a.mb
 m1:¬a.M=a.b1
 m2:¬a.M=a.b2
 ms:¬sv.ownBlock=some a.M
theorem Mc.keep {N mb cb b1 b2:Nat}{bv cv rv:Value}{st:List Int}(h:Mc w N mb cb b1 b2 bv cv rv sv c cells slots st)(hB:xB w w'):Mc w' N mb cb b1 b2 bv cv rv sv c cells slots st :=
 ⟨h.code.old (zm hB h.mem.hB),h.mem.fr (λk hk=>hB.block k hk) hB.size,h.n0,h.n1,h.n2,h.lc,h.ls⟩
theorem MM.keep {a:Ma}(h:MM w a sv c cells slots)(hB:xB w w'):MM w' a sv c cells slots :=
 ⟨(hB.block _ (ze h.blk)).trans h.blk,h.mc.keep hB,h.m0,h.m1,h.m2,h.ms⟩
theorem zpJ (S:Nat->Addr)(a:Option Addr)(cp g:Nat)(l:List Nat)(c:Cd)(Hc:zlx c)(hu:zcR l=some c)(w:World)(hG:Gl S w)(hS:zbW w)(hy:By w (.slice a l.length cp) g l)(hg:g<w.heap.size) :
 xK 25 #[.slice a l.length cp] w (λe w'=>∃(m:Ma) (sv:Value),e=.returned (.tuple #[xP m.M,xI 0])/\MM w' m sv c c.cells (List.replicate c.slots 0)/\w.heap.size<=m.N/\xB w w'):=by
 have HU:=za (zk9 S a cp g l w hG hS hy hg);rw[hu] at HU;unfold zfJ at HU;go_enter func25,ntmps25
 go_wp2_with (first
  | (go_at_call 37;revert HB1;intro HB1;refine (zpK w1.heap.size cb bv cv rv c w1 HCB (Nat.le_refl _)).mono ?_;rintro e w2 ⟨mb,b1,b2,sv,rfl,HM,hB⟩;have hz2:=hB.size;have HB2:=za hB)
  | (go_at_call 36;refine HU.o.mono ?_;rintro e w1 ⟨hB,cb,B,rfl,hcb,hBB,hUC⟩;have hz1:=hB.size;obtain⟨bv,cv,rv,HCB⟩:=hUC.cb Hc;have HB1:=za hB))
 obtain⟨l0,l1,l2,ls⟩:=HM.mem.lt;have hB3:=zq w2 (.cells #[xP mb] 63)
 exact bodyPost_ret (v:=.tuple #[xP w2.heap.size,xI 0]) (by simp[results,results25,go_sem]) rfl
  ⟨⟨w2.heap.size,w1.heap.size,mb,cb,b1,b2,bv,cv,rv⟩,sv,rfl,⟨zc w2 _,HM.keep hB3,(by show ¬w2.heap.size=mb;omega),(by show ¬w2.heap.size=b1;omega),(by show ¬w2.heap.size=b2;omega),λe=>Nat.lt_irrefl w2.heap.size (ls w2.heap.size e)⟩,hz1,(HB1.o.trans (HB2.o.mono hz1)).trans (hB3.mono (by omega))⟩
end
end Go.Proofs.YtbicmofihhjgbaaGreatDoor
