/- Part 18 of the proof. -/
import Derived.Lib.AppendIntMem
import Derived.Test.YtbicmofihhjgbaaGreatDoorShelf2
import Derived.Test.YtbicmofihhjgbaaGreatDoorK16
set_option maxRecDepth 100000
set_option maxHeartbeats 8000000
namespace Go.Proofs.YtbicmofihhjgbaaGreatDoor
open Go.Proofs.Tryz
open Go.RowKit
section
variable {ts:Xl} {B N b b1 b2 lb:Nat} {S:Xs} {t:Tm} {tv0:Xv} {W w0:Xw}
mutual
def nmB:Tm->Bool
 | .mk _ _ _ _ n ts=>decide (n<=9223372036854775807)&&nmL ts
def nmL:List Tm->Bool
 | []=>true
 | t::l=>nmB t&&nmL l
end
theorem zxp {ts:List Tm}(h:nmL ts=true)(ht:t∈ts):nmB t=true:=by
 induction ts with
 | nil=>cases ht
 | cons x l ih =>
   unfold nmL at h;rw[Bool.and_eq_true] at h;rcases zNa.1 ht with rfl|ht
   . exact h.1
   exact ih h.2 ht
theorem LnI.bel {W':Xw}(h:LnI lb B w0 tv0 W ts)(hB:xB W W'):LnI lb B w0 tv0 W' ts:=by obtain⟨tv,h1,h2⟩:=h.ln;refine⟨h.lt,h.le,h.lo,tv,⟨(hB.block _ (ze h1.blk)).trans h1.blk,zi h1.own (λg _ _ e=>hB.block g (h1.own.lt g e).2)⟩,h2.trans ⟨Fr.of_below hB,λj e=>zM3 e⟩⟩
structure Bx (lb B:Nat) (o:Obj) (b1 b2:Nat) (w0:Xw) (tv0:Xv):Prop where
 h1:w0.heap[b1]?=some (.cells #[xP lb] 175 (0,0))
 h2:w0.heap[b2]?=some o
 n1:¬b1=lb
 n2:¬b2=lb
 t1:¬tv0.ownBlock=some b1
 t2:¬tv0.ownBlock=some b2
theorem Bx.at {o:Obj}(h:Bx lb B o b1 b2 w0 tv0)(hl:LnI lb B w0 tv0 W ts):xH W b1 #[xP lb] 175/\W.heap[b2]?=some o :=
 ⟨hl.kept h.h1 h.n1 h.t1,hl.kept h.h2 h.n2 h.t2⟩
theorem LnI.boxes (h:LnI lb B w0 tv0 W ts)(o':Obj):∃tv,LnI lb B ((W.alloc (.cells #[xP lb] 175)).alloc o') tv ((W.alloc (.cells #[xP lb] 175)).alloc o') ts/\Bx lb B o' W.heap.size (W.heap.size+1) ((W.alloc (.cells #[xP lb] 175)).alloc o') tv/\∀(w':Xw) (ts':Xl),LnI lb B ((W.alloc (.cells #[xP lb] 175)).alloc o') tv w' ts'->LnI lb B w0 tv0 w' ts':=by
 obtain⟨tv,h1,h2,h3,h4⟩:=h.box2 (.cells #[xP lb] 175) o';refine⟨tv,h1,⟨?_,?_,by omega,by omega,λe=>by have:=h2 _ e;omega,λe=>by have:=h2 _ e;omega⟩,h4⟩
 . exact (Below.heap_alloc _ _ _ (by rw[zsb];omega)).trans (zc W _)
 have:=zc (W.alloc (.cells #[xP lb] 175)) o';rwa [zsb] at this
theorem zwC:zH 193:=λ_ _=>by kernel_rfl
theorem zwm {u:Tm}(h:LnI lb B w0 tv0 W ts)(hN:N<=lb)(h21:21<=N)(hT:TT w0 N t (xP b))(hKn:Kn S w0)
 (hX:Bx lb B (.cells #[xP b] 182 (0,0)) b1 b2 w0 tv0) (i:Nat) (hi:t.ts[i]?=some u) (hE:zvc S u) (hm:(ts++exT u).length<=10000000000) (_hl6:t.ts.length<=10000000000) :
 xK 193 (#[xI i]++#[xP b1,xP b2]) W (zu1 lb B w0 tv0 (ts++exT u)):=by
 obtain⟨p0,pf,pz⟩:=zu (hX.at h).1;obtain⟨q0,qf,qz⟩:=zu (hX.at h).2;have hO:=h.old hN;obtain⟨g,cp,ub,d,e,hTu,lt⟩:=hT.look hi;have hbN:=hT.six.2.2.2.2;have D:=(zuZ hO hbN).trans d;have E:=(zuZ hO lt).trans e;have hil:=(zMJ.1 hi).1;have HKp:Hid (∀(w':Xw) (ts':Xl),LnI lb B w0 tv0 w' ts'->xC w' b1 0 (xP lb)/\xC w' b2 0 (xP b)/\xC w' b 5 (xS g t.ts.length cp)/\xC w' g i (xP ub)):=λw' ts' h'=>⟨(zu (hX.at h').1).1,(zu (hX.at h').2).1,(zuZ (h'.old hN) hbN).trans d,(zuZ (h'.old hN) lt).trans e⟩;have HD:=za (hE lb B N w0 tv0 W.drew ts _ hN h21 hTu hKn h.drew hm);obtain⟨L,hL⟩:∃L,t.ts.length=L:=⟨_,rfl⟩;rw[hL] at D hil _hl6 HKp
 show Calls prog _ #[xI i,xP b1,xP b2] W _;go_enter func193,ntmps193;go_region_held3 (λw'=>w'.cell? (xD b1 0)=some (xP lb)/\w'.cell? (xD b2 0)=some (xP b)/\w'.cell? (xD b 5)=some (xS g L cp)/\w'.cell? (xD g i)=some (xP ub)) (first|go_keep|exact HKp.o _ _ H1) (first|(go_at_call 158;refine HD.o.mono ?_;rintro e w1 ⟨rfl,H1⟩));all_goals first|go_end0|refine bodyPost_ret (results_none rfl _ _ _) rfl ?_
 all_goals exact⟨rfl,H1⟩
theorem zv3:∀ts:List Tm,ts.length<=szL ts
 | []=>zMK _
 | t::l=>by
   have:=zv3 l;have:1<=szT t:=by cases t;simp only[szT];omega
   simp only[szL,zMR];omega
theorem zx4 (hN:N<=lb)(hT:TT w0 N t (xP b))(hKn:Kn S w0)(h21:21<=N)(h:LnI lb B w0 tv0 W ts)(L:Xl)(el:exW t.k t.s t.n (t.ts.map Tm.k) (exL t.ts)=L)(hm:(ts++exT t).length<=10000000000)
 (k:∀(wb:Xw) (tv:Xv),W.heap.size+1<wb.heap.size->b<wb.heap.size->(W.alloc (.cells #[xP lb] 175)).alloc (.cells #[xP b] 182)=wb->Hid (LnI lb B wb tv wb ts)->Hid (TT wb N t (xP b))->Hid (Kn S wb)->Hid (Bx lb B (.cells #[xP b] 182 (0,0)) W.heap.size (W.heap.size+1) wb tv)->Hid (∀(w':Xw) (ts':Xl),LnI lb B wb tv w' ts'->xC w' W.heap.size 0 (xP lb)/\xC w' (W.heap.size+1) 0 (xP b)/\xC w' b 0 (xI t.k)/\xC w' b 2 (.string t.s)/\xC w' b 4 (xI t.n))->Hid ((ts++L).length<=10000000000)->xK 158 #[xP lb,xP b] W (zu1 lb B wb tv (ts++L))) :
 xK 158 #[xP lb,xP b] W (zu1 lb B w0 tv0 (ts++exT t)):=by
 obtain⟨tv,hb,hX,hback⟩:=h.boxes (.cells #[xP b] 182);obtain⟨wb,ewb⟩:∃wb,wb=(W.alloc (.cells #[xP lb] 175)).alloc (.cells #[xP b] 182):=⟨_,rfl⟩;have hKb:Kn S wb:=ewb▸hKn.ln ((h.alloc _).alloc _) (by omega);have hTb:=hT.old (ewb▸((h.alloc _).alloc _).old hN:Old N w0 wb);rw[<- ewb] at hb hX hback;have hex:exT t=L:=by rw[<- el];cases t;rfl
 rw[hex] at hm ⊢;refine (k wb tv (by rw[ewb];simp only[zsb];omega) (hTb.six).2.2.2.1 ewb.symm hb hTb hKb hX (λw' ts' h'=>?_) hm).mono (λe w' h'=>⟨h'.1,hback _ _ h'.2⟩);obtain⟨x0,x2,x4,_,_⟩:=(hTb.old (h'.old hN)).six;exact⟨(zu (hX.at h').1).1,(zu (hX.at h').2).1,x0,x2,x4⟩
theorem zvS (hk:t.k=3):zvc S t:=by
 intro lb B N w0 tv0 W ts v hN h21 hT hKn h hm;obtain⟨b,_,_,rfl,_⟩:=hT.ptr;refine zx4 hN hT hKn h21 h ([t.s]) (by unfold exW;rw[zM1 (by omega),zM1 (by omega),zM2 hk]) hm ?_;intro wb tv hWz hbz htw H0 HT HK HX HKp HM;obtain⟨p0,q0,c0,c2,c4⟩:=HKp.o _ _ H0.o;go_enter func158,ntmps158;go_upto_region 1 with fail;rw[hk] at c0 HKp;go_upto_region 11 with fail;go_region_held3 (λw'=>w'.cell? (xD W.heap.size 0)=some (xP lb)/\w'.cell? (xD (W.heap.size+1) 0)=some (xP b)/\w'.cell? (xD b 2)=some (.string t.s)) (first|go_keep|exact⟨(HKp.o _ _ H1).1,(HKp.o _ _ H1).2.1,(HKp.o _ _ H1).2.2.2.1⟩) (first|(go_at_call 89;refine (zu2 H0.o [t.s] 1 rfl (by have:=HM.o;simp only[zMM,zMR,zNb] at this ⊢;omega) _ rfl).mono ?_;rintro e w1 ⟨rfl,H1⟩));all_goals first|go_end0|refine bodyPost_ret (results_none rfl _ _ _) rfl ?_
 all_goals exact⟨rfl,H1⟩
theorem zvU (hk:t.k=1):zvc S t:=by
 intro lb B N w0 tv0 W ts v hN h21 hT hKn h hm;obtain⟨b,_,_,rfl,_⟩:=hT.ptr;refine zx4 hN hT hKn h21 h ([wd 1]) (by unfold exW;rw[zM1 (by omega),zM2 (by omega),hk]) hm ?_;intro wb tv hWz hbz htw H0 HT HK HX HKp HM;obtain⟨p0,q0,c0,c2,c4⟩:=HKp.o _ _ H0.o;go_enter func158,ntmps158;go_upto_region 1 with fail;rw[hk] at c0 HKp;have hwd:zcY[1]?=some (wd 1):=zvo (by omega);go_upto_region 9 with fail;go_region_held3 (λw'=>w'.cell? (xD W.heap.size 0)=some (xP lb)/\w'.cell? (xD (W.heap.size+1) 0)=some (xP b)/\w'.cell? (xD b 0)=some (xI 1)) (first|go_keep|exact⟨(HKp.o _ _ H1).1,(HKp.o _ _ H1).2.1,(HKp.o _ _ H1).2.2.1⟩) (first|(go_at_call 89;refine (zu2 H0.o [wd 1] 1 rfl (by have:=HM.o;simp only[zMM,zMR,zNb] at this ⊢;omega) _ rfl).mono ?_;rintro e w1 ⟨rfl,H1⟩)|(go_at_call 192;refine (zm8 S 1 (wd 1) hwd _ (Kn.ln HK.o H0.o.drew (by omega)).gl).mono ?_;rintro e wx ⟨rfl,rfl⟩));all_goals first|go_end0|refine bodyPost_ret (results_none rfl _ _ _) rfl ?_
 all_goals exact⟨rfl,H1⟩
theorem zvH (hk:t.k=2):zvc S t:=by
 intro lb B N w0 tv0 W ts v hN h21 hT hKn h hm;obtain⟨b,_,_,rfl,_⟩:=hT.ptr;refine zx4 hN hT hKn h21 h ([wd 2]) (by unfold exW;rw[zM1 (by omega),zM2 (by omega),hk]) hm ?_;intro wb tv hWz hbz htw H0 HT HK HX HKp HM;obtain⟨p0,q0,c0,c2,c4⟩:=HKp.o _ _ H0.o;go_enter func158,ntmps158;go_upto_region 1 with fail;rw[hk] at c0 HKp;have hwd:zcY[2]?=some (wd 2):=zvo (by omega);go_upto_region 9 with fail;go_region_held3 (λw'=>w'.cell? (xD W.heap.size 0)=some (xP lb)/\w'.cell? (xD (W.heap.size+1) 0)=some (xP b)/\w'.cell? (xD b 0)=some (xI 2)) (first|go_keep|exact⟨(HKp.o _ _ H1).1,(HKp.o _ _ H1).2.1,(HKp.o _ _ H1).2.2.1⟩) (first|(go_at_call 89;refine (zu2 H0.o [wd 2] 1 rfl (by have:=HM.o;simp only[zMM,zMR,zNb] at this ⊢;omega) _ rfl).mono ?_;rintro e w1 ⟨rfl,H1⟩)|(go_at_call 192;refine (zm8 S 2 (wd 2) hwd _ (Kn.ln HK.o H0.o.drew (by omega)).gl).mono ?_;rintro e wx ⟨rfl,rfl⟩));all_goals first|go_end0|refine bodyPost_ret (results_none rfl _ _ _) rfl ?_
 all_goals exact⟨rfl,H1⟩
theorem zvQ (hk:t.k=0)(hn:t.n<=9223372036854775807):zvc S t:=by
 intro lb B N w0 tv0 W ts v hN h21 hT hKn h hm;obtain⟨b,_,_,rfl,_⟩:=hT.ptr;refine zx4 hN hT hKn h21 h ([zwd t.n]) (by unfold exW;rw[zM2 hk]) hm ?_;intro wb tv hWz hbz htw H0 HT HK HX HKp HM;obtain⟨p0,q0,c0,c2,c4⟩:=HKp.o _ _ H0.o;go_enter func158,ntmps158;go_upto_region 1 with fail;rw[hk] at c0 HKp;have HFm:Hid (∀W',Kn S W'->xK 191 #[xI t.n,xI 10] W' λe w'=>e=.returned (.string (zwd t.n))/\xB W' w'):=by intro W' hK';refine (Tryz.strconv_FormatInt_10 (t.n:Int) (by omega) (by omega) W' hK'.tab).mono ?_;rintro e w' ⟨rfl,k,os,rfl⟩;exact⟨rfl,Lib.below_grow _ W' (zMK _) k os⟩
 go_upto_region 6 with fail;go_region_held3 (λw'=>w'.cell? (xD W.heap.size 0)=some (xP lb)/\w'.cell? (xD (W.heap.size+1) 0)=some (xP b)/\w'.cell? (xD b 4)=some (xI t.n)) (first|go_keep|exact⟨(HKp.o _ _ H1).1,(HKp.o _ _ H1).2.1,(HKp.o _ _ H1).2.2.2.2⟩|exact⟨(HKp.o _ _ HF.o).1,(HKp.o _ _ HF.o).2.1,(HKp.o _ _ HF.o).2.2.2.2⟩|exact⟨(HKp.o _ _ (HF.o.alloc _)).1,(HKp.o _ _ (HF.o.alloc _)).2.1,(HKp.o _ _ (HF.o.alloc _)).2.2.2.2⟩) (first|(go_at_call 89;refine (zu0 HF.o [zwd t.n] 1 rfl (by have:=HM.o;simp only[zMM,zMR,zNb] at this ⊢;omega) _ rfl).mono ?_;rintro e w1 ⟨rfl,H1⟩)|(go_at_call 191;refine (HFm.o _ (Kn.ln HK.o H0.o.drew (by omega))).mono ?_;rintro e wf ⟨rfl,hBf⟩;have HF:=za (H0.o.drew.bel hBf)));all_goals first|go_end0|refine bodyPost_ret (results_none rfl _ _ _) rfl ?_
 all_goals exact⟨rfl,H1⟩
theorem zvE (hk:t.k=4)(HE:∀u∈t.ts,zvc S u)(hl6:t.ts.length<=10000000000):zvc S t:=by
 intro lb B N w0 tv0 W ts v hN h21 hT hKn h hm;obtain⟨b,_,_,rfl,_⟩:=hT.ptr;refine zx4 hN hT hKn h21 h ([t.s]++zu5 (exL t.ts)) (by unfold exW;rw[zM1 (by omega),zM1 (by omega),zM1 (by omega),zM2 hk]) hm ?_;intro wb tv hWz hbz htw H0 HT HK HX HKp HM;obtain⟨p0,q0,c0,c2,c4⟩:=HKp.o _ _ H0.o;go_enter func158,ntmps158;go_upto_region 1 with fail;rw[hk] at c0 HKp;go_upto_region 13 with fail;go_region_held3 (λw'=>w'.cell? (xD W.heap.size 0)=some (xP lb)/\w'.cell? (xD (W.heap.size+1) 0)=some (xP b)/\w'.cell? (xD b 2)=some (.string t.s)) (first|go_keep|exact⟨(HKp.o _ _ H1).1,(HKp.o _ _ H1).2.1,(HKp.o _ _ H1).2.2.2.1⟩) (first|(go_at_call 89;refine (zu2 H0.o [t.s] 1 rfl (by have:=HM.o;simp only[zMM,zMR,zNb] at this ⊢;omega) _ rfl).mono ?_;rintro e w1 ⟨rfl,H1⟩));obtain⟨wz,hwz⟩:∃wz,wz=w1:=⟨_,rfl⟩;obtain⟨p0',q0',c0',c2',c4'⟩:=HKp.o _ _ H1;obtain⟨bb,args,vs,ebb,hbN,hblk,hown,hlen,_,hgs⟩:=HT.o.ptr;cases ebb;obtain⟨_,_,_,_,_,c5,_,bz'⟩:=zt hblk;obtain⟨xa,cpa,rfl⟩:=zB hown;rw[hlen] at c5;have HKq:Hid (∀(w':Xw) (ts':Xl),LnI lb B wb tv w' ts'->xC w' b 5 (.slice xa t.ts.length cpa)):=λw' ts' h'=>(zuZ (h'.old hN) hbN).trans c5;have c5':=HKq.o _ _ H1;have hLi:Hid (∀W',LnI lb B wb tv W' (ts++[t.s])->xK 90 #[xP lb,xI t.ts.length,.func (.func 193) #[] #[xP W.heap.size,xP (W.heap.size+1)]] W' (zu1 lb B wb tv (ts++[t.s]++zu5 (exL t.ts)))):=by
  intro W' h';have:=zvq (lb:=lb) (B:=B) (w0:=wb) (tv0:=tv) 193 #[xP W.heap.size,xP (W.heap.size+1)] zwC (exL t.ts) (λi u hu W'' ts'' h'' hm''=>?_) W' (ts++[t.s]) h' (by have:=HM.o;simp only[zMM,zMR,zNb] at this ⊢;omega) (by rw[zv4];exact hl6)
  . rw[zv4] at this;exact this
  rw[zvt,List.getElem?_map,Option.map_eq_some_iff] at hu;obtain⟨x,hx,rfl⟩:=hu;exact zwm h'' hN h21 HT.o HK.o HX.o i hx (HE x (zML hx)) hm'' hl6
 have hmf:∀(fn:Go.Fn) (first cap:Xa) (w:Xw),(Instr.makeFunc fn first cap).run prog w=.ok (.func fn first cap) w:=λ_ _ _ _=>rfl;obtain⟨L,hL⟩:∃L,t.ts.length=L:=⟨_,rfl⟩;rw[hL] at c5' hLi hl6 HKq;have hb1z:W.heap.size+1<w1.heap.size:=by have:=H1.size;omega
 go_upto_region 14 with fail;go_region_held3 (λw'=>w'.cell? (xD W.heap.size 0)=some (xP lb)/\w'.cell? (xD (W.heap.size+1) 0)=some (xP b)/\w'.cell? (xD b 5)=some (.slice xa L cpa)) (first|go_keep|exact⟨(HKp.o _ _ H2).1,(HKp.o _ _ H2).2.1,HKq.o _ _ H2⟩) (first|(go_at_call 90;refine (hLi.out _ H1.drew).mono ?_;rintro e w2 ⟨rfl,H2⟩));all_goals first|go_end0|refine bodyPost_ret (results_none rfl _ _ _) rfl ?_
 all_goals exact⟨rfl,by simpa [zMQ] using H2⟩
theorem zv1 (h5:5<=t.k)(hO:zx5 S t):zvc S t:=by
 intro lb B N w0 tv0 W ts v hN h21 hT hKn h hm;obtain⟨b,_,_,rfl,_⟩:=hT.ptr;refine zx4 hN hT hKn h21 h ([lpW]++(opW t.k t.s (t.ts.map Tm.k) (exL t.ts)++[rpW])) (by unfold exW;rw[zM1 (by omega),zM1 (by omega),zM1 (by omega),zM1 (by omega)]) hm ?_;intro wb tv hWz hbz htw H0 HT HK HX HKp HM;obtain⟨p0,q0,c0,c2,c4⟩:=HKp.o _ _ H0.o;go_enter func158,ntmps158;go_upto_region 1 with fail;have HOp:Hid (∀W' ts',LnI lb B wb tv W' ts'->(ts'++opW t.k t.s (t.ts.map Tm.k) (exL t.ts)).length<=10000000000->xK 194 #[xP lb,xP b] W' (zu1 lb B wb tv (ts'++opW t.k t.s (t.ts.map Tm.k) (exL t.ts)))):=λW' ts' h' hm'=>hO lb B N wb tv W' ts' _ hN h21 HT.o HK.o h' hm';have m0:¬((t.k:Int)=0):=by omega
 have m1:¬((t.k:Int)=1):=by omega
 have m2:¬((t.k:Int)=2):=by omega
 have m3:¬((t.k:Int)=3):=by omega
 have m4:¬((t.k:Int)=4):=by omega
 obtain⟨O,HO⟩:∃O,opW t.k t.s (t.ts.map Tm.k) (exL t.ts)=O:=⟨_,rfl⟩;rw[HO] at HOp HM;have tk:=trivial;go_wp2_with (clear tk;go_at_call 89;refine (zu0 H0.o [lpW] 1 rfl (by have:=HM.o;simp only[zMM,zMR,zNb] at this ⊢;omega) _ rfl).mono ?_);rintro e w1 ⟨rfl,H1⟩;obtain⟨p1,q1,_,_,_⟩:=HKp.o _ _ H1;have tk:=trivial;go_wp2_with (clear tk;go_at_call 194;refine (HOp.o _ _ H1 (by have:=HM.o;simp only[zMM,zMR,zNb] at this ⊢;omega)).mono ?_);rintro e w2 ⟨rfl,H2⟩;obtain⟨p2,q2,_,_,_⟩:=HKp.o _ _ H2;have tk:=trivial;go_wp2_with (clear tk;go_at_call 89;refine (zu0 H2 [rpW] 1 rfl (by have:=HM.o;simp only[zMM,zMR,zNb] at this ⊢;omega) _ rfl).mono ?_;rintro e w3 ⟨rfl,H3⟩);first|go_end0|refine bodyPost_ret (results_none rfl _ _ _) rfl ?_
 exact⟨rfl,by have hh:=H3;rw[<- HO] at hh;simpa [zMQ] using hh⟩
theorem zwI (S:Xs):∀t:Tm,Wf t->nmB t=true->szT t<=10000000000->zvc S t:=by
 intro t;induction t using Tm.ind with
 | h k a s nm n ts ih =>
   intro hW hn hz;have har:=hW.ar;have hn':n<=9223372036854775807/\nmL ts=true:=(by unfold nmB at hn;rw[Bool.and_eq_true,decide_eq_true_eq] at hn;exact hn);have hsz:szL ts<10000000000:=(by simp only[szT] at hz;omega);have hE:∀u∈ts,zvc S u:=λu hu=>ih u hu (hW.sub hu) (zxp hn'.2 hu) (by have:=zkw hu;omega);have hlen:ts.length<=10000000000:=(by have:=zv3 ts;omega);have hk:k=0∨k=1∨k=2∨k=3∨k=4∨5<=k:=(by omega);rcases hk with rfl|rfl|rfl|rfl|rfl|hk
   . exact zvQ (t:=.mk 0 a s nm n ts) rfl hn'.1
   . exact zvU (t:=.mk 1 a s nm n ts) rfl
   . exact zvH (t:=.mk 2 a s nm n ts) rfl
   . exact zvS (t:=.mk 3 a s nm n ts) rfl
   . exact zvE (t:=.mk 4 a s nm n ts) rfl hE hlen
   exact zv1 (t:=.mk k a s nm n ts) hk (zvF hE har hk)
end
section
variable {N:Nat} {c:Sc} {ev nv:Xv} {w:Xw}
attribute [local go_sem ↓] Go.wp_at_zero Go.wp_at_succ
structure zdA (w:Xw) (N:Nat) (ts:List Tm) (v:Xv):Prop where
 ex:∃a cp,v=.slice a ts.length cp/\ts.length<=cp/\cp<=9223372036854775807/\(ts≠[]->∃g o,a=some (xD g o)/\g<N/\∀i u,ts[i]?=some u->∃ub,w.cell? (xD g (o+i))=some (xP ub)/\TT w N u (xP ub))
theorem zdA.old {w w':Xw}{ts:List Tm}{v:Xv}(h:zdA w N ts v)(ho:Old N w w'):zdA w' N ts v:=by obtain⟨a,cp,h1,h2,h3,h4⟩:=h.ex;refine⟨a,cp,h1,h2,h3,λhne=>?_⟩;obtain⟨g,o,h5,h6,h7⟩:=h4 hne;refine⟨g,o,h5,h6,λi u hi=>?_⟩;obtain⟨ub,h8,h9⟩:=h7 i u hi;exact⟨ub,(World.cell?_of_block (w:=w) (ho g h6)).trans h8,h9.old ho⟩
theorem zkm {t:Tm}{args:Xv}{vs:Xm}(hown:w.ownsRow 0 182 1 args vs.length vs)(hl:vs.length=t.ts.length)(hs:∀(i:Nat) (u:Tm) (x:Xv),t.ts[i]?=some u->vs[i]?=some x->TT w N u x)(hg:∀g,args.ownBlock=some g->g<N):zdA w N t.ts args:=by
 obtain⟨x,cp,rfl⟩:=zB hown;have hcp:vs.length<=cp/\cp<=9223372036854775807:=by
  rcases hown.2 with ⟨e,h⟩|⟨g,cap,cur,hv,_,_,h3,h4,_⟩
  . simp only[Value.slice.injEq] at e;omega
  cases hv;unfold maxLen at h4;exact⟨h3,by omega⟩
 refine⟨x,cp,by rw[hl],by omega,hcp.2,λhne=>?_⟩;have h0:0<vs.length:=by rw[hl];exact List.length_pos_iff.2 hne
 obtain⟨g,cap,hv,_⟩:=zM hown h0;cases hv;refine⟨g,0,rfl,hg g rfl,λi u hu=>?_⟩;have hi:=(zMJ.1 hu).1;have hv:vs[i]?=some vs[i]:=zsc (by omega);have hc:=zhv hown hv;have ht:=hs i u _ hu hv;obtain⟨ub,_,_,e,_⟩:=ht.ptr;rw[e] at hc ht;exact⟨ub,by rw[Nat.zero_add];exact hc,ht⟩
theorem zkY (c:Sc)(ty:Nat)(t:Tm)(l:List Tm):zcv c ty (t::l)=(zaj c t==ty&&zcv c ty l):=rfl
theorem zhS (hc:zbr c)(ty:Nat)(ts:List Tm)(v:Xv)(w:Xw)(HA:zdA w N ts v)(HSc:ScV w N c ev nv)(hN:N<=w.heap.size)(HO:∀t∈ts,zdg c t) :
 xK 172 #[.agg #[ev,nv],xI ty,v] w (λe w'=>e=.returned (.bool (zcv c ty ts))/\xB w w'):=by
 obtain⟨x,cp,rfl,hcp,hmx,_⟩:=HA.ex;obtain⟨xe,cpe,nb,rfl,rfl,hnb⟩:=HSc.shape;go_enter func172,ntmps172;go_wp2_with fail;go_loopg [11] (ts.length+1) (λj i wr=>∃k:Nat,k+j=ts.length+1/\k<=ts.length/\i=xI k/\Hid (zcv c ty (ts.drop k)=zcv c ty ts)/\Hid (xH wr w.heap.size #[xE xe c cpe,xP nb] 216)/\Hid (xB w wr));case atStart=>exact⟨0,by omega,zMN _,rfl,rfl,zc w _,zq w _⟩
 case round =>
  obtain⟨k,hkj,hk,rfl,HS,HX,HB⟩:=hrel;obtain⟨s0,s1,sf,sz⟩:=zp HX.o;by_cases hlt:k<ts.length
  . obtain⟨t,ht⟩:∃t,ts[k]?=some t:=⟨_,zsc hlt⟩;obtain⟨x',cp',e1,_,_,hin⟩:=(HA.old (zm HB.o hN)).ex;cases e1;obtain⟨g,o,rfl,hgN,hat⟩:=hin (by intro e;rw[e] at hlt;simp at hlt);obtain⟨ub,hcu,hTu⟩:=hat k t ht;have HT:=za (zcQ hc t (xP ub) wr hTu (HSc.old (zm HB.o hN)) (by have:=HB.o.size;omega) (HO t (zML ht)));have hd:ts.drop k=t::ts.drop (k+1):=by obtain⟨e1,e2⟩:=zMJ.1 ht;rw[zMT e1,e2]
    have hS:=HS.o;rw[hd,zkY] at hS;have hzr:=HB.o.size;by_cases hq:zaj c t=ty
    . have hq':((zaj c t:Int) != (ty:Int))=false:=(by simp[hq]);have HS2:Hid (zcv c ty (ts.drop (k+1))=zcv c ty ts):=(by unfold Hid;rw[<- hS];simp[hq]);go_wp2_with (go_at_call 171;refine HT.o.mono ?_;rintro e w1 ⟨rfl,HB1⟩);go_roundg (gk-1);case measure=>omega
      exact⟨k+1,by omega,by omega,by go_num,HS2.o,(HB1.block _ sz).trans HX.o,HB.o.trans (HB1.mono hzr)⟩
    have hq':((zaj c t:Int) != (ty:Int))=true:=(by simp;omega);have HS2:Hid (zcv c ty ts=false):=(by unfold Hid;rw[<- hS];simp[hq]);go_wp2_with (go_at_call 171;refine HT.o.mono ?_;rintro e w1 ⟨rfl,HB1⟩);go_ret;exact⟨by rw[HS2.o];rfl,HB.o.trans (HB1.mono hzr)⟩
  have hS:zcv c ty ts=true:=by rw[<- HS.o,List.drop_of_length_le (by omega)];rfl
  have HS2:=za hS;go_wp2_with fail;go_ret;exact⟨by rw[HS2.o];rfl,HB.o⟩
theorem zky (a b:Nat):Ending.returned (.bool ((a:Int)==(b:Int)))=Ending.returned (.bool (a==b)):=by
 have:((a:Int)==(b:Int))=(a==b):=by rw[Bool.eq_iff_iff];simp;omega
 rw[this]
theorem zfS (hc:zbr c)(t1 t2:Tm)(ts:List Tm)(v:Xv)(w:Xw)(hA:zdA w N (t1::t2::ts) v)(HSc:ScV w N c ev nv)(hN:N<=w.heap.size)(hO1:zdg c t1)(hO2:zdg c t2) :
 xK 173 #[.agg #[ev,nv],v] w (λe w'=>e=.returned (.bool (zc9 c (t1::t2::ts)))/\xB w w'):=by
 obtain⟨x,cp,rfl,hcp,hmx,hin⟩:=hA.ex;obtain⟨g,o,rfl,hgN,hat⟩:=hin (by simp);obtain⟨u1,c1,T1⟩:=hat 0 t1 rfl;obtain⟨u2,c2,T2⟩:=hat 1 t2 rfl;obtain⟨xe,cpe,nb,rfl,rfl,hnb⟩:=HSc.shape;have HT1:=za (λW (HB:xB w W)=>zcQ hc t1 (xP u1) W (T1.old (zm HB hN)) (HSc.old (zm HB hN)) (by have:=HB.size;omega) hO1);have HT2:=za (λW (HB:xB w W)=>zcQ hc t2 (xP u2) W (T2.old (zm HB hN)) (HSc.old (zm HB hN)) (by have:=HB.size;omega) hO2);have HE:Hid (zc9 c (t1::t2::ts)=(zaj c t1==zaj c t2)):=by unfold Hid zc9;rw[zbh,zbh,zbh]
 have hgz:g<w.heap.size:=by omega
 rw[Nat.add_zero] at c1;generalize zaj c t1=y1 at *;generalize zaj c t2=y2 at *;have a0:((xD g o):Addr).add 0=⟨g,o,none⟩:=by simp[Addr.add]
 have a1:((xD g o):Addr).add 1=⟨g,o+1,none⟩:=by simp[Addr.add]
 have n0:0<(t1::t2::ts).length:=by simp
 have n1:1<(t1::t2::ts).length:=by simp
 have l0:(0:Int)<((t1::t2::ts).length:Int):=by simp;omega
 have l1:(1:Int)<((t1::t2::ts).length:Int):=by simp;omega
 generalize (t1::t2::ts).length=nn at *;go_enter func173,ntmps173;go_upto_region 1 with fail;refine zn (λW=>(xH W w.heap.size #[xE xe c cpe,xP nb] 216)/\xB w W) ⟨zc w _,zq w _⟩ ?_;rintro W ⟨hs,HB⟩;obtain⟨s0,s1,sf,sz⟩:=zp hs;have c1':=zd HB c1 hgz;have c2':=zd HB c2 hgz;have hzW:=HB.size;have HD1:=za (HT1.o W.drew (zo HB))
 go_region_held3 (λw'=>w'.cell? (xD w.heap.size 0)=some (xE xe c cpe)/\w'.cell? (xD w.heap.size 1)=some (xP nb)/\w'.cell? (xD g o)=some (xP u1)/\w'.cell? (xD g (o+1))=some (xP u2))
  (first|(with_reducible (refine⟨?_,?_,?_,?_⟩ <;> repeat (first|assumption|refine zg ?_|refine zj _ ?_|refine zk (by omega) ?_|refine zd HB2.o ?_ (by first|omega|(rw[zsb];omega))|refine zd HB1.o ?_ (by first|omega|(rw[zsb];omega)))))|go_keep)
  (first
    | (go_at_call 171;refine HD2.o.mono ?_;rintro e w2 ⟨rfl,hB2⟩;have HB2:=za hB2)
    | (go_at_call 171;refine HD1.o.mono ?_;rintro e w1 ⟨rfl,hB1⟩;have HB1:=za (zw hB1);(have hzw1:W.heap.size<=w1.heap.size:=hB1.size);have HD2:=za (HT2.o w1 (HB.trans (HB1.o.mono hzW)))))
 all_goals go_wp2_with fail
 all_goals go_ret
 all_goals exact⟨by rw[HE.o];exact zky y1 y2,(HB.trans (HB1.o.mono hzW)).trans (HB2.o.mono (by omega))⟩
end
section
variable {N k:Nat} {c:Sc} {t:Tm} {v:Xv}
attribute [local go_sem ↓] Go.wp_at_zero Go.wp_at_succ
theorem zo0 {n:Nat}(h:arB k n=true):k<=23:=by
 rcases Nat.lt_or_ge 23 k with h'|h'
 . exfalso;unfold arB at h;simp only[show ¬k<=3 by omega,show ¬k=4 by omega,show ¬k=5 by omega,show ¬k=6 by omega,show ¬k<=8 by omega,show ¬k=9 by omega,show ¬k<=11 by omega,show ¬k<=23 by omega,if_false] at h;cases h
 exact h'
theorem zmE (w:Xw)(h:TT w N t v)(ha:arB t.k t.ts.length=true) :
 xK 174 #[v] w (λe w'=>e=.returned (.bool (zcG t))/\w=w'):=by
 obtain⟨b,args,vs,rfl,hb,hblk,hown,hlen,hsub,_⟩:=h.ptr;obtain⟨h0,h1,h2,h3,h4,h5,hf,hz⟩:=zt hblk;obtain⟨k,a,s,nm,n,ts⟩:=t;simp only[Tm.k,Tm.ts] at *;have h23:=zo0 ha;by_cases h10:k=10
 . subst h10;have hl:0<ts.length:=by simp[arB] at ha;omega
   obtain⟨u,hu⟩:∃u,ts[0]?=some u:=⟨_,zsc hl⟩;obtain⟨xa,cpa,rfl⟩:=zB hown;rw[hlen] at h5 hown;obtain⟨g,ub,rfl,hcu,hTu,_⟩:=TT.arg (t:=.mk 10 a s nm n ts) hown hlen hsub hu;obtain⟨_,_,_,e,_,hub,_⟩:=hTu.ptr;cases e;obtain⟨k0,_⟩:=zt hub;have he:zcG (.mk 10 a s nm n ts)=(u.k==0):=by
    unfold zcG;cases ts with
    | nil=>simp at hl
    | cons x ts=>simp at hu;subst hu;simp[Tm.k,Tm.ts]
   have HE:=za he;generalize u.k=uk at *;by_cases h0':uk=0
   . subst h0';go_enter func174,ntmps174;go_wp2_with fail;go_ret;exact⟨by rw[HE.o];rfl,rfl⟩
   have d0:((uk:Int)==0)=false:=(by simp;omega);go_enter func174,ntmps174;go_wp2_with fail;go_ret;exact⟨by rw[HE.o];simp[h0'],rfl⟩
 have hc:k=0∨k=1∨k=2∨(k≠0/\k≠1/\k≠2):=by omega
 rcases hc with rfl|rfl|rfl|⟨c1,c2,c3⟩
 . go_enter func174,ntmps174;go_wp2_with fail;go_ret;exact⟨rfl,rfl⟩
 . go_enter func174,ntmps174;go_wp2_with fail;go_ret;exact⟨rfl,rfl⟩
 . go_enter func174,ntmps174;go_wp2_with fail;go_ret;exact⟨rfl,rfl⟩
 have d1:((k:Int)==0)=false:=by simp;omega
 have d2:((k:Int)==1)=false:=by simp;omega
 have d3:((k:Int)==2)=false:=by simp;omega
 have d4:((k:Int)==10)=false:=by simp;omega
 have HE:Hid (zcG (.mk k a s nm n ts)=false):=by unfold Hid zcG;exact (zM1 (show ¬(k=0∨k=1∨k=2) by omega)).trans (zM1 (show ¬k=10 from h10))
 go_enter func174,ntmps174;go_wp2_with fail;go_ret;exact⟨by rw[HE.o];rfl,rfl⟩
def zci (k:Nat):Bool:=zaJ k&&k != 3
theorem zj3 (w:Xw)(h:TT w N t v) :
 xK 130 #[v] w (λe w'=>e=.returned (.bool (zci t.k))/\w=w'):=by
 have HN:=za (zf2 w h);obtain⟨b,args,vs,rfl,hb,hblk,_⟩:=h.ptr;obtain⟨h0,h1,h2,h3,h4,h5,hf,hz⟩:=zt hblk;generalize t.k=k at *;cases hn:zaJ k with
 | false => rw[hn] at HN;have HE:Hid (zci k=false):=(by unfold Hid zci;rw[hn];rfl);go_enter func130,ntmps130;go_wp2_with (go_at_call 124;refine HN.o.mono ?_;rintro e w1 ⟨rfl,rfl⟩);go_ret;exact⟨by rw[HE.o];rfl,rfl⟩
 | true =>
   rw[hn] at HN;by_cases h3':k=3
   . subst h3';go_enter func130,ntmps130;go_wp2_with (go_at_call 124;refine HN.o.mono ?_;rintro e w1 ⟨rfl,rfl⟩);go_ret;exact⟨rfl,rfl⟩
   have d1:((k:Int) != 3)=true:=(by simp;omega);have HE:Hid (zci k=true):=(by unfold Hid zci;rw[hn];simp[h3']);go_enter func130,ntmps130;go_wp2_with (go_at_call 124;refine HN.o.mono ?_;rintro e w1 ⟨rfl,rfl⟩);go_ret;exact⟨by rw[HE.o];rfl,rfl⟩
theorem ze3 {ts:List Tm}{vs:List Vr}{v:Vr}(ht:ts[k]?=some t)(hv:vs[k]?=some v):zaQ c (ts.drop k) (vs.drop k)=if (zaj c t != tyV v)=true then false else zaQ c (ts.drop (k+1)) (vs.drop (k+1)):=by obtain⟨h1,h2⟩:=zMJ.1 ht;obtain⟨h3,h4⟩:=zMJ.1 hv;rw[zMT h1,zMT h3,h2,h4];rfl
theorem zlM {d:Sc}{ev nv:Xv}(hc:zbr c)(t:Tm)(v:Xv)(w:Xw)(hT:TT w N t v)(HSc:ScV w N c ev nv)(hN:N<=w.heap.size)(HO:zdg c t)(hd:c.called t.s=some d)(hdi:d.nd.ins=t.ts.length) :
 xK 175 #[.agg #[ev,nv],v] w (λe w'=>e=.returned (.bool (zaQ c t.ts d.nd.vars))/\xB w w'):=by
 obtain⟨b,args,vs,rfl,hb,HBk,hown,hlen,hsub,hgs⟩:=hT.ptr;have hdw:=(hc.called hd).1.nd;have HA:=za (zkm hown hlen hsub hgs);obtain⟨xa,cpa,rfl⟩:=zB hown;obtain⟨xe,cpe,nb,rfl,rfl,hnb⟩:=HSc.shape;have hbz:=ze HBk;rw[hlen] at HBk HA;have hio:=hdw.io;have hou:=hdw.outs;have hfw:=hdw.few;go_enter func175,ntmps175;go_upto_region 1 with fail;refine zn (λW=>W.heap[w.heap.size]?=some (.cells #[xE xe c cpe,xP nb] 216 (0,0))/\xB w W) ⟨zc w _,zq w _⟩ ?_;rintro W ⟨Hs,HB⟩;obtain⟨s0,s1,sf,sz⟩:=zp Hs;obtain⟨m0,m1,m2,m3,m4,m5,mf,mz⟩:=zt ((HB.block b hbz).trans HBk);have hzW:=HB.size;have PRE:∀W,xB w W->ScV W N c (xE xe c cpe) (xP nb):=λW HB=>HSc.old (zm HB hN);have HC1:=za (zah t.s (t.nm:Int) W.drew (PRE W.drew (zo HB)) (by show N<=W.heap.size;omega) hc.few hd);have HC2:=za (λo=>zah t.s (t.nm:Int) (W.alloc o).drew (PRE _ (zo (HB.alloc (by omega) o))) (by show N<=(W.alloc o).heap.size;simp;omega) hc.few hd)
 go_region_held3 (λw'=>w'.cell? (xD w.heap.size 0)=some (xE xe c cpe)/\w'.cell? (xD w.heap.size 1)=some (xP nb)/\w'.cell? (xD b 2)=some (.string t.s)/\w'.cell? (xD b 3)=some (xI t.nm))
  (first|(with_reducible (refine⟨?_,?_,?_,?_⟩ <;> repeat (first|assumption|refine zg ?_|refine zj _ ?_|refine zk (by omega) ?_|refine zd HB1.o ?_ (by first|omega|(rw[zsb];omega)))))|go_keep)
  (first
    | (go_at_call 119;refine HC1.o.mono ?_;rintro e w1 ⟨x2,cp2,n2,rfl,hsc,hB1⟩;have HB1:=za (zw hB1);have HS2:=za hsc)
    | (go_at_call 119;refine (HC2.o _).mono ?_;rintro e w1 ⟨x2,cp2,n2,rfl,hsc,hB1⟩;have HB1:=za (zw hB1);have HS2:=za hsc;obtain⟨y0,y1,yf,yz⟩:=zp ((HB1.o.block W.heap.size (by rw[zsb];omega)).trans (zc W _))))
 all_goals go_upto_region 2 with fail
 refine zn (λW2=>Got w N d w1.heap.size n2 x2 cp2 W2/\xH W2 w.heap.size #[xE xe c cpe,xP nb] 216) ⟨zow HB HB1.o HS2.o hN,(Below.heap_alloc _ _ _ (by have:=HB1.o.size;omega)).trans ((HB1.o.block _ sz).trans Hs)⟩ ?_;generalize w1.heap.size=wz;rotate_left;refine zn (λW2=>Got w N d W.heap.size n2 x2 cp2 W2/\xH W2 w.heap.size #[xE xe c cpe,xP nb] 216) ⟨zos HB HB1.o HS2.o hN,(zr (by omega) rfl).trans ((zr (by omega) rfl).trans ((HB1.o.block _ (by rw[zsb];omega)).trans ((Below.heap_alloc _ _ _ sz).trans Hs)))⟩ ?_;generalize W.heap.size=wz
 all_goals
  rintro W2 ⟨HG,HSb⟩;obtain⟨t0,t1,tf,tz⟩:=zp HG.box;obtain⟨p0,p1,pf,pz⟩:=zp HSb;obtain⟨k0,k1,k2,k3,k4,k5,kf,kz⟩:=zt ((HG.bel.block b hbz).trans HBk);have hzz:=HG.bel.size;obtain⟨n2',vs2,qv2,xs2,e9,HNt⟩:=HG.sc.nd;cases e9;obtain⟨xv,cpv,rfl⟩:=zB HNt.vown;have hn2:=HNt.lo;obtain⟨_,_,e1,_,h16,_⟩:=HA.o.ex;simp only[Value.slice.injEq] at e1;obtain⟨rfl,_,rfl⟩:=e1;go_wp2_with fail;go_loopg [24] (t.ts.length+1) (λj i wr=>∃k:Nat,k+j=t.ts.length+1/\k<=t.ts.length/\i=xI k/\Hid (zaQ c (t.ts.drop k) (d.nd.vars.drop k)=zaQ c t.ts d.nd.vars)/\Hid (xB W2 wr));case atStart=>exact⟨0,by omega,zMN _,rfl,rfl,Below.refl _ _⟩
  case round =>
   obtain⟨k,hkj,hk,rfl,HS,HBr⟩:=hrel;have hBw:xB w wr:=HG.bel.trans (HBr.o.mono hzz);have hzr:=HBr.o.size;by_cases hlt:k<t.ts.length
   . obtain⟨u,hu⟩:∃u,t.ts[k]?=some u:=⟨_,zsc hlt⟩;obtain⟨v,hv⟩:∃v,d.nd.vars[k]?=some v:=⟨_,zsc (by omega)⟩;obtain⟨x',cp',e1,_,_,hin⟩:=(HA.o.old (zm hBw hN)).ex;simp only[Value.slice.injEq] at e1;obtain⟨rfl,_,rfl⟩:=e1;obtain⟨g,o,rfl,hgN,hat⟩:=hin (by intro e;rw[e] at hlt;simp at hlt);obtain⟨ub,hcu,hTu⟩:=hat k u hu;have hnt2:=HNt.old (zm HBr.o (by omega:N<=W2.heap.size));obtain⟨gv,rfl,_,_,c2,_⟩:=zaM hnt2.vown hv;have hgv:=hnt2.vlo gv rfl;obtain⟨q0,q1,q2,q3,q4,q5,qf,qz⟩:=zt hnt2.blk;have b0:=zd HBr.o p0 pz;have b1:=zd HBr.o p1 pz;have d1:=zd HBr.o t1 tz;have HT:=za (zcQ hc u (xP ub) wr.drew (hTu.old (λ_ _=>rfl)) (HSc.old (w':=wr.drew) (zm (zo hBw) hN)) (by show N<=wr.heap.size;omega) (HO.sub (zML hu)));have hS:=ze3 (c:=c) hu hv;rw[HS.o] at hS;have i0:(0:Int)<=(k:Int):=(by omega);have i1:(k:Int)<(d.nd.vars.length:Int):=(by omega);have hty:tyV v=zaK v:=rfl;rw[hty] at hS;have hgvz:gv<wr.heap.size:=(by omega);have hnz:n2<wr.heap.size:=(by omega);generalize zaj c u=y1 at *;generalize zaK v=y2 at *;by_cases hq:y1=y2
     . have hq':((y1:Int) != (y2:Int))=false:=(by simp[hq]);rw[zM1 (by simp[hq])] at hS;have HS2:=za hS;go_upto_region 5 with fail
       go_region_held3 (λw'=>w'.cell? (xD w.heap.size 0)=some (xE xe c cpe)/\w'.cell? (xD w.heap.size 1)=some (xP nb)/\w'.cell? (xD wz 1)=some (xP n2)/\w'.cell? (xD n2 2)=some (xS gv d.nd.vars.length cpv)/\w'.cell? (xD gv (k*7+2))=some (xI y2))
        (first|(with_reducible (refine⟨?_,?_,?_,?_,?_⟩ <;> repeat (first|assumption|refine zg ?_|refine zj _ ?_|refine zk (by omega) ?_|refine zd HB1.o ?_ (by first|omega|(rw[zsb];omega)))))|go_keep)
        (first
          | (go_at_call 171;refine HT.o.mono ?_;rintro e w8 ⟨rfl,hB1⟩;have HB1:=za (zw hB1)))
       all_goals go_wp2_with fail
       all_goals
        go_roundg (gk-1);case measure=>omega
        exact⟨k+1,by omega,by omega,by go_num,HS2.o.symm,HBr.o.trans (HB1.o.mono hzr)⟩
     have hq':((y1:Int) != (y2:Int))=true:=(by simp;omega);rw[zM2 (by simp[hq])] at hS;have HS2:=za hS;go_upto_region 5 with fail
     go_region_held3 (λw'=>w'.cell? (xD w.heap.size 0)=some (xE xe c cpe)/\w'.cell? (xD w.heap.size 1)=some (xP nb)/\w'.cell? (xD wz 1)=some (xP n2)/\w'.cell? (xD n2 2)=some (xS gv d.nd.vars.length cpv)/\w'.cell? (xD gv (k*7+2))=some (xI y2))
      (first|(with_reducible (refine⟨?_,?_,?_,?_,?_⟩ <;> repeat (first|assumption|refine zg ?_|refine zj _ ?_|refine zk (by omega) ?_|refine zd HB1.o ?_ (by first|omega|(rw[zsb];omega)))))|go_keep)
      (first
        | (go_at_call 171;refine HT.o.mono ?_;rintro e w8 ⟨rfl,hB1⟩;have HB1:=za (zw hB1)))
     all_goals go_wp2_with fail
     all_goals go_ret
     all_goals exact⟨by rw[HS2.o];rfl,hBw.trans (HB1.o.mono (by omega))⟩
   have hS:zaQ c t.ts d.nd.vars=true:=(by rw[<- HS.o,List.drop_of_length_le (by omega)];rfl);have HS2:=za hS;go_wp2_with fail;go_ret;exact⟨by rw[HS2.o];rfl,hBw⟩
end
section
variable {ts:List Tm} {N cp n:Nat} {w:Xw}
attribute [local go_sem ↓] Go.wp_at_zero Go.wp_at_succ
theorem zdA.cut {a:Xp}(h:zdA w N ts (.slice a n cp)){k:Nat}(hk:k<=ts.length):zdA w N (ts.take k) (.slice a k cp):=by
 obtain⟨a',cp',h1,h2,h3,h4⟩:=h.ex;cases h1;have hl:(ts.take k).length=k:=by simp;omega
 refine⟨a,cp,by rw[hl],by omega,h3,λhne=>?_⟩;have hts:ts≠[]:=by intro e;subst e;simp at hne
 obtain⟨g,o,h5,h6,h7⟩:=h4 hts;refine⟨g,o,h5,h6,λi u hi=>h7 i u ?_⟩;rw[List.getElem?_take] at hi;split at hi
 . exact hi
 cases hi
theorem zaX {f:FuncId}{args:Xa}{v:Xv}(h:xK f args (w.drewN n) (λe w'=>e=.returned v/\w.drewN n=w')):xK f args (w.drewN n) (λe w'=>e=.returned v/\∃m,w'=w.drewN m):=h.mono λ_ _ h=>⟨h.1,n,h.2.symm⟩
theorem zdA.rest {t:Tm}{g o:Nat}(h:zdA w N (t::ts) (.slice (some (xD g o)) n cp)):zdA w N ts (.slice (some (xD g (o+1))) ts.length (cp-1)):=by obtain⟨a',cp',h1,h2,h3,h4⟩:=h.ex;cases h1;simp only[zMR] at h2;refine⟨_,cp-1,rfl,by omega,by omega,λhne=>?_⟩;obtain⟨g',o',h5,h6,h7⟩:=h4 (by simp);cases h5;refine⟨g,o+1,rfl,h6,λi u hi=>?_⟩;obtain⟨ub,h8,h9⟩:=h7 (i+1) u (by simpa using hi);exact⟨ub,by rw[show o+1+i=o+(i+1) by omega];exact h8,h9⟩
theorem ziU {c:Sc}{ev nv:Xv}(hc:zbr c)(t:Tm)(v:Xv)(w:Xw)(HTT:TT w N t v)(HSc:ScV w N c ev nv)(hN:N<=w.heap.size)(HO:zdg c t) :
 xK 131 #[.agg #[ev,nv],v] w (λe w'=>e=.returned (.bool (c.operands t))/\xB w w'):=by
 obtain⟨b,args,vs,rfl,hb,hblk,hown,hlen,hsub,hgs⟩:=HTT.ptr;have hA0:=zkm hown hlen hsub hgs;obtain⟨xa,cpa,rfl⟩:=zB hown;obtain⟨xe,cpe,nb,rfl,rfl,hnb⟩:=HSc.shape;have hbz:=ze hblk;obtain⟨o1,o2,o3⟩:=HO _ (zey za5 _);obtain⟨k,a,s,nm,n,ts⟩:=t;have hlen':vs.length=ts.length:=hlen;have hblk':w.heap[b]?=some (.cells #[xI k,xI a,.string s,xI nm,xI n,.slice xa ts.length cpa] 226 (0,0)):=by rw[<- hlen'];exact hblk
 have HBk:=za hblk';have HA:zdA w N ts (.slice xa ts.length cpa):=by rw[<- hlen'];exact hA0
 have HOs:∀u∈ts,zdg c u:=λu hu=>HO.sub hu;simp only[Tm.k,Tm.s,Tm.ts] at o1 o2 o3;have h23:=zo0 o3;obtain⟨h0,h1,h2,h3,h4,h5,hf,hz⟩:=zt hblk';have hmx:ts.length<=cpa/\cpa<=9223372036854775807:=by obtain⟨_,_,e,h2,h3,_⟩:=HA.ex;cases e;exact⟨h2,h3⟩
 have PRE:∀W,xB w W->ScV W N c (xE xe c cpe) (xP nb):=λW HB=>HSc.old (zm HB hN);have hcases:(k=10∨k=17∨k=18∨k=19∨k=20∨k=21∨k=22∨k=23)∨(k=11∨k=12∨k=13∨k=14)∨(k=15∨k=16∨k=6)∨k=5∨k=9∨k=4∨(k=0∨k=1∨k=2∨k=3∨k=7∨k=8):=by omega
 rcases hcases with hk|hk|hk|rfl|rfl|rfl|hk
 . rcases hk with rfl|rfl|rfl|rfl|rfl|rfl|rfl|rfl
   all_goals
    go_enter func131,ntmps131;go_upto_region 10 with fail;refine zn (λW=>(xH W w.heap.size #[xE xe c cpe,xP nb] 216)/\xB w W) ⟨zc w _,zq w _⟩ ?_;rintro W ⟨hs,HB⟩;obtain⟨s0,s1,sf,sz⟩:=zp hs;obtain⟨m0,m1,m2,m3,m4,m5,mf,mz⟩:=zt ((HB.block b hbz).trans HBk.o);have hzW:=HB.size;have HD:=za (zhS hc 0 ts (.slice xa ts.length cpa) W.drew (HA.old (zm (zo HB) hN)) (PRE W.drew (zo HB)) (by show N<=W.heap.size;omega) HOs)
    go_region_held3 (λw'=>w'.cell? (xD w.heap.size 0)=some (xE xe c cpe)/\w'.cell? (xD w.heap.size 1)=some (xP nb)/\w'.cell? (xD b 5)=some (.slice xa ts.length cpa))
     (first|(with_reducible (refine⟨?_,?_,?_⟩ <;> repeat (first|assumption|refine zg ?_|refine zj _ ?_|refine zk (by omega) ?_|refine zd HB1.o ?_ (by first|omega|(rw[zsb];omega)))))|go_keep)
     (first
       | (go_at_call 172;refine HD.o.mono ?_;rintro e w1 ⟨rfl,hB1⟩;have HB1:=za (zw hB1)))
    all_goals go_wp2_with fail
    all_goals go_ret
    all_goals exact⟨by rfl,HB.trans (HB1.o.mono (by omega))⟩
 . rcases hk with rfl|rfl|rfl|rfl
   all_goals
    go_enter func131,ntmps131;go_upto_region 15 with fail;refine zn (λW=>(xH W w.heap.size #[xE xe c cpe,xP nb] 216)/\xB w W) ⟨zc w _,zq w _⟩ ?_;rintro W ⟨hs,HB⟩;obtain⟨s0,s1,sf,sz⟩:=zp hs;obtain⟨m0,m1,m2,m3,m4,m5,mf,mz⟩:=zt ((HB.block b hbz).trans HBk.o);have hzW:=HB.size;have HD:=za (zhS hc 1 ts (.slice xa ts.length cpa) W.drew (HA.old (zm (zo HB) hN)) (PRE W.drew (zo HB)) (by show N<=W.heap.size;omega) HOs)
    go_region_held3 (λw'=>w'.cell? (xD w.heap.size 0)=some (xE xe c cpe)/\w'.cell? (xD w.heap.size 1)=some (xP nb)/\w'.cell? (xD b 5)=some (.slice xa ts.length cpa))
     (first|(with_reducible (refine⟨?_,?_,?_⟩ <;> repeat (first|assumption|refine zg ?_|refine zj _ ?_|refine zk (by omega) ?_|refine zd HB1.o ?_ (by first|omega|(rw[zsb];omega)))))|go_keep)
     (first
       | (go_at_call 172;refine HD.o.mono ?_;rintro e w1 ⟨rfl,hB1⟩;have HB1:=za (zw hB1)))
    all_goals go_wp2_with fail
    all_goals go_ret
    all_goals exact⟨by rfl,HB.trans (HB1.o.mono (by omega))⟩
 . rcases hk with rfl|rfl|rfl
   all_goals
    obtain⟨t1,t2,rest,rfl⟩:∃t1 t2 rest,ts=t1::t2::rest:=by
     rcases ts with _|⟨t1,_|⟨t2,rest⟩⟩
     . simp[arB] at o3
     . simp[arB] at o3
     exact⟨t1,t2,rest,rfl⟩
    go_enter func131,ntmps131;go_upto_region 19 with fail;refine zn (λW=>W.heap[w.heap.size]?=some (.cells #[xE xe c cpe,xP nb] 216 (0,0))/\xB w W) ⟨zc w _,zq w _⟩ ?_;rintro W ⟨hs,HB⟩;obtain⟨s0,s1,sf,sz⟩:=zp hs;obtain⟨m0,m1,m2,m3,m4,m5,mf,mz⟩:=zt ((HB.block b hbz).trans HBk.o);have hzW:=HB.size;have HD:=za (zfS hc t1 t2 rest (.slice xa (t1::t2::rest).length cpa) W.drew (HA.old (zm (zo HB) hN)) (PRE W.drew (zo HB)) (by show N<=W.heap.size;omega) (HOs t1 (by simp)) (HOs t2 (by simp)));generalize hnn:(t1::t2::rest).length=nn at *
    go_region_held3 (λw'=>w'.cell? (xD w.heap.size 0)=some (xE xe c cpe)/\w'.cell? (xD w.heap.size 1)=some (xP nb)/\w'.cell? (xD b 5)=some (.slice xa nn cpa))
     (first|(with_reducible (refine⟨?_,?_,?_⟩ <;> repeat (first|assumption|refine zg ?_|refine zj _ ?_|refine zk (by omega) ?_|refine zd HB1.o ?_ (by first|omega|(rw[zsb];omega)))))|go_keep)
     (first
       | (go_at_call 173;refine HD.o.mono ?_;rintro e w1 ⟨rfl,hB1⟩;have HB1:=za (zw hB1)))
    all_goals go_wp2_with fail
    all_goals go_ret
    all_goals exact⟨by rfl,HB.trans (HB1.o.mono (by omega))⟩
 . obtain⟨t1,t2,t3,rest,rfl⟩:∃t1 t2 t3 rest,ts=t1::t2::t3::rest:=by
    rcases ts with _|⟨t1,_|⟨t2,_|⟨t3,rest⟩⟩⟩
    . simp[arB] at o3
    . simp[arB] at o3
    . simp[arB] at o3
    exact⟨t1,t2,t3,rest,rfl⟩
   obtain⟨x9,cp9,e9,_,_,hin⟩:=HA.ex;cases e9;obtain⟨g,o,rfl,hgN,_⟩:=hin (by simp);have HE:Hid (c.operands (.mk 5 a s nm n (t1::t2::t3::rest))=(zcv c 1 [t1]&&zc9 c (t2::t3::rest))):=rfl;have HR:=za HA.rest;have HC:=za (HA.cut (k:=1) (by simp));have Hal:=za (λW (HB:xB w W)=>zhS hc 1 [t1] (.slice (some (xD g o)) 1 cpa) W (HC.o.old (zm HB hN)) (PRE W HB) (by have:=HB.size;omega) (λu hu=>HOs u (by simp at hu;simp[hu])));have Hak:=za (λW (HB:xB w W)=>zfS hc t2 t3 rest (.slice (some (xD g (o+1))) (t2::t3::rest).length (cpa-1)) W (HR.o.old (zm HB hN)) (PRE W HB) (by have:=HB.size;omega) (HOs t2 (by simp)) (HOs t3 (by simp)));have hl1:(t2::t3::rest).length=(t1::t2::t3::rest).length-1:=(by simp);rw[hl1] at Hak;have n3:3<=(t1::t2::t3::rest).length:=(by simp);generalize hnn:(t1::t2::t3::rest).length=nn at *;have j0:(1:Int)<=(nn:Int):=(by omega);have j1:(1:Int)<=(cpa:Int):=(by omega);have j2:¬(cpa=1):=(by omega);have j3:¬((cpa:Int)=1):=(by omega);have a1:((xD g o):Addr).add 1=⟨g,o+1,none⟩:=(by simp[Addr.add]);cases hb1:zcv c 1 [t1] with
   | true =>
     rw[hb1] at HE Hal;go_enter func131,ntmps131;go_upto_region 21 with fail;refine zn (λW=>(xH W w.heap.size #[xE xe c cpe,xP nb] 216)/\xB w W) ⟨zc w _,zq w _⟩ ?_;rintro W ⟨hs,HB⟩;obtain⟨s0,s1,sf,sz⟩:=zp hs;obtain⟨m0,m1,m2,m3,m4,m5,mf,mz⟩:=zt ((HB.block b hbz).trans HBk.o);have hzW:=HB.size;have HD1:=za (Hal.o W.drew (zo HB))
     go_region_held3 (λw'=>w'.cell? (xD w.heap.size 0)=some (xE xe c cpe)/\w'.cell? (xD w.heap.size 1)=some (xP nb)/\w'.cell? (xD b 5)=some (.slice (some (xD g o)) nn cpa))
      (first|(with_reducible (refine⟨?_,?_,?_⟩ <;> repeat (first|assumption|refine zg ?_|refine zj _ ?_|refine zk (by omega) ?_|refine zd HB2.o ?_ (by first|omega|(rw[zsb];omega))|refine zd HB1.o ?_ (by first|omega|(rw[zsb];omega)))))|go_keep)
      (first
        | (go_at_call 173;refine HD2.o.mono ?_;rintro e w2 ⟨rfl,hB2⟩;have HB2:=za hB2)
        | (go_at_call 172;refine HD1.o.mono ?_;rintro e w1 ⟨rfl,hB1⟩;have HB1:=za (zw hB1);(have hzw1:W.heap.size<=w1.heap.size:=hB1.size);have HD2:=za (Hak.o w1 (HB.trans (HB1.o.mono hzW)))))
     all_goals go_wp2_with fail
     all_goals go_ret
     all_goals exact⟨by rw[HE.o];rfl,(HB.trans (HB1.o.mono hzW)).trans (HB2.o.mono (by omega))⟩
   | false =>
     rw[hb1] at HE Hal;go_enter func131,ntmps131;go_upto_region 21 with fail;refine zn (λW=>(xH W w.heap.size #[xE xe c cpe,xP nb] 216)/\xB w W) ⟨zc w _,zq w _⟩ ?_;rintro W ⟨hs,HB⟩;obtain⟨s0,s1,sf,sz⟩:=zp hs;obtain⟨m0,m1,m2,m3,m4,m5,mf,mz⟩:=zt ((HB.block b hbz).trans HBk.o);have hzW:=HB.size;have HD1:=za (Hal.o W.drew (zo HB));refine wp_region_noPanic ?_;refine wp_region_held_drew (S:=(λw'=>w'.cell? (xD w.heap.size 0)=some (xE xe c cpe)/\w'.cell? (xD w.heap.size 1)=some (xP nb)/\w'.cell? (xD b 5)=some (.slice (some (xD g o)) nn cpa))) (by kernel_rfl) ?_ (λhHeld=>?_)
     . (try dsimp only);(first|(with_reducible (refine⟨?_,?_,?_⟩ <;> repeat (first|assumption|refine zg ?_|refine zj _ ?_|refine zk (by omega) ?_|refine zd HB1.o ?_ (by first|omega|(rw[zsb];omega)))))|go_keep)
     refine tkA 0 rfl (v:=?v1) (zM3 ⟨by rfl,?h1⟩) ?_;case h1=>(intro w hSw;(try dsimp only at hSw);go_simp;try with_reducible rfl)
     try simp only[Act.put,zx2]
     refine tkA 1 rfl (v:=?v2) (zM3 ⟨by rfl,?h2⟩) ?_;case h2=>(intro w hSw;(try dsimp only at hSw);go_simp;try with_reducible rfl)
     try simp only[Act.put,zx2]
     refine tkA 2 rfl (v:=?v3) (zM3 ⟨by rfl,?h3⟩) ?_;case h3=>(intro w hSw;(try dsimp only at hSw);go_simp;try with_reducible rfl)
     try simp only[Act.put,zx2]
     refine tkA 3 rfl (v:=?v4) (zM3 ⟨by rfl,?h4⟩) ?_;case h4=>(intro w hSw;(try dsimp only at hSw);go_simp;try with_reducible rfl)
     try simp only[Act.put,zx2]
     refine tkA 4 rfl (v:=?v5) (zM3 ⟨by rfl,?h5⟩) ?_;case h5=>(intro w hSw;(try dsimp only at hSw);go_simp;try with_reducible rfl)
     try simp only[Act.put,zx2]
     refine tkA 5 rfl (v:=?v6) (zM3 ⟨by rfl,?h6⟩) ?_;case h6=>(intro w hSw;(try dsimp only at hSw);go_simp;try with_reducible rfl)
     try simp only[Act.put,zx2]
     refine wpAnyH_ready (rs:=[6]) (by kernel_rfl) (by simp) ?_;refine AllReadyH.cons rfl (λK hK=>?_) ?_;go_simp;first|go_at_K|(((go_at_call 172;refine HD1.o.mono ?_;rintro e w1 ⟨rfl,hB1⟩;have HB1:=za (zw hB1)));first|go_at_K|go_wp2_with fail)
     refine hK.out _ _ ?_ (λh9=>?_)
     . (try dsimp only);(first|(with_reducible (refine⟨?_,?_,?_⟩ <;> repeat (first|assumption|refine zg ?_|refine zj _ ?_|refine zk (by omega) ?_|refine zd HB1.o ?_ (by first|omega|(rw[zsb];omega)))))|go_keep)
     clear hK K hHeld;have hHeld:=h9;try simp only[Act.put,zx2]
     refine tkA 7 rfl (v:=?v7) (zM3 ⟨by rfl,?h7⟩) ?_;case h7=>(intro w hSw;(try dsimp only at hSw);go_simp;try with_reducible rfl)
     try simp only[Act.put,zx2]
     refine tkH (i:=8) (v:=undef) rfl (by kernel_rfl) (λ_ _ _ HSc=>HSc) (zM4 ⟨by rfl,rfl⟩) (by assumption) ?_;try simp only[Act.put,zx2]
     refine tkH (i:=9) (v:=undef) rfl (by kernel_rfl) (λ_ _ _ HSc=>HSc) (zM4 ⟨by rfl,rfl⟩) (by assumption) ?_;try simp only[Act.put,zx2]
     refine tkH (i:=10) (v:=undef) rfl (by kernel_rfl) (λ_ _ _ HSc=>HSc) (zM4 ⟨by rfl,rfl⟩) (by assumption) ?_;try simp only[Act.put,zx2]
     refine tkH (i:=11) (v:=undef) rfl (by kernel_rfl) (λ_ _ _ HSc=>HSc) (zM4 ⟨by rfl,rfl⟩) (by assumption) ?_;try simp only[Act.put,zx2]
     refine tkH (i:=12) (v:=undef) rfl (by kernel_rfl) (λ_ _ _ HSc=>HSc) (zM4 ⟨by rfl,rfl⟩) (by assumption) ?_;try simp only[Act.put,zx2]
     refine tkH (i:=13) (v:=undef) rfl (by kernel_rfl) (λ_ _ _ HSc=>HSc) (zM4 ⟨by rfl,rfl⟩) (by assumption) ?_;try simp only[Act.put,zx2]
     refine tkH (i:=14) (v:=undef) rfl (by kernel_rfl) (λ_ _ _ HSc=>HSc) (zM4 ⟨by rfl,rfl⟩) (by assumption) ?_;try simp only[Act.put,zx2]
     refine tkA 15 rfl (v:=?v8) (zM3 ⟨by rfl,?h8⟩) ?_;case h8=>(intro w hSw;(try dsimp only at hSw);go_simp;try with_reducible rfl)
     try simp only[Act.put,zx2]
     refine tkA 16 rfl (v:=?v9) (zM3 ⟨by rfl,?h9⟩) ?_;case h9=>(intro w hSw;(try dsimp only at hSw);go_simp;try with_reducible rfl)
     try simp only[Act.put,zx2]
     refine wpAnyH_done (by kernel_rfl) ?_ _;rotate_left;exact AllReadyH.nil;all_goals refine NoPanic.normal ?_
     all_goals go_wp2_with fail
     all_goals go_ret
     all_goals exact⟨by rw[HE.o];rfl,HB.trans (HB1.o.mono hzW)⟩
 . obtain⟨t1,t2,rest,rfl⟩:∃t1 t2 rest,ts=t1::t2::rest:=by
    rcases ts with _|⟨t1,_|⟨t2,rest⟩⟩
    . simp[arB] at o3
    . simp[arB] at o3
    exact⟨t1,t2,rest,rfl⟩
   obtain⟨x9,cp9,e9,_,_,hin⟩:=HA.ex;cases e9;obtain⟨g,o,rfl,hgN,hat⟩:=hin (by simp);obtain⟨ub,hcu,hTu⟩:=hat 0 t1 rfl;rw[Nat.add_zero] at hcu;have HE:Hid (c.operands (.mk 9 a s nm n (t1::t2::rest))=(zcG t1&&zc9 c (t1::t2::rest))):=rfl;have Hcn:=za (λW (HB:xB w W)=>zmE W (hTu.old (zm HB hN)) ((HOs t1 (by simp)) t1 (zey za5 _)).2.2);have Hak:=za (λW (HB:xB w W)=>zfS hc t1 t2 rest (.slice (some (xD g o)) (t1::t2::rest).length cpa) W (HA.old (zm HB hN)) (PRE W HB) (by have:=HB.size;omega) (HOs t1 (by simp)) (HOs t2 (by simp)));have n3:0<(t1::t2::rest).length:=(by simp);generalize hnn:(t1::t2::rest).length=nn at *;have j0:(0:Int)<(nn:Int):=(by omega);have a0:((xD g o):Addr).add 0=⟨g,o,none⟩:=(by simp[Addr.add]);cases hb1:zcG t1 with
   | true =>
     rw[hb1] at HE Hcn;go_enter func131,ntmps131;go_upto_region 23 with fail;refine zn (λW=>(xH W w.heap.size #[xE xe c cpe,xP nb] 216)/\xB w W) ⟨zc w _,zq w _⟩ ?_;rintro W ⟨hs,HB⟩;obtain⟨s0,s1,sf,sz⟩:=zp hs;obtain⟨m0,m1,m2,m3,m4,m5,mf,mz⟩:=zt ((HB.block b hbz).trans HBk.o);have hzW:=HB.size;have hcu':=zd HB hcu (by omega);have HD1:=za (Hcn.o W.drew (zo HB));have HD2:=za (Hak.o W.drew (zo HB))
     go_region_held3 (λw'=>w'.cell? (xD w.heap.size 0)=some (xE xe c cpe)/\w'.cell? (xD w.heap.size 1)=some (xP nb)/\w'.cell? (xD b 5)=some (.slice (some (xD g o)) nn cpa)/\w'.cell? (xD g o)=some (xP ub))
      (first|(with_reducible (refine⟨?_,?_,?_,?_⟩ <;> repeat (first|assumption|refine zg ?_|refine zj _ ?_|refine zk (by omega) ?_|refine zd HB2.o ?_ (by first|omega|(rw[zsb];omega)))))|go_keep)
      (first
        | (go_at_call 173;refine HD2.o.mono ?_;rintro e w2 ⟨rfl,hB2⟩;have HB2:=za (zw hB2))
        | (go_at_call 174;refine HD1.o.mono ?_;rintro e w1 ⟨rfl,rfl⟩))
     all_goals go_wp2_with fail
     all_goals go_ret
     all_goals exact⟨by rw[HE.o];rfl,HB.trans (HB2.o.mono (by omega))⟩
   | false =>
     rw[hb1] at HE Hcn;go_enter func131,ntmps131;go_upto_region 23 with fail;refine zn (λW=>(xH W w.heap.size #[xE xe c cpe,xP nb] 216)/\xB w W) ⟨zc w _,zq w _⟩ ?_;rintro W ⟨hs,HB⟩;obtain⟨s0,s1,sf,sz⟩:=zp hs;obtain⟨m0,m1,m2,m3,m4,m5,mf,mz⟩:=zt ((HB.block b hbz).trans HBk.o);have hzW:=HB.size;have hcu':=zd HB hcu (by omega);have HD1:=za (λq=>zaX (Hcn.o (W.drewN q) (zI HB q)));go_quiet ((go_at_call 174;exact HD1.o _));all_goals go_wp2_with fail
     all_goals go_ret
     all_goals exact⟨by rw[HE.o];rfl,zI HB _⟩
 . obtain⟨d,hd,hdi⟩:=o2 rfl;have HE:Hid (c.operands (.mk 4 a s nm n ts)=zaQ c ts d.nd.vars):=by
    unfold Hid Sc.operands
    show (match c.called s with|none=>true|some d=>zaQ c ts d.nd.vars)=_;rw[hd]
   go_enter func131,ntmps131;go_upto_region 25 with fail;refine zn (λW=>(xH W w.heap.size #[xE xe c cpe,xP nb] 216)/\xB w W) ⟨zc w _,zq w _⟩ ?_;rintro W ⟨hs,HB⟩;obtain⟨s0,s1,sf,sz⟩:=zp hs;obtain⟨m0,m1,m2,m3,m4,m5,mf,mz⟩:=zt ((HB.block b hbz).trans HBk.o);have hzW:=HB.size;have HD:=za (zlM hc (.mk 4 a s nm n ts) (xP b) W (HTT.old (zm HB hN)) (PRE W HB) (by omega) HO hd hdi);go_wp2_with (go_at_call 175;refine HD.o.mono ?_;rintro e w1 ⟨rfl,hB1⟩;have HB1:=za hB1);go_ret;exact⟨by rw[HE.o];rfl,HB.trans (HB1.o.mono (by omega))⟩
 rcases hk with rfl|rfl|rfl|rfl|rfl|rfl
 all_goals
  go_enter func131,ntmps131;go_wp2_with fail;go_ret;exact⟨rfl,zq _ _⟩
end
end Go.Proofs.YtbicmofihhjgbaaGreatDoor
