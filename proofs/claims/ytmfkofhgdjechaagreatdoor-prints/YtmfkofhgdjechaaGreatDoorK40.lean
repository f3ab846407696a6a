/- Part 41 of the proof: CanF CanG. -/
import Derived.Lib.AppendIntMem
import Derived.Test.YtmfkofhgdjechaaGreatDoorShelf2
import Derived.Test.YtmfkofhgdjechaaGreatDoorK39
set_option maxRecDepth 100000
set_option maxHeartbeats 8000000
namespace Go.Proofs.YtmfkofhgdjechaaGreatDoor
open Go.Proofs.Tryz
open Go.RowKit
section
variable {ts:List ByteArray} {B N b b1 b2 lb:Nat} {S:Nat->Addr} {t:Tm} {tv0:Value} {W w0:World}
mutual
def nmB:Tm->Bool
 | .mk _ _ _ _ n ts=>decide (n<=9223372036854775807)&&nmL ts
def nmL:List Tm->Bool
 | []=>true
 | t::l=>nmB t&&nmL l
end
theorem zxp {ts:List Tm}(h:nmL ts=true)(ht:t∈ts):nmB t=true:=by
 induction ts with
 | nil=>cases ht
 | cons x l ih =>
   unfold nmL at h;rw[Bool.and_eq_true] at h;rcases List.mem_cons.1 ht with rfl|ht
   . exact h.1
   . exact ih h.2 ht
theorem LnI.bel {W':World}(h:LnI lb B w0 tv0 W ts)(hB:xB W W'):LnI lb B w0 tv0 W' ts:=by obtain⟨tv,h1,h2⟩:=h.ln;refine⟨h.lt,h.le,h.lo,tv,⟨(hB.block _ (ze h1.blk)).trans h1.blk,zi h1.own (λg _ _ e=>hB.block g (h1.own.lt g e).2)⟩,h2.trans ⟨Fr.of_below hB,λj e=>Or.inl e⟩⟩
structure Bx (lb B:Nat) (o:Obj) (b1 b2:Nat) (w0:World) (tv0:Value):Prop where
 h1:w0.heap[b1]?=some (.cells #[xP lb] 140 (0,0))
 h2:w0.heap[b2]?=some o
 n1:¬b1=lb
 n2:¬b2=lb
 t1:¬tv0.ownBlock=some b1
 t2:¬tv0.ownBlock=some b2
theorem Bx.at {o:Obj}(h:Bx lb B o b1 b2 w0 tv0)(hl:LnI lb B w0 tv0 W ts):xH W b1 #[xP lb] 140/\W.heap[b2]?=some o :=
 ⟨hl.kept h.h1 h.n1 h.t1,hl.kept h.h2 h.n2 h.t2⟩
theorem LnI.boxes (h:LnI lb B w0 tv0 W ts)(o':Obj):∃tv,LnI lb B ((W.alloc (.cells #[xP lb] 140)).alloc o') tv ((W.alloc (.cells #[xP lb] 140)).alloc o') ts/\Bx lb B o' W.heap.size (W.heap.size+1) ((W.alloc (.cells #[xP lb] 140)).alloc o') tv/\∀(w':World) (ts':List ByteArray),LnI lb B ((W.alloc (.cells #[xP lb] 140)).alloc o') tv w' ts'->LnI lb B w0 tv0 w' ts':=by
 obtain⟨tv,h1,h2,h3,h4⟩:=h.box2 (.cells #[xP lb] 140) o';refine⟨tv,h1,⟨?_,?_,by omega,by omega,λe=>by have:=h2 _ e;omega,λe=>by have:=h2 _ e;omega⟩,h4⟩
 . exact (Below.heap_alloc _ _ _ (by rw[zsb];omega)).trans (zc W _)
 . have:=zc (W.alloc (.cells #[xP lb] 140)) o';rwa [zsb] at this
theorem zwC:zH 197:=λ_ _=>by kernel_rfl
theorem zwm {u:Tm}(h:LnI lb B w0 tv0 W ts)(hN:N<=lb)(h21:21<=N)(hT:TT w0 N t (xP b))(hKn:Kn S w0)
 (hX:Bx lb B (.cells #[xP b] 159 (0,0)) b1 b2 w0 tv0) (i:Nat) (hi:t.ts[i]?=some u) (hE:zvc S u) (hm:(ts++exT u).length<=10000000000) (_hl6:t.ts.length<=10000000000) :
 xK 197 (#[xI i]++#[xP b1,xP b2]) W (zu1 lb B w0 tv0 (ts++exT u)):=by
 obtain⟨p0,pf,pz⟩:=zu (hX.at h).1;obtain⟨q0,qf,qz⟩:=zu (hX.at h).2;have hO:=h.old hN;obtain⟨g,cp,ub,d,e,hTu,lt⟩:=hT.look hi;have hbN:=hT.six.2.2.2.2;have D:=(zuZ hO hbN).trans d;have E:=(zuZ hO lt).trans e;have hil:=(List.getElem?_eq_some_iff.1 hi).1;have HKp:Hid (∀(w':World) (ts':List ByteArray),LnI lb B w0 tv0 w' ts'->xC w' b1 0 (xP lb)/\xC w' b2 0 (xP b)/\xC w' b 5 (xS g t.ts.length cp)/\xC w' g i (xP ub)):=λw' ts' h'=>⟨(zu (hX.at h').1).1,(zu (hX.at h').2).1,(zuZ (h'.old hN) hbN).trans d,(zuZ (h'.old hN) lt).trans e⟩;have HD:=za (hE lb B N w0 tv0 W.drew ts _ hN h21 hTu hKn h.drew hm);obtain⟨L,hL⟩:∃L,t.ts.length=L:=⟨_,rfl⟩;rw[hL] at D hil _hl6 HKp
 show Calls prog _ #[xI i,xP b1,xP b2] W _;go_enter func197,ntmps197;go_region_held3 (λw'=>w'.cell? (xD b1 0)=some (xP lb)/\w'.cell? (xD b2 0)=some (xP b)/\w'.cell? (xD b 5)=some (xS g L cp)/\w'.cell? (xD g i)=some (xP ub)) (first|go_keep|exact HKp.o _ _ H1) (first|(go_at_call 142;refine HD.o.mono ?_;rintro e w1 ⟨rfl,H1⟩));all_goals first|go_end0|refine bodyPost_ret (results_none rfl _ _ _) rfl ?_
 all_goals exact⟨rfl,H1⟩
theorem zv3:∀ts:List Tm,ts.length<=szL ts
 | []=>Nat.le_refl _
 | t::l=>by
   have:=zv3 l;have:1<=szT t:=by cases t;simp only[szT];omega
   simp only[szL,List.length_cons];omega
theorem zx4 (hN:N<=lb)(hT:TT w0 N t (xP b))(hKn:Kn S w0)(h21:21<=N)(h:LnI lb B w0 tv0 W ts)(L:List ByteArray)(el:exW t.k t.s t.n (t.ts.map Tm.k) (exL t.ts)=L)(hm:(ts++exT t).length<=10000000000)
 (k:∀(wb:World) (tv:Value),W.heap.size+1<wb.heap.size->b<wb.heap.size->(W.alloc (.cells #[xP lb] 140)).alloc (.cells #[xP b] 159)=wb->Hid (LnI lb B wb tv wb ts)->Hid (TT wb N t (xP b))->Hid (Kn S wb)->Hid (Bx lb B (.cells #[xP b] 159 (0,0)) W.heap.size (W.heap.size+1) wb tv)->Hid (∀(w':World) (ts':List ByteArray),LnI lb B wb tv w' ts'->xC w' W.heap.size 0 (xP lb)/\xC w' (W.heap.size+1) 0 (xP b)/\xC w' b 0 (xI t.k)/\xC w' b 2 (.string t.s)/\xC w' b 4 (xI t.n))->Hid ((ts++L).length<=10000000000)->xK 142 #[xP lb,xP b] W (zu1 lb B wb tv (ts++L))) :
 xK 142 #[xP lb,xP b] W (zu1 lb B w0 tv0 (ts++exT t)):=by
 obtain⟨tv,hb,hX,hback⟩:=h.boxes (.cells #[xP b] 159);obtain⟨wb,ewb⟩:∃wb,wb=(W.alloc (.cells #[xP lb] 140)).alloc (.cells #[xP b] 159):=⟨_,rfl⟩;have hKb:Kn S wb:=ewb▸hKn.ln ((h.alloc _).alloc _) (by omega);have hTb:=hT.old (ewb▸((h.alloc _).alloc _).old hN:Old N w0 wb);rw[<- ewb] at hb hX hback;have hex:exT t=L:=by rw[<- el];cases t;rfl
 rw[hex] at hm ⊢;refine (k wb tv (by rw[ewb];simp only[zsb];omega) (hTb.six).2.2.2.1 ewb.symm hb hTb hKb hX (λw' ts' h'=>?_) hm).mono (λe w' h'=>⟨h'.1,hback _ _ h'.2⟩);obtain⟨x0,x2,x4,_,_⟩:=(hTb.old (h'.old hN)).six;exact⟨(zu (hX.at h').1).1,(zu (hX.at h').2).1,x0,x2,x4⟩
theorem zvS (hk:t.k=3):zvc S t:=by
 intro lb B N w0 tv0 W ts v hN h21 hT hKn h hm;obtain⟨b,_,_,rfl,_⟩:=hT.ptr;refine zx4 hN hT hKn h21 h ([t.s]) (by unfold exW;rw[if_neg (by omega),if_neg (by omega),if_pos hk]) hm ?_;intro wb tv hWz hbz htw H0 HT HK HX HKp HM;obtain⟨p0,q0,c0,c2,c4⟩:=HKp.o _ _ H0.o;go_enter func142,ntmps142;go_upto_region 1 with fail;rw[hk] at c0 HKp;go_upto_region 11 with fail;go_region_held3 (λw'=>w'.cell? (xD W.heap.size 0)=some (xP lb)/\w'.cell? (xD (W.heap.size+1) 0)=some (xP b)/\w'.cell? (xD b 2)=some (.string t.s)) (first|go_keep|exact⟨(HKp.o _ _ H1).1,(HKp.o _ _ H1).2.1,(HKp.o _ _ H1).2.2.2.1⟩) (first|(go_at_call 77;refine (zu2 H0.o [t.s] 1 rfl (by have:=HM.o;simp only[List.length_append,List.length_cons,List.length_nil] at this ⊢;omega) _ rfl).mono ?_;rintro e w1 ⟨rfl,H1⟩));all_goals first|go_end0|refine bodyPost_ret (results_none rfl _ _ _) rfl ?_
 all_goals exact⟨rfl,H1⟩
theorem zvU (hk:t.k=1):zvc S t:=by
 intro lb B N w0 tv0 W ts v hN h21 hT hKn h hm;obtain⟨b,_,_,rfl,_⟩:=hT.ptr;refine zx4 hN hT hKn h21 h ([wd 1]) (by unfold exW;rw[if_neg (by omega),if_pos (by omega),hk]) hm ?_;intro wb tv hWz hbz htw H0 HT HK HX HKp HM;obtain⟨p0,q0,c0,c2,c4⟩:=HKp.o _ _ H0.o;go_enter func142,ntmps142;go_upto_region 1 with fail;rw[hk] at c0 HKp;have hwd:zcY[1]?=some (wd 1):=zvo (by omega);go_upto_region 9 with fail;go_region_held3 (λw'=>w'.cell? (xD W.heap.size 0)=some (xP lb)/\w'.cell? (xD (W.heap.size+1) 0)=some (xP b)/\w'.cell? (xD b 0)=some (xI 1)) (first|go_keep|exact⟨(HKp.o _ _ H1).1,(HKp.o _ _ H1).2.1,(HKp.o _ _ H1).2.2.1⟩) (first|(go_at_call 77;refine (zu2 H0.o [wd 1] 1 rfl (by have:=HM.o;simp only[List.length_append,List.length_cons,List.length_nil] at this ⊢;omega) _ rfl).mono ?_;rintro e w1 ⟨rfl,H1⟩)|(go_at_call 196;refine (zm8 S 1 (wd 1) hwd _ (Kn.ln HK.o H0.o.drew (by omega)).gl).mono ?_;rintro e wx ⟨rfl,rfl⟩));all_goals first|go_end0|refine bodyPost_ret (results_none rfl _ _ _) rfl ?_
 all_goals exact⟨rfl,H1⟩
theorem zvH (hk:t.k=2):zvc S t:=by
 intro lb B N w0 tv0 W ts v hN h21 hT hKn h hm;obtain⟨b,_,_,rfl,_⟩:=hT.ptr;refine zx4 hN hT hKn h21 h ([wd 2]) (by unfold exW;rw[if_neg (by omega),if_pos (by omega),hk]) hm ?_;intro wb tv hWz hbz htw H0 HT HK HX HKp HM;obtain⟨p0,q0,c0,c2,c4⟩:=HKp.o _ _ H0.o;go_enter func142,ntmps142;go_upto_region 1 with fail;rw[hk] at c0 HKp;have hwd:zcY[2]?=some (wd 2):=zvo (by omega);go_upto_region 9 with fail;go_region_held3 (λw'=>w'.cell? (xD W.heap.size 0)=some (xP lb)/\w'.cell? (xD (W.heap.size+1) 0)=some (xP b)/\w'.cell? (xD b 0)=some (xI 2)) (first|go_keep|exact⟨(HKp.o _ _ H1).1,(HKp.o _ _ H1).2.1,(HKp.o _ _ H1).2.2.1⟩) (first|(go_at_call 77;refine (zu2 H0.o [wd 2] 1 rfl (by have:=HM.o;simp only[List.length_append,List.length_cons,List.length_nil] at this ⊢;omega) _ rfl).mono ?_;rintro e w1 ⟨rfl,H1⟩)|(go_at_call 196;refine (zm8 S 2 (wd 2) hwd _ (Kn.ln HK.o H0.o.drew (by omega)).gl).mono ?_;rintro e wx ⟨rfl,rfl⟩));all_goals first|go_end0|refine bodyPost_ret (results_none rfl _ _ _) rfl ?_
 all_goals exact⟨rfl,H1⟩
theorem zvQ (hk:t.k=0)(hn:t.n<=9223372036854775807):zvc S t:=by
 intro lb B N w0 tv0 W ts v hN h21 hT hKn h hm;obtain⟨b,_,_,rfl,_⟩:=hT.ptr;refine zx4 hN hT hKn h21 h ([zwd t.n]) (by unfold exW;rw[if_pos hk]) hm ?_;intro wb tv hWz hbz htw H0 HT HK HX HKp HM;obtain⟨p0,q0,c0,c2,c4⟩:=HKp.o _ _ H0.o;go_enter func142,ntmps142;go_upto_region 1 with fail;rw[hk] at c0 HKp;have HFm:Hid (∀W',Kn S W'->xK 195 #[xI t.n,xI 10] W' λe w'=>e=.returned (.string (zwd t.n))/\xB W' w'):=by intro W' hK';refine (Tryz.strconv_FormatInt_10 (t.n:Int) (by omega) (by omega) W' hK'.tab).mono ?_;rintro e w' ⟨rfl,k,os,rfl⟩;exact⟨rfl,Lib.below_grow _ W' (Nat.le_refl _) k os⟩
 go_upto_region 6 with fail;go_region_held3 (λw'=>w'.cell? (xD W.heap.size 0)=some (xP lb)/\w'.cell? (xD (W.heap.size+1) 0)=some (xP b)/\w'.cell? (xD b 4)=some (xI t.n)) (first|go_keep|exact⟨(HKp.o _ _ H1).1,(HKp.o _ _ H1).2.1,(HKp.o _ _ H1).2.2.2.2⟩|exact⟨(HKp.o _ _ HF.o).1,(HKp.o _ _ HF.o).2.1,(HKp.o _ _ HF.o).2.2.2.2⟩|exact⟨(HKp.o _ _ (HF.o.alloc _)).1,(HKp.o _ _ (HF.o.alloc _)).2.1,(HKp.o _ _ (HF.o.alloc _)).2.2.2.2⟩) (first|(go_at_call 77;refine (zu0 HF.o [zwd t.n] 1 rfl (by have:=HM.o;simp only[List.length_append,List.length_cons,List.length_nil] at this ⊢;omega) _ rfl).mono ?_;rintro e w1 ⟨rfl,H1⟩)|(go_at_call 195;refine (HFm.o _ (Kn.ln HK.o H0.o.drew (by omega))).mono ?_;rintro e wf ⟨rfl,hBf⟩;have HF:=za (H0.o.drew.bel hBf)));all_goals first|go_end0|refine bodyPost_ret (results_none rfl _ _ _) rfl ?_
 all_goals exact⟨rfl,H1⟩
theorem zvE (hk:t.k=4)(HE:∀u∈t.ts,zvc S u)(hl6:t.ts.length<=10000000000):zvc S t:=by
 intro lb B N w0 tv0 W ts v hN h21 hT hKn h hm;obtain⟨b,_,_,rfl,_⟩:=hT.ptr;refine zx4 hN hT hKn h21 h ([t.s]++zu5 (exL t.ts)) (by unfold exW;rw[if_neg (by omega),if_neg (by omega),if_neg (by omega),if_pos hk]) hm ?_;intro wb tv hWz hbz htw H0 HT HK HX HKp HM;obtain⟨p0,q0,c0,c2,c4⟩:=HKp.o _ _ H0.o;go_enter func142,ntmps142;go_upto_region 1 with fail;rw[hk] at c0 HKp;go_upto_region 13 with fail;go_region_held3 (λw'=>w'.cell? (xD W.heap.size 0)=some (xP lb)/\w'.cell? (xD (W.heap.size+1) 0)=some (xP b)/\w'.cell? (xD b 2)=some (.string t.s)) (first|go_keep|exact⟨(HKp.o _ _ H1).1,(HKp.o _ _ H1).2.1,(HKp.o _ _ H1).2.2.2.1⟩) (first|(go_at_call 77;refine (zu2 H0.o [t.s] 1 rfl (by have:=HM.o;simp only[List.length_append,List.length_cons,List.length_nil] at this ⊢;omega) _ rfl).mono ?_;rintro e w1 ⟨rfl,H1⟩));obtain⟨wz,hwz⟩:∃wz,wz=w1:=⟨_,rfl⟩;obtain⟨p0',q0',c0',c2',c4'⟩:=HKp.o _ _ H1;obtain⟨bb,args,vs,ebb,hbN,hblk,hown,hlen,_,hgs⟩:=HT.o.ptr;cases ebb;obtain⟨_,_,_,_,_,c5,_,bz'⟩:=zt hblk;obtain⟨xa,cpa,rfl⟩:=zB hown;rw[hlen] at c5;have HKq:Hid (∀(w':World) (ts':List ByteArray),LnI lb B wb tv w' ts'->xC w' b 5 (.slice xa t.ts.length cpa)):=λw' ts' h'=>(zuZ (h'.old hN) hbN).trans c5;have c5':=HKq.o _ _ H1;have hLi:Hid (∀W',LnI lb B wb tv W' (ts++[t.s])->xK 78 #[xP lb,xI t.ts.length,.func (.func 197) #[] #[xP W.heap.size,xP (W.heap.size+1)]] W' (zu1 lb B wb tv (ts++[t.s]++zu5 (exL t.ts)))):=by
  intro W' h';have:=zvq (lb:=lb) (B:=B) (w0:=wb) (tv0:=tv) 197 #[xP W.heap.size,xP (W.heap.size+1)] zwC (exL t.ts) (λi u hu W'' ts'' h'' hm''=>?_) W' (ts++[t.s]) h' (by have:=HM.o;simp only[List.length_append,List.length_cons,List.length_nil] at this ⊢;omega) (by rw[zv4];exact hl6)
  . rw[zv4] at this;exact this
  . rw[zvt,List.getElem?_map,Option.map_eq_some_iff] at hu;obtain⟨x,hx,rfl⟩:=hu;exact zwm h'' hN h21 HT.o HK.o HX.o i hx (HE x (List.mem_of_getElem? hx)) hm'' hl6
 have hmf:∀(fn:Go.Fn) (first cap:Array Value) (w:World),(Instr.makeFunc fn first cap).run prog w=.ok (.func fn first cap) w:=λ_ _ _ _=>rfl;obtain⟨L,hL⟩:∃L,t.ts.length=L:=⟨_,rfl⟩;rw[hL] at c5' hLi hl6 HKq;have hb1z:W.heap.size+1<w1.heap.size:=by have:=H1.size;omega
 go_upto_region 14 with fail;go_region_held3 (λw'=>w'.cell? (xD W.heap.size 0)=some (xP lb)/\w'.cell? (xD (W.heap.size+1) 0)=some (xP b)/\w'.cell? (xD b 5)=some (.slice xa L cpa)) (first|go_keep|exact⟨(HKp.o _ _ H2).1,(HKp.o _ _ H2).2.1,HKq.o _ _ H2⟩) (first|(go_at_call 78;refine (hLi.out _ H1.drew).mono ?_;rintro e w2 ⟨rfl,H2⟩));all_goals first|go_end0|refine bodyPost_ret (results_none rfl _ _ _) rfl ?_
 all_goals exact⟨rfl,by simpa [List.append_assoc] using H2⟩
theorem zv1 (h5:5<=t.k)(hE:∀u∈t.ts,zvc S u)(har:arB t.k t.ts.length=true):zvc S t:=by
 intro lb B N w0 tv0 W ts v hN h21 hT hKn h hm;obtain⟨b,_,_,rfl,_⟩:=hT.ptr;refine zx4 hN hT hKn h21 h ([lpW]++(opW t.k t.s (t.ts.map Tm.k) (exL t.ts)++[rpW])) (by unfold exW;rw[if_neg (by omega),if_neg (by omega),if_neg (by omega),if_neg (by omega)]) hm ?_;intro wb tv hWz hbz htw H0 HT HK HX HKp HM;obtain⟨p0,q0,c0,c2,c4⟩:=HKp.o _ _ H0.o;go_enter func142,ntmps142;go_upto_region 1 with fail;have HOp:Hid (∀W' ts',LnI lb B wb tv W' ts'->(ts'++opW t.k t.s (t.ts.map Tm.k) (exL t.ts)).length<=10000000000->xK 198 #[xP lb,xP b] W' (zu1 lb B wb tv (ts'++opW t.k t.s (t.ts.map Tm.k) (exL t.ts)))):=λW' ts' h' hm'=>zvF hE har h5 lb B N wb tv W' ts' _ hN h21 HT.o HK.o h' hm';have m0:¬((t.k:Int)=0):=by omega
 have m1:¬((t.k:Int)=1):=by omega
 have m2:¬((t.k:Int)=2):=by omega
 have m3:¬((t.k:Int)=3):=by omega
 have m4:¬((t.k:Int)=4):=by omega
 obtain⟨O,HO⟩:∃O,opW t.k t.s (t.ts.map Tm.k) (exL t.ts)=O:=⟨_,rfl⟩;rw[HO] at HOp HM;have tk:=trivial;go_wp2_with (clear tk;go_at_call 77;refine (zu0 H0.o [lpW] 1 rfl (by have:=HM.o;simp only[List.length_append,List.length_cons,List.length_nil] at this ⊢;omega) _ rfl).mono ?_);rintro e w1 ⟨rfl,H1⟩;obtain⟨p1,q1,_,_,_⟩:=HKp.o _ _ H1;have tk:=trivial;go_wp2_with (clear tk;go_at_call 198;refine (HOp.o _ _ H1 (by have:=HM.o;simp only[List.length_append,List.length_cons,List.length_nil] at this ⊢;omega)).mono ?_);rintro e w2 ⟨rfl,H2⟩;obtain⟨p2,q2,_,_,_⟩:=HKp.o _ _ H2;have tk:=trivial;go_wp2_with (clear tk;go_at_call 77;refine (zu0 H2 [rpW] 1 rfl (by have:=HM.o;simp only[List.length_append,List.length_cons,List.length_nil] at this ⊢;omega) _ rfl).mono ?_;rintro e w3 ⟨rfl,H3⟩);first|go_end0|refine bodyPost_ret (results_none rfl _ _ _) rfl ?_
 exact⟨rfl,by have hh:=H3;rw[<- HO] at hh;simpa [List.append_assoc] using hh⟩
theorem zwI (S:Nat->Addr):∀t:Tm,Wf t->nmB t=true->szT t<=10000000000->zvc S t:=by
 intro t;induction t using Tm.ind with
 | h k a s nm n ts ih =>
   intro hW hn hz;have har:=hW.ar;have hn':n<=9223372036854775807/\nmL ts=true:=(by unfold nmB at hn;rw[Bool.and_eq_true,decide_eq_true_eq] at hn;exact hn);have hsz:szL ts<10000000000:=(by simp only[szT] at hz;omega);have hE:∀u∈ts,zvc S u:=λu hu=>ih u hu (hW.sub hu) (zxp hn'.2 hu) (by have:=zkw hu;omega);have hlen:ts.length<=10000000000:=(by have:=zv3 ts;omega);have hk:k=0∨k=1∨k=2∨k=3∨k=4∨5<=k:=(by omega);rcases hk with rfl|rfl|rfl|rfl|rfl|hk
   . exact zvQ (t:=.mk 0 a s nm n ts) rfl hn'.1
   . exact zvU (t:=.mk 1 a s nm n ts) rfl
   . exact zvH (t:=.mk 2 a s nm n ts) rfl
   . exact zvS (t:=.mk 3 a s nm n ts) rfl
   . exact zvE (t:=.mk 4 a s nm n ts) rfl hE hlen
   . exact zv1 (t:=.mk k a s nm n ts) hk hE har
end
section
variable {ts:List ByteArray} {B N lb:Nat} {tv0:Value} {W w0:World}
theorem zxy:zH 141:=λ_ _=>by kernel_rfl
theorem zxc {b1 b2:Nat}(H0:LnI lb B w0 tv0 W ts)(hN:N<=lb)(q:Qn)(lv rv:Value)(hq:EqV w0 N q lv rv)(hl:q.ns.length=q.ps.length)
 (hX:Bx lb B (.cells #[lv,xI q.a,rv] 161 (0,0)) b1 b2 w0 tv0) (i:Nat) (s:ByteArray) (hi:q.ns[i]?=some s) (hm:(ts++[s]).length<=10000000000) :
 xK 141 (#[xI i]++#[xP b1,xP b2]) W (zu1 lb B w0 tv0 (ts++[s])):=by
 have hil:=(List.getElem?_eq_some_iff.1 hi).1;obtain⟨p,hp⟩:∃p,q.ps[i]?=some p:=⟨_,zsc (by omega)⟩;obtain⟨xl,cl,rfl⟩:=zB hq.own;obtain⟨g,rfl,u0,_⟩:=zbe hq.own hi hp rfl;have hgN:=hq.lo g rfl;have HKp:Hid (∀(w':World) (ts':List ByteArray),LnI lb B w0 tv0 w' ts'->xC w' b1 0 (xP lb)/\xC w' b2 0 (xS g q.ns.length cl)/\xC w' g (i*2) (.string s)):=λw' ts' h'=>⟨(zu (hX.at h').1).1,(zL (hX.at h').2).1,(zuZ (h'.old hN) hgN).trans u0⟩;obtain⟨p0,q0,c0⟩:=HKp.o _ _ H0;have hz2:b2<W.heap.size:=ze (hX.at H0).2;have hz1:b1<W.heap.size:=ze (hX.at H0).1;have hgz:g<W.heap.size:=by have:=H0.size;have:=(hq.own.lt g rfl).2;omega
 obtain⟨L,hL⟩:∃L,q.ns.length=L:=⟨_,rfl⟩;have h16:L<=9223372036854775807:=by
  rw[<- hL];rcases hq.own.2 with ⟨_,H0⟩|⟨g,cap,cur,hv,_,_,h3,h4,_⟩
  . omega
  . unfold maxLen at h4;omega
 rw[hL] at q0 hil HKp;clear hq hX hi hp u0 hgN hL hl
 show Calls prog _ #[xI i,xP b1,xP b2] W _;go_enter func141,ntmps141;go_region_held3 (λw'=>w'.cell? (xD b1 0)=some (xP lb)/\w'.cell? (xD b2 0)=some (xS g L cl)/\w'.cell? (xD g (i*2))=some (.string s)) (first|go_keep|exact HKp.o _ _ H1) (first|(go_at_call 77;refine (zu2 H0 [s] 1 rfl hm _ rfl).mono ?_;rintro e w1 ⟨rfl,H1⟩));all_goals first|go_end0|refine bodyPost_ret (results_none rfl _ _ _) rfl ?_
 all_goals exact⟨rfl,H1⟩
theorem zvX {S:Nat->Addr}(h:LnI lb B w0 tv0 W ts)(hN:N<=lb)(h21:21<=N)(hKn:Kn S w0)(q:Qn)(lv rv:Value)(hq:EqV w0 N q lv rv)(hl:q.ns.length=q.ps.length)(h1:1<=q.ns.length)(hE:zvc S q.r)(hm:(ts++zvd q).length<=10000000000) :
 xK 83 #[xP lb,.agg #[lv,xI q.a,rv]] W (zu1 lb B w0 tv0 (ts++zvd q)):=by
 obtain⟨tv,hb,hX,hback⟩:=h.boxes (.cells #[lv,xI q.a,rv] 161);obtain⟨wb,ewb⟩:∃wb,wb=(W.alloc (.cells #[xP lb] 140)).alloc (.cells #[lv,xI q.a,rv] 161):=⟨_,rfl⟩;have hKb:Kn S wb:=ewb▸hKn.ln ((h.alloc _).alloc _) (by omega);have hOb:Old N w0 wb:=ewb▸((h.alloc _).alloc _).old hN;rw[<- ewb] at hb hX hback;have hqb:=hq.old hOb;obtain⟨rb,_,_,rfl,_⟩:=hqb.tt.ptr;obtain⟨xl,cl,rfl⟩:=zB hqb.own;obtain⟨s,hs⟩:∃s,q.ns[0]?=some s:=⟨_,zsc (by omega)⟩;obtain⟨p,hp⟩:∃p,q.ps[0]?=some p:=⟨_,zsc (by omega)⟩;obtain⟨g,rfl,u0,_⟩:=zbe hqb.own hs hp rfl;have u0:xC wb g 0 (.string s):=by simpa using u0
 have hgN:=hqb.lo g rfl;have HKp:Hid (∀(w':World) (ts':List ByteArray),LnI lb B wb tv w' ts'->xC w' W.heap.size 0 (xP lb)/\xC w' (W.heap.size+1) 0 (xS g q.ns.length cl)/\xC w' g 0 (.string s)/\xC w' (W.heap.size+1) 2 (xP rb)):=λw' ts' h'=>⟨(zu (hX.at h').1).1,(zL (hX.at h').2).1,(zuZ (h'.old hN) hgN).trans u0,(zL (hX.at h').2).2.2.1⟩;obtain⟨p0,q0,c0,r0⟩:=HKp.o _ _ hb;have hWz:W.heap.size+1<wb.heap.size:=by rw[ewb];simp only[zsb];omega
 have hgz:g<wb.heap.size:=(hqb.own.lt g rfl).2;have h16:q.ns.length<=10000000000:=by
  have:=hm;simp only[zvd,List.length_append] at this;split at this
  . omega
  . unfold zu5 at this;simp only[List.length_append] at this;have e:∀(l:List ByteArray) (b:Bool),l.length<=(zu6 b (l.map (λs=>[s]))).length:=by
     intro l;induction l with
     | nil=>intro b;simp
     | cons x l ih=>intro b;have:=ih true;simp only[List.map_cons,zu6,List.length_append,List.length_cons];omega
    have:=e q.ns false;omega
 have htw:(W.alloc (.cells #[xP lb] 140)).alloc (.cells #[xS g q.ns.length cl,xI q.a,xP rb] 161)=wb:=ewb.symm;have H0:=za hb;have HM:=za hm;have HQ:=za hqb;have HX:=za hX;have HK:=za hKb;have HB:=za hback;have HE:=za hE;have Hs:=za hs;have Hl:=za hl;clear h hKn hq hb hX hback hKb hOb hqb hE hm ewb u0 hs hp hl;by_cases hone:q.ns.length=1
 . have e1:q.ns=[s]:=by
    have:=Hs.o
    match hq:q.ns,hone with
    | [x],_=>rw[hq] at this;simp at this;rw[this]
   have el:zvd q=[s]++([⟨#[61]⟩]++(exT q.r++[⟨#[59]⟩])):=(by unfold zvd;rw[if_pos hone,e1]);rw[el] at HM ⊢;rw[hone] at q0 HKp htw ⊢;clear el e1 hone Hs;go_enter func83,ntmps83;go_upto_region 1 with fail;clear htw;go_upto_region 2 with fail;go_region_held3 (λw'=>w'.cell? (xD W.heap.size 0)=some (xP lb)/\w'.cell? (xD (W.heap.size+1) 0)=some (xS g 1 cl)/\w'.cell? (xD g 0)=some (.string s)) (first|go_keep|exact⟨(HKp.o _ _ H1.o).1,(HKp.o _ _ H1.o).2.1,(HKp.o _ _ H1.o).2.2.1⟩) (first|(go_at_call 77;refine (zu2 H0.o [s] 1 rfl (by have:=HM.o;simp only[List.length_append,List.length_cons,List.length_nil] at this ⊢;omega) _ rfl).mono ?_;rintro e w1 ⟨rfl,h1⟩;have H1:=za h1;clear h1));obtain⟨p1,_,_,r1⟩:=HKp.o _ _ H1.o;clear p0 q0 c0 r0;have tk:=trivial;go_wp2_with (clear tk;go_at_call 77;refine (zu0 H1.o [⟨#[61]⟩] 1 rfl (by have:=HM.o;simp only[List.length_append,List.length_cons,List.length_nil] at this ⊢;omega) _ rfl).mono ?_);rintro e w2 ⟨rfl,h2⟩;obtain⟨p2,_,_,r2⟩:=HKp.o _ _ h2;have H2:=za h2;clear h2 p1 r1;have tk:=trivial;go_wp2_with (clear tk;go_at_call 142;refine (HE.o lb B N wb tv _ _ _ hN h21 HQ.o.tt HK.o H2.o (by have:=HM.o;simp only[List.length_append,List.length_cons,List.length_nil] at this ⊢;omega)).mono ?_);rintro e w3 ⟨rfl,h3⟩;obtain⟨p3,_,_,r3⟩:=HKp.o _ _ h3;have H3:=za h3;clear h3 p2 r2;have tk:=trivial;go_wp2_with (clear tk;go_at_call 77;refine (zu0 H3.o [⟨#[59]⟩] 1 rfl (by have:=HM.o;simp only[List.length_append,List.length_cons,List.length_nil] at this ⊢;omega) _ rfl).mono ?_;rintro e w4 ⟨rfl,h4⟩;have H4:=za h4;clear h4);first|go_end0|refine bodyPost_ret (results_none rfl _ _ _) rfl ?_
   exact⟨rfl,HB.o _ _ (by simpa [List.append_assoc] using H4.o)⟩
 . have el:zvd q=zu5 (q.ns.map (λs=>[s]))++([⟨#[61]⟩]++(exT q.r++[⟨#[59]⟩])):=by unfold zvd;rw[if_neg hone]
   rw[el] at HM;have HEl:=za el;have hLi:Hid (∀W',LnI lb B wb tv W' ts->xK 78 #[xP lb,xI q.ns.length,.func (.func 141) #[] #[xP W.heap.size,xP (W.heap.size+1)]] W' (zu1 lb B wb tv (ts++zu5 (q.ns.map (λs=>[s]))))):=by
    intro W' h';have:=zvq (lb:=lb) (B:=B) (w0:=wb) (tv0:=tv) 141 #[xP W.heap.size,xP (W.heap.size+1)] zxy (q.ns.map (λs=>[s])) (λi u hu W'' ts'' h'' hm''=>?_) W' ts h' (by have:=HM.o;simp only[List.length_append,List.length_cons,List.length_nil] at this ⊢;omega) (by simpa using h16)
    . rw[List.length_map] at this;exact this
    . rw[List.getElem?_map,Option.map_eq_some_iff] at hu;obtain⟨x,hx,rfl⟩:=hu;exact zxc h'' hN q _ _ HQ.o Hl.o HX.o i x hx hm''
   have hmf:∀(fn:Go.Fn) (first cap:Array Value) (w:World),(Instr.makeFunc fn first cap).run prog w=.ok (.func fn first cap) w:=λ_ _ _ _=>rfl;obtain⟨T,hT⟩:∃T,zu5 (q.ns.map (λs=>[s]))=T:=⟨_,rfl⟩;rw[hT] at hLi HM HEl;have hone':¬((q.ns.length:Int)=1):=(by omega);clear el hone Hs hT;go_enter func83,ntmps83;go_upto_region 1 with fail;clear htw;have tk:=trivial;go_wp2_with (clear tk;go_at_call 78;refine (hLi.out _ H0.o).mono ?_);rintro e w1 ⟨rfl,h1⟩;obtain⟨p1,_,_,r1⟩:=HKp.o _ _ h1;have H1:=za h1;clear h1 p0 q0 c0 r0;have tk:=trivial;go_wp2_with (clear tk;go_at_call 77;refine (zu0 H1.o [⟨#[61]⟩] 1 rfl (by have:=HM.o;simp only[List.length_append,List.length_cons,List.length_nil] at this ⊢;omega) _ rfl).mono ?_);rintro e w2 ⟨rfl,h2⟩;obtain⟨p2,_,_,r2⟩:=HKp.o _ _ h2;have H2:=za h2;clear h2 p1 r1;have tk:=trivial;go_wp2_with (clear tk;go_at_call 142;refine (HE.o lb B N wb tv _ _ _ hN h21 HQ.o.tt HK.o H2.o (by have:=HM.o;simp only[List.length_append,List.length_cons,List.length_nil] at this ⊢;omega)).mono ?_);rintro e w3 ⟨rfl,h3⟩;obtain⟨p3,_,_,r3⟩:=HKp.o _ _ h3;have H3:=za h3;clear h3 p2 r2;have tk:=trivial;go_wp2_with (clear tk;go_at_call 77;refine (zu0 H3.o [⟨#[59]⟩] 1 rfl (by have:=HM.o;simp only[List.length_append,List.length_cons,List.length_nil] at this ⊢;omega) _ rfl).mono ?_;rintro e w4 ⟨rfl,h4⟩;have H4:=za h4;clear h4);first|go_end0|refine bodyPost_ret (results_none rfl _ _ _) rfl ?_
   exact⟨rfl,HB.o _ _ (by rw[HEl.o];simpa [List.append_assoc] using H4.o)⟩
end
end Go.Proofs.YtmfkofhgdjechaaGreatDoor
