/- Part 19. -/
import Derived.Test.YtcnelakggnfnhaaGreatDoorK17
set_option maxRecDepth 100000
set_option maxHeartbeats 8000000
namespace Go.Proofs.YtcnelakggnfnhaaGreatDoor
open Go.Proofs.Tryz
open Go.RowKit
section
variable {K A:Cd} {a:Int} {j:List Lt} {B N l m d f i z:Nat} {o:Obj} {c:Sc} {n r q:Xv} {W s w:Xw}
attribute [local go_sem ↓] Go.wp_at_zero Go.wp_at_succ
structure CX (N B i d f m l:Nat) (c:Sc) (n q:Xv) (w:Xw) (z:Nat) (o:Obj) (r:Xv) (K:Cd) (j:List Lt) (W:Xw):Prop where
 wl:WL N B i d f m l c n q r K j W
 ft:FT (CT d f) w W
 bx:W.heap[z]?=some o
 nz:¬CT d f W z
theorem CX.PX {e:Xv}{b:List Lt}(h:CX N B i d f m l c n q w z o r K j W)(k:WL N B i d f m l c n q e A b s)(g:FT (CT d f) W s):CX N B i d f m l c n q w z o e A b s :=
 ⟨k,h.ft.trans g,(g.fr.block _ (ze h.bx) h.nz).trans h.bx,g.not (ze h.bx) h.nz⟩
theorem CX.Om (h:CX N B i d f m l c n q w z o r K j W)(e:KW B i d A s)(b:FT (KT d) W s):CX N B i d f m l c n q w z o r A j s :=
 h.PX (h.wl.N6 e b).1 (h.wl.N6 e b).2
theorem CX.aq (h:CX N B i d f m l c n q w z o r K j W)(b:xB W s):CX N B i d f m l c n q w z o r K j s :=
 h.PX (h.wl.aq b) (FT.below b (h.wl.tk b))
theorem CX.add (h:CX N B i d f m l c n q w z o r K j W)(b:Nat)(x:Int)(u:K.row.length<=1000000) :
 xK 27 #[xP i,.int .u8 (b:Int),xI x] W (λe g=>e=.returned (.tuple #[])/\CX N B i d f m l c n q w z o r (K.add b x) j g):=by
 refine (O5 B i d K b x W h.wl.wi.kw u).mono ?_;rintro e g ⟨k,p,t⟩;exact⟨k,h.Om p t⟩
theorem CX.new (h:WL N B i d f m l c n q r K j w)(o:Obj):CX N B i d f m l c n q w w.heap.size o r K j (w.alloc o) :=
 ⟨h.aq (zq w o),FT.below (zq w o) (h.tk (zq w o)),zc w o,λe=>by have:=(h.lt _ (h.tk (zq w o) _ e)).2.1;omega⟩
theorem CX.am {g:Xv}{t:Cd}{b:List Lt}(h:CX N B i d f m l c n q w z o r K j W)(p:WL N B i d f m l c n q g t b w):bV N w W:=h.ft.am p.wi.qi.hN (λk e=>(p.lt k e).1)
theorem RY:∀u∈[xI a],u.oneCell'=true:=by simp[Value.oneCell']
theorem Tu {b c:Int}{p:Xp}:∀u∈[xI a,.pointer p,xI b,xI c],u.oneCell'=true:=by simp[Value.oneCell']
theorem VJ (t Z bt:Tm)(aA:t.ts=[Z,bt])(dc:Wf t)(v:Xv)(k:Nat×Nat)(K:Cd)(j:List Lt)(w:Xw)(hT:TT w N t v)(H:WL N B i d f m l c n q r K j w)(dw:K.row.length<=1000000)(hc:K.cells.length<=1000000)(dY:j.length<=1000000) :
 xK 168 #[xP i,xP f,v,hG k] w (λe Y=>e=.returned (.tuple #[])/\(∃aL,WL N B i d f m l c n q aL ((K.cell (MI Z)).add 3 K.cells.length) (j++[⟨K.cells.length,bt,k⟩]) Y)/\FT (CT d f) w Y):=by
 obtain⟨b,cB,vs,rfl,c0,a2,V,R,a0,cm⟩:=hT.ptr;obtain⟨x,cR,rfl⟩:=zB V;rw[aA] at R;obtain⟨cv,bY⟩:∃y,vs[0]?=some y:=⟨_,av (by rw[R];simp)⟩;obtain⟨cz,b0⟩:∃y,vs[1]?=some y:=⟨_,av (by rw[R];simp)⟩;obtain⟨g,rfl,U⟩:=nB V bY;obtain⟨g',c6,ar⟩:=nB V b0;cases c6;have bl:=a0 0 Z cv (by rw[aA];rfl) bY;have bo:=a0 1 bt cz (by rw[aA];rfl) b0;obtain⟨u0,_,_,rfl,_⟩:=bl.ptr;obtain⟨u1,_,_,rfl,_⟩:=bo.ptr;have bB:=cm g rfl;have cl:=dc.sub (u:=Z) (by rw[aA];simp);have co:vs.length=2:=R;rw[co] at a2;have be:=za (CX.new H (.cells #[xI (k.1:Nat),xI (k.2:Nat)] 162));have da:=H.wi.qi.hN;obtain⟨i0,hi,a5,a6,a9⟩:=info_parts Tryz.Pz;obtain⟨c2,c1,bC,bE,bK⟩:=info_parts Tryz.Ue;have mx:K.cells.length+1<=maxLen:=by unfold maxLen;omega
 have a3:(K.cells.length+1)*8<=140737488355328:=by omega
 have b1:j.length+1<=maxLen:=by unfold maxLen;omega
 have bv:(j.length+1)*32<=140737488355328:=by omega
 obtain⟨cA,bk⟩:∃cA,(K.cell (MI Z)).add 3 K.cells.length=cA:=⟨_,rfl⟩;rw[bk];unfold hG;have cn:∃a1 Q,(w.alloc (.cells #[xI (k.1:Nat),xI (k.2:Nat)] 162)).cell? (xD i 0)=some (xP d)/\(w.alloc (.cells #[xI (k.1:Nat),xI (k.2:Nat)] 162)).cell? (xD d 3)=some (.slice a1 K.cells.length Q):=by obtain⟨c4,c5,rv,I⟩:=be.o.wl.wi.kw;obtain⟨a1,Q,rfl⟩:=O6 I.hQ;exact⟨a1,Q,(zu I.wr).1,(zt I.aC).2.2.2.1⟩
 obtain⟨a1,Q,p0,m3⟩:=cn;go_enter func168,ntmps168;go_upto_region 2 with fail;refine zn (λW=>CX N B i d f m l c n q w w.heap.size (.cells #[xI (k.1:Nat),xI (k.2:Nat)] 162) r K j W) be.o ?_;intro W di;have b2:=za di;go_cut [] (λwx=>aa (CX N B i d f m l c n q w w.heap.size (.cells #[xI (k.1:Nat),xI (k.2:Nat)] 162) r (K.cell (MI Z)) j wx));case first =>
  obtain⟨c4,c5,rv,I⟩:=b2.o.wl.wi.kw;obtain⟨a1,Q,rfl⟩:=O6 I.hQ;obtain⟨p0,ea,eb⟩:=zu I.wr;obtain⟨m0,m1,m2,m3,m4,m5,dM,cs⟩:=zt I.aC;have hO:=b2.o.am H;obtain⟨t0,t1,t2,t3,t4,t5,dP,tz⟩:=zt ((hO b c0).trans a2);have U:=(Z6 (w:=w) (a:=(xD g 0)) (hO g bB)).trans U;have bg:=za (QL Z cl (xP u0) W.drew (bl.am hO |>.am (λ_ _=>rfl)));have du:=I.MC;have dz:=I.MF;have ch:=I.hB;have ck:=b2.o.wl.wi.NN;have dk:¬b=d:=by omega
  have dp:¬g=d:=by omega
  have dH:=I.dk;generalize MI Z=ca at *;refine wp_region_noPanic ?_;refine wp_region_held_drew (S:=(λY=>Y.cell? (xD i 0)=some (xP d)/\Y.cell? (xD b 5)=some (xS g 2 cR)/\Y.cell? (xD g 0)=some (xP u0))) (by kernel_rfl) ?_ (λh=>?_)
  . (try dsimp only);(first|(with_reducible (refine⟨?_,?_,?_⟩ <;> repeat (first|assumption|refine zg ?_|refine zj _ ?_|refine zk (by omega) ?_)))|go_keep)
  refine aR 0 rfl (v:=?v1) (ao ⟨by rfl,?h1⟩) ?_;case h1=>(intro w p;(try dsimp only at p);go_simp;try with_reducible rfl)
  try simp only[Act.put,aD]
  refine aR 1 rfl (v:=?v2) (ao ⟨by rfl,?h2⟩) ?_;case h2=>(intro w p;(try dsimp only at p);go_simp;try with_reducible rfl)
  try simp only[Act.put,aD]
  refine aR 2 rfl (v:=?v3) (ao ⟨by rfl,?h3⟩) ?_;case h3=>(intro w p;(try dsimp only at p);go_simp;try with_reducible rfl)
  try simp only[Act.put,aD]
  refine aR 3 rfl (v:=?v4) (ao ⟨by rfl,?h4⟩) ?_;case h4=>(intro w p;(try dsimp only at p);go_simp;try with_reducible rfl)
  try simp only[Act.put,aD]
  refine aR 4 rfl (v:=?v5) (ao ⟨by rfl,?h5⟩) ?_;case h5=>(intro w p;(try dsimp only at p);go_simp;try with_reducible rfl)
  try simp only[Act.put,aD]
  refine aR 5 rfl (v:=?v6) (ao ⟨by rfl,?h6⟩) ?_;case h6=>(intro w p;(try dsimp only at p);go_simp;try with_reducible rfl)
  try simp only[Act.put,aD]
  refine aR 6 rfl (v:=?v7) (ao ⟨by rfl,?h7⟩) ?_;case h7=>(intro w p;(try dsimp only at p);go_simp;try with_reducible rfl)
  try simp only[Act.put,aD]
  refine aR 7 rfl (v:=?v8) (ao ⟨by rfl,?h8⟩) ?_;case h8=>(intro w p;(try dsimp only at p);go_simp;try with_reducible rfl)
  try simp only[Act.put,aD]
  refine aR 8 rfl (v:=?v9) (ao ⟨by rfl,?h9⟩) ?_;case h9=>(intro w p;(try dsimp only at p);go_simp;try with_reducible rfl)
  try simp only[Act.put,aD]
  refine aR 9 rfl (v:=?v10) (ao ⟨by rfl,?h10⟩) ?_;case h10=>(intro w p;(try dsimp only at p);go_simp;try with_reducible rfl)
  try simp only[Act.put,aD]
  refine aR 11 rfl (v:=?v11) (ao ⟨by rfl,?h11⟩) ?_;case h11=>(intro w p;(try dsimp only at p);go_simp;try with_reducible rfl)
  try simp only[Act.put,aD]
  refine aR 12 rfl (v:=?v12) (ao ⟨by rfl,?h12⟩) ?_;case h12=>(intro w p;(try dsimp only at p);go_simp;try with_reducible rfl)
  try simp only[Act.put,aD]
  refine aR 13 rfl (v:=?v13) (ao ⟨by rfl,?h13⟩) ?_;case h13=>(intro w p;(try dsimp only at p);go_simp;try with_reducible rfl)
  try simp only[Act.put,aD]
  refine aR 14 rfl (v:=?v14) (ao ⟨by rfl,?h14⟩) ?_;case h14=>(intro w p;(try dsimp only at p);go_simp;try with_reducible rfl)
  try simp only[Act.put,aD]
  refine aR 15 rfl (v:=?v15) (ao ⟨by rfl,?h15⟩) ?_;case h15=>(intro w p;(try dsimp only at p);go_simp;try with_reducible rfl)
  try simp only[Act.put,aD]
  refine aR 16 rfl (v:=?v16) (ao ⟨by rfl,?h16⟩) ?_;case h16=>(intro w p;(try dsimp only at p);go_simp;try with_reducible rfl)
  try simp only[Act.put,aD]
  refine wpAnyH_ready (rs:=[10,17]) (by kernel_rfl) (by simp) ?_;refine AllReadyH.cons rfl (λF C=>?_) ?_;go_simp;refine C.out _ _ ?_ (λh9=>?_)
  . (try dsimp only);(first|(with_reducible (refine⟨?_,?_,?_⟩ <;> repeat (first|assumption|refine zg ?_|refine zj _ ?_|refine zk (by omega) ?_)))|go_keep)
  clear C F h;have h:=h9;try simp only[Act.put,aD]
  refine wpAnyH_ready (rs:=[17]) (by kernel_rfl) (by simp) ?_;refine AllReadyH.cons rfl (λF C=>?_) ?_;go_simp;first|go_at_K|(((go_at_call 167;refine bg.o.mono ?_;rintro e w1 ⟨rfl,rfl⟩));first|go_at_K|go_wp2_with fail)
  refine C.out _ _ ?_ (λh9=>?_)
  . (try dsimp only);(first|(with_reducible (refine⟨?_,?_,?_⟩ <;> repeat (first|assumption|refine zg ?_|refine zj _ ?_|refine zk (by omega) ?_)))|go_keep)
  clear C F h;have h:=h9;try simp only[Act.put,aD]
  refine wpAnyH_ready (rs:=[18]) (by kernel_rfl) (by simp) ?_;refine AllReadyH.cons rfl (λF C=>?_) ?_;go_simp;refine C.out _ _ ?_ (λh9=>?_)
  . (try dsimp only);(first|(with_reducible (refine⟨?_,?_,?_⟩ <;> repeat (first|assumption|refine zg ?_|refine zj _ ?_|refine zk (by omega) ?_)))|go_keep)
  clear C F h;have h:=h9;try simp only[Act.put,aD]
  refine wpAnyH_ready (rs:=[19]) (by kernel_rfl) (by simp) ?_;refine AllReadyH.cons rfl (λF C=>?_) ?_
  ((refine zJ _ rfl (.tmp 27) (.tmp 35) 36 rfl B 2 i0 _ 1 8 underlying36 hi a5 a6 a9 rfl (by decide) (.slice a1 K.cells.length Q) K.cells.length (zK K.cells) rfl (zD I.hQ _) (xD W.heap.size 0) 1 1 [xI ca] rfl rfl (zN (zc W _) rfl) RY mx a3 (by simp;omega) ?_;intro v' w9 E G L;obtain⟨g9,aV,rfl,bA⟩:=zM E (by omega);have D:=(Fr.gi G).cQ;have O:=(D.block d (by simp;omega) (λH=>by have:=(I.hQ.lt _ H).1;omega)).trans ((mm _ _ _ (by omega)).trans I.aC);have X:=(D.block i (by simp;omega) (λH=>by have:=(I.hQ.lt _ H).1;omega)).trans ((mm _ _ _ (by omega)).trans I.wr);obtain⟨cE,cK,cO⟩:=zu X;obtain⟨q0,b3,q2,q3,q4,q5,qf,b4⟩:=zt O;have d5:=(Z6 (w:=W) (a:=(xD b 5)) ((D.block b (by simp;omega) (λH=>by have:=(I.hQ.lt _ H).1;omega)).trans (mm _ _ _ (by omega)))).trans t5;have f0:=(Z6 (w:=W) (a:=(xD g 0)) ((D.block g (by simp;omega) (λH=>by have:=(I.hQ.lt _ H).1;omega)).trans (mm _ _ _ (by omega)))).trans U))
  refine C.out _ _ ?_ (λh9=>?_)
  . (try dsimp only);(first|(with_reducible (refine⟨?_,?_,?_⟩ <;> repeat (first|assumption|refine zg ?_|refine zj _ ?_|refine zk (by omega) ?_)))|go_keep)
  clear C F h;have h:=h9;try simp only[Act.put,aD]
  refine aR 20 rfl (v:=?v17) (ao ⟨by rfl,?h17⟩) ?_;case h17=>(intro w p;(try dsimp only at p);go_simp;try with_reducible rfl)
  try simp only[Act.put,aD]
  refine aR 21 rfl (v:=?v18) (ao ⟨by rfl,?h18⟩) ?_;case h18=>(intro w p;(try dsimp only at p);go_simp;try with_reducible rfl)
  try simp only[Act.put,aD]
  refine wpAnyH_ready (rs:=[22]) (by kernel_rfl) (by simp) ?_;refine AllReadyH.cons rfl (λF C=>?_) ?_;go_simp;refine C.out _ _ ?_ (λh9=>?_)
  . (try dsimp only);(first|(with_reducible (refine⟨?_,?_,?_⟩ <;> repeat (first|assumption|refine zg ?_|refine zj _ ?_|refine zk (by omega) ?_)))|go_keep)
  clear C F h;have h:=h9;try simp only[Act.put,aD]
  refine wpAnyH_done (by kernel_rfl) ?_ _;rotate_left;exact AllReadyH.nil;exact AllReadyH.nil;exact AllReadyH.nil;exact AllReadyH.nil;refine AllReadyH.cons rfl (λF C=>?_) ?_;go_simp;first|go_at_K|(((go_at_call 167;refine bg.o.mono ?_;rintro e w1 ⟨rfl,rfl⟩));first|go_at_K|go_wp2_with fail)
  refine C.out _ _ ?_ (λh9=>?_)
  . (try dsimp only);(first|(with_reducible (refine⟨?_,?_,?_⟩ <;> repeat (first|assumption|refine zg ?_|refine zj _ ?_|refine zk (by omega) ?_)))|go_keep)
  clear C F h;have h:=h9;try simp only[Act.put,aD]
  refine wpAnyH_ready (rs:=[10,18]) (by kernel_rfl) (by simp) ?_;refine AllReadyH.cons rfl (λF C=>?_) ?_;go_simp;refine C.out _ _ ?_ (λh9=>?_)
  . (try dsimp only);(first|(with_reducible (refine⟨?_,?_,?_⟩ <;> repeat (first|assumption|refine zg ?_|refine zj _ ?_|refine zk (by omega) ?_)))|go_keep)
  clear C F h;have h:=h9;try simp only[Act.put,aD]
  refine wpAnyH_ready (rs:=[18]) (by kernel_rfl) (by simp) ?_;refine AllReadyH.cons rfl (λF C=>?_) ?_;go_simp;refine C.out _ _ ?_ (λh9=>?_)
  . (try dsimp only);(first|(with_reducible (refine⟨?_,?_,?_⟩ <;> repeat (first|assumption|refine zg ?_|refine zj _ ?_|refine zk (by omega) ?_)))|go_keep)
  clear C F h;have h:=h9;try simp only[Act.put,aD]
  refine wpAnyH_ready (rs:=[19]) (by kernel_rfl) (by simp) ?_;refine AllReadyH.cons rfl (λF C=>?_) ?_
  ((refine zJ _ rfl (.tmp 27) (.tmp 35) 36 rfl B 2 i0 _ 1 8 underlying36 hi a5 a6 a9 rfl (by decide) (.slice a1 K.cells.length Q) K.cells.length (zK K.cells) rfl (zD I.hQ _) (xD W.heap.size 0) 1 1 [xI ca] rfl rfl (zN (zc W _) rfl) RY mx a3 (by simp;omega) ?_;intro v' w9 E G L;obtain⟨g9,aV,rfl,bA⟩:=zM E (by omega);have D:=(Fr.gi G).cQ;have O:=(D.block d (by simp;omega) (λH=>by have:=(I.hQ.lt _ H).1;omega)).trans ((mm _ _ _ (by omega)).trans I.aC);have X:=(D.block i (by simp;omega) (λH=>by have:=(I.hQ.lt _ H).1;omega)).trans ((mm _ _ _ (by omega)).trans I.wr);obtain⟨cE,cK,cO⟩:=zu X;obtain⟨q0,b3,q2,q3,q4,q5,qf,b4⟩:=zt O;have d5:=(Z6 (w:=W) (a:=(xD b 5)) ((D.block b (by simp;omega) (λH=>by have:=(I.hQ.lt _ H).1;omega)).trans (mm _ _ _ (by omega)))).trans t5;have f0:=(Z6 (w:=W) (a:=(xD g 0)) ((D.block g (by simp;omega) (λH=>by have:=(I.hQ.lt _ H).1;omega)).trans (mm _ _ _ (by omega)))).trans U))
  refine C.out _ _ ?_ (λh9=>?_)
  . (try dsimp only);(first|(with_reducible (refine⟨?_,?_,?_⟩ <;> repeat (first|assumption|refine zg ?_|refine zj _ ?_|refine zk (by omega) ?_)))|go_keep)
  clear C F h;have h:=h9;try simp only[Act.put,aD]
  refine aR 20 rfl (v:=?v19) (ao ⟨by rfl,?h19⟩) ?_;case h19=>(intro w p;(try dsimp only at p);go_simp;try with_reducible rfl)
  try simp only[Act.put,aD]
  refine aR 21 rfl (v:=?v20) (ao ⟨by rfl,?h20⟩) ?_;case h20=>(intro w p;(try dsimp only at p);go_simp;try with_reducible rfl)
  try simp only[Act.put,aD]
  refine wpAnyH_ready (rs:=[22]) (by kernel_rfl) (by simp) ?_;refine AllReadyH.cons rfl (λF C=>?_) ?_;go_simp;refine C.out _ _ ?_ (λh9=>?_)
  . (try dsimp only);(first|(with_reducible (refine⟨?_,?_,?_⟩ <;> repeat (first|assumption|refine zg ?_|refine zj _ ?_|refine zk (by omega) ?_)))|go_keep)
  clear C F h;have h:=h9;try simp only[Act.put,aD]
  refine wpAnyH_done (by kernel_rfl) ?_ _;rotate_left;exact AllReadyH.nil;exact AllReadyH.nil;exact AllReadyH.nil;refine AllReadyH.cons rfl (λF C=>?_) ?_;go_simp;refine C.out _ _ ?_ (λh9=>?_)
  . (try dsimp only);(first|(with_reducible (refine⟨?_,?_,?_⟩ <;> repeat (first|assumption|refine zg ?_|refine zj _ ?_|refine zk (by omega) ?_)))|go_keep)
  clear C F h;have h:=h9;try simp only[Act.put,aD]
  refine wpAnyH_ready (rs:=[10]) (by kernel_rfl) (by simp) ?_;refine AllReadyH.cons rfl (λF C=>?_) ?_;go_simp;refine C.out _ _ ?_ (λh9=>?_)
  . (try dsimp only);(first|(with_reducible (refine⟨?_,?_,?_⟩ <;> repeat (first|assumption|refine zg ?_|refine zj _ ?_|refine zk (by omega) ?_)))|go_keep)
  clear C F h;have h:=h9;try simp only[Act.put,aD]
  refine wpAnyH_ready (rs:=[19]) (by kernel_rfl) (by simp) ?_;refine AllReadyH.cons rfl (λF C=>?_) ?_
  ((refine zJ _ rfl (.tmp 27) (.tmp 35) 36 rfl B 2 i0 _ 1 8 underlying36 hi a5 a6 a9 rfl (by decide) (.slice a1 K.cells.length Q) K.cells.length (zK K.cells) rfl (zD I.hQ _) (xD W.heap.size 0) 1 1 [xI ca] rfl rfl (zN (zc W _) rfl) RY mx a3 (by simp;omega) ?_;intro v' w9 E G L;obtain⟨g9,aV,rfl,bA⟩:=zM E (by omega);have D:=(Fr.gi G).cQ;have O:=(D.block d (by simp;omega) (λH=>by have:=(I.hQ.lt _ H).1;omega)).trans ((mm _ _ _ (by omega)).trans I.aC);have X:=(D.block i (by simp;omega) (λH=>by have:=(I.hQ.lt _ H).1;omega)).trans ((mm _ _ _ (by omega)).trans I.wr);obtain⟨cE,cK,cO⟩:=zu X;obtain⟨q0,b3,q2,q3,q4,q5,qf,b4⟩:=zt O;have d5:=(Z6 (w:=W) (a:=(xD b 5)) ((D.block b (by simp;omega) (λH=>by have:=(I.hQ.lt _ H).1;omega)).trans (mm _ _ _ (by omega)))).trans t5;have f0:=(Z6 (w:=W) (a:=(xD g 0)) ((D.block g (by simp;omega) (λH=>by have:=(I.hQ.lt _ H).1;omega)).trans (mm _ _ _ (by omega)))).trans U))
  refine C.out _ _ ?_ (λh9=>?_)
  . (try dsimp only);(first|(with_reducible (refine⟨?_,?_,?_⟩ <;> repeat (first|assumption|refine zg ?_|refine zj _ ?_|refine zk (by omega) ?_)))|go_keep)
  clear C F h;have h:=h9;try simp only[Act.put,aD]
  refine aR 20 rfl (v:=?v21) (ao ⟨by rfl,?h21⟩) ?_;case h21=>(intro w p;(try dsimp only at p);go_simp;try with_reducible rfl)
  try simp only[Act.put,aD]
  refine aR 21 rfl (v:=?v22) (ao ⟨by rfl,?h22⟩) ?_;case h22=>(intro w p;(try dsimp only at p);go_simp;try with_reducible rfl)
  try simp only[Act.put,aD]
  refine wpAnyH_ready (rs:=[22]) (by kernel_rfl) (by simp) ?_;refine AllReadyH.cons rfl (λF C=>?_) ?_;go_simp;refine C.out _ _ ?_ (λh9=>?_)
  . (try dsimp only);(first|(with_reducible (refine⟨?_,?_,?_⟩ <;> repeat (first|assumption|refine zg ?_|refine zj _ ?_|refine zk (by omega) ?_)))|go_keep)
  clear C F h;have h:=h9;try simp only[Act.put,aD]
  refine wpAnyH_done (by kernel_rfl) ?_ _;rotate_left;exact AllReadyH.nil;exact AllReadyH.nil;exact AllReadyH.nil;exact AllReadyH.nil;exact AllReadyH.nil;all_goals refine NoPanic.normal ?_
  all_goals go_wp2_with fail
  all_goals go_meet
  all_goals have bx:=I.Re D E (λk e=>(L k e).imp id (λH=>by have h':(W.alloc (.cells #[xI ca] 2)).heap.size<=k:=H;rw[au] at h';exact h'))
  all_goals exact b2.o.Om bx.1 bx.2
 case rest =>
  have J:aa (CX N B i d f m l c n q w w.heap.size (.cells #[xI (k.1:Nat),xI (k.2:Nat)] 162) r (K.cell (MI Z)) j wc):=hcut;go_upto_region 3 with fail;go_cut [] (λwx=>∃aL,aa (CX N B i d f m l c n q w w.heap.size (.cells #[xI (k.1:Nat),xI (k.2:Nat)] 162) aL (K.cell (MI Z)) (j++[⟨K.cells.length,bt,k⟩]) wx));case first =>
   obtain⟨xs,P,bs⟩:=J.o.wl.row;obtain⟨ct,a4,rfl⟩:=QM P;obtain⟨m0,m1,m2,m3,m4,dM,cs⟩:=bz J.o.wl.wi.qi.aC;have hO:=J.o.am H;obtain⟨t0,t1,t2,t3,t4,t5,dP,tz⟩:=zt ((hO b c0).trans a2);have ar:=(Z6 (w:=w) (a:=(xD g 1)) (hO g bB)).trans ar;obtain⟨z0,c3,ek,cd⟩:=zp J.o.bx;have bL:=J.o.nz;have bp:=za (bo.am hO);have ch:B<=wc.heap.size:=(by obtain⟨_,_,_,I⟩:=J.o.wl.wi.kw;exact I.hB);have c9:=J.o.wl.NO;have ck:=J.o.wl.wi.NN;have ds:=J.o.wl.wi.kw.kb;have M:∀T,(Value.slice ct j.length a4).ownBlock=some T->¬T=b/\¬T=g/\¬T=w.heap.size/\¬T=f:=λT e=>⟨λe'=>by have:=(P.lt T e).1;omega,λe'=>by have:=(P.lt T e).1;omega,λe'=>bL ((J.o.wl.ct _).2 (ap (ap (e'▸e)))),(J.o.wl.dl T e).2.1⟩;have dL:¬w.heap.size=f:=λe=>bL ((J.o.wl.ct _).2 (ap (ao e)));have dl:¬b=f:=(by omega);have dq:¬g=f:=(by omega);refine wp_region_noPanic ?_;refine wp_region_held_drew (S:=(λY=>Y.cell? (xD b 5)=some (xS g 2 cR)/\Y.cell? (xD g 1)=some (xP u1)/\Y.cell? (xD w.heap.size 0)=some (xI (k.1:Nat))/\Y.cell? (xD w.heap.size 1)=some (xI (k.2:Nat)))) (by kernel_rfl) ?_ (λh=>?_)
   . (try dsimp only);(first|(with_reducible (refine⟨?_,?_,?_,?_⟩ <;> repeat (first|assumption|refine zg ?_|refine zj _ ?_|refine zk (by omega) ?_)))|go_keep)
   refine aR 0 rfl (v:=?v23) (ao ⟨by rfl,?h23⟩) ?_;case h23=>(intro w p;(try dsimp only at p);go_simp;try with_reducible rfl)
   try simp only[Act.put,aD]
   refine aR 1 rfl (v:=?v24) (ao ⟨by rfl,?h24⟩) ?_;case h24=>(intro w p;(try dsimp only at p);go_simp;try with_reducible rfl)
   try simp only[Act.put,aD]
   refine aR 2 rfl (v:=?v25) (ao ⟨by rfl,?h25⟩) ?_;case h25=>(intro w p;(try dsimp only at p);go_simp;try with_reducible rfl)
   try simp only[Act.put,aD]
   refine aR 3 rfl (v:=?v26) (ao ⟨by rfl,?h26⟩) ?_;case h26=>(intro w p;(try dsimp only at p);go_simp;try with_reducible rfl)
   try simp only[Act.put,aD]
   refine aR 5 rfl (v:=?v27) (ao ⟨by rfl,?h27⟩) ?_;case h27=>(intro w p;(try dsimp only at p);go_simp;try with_reducible rfl)
   try simp only[Act.put,aD]
   refine aR 6 rfl (v:=?v28) (ao ⟨by rfl,?h28⟩) ?_;case h28=>(intro w p;(try dsimp only at p);go_simp;try with_reducible rfl)
   try simp only[Act.put,aD]
   refine aR 7 rfl (v:=?v29) (ao ⟨by rfl,?h29⟩) ?_;case h29=>(intro w p;(try dsimp only at p);go_simp;try with_reducible rfl)
   try simp only[Act.put,aD]
   refine aR 8 rfl (v:=?v30) (ao ⟨by rfl,?h30⟩) ?_;case h30=>(intro w p;(try dsimp only at p);go_simp;try with_reducible rfl)
   try simp only[Act.put,aD]
   refine aR 9 rfl (v:=?v31) (ao ⟨by rfl,?h31⟩) ?_;case h31=>(intro w p;(try dsimp only at p);go_simp;try with_reducible rfl)
   try simp only[Act.put,aD]
   refine aR 10 rfl (v:=?v32) (ao ⟨by rfl,?h32⟩) ?_;case h32=>(intro w p;(try dsimp only at p);go_simp;try with_reducible rfl)
   try simp only[Act.put,aD]
   refine aR 11 rfl (v:=?v33) (ao ⟨by rfl,?h33⟩) ?_;case h33=>(intro w p;(try dsimp only at p);go_simp;try with_reducible rfl)
   try simp only[Act.put,aD]
   refine aR 12 rfl (v:=?v34) (ao ⟨by rfl,?h34⟩) ?_;case h34=>(intro w p;(try dsimp only at p);go_simp;try with_reducible rfl)
   try simp only[Act.put,aD]
   refine aR 13 rfl (v:=?v35) (ao ⟨by rfl,?h35⟩) ?_;case h35=>(intro w p;(try dsimp only at p);go_simp;try with_reducible rfl)
   try simp only[Act.put,aD]
   refine wpAnyH_ready (rs:=[4,14]) (by kernel_rfl) (by simp) ?_;refine AllReadyH.cons rfl (λF C=>?_) ?_;go_simp;refine C.out _ _ ?_ (λh9=>?_)
   . (try dsimp only);(first|(with_reducible (refine⟨?_,?_,?_,?_⟩ <;> repeat (first|assumption|refine zg ?_|refine zj _ ?_|refine zk (by omega) ?_)))|go_keep)
   clear C F h;have h:=h9;try simp only[Act.put,aD]
   refine wpAnyH_ready (rs:=[14]) (by kernel_rfl) (by simp) ?_;refine AllReadyH.cons rfl (λF C=>?_) ?_;go_simp;refine C.out _ _ ?_ (λh9=>?_)
   . (try dsimp only);(first|(with_reducible (refine⟨?_,?_,?_,?_⟩ <;> repeat (first|assumption|refine zg ?_|refine zj _ ?_|refine zk (by omega) ?_)))|go_keep)
   clear C F h;have h:=h9;try simp only[Act.put,aD]
   refine wpAnyH_ready (rs:=[15]) (by kernel_rfl) (by simp) ?_;refine AllReadyH.cons rfl (λF C=>?_) ?_
   ((refine SL _ rfl (.tmp 43) (.tmp 53) 85 rfl B 170 c2 _ 4 32 underlying85 c1 bC bE bK rfl (by decide) (.slice ct j.length a4) j.length xs rfl (O4 P (λT _ bb _=>mm _ _ _ bb)) (xD wc.heap.size 0) 1 1 [xI (K.cells.length:Int),xP u1,xI (k.1:Nat),xI (k.2:Nat)] rfl rfl (zN (zc wc _) rfl) Tu b1 bv (by simp;omega) ?_;intro v' w9 E G L;obtain⟨dV,cg,rfl⟩:=QM E;have D:=(Fr.gi G).cQ;have O:=(D.block f (by simp;omega) (λH=>(M _ H).2.2.2 rfl)).trans ((mm _ _ _ cs).trans J.o.wl.wi.qi.aC);obtain⟨q0,b3,q2,q3,q4,qf,b4⟩:=bz O;have d5:=(Z6 (w:=wc) (a:=(xD b 5)) ((D.block b (by simp;omega) (λH=>(M _ H).1 rfl)).trans (mm _ _ _ tz))).trans t5;have f1:=(Z6 (w:=wc) (a:=(xD g 1)) ((D.block g (by simp;omega) (λH=>(M _ H).2.1 rfl)).trans (mm _ _ _ (by omega)))).trans ar;have cv:=(Z6 (w:=wc) (a:=(xD w.heap.size 0)) ((D.block w.heap.size (by simp;omega) (λH=>(M _ H).2.2.1 rfl)).trans (mm _ _ _ cd))).trans z0;have cz:=(Z6 (w:=wc) (a:=(xD w.heap.size 1)) ((D.block w.heap.size (by simp;omega) (λH=>(M _ H).2.2.1 rfl)).trans (mm _ _ _ cd))).trans c3))
   refine C.out _ _ ?_ (λh9=>?_)
   . (try dsimp only);(first|(with_reducible (refine⟨?_,?_,?_,?_⟩ <;> repeat (first|assumption|refine zg ?_|refine zj _ ?_|refine zk (by omega) ?_)))|go_keep)
   clear C F h;have h:=h9;try simp only[Act.put,aD]
   refine aR 16 rfl (v:=?v36) (ao ⟨by rfl,?h36⟩) ?_;case h36=>(intro w p;(try dsimp only at p);go_simp;try with_reducible rfl)
   try simp only[Act.put,aD]
   refine aR 17 rfl (v:=?v37) (ao ⟨by rfl,?h37⟩) ?_;case h37=>(intro w p;(try dsimp only at p);go_simp;try with_reducible rfl)
   try simp only[Act.put,aD]
   refine wpAnyH_ready (rs:=[18]) (by kernel_rfl) (by simp) ?_;refine AllReadyH.cons rfl (λF C=>?_) ?_;go_simp;refine C.out _ _ ?_ (λh9=>?_)
   . (try dsimp only);(first|(with_reducible (refine⟨?_,?_,?_,?_⟩ <;> repeat (first|assumption|refine zg ?_|refine zj _ ?_|refine zk (by omega) ?_)))|go_keep)
   clear C F h;have h:=h9;try simp only[Act.put,aD]
   refine wpAnyH_done (by kernel_rfl) ?_ _;rotate_left;exact AllReadyH.nil;exact AllReadyH.nil;exact AllReadyH.nil;refine AllReadyH.cons rfl (λF C=>?_) ?_;go_simp;refine C.out _ _ ?_ (λh9=>?_)
   . (try dsimp only);(first|(with_reducible (refine⟨?_,?_,?_,?_⟩ <;> repeat (first|assumption|refine zg ?_|refine zj _ ?_|refine zk (by omega) ?_)))|go_keep)
   clear C F h;have h:=h9;try simp only[Act.put,aD]
   refine wpAnyH_ready (rs:=[4]) (by kernel_rfl) (by simp) ?_;refine AllReadyH.cons rfl (λF C=>?_) ?_;go_simp;refine C.out _ _ ?_ (λh9=>?_)
   . (try dsimp only);(first|(with_reducible (refine⟨?_,?_,?_,?_⟩ <;> repeat (first|assumption|refine zg ?_|refine zj _ ?_|refine zk (by omega) ?_)))|go_keep)
   clear C F h;have h:=h9;try simp only[Act.put,aD]
   refine wpAnyH_ready (rs:=[15]) (by kernel_rfl) (by simp) ?_;refine AllReadyH.cons rfl (λF C=>?_) ?_
   ((refine SL _ rfl (.tmp 43) (.tmp 53) 85 rfl B 170 c2 _ 4 32 underlying85 c1 bC bE bK rfl (by decide) (.slice ct j.length a4) j.length xs rfl (O4 P (λT _ bb _=>mm _ _ _ bb)) (xD wc.heap.size 0) 1 1 [xI (K.cells.length:Int),xP u1,xI (k.1:Nat),xI (k.2:Nat)] rfl rfl (zN (zc wc _) rfl) Tu b1 bv (by simp;omega) ?_;intro v' w9 E G L;obtain⟨dV,cg,rfl⟩:=QM E;have D:=(Fr.gi G).cQ;have O:=(D.block f (by simp;omega) (λH=>(M _ H).2.2.2 rfl)).trans ((mm _ _ _ cs).trans J.o.wl.wi.qi.aC);obtain⟨q0,b3,q2,q3,q4,qf,b4⟩:=bz O;have d5:=(Z6 (w:=wc) (a:=(xD b 5)) ((D.block b (by simp;omega) (λH=>(M _ H).1 rfl)).trans (mm _ _ _ tz))).trans t5;have f1:=(Z6 (w:=wc) (a:=(xD g 1)) ((D.block g (by simp;omega) (λH=>(M _ H).2.1 rfl)).trans (mm _ _ _ (by omega)))).trans ar;have cv:=(Z6 (w:=wc) (a:=(xD w.heap.size 0)) ((D.block w.heap.size (by simp;omega) (λH=>(M _ H).2.2.1 rfl)).trans (mm _ _ _ cd))).trans z0;have cz:=(Z6 (w:=wc) (a:=(xD w.heap.size 1)) ((D.block w.heap.size (by simp;omega) (λH=>(M _ H).2.2.1 rfl)).trans (mm _ _ _ cd))).trans c3))
   refine C.out _ _ ?_ (λh9=>?_)
   . (try dsimp only);(first|(with_reducible (refine⟨?_,?_,?_,?_⟩ <;> repeat (first|assumption|refine zg ?_|refine zj _ ?_|refine zk (by omega) ?_)))|go_keep)
   clear C F h;have h:=h9;try simp only[Act.put,aD]
   refine aR 16 rfl (v:=?v38) (ao ⟨by rfl,?h38⟩) ?_;case h38=>(intro w p;(try dsimp only at p);go_simp;try with_reducible rfl)
   try simp only[Act.put,aD]
   refine aR 17 rfl (v:=?v39) (ao ⟨by rfl,?h39⟩) ?_;case h39=>(intro w p;(try dsimp only at p);go_simp;try with_reducible rfl)
   try simp only[Act.put,aD]
   refine wpAnyH_ready (rs:=[18]) (by kernel_rfl) (by simp) ?_;refine AllReadyH.cons rfl (λF C=>?_) ?_;go_simp;refine C.out _ _ ?_ (λh9=>?_)
   . (try dsimp only);(first|(with_reducible (refine⟨?_,?_,?_,?_⟩ <;> repeat (first|assumption|refine zg ?_|refine zj _ ?_|refine zk (by omega) ?_)))|go_keep)
   clear C F h;have h:=h9;try simp only[Act.put,aD]
   refine wpAnyH_done (by kernel_rfl) ?_ _;rotate_left;exact AllReadyH.nil;exact AllReadyH.nil;exact AllReadyH.nil;exact AllReadyH.nil;all_goals refine NoPanic.normal ?_
   all_goals go_wp2_with fail
   all_goals go_meet
   all_goals have bx:=J.o.wl.put ⟨K.cells.length,bt,k⟩ (xP u1) bp.o D xs bs E (λT e=>(L T e).imp id (λH=>by have h':(wc.alloc (.cells #[xI (K.cells.length:Int),xP u1,xI (k.1:Nat),xI (k.2:Nat)] 170)).heap.size<=T:=H;rw[au] at h';exact h'))
   all_goals exact⟨_,J.o.PX bx.1 bx.2⟩
  case rest => obtain⟨aL,ce⟩:=hcut;go_wp2_with (go_at_call 27;refine (ce.o.add 3 (K.cells.length:Int) dw).mono ?_;rintro e w3 ⟨rfl,bq⟩);go_end0;rw[<- bk];exact⟨rfl,⟨_,bq.wl⟩,bq.ft⟩
end
section
variable {K:Cd} {N f:Nat} {c:Sc}
attribute [local go_sem ↓] Go.wp_at_zero Go.wp_at_succ
def Pq (k:Nat):Nat:=if k=5 then 5 else k-3
def M9 (w:Xw):Prop:=∀k,(k=5∨10<=k)->k<=23->w.cell? (xD 13 k)=some (.int .u8 (Pq k:Nat))
theorem M9.am {w w':Xw}(h:M9 w)(g:bV N w w')(e:21<=N):M9 w':=λk b d=>(Z6 (w:=w) (a:=(xD 13 k)) (g 13 (dD (show 13<21 by decide) e))).trans (h k b d)
def NK (a:Sc->Nat->Cd->Cd)(c:Sc)(f e:Nat)(K:Cd)(t:Tm)(k:Nat×Nat):Cd :=
 match c.called t.s with
 | none=>K
 | some d =>
   let b:=f+c.nd.ak.length+1
   (a d b ((K.fv ((List.range t.ts.length).reverse.map λi=>(2,((b+i:Nat):Int)))).fv (z8 c f e k))).fv ((List.range d.nd.aG).map λi=>(1,((b+(d.nd.ah+i):Nat):Int)))
def zs (b:Sc->Nat->Cd->Cd)(c:Sc)(f d:Nat)(s:Cd×List Lt)(t:Tm)(k:Nat×Nat):Cd×List Lt :=
 if t.k<=2 then (s.1.add 0 (MI t),s.2)
 else if t.k=3 then (s.1.add 1 ((f+c.idx t.s:Nat):Int),s.2)
 else if t.k=7∨t.k=8 then s
 else if t.k=6 then (s.1.add 6 ((f+c.idx t.s:Nat):Int),s.2)
 else if t.k=9 then ((s.1.cell (N1 t.ts)).add 3 s.1.cells.length,s.2++(match t.ts with|_::a::_=>[⟨s.1.cells.length,a,k⟩]|_=>[]))
 else if t.k=4 then (NK b c f d s.1 t k,s.2)
 else (s.1.add (Pq t.k) 0,s.2)
def qv (K:Cd):Prop:=K.row.length<=1000000/\K.cells.length<=1000000
def Nn (s:Cd×List Lt):Prop:=qv s.1/\s.2.length<=1000000
theorem O8 (c:Sc)(s:Xb):c.idx s<=c.nd.ak.length:=by
 unfold Sc.idx;cases h:c.nd.find s with
 | none=>simp
 | some j=>have:=(kP h).2.1;simp;omega
theorem NX {a:Nat}{x:Int}(h:qv (K.add a x)):qv K:=by unfold qv Cd.add at h;simp at h;exact⟨by omega,h.2⟩
theorem On {l:List (Nat×Int)}(h:qv (K.fv l)):qv K:=by unfold qv Cd.fv at h;simp at h;exact⟨by omega,h.2⟩
theorem RO {e:Sc->Nat->Cd->Cd}(i:∀d b K,qv (e d b K)->qv K){g:Nat}(s:Cd×List Lt)(t:Tm)(k:Nat×Nat)(h:Nn (zs e c f g s t k)):Nn s:=by
 unfold zs at h;split at h
 . exact⟨NX h.1,h.2⟩
 split at h
 . exact⟨NX h.1,h.2⟩
 split at h
 . exact h
 split at h
 . exact⟨NX h.1,h.2⟩
 split at h
 . have a:=NX h.1;refine⟨⟨a.1,?_⟩,?_⟩
   . have:=a.2;unfold Cd.cell at this;simp at this;omega
   have:=h.2;simp at this;omega
 split at h
 . refine⟨?_,h.2⟩;have a:=h.1;unfold NK at a;split at a
   . exact a
   exact On (On (i _ _ _ (On a)))
 exact⟨NX h.1,h.2⟩
theorem V7 {B L G y S:Nat}{Z nv lv:Xv}(d:Sc->Nat->Cd->Cd)(q:Nat)(T:21<=N)(a1:f<=100000)(t:Tm)(r:Wf t)(v:Xv)(k:Nat×Nat)(s:Cd×List Lt)(w:Xw)(a4:TT w N t v)(H:WL N B L G y S f c Z nv lv s.1 s.2 w)(aA:M9 w)(_hbd:Nn (zs d c f q s t k))(F:Nn s)
 (R:t.k=4->∀W,WL N B L G y S f c Z nv lv s.1 s.2 W->TT W N t v->M9 W->xK 169 #[xP L,xP y,v,hG k] W (λe Y=>e=.returned (.tuple #[])/\(∃I,WL N B L G y S f c Z nv I (NK d c f q s.1 t k) s.2 Y)/\FT (CT G y) W Y)) :
 xK 127 #[xP L,xP y,v,hG k] w (λe Y=>e=.returned (.tuple #[])/\(∃I,WL N B L G y S f c Z nv I (zs d c f q s t k).1 (zs d c f q s t k).2 Y)/\FT (CT G y) w Y):=by
 obtain⟨bl,aL,nb,rfl,rfl,bk⟩:=H.wi.qi.sc.shape;have a9:c.nd.ak.length<=16:=by obtain⟨_,_,_,_,_,a2⟩:=H.wi.qi.sc.nd;exact a2.bO
 have bb:=O8 c t.s;obtain⟨b,a6,vs,rfl,bg,ar,_⟩:=a4.ptr;have o:=za (CX.new H (.cells #[xI (k.1:Nat),xI (k.2:Nat)] 162));have m:s.1.row.length<=1000000:=F.1.1;have U:s.1.cells.length<=1000000:=F.1.2;have V:s.2.length<=1000000:=F.2;have be:=H.wi.qi.hN;obtain⟨a5,h⟩:∃a5,zs d c f q s t k=a5:=⟨_,rfl⟩;rw[h];unfold hG;go_enter func127,ntmps127;go_upto_region 1 with fail;refine zn (λW=>CX N B L G y S f c (xE bl c aL) (xP nb) w w.heap.size (.cells #[xI (k.1:Nat),xI (k.2:Nat)] 162) lv s.1 s.2 W) o.o ?_;intro W a0;have hO:=a0.am H;obtain⟨x,m1,m2,m3,m4,m5,bq,bs⟩:=zt ((hO b bg).trans ar);obtain⟨z0,bt,bv,bx⟩:=zp a0.bx;have u:=za (a4.am hO);have z:=za (aA.am hO T);have o:=za a0;by_cases g:t.k=0
 . have n:aa (zs d c f q s t k=(s.1.add 0 (MI t),s.2)):=by unfold aa zs;rw[ag (by omega)]
   have p:W.cell? (xD b 0)=some (xI 0):=(by rw[x,g];rfl)
   go_wp2_with (first
    | (go_at_call 27;refine (o.o.add 0 (MI t) m).mono ?_;rintro e J ⟨rfl,i⟩;have a:=za i)
    | (go_at_call 167;refine (QL t r _ _ u.o).mono ?_;rintro e w2 ⟨rfl,rfl⟩))
   first|go_end0|refine ab (results_none rfl _ _ _) rfl ?_
   rw[<- h,n.o];exact⟨rfl,⟨_,a.o.wl⟩,a.o.ft⟩
 have h0:=g;by_cases g:t.k=1
 . have n:aa (zs d c f q s t k=(s.1.add 0 (MI t),s.2)):=by unfold aa zs;rw[ag (by omega)]
   have p:W.cell? (xD b 0)=some (xI 1):=(by rw[x,g];rfl)
   go_wp2_with (first
    | (go_at_call 27;refine (o.o.add 0 (MI t) m).mono ?_;rintro e J ⟨rfl,i⟩;have a:=za i)
    | (go_at_call 167;refine (QL t r _ _ u.o).mono ?_;rintro e w2 ⟨rfl,rfl⟩))
   first|go_end0|refine ab (results_none rfl _ _ _) rfl ?_
   rw[<- h,n.o];exact⟨rfl,⟨_,a.o.wl⟩,a.o.ft⟩
 have h1:=g;by_cases g:t.k=2
 . have n:aa (zs d c f q s t k=(s.1.add 0 (MI t),s.2)):=by unfold aa zs;rw[ag (by omega)]
   have p:W.cell? (xD b 0)=some (xI 2):=(by rw[x,g];rfl)
   go_wp2_with (first
    | (go_at_call 27;refine (o.o.add 0 (MI t) m).mono ?_;rintro e J ⟨rfl,i⟩;have a:=za i)
    | (go_at_call 167;refine (QL t r _ _ u.o).mono ?_;rintro e w2 ⟨rfl,rfl⟩))
   first|go_end0|refine ab (results_none rfl _ _ _) rfl ?_
   rw[<- h,n.o];exact⟨rfl,⟨_,a.o.wl⟩,a.o.ft⟩
 have h2:=g;by_cases g:t.k=3
 . have n:aa (zs d c f q s t k=(s.1.add 1 ((f+c.idx t.s:Nat):Int),s.2)):=by unfold aa zs;rw[ae (by omega),ag g]
   have p:W.cell? (xD b 0)=some (xI 3):=(by rw[x,g];rfl)
   go_wp2_with (first
    | (go_at_call 27;refine (A.o.add 1 ((f+c.idx t.s:Nat):Int) m).mono ?_;rintro e J ⟨rfl,i⟩;have a:=za i)
    | (go_at_call 63;refine (RE t.s (t.nm:Int) _ o.o.wl.wi.qi (by omega) (by omega)).mono ?_;rintro e w2 ⟨rfl,C⟩;have A:=za (o.o.aq C)))
   first|go_end0|refine ab (results_none rfl _ _ _) rfl ?_
   rw[<- h,n.o];exact⟨rfl,⟨_,a.o.wl⟩,a.o.ft⟩
 have h3:=g;by_cases g:t.k=6
 . have n:aa (zs d c f q s t k=(s.1.add 6 ((f+c.idx t.s:Nat):Int),s.2)):=by unfold aa zs;rw[ae (by omega),ae (by omega),ae (by omega),ag g]
   have p:W.cell? (xD b 0)=some (xI 6):=(by rw[x,g];rfl)
   go_wp2_with (first
    | (go_at_call 27;refine (A.o.add 6 ((f+c.idx t.s:Nat):Int) m).mono ?_;rintro e J ⟨rfl,i⟩;have a:=za i)
    | (go_at_call 63;refine (RE t.s (t.nm:Int) _ o.o.wl.wi.qi (by omega) (by omega)).mono ?_;rintro e w2 ⟨rfl,C⟩;have A:=za (o.o.aq C)))
   first|go_end0|refine ab (results_none rfl _ _ _) rfl ?_
   rw[<- h,n.o];exact⟨rfl,⟨_,a.o.wl⟩,a.o.ft⟩
 have h6:=g;by_cases g:t.k=7
 . have n:aa (zs d c f q s t k=s):=by unfold aa zs;rw[ae (by omega),ae (by omega),ag (by omega)]
   have p:W.cell? (xD b 0)=some (xI 7):=(by rw[x,g];rfl);go_wp2_with fail;first|go_end0|refine ab (results_none rfl _ _ _) rfl ?_
   rw[<- h,n.o];exact⟨rfl,⟨_,o.o.wl⟩,o.o.ft⟩
 have h7:=g;by_cases g:t.k=8
 . have n:aa (zs d c f q s t k=s):=by unfold aa zs;rw[ae (by omega),ae (by omega),ag (by omega)]
   have p:W.cell? (xD b 0)=some (xI 8):=(by rw[x,g];rfl);go_wp2_with fail;first|go_end0|refine ab (results_none rfl _ _ _) rfl ?_
   rw[<- h,n.o];exact⟨rfl,⟨_,o.o.wl⟩,o.o.ft⟩
 have h8:=g;by_cases g:t.k=9
 . have j:=r.ar;rw[g] at j;obtain⟨M,O,X⟩:∃M O,t.ts=[M,O]:=by
    rcases hx:t.ts with _|⟨M,_|⟨O,_|⟨bo,l⟩⟩⟩
    . rw[hx] at j;simp[dJ] at j
    . rw[hx] at j;simp[dJ] at j
    . exact⟨M,O,rfl⟩
    rw[hx] at j;simp[dJ] at j
   have n:aa (zs d c f q s t k=((s.1.cell (MI M)).add 3 s.1.cells.length,s.2++[⟨s.1.cells.length,O,k⟩])):=(by unfold aa zs;rw[ae (by omega),ae (by omega),ae (by omega),ae (by omega),ag g,X,N1]);have Q:=za (VJ t M O X r (xP b) k s.1 s.2 W u.o o.o.wl m U V);unfold hG at Q;have p:W.cell? (xD b 0)=some (xI 9):=(by rw[x,g];rfl);go_wp2_with (go_at_call 168;refine Q.o.mono ?_;rintro e J ⟨rfl,⟨a3,E⟩,D⟩;have a:=za (o.o.PX E D));first|go_end0|refine ab (results_none rfl _ _ _) rfl ?_
   rw[<- h,n.o];exact⟨rfl,⟨_,a.o.wl⟩,a.o.ft⟩
 have h9:=g;by_cases g:t.k=4
 . have n:aa (zs d c f q s t k=(NK d c f q s.1 t k,s.2)):=by unfold aa zs;rw[ae (by omega),ae (by omega),ae (by omega),ae (by omega),ae (by omega),ag g]
   have P:=za (R g W o.o.wl u.o z.o);unfold hG at P;have p:W.cell? (xD b 0)=some (xI 4):=(by rw[x,g];rfl);go_wp2_with (go_at_call 169;refine P.o.mono ?_;rintro e J ⟨rfl,⟨a3,E⟩,D⟩;have a:=za (o.o.PX E D));first|go_end0|refine ab (results_none rfl _ _ _) rfl ?_
   rw[<- h,n.o];exact⟨rfl,⟨_,a.o.wl⟩,a.o.ft⟩
 have h4:=g;have n:aa (zs d c f q s t k=(s.1.add (Pq t.k) 0,s.2)):=by unfold aa zs;rw[ae (by omega),ae (by omega),ae (by omega),ae (by omega),ae (by omega),ae (by omega)]
 have aV:t.k<=23:=by
  have j:=r.ar;unfold dJ at j;rcases Nat.lt_or_ge 23 t.k with H|H
  . rw[ae (by omega),ae (by omega),ae (by omega),ae (by omega),ae (by omega),ae (by omega),ae (by omega),ae (by omega)] at j;cases j
  exact H
 have bp:=z.o t.k (by omega) aV;have g0:¬(t.k:Int)=0:=by omega
 have g1:¬(t.k:Int)=1:=by omega
 have g2:¬(t.k:Int)=2:=by omega
 have g3:¬(t.k:Int)=3:=by omega
 have g4:¬(t.k:Int)=4:=by omega
 have g6:¬(t.k:Int)=6:=by omega
 have g7:¬(t.k:Int)=7:=by omega
 have g8:¬(t.k:Int)=8:=by omega
 have g9:¬(t.k:Int)=9:=by omega
 have i0:(0:Int)<=(t.k:Int):=by omega
 have i1:(t.k:Int)<24:=by omega
 go_wp2_with (go_at_call 27;refine (o.o.add (Pq t.k) 0 m).mono ?_;rintro e J ⟨rfl,i⟩;have a:=za i);first|go_end0|refine ab (results_none rfl _ _ _) rfl ?_
 rw[<- h,n.o];exact⟨rfl,⟨_,a.o.wl⟩,a.o.ft⟩
end
section
variable {s:Cd×List Lt} {B N f l g a j z:Nat} {c:Sc} {m n:Xv} {W p:Xw}
attribute [local go_sem ↓] Go.wp_at_zero Go.wp_at_succ
def RU (N B j g a l f:Nat)(c:Sc)(m n:Xv)(b:Sc->Nat->Cd->Cd)(h:Nat)(o:Tm->Nat×Nat->Prop):Prop :=
 ∀t k,o t k->t.k=4->∀(s:Cd×List Lt) lv W v,WL N B j g a l f c m n lv s.1 s.2 W->TT W N t v->M9 W->Nn (zs b c f h s t k) ->
  xK 169 #[xP j,xP a,v,hG k] W (λe i=>e=.returned (.tuple #[])/\(∃d,WL N B j g a l f c m n d (NK b c f h s.1 t k) s.2 i)/\FT (CT g a) W i)
structure OA (N B j g a l f:Nat) (c:Sc) (m n:Xv) (z:Nat) (s:Cd×List Lt) (W:Xw):Prop where
 wl:∃lv,WL N B j g a l f c m n lv s.1 s.2 W
 ops:M9 W
 x1:W.heap[z]?=some (.cells #[xP j] 152 (0,0))
 x2:W.heap[z+1]?=some (.cells #[xP a] 68 (0,0))
 n1:¬CT g a W z
 n2:¬CT g a W (z+1)
theorem OA.ad {d:Cd×List Lt}(q:21<=N)(h:OA N B j g a l f c m n z s W)(r:∃o,WL N B j g a l f c m n o d.1 d.2 p)(b:FT (CT g a) W p):OA N B j g a l f c m n z d p:=by obtain⟨o,i⟩:=h.wl;exact⟨r,h.ops.am (b.am i.wi.qi.hN (λk e=>(i.lt k e).1)) q,(b.fr.block _ (ze h.x1) h.n1).trans h.x1,(b.fr.block _ (ze h.x2) h.n2).trans h.x2,b.not (ze h.x1) h.n1,b.not (ze h.x2) h.n2⟩
theorem OA.aq (e:21<=N)(h:OA N B j g a l f c m n z s W)(b:xB W p):OA N B j g a l f c m n z s p/\∀k,CT g a p k->CT g a W k:=by obtain⟨i,d⟩:=h.wl;exact⟨h.ad e ⟨i,d.aq b⟩ (FT.below b (d.tk b)),d.tk b⟩
theorem YE:zH 125:=λ_ _=>by kernel_rfl
theorem YF:zH 126:=λ_ _=>by kernel_rfl
theorem XS (t:Tm)(v:Xv)(k:Nat×Nat)(w:Xw)(r:TT w N t v) :
 xK 125 #[v,hG k] w (λe F=>e=.returned (.bool (gH t))/\xB w F):=by
 obtain⟨b,q,J,rfl,G,d,_⟩:=r.ptr;obtain⟨u,y,A,C,D,E,H,I⟩:=zt d;clear r d y A C D E;unfold hG;by_cases h:t.k=9
 . have i:aa (gH t=false):=by unfold aa gH;simp[h]
   have x:w.cell? (xD b 0)=some (xI 9):=(by rw[u,h];rfl);clear h u;go_enter func125,ntmps125;go_wp2_with fail;go_ret;rw[i.o];exact⟨rfl,zq w _⟩
 have i:aa (gH t=true):=by unfold aa gH;simp[h]
 have o:¬(t.k:Int)=9:=by omega
 clear h;go_enter func125,ntmps125;go_wp2_with fail;go_ret;rw[i.o];exact⟨by simp[o],zq w _⟩
theorem XR (i:Sc->Nat->Cd->Cd)(x:Nat)(d:21<=N)(r:f<=100000)(t:Tm)(D:Wf t)(v:Xv)(k:Nat×Nat)(s:Cd×List Lt)(w:Xw)(M:TT w N t v)(h:OA N B j g a l f c m n z s w)(E:Nn (zs i c f x s t k))(G:Nn s)
 (q:t.k=4->∀O W,WL N B j g a l f c m n O s.1 s.2 W->TT W N t v->M9 W->xK 169 #[xP j,xP a,v,hG k] W (λe H=>e=.returned (.tuple #[])/\(∃P,WL N B j g a l f c m n P (NK i c f x s.1 t k) s.2 H)/\FT (CT g a) W H)) :
 xK 126 #[v,hG k,xP z,xP (z+1)] w (λe H=>e=.returned (.tuple #[])/\OA N B j g a l f c m n z (zs i c f x s t k) H/\FT (CT g a) w H):=by
 have S:=(λo=>(h.aq d (zq w o)).1);obtain⟨O,I⟩:=h.wl;have J:=(λo=>V7 i x d r t D v k s (w.alloc o) (M.am (OJ I.wi.qi.hN o)) (I.aq (zq w o)) (h.aq d (zq w o)).1.ops E G (λX W T U V=>q X O W T U V));have L:=(λo=>FT.below (zq w o) (I.tk (zq w o)));obtain⟨x0,ar,aA⟩:=zu h.x1;obtain⟨aL,aV,a0⟩:=zu h.x2;obtain⟨b,R,Z,rfl,Y,F,_⟩:=M.ptr;obtain⟨Q,C⟩:∃Q,zs i c f x s t k=Q:=⟨_,rfl⟩;rw[C] at J ⊢;unfold hG at J ⊢;clear h I M F q C E G D;go_enter func126,ntmps126;go_wp2_with (go_at_call 127;refine (J _).mono ?_;rintro e w2 ⟨rfl,A,y⟩;have K:=A;have u:=y;clear A y);first|go_end0|refine ab (results_none rfl _ _ _) rfl ?_
 exact⟨rfl,(S _).ad d K u,(L _).trans u⟩
theorem XG (q:Sc->Nat->Cd->Cd)(D:Nat)(A:Tm->Nat×Nat->Prop)(o:21<=N)(x:f<=100000)
 (I:∀t k,A t k->Wf t) (H:∀t k i u,A t k->gH t=true->t.ts[i]?=some u->A u (c.operand t i k)) (r:∀d b K,qv (q d b K)->qv K) (R:RU N B j g a l f c m n q D A) :
 yH N c m n l (CT g a) 125 #[] 126 #[xP z,xP (z+1)] A (λt _=>gH t) (λs _ _=>s) (zs q c f D) (OA N B j g a l f c m n z) Nn where
 sJ:=YE
 sK:=YF
 hT:=λs w k y e=>by obtain⟨M,L⟩:=y.wl;exact L.lt k e
 aq:=λs w U h Q=>h.aq o Q
 sub:=H
 bE:=λ_ _ _ h=>h
 bL:=λs t k h=>RO r s t k h
 sG:=λt v k s w hT S T F y G _=>by refine (XS t v k w hT).mono ?_;rintro e U ⟨E,C⟩;obtain⟨M,L⟩:=y.wl;exact⟨E,(y.aq o C).1,FT.below C (L.tk C)⟩
 p5:=λt v k s w hT S T F y G J=>XR q D o x t (I t k G) v k s w hT y J (RO r s t k J) (λP M W E C O=>R t k G P s M W v E C O J)
def My (b:Sc->Nat->Cd->Cd)(c:Sc)(f d:Nat)(s:Cd×List Lt)(t:Tm)(k:Nat×Nat):Cd×List Lt:=gK c (λt _=>gH t) (λs _ _=>s) (zs b c f d) t k s
theorem S2 {lv:Xv}(o:Sc->Nat->Cd->Cd)(E:Nat)(D:Tm->Nat×Nat->Prop)(q:21<=N)(C:f<=100000)
 (P:∀t k,D t k->Wf t) (O:∀t k i u,D t k->gH t=true->t.ts[i]?=some u->D u (c.operand t i k)) (x:∀d b K,qv (o d b K)->qv K) (a2:RU N B j g a l f c m n o E D)
 (t:Tm) (v:Xv) (k:Nat×Nat) (s:Cd×List Lt) (w:Xw) (aA:TT w N t v) (h:WL N B j g a l f c m n lv s.1 s.2 w) (V:M9 w) (a3:D t k) (R:Nn (My o c f E s t k)) :
 xK 59 #[xP j,xP a,v,hG k] w (λe r=>e=.returned (.tuple #[])/\(∃ar,WL N B j g a l f c m n ar (My o c f E s t k).1 (My o c f E s t k).2 r)/\FT (CT g a) w r):=by
 obtain⟨a5,L,nb,rfl,rfl,be⟩:=h.wi.qi.sc.shape;obtain⟨b,a1,vs,rfl,bl,S,_⟩:=aA.ptr;have a9:∀(fn:Go.Fn) (first J:Xa) (w:Xw),(Instr.makeFunc fn first J).run prog w=.ok (.func fn first J) w:=λ_ _ _ _=>rfl;have H:=h;have Z:=V;have aL:=XG (z:=w.heap.size) o E D q C P O x a2;have a6:=a3;have Y:=R;have M:=h.wi.qi.hN;obtain⟨a0,I⟩:∃a0,My o c f E s t k=a0:=⟨_,rfl⟩;rw[I];clear h V S a2 P O x a3 R;unfold hG;go_enter func59,ntmps59;go_upto_region 3 with fail;refine zn (λW=>OA N B j g a l f c (xE a5 c L) (xP nb) w.heap.size s W/\xH W (w.heap.size+1+1) #[xI (k.1:Nat),xI (k.2:Nat)] 162/\¬CT g a W (w.heap.size+1+1)/\FT (CT g a) w W) ⟨⟨⟨lv,H.aq (mg w _ _ _)⟩,Z.am (yR M _ _ _) q,(iu w _ _ _).1,(iu w _ _ _).2.1,λe=>by have:=(H.lt _ (H.tk (mg w _ _ _) _ e)).2.1;omega,λe=>by have:=(H.lt _ (H.tk (mg w _ _ _) _ e)).2.1;omega⟩,(iu w _ _ _).2.2,λe=>by have:=(H.lt _ (H.tk (mg w _ _ _) _ e)).2.1;omega,FT.below (mg w _ _ _) (H.tk (mg w _ _ _))⟩ ?_;rintro W ⟨Q,a4,bb,G⟩;obtain⟨bB,bC,bE⟩:=zu Q.x2;obtain⟨z0,bK,bL,bY⟩:=zp a4;obtain⟨bg,T⟩:=Q.wl;obtain⟨m0,m1,m2,m3,m4,bo,bp⟩:=bz T.wi.qi.aC;have hO:bV N w W:=G.am M (λk e=>(H.lt k e).1);have aV:=HA aL t k (xP b) s W.drew ((aA.am hO).am (λ_ _=>rfl)) T.wi.qi.hN (T.wi.qi.sc.am (λ_ _=>rfl)) (T.wi.qi.ck.gh (w':=W.drew) rfl) (Q.aq q (zo (yS _ _))).1 a6 Y;unfold hG at aV;have n2:=Q.n2;clear Q a4 T hO m3 m4 aL
 go_region_held3 (λr=>r.cell? (xD (w.heap.size+1) 0)=some (xP a)/\r.cell? (xD (w.heap.size+1+1) 0)=some (xI (k.1:Nat))/\r.cell? (xD (w.heap.size+1+1) 1)=some (xI (k.2:Nat))/\r.cell? (xD a 0)=some (xE a5 c L)/\r.cell? (xD a 1)=some (xP nb)/\r.cell? (xD a 2)=some (.map (some l)))
  (first|(with_reducible (refine⟨?_,?_,?_,?_,?_,?_⟩ <;> repeat (first|assumption|refine zg ?_|refine FT.cell F ?_ (by assumption))))|go_keep)
  (first
    | (go_at_call 110;refine aV.mono ?_;rintro e w2 ⟨rfl,A,y⟩;obtain⟨bk,U⟩:=A.wl;obtain⟨bq,bs,bt,bv,bx,rf,bA⟩:=bz U.wi.qi.aC;have X:=A;have F:(FT (CT g a) W w2):=⟨y.fr.cQ,y.tk⟩;clear A y U))
 all_goals go_wp2_with fail
 all_goals first|go_end0|refine ab (results_none rfl _ _ _) rfl ?_
 all_goals rw[<- I]
 all_goals exact⟨rfl,X.wl,G.trans F⟩
end
end Go.Proofs.YtcnelakggnfnhaaGreatDoor
