/- Part 18. -/
import Derived.Test.YtenadialhccdiaaGreatDoorK16
set_option maxRecDepth 100000
set_option maxHeartbeats 8000000
namespace Go.Proofs.YtenadialhccdiaaGreatDoor
open Go.Proofs.Tryz
open Go.RowKit Go.Shelf
section
attribute [local go_sem] Oper.semAt_some
abbrev Exn:={ x:Nat×Value // x.1<=1000000 }
def zlp (x:Exn):Array Value:=#[xI (x.1.1:Int),x.1.2]
def zes (vs:Xm)(j:Nat):Exn:=⟨(min j 1000000,vs[j]?.getD (.pointer none)),by simp;omega⟩
theorem znb (n:Nat)(hn:1<=n)(N l Bs cl:Nat)(xa:Xp)(vs:Xm)(h63:vs.length<=1000000)(J Jx:List Exn->World->Prop)
 (hY:∀pre x W,J pre W->pre.length<vs.length->YieldAt Fence.wide (n-1) prog l (zlp x) W λe W' =>
   (e=.returned (.bool true)/\J (pre++[x]) W'/\KpB N Bs W W')∨(e=.returned (.bool false)/\Jx (pre++[x]) W'))
 (W:Xw) (hBs:xC W Bs 0 (.slice xa vs.length cl)) (hc:∀j,j<vs.length->∃gl,xa=some (xD gl 0)/\gl<N/\xC W gl j (vs[j]?.getD (.pointer none))) (h0:J [] W) :
 CallsIn Fence.wide n prog 173 #[.func (.yield l) #[] #[],xP Bs] W λe W'=>(∃v,e=.returned v) /\
  ((∃ys,ys=zbo (zes vs) vs.length vs.length/\J ys W')∨(∃pre,True/\Jx pre W')):=by
 refine callsIn_of_wp func173 rfl trivial ?_ rfl;simp only[ntmps173,List.size_toArray,zMR,zNb,Nat.reduceAdd,Nat.reduceSub,Array.replicate_succ,Array.replicate_zero,List.push_toArray,List.append_toArray,List.nil_append,List.cons_append];gi_wp2
 gi_loopw [3] (λi wr=>∃m:Nat,m<=vs.length/\i=xI ((m:Int)-1)/\J (zbo (zes vs) vs.length (vs.length-m)) wr/\KpB N Bs W wr)
  (λi _=>(intOf i+1).toNat)
 case atStart=>exact⟨vs.length,zMK _,by go_num,by rw[Nat.sub_self];exact h0,λ_ _=>rfl⟩
 case round =>
  obtain⟨m,hm,rfl,hJs,hnx⟩:=hrel;cases m with
  | zero =>
    rw[Nat.sub_zero] at hJs;gi_wp2
    go_end0;exact⟨⟨_,rfl⟩,.inl ⟨_,rfl,hJs⟩⟩
  | succ m =>
    rw[show (((m+1:Nat):Int)-1)=(m:Int) by omega];obtain⟨fn,tmps,assign,body,hy,hR⟩:=hY _ (zes vs m) wr hJs (by rw[zeU];omega);obtain⟨gl,rfl,hgl,c0⟩:=hc m (by omega);have d0:=hnx.cell (zM4 hgl) c0;have dB:=hnx.cell (zM3 rfl) hBs;have i0:(0:Int)<=(m:Int):=(by omega);have i1:(m:Int)<(vs.length:Int):=(by omega);have emin:min m 1000000=m:=(by omega);dsimp only[zlp,zes] at hy;rw[emin] at hy;gi_wp2
    refine hR.mono ?_;have hup:zbo (zes vs) vs.length (vs.length-m)=zbo (zes vs) vs.length (vs.length-(m+1))++[zes vs m]:=(by rw[show vs.length-m=(vs.length-(m+1))+1 by omega,zh8,show vs.length-1-(vs.length-(m+1))=m by omega]);rintro e W3 (⟨rfl,hJ3,hk3⟩|⟨rfl,hJx3⟩)
    . gi_wp2
      go_roundw
      case rel=>exact⟨m,by omega,by go_num,by rw[hup];exact hJ3,λk hk=>(hk3 k hk).trans (hnx k hk)⟩
      case measure=>simp[intOf]
    gi_wp2
    refine zWR (results_none rfl _ _ _) rfl ?_;exact⟨⟨_,rfl⟩,.inr ⟨_,trivial,hJx3⟩⟩
theorem zhW (n:Nat)(hn:1<=n)(N Bs cl:Nat)(xa:Xp)(vs:Xm)(h63:vs.length<=1000000)(w:Xw)(hBs:Bs<w.heap.size)(hN:N<=w.heap.size)
 (hb:xC w Bs 0 (.slice xa vs.length cl)) (hc:∀j,j<vs.length->∃gl,xa=some (xD gl 0)/\gl<N/\xC w gl j (vs[j]?.getD (.pointer none))) :
 SeqStopsK Fence.wide n prog 173 #[xP Bs] zlp (KpB N Bs) (λys=>ys=zbo (zes vs) vs.length vs.length) (λ_=>True) vs.length w:=λl J Jx W hW _ _ hY h0=>by
 exact znb n hn N l Bs cl xa vs h63 J Jx hY W (zd hW hb hBs) (λj hj=>by
  obtain⟨gl,h1,h2,h3⟩:=hc j hj;exact⟨gl,h1,h2,zd hW h3 (by omega)⟩) h0
theorem zog (a:Xp)(n cp:Nat)(w:Xw) :
 xK 160 #[.slice a n cp] w (λe w'=>e=.returned (.func (.func 173) #[] #[xP w.heap.size])/\w'=w.alloc (.cells #[.slice a n cp] 196)):=by
 have hmf:∀(fn:Go.Fn) (first cap:Xa) (w:Xw),(Instr.makeFunc fn first cap).run prog w=.ok (.func fn first cap) w:=λ_ _ _ _=>rfl;go_enter func160,ntmps160;go_wp2;go_ret;exact⟨rfl,rfl⟩
theorem WL.inner {N B wb kb qb cb base qb2 cb2 b2:Nat}{c d:Sc}{ev nv lv ev2 nv2 lv2:Xv}{K K':Cd}{ls:List Lt}{w0 W W':Xw}(h:WL N B wb kb qb cb base c ev nv lv K ls W)(h0:FT (CT kb qb) w0 W)(hq:w0.heap.size<=qb2)(h2:WL N B wb kb qb2 cb2 b2 d ev2 nv2 (.slice none 0 0) K [] W)(hqq:¬qb=qb2)(hcq:¬cb=qb2)(hlq:¬lv.ownBlock=some qb2)
 (hw:WL N B wb kb qb2 cb2 b2 d ev2 nv2 lv2 K' [] W') (hf:FT (CT kb qb2) W W'):WL N B wb kb qb cb base c ev nv lv K' ls W'/\FT (CT kb qb) w0 W':=by
 have hct2:∀k,CT kb qb2 W k↔KT kb W k∨k=qb2:=λk=>(h2.ct k).trans ⟨λe=>by
  rcases e with e|e|e
  . exact zM3 e
  . exact zM4 e
  simp[Value.ownBlock] at e,λe=>e.elim zM3 (λe=>zM4 (zM3 e))⟩
 have hb:∀k,k<W.heap.size->¬KT kb W k->¬k=qb2->W'.heap[k]?=W.heap[k]?:=λk hk h1 h3=>hf.fr.block k hk (λe=>((hct2 k).1 e).elim h1 h3);have hkt:∀k,KT kb W' k->KT kb W k∨k=qb2∨W.heap.size<=k:=λk e=>by
  rcases hf.tk k (zM3 e) with e|e
  . exact ((hct2 k).1 e).elim zM3 (λe=>zM4 (zM3 e))
  exact zM4 (zM4 e)
 have hO:Old N W W':=hf.old h.wi.qi.hN (λk e=>(h2.lt k e).1);obtain⟨xs,hrow,hlts⟩:=h.row;have hblk:∀k,lv.ownBlock=some k->k<W.heap.size:=λk e=>(hrow.lt k e).2;have hqz:=ze h.wi.qi.blk;have hnq:¬KT kb W' qb:=λe=>by
  rcases hkt qb e with e|e|e
  . exact h.wi.nq e
  . exact hqq e
  omega
 have hnc:¬KT kb W' cb:=λe=>by
  have:=h.wi.qi.ck.lt;rcases hkt cb e with e|e|e
  . exact h.wi.nc e
  . exact hcq e
  omega
 have hq4:W'.heap[qb]?=W.heap[qb]?:=hb qb hqz h.wi.nq hqq
 have hW:WL N B wb kb qb cb base c ev nv lv K' ls W' :=
  ⟨⟨hw.wi.kw,⟨hq4.trans h.wi.qi.blk,h.wi.qi.sc.old hO,h.wi.qi.ck.of' (hb cb h.wi.qi.ck.lt h.wi.nc hcq),zMO h.wi.qi.hN hf.fr.size⟩,hnq,hnc,h.wi.hNk⟩,⟨xs,zbM hrow (λk _ hk e=>hb k hk (h.dl k e).1 (λe'=>hlq (e'▸e))),hlts.old hO⟩,λk e=>⟨λe'=>by
    have:=hblk k e;rcases hkt k e' with e2|e2|e2
    . exact (h.dl k e).1 e2
    . exact hlq (e2▸e)
    omega,(h.dl k e).2⟩,h.dq,h.dw,h.hNq⟩
 refine⟨hW,⟨hf.fr.os.trans h0.fr.os,hf.fr.tape.trans h0.fr.tape,hf.fr.output.trans h0.fr.output,zMO h0.fr.size hf.fr.size,λk hk hn=>?_⟩,λk e=>?_⟩
 . have hk':k<W.heap.size:=zM9 hk h0.fr.size;refine (hb k hk' (λe=>?_) (by omega)).trans (h0.fr.block k hk hn);exact (h0.tk k (zM3 e)).elim hn (λe=>by omega)
 have hz:=h0.fr.size;rcases (hW.ct k).1 e with e|e|e
 . rcases hkt k e with e|e|e
   . exact h0.tk k (zM3 e)
   . exact zM4 (by omega)
   exact zM4 (by omega)
 . exact h0.tk k ((h.ct k).2 (zM4 (zM3 e)))
 exact h0.tk k ((h.ct k).2 (zM4 (zM4 e)))
end
section
variable {K K':Cd} {ls:List Lt} {B N b2 base cb cb2 kb qb qb2 wb z zz8 zzA:Nat} {k:Nat×Nat} {c d:Sc} {ev ev2 lv lv2 nv nv2:Xv} {W W' w:Xw}
attribute [local go_sem] Oper.semAt_some
structure CaI (N B wb kb qb cb base qb2 cb2 b2:Nat) (c d:Sc) (ev nv lv ev2 nv2 lv2:Xv) (K:Cd) (ls:List Lt) (k:Nat×Nat) (z zz8 zzA:Nat) (w W:Xw):Prop where
 wl:WL N B wb kb qb cb base c ev nv lv K ls W
 qi:CqI N qb2 cb2 b2 d ev2 nv2 lv2 W
 ft:FT (CT kb qb) w W
 x1:W.heap[z]?=some (.cells #[xP wb] 152 (0,0))
 x2:W.heap[z+1]?=some (.cells #[xI (k.1:Nat),xI (k.2:Nat)] 161 (0,0))
 x3:W.heap[zz8]?=some (.cells #[ev2,nv2] 79 (0,0))
 x4:W.heap[zzA]?=some (.cells #[xP qb2] 74 (0,0))
 n1:¬CT kb qb W z
 n2:¬CT kb qb W (z+1)
 n3:¬CT kb qb W zz8
 n4:¬CT kb qb W zzA
 n5:¬CT kb qb W qb2
 n6:¬CT kb qb W cb2
theorem CaI.step (h:CaI N B wb kb qb cb base qb2 cb2 b2 c d ev nv lv ev2 nv2 lv2 K ls k z zz8 zzA w W)(hw:WL N B wb kb qb cb base c ev nv lv K' ls W')(hf:FT (CT kb qb) W W'):CaI N B wb kb qb cb base qb2 cb2 b2 c d ev nv lv ev2 nv2 lv2 K' ls k z zz8 zzA w W':=by have hO:Old N W W':=hf.old h.wl.wi.qi.hN (λk e=>(h.wl.lt k e).1);exact⟨hw,⟨(hf.fr.block _ (ze h.qi.blk) h.n5).trans h.qi.blk,h.qi.sc.old hO,h.qi.ck.of' (hf.fr.block _ h.qi.ck.lt h.n6),zMO h.qi.hN hf.fr.size⟩,h.ft.trans hf,(hf.fr.block _ (ze h.x1) h.n1).trans h.x1,(hf.fr.block _ (ze h.x2) h.n2).trans h.x2,(hf.fr.block _ (ze h.x3) h.n3).trans h.x3,(hf.fr.block _ (ze h.x4) h.n4).trans h.x4,hf.not (ze h.x1) h.n1,hf.not (ze h.x2) h.n2,hf.not (ze h.x3) h.n3,hf.not (ze h.x4) h.n4,hf.not (ze h.qi.blk) h.n5,hf.not h.qi.ck.lt h.n6⟩
theorem CaI.stepK (h:CaI N B wb kb qb cb base qb2 cb2 b2 c d ev nv lv ev2 nv2 lv2 K ls k z zz8 zzA w W)(hk:KW B wb kb K' W')(hf:FT (KT kb) W W'):CaI N B wb kb qb cb base qb2 cb2 b2 c d ev nv lv ev2 nv2 lv2 K' ls k z zz8 zzA w W':=h.step (h.wl.ftk hk hf).1 (h.wl.ftk hk hf).2
theorem CaI.keep (h:CaI N B wb kb qb cb base qb2 cb2 b2 c d ev nv lv ev2 nv2 lv2 K ls k z zz8 zzA w W)(hB:xB W W'):CaI N B wb kb qb cb base qb2 cb2 b2 c d ev nv lv ev2 nv2 lv2 K ls k z zz8 zzA w W':=h.step (h.wl.keep hB) (FT.below hB (h.wl.tk hB))
theorem CaI.sc {B0:Nat}(h:CaI N B wb kb qb cb base qb2 cb2 b2 c d ev nv lv ev2 nv2 lv2 K ls k z zz8 zzA w W)(hs:SCs B0 W W')(hcb:cb<B0)(hcb2:cb2<B0)(hNB:N<=B0)(hwB:w.heap.size<=B0)(hos:W'.os=W.os)(htp:W'.tape=W.tape)(hou:W'.output=W.output):CaI N B wb kb qb cb base qb2 cb2 b2 c d ev nv lv ev2 nv2 lv2 K ls k z zz8 zzA w W':=by obtain⟨h1,h2⟩:=h.wl.sc hs hcb hNB;have hs':SCs w.heap.size W W':=⟨hs.size,λk hk e=>hs.blk k hk (e.imp (λe=>by omega) id)⟩;exact⟨h1,⟨hs.cells h.qi.blk,h.qi.sc.old (hs.old h.qi.hN hNB),h.qi.ck.of' (hs.blk cb2 h.qi.ck.lt (zM3 hcb2)),zMO h.qi.hN hs.size⟩,h.ft.sc hs' (λk e=>(h2 k).1 e) hos htp hou,hs.cells h.x1,hs.cells h.x2,hs.cells h.x3,hs.cells h.x4,λe=>h.n1 ((h2 _).1 e),λe=>h.n2 ((h2 _).1 e),λe=>h.n3 ((h2 _).1 e),λe=>h.n4 ((h2 _).1 e),λe=>h.n5 ((h2 _).1 e),λe=>h.n6 ((h2 _).1 e)⟩
theorem CqI.inner (h:CaI N B wb kb qb cb base qb2 cb2 b2 c d ev nv lv ev2 nv2 (.slice none 0 0) K ls k z zz8 zzA w W)(hcc:¬qb2=cb2)(hw:¬qb2=wb)(hN:N<=qb2):WL N B wb kb qb2 cb2 b2 d ev2 nv2 (.slice none 0 0) K [] W :=
 ⟨⟨h.wl.wi.kw,h.qi,λe=>h.n5 (zM3 e),λe=>h.n6 (zM3 e),h.wl.wi.hNk⟩,⟨[],zij _ _ _ _,rfl⟩,λk e=>by simp[Value.ownBlock] at e,hcc,hw,hN⟩
theorem CaI.body (h:CaI N B wb kb qb cb base qb2 cb2 b2 c d ev nv lv ev2 nv2 (.slice none 0 0) K ls k z zz8 zzA w W)(hcc:¬qb2=cb2)(hwq:¬qb2=wb)(hN:N<=qb2)(hqw:w.heap.size<=qb2)(hcq:¬cb=qb2)
 (hw:WL N B wb kb qb2 cb2 b2 d ev2 nv2 lv2 K' [] W') (hf:FT (CT kb qb2) W W'):CaI N B wb kb qb cb base qb2 cb2 b2 c d ev nv lv ev2 nv2 lv2 K' ls k z zz8 zzA w W':=by
 have h2:=CqI.inner h hcc hwq hN;have hqq:¬qb=qb2:=λe=>h.n5 (zM4 (zM3 e.symm));have hlq:∀x,lv.ownBlock=some x->¬x=qb2/\¬x=cb2:=λx e=>⟨λe'=>h.n5 ((h.wl.ct _).2 (zM4 (zM4 (e'▸e)))),λe'=>h.n6 ((h.wl.ct _).2 (zM4 (zM4 (e'▸e))))⟩;obtain⟨g1,g2⟩:=h.wl.inner h.ft hqw h2 hqq hcq (λe=>(hlq _ e).1 rfl) hw hf;have hct2:∀x,CT kb qb2 W x->KT kb W x∨x=qb2:=λx e=>by
  rcases (h2.ct x).1 e with e|e|e
  . exact zM3 e
  . exact zM4 e
  simp[Value.ownBlock] at e
 have hz1:¬z=qb2:=λe=>by have:=h.x1;rw[e,h.qi.blk] at this;cases this
 have hz2:¬z+1=qb2:=λe=>by have:=h.x2;rw[e,h.qi.blk] at this;cases this
 have hz3:¬zz8=qb2:=λe=>by have:=h.x3;rw[e,h.qi.blk] at this;cases this
 have hz4:¬zzA=qb2:=λe=>by have:=h.x4;rw[e,h.qi.blk] at this;cases this
 have hb:∀x,x<W.heap.size->¬CT kb qb W x->¬x=qb2->W'.heap[x]?=W.heap[x]?:=λx hx h1 h3=>hf.fr.block x hx (λe=>(hct2 x e).elim (λe=>h1 (zM3 e)) h3);have hn:∀x,x<W.heap.size->¬CT kb qb W x->¬x=qb2->¬CT kb qb W' x:=λx hx h1 h3 e=>by
  rcases (g1.ct x).1 e with e|e|e
  . rcases hf.tk x (zM3 e) with e|e
    . exact (hct2 x e).elim (λe=>h1 (zM3 e)) h3
    omega
  . exact h1 ((h.wl.ct x).2 (zM4 (zM3 e)))
  exact h1 ((h.wl.ct x).2 (zM4 (zM4 e)))
 refine⟨g1,hw.wi.qi,g2,(hb _ (ze h.x1) h.n1 hz1).trans h.x1,(hb _ (ze h.x2) h.n2 hz2).trans h.x2,(hb _ (ze h.x3) h.n3 hz3).trans h.x3,(hb _ (ze h.x4) h.n4 hz4).trans h.x4,hn _ (ze h.x1) h.n1 hz1,hn _ (ze h.x2) h.n2 hz2,hn _ (ze h.x3) h.n3 hz3,hn _ (ze h.x4) h.n4 hz4,λe=>?_,hn _ h.qi.ck.lt h.n6 (λe=>hcc e.symm)⟩;rcases (g1.ct qb2).1 e with e|e|e
 . exact hw.wi.nq e
 . exact hqq e.symm
 exact (hlq _ e).1 rfl
def zd5 (b:Nat)(l:List Exn):List (Nat×Int):=l.map λx=>(2,((b+x.1.1:Nat):Int))
theorem zmG (b:Nat)(K:Cd)(pre:List Exn)(x:Exn):(K.adds (zd5 b pre)).add 2 ((b+x.1.1:Nat):Int)=K.adds (zd5 b (pre++[x])):=by simp[Cd.add,Cd.adds,zd5]
theorem zoH (b:Nat)(vs:Xm)(h:vs.length<=1000000):zd5 b (zbo (zes vs) vs.length vs.length)=(List.range vs.length).reverse.map λi=>(2,((b+i:Nat):Int)):=by
 unfold zd5 zbo;rw[List.map_map];apply List.ext_getElem
 . simp
 intro i h1 h2;simp only[List.length_map,List.length_range] at h1;simp[zes];omega
theorem zjS {Bs cl:Nat}{xa:Xp}(vs:Xm)(hb2:b2<=1000000)(h63:vs.length<=1000000)(hrow:K.row.length+vs.length<=1000000)
 {Q:Exit->Act->World->Prop} {t0 t1 t2 t3 t5 t6 t7 t8 t9 t11 t12 t13 t14 t15 t16 t17 t18 t19 t20 t21 t22 t23 t24 t25 t26 t27 t28 t29 t30 t31 t32 t34 t35 t36 t37 t38 t39 t40 t41 t42 t43 t44 t45 t46 t47 t48 t49 t50 t51 t52 t53 t54 t55 t56 t57 t58 t59 t60 t61 t62 t63 t64 t65 t66 t67:Xv} {ds:List Deferred} (w0 w:Xw) (h0:CaI N B wb kb qb cb base qb2 cb2 b2 c d ev nv lv ev2 nv2 lv2 K ls k z zz8 zzA w0 w) (hBz:Bs<w.heap.size) (hnB:¬CT kb qb w Bs)
 (hb:xC w Bs 0 (.slice xa vs.length cl)) (hc:∀j,j<vs.length->∃gl,xa=some (xD gl 0)/\gl<N/\xC w gl j (vs[j]?.getD (.pointer none)))
 (hQ:∀(D:Nat) (W:Xw),w.heap.size<=D->CaI N B wb kb qb cb base qb2 cb2 b2 c d ev nv lv ev2 nv2 lv2 (K.adds (zd5 b2 (zbo (zes vs) vs.length vs.length))) ls k z zz8 zzA w0 W->W.heap[D]?=some (.deferred (some []))->Q .normal { tmps:=#[t0,t1,t2,t3,xP z,t5,t6,t7,t8,t9,xP zzA,t11,t12,t13,t14,t15,t16,t17,t18,t19,t20,t21,t22,t23,t24,t25,t26,t27,t28,t29,t30,t31,t32,.func (.func 173) #[] #[xP Bs],t34,t35,t36,t37,t38,t39,t40,t41,t42,t43,t44,t45,t46,t47,t48,t49,t50,t51,t52,t53,t54,t55,t56,t57,t58,t59,t60,t61,t62,t63,t64,t65,t66,t67],defers:={ target:=.collected D,args:=#[] }::ds } W) :
 (Code.rangeFunc (Operand.tmp 33) #[34,35]
 (Code.region 4
   #[{ dst:=some 11,op:=Op.assign (Operand.tmp 34),type:=3,pos:= "compile.go:158",after:=#[],guard:=none }]
   false)
 (Code.block 1
   (Code.region 5
     #[{ dst:=some 36,op:=Op.load 152 (Operand.tmp 4),type:=152,pos:= "compile.go:159",after:=#[],guard:=none },
      { dst:=some 37,op:=Op.load 74 (Operand.tmp 10),type:=74,pos:= "compile.go:159",after:=#[],guard:=none },
      { dst:=some 38,op:=Op.move (Operand.tmp 11),type:=3,pos:= "compile.go:159",after:=#[],guard:=none },
      { dst:=some 39,op:=Op.call { callee:=Callee.value (Operand.func 115),args:=#[Operand.tmp 37,Operand.tmp 38],argTypes:=#[74,3] },type:=2,pos:= "compile.go:159",after:=#[{ on:=1,ground:=Ground.data },{ on:=2,ground:=Ground.data }],guard:=none },
      { dst:=some 40,op:=Op.call { callee:=Callee.value (Operand.func 29),args:=#[Operand.tmp 36,Operand.const (Value.int IntKind.u8 2),Operand.tmp 39],argTypes:=#[152,69,2] },type:=0,pos:= "compile.go:159",after:=#[{ on:=0,ground:=Ground.data },{ on:=3,ground:=Ground.data },{ on:=3,ground:=Ground.chain }],guard:=none }]
     true))).wp prog Q { tmps:=#[t0,t1,t2,t3,xP z,t5,t6,t7,t8,t9,xP zzA,t11,t12,t13,t14,t15,t16,t17,t18,t19,t20,t21,t22,t23,t24,t25,t26,t27,t28,t29,t30,t31,t32,.func (.func 173) #[] #[xP Bs],t34,t35,t36,t37,t38,t39,t40,t41,t42,t43,t44,t45,t46,t47,t48,t49,t50,t51,t52,t53,t54,t55,t56,t57,t58,t59,t60,t61,t62,t63,t64,t65,t66,t67],defers:=ds } w:=by
 have hcbw:=h0.wl.wi.qi.ck.lt;have hcb2:=h0.qi.ck.lt;have hNw:=h0.wl.wi.qi.hN;have hzw:=ze h0.x1;have hw0:=h0.ft.fr.size;have hSC:∀{pre:List Exn} {W W':Xw} {row:Xo},CaI N B wb kb qb cb base qb2 cb2 b2 c d ev nv lv ev2 nv2 lv2 (K.adds (zd5 b2 pre)) ls k z zz8 zzA w0 W/\FT (CT kb qb) w W->W.grownBy W' row->(∀r,row=some r->w.heap.size<=r/\∃o:Obj,W.heap[r]?=some o/\o.isCells=false)->CaI N B wb kb qb cb base qb2 cb2 b2 c d ev nv lv ev2 nv2 lv2 (K.adds (zd5 b2 pre)) ls k z zz8 zzA w0 W'/\FT (CT kb qb) w W':=by intro pre W W' row HI hg hr;have hs:=SCs.of hg hr;exact⟨HI.1.sc hs hcbw hcb2 hNw hw0 hg.os hg.tape hg.output,HI.2.sc hs (λk e=>((HI.1.wl.sc hs hcbw hNw).2 k).1 e) hg.os hg.tape hg.output⟩
 have hKb:∀(W:Xw) (l:Nat) (o o':Obj),w.heap.size<=l->W.heap[l]?=some o->o.isCells=false->o.isWalk=false->KpB N Bs W (W.putObj l o'):=by intro W l o o' hl ho _ _ k hk;have hlt:=(Array.getElem?_eq_some_iff.1 ho).1;exact (grownBy_putObj' W l o').block k (by rcases hk with e|e <;> omega) (λe=>by cases e;rcases hk with e|e <;> omega)
 rw[<- wpIn_wide (n:=9)]
 refine wpIn_rangeFunc_ownH (F:=Fence.wide) (n:=9) rfl (by decide) (gf:=173) (lb:=#[xP Bs]) rfl trivial (enters_of func173 (by kernel_rfl) rfl)
  (zhW 8 (by decide) N Bs cl xa vs h63 w hBz hNw hb hc)
  (λh1 h2 k hk=>(h2 k hk).trans (h1 k hk))
  hKb
  (zWQ _ _) (λ_=>rfl)
  (λpre W=>CaI N B wb kb qb cb base qb2 cb2 b2 c d ev nv lv ev2 nv2 lv2 (K.adds (zd5 b2 pre)) ls k z zz8 zzA w0 W/\FT (CT kb qb) w W) (λ_ _ _=>False)
  (λs A A' row hs hg hr=>hSC hs hg hr) (λ_ _ _ _ _ hs _ _=>hs) ⟨by rw[show zd5 b2 []=[] from rfl,Cd.adds_nil];exact h0,FT.below (zWQ _ _) (λ_ e=>e)⟩
  (λx a' W=>a'={ tmps:=#[t0,t1,t2,t3,xP z,t5,t6,t7,t8,t9,xP zzA,xI (x.1.1:Int),t12,t13,t14,t15,t16,t17,t18,t19,t20,t21,t22,t23,t24,t25,t26,t27,t28,t29,t30,t31,t32,.func (.func 173) #[] #[xP Bs],xI (x.1.1:Int),x.1.2,t36,t37,t38,t39,t40,t41,t42,t43,t44,t45,t46,t47,t48,t49,t50,t51,t52,t53,t54,t55,t56,t57,t58,t59,t60,t61,t62,t63,t64,t65,t66,t67],defers:=[] }) ?hAx ?assign ?body ?done ?stop
 case hAx => rintro x a' _ A A' row h2 hg hr;exact h2
 case stop => rintro D c' pre W _ _ h _;exact h.elim
 case done => rintro D xs W hD rfl HI hK;exact hQ D W hD HI.1 hK
 case assign =>
  rintro l pre x W Kk HI hK;simp only[zlp,List.zip_toArray,List.zip_cons_cons,List.zip_nil_right,List.size_toArray,zMR,zNb,Nat.zero_add,Nat.reduceAdd,List.foldl_toArray',List.foldl_cons,zr5,zr9,zsa,List.foldl_nil];gi_wp2
  exact hK _ _ ((zdj (zWQ _ _)).from _) (λk hk=>rfl) HI rfl
 case body =>
  rintro l pre x a' W hl _ ⟨HI,HfW⟩ rfl hlt;obtain⟨x0,xf,xz⟩:=zu HI.x1;obtain⟨y0,yf,yz⟩:=zu HI.x4;have hzW:=HfW.fr.size;have hx:=x.2;have hrl:(K.adds (zd5 b2 pre)).row.length<=1000000:=by rw[Cd.adds_len];simp[zd5];omega
  have HSl:=za (λW' (hB:xB W W')=>zeI x.1.1 W' (HI.keep hB).qi hb2 hx);have HAd:=za (λW' (hB:xB W W')=>zc7 B wb kb _ 2 ((b2+x.1.1:Nat):Int) W' (HI.keep hB).wl.wi.kw hrl);have hnB':¬CT kb qb W Bs:=HfW.not hBz hnB;have HNk:=HI.wl.wi.ktN;clear h0 hb hc hQ hSC hKb hrl;have hfo:prog.follows Departure.mixedOrders=true:=by kernel_rfl
  gi_wp2
  gi_region_with_o (first
   | ((try refine⟨trivial,?_⟩);gi_at_call 29;refine (CallsIn.inRound l (callsIn_wide.2 (HAd.o _ HB2.o))).mono ?_;rintro e w3 ⟨rfl,HK3,HF3⟩)
   | ((try refine⟨trivial,?_⟩);gi_at_call 115;refine (CallsIn.inRound l (callsIn_wide.2 (HSl.o _ (by exact zo (zWQ _ _))))).mono ?_;rintro e w2 ⟨rfl,hB2⟩;have HB2:Hid (xB W w2):=(by rw[<- hB2];exact zo (zWQ _ _));have x0':=zd HB2.o x0 xz;clear hB2))
  all_goals gi_wp2
  all_goals (try go_bits)
  all_goals
   have hk2:∀k,k=Bs∨k<N->¬KT kb w2 k/\k<W.heap.size:=λk hk=>⟨λe=>by
    have e':=HI.wl.wi.kw.tk HB2.o k e;rcases hk with e2|e2
    . subst e2;exact hnB' (zM3 e')
    have:=HNk k e';omega,by rcases hk with e|e <;> omega⟩
   have hst:=(HI.keep HB2.o).stepK HK3 HF3;rw[zmG] at hst;exact⟨((zdj HB2.o).trans (KW.others (HI.keep HB2.o).wl.wi.kw HF3)).from _,λk hk=>(HF3.fr.block k (zM9 (hk2 k hk).2 HB2.o.size) (hk2 k hk).1).trans (HB2.o.block k (hk2 k hk).2),hst,(HfW.trans (FT.below HB2.o (HI.wl.tk HB2.o))).trans ((HI.keep HB2.o).wl.ftk HK3 HF3).2⟩
end
end Go.Proofs.YtenadialhccdiaaGreatDoor
