/- Part 20. -/
import Derived.Test.YtenadialhccdiaaGreatDoorK18
set_option maxRecDepth 100000
set_option maxHeartbeats 8000000
namespace Go.Proofs.YtenadialhccdiaaGreatDoor
open Go.Proofs.Tryz
section
open Go.RowKit Go.Shelf
attribute [local go_sem ↓] Go.wp_at_zero Go.wp_at_succ
def hdM (c:Sc):Cd:=⟨(c.nd.vars.take c.nd.ins).map (·.bl),c.nd.outs,0,[],0,[]⟩
def Cd.bool (K:Cd)(x:Bool):Cd:={ K with bools:=K.bools++[x] }
theorem KI.booled {B wb kb:Nat}{bv cv rv v':Xv}{K:Cd}{x:Bool}{w w9:Xw}{X:Obj}(h:KI B wb kb bv cv rv K w)(hF:Fr (λk=>bv.ownBlock=some k) (w.alloc X) w9)
 (hown:w9.ownsRow B 4 1 v' (K.bools.length+1) (K.bools.map .bool++[.bool x])) (hnew:∀k,v'.ownBlock=some k->bv.ownBlock=some k∨w.heap.size+1<=k) :
 KW B wb kb (K.bool x) (w9.setCell (xD kb 0) v')/\FT (KT kb) w (w9.setCell (xD kb 0) v'):=by
 have hz:=h.hB;have hwb:=h.hwb;have hkb:=h.hkb;have hs:(w.alloc X).heap.size=w.heap.size+1:=by simp
 have hz9:=hF.size;have hb:∀k,k<w.heap.size->¬bv.ownBlock=some k->w9.heap[k]?=w.heap[k]?:=λk hk hn=>(hF.block k (by omega) hn).trans (zWP _ _ _ hk);have hb':∀k,k<w.heap.size->¬k=kb->¬bv.ownBlock=some k->(w9.setCell (xD kb 0) v').heap[k]?=w.heap[k]?:=λk hk h1 h2=>zr h1 (hb k hk h2);have hnr:∀k,k<B->¬bv.ownBlock=some k:=λk hk e=>by have:=(h.bown.lt _ e).1;omega
 have hI:KI B wb kb v' cv rv (K.bool x) (w9.setCell (xD kb 0) v'):=by
  refine⟨(hb' wb (by omega) h.dk (hnr wb hwb)).trans h.wr,?_,?_,zi h.cown (λk h1 h2 e=>hb' k h2 (by omega) (λe'=>(h.d1 k e').1 e)),zi h.rown (λk h1 h2 e=>hb' k h2 (by omega) (λe'=>(h.d1 k e').2 e)),hwb,hkb,h.dk,λk e=>?_,h.d2,?_⟩
  . exact zh _ _ _ _ ((hb kb (by omega) (hnr kb hkb)).trans h.blk)
  . have:=zi hown (w':=w9.setCell (xD kb 0) v') (λk h1 h2 _=>zr (by omega) rfl)
    show World.ownsRow _ B 4 1 v' (K.bools++[x]).length ((K.bools++[x]).map .bool);rw[zMM,List.map_append];exact this
  . rcases hnew k e with e2|e2
    . exact h.d1 k e2
    exact⟨λe'=>by have:=(h.cown.lt _ e').2;omega,λe'=>by have:=(h.rown.lt _ e').2;omega⟩
  have:(w9.setCell (xD kb 0) v').heap.size=w9.heap.size:=by simp
  omega
 refine⟨⟨v',cv,rv,hI⟩,⟨hF.os,hF.tape,hF.output,?_,λk hk hn=>?_⟩,λk hk=>?_⟩
 . have:(w9.setCell (xD kb 0) v').heap.size=w9.heap.size:=by simp
   omega
 . exact hb' k hk (λe=>hn ((h.kt k).2 (zM3 e))) (λe=>hn ((h.kt k).2 (zM4 (zM3 e))))
 rcases (hI.kt k).1 hk with e|e|e|e
 . exact zM3 ((h.kt k).2 (zM3 e))
 . rcases hnew k e with e2|e2
   . exact zM3 ((h.kt k).2 (zM4 (zM3 e2)))
   exact zM4 (by omega)
 . exact zM3 ((h.kt k).2 (zM4 (zM4 (zM3 e))))
 exact zM3 ((h.kt k).2 (zM4 (zM4 (zM4 e))))
theorem Tryz.sizeVar (w:Xw):(sizeOf 101).run prog w=.ok 7 w:=by kernel_rfl
theorem zjI {P:Program}{t e:Xy}{size:Nat}(ht:P.underlying t=some (.slice e))(hsz:∀w,(sizeOf e).run P w=.ok size w)(g n cp i:Nat)(hi:i<=n)(hn:n<=cp)(W:Xw):(Instr.slice t (xS g n cp) none (some (xI (i:Int))) none).run P W=.ok (xS g i cp) W:=by
 have h1:i<=cp:=by omega
 have e0:((xD g 0):Addr).add 0=⟨g,0,none⟩:=by simp[Addr.add]
 simp[Instr.slice,Instr.sliceBounds,Instr.sliceBound,run_underlying ht,hsz,asIntOf,h1,e0]
theorem Tryz.infoBool:(prog.info? 4).map (λi=>(i.zero,i.size,i.bytes))=some (some (.bool false),1,1):=by kernel_rfl
def hdP (n:Nod)(m:Nat):Cd:=⟨(n.vars.take m).map (·.bl),n.outs,0,[],0,[]⟩
theorem zjW {N:Nat}(fu gas f:Nat)(hgas:gas<=1000000)(hN21:21<=N)(hf:17*f<=100000)(pre:List Nod)(n:Nod)(pv:Xv)(w:Xw)(hP:PT w N (pre++[n]) pv)(hN:N<=w.heap.size)(hop:zbt w)(hG:GdC fu gas f ⟨pre,n⟩)(hbd:BdK (zca fu gas f ⟨pre,n⟩ 0 ((hdM ⟨pre,n⟩).add 0 1))) :
 xK 15 #[pv] w (λe w'=>∃B wb kb,e=.returned (xP kb)/\w.heap.size<=kb/\w.heap.size<=B/\KW B wb kb (zca fu gas f ⟨pre,n⟩ 0 ((hdM ⟨pre,n⟩).add 0 1)) w'/\xB w w'):=by
 have HSc:=za (zh3 pre.length n w hP hN (by simp));rw[List.take_left] at HSc;obtain⟨gb,gv,xs,rfl,hgb,hg,hl⟩:=hP;obtain⟨xg,cpg,rfl⟩:=zB hl.own;have h6:pre.length<=6:=by
  cases f with
  | zero=>exact hG.elim
  | succ f=>obtain⟨⟨P,hg⟩,_⟩:=hG;exact hg.ok.few
 have hw0:IntKind.i64.wrap ((pre.length:Int)+1-1)=(pre.length:Int):=by rw[IntKind.wrap_i64];omega
 have hw1:IntKind.i64.wrap (((pre.length+1:Nat):Int)-1)=(pre.length:Int):=by rw[IntKind.wrap_i64];omega
 have HG:=za hG;have Hbd:=za hbd;have Hop:=za hop;obtain⟨a0,af,az⟩:=zu hg;have hls:(pre++[n]).length=pre.length+1:=by simp
 rw[hls] at a0;clear hg hl hG hbd hop hls;go_enter func15,ntmps15
 go_upto_region 3 with (first
  | (go_at_call 27;refine HNc.o.mono ?_;rintro e w2 ⟨qb,cb,rfl,hq,hcz,hqc,hQ,hB2⟩;have HQ:=za hQ;have HB2:=za (HB1.o.trans (hB2.mono HB1.o.size));obtain⟨m0,m1,m2,m3,m4,mf,mz⟩:=zcf hQ.blk;obtain⟨_,vs2,qv2,xs2,e9,hnt⟩:=hQ.sc.nd;cases e9;obtain⟨n0,n1,n2,n3,n4,n5,nf,nz⟩:=zt hnt.blk;clear hQ hB2 m0 m2 m3 m4 n0 n1 n2 n3 n5 hnt)
  | (go_at_call 28;refine HSc.o.mono ?_;rintro e w1 ⟨x1,cp1,nb1,rfl,hS1,hB1⟩;have HB1:=za hB1;have HNc:=za (zgA 0 w1 hS1 (zMO hN hB1.size));(rw[show ((0:Nat):Int)=0 from rfl] at HNc);clear hB1 hS1))
 refine zn (λW=>(xB w2 W)/\W.heap.size=w2.heap.size+2/\W.heap[w2.heap.size]?=some (.cells #[.slice none 0 0,xI n.outs,xI 0,.slice none 0 0,xI 0,.slice none 0 0] 66 (0,0))/\W.heap[w2.heap.size+1]?=some (.cells #[xP w2.heap.size] 95 (0,0))) ⟨zaD w2 _ _,by simp,(zd8 w2 _ _).1,(zd8 w2 _ _).2⟩ ?_;rintro W ⟨hB3,hWz,hx1,hx2⟩
 have hKI:KI (w2.heap.size+2) (w2.heap.size+1) w2.heap.size (.slice none 0 0) (.slice none 0 0) (.slice none 0 0) ⟨[],n.outs,0,[],0,[]⟩ W :=
  ⟨hx2,hx1,⟨by simp,zM3 ⟨rfl,rfl⟩⟩,⟨by simp[zK],zM3 ⟨rfl,rfl⟩⟩,⟨by simp[zbs],zM3 ⟨rfl,rfl⟩⟩,by omega,by omega,by omega,λk e=>by simp[Value.ownBlock] at e,λk e=>by simp[Value.ownBlock] at e,by omega⟩
 have HKI:=za hKI;have HQW:=za (HQ.o.keep hB3);have HBW:=za (HB2.o.trans (hB3.mono HB2.o.size));have hwf:zeJ n:=by
  cases f with
  | zero=>exact HG.o.elim
  | succ f=>obtain⟨⟨P,hg⟩,_⟩:=HG.o;exact hg.ok.nd
 have hio:=hwf.io;have hi1:=hwf.ins;obtain⟨k0,k1,k2,k3,k4,kf,kz⟩:=zcf HQW.o.blk;obtain⟨nn,vs3,qv3,xs3,e9,hnt⟩:=HQW.o.sc.nd;cases e9;obtain⟨p0,p1,p2,p3,p4,p5,pf,pz⟩:=zt hnt.blk;have hvown:W.ownsRow 0 101 7 vs3 n.vars.length (zb0 n.vars):=hnt.vown;obtain⟨gv,cv,rfl,hgv⟩:=zM hvown (by omega);have hcv:n.vars.length<=cv:=by
  rcases hvown.2 with ⟨h,_⟩|⟨_,_,_,h,_,_,h3,_⟩
  . cases h
  cases h;exact h3
 have hsl:=zjI (P:=prog) underlying85 Tryz.sizeVar gv n.vars.length cv n.ins (by omega) hcv;have p3':W.cell? (xD nb1 3)=some (xI (n.ins:Int)):=p3;have Hvo:=za hvown;have hglo:=hnt.vlo gv rfl;have HWz:=za hWz;clear hB3 hWz hx1 hx2 hKI k0 k2 k3 k4 p0 p1 p3 p4 p5 hvown hnt hwf m1 n4;have hqz:qb<w2.heap.size:=mz;have hcz2:cb<w2.heap.size:=HQ.o.ck.lt;have hw2z:=HB2.o.size;have hWI:WI N (w2.heap.size+2) (w2.heap.size+1) w2.heap.size qb cb 0 ⟨pre,n⟩ (.slice x1 pre.length cp1) (xP nb1) (.slice none 0 0) (hdP n 0) W:=by
  refine⟨⟨_,_,_,HKI.o⟩,HQW.o,λe=>?_,λe=>?_,by omega⟩
  . rcases (HKI.o.kt qb).1 e with e|e|e|e
    . omega
    . simp[Value.ownBlock] at e
    . simp[Value.ownBlock] at e
    simp[Value.ownBlock] at e
  rcases (HKI.o.kt cb).1 e with e|e|e|e
  . omega
  . simp[Value.ownBlock] at e
  . simp[Value.ownBlock] at e
  simp[Value.ownBlock] at e
 have HWI:=za hWI;clear hWI;go_quiet (fail);go_wp2_with fail;go_loopg [45] (n.ins+1) (λj i wr=>∃m:Nat,m+j=n.ins+1/\m<=n.ins/\i=xI m/\Hid (WI N (w2.heap.size+2) (w2.heap.size+1) w2.heap.size qb cb 0 ⟨pre,n⟩ (.slice x1 pre.length cp1) (xP nb1) (.slice none 0 0) (hdP n m) wr)/\Hid (FT (KT w2.heap.size) W wr));case atStart=>exact⟨0,by omega,zMN _,rfl,HWI.o.keep (zI (zWQ _ _) _),FT.below (zI (zWQ _ _) _) (HWI.o.kw.tk (zI (zWQ _ _) _))⟩
 case round =>
  obtain⟨m,hmj,hm,rfl,HI,HF⟩:=hrel;by_cases hlt:m<n.ins
  . obtain⟨vr,hvr⟩:∃vr,n.vars[m]?=some vr:=⟨_,zsc (by omega)⟩;have hO:Old N W wr:=HF.o.old HQW.o.hN HWI.o.ktN;have hvo:=zi Hvo.o (w':=wr) (λk _ _ e=>hO k (by cases e;exact hglo));obtain⟨g',e',c0,c1,c2,c3,c4,c5,c6⟩:=zaM hvo hvr;cases e';have i0:(0:Int)<=(m:Int):=by omega
    have i1:(m:Int)<(n.ins:Int):=(by omega);clear hvo hO;go_upto_region 6 with fail;have hbl:(((zaK vr:Nat):Int)==1)=vr.bl:=(by unfold zaK;cases vr.bl <;> rfl);obtain⟨K,hK⟩:∃K,hdP n m=K:=⟨_,rfl⟩;have hK1:K.bool vr.bl=hdP n (m+1):=(by rw[<- hK];unfold Cd.bool hdP;rw[List.take_add_one,hvr];simp);have hfw:n.vars.length<=16:=(by obtain⟨_,_,_,_,_,hnt9⟩:=HQW.o.sc.nd;exact hnt9.few);have hKl:K.bools.length<=16:=by
     rw[<- hK]
     show ((n.vars.take m).map (·.bl)).length<=16;rw[List.length_map,List.length_take];omega
    rw[hK] at HI;refine zn (λV=>(xB wr V)/\V.heap.size=wr.heap.size+1/\V.heap[wr.heap.size]?=some (.cells #[.string vr.nm,xI vr.a,xI (zaK vr:Nat),xI (zaA vr:Nat),xI vr.on,.string vr.ck,xI vr.ca] 101 (0,0))) ⟨zq wr _,by simp,zc wr _⟩ ?_;rintro V ⟨hBV,hVz,hxV⟩;obtain⟨bv,cv5,rv,hIr⟩:=HI.o.kw;obtain⟨xb,cpb,rfl⟩:=zcB hIr.bown;have hIV:=hIr.keep hBV;have hbo:∀k,(Value.slice xb K.bools.length cpb).ownBlock=some k->k<wr.heap.size:=λk e=>(hIr.bown.lt k e).2;have Hbo:=za hbo;obtain⟨r0,rf,rz⟩:=zu hIV.wr;obtain⟨q0,q1,q2,q3,q4,q5,qf,qz⟩:=zt hIV.blk;have s2:V.cell? (xD wr.heap.size 2)=some (xI (zaK vr:Nat)):=(zWS (w:=V) rfl).trans (by simp[World.cell?,hxV]);obtain⟨i9,hi,hi0,hi1',hi2⟩:=info_parts Tryz.infoBool;have HIV:=za hIV;have HBV:=za hBV;have HVz:=za hVz;have HK1:=za hK1;have mx:K.bools.length+1<=maxLen:=(by unfold maxLen;omega);have by':(K.bools.length+1)*1<=140737488355328:=(by omega);have hBz:=hIV.hB;have oneb:∀u∈[Value.bool vr.bl],u.oneCell'=true:=(by simp[Value.oneCell']);have hyk:¬wr.heap.size=w2.heap.size:=(by have:=ze hIr.blk;omega);have hyV:wr.heap.size<V.heap.size:=(by omega);clear hIV hIr hbo hBV hVz hxV hK1 hK c0 c1 c2 c3 c4 c5 c6 q1 q2 q3 q4 q5;go_region_law (first|(refine zJ _ rfl (.tmp 55) (.tmp 59) 63 rfl (w2.heap.size+2) 4 i9 _ 1 1 underlying63 hi hi0 hi1' hi2 rfl (by decide) (.slice xb K.bools.length cpb) K.bools.length (K.bools.map .bool) rfl (zD HIV.o.bown _) (xD V.heap.size 0) 1 1 [.bool vr.bl] rfl rfl (zN (zc V _) rfl) oneb mx by' (by simp;omega) ?_;intro v' w9 hown9 hgrow hnew;obtain⟨g9,cap9,rfl,hg9⟩:=zM hown9 (by omega);have hF9:=(Fr.of_grown hgrow).undrew;have hw9:=(hF9.block (w2.heap.size+1) (by simp;omega) (λh=>by have:=(HIV.o.bown.lt _ h).1;omega)).trans ((zWP _ _ _ (by omega)).trans HIV.o.wr);have hk9:=(hF9.block w2.heap.size (by simp;omega) (λh=>by have:=(HIV.o.bown.lt _ h).1;omega)).trans ((zWP _ _ _ (by omega)).trans HIV.o.blk);obtain⟨b0,bf,bz⟩:=zu hw9;obtain⟨t0,t1,t2,t3,t4,t5,tf,tz⟩:=zt hk9;have d2:=(zWS (w:=V) (a:=(xD wr.heap.size 2)) ((hF9.block wr.heap.size (by simp;omega) (λh=>by have:=Hbo.o _ h;omega)).trans (zWP _ _ _ hyV))).trans s2;have HF9:=za hF9;have Hown9:=za hown9;have Hnew9:=za hnew;clear hown9 hgrow hnew hF9 hw9 hk9));all_goals go_wp2_with fail
    all_goals go_roundg (gk-1)
    all_goals first
     | omega
     | (have hC:=HIV.o.booled HF9.o Hown9.o (λk e=>(Hnew9.o k e).imp id (λh=>by have h':(V.alloc (.cells #[.bool vr.bl] 4)).heap.size<=k:=h;rw[zsb] at h';exact h'))
        rw[HK1.o] at hC;have hWV:=HI.o.keep HBV.o;have hFV:=(HF.o.trans (FT.below HBV.o (HI.o.kw.tk HBV.o))).trans hC.2
        first
         | exact⟨m+1,by omega,by omega,by go_num,hWV.ft hC.1 hC.2,hFV⟩
         | exact⟨m+1,by omega,by omega,by go_num,(hWV.ft hC.1 hC.2).keep (zo (zWQ _ _)),hFV.trans (FT.below (zo (zWQ _ _)) (hC.1.tk (zo (zWQ _ _))))⟩)
  have em:m=n.ins:=by omega
  subst em;have hNW:N<=W.heap.size:=HQW.o.hN;have HAd:=za (zc7 (w2.heap.size+2) (w2.heap.size+1) w2.heap.size (hdP n n.ins) 0 1 wr HI.o.kw (by simp[hdP]))
  go_wp2_with (first
   | (go_at_call 30
      refine HBo.o.mono ?_;rintro e w4 ⟨rfl,⟨lv4,hL4⟩,hF4⟩;have HL4:=za hL4;have HF4:=za hF4;obtain⟨bv4,cv4,rv4,hI4⟩:=hL4.wi.kw;obtain⟨y0,yf,yz⟩:=zu hI4.wr;clear hL4 hF4 hI4)
   | (go_at_call 29
      refine HAd.o.mono ?_;rintro e w3 ⟨rfl,hK3,hF3⟩;have HF3:=za (HF.o.trans hF3);have HW3:Hid (WL N (w2.heap.size+2) (w2.heap.size+1) w2.heap.size qb cb 0 ⟨pre,n⟩ (.slice x1 pre.length cp1) (xP nb1) (.slice none 0 0) ((hdM ⟨pre,n⟩).add 0 1) [] w3):=⟨HI.o.ft hK3 hF3,⟨[],zij _ _ _ _,rfl⟩,λk e=>by simp[Value.ownBlock] at e,hqc,by omega,by have:=HB1.o.size;omega⟩;have HBo:=za (zlJ fu gas hgas hN21 f ⟨pre,n⟩ HG.o 0 (by omega) qb cb _ _ _ w3 HW3.o (Hop.o.old ((zm HBW.o hN).trans (HF3.o.old hNW HWI.o.ktN)) hN21) Hbd.o);clear hK3 hF3))
  go_ret;have hs3:=HF3.o.fr.size;have hsW:=HBW.o.size;refine⟨_,_,_,rfl,by omega,by omega,HL4.o.wi.kw,⟨(HF4.o.fr.os.trans HF3.o.fr.os).trans HBW.o.os,(HF4.o.fr.tape.trans HF3.o.fr.tape).trans HBW.o.tape,(HF4.o.fr.output.trans HF3.o.fr.output).trans HBW.o.output,by have:=HF4.o.fr.size;omega,λk hk=>?_⟩⟩;refine (HF4.o.fr.block k (by omega) (λe=>?_)).trans ((HF3.o.fr.block k (by omega) (λe=>?_)).trans (HBW.o.block k hk))
  . rcases (HW3.o.ct k).1 e with e|e|e
    . rcases HW3.o.wi.kw.ge k e with e|e <;> omega
    . have:=HB1.o.size;omega
    simp[Value.ownBlock] at e
  rcases HWI.o.kw.ge k e with e|e <;> omega
end
section
open Go.RowKit
variable {N b1 b2 b3 bb cb kd lb sb:Nat} {S:Xs} {st:Xo} {c:Sc} {askv ev nmv nv:Xv} {w w':Xw}
attribute [local go_sem ↓] Go.wp_at_zero Go.wp_at_succ
structure CkI (S:Xs) (kd lb bb sb:Nat) (nmv askv:Xv) (N:Nat) (c:Sc) (ev nv:Xv) (cb b1 b2 b3:Nat) (st:Xo) (w:Xw):Prop where
 rp:RpI S kd lb bb sb nmv askv st w
 sc:ScV w N c ev nv
 ck:za7 w c cb
 x1:w.heap[b1]?=some (.cells #[ev,nv] 188 (0,0))
 x2:w.heap[b2]?=some (.cells #[.map (some cb)] 90 (0,0))
 x3:w.heap[b3]?=some (.cells #[zam lb bb sb] 186 (0,0))
 d:∀b,b=b1∨b=b2∨b=b3∨b=cb->¬b=lb/\¬b=bb
 l1:N<=lb
 l2:N<=bb
 hN:N<=w.heap.size
theorem CkI.keep (h:CkI S kd lb bb sb nmv askv N c ev nv cb b1 b2 b3 st w)(hB:xB w w'):CkI S kd lb bb sb nmv askv N c ev nv cb b1 b2 b3 st w' :=
 ⟨h.rp.keep hB,h.sc.old (zm hB h.hN),h.ck.keep hB,(hB.block _ (ze h.x1)).trans h.x1,(hB.block _ (ze h.x2)).trans h.x2,(hB.block _ (ze h.x3)).trans h.x3,h.d,h.l1,h.l2,zMO h.hN hB.size⟩
theorem CkI.told {st':Xo}(h:CkI S kd lb bb sb nmv askv N c ev nv cb b1 b2 b3 st w)(hr:RpI S kd lb bb sb nmv askv st' w')(hf:Fr (RT lb bb) w w'):CkI S kd lb bb sb nmv askv N c ev nv cb b1 b2 b3 st' w':=by
 have hn:∀{b},(b=b1∨b=b2∨b=b3∨b=cb)->¬RT lb bb b:=λh1 e=>by rcases e with e|e;exact (h.d _ h1).1 e;exact (h.d _ h1).2 e
 exact⟨hr,h.sc.old (hf.old h.hN (λk e=>by rcases e with e|e;exact e▸h.l1;exact e▸h.l2)),h.ck.of' (hf.block _ h.ck.lt (hn (by simp))),(hf.block _ (ze h.x1) (hn (by simp))).trans h.x1,(hf.block _ (ze h.x2) (hn (by simp))).trans h.x2,(hf.block _ (ze h.x3) (hn (by simp))).trans h.x3,h.d,h.l1,h.l2,zMO h.hN hf.size⟩
theorem zqz:zH 143:=λ_ _=>by kernel_rfl
theorem zqL:zH 105:=λ_ _=>by kernel_rfl
theorem zg6 (k:Nat)(w:Xw):xK 144 #[xI (k:Int)] w (λe w'=>e=.returned (xI (zi8 k:Nat))/\w=w'):=by
 unfold zi8;by_cases h:k=8
 . subst h;rw[zM2 rfl];go_enter func144,ntmps144;go_wp2_with fail;go_ret;exact⟨rfl,rfl⟩
 rw[zM1 h];have h':¬(k:Int)=8:=by omega
 go_enter func144,ntmps144;go_wp2_with fail;go_ret;exact⟨rfl,rfl⟩
theorem zeV (w:Xw):xK 144 #[xI 7] w (λe w'=>e=.returned (xI 1)/\w=w'):=zg6 7 w
theorem ze1 (w:Xw):xK 144 #[xI 8] w (λe w'=>e=.returned (xI 2)/\w=w'):=zg6 8 w
theorem zpg (v:Xv)(k:Nat×Nat)(w:Xw):xK 105 #[v,ckW k] w (λe w'=>e=.returned (.tuple #[])/\xB w w'):=by
 unfold ckW;go_enter func105,ntmps105;go_wp2_with fail;first|go_end0|refine zWR (results_none rfl _ _ _) rfl ?_
 exact⟨rfl,zq w _⟩
theorem zn8 (ev nv:Xv)(cb lb bb sb:Nat)(w:Xw)(xe:Xp)(n cp:Nat)(nb:Nat)(he:ev=.slice xe n cp)(hn:nv=xP nb) :
 xK 104 #[.agg #[ev,nv],.map (some cb),zam lb bb sb] w (λe w'=>e=.returned (.func (.func 143) #[] #[xP (w.heap.size+1),xP w.heap.size,xP (w.heap.size+1+1)])/\xB w w'/\w'.heap[w.heap.size]?=some (.cells #[ev,nv] 188 (0,0))/\w'.heap[w.heap.size+1]?=some (.cells #[.map (some cb)] 90 (0,0))/\w'.heap[w.heap.size+1+1]?=some (.cells #[zam lb bb sb] 186 (0,0))/\w'.heap.size=w.heap.size+1+1+1):=by
 subst he hn;unfold zam;have hmf:∀(fn:Go.Fn) (first cap:Xa) (w:Xw),(Instr.makeFunc fn first cap).run prog w=.ok (.func fn first cap) w:=λ_ _ _ _=>rfl;go_enter func104,ntmps104;go_wp2_with fail;go_ret;exact⟨rfl,zcz w _ _ _,(al3 w _ _ _).1,(al3 w _ _ _).2.1,(al3 w _ _ _).2.2,by simp⟩
theorem zpF (S:Xs)(kd lb bb sb:Nat)(nmv askv:Xv)(N:Nat)(c:Sc)(ev nv:Xv)(cb b1 b2 b3:Nat)(t:Tm)(v:Xv)(k:Nat×Nat)(st:Xo)(w:Xw)(hT:TT w N t v)(HI:CkI S kd lb bb sb nmv askv N c ev nv cb b1 b2 b3 st w) :
 xK 143 #[v,ckW k,xP b2,xP b1,xP b3] w (λe w'=>e=.returned (.bool (c.isOn t k).2)/\CkI S kd lb bb sb nmv askv N c ev nv cb b1 b2 b3 ((c.isOn t k).1.foldl rep st) w'/\Fr (RT lb bb) w w'):=by
 obtain⟨xe,cpe,nb,rfl,rfl,hnb⟩:=HI.sc.shape;obtain⟨b,args,vs,rfl,hb,HBk,_⟩:=hT.ptr;have hN:=HI.hN;have hbz:=ze HBk;have l1:=HI.l1;have l2:=HI.l2;have d1:=HI.d b1 (by simp);have d2:=HI.d b2 (by simp);have d3:=HI.d b3 (by simp);obtain⟨d11,d12⟩:=d1;obtain⟨d21,d22⟩:=d2;obtain⟨d31,d32⟩:=d3;have hblb:¬b=lb:=by omega
 have hbbb:¬b=bb:=by omega
 have zl:=ze HI.rp.l;have zb:=ze HI.rp.b;obtain⟨k1,k2⟩:=k;unfold ckW;go_enter func143,ntmps143;go_upto_region 1 with fail;refine zn (λW=>CkI S kd lb bb sb nmv askv N c (xE xe c cpe) (xP nb) cb b1 b2 b3 st W/\xB w W/\xH W w.heap.size #[xI (k1:Nat),xI (k2:Nat)] 161) ⟨HI.keep (zq w _),zq w _,zc w _⟩ ?_;rintro W ⟨HIW,HBW,hKW⟩;obtain⟨s0,s1,sf,sz⟩:=zp HIW.x1;obtain⟨c0,cf,cz⟩:=zu HIW.x2;obtain⟨p0,pf,pz⟩:=zu HIW.x3;obtain⟨k0,k1',kf,kz⟩:=zp hKW;obtain⟨m0,m1,m2,m3,m4,m5,mf,mz⟩:=zt ((HBW.block b hbz).trans HBk);have hWz:w.heap.size<=W.heap.size:=HBW.size;have HIx:=za (zaz t.s (t.nm:Int) W.drew (HIW.sc.old (λ_ _=>rfl)) (by show N<=W.heap.size;omega));unfold zam at p0;by_cases h3:t.k=3∨t.k=6
 . have HT:Hid (c.isOn t (k1,k2)=(if c.of (c.idx t.s)=(k1,k2) then [] else [t.nm],true)):=zM2 (by rcases h3 with hk|hk <;> rw[hk] <;> decide);obtain⟨⟨o1,o2⟩,ho⟩:∃o,c.of (c.idx t.s)=o:=⟨_,rfl⟩;rw[ho] at HT;have cs:((o1:Int)=(k1:Int)/\(o2:Int)=(k2:Int))∨((o1:Int)=(k1:Int)/\¬(o2:Int)=(k2:Int))∨¬(o1:Int)=(k1:Int):=by omega
   rcases h3 with hk|hk <;> rcases cs with ⟨e1,e2⟩|⟨e1,e2⟩|e1
   all_goals
    rw[hk] at m0
    first
     | rw[zM2 (Prod.ext (by show o1=k1;omega) (by show o2=k2;omega))] at HT
     | rw[zM1 (λh=>by have h1:=congrArg Prod.fst h;have h2:=congrArg Prod.snd h;simp only at h1 h2;omega)] at HT
    go_upto_region 4 with fail
    go_region_held3 (λw'=>w'.cell? (xD b2 0)=some (.map (some cb))/\w'.cell? (xD b1 0)=some (xE xe c cpe)/\w'.cell? (xD b1 1)=some (xP nb)/\w'.cell? (xD b 2)=some (.string t.s)/\w'.cell? (xD b 3)=some (xI t.nm)/\w'.cell? (xD w.heap.size 0)=some (xI (k1:Nat))/\w'.cell? (xD w.heap.size 1)=some (xI (k2:Nat)))
     (first|(with_reducible (refine⟨?_,?_,?_,?_,?_,?_,?_⟩ <;> repeat (first|assumption|refine zg ?_|refine zj _ ?_|refine zk (by omega) ?_|refine zd HB2.o ?_ (by first|omega|(rw[zsb];omega))|refine zd HB1.o ?_ (by first|omega|(rw[zsb];omega)))))|go_keep)
     (first
       | (go_at_call 64;refine HOf.o.mono ?_;rintro e w2 ⟨rfl,hB2⟩;have HB2:=za hB2;have hz2:w1.heap.size<=w2.heap.size:=hB2.size)
       | (go_at_call 65;refine HIx.o.mono ?_;rintro e w1 ⟨rfl,hB1⟩;have HB1:=za (zw hB1);have hz1:W.heap.size<=w1.heap.size:=hB1.size;have HOf:=za (zbC (c.idx t.s) w1 (HIW.ck.keep HB1.o));(rw[ho] at HOf)))
    first
     | (go_wp2_with fail
        go_ret;rw[HT.o];exact⟨rfl,HIW.keep (HB1.o.trans (HB2.o.mono hz1)),(zy HBW).trans (zy (HB1.o.trans (HB2.o.mono hz1)))⟩)
     | (go_upto_region 5 with fail
        have HB3:=za (HB1.o.trans (HB2.o.mono hz1));have g1:=zd HB3.o p0 pz;have g2:=zd HB3.o m3 mz;have HTell:=za (zaa S kd lb bb sb nmv askv st t.nm w2.drew ((HIW.keep HB3.o).rp.keep (zo (zWQ _ _))))
        go_region_held3 (λw'=>w'.cell? (xD b3 0)=some (.func (.func 110) #[] #[xP lb,xP bb,xP sb])/\w'.cell? (xD b 3)=some (xI t.nm))
         (first|(with_reducible (refine⟨?_,?_⟩ <;> repeat (first|assumption|refine zg ?_|refine zS HFt.o ?_ (by omega) (by omega))))|go_keep)
         (first|(go_at_call 110;refine (HTell.o).mono ?_;rintro e w6 ⟨rfl,HRt,hFt'⟩;have HFt:=za hFt'.undrew))
        go_wp2_with fail;go_ret;rw[HT.o];refine⟨rfl,?_,((zy HBW).trans (zy HB3.o)).trans HFt.o⟩;exact (HIW.keep HB3.o).told HRt HFt.o)
 by_cases h7:t.k=7
 . have m0':W.cell? (xD b 0)=some (xI 7):=by rw[m0,h7];rfl
   have HT:Hid (c.isOn t (k1,k2)=(if (k1,k2)=(c.idx t.s,1) then ([],true) else ([t.a],false))):=(by show c.isOn t _=_;unfold Sc.isOn;rw[zM1 (by omega),zM2 (by omega),h7];rfl);have cs:((k1:Int)=(c.idx t.s:Int)/\(k2:Int)=1)∨((k1:Int)=(c.idx t.s:Int)/\¬(k2:Int)=1)∨¬(k1:Int)=(c.idx t.s:Int):=(by omega);rcases cs with ⟨e1,e2⟩|⟨e1,e2⟩|e1
   all_goals
    first
     | rw[zM2 (Prod.ext (by show k1=_;omega) (by show k2=_;omega))] at HT
     | rw[zM1 (λh=>by have h1:=congrArg Prod.fst h;have h2:=congrArg Prod.snd h;simp only at h1 h2;omega)] at HT
    go_upto_region 8 with fail
    go_region_held3 (λw'=>w'.cell? (xD b1 0)=some (xE xe c cpe)/\w'.cell? (xD b1 1)=some (xP nb)/\w'.cell? (xD b 0)=some (xI 7)/\w'.cell? (xD b 2)=some (.string t.s)/\w'.cell? (xD b 3)=some (xI t.nm)/\w'.cell? (xD w.heap.size 0)=some (xI (k1:Nat))/\w'.cell? (xD w.heap.size 1)=some (xI (k2:Nat)))
     (first|(with_reducible (refine⟨?_,?_,?_,?_,?_,?_,?_⟩ <;> repeat (first|assumption|refine zg ?_|refine zj _ ?_|refine zk (by omega) ?_|refine zd HB1.o ?_ (by first|omega|(rw[zsb];omega)))))|go_keep)
     (first
       | (go_at_call 144;refine (zeV _).mono ?_;rintro e w2 ⟨rfl,rfl⟩)
       | (go_at_call 65;refine HIx.o.mono ?_;rintro e w1 ⟨rfl,hB1⟩;have HB1:=za (zw hB1);have hz1:W.heap.size<=w1.heap.size:=hB1.size))
    first
     | (go_wp2_with fail
        go_ret;rw[HT.o];exact⟨rfl,HIW.keep HB1.o,(zy HBW).trans (zy HB1.o)⟩)
     | (go_upto_region 9 with fail
        have HB3:=za (HB1.o);have g1:=zd HB3.o p0 pz;have g2:=zd HB3.o m1 mz;have HTell:=za (zaa S kd lb bb sb nmv askv st t.a w1.drew ((HIW.keep HB3.o).rp.keep (zo (zWQ _ _))))
        go_region_held3 (λw'=>w'.cell? (xD b3 0)=some (.func (.func 110) #[] #[xP lb,xP bb,xP sb])/\w'.cell? (xD b 1)=some (xI t.a))
         (first|(with_reducible (refine⟨?_,?_⟩ <;> repeat (first|assumption|refine zg ?_|refine zS HFt.o ?_ (by omega) (by omega))))|go_keep)
         (first|(go_at_call 110;refine (HTell.o).mono ?_;rintro e w6 ⟨rfl,HRt,hFt'⟩;have HFt:=za hFt'.undrew))
        go_wp2_with fail;go_ret;rw[HT.o];refine⟨rfl,?_,((zy HBW).trans (zy HB3.o)).trans HFt.o⟩;exact (HIW.keep HB3.o).told HRt HFt.o)
 by_cases h8:t.k=8
 . have m0':W.cell? (xD b 0)=some (xI 8):=by rw[m0,h8];rfl
   have HT:Hid (c.isOn t (k1,k2)=(if (k1,k2)=(c.idx t.s,2) then ([],true) else ([t.a],false))):=(by show c.isOn t _=_;unfold Sc.isOn;rw[zM1 (by omega),zM2 (by omega),h8];rfl);have cs:((k1:Int)=(c.idx t.s:Int)/\(k2:Int)=2)∨((k1:Int)=(c.idx t.s:Int)/\¬(k2:Int)=2)∨¬(k1:Int)=(c.idx t.s:Int):=(by omega);rcases cs with ⟨e1,e2⟩|⟨e1,e2⟩|e1
   all_goals
    first
     | rw[zM2 (Prod.ext (by show k1=_;omega) (by show k2=_;omega))] at HT
     | rw[zM1 (λh=>by have h1:=congrArg Prod.fst h;have h2:=congrArg Prod.snd h;simp only at h1 h2;omega)] at HT
    go_upto_region 8 with fail
    go_region_held3 (λw'=>w'.cell? (xD b1 0)=some (xE xe c cpe)/\w'.cell? (xD b1 1)=some (xP nb)/\w'.cell? (xD b 0)=some (xI 8)/\w'.cell? (xD b 2)=some (.string t.s)/\w'.cell? (xD b 3)=some (xI t.nm)/\w'.cell? (xD w.heap.size 0)=some (xI (k1:Nat))/\w'.cell? (xD w.heap.size 1)=some (xI (k2:Nat)))
     (first|(with_reducible (refine⟨?_,?_,?_,?_,?_,?_,?_⟩ <;> repeat (first|assumption|refine zg ?_|refine zj _ ?_|refine zk (by omega) ?_|refine zd HB1.o ?_ (by first|omega|(rw[zsb];omega)))))|go_keep)
     (first
       | (go_at_call 144;refine (ze1 _).mono ?_;rintro e w2 ⟨rfl,rfl⟩)
       | (go_at_call 65;refine HIx.o.mono ?_;rintro e w1 ⟨rfl,hB1⟩;have HB1:=za (zw hB1);have hz1:W.heap.size<=w1.heap.size:=hB1.size))
    first
     | (go_wp2_with fail
        go_ret;rw[HT.o];exact⟨rfl,HIW.keep HB1.o,(zy HBW).trans (zy HB1.o)⟩)
     | (go_upto_region 9 with fail
        have HB3:=za (HB1.o);have g1:=zd HB3.o p0 pz;have g2:=zd HB3.o m1 mz;have HTell:=za (zaa S kd lb bb sb nmv askv st t.a w1.drew ((HIW.keep HB3.o).rp.keep (zo (zWQ _ _))))
        go_region_held3 (λw'=>w'.cell? (xD b3 0)=some (.func (.func 110) #[] #[xP lb,xP bb,xP sb])/\w'.cell? (xD b 1)=some (xI t.a))
         (first|(with_reducible (refine⟨?_,?_⟩ <;> repeat (first|assumption|refine zg ?_|refine zS HFt.o ?_ (by omega) (by omega))))|go_keep)
         (first|(go_at_call 110;refine (HTell.o).mono ?_;rintro e w6 ⟨rfl,HRt,hFt'⟩;have HFt:=za hFt'.undrew))
        go_wp2_with fail;go_ret;rw[HT.o];refine⟨rfl,?_,((zy HBW).trans (zy HB3.o)).trans HFt.o⟩;exact (HIW.keep HB3.o).told HRt HFt.o)
 have hon:∀q,c.isOn t q=([],true):=λq=>by unfold Sc.isOn;rw[zM1 (by omega),zM1 (by omega)]
 have HT:=za (hon (k1,k2));have g3:¬(t.k:Int)=3:=by omega
 have g6:¬(t.k:Int)=6:=by omega
 have g7:¬(t.k:Int)=7:=by omega
 have g8:¬(t.k:Int)=8:=by omega
 go_wp2_with fail;go_ret;rw[HT.o];exact⟨rfl,HIW,zy HBW⟩
theorem zqS (S:Xs)(kd lb bb sb:Nat)(nmv askv:Xv)(N:Nat)(c:Sc)(ev nv:Xv)(cb b1 b2 b3:Nat) :
 znz N c ev nv cb (λ_=>RT lb bb) 143 #[xP b2,xP b1,xP b3] 105 #[] (λ_ _=>True) (λt k=>(c.isOn t k).2) (λst t k=>(c.isOn t k).1.foldl rep st) (λst _ _=>st) (CkI S kd lb bb sb nmv askv N c ev nv cb b1 b2 b3) (λ_=>True) where
 bE:=λ_ _ _ _=>trivial
 bL:=λ_ _ _ _=>trivial
 entE:=zqz
 entL:=zqL
 hT:=λs w k hI e=>by
  have h:=hI.d cb (by simp);rcases e with e|e
  . subst e;exact⟨hI.l1,ze hI.rp.l,λe=>h.1 e.symm⟩
  subst e;exact⟨hI.l2,ze hI.rp.b,λe=>h.2 e.symm⟩
 keep:=λs w w' h hB=>⟨h.keep hB,λ_ e=>e⟩
 sub:=λ_ _ _ _ _ _ _=>trivial
 callE:=λt v k s w hT hN hS hC hI _ _=>by refine (zpF S kd lb bb sb nmv askv N c ev nv cb b1 b2 b3 t v k s w hT hI).mono ?_;rintro e w' ⟨h1,h2,h3⟩;exact⟨h1,h2,FT.const h3⟩
 callL:=λt v k s w hT hN hS hC hI _ _=>by refine (zpg v k w).mono ?_;rintro e w' ⟨h1,h2⟩;exact⟨h1,hI.keep h2,FT.const (zy h2)⟩
theorem zp1 (c:Sc):∀(t:Tm) (k:Nat×Nat) (st:Xo),zcs c (λt k=>(c.isOn t k).2) (λst t k=>(c.isOn t k).1.foldl rep st) (λst _ _=>st) t k st=(onT c t k).foldl rep st:=by
 intro t;induction t using Tm.ind with
 | h x a s nm n ts ih =>
   intro k st;have hl:∀(l:List Tm),(∀u∈l,u∈ts)->∀(i:Nat) (st:Xo),zcu c (λt k=>(c.isOn t k).2) (λst t k=>(c.isOn t k).1.foldl rep st) (λst _ _=>st) (.mk x a s nm n ts) k l i st=(onL c (.mk x a s nm n ts) k l i).foldl rep st:=by
    intro l;induction l with
    | nil=>intro _ i st;rfl
    | cons u l ihl => intro hm i st;rw[zcu,onL,zMP,ihl (λu hu=>hm u (zMX _ hu)),ih u (hm u (zMS ..))]
   rw[zcs,onT,zMP];split
   . rw[hl ts (λ_ h=>h)]
   rfl
end
end Go.Proofs.YtenadialhccdiaaGreatDoor
