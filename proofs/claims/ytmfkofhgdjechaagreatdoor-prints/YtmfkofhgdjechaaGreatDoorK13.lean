/- Part 14 of the proof: PrC PrD. -/
import Derived.Test.YtmfkofhgdjechaaGreatDoorK12
set_option maxRecDepth 100000
set_option maxHeartbeats 8000000
namespace Go.Proofs.YtmfkofhgdjechaaGreatDoor
open Go.Proofs.Tryz
open Go.RowKit
section
structure NdV where
 nm:ByteArray
 na:Nat
 va:Option Addr
 vn:Nat
 vc:Nat
 xa:Option Addr
 xn:Nat
 xc:Nat
 qa:Option Addr
 qn:Nat
 qc:Nat
def NdV.agg (n:NdV):Value:=.agg #[.string n.nm,xI n.na,.slice n.va n.vn n.vc,.slice n.xa n.xn n.xc,.slice n.qa n.qn n.qc]
def NdV.obj (n:NdV):Obj:=.cells #[.string n.nm,xI n.na,.slice n.va n.vn n.vc,.slice n.xa n.xn n.xc,.slice n.qa n.qn n.qc] 103
def zFP (ex:Ex)(u:Value):Obj:=.cells #[.string ex.op,xI ex.a,xI ex.nm,u,.string ex.s,xI ex.n] 190
def zCy (N:Nat)(L:List Ex)(x:Nat)(b:ByteArray):Prop:=∀(n:NdV) (w:World),Txs w N (.slice n.xa n.xn n.xc) L->N<=w.heap.size->xK 151 #[n.agg,xI (x:Nat)] w (λe w'=>e=.returned (.string b)/\xB w w')
structure TxI (w wr:World) (n:NdV) (u iv:Value) (ex:Ex) (bs:List ByteArray) (k:Nat):Prop where
 nd:wr.heap[w.heap.size]?=some n.obj
 ex:wr.heap[w.heap.size+1]?=some (zFP ex u)
 own:wr.ownsRow (w.heap.size+2) 9 1 iv k ((bs.take k).map .string)
 bel:xB w wr
 siz:w.heap.size+2<=wr.heap.size
theorem TxI.put {w wr:World}{n:NdV}{u:Value}{ex:Ex}{c0 c1 c:ByteArray}{gi ic k:Nat}(h:TxI w wr n u (xS gi 2 ic) ex [c0,c1] 2):TxI w (wr.setCell (xD gi k) (.string c)).drew n u (xS gi 2 ic) ex ([c0,c1].set k c) 2:=by
 have hg:=(h.own.lt gi rfl).1;have hb:∀j,j<w.heap.size+2->(wr.setCell (xD gi k) (.string c)).drew.heap[j]?=wr.heap[j]?:=λj hj=>Below.heap_setCell _ _ _ _ (show j≠gi by omega);refine⟨(hb _ (by omega)).trans h.nd,(hb _ (by omega)).trans h.ex,?_,?_,?_⟩
 . have:=zEU (k:=k) h.own (.string c);rw[show ([c0,c1].set k c).take 2=[c0,c1].set k c from List.take_of_length_le (by simp),List.map_set];exact this
 . refine h.bel.trans ⟨rfl,rfl,rfl,?_,λj hj=>hb j (by omega)⟩
   show wr.heap.size<=(wr.setCell (xD gi k) (.string c)).heap.size;rw[World.size_setCell];exact Nat.le_refl _
 . show _<=(wr.setCell (xD gi k) (.string c)).heap.size;rw[World.size_setCell];exact h.siz
theorem zDi {op:ByteArray}(h:op.toList∈zy0):op.size<=6:=by
 have h1:∀l∈zy0,l.length<=6:=by decide
 have h2:=h1 _ h;rw[ByteArray.toList_eq] at h2;exact h2
theorem zFR (N:Nat)(L:List Ex)(x:Nat)(ex:Ex)(bs:List ByteArray)(hx:L[x]?=some ex)(hl:bs.length=ex.ins.length)(hS:exS ex)(hA:zB9 ex.op.toList<=bs.length)(hM:ex.op.toList=[109,101,114,103,101]->bs.length=2/\∀(i y:Nat),ex.ins[i]?=some y->y<L.length)(hz:∀b∈bs,b.size<=1000000000000)
 (ih:∀(i y:Nat) (b:ByteArray),ex.ins[i]?=some y->bs[i]?=some b->zCy N L y b):zCy N L x (zyn ex.op ex.s ex.n (ex.ins.map (zyC L)) bs):=by
 intro n w hT hN;obtain⟨xa,xc,e0,hL,hc⟩:=hT;obtain⟨g,u,e1,hg,⟨c0,c1,c2,c3,c4,c5⟩,hI⟩:=hc x ex hx;obtain⟨ua,uc,rfl,hul,huc⟩:=hI;obtain⟨nm,na,va,vn,vc,xa',xn,xc',qa,qn,qc⟩:=n;simp only at e0;cases e0;cases e1;have hxl:(x:Int)<L.length:=by have:=(List.getElem?_eq_some_iff.1 hx).1;omega
 have hx0:(0:Int)<=x:=by omega
 have hgw:g<w.heap.size:=by omega
 have HT:Hid (∀W,Below N w W->Txs W N (xS g L.length xc) L):=λW hB=>(show Txs w N _ L from ⟨_,xc,rfl,hL,hc⟩).bel hB;have HU:=za huc;have HIH:=za ih;have HZ:=za hz;have HLN:=za hl;have hbl:bs.length<=100000:=by omega
 have HM:=za hM;clear hc huc ih hz hl hM;unfold NdV.agg;simp only;go_enter func151,ntmps151;go_wp2_with fail;go_loopg [6,7,8] bs.length (λm iv i _ wr=>∃(k:Nat) (ia:Option Addr) (ic:Nat),k+m=bs.length/\iv=.slice ia k ic/\i=xI k/\Hid (TxI w wr ⟨nm,na,va,vn,vc,some (xD g 0),L.length,xc,qa,qn,qc⟩ (.slice ua ex.ins.length uc) iv ex bs k));case atStart =>
  refine⟨0,none,0,by omega,rfl,rfl,⟨?_,?_,World.ownsRow_nil _ _ _ _,((Below.refl _ w).alloc (Nat.le_refl _) _).alloc (by rw[zsb];omega) _,by simp⟩⟩
  . exact (Below.heap_alloc _ _ _ (by rw[zsb];omega)).trans (zc w _)
  . have:=zc (w.alloc (NdV.obj ⟨nm,na,va,vn,vc,some (xD g 0),L.length,xc,qa,qn,qc⟩)) (zFP ex (.slice ua ex.ins.length uc));rw[zsb] at this;exact this
 case round =>
  obtain⟨k,ia,ic,hkm,rfl,rfl,HX⟩:=hrel;obtain⟨n0,n1,n2,n3,n4,nf,nz⟩:=zcf HX.o.nd;obtain⟨t0,t1,t2,t3,t4,t5,tf,tz⟩:=zt HX.o.ex;have hsz:=HX.o.siz;by_cases hk:k<bs.length
  . have hki:k<ex.ins.length:=by have:=HLN.o;omega
    obtain⟨y,hy⟩:∃y,ex.ins[k]?=some y:=⟨ex.ins[k],zsc hki⟩;obtain⟨b,hb⟩:∃b,bs[k]?=some b:=⟨bs[k],zsc hk⟩;obtain⟨gu,e2,hgu,hcu⟩:=HU.o k y hy;subst e2;have hcu':xC wr gu k (xI (y:Nat)):=zye HX.o.bel (by omega) hcu;have hki':(k:Int)<ex.ins.length:=(by omega);have HC:Hid (∀W:World,Txs W N (xS g L.length xc) L->N<=W.heap.size->xK 151 #[.agg #[.string nm,xI na,.slice va vn vc,xS g L.length xc,.slice qa qn qc],xI (y:Nat)] W (λe w'=>e=.returned (.string b)/\xB W w')):=λW=>HIH.o k y b hy hb ⟨nm,na,va,vn,vc,some (xD g 0),L.length,xc,qa,qn,qc⟩ W;have HTW:Hid (∀W,xB wr W->Txs W N (xS g L.length xc) L):=λW hB=>HT.o W ((HX.o.bel.mono hN).trans (hB.mono (by omega)));obtain⟨m,rfl⟩:∃m,gk=m+1:=⟨gk-1,by omega⟩;clear hcu;go_upto_region 6 with fail
    go_region_held3 (λw'=>w'.cell? (xD w.heap.size 0)=some (.string nm)/\w'.cell? (xD w.heap.size 1)=some (xI na)/\w'.cell? (xD w.heap.size 2)=some (.slice va vn vc)/\w'.cell? (xD w.heap.size 3)=some (xS g L.length xc)/\w'.cell? (xD w.heap.size 4)=some (.slice qa qn qc)/\w'.cell? (xD (w.heap.size+1) 3)=some (xS gu ex.ins.length uc)/\w'.cell? (xD gu k)=some (xI (y:Nat)))
     (first|(with_reducible (refine⟨?_,?_,?_,?_,?_,?_,?_⟩ <;> repeat (first|assumption|refine zg ?_|refine zd HB2.o ?_ (by omega))))|go_keep)
     (first
       | (go_at_call 151;refine (HC.o wr.drew (HTW.o wr.drew (zo (Below.refl _ _))) (show N<=wr.heap.size by omega)).mono ?_;rintro e w2 ⟨rfl,hB2⟩;have HB2:Hid (xB wr w2):=⟨hB2.os,hB2.tape,hB2.output,hB2.size,hB2.block⟩;have hz2:wr.heap.size<=w2.heap.size:=hB2.size;clear hB2))
    have HO2:Hid (w2.ownsRow (w.heap.size+2) 9 1 (.slice ia k ic) k ((bs.take k).map .string)):=zi HX.o.own (λj _ hj _=>HB2.o.block j hj);go_wp2_with (at_builtin;refine zA8 _ rfl (.tmp 29) (.tmp 31) rfl (w.heap.size+2) (.slice ia k ic) k _ b rfl HO2.o rfl (by omega) (by omega) ?_;intro g9 cap9 w9 h9 f9 _;have HF9:=za f9;have HO9:=za h9;clear h9 f9);go_roundg m;case measure=>omega
    case rel =>
     refine⟨k+1,some (xD g9 0),cap9,by omega,rfl,by simp,?_⟩;have hne:∀j,j<w.heap.size+2->¬(Value.slice ia k ic).ownBlock=some j:=λj hj e=>by have:=(HO2.o.lt j e).1;omega
     have hk9:∀j,j<w.heap.size+2->w9.heap[j]?=wr.heap[j]?:=λj hj=>((HF9.o.block j (by rw[zsb];omega) (hne j hj)).trans (Below.heap_alloc _ _ _ (by omega))).trans (HB2.o.block j (by omega));have hs9:=HF9.o.size;rw[zsb] at hs9;refine⟨(hk9 _ (by omega)).trans HX.o.nd,(hk9 _ (by omega)).trans HX.o.ex,?_,?_,by omega⟩
     . rw[zzk hb,List.map_append];exact HO9.o
     . refine HX.o.bel.trans (HB2.o.mono (by omega) |>.trans ?_);exact⟨HF9.o.os,HF9.o.tape,HF9.o.output,by omega,λj hj=>(HF9.o.block j (by rw[zsb];omega) (hne j (by omega))).trans (Below.heap_alloc _ _ _ (by omega))⟩
  . have hkb:k=bs.length:=by omega
    subst hkb;have HST:=za (zA7 (l:=bs) (by have:=HX.o.own;rw[List.take_length] at this;exact this) hbl HZ.o);obtain⟨hn,hs,ho,_⟩:=hS;have hos:ex.op.size<=6:=zDi ho;have HB:=za HX.o.bel;have HG:Hid (∀i b,bs[i]?=some b->b.size<=1000000000000/\∃gi,ia=some (xD gi 0)/\wr.cell? (xD gi i)=some (.string b)):=(by obtain⟨a,cap,e,_,h⟩:=HST.o;cases e;exact h);have hke:¬((bs.length:Int)<ex.ins.length):=(by have:=HLN.o;omega);clear ho;by_cases h0:ex.op.toList=[110,117,109,98,101,114]
    . have q0:(ex.op.toList==[110,117,109,98,101,114])=true:=beq_iff_eq.2 h0;have HNm:=za (λW=>zEl 18 ex.n (by omega) (by omega) hn W);go_wp2_with fail;refine (HNm.o _).mono ?_;rintro e w3 ⟨rfl,hB3⟩;have HB3:=za (HB.o.trans (hB3.mono HB.o.size));go_wp2_with fail;go_ret;exact⟨by unfold zyn;rw[if_pos h0];rfl,HB3.o⟩
    . have q0:(ex.op.toList==[110,117,109,98,101,114])=false:=beq_eq_false_iff_ne.2 h0;by_cases h1:ex.op.toList=[98,111,111,108]
      . have q1:(ex.op.toList==[98,111,111,108])=true:=beq_iff_eq.2 h1;by_cases hn1:ex.n=1
        . have hn1':((ex.n:Int)==1)=true:=beq_iff_eq.2 (by omega);have HR:Hid (zyn ex.op ex.s ex.n (ex.ins.map (zyC L)) bs=⟨#[116,114,117,101]⟩):=(by unfold Hid zyn;rw[if_neg h0,if_pos h1,if_pos hn1]);clear hn1;go_wp2_with fail;go_ret;exact⟨by rw[HR.o];rfl,HB.o⟩
        . have hn1':((ex.n:Int)==1)=false:=beq_eq_false_iff_ne.2 (by omega);have HR:Hid (zyn ex.op ex.s ex.n (ex.ins.map (zyC L)) bs=⟨#[102,97,108,115,101]⟩):=(by unfold Hid zyn;rw[if_neg h0,if_pos h1,if_neg hn1]);clear hn1;go_wp2_with fail;go_ret;exact⟨by rw[HR.o];rfl,HB.o⟩
      . have q1:(ex.op.toList==[98,111,111,108])=false:=beq_eq_false_iff_ne.2 h1;by_cases h2:ex.op.toList=[118,97,114]
        . have q2:(ex.op.toList==[118,97,114])=true:=beq_iff_eq.2 h2;go_wp2_with fail;go_ret;exact⟨by unfold zyn;rw[if_neg h0,if_neg h1,if_pos h2];rfl,HB.o⟩
        . have q2:(ex.op.toList==[118,97,114])=false:=beq_eq_false_iff_ne.2 h2;by_cases h3:ex.op.toList=[99,97,108,108]
          . have q3:(ex.op.toList==[99,97,108,108])=true:=beq_iff_eq.2 h3;have HJ:Hid (∀nq,xK 150 #[.slice ia bs.length ic,.string ⟨#[32,44,32]⟩] (wr.drewN nq) (λe w'=>e=.returned (.string (zyf ⟨#[32,44,32]⟩ bs))/\wr.drewN nq=w')):=λnq=>zzA (.slice ia bs.length ic) bs ⟨#[32,44,32]⟩ (show 3<=10 by decide) (wr.drewN nq) HST.o;have hjz:=zy3 ⟨#[32,44,32]⟩ (show 3<=10 by decide) bs HZ.o;go_upto_region 18 with fail;go_quiet ((go_at_call 150;with_reducible exact (HJ.o _).mono (λe w' h=>⟨h.1,_,h.2.symm⟩)));go_wp2_with fail;go_ret;exact⟨by unfold zyn;rw[if_neg h0,if_neg h1,if_neg h2,if_pos h3];rfl,HB.o.os,HB.o.tape,HB.o.output,HB.o.size,HB.o.block⟩
          . have q3:(ex.op.toList==[99,97,108,108])=false:=beq_eq_false_iff_ne.2 h3;by_cases h4:ex.op.toList=[110,101,103]
            . have q4:(ex.op.toList==[110,101,103])=true:=beq_iff_eq.2 h4;have hA1:1<=bs.length:=(by rw[h4] at hA;exact hA);obtain⟨b0,hb0⟩:∃b,bs[0]?=some b:=⟨bs[0]'(by omega),zsc _⟩;obtain⟨z0,gi,rfl,d0⟩:=HG.o 0 b0 hb0;have HG0:Hid (bs.getD 0 ⟨#[]⟩=b0):=(by unfold Hid;rw[List.getD_eq_getElem?_getD,hb0];rfl);have hl0:(0:Int)<bs.length:=(by omega);go_wp2_with fail;go_ret;exact⟨by unfold zyn;rw[if_neg h0,if_neg h1,if_neg h2,if_neg h3,if_pos h4];simp only[HG0.o];rfl,HB.o⟩
            . have q4:(ex.op.toList==[110,101,103])=false:=beq_eq_false_iff_ne.2 h4;by_cases h5:ex.op.toList=[110,111,116]
              . have q5:(ex.op.toList==[110,111,116])=true:=beq_iff_eq.2 h5;have hA1:1<=bs.length:=(by rw[h5] at hA;exact hA);obtain⟨b0,hb0⟩:∃b,bs[0]?=some b:=⟨bs[0]'(by omega),zsc _⟩;obtain⟨z0,gi,rfl,d0⟩:=HG.o 0 b0 hb0;have HG0:Hid (bs.getD 0 ⟨#[]⟩=b0):=(by unfold Hid;rw[List.getD_eq_getElem?_getD,hb0];rfl);have hl0:(0:Int)<bs.length:=(by omega);go_wp2_with fail;go_ret;exact⟨by unfold zyn;rw[if_neg h0,if_neg h1,if_neg h2,if_neg h3,if_neg h4,if_pos h5];simp only[HG0.o];rfl,HB.o⟩
              . have q5:(ex.op.toList==[110,111,116])=false:=beq_eq_false_iff_ne.2 h5;by_cases h6:ex.op.toList=[105,102]
                . have q6:(ex.op.toList==[105,102])=true:=beq_iff_eq.2 h6;have hA3:3<=bs.length:=(by rw[h6] at hA;exact hA);obtain⟨b0,hb0⟩:∃b,bs[0]?=some b:=⟨bs[0]'(by omega),zsc _⟩;obtain⟨z0,gi,rfl,d0⟩:=HG.o 0 b0 hb0;have HG0:Hid (bs.getD 0 ⟨#[]⟩=b0):=(by unfold Hid;rw[List.getD_eq_getElem?_getD,hb0];rfl);obtain⟨b1,hb1⟩:∃b,bs[1]?=some b:=⟨bs[1]'(by omega),zsc _⟩;obtain⟨z1,gi1,e1,d1⟩:=HG.o 1 b1 hb1;cases e1;have HG1:Hid (bs.getD 1 ⟨#[]⟩=b1):=(by unfold Hid;rw[List.getD_eq_getElem?_getD,hb1];rfl);obtain⟨b2,hb2⟩:∃b,bs[2]?=some b:=⟨bs[2]'(by omega),zsc _⟩;obtain⟨z2,gi2,e2,d2⟩:=HG.o 2 b2 hb2;cases e2;have HG2:Hid (bs.getD 2 ⟨#[]⟩=b2):=(by unfold Hid;rw[List.getD_eq_getElem?_getD,hb2];rfl);have hl2:(2:Int)<bs.length:=(by omega);have hl1:(1:Int)<bs.length:=(by omega);have hl0:(0:Int)<bs.length:=(by omega);go_upto_region 24 with fail;go_region;all_goals go_wp2_with fail
                  all_goals go_ret
                  all_goals exact⟨by unfold zyn;rw[if_neg h0,if_neg h1,if_neg h2,if_neg h3,if_neg h4,if_neg h5,if_pos h6];simp only[HG0.o,HG1.o,HG2.o];rfl,HB.o.drew⟩
                . have q6:(ex.op.toList==[105,102])=false:=beq_eq_false_iff_ne.2 h6;by_cases h7:ex.op.toList=[109,101,114,103,101]
                  . have q7:(ex.op.toList==[109,101,114,103,101])=true:=beq_iff_eq.2 h7;obtain⟨hb2,hyl⟩:=HM.o h7;obtain⟨b0,b1,rfl⟩:=zCI hb2;obtain⟨y0,y1,hys⟩:=zCI (show ex.ins.length=2 by have:=HLN.o;omega);have HYS:=za hys;have e0l:y0<L.length:=hyl 0 y0 (by rw[hys];rfl);have e1l:y1<L.length:=hyl 1 y1 (by rw[hys];rfl);have z0:=HZ.o b0 (by simp);have z1:=HZ.o b1 (by simp);have HX2:=za HX.o;have hXo:=HX.o.own;simp only[List.length_cons,List.length_nil] at hXo;obtain⟨gi,cpi,e9,_⟩:=zM hXo (by omega);cases e9;have HR:Hid (zyn ex.op ex.s ex.n (ex.ins.map (zyC L)) [b0,b1]=⟨#[40,32,109,101,114,103,101,32]⟩++ex.s++⟨#[32]⟩++(if zyC L y0=true then ⟨#[40,32]⟩++b0++⟨#[32,41]⟩ else b0)++⟨#[32]⟩++(if zyC L y1=true then ⟨#[40,32]⟩++b1++⟨#[32,41]⟩ else b1)++⟨#[32,41]⟩):=(by unfold Hid zyn;rw[hys,if_neg h0,if_neg h1,if_neg h2,if_neg h3,if_neg h4,if_neg h5,if_neg h6,if_pos h7];rfl);have HQ:Hid (∀(i y:Nat),[y0,y1][i]?=some y->∃e:Ex,L[y]?=some e/\zyC L y=(e.op.toList==[99,97,108,108])):=(by intro i y hy;have hyL:y<L.length:=hyl i y (by rw[hys];exact hy);exact⟨L[y],zsc hyL,by unfold zyC;rw[zsc hyL]⟩);obtain⟨gu,e2,hgu,_⟩:=HU.o 0 y0 (by rw[hys];rfl);subst e2;have HUc:Hid (∀(i y:Nat),[y0,y1][i]?=some y->∀W,xB w W->W.cell? (xD gu i)=some (xI (y:Nat))):=(by intro i y hy W hB;obtain⟨gu',e2,hgu',hc⟩:=HU.o i y (by rw[hys];exact hy);cases e2;exact zye hB (by omega) hc);have HLc:Hid (∀(y:Nat) (e:Ex),L[y]?=some e->∀W,xB w W->W.cell? (xD g (y*6))=some (.string e.op)):=(by intro y e hy W hB;obtain⟨a,cap,e3,_,h⟩:=HT.o W (hB.mono hN);obtain⟨g',u',e4,_,h,_⟩:=h y e hy;cases e3;cases e4;exact h.1);have hil:ex.ins.length=2:=(by rw[hys];rfl);clear hXo hys hyl hb2 HG HST HU HIH;obtain⟨wo,rfl⟩:∃wo,wo=wr:=⟨_,rfl⟩;obtain⟨go,rfl⟩:∃go,go=gk:=⟨_,rfl⟩;go_wp2_with fail;go_loopg [9] 2 (λm i wr=>∃(k:Nat) (c0 c1:ByteArray),k+m=2/\i=xI k/\Hid (c0=if 1<=k/\zyC L y0=true then ⟨#[40,32]⟩++b0++⟨#[32,41]⟩ else b0)/\Hid (c1=if 2<=k/\zyC L y1=true then ⟨#[40,32]⟩++b1++⟨#[32,41]⟩ else b1)/\c0.size<=1000000000004/\c1.size<=1000000000004/\Hid (TxI w wr ⟨nm,na,va,vn,vc,some (xD g 0),L.length,xc,qa,qn,qc⟩ (xS gu ex.ins.length uc) (xS gi 2 ic) ex [c0,c1] 2));case atStart=>exact⟨0,b0,b1,rfl,rfl,by unfold Hid;rw[if_neg (by omega)],by unfold Hid;rw[if_neg (by omega)],by omega,by omega,HX2.o⟩
                    case round =>
                     obtain⟨k,c0,c1,hkm,rfl,E0,E1,s0,s1,HY⟩:=hrel;obtain⟨n0,n1,n2,n3,n4,nf,nz⟩:=zcf HY.o.nd;obtain⟨t0,t1,t2,t3,t4,t5,tf,tz⟩:=zt HY.o.ex;have hsz:=HY.o.siz;have hgi:=(HY.o.own.lt gi rfl);have cc0:xC wr gi 0 (.string c0):=HY.o.own.cells (g:=gi) rfl 0 _ rfl;have cc1:xC wr gi 1 (.string c1):=HY.o.own.cells (g:=gi) rfl 1 _ rfl;have cf:=zEu HY.o.own;have hng1:¬gi=w.heap.size:=(by omega);have hng2:¬gi=w.heap.size+1:=(by omega);rcases (show k=0∨k=1∨k=2 by omega) with rfl|rfl|rfl
                     . obtain⟨e,he,hic⟩:=HQ.o 0 y0 rfl;have d1:=HLc.o y0 e he wr HY.o.bel;have d2:=HUc.o 0 y0 rfl wr HY.o.bel;have hyy:(y0:Int)<L.length:=(by omega);have hk2:(0:Int)<ex.ins.length:=(by omega);have hcb:c0=b0:=(by have:=E0.o;rw[if_neg (by omega)] at this;exact this);cases hcl:zyC L y0 with
                       | true =>
                         have q9:(e.op.toList==[99,97,108,108])=true:=hic.symm.trans hcl;have HC:=za hcl;have HD:=za hcb;clear hic hcl hcb;go_upto_region 29 with fail;go_region;all_goals go_wp2_with fail
                         all_goals go_roundg 1
                         all_goals first
                          | (case measure=>omega)
                          | (case rel=>exact⟨1,⟨#[40,32]⟩++c0++⟨#[32,41]⟩,c1,rfl,rfl,by unfold Hid;rw[if_pos ⟨by omega,HC.o⟩,HD.o],by unfold Hid;rw[if_neg (by omega)];have:=E1.o;rw[if_neg (by omega)] at this;exact this,by rw[ByteArray.size_append,ByteArray.size_append,HD.o];show 2+b0.size+2<=_;omega,s1,za (TxI.put (k:=0) HY.o)⟩)
                       | false =>
                         have q9:(e.op.toList==[99,97,108,108])=false:=hic.symm.trans hcl;have HC:=za hcl;clear hic hcl;go_upto_region 29 with fail;go_region;all_goals go_wp2_with fail
                         all_goals go_roundg 1
                         all_goals first
                          | (case measure=>omega)
                          | (case rel=>exact⟨1,c0,c1,rfl,rfl,by unfold Hid;rw[if_neg (λh=>by rw[HC.o] at h;cases h.2)];exact hcb,by unfold Hid;rw[if_neg (by omega)];have:=E1.o;rw[if_neg (by omega)] at this;exact this,s0,s1,⟨HY.o.nd,HY.o.ex,HY.o.own,HY.o.bel.drew,HY.o.siz⟩⟩)
                     . obtain⟨e,he,hic⟩:=HQ.o 1 y1 rfl;have d1:=HLc.o y1 e he wr HY.o.bel;have d2:=HUc.o 1 y1 rfl wr HY.o.bel;have hyy:(y1:Int)<L.length:=(by omega);have hk2:(1:Int)<ex.ins.length:=(by omega);have hcb:c1=b1:=(by have:=E1.o;rw[if_neg (by omega)] at this;exact this);cases hcl:zyC L y1 with
                       | true =>
                         have q9:(e.op.toList==[99,97,108,108])=true:=hic.symm.trans hcl;have HC:=za hcl;have HD:=za hcb;clear hic hcl hcb;go_upto_region 29 with fail;go_region;all_goals go_wp2_with fail
                         all_goals go_roundg 0
                         all_goals first
                          | (case measure=>omega)
                          | (case rel=>exact⟨2,c0,⟨#[40,32]⟩++c1++⟨#[32,41]⟩,rfl,rfl,by unfold Hid;have:=E0.o;by_cases hq:zyC L y0=true;rw[if_pos ⟨by omega,hq⟩] at this ⊢;exact this;rw[if_neg (λh=>hq h.2)] at this ⊢;exact this,by unfold Hid;rw[if_pos ⟨by omega,HC.o⟩,HD.o],s0,by rw[ByteArray.size_append,ByteArray.size_append,HD.o];show 2+b1.size+2<=_;omega,za (TxI.put (k:=1) HY.o)⟩)
                       | false =>
                         have q9:(e.op.toList==[99,97,108,108])=false:=hic.symm.trans hcl;have HC:=za hcl;clear hic hcl;go_upto_region 29 with fail;go_region;all_goals go_wp2_with fail
                         all_goals go_roundg 0
                         all_goals first
                          | (case measure=>omega)
                          | (case rel=>exact⟨2,c0,c1,rfl,rfl,by unfold Hid;have:=E0.o;by_cases hq:zyC L y0=true;rw[if_pos ⟨by omega,hq⟩] at this ⊢;exact this;rw[if_neg (λh=>hq h.2)] at this ⊢;exact this,by unfold Hid;rw[if_neg (λh=>by rw[HC.o] at h;cases h.2)];exact hcb,s0,s1,⟨HY.o.nd,HY.o.ex,HY.o.own,HY.o.bel.drew,HY.o.siz⟩⟩)
                     . go_wp2_with fail;go_region;all_goals go_wp2_with fail
                       all_goals go_ret
                       all_goals (refine⟨?_,HY.o.bel.drew⟩;rw[HR.o,E0.o,E1.o];simp)
                  . have q7:(ex.op.toList==[109,101,114,103,101])=false:=beq_eq_false_iff_ne.2 h7;by_cases h8:ex.op.toList=[119,104,101,110]
                    . have q8:(ex.op.toList==[119,104,101,110])=true:=beq_iff_eq.2 h8;have hA1:1<=bs.length:=(by rw[h8] at hA;exact hA);obtain⟨b0,hb0⟩:∃b,bs[0]?=some b:=⟨bs[0]'(by omega),zsc _⟩;obtain⟨z0,gi,rfl,d0⟩:=HG.o 0 b0 hb0;have HG0:Hid (bs.getD 0 ⟨#[]⟩=b0):=(by unfold Hid;rw[List.getD_eq_getElem?_getD,hb0];rfl);have hl0:(0:Int)<bs.length:=(by omega);go_upto_region 34 with fail;go_region;all_goals go_wp2_with fail
                      all_goals go_ret
                      all_goals exact⟨by unfold zyn;rw[if_neg h0,if_neg h1,if_neg h2,if_neg h3,if_neg h4,if_neg h5,if_neg h6,if_neg h7,if_pos (Or.inl h8)];simp only[HG0.o];rfl,HB.o.drew⟩
                    . have q8:(ex.op.toList==[119,104,101,110])=false:=beq_eq_false_iff_ne.2 h8;by_cases h9:ex.op.toList=[119,104,101,110,111,116]
                      . have q9:(ex.op.toList==[119,104,101,110,111,116])=true:=beq_iff_eq.2 h9;have hA1:1<=bs.length:=(by rw[h9] at hA;exact hA);obtain⟨b0,hb0⟩:∃b,bs[0]?=some b:=⟨bs[0]'(by omega),zsc _⟩;obtain⟨z0,gi,rfl,d0⟩:=HG.o 0 b0 hb0;have HG0:Hid (bs.getD 0 ⟨#[]⟩=b0):=(by unfold Hid;rw[List.getD_eq_getElem?_getD,hb0];rfl);have hl0:(0:Int)<bs.length:=(by omega);go_upto_region 34 with fail;go_region;all_goals go_wp2_with fail
                        all_goals go_ret
                        all_goals exact⟨by unfold zyn;rw[if_neg h0,if_neg h1,if_neg h2,if_neg h3,if_neg h4,if_neg h5,if_neg h6,if_neg h7,if_pos (Or.inr h9)];simp only[HG0.o];rfl,HB.o.drew⟩
                      . have q9:(ex.op.toList==[119,104,101,110,111,116])=false:=beq_eq_false_iff_ne.2 h9;have hA2:2<=bs.length:=(by unfold zB9 at hA;rw[if_neg (by rintro (h|h|h|h);exact h0 h;exact h1 h;exact h2 h;exact h3 h),if_neg (by rintro (h|h|h|h);exact h4 h;exact h5 h;exact h8 h;exact h9 h),if_neg h6] at hA;exact hA);obtain⟨b0,hb0⟩:∃b,bs[0]?=some b:=⟨bs[0]'(by omega),zsc _⟩;obtain⟨z0,gi,rfl,d0⟩:=HG.o 0 b0 hb0;have HG0:Hid (bs.getD 0 ⟨#[]⟩=b0):=(by unfold Hid;rw[List.getD_eq_getElem?_getD,hb0];rfl);obtain⟨b1,hb1⟩:∃b,bs[1]?=some b:=⟨bs[1]'(by omega),zsc _⟩;obtain⟨z1,gi1,e1,d1⟩:=HG.o 1 b1 hb1;cases e1;have HG1:Hid (bs.getD 1 ⟨#[]⟩=b1):=(by unfold Hid;rw[List.getD_eq_getElem?_getD,hb1];rfl);have hl1:(1:Int)<bs.length:=(by omega);have hl0:(0:Int)<bs.length:=(by omega);go_upto_region 35 with fail;go_region;all_goals go_wp2_with fail
                        all_goals go_ret
                        all_goals exact⟨by unfold zyn;rw[if_neg h0,if_neg h1,if_neg h2,if_neg h3,if_neg h4,if_neg h5,if_neg h6,if_neg h7,if_neg (by rintro (h|h);exact h8 h;exact h9 h)];simp only[HG0.o,HG1.o];rfl,HB.o.drew⟩
theorem zDc {N:Nat}{L:List Ex}{x:Nat}{b:ByteArray}(h:TxR L x b):zCy N L x b:=by
 induction h with
 | mk x ex bs hx hl hS hA hM hz _ ih=>exact zFR N L x ex bs hx hl hS hA hM hz ih
end
section
variable {l:List Vr} {N:Nat} {v:Value} {W w:World}
def zHa (w:World)(g i:Nat)(v:Vr):Prop:=w.cell? (xD g (i*10))=some (.string v.nm)/\w.cell? (xD g (i*10+1))=some (xI v.a)/\w.cell? (xD g (i*10+2))=some (.bool v.bl)/\w.cell? (xD g (i*10+3))=some (.bool v.inn)/\w.cell? (xD g (i*10+4))=some (.bool v.out)/\w.cell? (xD g (i*10+5))=some (xI v.on)/\w.cell? (xD g (i*10+6))=some (.string v.ck)/\w.cell? (xD g (i*10+7))=some (xI v.ca)/\w.cell? (xD g (i*10+8))=some (.bool v.nt)/\w.cell? (xD g (i*10+9))=some (.bool v.tm)
def Vrs (w:World)(N:Nat)(v:Value)(l:List Vr):Prop:=∃a cap,v=.slice a l.length cap/\l.length<=16/\∀(i:Nat) (x:Vr),l[i]?=some x->VrS x/\∃g,a=some (xD g 0)/\g<N/\zHa w g i x
def zz6 (w:World)(N:Nat)(v:Value)(l:List ByteArray):Prop:=∃a cap,v=.slice a l.length cap/\l.length<=100000/\∀(k:Nat) (s:ByteArray),l[k]?=some s->s.size<=1000000000000/\∃g,a=some (xD g 0)/\g<N/\w.cell? (xD g k)=some (.string s)
def Qns (w:World)(N:Nat)(v:Value)(l:List Eqn):Prop:=∃a cap,v=.slice a l.length cap/\l.length<=100000/\∀(i:Nat) (q:Eqn),l[i]?=some q->∃g u1 u2 p1 p2 p3,a=some (xD g 0)/\g<N/\w.cell? (xD g (i*4))=some (.slice u1 q.ns.length u2)/\w.cell? (xD g (i*4+1))=some (.slice p1 p2 p3)/\w.cell? (xD g (i*4+2))=some (xI q.a)/\w.cell? (xD g (i*4+3))=some (xI (q.ex:Nat))/\zz6 w N (.slice u1 q.ns.length u2) q.ns
theorem Vrs.bel (h:Vrs w N v l)(hB:Below N w W):Vrs W N v l:=by obtain⟨a,cap,h1,h2,h3⟩:=h;refine⟨a,cap,h1,h2,λi x hi=>?_⟩;obtain⟨hs,g,e1,e2,c0,c1,c2,c3,c4,c5,c6,c7,c8,c9⟩:=h3 i x hi;exact⟨hs,g,e1,e2,zye hB e2 c0,zye hB e2 c1,zye hB e2 c2,zye hB e2 c3,zye hB e2 c4,zye hB e2 c5,zye hB e2 c6,zye hB e2 c7,zye hB e2 c8,zye hB e2 c9⟩
theorem zz6.bel {l:List ByteArray}(h:zz6 w N v l)(hB:Below N w W):zz6 W N v l:=by obtain⟨a,cap,h1,h2,h3⟩:=h;refine⟨a,cap,h1,h2,λk s hk=>?_⟩;obtain⟨hs,g,e1,e2,e3⟩:=h3 k s hk;exact⟨hs,g,e1,e2,zye hB e2 e3⟩
theorem zz6.strs {l:List ByteArray}(h:zz6 w N v l):zEM w v l:=by obtain⟨a,cap,h1,h2,h3⟩:=h;refine⟨a,cap,h1,h2,λk s hk=>?_⟩;obtain⟨hs,g,e1,_,e3⟩:=h3 k s hk;exact⟨hs,g,e1,e3⟩
theorem Qns.bel {l:List Eqn}(h:Qns w N v l)(hB:Below N w W):Qns W N v l:=by obtain⟨a,cap,h1,h2,h3⟩:=h;refine⟨a,cap,h1,h2,λi q hi=>?_⟩;obtain⟨g,u1,u2,p1,p2,p3,e1,e2,c0,c1,c2,c3,c4⟩:=h3 i q hi;exact⟨g,u1,u2,p1,p2,p3,e1,e2,zye hB e2 c0,zye hB e2 c1,zye hB e2 c2,zye hB e2 c3,c4.bel hB⟩
def zyA (l:List Vr):List ByteArray:=(l.filter (·.inn)).map zyJ
def zyu (l:List Vr):List ByteArray:=(l.filter λv=>!v.inn&&v.out).map zyJ
def zzl (l:List Vr):ByteArray:=l.foldl (λs v=>if (v.inn||v.out)=true then s else s++zyJ v++⟨#[32,59,32]⟩) ⟨#[]⟩
def zy8 (l:List (Eqn×ByteArray)):ByteArray:=l.foldl (λs p=>s++zyw p.1.ns++⟨#[32,61,32]⟩++p.2++⟨#[32,59,32]⟩) ⟨#[]⟩
def zyO (nm:ByteArray)(vars:List Vr)(eqs:List (Eqn×ByteArray)):ByteArray :=
 (if (zzl vars).toList=[] then hdB nm (zyA vars) (zyu vars) else hdB nm (zyA vars) (zyu vars)++⟨#[118,97,114,32]⟩++zzl vars)++⟨#[123,32]⟩++zy8 eqs++⟨#[125,10]⟩
theorem zD1 (l:List Vr)(v:Vr):zyA (l++[v])=if v.inn=true then zyA l++[zyJ v] else zyA l:=by unfold zyA;rw[List.filter_append];cases h:v.inn <;> simp[h]
theorem zDD (l:List Vr)(v:Vr):zyu (l++[v])=if v.inn=false/\v.out=true then zyu l++[zyJ v] else zyu l:=by unfold zyu;rw[List.filter_append];cases h:v.inn <;> cases h2:v.out <;> simp[h,h2]
theorem zEJ (l:List Vr)(v:Vr):zzl (l++[v])=if (v.inn||v.out)=true then zzl l else zzl l++zyJ v++⟨#[32,59,32]⟩:=by unfold zzl;rw[List.foldl_append];rfl
theorem zBJ (l:List (Eqn×ByteArray))(p:Eqn×ByteArray):zy8 (l++[p])=zy8 l++zyw p.1.ns++⟨#[32,61,32]⟩++p.2++⟨#[32,59,32]⟩:=by unfold zy8;rw[List.foldl_append];rfl
theorem zy1 {v:Vr}(h:VrS v):(zyJ v).size<=3000:=by
 obtain⟨h1,h2⟩:=h;have k1:∀n,(⟨#[32,58,32,98,111,111,108]⟩:ByteArray).size=n->n=7:=λn h=>h▸rfl;have t:(zzW v).size<=1210:=by
  unfold zzW;split
  . rw[ByteArray.size_append];show v.nm.size+7<=_;omega
  . rw[ByteArray.size_append];show v.nm.size+6<=_;omega
 unfold zyJ;split
 . split
   . rw[ByteArray.size_append,ByteArray.size_append,ByteArray.size_append];show (zzW v).size+4+4+v.ck.size<=_;omega
   . rw[ByteArray.size_append,ByteArray.size_append];show (zzW v).size+4+v.ck.size<=_;omega
 . omega
theorem zBv:∀(l:List Vr) (s:ByteArray),(∀v∈l,VrS v)->(l.foldl (λs v=>if (v.inn||v.out)=true then s else s++zyJ v++⟨#[32,59,32]⟩) s).size<=s.size+l.length*3003
 | [],s,_=>by simp
 | v::l,s,h=>by
   have h2:=zy1 (h v (List.mem_cons_self ..));have h1:=zBv l (if (v.inn||v.out)=true then s else s++zyJ v++⟨#[32,59,32]⟩) (λx hx=>h x (List.mem_cons_of_mem _ hx));rw[List.foldl_cons,List.length_cons];refine Nat.le_trans h1 ?_;split
   . omega
   . rw[ByteArray.size_append,ByteArray.size_append];show s.size+_+3+_<=_;omega
theorem zzT (h:∀v∈l,VrS v):(zzl l).size<=l.length*3003:=by have:=zBv l ⟨#[]⟩ h;have h0:(⟨#[]⟩:ByteArray).size=0:=rfl;rw[h0] at this;unfold zzl;omega
end
end Go.Proofs.YtmfkofhgdjechaaGreatDoor
