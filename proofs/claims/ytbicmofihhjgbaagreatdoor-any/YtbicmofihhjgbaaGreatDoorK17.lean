/- Part 18 of the proof: CmpA ChkA ChkB CmpB. -/
import Derived.LaidEqlPtr
import Derived.Test.YtbicmofihhjgbaaGreatDoorK16
set_option maxRecDepth 100000
set_option maxHeartbeats 8000000
namespace Go.Proofs.YtbicmofihhjgbaaGreatDoor
open Go.Proofs.Tryz
open Go.RowKit
section
variable {K:Cd} {B kb wb:Nat} {bv cv rv:Value} {w w':World}
attribute [local go_sem ↓] Go.wp_at_zero Go.wp_at_succ
theorem Tryz.infoIns:(prog.info? 108).map (λi=>(i.zero,i.size,i.bytes))=some (some (.agg #[.int .u8 0,xI 0]),2,16):=by kernel_rfl
def zgV (w:World)(b o k:Nat):Prop:=∃v,w.cell? (xD b o)=some v/\v.ownBlock=some k
def KT (kb:Nat)(w:World)(k:Nat):Prop:=k=kb∨zgV w kb 0 k∨zgV w kb 3 k∨zgV w kb 5 k
def Cd.add (K:Cd)(op:Nat)(x:Int):Cd:={ K with row:=K.row++[(op,x)] }
structure KI (B wb kb:Nat) (bv cv rv:Value) (K:Cd) (w:World):Prop where
 wr:w.heap[wb]?=some (.cells #[xP kb] 128 (0,0))
 blk:w.heap[kb]?=some (.cells #[bv,xI K.outs,xI K.slots,cv,xI K.depth,rv] 103 (0,0))
 bown:w.ownsRow B 4 1 bv K.bools.length (K.bools.map .bool)
 cown:w.ownsRow B 2 1 cv K.cells.length (zK K.cells)
 rown:w.ownsRow B 108 2 rv K.row.length (zbs K.row)
 hwb:wb<B
 hkb:kb<B
 dk:¬wb=kb
 d1:∀k,bv.ownBlock=some k->¬cv.ownBlock=some k/\¬rv.ownBlock=some k
 d2:∀k,cv.ownBlock=some k->¬rv.ownBlock=some k
 hB:B<=w.heap.size
def KW (B wb kb:Nat)(K:Cd)(w:World):Prop:=∃bv cv rv,KI B wb kb bv cv rv K w
theorem KI.kt (h:KI B wb kb bv cv rv K w)(k:Nat):KT kb w k↔k=kb∨bv.ownBlock=some k∨cv.ownBlock=some k∨rv.ownBlock=some k:=by
 obtain⟨m0,m1,m2,m3,m4,m5,mf,mz⟩:=zt h.blk;unfold KT zgV;rw[m0,m3,m5];constructor
 . rintro (e|⟨v,e1,e2⟩|⟨v,e1,e2⟩|⟨v,e1,e2⟩)
   . exact Or.inl e
   . cases e1;exact Or.inr (Or.inl e2)
   . cases e1;exact Or.inr (Or.inr (Or.inl e2))
   . cases e1;exact Or.inr (Or.inr (Or.inr e2))
 . rintro (e|e|e|e)
   . exact Or.inl e
   . exact Or.inr (Or.inl ⟨_,rfl,e⟩)
   . exact Or.inr (Or.inr (Or.inl ⟨_,rfl,e⟩))
   . exact Or.inr (Or.inr (Or.inr ⟨_,rfl,e⟩))
theorem KI.keep (h:KI B wb kb bv cv rv K w)(hB:xB w w'):KI B wb kb bv cv rv K w' :=
 ⟨(hB.block _ (ze h.wr)).trans h.wr,(hB.block _ (ze h.blk)).trans h.blk,zi h.bown (λk _ hk _=>hB.block k hk),zi h.cown (λk _ hk _=>hB.block k hk),zi h.rown (λk _ hk _=>hB.block k hk),h.hwb,h.hkb,h.dk,h.d1,h.d2,Nat.le_trans h.hB hB.size⟩
theorem KW.keep (h:KW B wb kb K w)(hB:xB w w'):KW B wb kb K w':=by obtain⟨bv,cv,rv,h⟩:=h;exact⟨bv,cv,rv,h.keep hB⟩
theorem KW.tk (h:KW B wb kb K w)(hB:xB w w'):∀k,KT kb w' k->KT kb w k:=by obtain⟨bv,cv,rv,h⟩:=h;intro k hk;exact (h.kt k).2 (((h.keep hB).kt k).1 hk)
theorem KW.lt (h:KW B wb kb K w):∀k,KT kb w k->k<w.heap.size:=by
 obtain⟨bv,cv,rv,h⟩:=h;intro k hk;rcases (h.kt k).1 hk with e|e|e|e
 . subst e;exact ze h.blk
 . exact (h.bown.lt _ e).2
 . exact (h.cown.lt _ e).2
 . exact (h.rown.lt _ e).2
theorem KW.ge (h:KW B wb kb K w):∀k,KT kb w k->k=kb∨B<=k:=by
 obtain⟨bv,cv,rv,h⟩:=h;intro k hk;rcases (h.kt k).1 hk with e|e|e|e
 . exact Or.inl e
 . exact Or.inr (h.bown.lt _ e).1
 . exact Or.inr (h.cown.lt _ e).1
 . exact Or.inr (h.rown.lt _ e).1
theorem KW.ft (h:KW B wb kb K w)(hB:xB w w'):FT (KT kb) w w':=FT.below hB (h.tk hB)
theorem zrh {a b:Int}:∀u∈[Value.int .u8 a,xI b],u.oneCell'=true:=by simp[Value.oneCell']
theorem zcB {n:Nat}{e:TypeId}{sz:Nat}{vs:Value}{xs:List Value}(h:w.ownsRow B e sz vs n xs):∃x cp,vs=.slice x n cp:=by
 rcases h.2 with ⟨h1,h2⟩|⟨g,cap,cur,h1,_⟩
 . exact⟨none,0,by rw[h1,h2]⟩
 . exact⟨_,cap,h1⟩
theorem zmJ (l:List (Nat×Int))(op:Nat)(x:Int):zbs (l++[(op,x)])=zbs l++[.int .u8 (op:Int),xI x]:=by unfold zbs;rw[List.flatMap_append];rfl
theorem KI.added {v':Value}{op:Nat}{x:Int}{w9:World}{X:Obj}(h:KI B wb kb bv cv rv K w)(hF:Fr (λk=>rv.ownBlock=some k) (w.alloc X) w9)
 (hown:w9.ownsRow B 108 2 v' (K.row.length+1) (zbs K.row++[.int .u8 (op:Int),xI x])) (hnew:∀k,v'.ownBlock=some k->rv.ownBlock=some k∨w.heap.size+1<=k) :
 KW B wb kb (K.add op x) (w9.setCell (xD kb 5) v')/\FT (KT kb) w (w9.setCell (xD kb 5) v'):=by
 have hz:=h.hB;have hwb:=h.hwb;have hkb:=h.hkb;have hs:(w.alloc X).heap.size=w.heap.size+1:=by simp
 have hz9:=hF.size;have hb:∀k,k<w.heap.size->¬rv.ownBlock=some k->w9.heap[k]?=w.heap[k]?:=λk hk hn=>(hF.block k (by omega) hn).trans (Below.heap_alloc _ _ _ hk);have hb':∀k,k<w.heap.size->¬k=kb->¬rv.ownBlock=some k->(w9.setCell (xD kb 5) v').heap[k]?=w.heap[k]?:=λk hk h1 h2=>zr h1 (hb k hk h2);have hnr:∀k,k<B->¬rv.ownBlock=some k:=λk hk e=>by have:=(h.rown.lt _ e).1;omega
 have hI:KI B wb kb bv cv v' (K.add op x) (w9.setCell (xD kb 5) v'):=by
  refine⟨(hb' wb (by omega) h.dk (hnr wb hwb)).trans h.wr,?_,zi h.bown (λk h1 h2 e=>hb' k h2 (by omega) (h.d1 k e).2),zi h.cown (λk h1 h2 e=>hb' k h2 (by omega) (h.d2 k e)),?_,hwb,hkb,h.dk,λk e=>⟨(h.d1 k e).1,λe'=>?_⟩,λk e e'=>?_,?_⟩
  . exact zh _ _ _ _ ((hb kb (by omega) (hnr kb hkb)).trans h.blk)
  . have:=zi hown (w':=w9.setCell (xD kb 5) v') (λk h1 h2 _=>zr (by omega) rfl);rw[<- zmJ] at this
    show World.ownsRow _ B 108 2 v' (K.row++[(op,x)]).length _;rw[List.length_append];exact this
  . rcases hnew k e' with e2|e2
    . exact (h.d1 k e).2 e2
    . have:=(h.bown.lt _ e).2;omega
  . rcases hnew k e' with e2|e2
    . exact h.d2 k e e2
    . have:=(h.cown.lt _ e).2;omega
  . have:(w9.setCell (xD kb 5) v').heap.size=w9.heap.size:=by simp
    omega
 refine⟨⟨bv,cv,v',hI⟩,⟨hF.os,hF.tape,hF.output,?_,λk hk hn=>?_⟩,λk hk=>?_⟩
 . have:(w9.setCell (xD kb 5) v').heap.size=w9.heap.size:=by simp
   omega
 . exact hb' k hk (λe=>hn ((h.kt k).2 (Or.inl e))) (λe=>hn ((h.kt k).2 (Or.inr (Or.inr (Or.inr e)))))
 . rcases (hI.kt k).1 hk with e|e|e|e
   . exact Or.inl ((h.kt k).2 (Or.inl e))
   . exact Or.inl ((h.kt k).2 (Or.inr (Or.inl e)))
   . exact Or.inl ((h.kt k).2 (Or.inr (Or.inr (Or.inl e))))
   . rcases hnew k e with e2|e2
     . exact Or.inl ((h.kt k).2 (Or.inr (Or.inr (Or.inr e2))))
     . exact Or.inr (by omega)
theorem zc7 (B wb kb:Nat)(K:Cd)(op:Nat)(x:Int)(w:World)(h:KW B wb kb K w)(hr:K.row.length<=1000000) :
 xK 56 #[xP wb,.int .u8 (op:Int),xI x] w (λe w'=>e=.returned (.tuple #[])/\KW B wb kb (K.add op x) w'/\FT (KT kb) w w'):=by
 obtain⟨bv,cv,rv,HI⟩:=h;obtain⟨xr,cpr,rfl⟩:=zcB HI.rown;obtain⟨a0,af,az⟩:=zu HI.wr;obtain⟨m0,m1,m2,m3,m4,m5,mf,mz⟩:=zt HI.blk;obtain⟨i0,hi,hi0,hi1,hi2⟩:=info_parts Tryz.infoIns;have mx:K.row.length+1<=maxLen:=by unfold maxLen;omega
 have by':(K.row.length+1)*16<=140737488355328:=by omega
 have hwb:=HI.hwb;have hkb:=HI.hkb;have hBz:=HI.hB;have hdk:=HI.dk;clear m0 m1 m2 m3 m4 hr;go_enter func56,ntmps56
 go_region_law (
  refine zJ _ rfl (.tmp 16) (.tmp 20) 101 rfl B 108 i0 _ 2 16 underlying101 hi hi0 hi1 hi2 rfl (by decide) (.slice xr K.row.length cpr) K.row.length (zbs K.row) rfl (zD (HI.rown) _) (xD w.heap.size 0) 1 1 [.int .u8 (op:Int),xI x] rfl rfl (zN (zc w _) rfl) zrh mx by' (by simp;omega) ?_;intro v' w9 Hown9 hgrow Hnew9;obtain⟨g9,cap9,rfl,hg9⟩:=zM Hown9 (by omega);have HF9:=(Fr.of_grown hgrow).undrew;have Hk9:=(HF9.block kb (by simp;omega) (λh=>by have:=(HI.rown.lt _ h).1;omega)).trans ((Below.heap_alloc _ _ _ (by omega)).trans HI.blk);have Hw9:=(HF9.block wb (by simp;omega) (λh=>by have:=(HI.rown.lt _ h).1;omega)).trans ((Below.heap_alloc _ _ _ (by omega)).trans HI.wr);obtain⟨b0,bf,bz⟩:=zu Hw9;obtain⟨q0,q1,q2,q3,q4,q5,qf,qz⟩:=zt Hk9;clear hgrow)
 all_goals go_wp2_with fail
 all_goals go_end0
 all_goals exact⟨rfl,HI.added HF9 Hown9 (λk e=>(Hnew9 k e).imp id (λh=>by have h':(w.alloc (.cells #[.int .u8 (op:Int),xI x] 108)).heap.size<=k:=h;rw[zsb] at h';exact h'))⟩
end
section
variable {bb kd lb sb:Nat} {S:Nat->Addr} {st:Option Nat} {askv nmv:Value} {w:World}
attribute [local go_sem ↓] Go.wp_at_zero Go.wp_at_succ
def zbp (S:Nat->Addr)(kd:Nat):Option Nat->Value
 | none=>.nilIface
 | some p=>.iface 71 (.agg #[sen S kd,xI p])
structure RpI (S:Nat->Addr) (kd lb bb sb:Nat) (nmv askv:Value) (st:Option Nat) (w:World):Prop where
 l:w.heap[lb]?=some (.cells #[zbp S kd st] 53 (0,0))
 b:w.heap[bb]?=some (.cells #[xI (st.getD 0:Nat)] 3 (0,0))
 s:w.heap[sb]?=some (.cells #[nmv,sen S kd,askv] 153 (0,0))
 n1:lb≠bb
 n2:lb≠sb
 n3:bb≠sb
def RT (lb bb:Nat)(k:Nat):Prop:=k=lb∨k=bb
def zam (lb bb sb:Nat):Value:=.func (.func 140) #[] #[xP lb,xP bb,xP sb]
theorem RpI.keep {w':World}(h:RpI S kd lb bb sb nmv askv st w)(hB:xB w w'):RpI S kd lb bb sb nmv askv st w' :=
 ⟨(hB.block _ (ze h.l)).trans h.l,(hB.block _ (ze h.b)).trans h.b,(hB.block _ (ze h.s)).trans h.s,h.n1,h.n2,h.n3⟩
theorem zhY {b:Nat}{e:TypeId}{v0:Value}(h:xH w b #[v0] e)(v:Value):xH (w.setCell (xD b 0) v) b #[v] e:=zh _ _ _ _ h
theorem zkD {w1:World}(h:RpI S kd lb bb sb nmv askv st w)(hB:xB w w1)(p:Nat) :
 RpI S kd lb bb sb nmv askv (some p) ((w1.setCell (xD lb 0) (zbp S kd (some p))).setCell (xD bb 0) (xI p))/\Fr (RT lb bb) w ((w1.setCell (xD lb 0) (zbp S kd (some p))).setCell (xD bb 0) (xI p)):=by
 have h1:=h.keep hB;refine⟨⟨(zr h.n1 rfl).trans (zhY h1.l _),zhY ((zr (λe=>h.n1 e.symm) rfl).trans h1.b) _,(zr (λe=>h.n3 e.symm) rfl).trans ((zr (λe=>h.n2 e.symm) rfl).trans h1.s),h.n1,h.n2,h.n3⟩,?_⟩;have hf:Fr (RT lb bb) w w1:=Fr.of_below hB;exact (hf.setCell (Or.inl (Or.inl rfl)) _).setCell (Or.inl (Or.inr rfl)) _
theorem zaa (S:Nat->Addr)(kd lb bb sb:Nat)(nmv askv:Value)(st:Option Nat)(p:Nat)(w:World)(H:RpI S kd lb bb sb nmv askv st w) :
 xK 140 #[xI p,xP lb,xP bb,xP sb] w (λe w'=>e=.returned (.tuple #[])/\RpI S kd lb bb sb nmv askv (rep st p) w'/\Fr (RT lb bb) w w'):=by
 obtain⟨l0,lf,lz⟩:=zu H.l;obtain⟨b0,bf,bz⟩:=zu H.b;obtain⟨s0,s1,s2,sf,sz⟩:=zL H.s;have n1:¬lb=bb:=H.n1;have n1':¬bb=lb:=λe=>H.n1 e.symm;unfold sen at s1;cases st with
 | none => have e0:rep none p=some p:=rfl;rw[e0];unfold zbp at l0;go_enter func140,ntmps140;go_wp2_with (go_at_call 42;refine (zi3 S kd p _).mono ?_;rintro e w1 ⟨rfl,HB⟩;have hK:=H.keep HB;obtain⟨l1,lf1,lz1⟩:=zu hK.l;obtain⟨b1,bf1,bz1⟩:=zu hK.b;clear hK);go_end0;obtain⟨k1,k2⟩:=zkD H HB p;exact⟨rfl,k1,k2⟩
 | some b =>
   unfold zbp at l0;have b0':xC w bb 0 (xI (b:Nat)):=b0;clear b0;by_cases hlt:p<b
   . have e0:rep (some b) p=some p:=(by show (if p<b then some p else some b)=_;rw[if_pos hlt]);rw[e0];go_enter func140,ntmps140;go_wp2_with (go_at_call 42;refine (zi3 S kd p _).mono ?_;rintro e w1 ⟨rfl,HB⟩;have hK:=H.keep HB;obtain⟨l1,lf1,lz1⟩:=zu hK.l;obtain⟨b1,bf1,bz1⟩:=zu hK.b;clear hK);go_end0;obtain⟨k1,k2⟩:=zkD H HB p;exact⟨rfl,k1,k2⟩
   . have e0:rep (some b) p=some b:=(by show (if p<b then some p else some b)=_;rw[if_neg hlt]);rw[e0];go_enter func140,ntmps140;go_wp2_with fail;go_end0;exact⟨rfl,H,Fr.refl _ w⟩
theorem zf2 {N:Nat}{t:Tm}{v:Value}(w:World)(h:TT w N t v) :
 xK 124 #[v] w (λe w'=>e=.returned (.bool (zaJ t.k))/\w=w'):=by
 obtain⟨b,args,vs,rfl,hb,hblk,_⟩:=h.ptr;obtain⟨h0,h1,h2,h3,h4,h5,hf,hz⟩:=zt hblk;clear h;have hc:t.k=3∨t.k=7∨t.k=8∨t.k=6∨(t.k≠3/\t.k≠7/\t.k≠8/\t.k≠6):=by omega
 generalize t.k=k at *;rcases hc with rfl|rfl|rfl|rfl|⟨c1,c2,c3,c4⟩
 . go_enter func124,ntmps124;go_wp2_with fail;go_ret;exact⟨rfl,rfl⟩
 . go_enter func124,ntmps124;go_wp2_with fail;go_ret;exact⟨rfl,rfl⟩
 . go_enter func124,ntmps124;go_wp2_with fail;go_ret;exact⟨rfl,rfl⟩
 . go_enter func124,ntmps124;go_wp2_with fail;go_ret;exact⟨rfl,rfl⟩
 . have d1:((k:Int)==3)=false:=by simp;omega
   have d2:((k:Int)==7)=false:=(by simp;omega);have d3:((k:Int)==8)=false:=(by simp;omega);have d4:((k:Int)==6)=false:=(by simp;omega);have HK:Hid (zaJ k=false):=(by unfold Hid zaJ;simp[c1,c2,c3,c4]);clear c1 c2 c3 c4;go_enter func124,ntmps124;go_wp2_with fail;go_ret;exact⟨by rw[HK.o];rfl,rfl⟩
end
section
variable {N:Nat} {t:Tm} {v:Value} {w:World}
attribute [local go_sem ↓] Go.wp_at_zero Go.wp_at_succ
theorem zI {B:Nat}{a:World}(h:Below B a w)(n:Nat):Below B a (w.drewN n):=⟨h.os,h.tape,h.output,h.size,h.block⟩
theorem Tryz.sizeEx:(prog.info? 226).map (·.size)=some 6:=by kernel_rfl
theorem zoG (b:Nat)(w:World):(binOp .eql 182 (xP b) (xP b)).run prog w=.ok (.bool true) w:=by
 cases h:prog.info? 226 with
 | none=>have:=Tryz.sizeEx;rw[h] at this;cases this
 | some j=>exact run_eql_ptr_same w _ underlying182 h
theorem zmX {b b2:Nat}{c1 c2:Array Value}{t1 t2:TypeId}(hne:b≠b2)(h1:xH w b c1 t1)(h2:xH w b2 c2 t2):(binOp .eql 182 (xP b) (xP b2)).run prog w=.ok (.bool false) w:=by
 have hs:=Tryz.sizeEx;cases h:prog.info? 226 with
 | none=>rw[h] at hs;cases hs
 | some j =>
   rw[h] at hs;have:j.size=6:=by simpa using hs
   exact run_eql_ptr_other w underlying182 h (by omega) (by intro e;cases e;exact hne rfl) h1 h2
theorem znj {q:Qn}{lv rv:Value}(w:World)(hE:EqV w N q lv rv)(hT:TT w N t v)(hW:zfa q rv t v) :
 xK 126 #[.agg #[lv,xI q.a,rv],v] w (λe w'=>e=.returned (xI (zda q t:Nat))/\xB w w'):=by
 obtain⟨b,_,_,rfl,_,hb,_⟩:=hT.ptr;obtain⟨b2,_,_,rfl,_,hb2,_⟩:=hE.tt.ptr;obtain⟨x,cp,rfl⟩:=zB hE.own;by_cases hv:b=b2
 . subst hv;have e:=hT.det hE.tt;have HU:Hid (zda q t=q.ns.length):=by unfold Hid zda;rw[e,if_pos rfl]
   have hq:=zoG b;go_enter func126,ntmps126;go_wp2_with fail;go_ret;exact⟨by rw[HU.o];rfl,zq _ _⟩
 . have HU:Hid (zda q t=1):=by
    unfold Hid zda;rcases hW with ⟨_,e⟩|h
    . cases e;exact absurd rfl hv
    . rw[if_neg (by omega)]
   have hq:=λo=>zmX (w:=w.alloc o) hv ((Below.heap_alloc _ _ _ (ze hb)).trans hb) ((Below.heap_alloc _ _ _ (ze hb2)).trans hb2);go_enter func126,ntmps126;go_wp2_with fail;go_ret;exact⟨by rw[HU.o];rfl,zq _ _⟩
theorem znK {c:Sc}{ev nv:Value}(u:Nat)(w:World)(HSc:ScV w N c ev nv)(hN:N<=w.heap.size)(h6:c.er.length<=6)(hT:TT w N t v) :
 xK 125 #[.agg #[ev,nv],v,xI u] w (λe w'=>e=.returned (.bool (c.fits t u))/\xB w w'):=by
 obtain⟨b,args,vs,rfl,hb,HBk,hown,hlen,_⟩:=hT.ptr;obtain⟨xa,cpa,rfl⟩:=zB hown;obtain⟨xe,cpe,nb,rfl,rfl,_⟩:=HSc.shape;have ec:Hid (c.fits t u=match c.called t.s with|none=>false|some d=>d.nd.ins==t.ts.length&&d.nd.outs==u):=rfl;have hlen':vs.length=t.ts.length:=hlen;have hbz:=ze HBk;rw[hlen'] at HBk;go_enter func125,ntmps125;go_upto_region 1 with fail;refine zn (λW=>(xH W w.heap.size #[xE xe c cpe,xP nb] 216)/\xB w W) ⟨zc w _,zq w _⟩ ?_;rintro W ⟨Hs,HB⟩;obtain⟨s0,s1,sf,sz⟩:=zp Hs;obtain⟨h0,h1,h2,h3,h4,h5,hf,hz⟩:=zt ((HB.block b hbz).trans HBk);have hO:=zm HB hN;have hNW:N<=W.heap.size:=by omega
 have hS1:=HSc.old (w':=W.drew) hO;have hS2:=λo=>HSc.old (w':=(W.alloc o).drew) (hO.trans (λk hk=>Below.heap_alloc _ _ _ (by omega)));cases hcal:c.called t.s with
 | none =>
   rw[hcal] at ec;have HC1:=za (zc4 t.s (t.nm:Int) W.drew hS1 hNW h6 hcal);have HC2:=za (λo=>zc4 t.s (t.nm:Int) (W.alloc o).drew (hS2 o) (by show N<=(W.alloc o).heap.size;simp;omega) h6 hcal)
   go_region_held3 (λw'=>w'.cell? (xD w.heap.size 0)=some (xE xe c cpe)/\w'.cell? (xD w.heap.size 1)=some (xP nb)/\w'.cell? (xD b 2)=some (.string t.s)/\w'.cell? (xD b 3)=some (xI t.nm))
    (first|(with_reducible (refine⟨?_,?_,?_,?_⟩ <;> repeat (first|assumption|refine zg ?_|refine zj _ ?_|refine zk (by omega) ?_|refine zd HB1.o ?_ (by first|omega|(rw[zsb];omega)))))|go_keep)
    (first
      | (go_at_call 119;refine HC1.o.mono ?_;rintro e w1 ⟨rfl,hB1⟩;have HB1:=za (zw hB1))
      | (go_at_call 119;refine (HC2.o _).mono ?_;rintro e w1 ⟨rfl,hB1⟩;have HB1:=za (zw hB1);obtain⟨y0,y1,yf,yz⟩:=zp ((HB1.o.block W.heap.size (by rw[zsb];omega)).trans (zc W _))))
   . go_wp2_with fail;go_quiet (fail);go_wp2_with fail;go_ret;exact⟨by rw[ec.out];rfl,zI ((HB.trans (HB1.o.mono (by omega))).alloc (by have:=HB1.o.size;omega) _) _⟩
   . go_wp2_with fail;go_quiet (fail);go_wp2_with fail;go_ret;exact⟨by rw[ec.out];rfl,zI (zC (zC (HB.trans ((zE HB1.o).mono (by omega))) (by omega) _) (by omega) _) _⟩
 | some d =>
   rw[hcal] at ec;have HC1:=za (zah t.s (t.nm:Int) W.drew hS1 hNW h6 hcal);have HC2:=za (λo=>zah t.s (t.nm:Int) (W.alloc o).drew (hS2 o) (by show N<=(W.alloc o).heap.size;simp;omega) h6 hcal)
   go_region_held3 (λw'=>w'.cell? (xD w.heap.size 0)=some (xE xe c cpe)/\w'.cell? (xD w.heap.size 1)=some (xP nb)/\w'.cell? (xD b 2)=some (.string t.s)/\w'.cell? (xD b 3)=some (xI t.nm))
    (first|(with_reducible (refine⟨?_,?_,?_,?_⟩ <;> repeat (first|assumption|refine zg ?_|refine zj _ ?_|refine zk (by omega) ?_|refine zd HB1.o ?_ (by first|omega|(rw[zsb];omega)))))|go_keep)
    (first
      | (go_at_call 119;refine HC1.o.mono ?_;rintro e w1 ⟨x2,cp2,n2,rfl,hsc,hB1⟩;have HB1:=za (zw hB1);have HS2:=za hsc)
      | (go_at_call 119;refine (HC2.o _).mono ?_;rintro e w1 ⟨x2,cp2,n2,rfl,hsc,hB1⟩;have HB1:=za (zw hB1);have HS2:=za hsc;obtain⟨y0,y1,yf,yz⟩:=zp ((HB1.o.block W.heap.size (by rw[zsb];omega)).trans (zc W _))))
   . go_wp2_with fail;obtain⟨nn,vs2,qv2,xs2,e9,hnt⟩:=HS2.o.nd;cases e9;obtain⟨m0,m1,m2,m3,m4,m5,mf,mz⟩:=zt hnt.blk;have hn2:=hnt.lo;have hz1:=HB1.o.size;try rw[zsb] at hz1
     refine zn (λW2=>(W2.cell? (xD w1.heap.size 1)=some (xP n2)/\W2.cell? (xD n2 3)=some (xI d.nd.ins)/\W2.cell? (xD n2 4)=some (xI d.nd.outs)/\W2.cell? (xD b 5)=some (.slice xa t.ts.length cpa))/\xB w W2) ⟨⟨?_,?_,?_,?_⟩,((HB.trans (HB1.o.mono (by omega))).alloc (by omega) _)⟩ ?_
     . first|(simp;done)|exact za0 (zce y1)
     . repeat (first|with_reducible exact m3|with_reducible refine zj _ ?_|with_reducible refine zk (by omega) ?_)
     . repeat (first|with_reducible exact m4|with_reducible refine zj _ ?_|with_reducible refine zk (by omega) ?_)
     . repeat (first|with_reducible exact h5|with_reducible refine zj _ ?_|with_reducible refine zk (by omega) ?_|with_reducible refine zd HB1.o ?_ (by first|omega|(rw[zsb];omega)))
     rintro W2 ⟨⟨g0,g1,g2,g3⟩,HB2⟩;have HE:Hid (c.fits t u=(d.nd.ins==t.ts.length&&d.nd.outs==u)):=ec.out;by_cases hi:d.nd.ins=t.ts.length
     . have hi':((d.nd.ins:Int)==(t.ts.length:Int))=true:=(by simp[hi]);by_cases ho:d.nd.outs=u
       . have ho':((d.nd.outs:Int)==(u:Int))=true:=(by simp[ho]);have HE2:Hid (c.fits t u=true):=(by unfold Hid;rw[HE.o];simp[hi,ho]);go_quiet (fail);go_wp2_with fail;go_ret;exact⟨by rw[HE2.o];rfl,zI HB2 _⟩
       . have ho':((d.nd.outs:Int)==(u:Int))=false:=(by simp;omega);have HE2:Hid (c.fits t u=false):=(by unfold Hid;rw[HE.o];simp[ho]);go_quiet (fail);go_wp2_with fail;go_ret;exact⟨by rw[HE2.o];rfl,zI HB2 _⟩
     . have hi':((d.nd.ins:Int)==(t.ts.length:Int))=false:=(by simp;omega);have HE2:Hid (c.fits t u=false):=(by unfold Hid;rw[HE.o];simp[hi]);go_quiet (fail);go_wp2_with fail;go_ret;exact⟨by rw[HE2.o];rfl,zI HB2 _⟩
   . go_wp2_with fail;obtain⟨nn,vs2,qv2,xs2,e9,hnt⟩:=HS2.o.nd;cases e9;obtain⟨m0,m1,m2,m3,m4,m5,mf,mz⟩:=zt hnt.blk;have hn2:=hnt.lo;have hz1:=HB1.o.size;try rw[zsb] at hz1
     refine zn (λW2=>(W2.cell? (xD W.heap.size 1)=some (xP n2)/\W2.cell? (xD n2 3)=some (xI d.nd.ins)/\W2.cell? (xD n2 4)=some (xI d.nd.outs)/\W2.cell? (xD b 5)=some (.slice xa t.ts.length cpa))/\xB w W2) ⟨⟨?_,?_,?_,?_⟩,(zC (zC (HB.trans ((zE HB1.o).mono (by omega))) (by omega) _) (by omega) _)⟩ ?_
     . first|(simp;done)|exact za0 (zce y1)
     . repeat (first|with_reducible exact m3|with_reducible refine zj _ ?_|with_reducible refine zk (by omega) ?_)
     . repeat (first|with_reducible exact m4|with_reducible refine zj _ ?_|with_reducible refine zk (by omega) ?_)
     . repeat (first|with_reducible exact h5|with_reducible refine zj _ ?_|with_reducible refine zk (by omega) ?_|with_reducible refine zd HB1.o ?_ (by first|omega|(rw[zsb];omega)))
     rintro W2 ⟨⟨g0,g1,g2,g3⟩,HB2⟩;have HE:Hid (c.fits t u=(d.nd.ins==t.ts.length&&d.nd.outs==u)):=ec.out;by_cases hi:d.nd.ins=t.ts.length
     . have hi':((d.nd.ins:Int)==(t.ts.length:Int))=true:=(by simp[hi]);by_cases ho:d.nd.outs=u
       . have ho':((d.nd.outs:Int)==(u:Int))=true:=(by simp[ho]);have HE2:Hid (c.fits t u=true):=(by unfold Hid;rw[HE.o];simp[hi,ho]);go_quiet (fail);go_wp2_with fail;go_ret;exact⟨by rw[HE2.o];rfl,zI HB2 _⟩
       . have ho':((d.nd.outs:Int)==(u:Int))=false:=(by simp;omega);have HE2:Hid (c.fits t u=false):=(by unfold Hid;rw[HE.o];simp[ho]);go_quiet (fail);go_wp2_with fail;go_ret;exact⟨by rw[HE2.o];rfl,zI HB2 _⟩
     . have hi':((d.nd.ins:Int)==(t.ts.length:Int))=false:=(by simp;omega);have HE2:Hid (c.fits t u=false):=(by unfold Hid;rw[HE.o];simp[hi]);go_quiet (fail);go_wp2_with fail;go_ret;exact⟨by rw[HE2.o];rfl,zI HB2 _⟩
end
section
variable {K:Cd} {B N base cb qb wb:Nat} {c:Sc} {ev lv nv:Value} {w w':World}
attribute [local go_sem ↓] Go.wp_at_zero Go.wp_at_succ
def Cd.adds (K:Cd)(l:List (Nat×Int)):Cd:={ K with row:=K.row++l }
theorem Cd.adds_nil (K:Cd):K.adds []=K:=by unfold Cd.adds;rw[List.append_nil]
theorem Cd.adds_len (K:Cd)(l:List (Nat×Int)):(K.adds l).row.length=K.row.length+l.length:=by unfold Cd.adds;simp
structure CqI (N qb cb base:Nat) (c:Sc) (ev nv lv:Value) (w:World):Prop where
 blk:w.heap[qb]?=some (.cells #[ev,nv,.map (some cb),xI (base:Int),lv] 126 (0,0))
 sc:ScV w N c ev nv
 ck:za7 w c cb
 hN:N<=w.heap.size
structure WI (N B wb kb qb cb base:Nat) (c:Sc) (ev nv lv:Value) (K:Cd) (w:World):Prop where
 kw:KW B wb kb K w
 qi:CqI N qb cb base c ev nv lv w
 nq:¬KT kb w qb
 nc:¬KT kb w cb
 hNk:N<=kb
theorem CqI.keep (h:CqI N qb cb base c ev nv lv w)(hB:xB w w'):CqI N qb cb base c ev nv lv w' :=
 ⟨(hB.block _ (ze h.blk)).trans h.blk,h.sc.old (zm hB h.hN),h.ck.keep hB,Nat.le_trans h.hN hB.size⟩
theorem KW.kb {kb:Nat}(h:KW B wb kb K w):kb<B:=by obtain⟨bv,cv,rv,h⟩:=h;exact h.hkb
theorem WI.ktN {kb:Nat}(h:WI N B wb kb qb cb base c ev nv lv K w):∀k,KT kb w k->N<=k:=by intro k hk;have h1:=h.hNk;have h2:=h.kw.kb;rcases h.kw.ge k hk with e|e <;> omega
theorem WI.keep {kb:Nat}(h:WI N B wb kb qb cb base c ev nv lv K w)(hB:xB w w'):WI N B wb kb qb cb base c ev nv lv K w' :=
 ⟨h.kw.keep hB,h.qi.keep hB,λe=>h.nq (h.kw.tk hB _ e),λe=>h.nc (h.kw.tk hB _ e),h.hNk⟩
theorem FT.not {T:World->Nat->Prop}(h:FT T w w'){z:Nat}(hz:z<w.heap.size)(hn:¬T w z):¬T w' z:=λe=>(h.tk z e).elim hn (λe=>by omega)
theorem WI.ft {kb:Nat}{K':Cd}(h:WI N B wb kb qb cb base c ev nv lv K w)(hk:KW B wb kb K' w')(hf:FT (KT kb) w w'):WI N B wb kb qb cb base c ev nv lv K' w':=by have hO:Old N w w':=hf.old h.qi.hN h.ktN;exact⟨hk,⟨(hf.fr.block _ (ze h.qi.blk) h.nq).trans h.qi.blk,h.qi.sc.old hO,h.qi.ck.of' (hf.fr.block _ h.qi.ck.lt h.nc),Nat.le_trans h.qi.hN hf.fr.size⟩,hf.not (ze h.qi.blk) h.nq,hf.not h.qi.ck.lt h.nc,h.hNk⟩
theorem zeI (i:Nat)(w:World)(h:CqI N qb cb base c ev nv lv w)(hb:base<=1000000)(hi:i<=1000000) :
 xK 161 #[xP qb,xI (i:Int)] w (λe w'=>e=.returned (xI ((base+i:Nat):Int))/\w=w'):=by
 obtain⟨m0,m1,m2,m3,m4,mf,mz⟩:=zcf h.blk;go_enter func161,ntmps161;go_wp2_with fail;go_ret;exact⟨by simp,rfl⟩
theorem zhw (w:World)(h:CqI N qb cb base c ev nv lv w)(hb:base<=1000000) :
 xK 101 #[xP qb] w (λe w'=>e=.returned (xI ((base+c.nd.vars.length:Nat):Int))/\w=w'):=by
 obtain⟨nb,vs,qv,xs,rfl,hnt⟩:=h.sc.nd;obtain⟨xv,cpv,rfl⟩:=zB hnt.vown;obtain⟨n0,n1,n2,n3,n4,n5,nf,nz⟩:=zt hnt.blk;obtain⟨m0,m1,m2,m3,m4,mf,mz⟩:=zcf h.blk;have hfew:=hnt.few;have HS:=za (zeI c.nd.vars.length w h hb (by omega));go_enter func101,ntmps101;go_wp2_with (go_at_call 161;refine HS.o.mono ?_;rintro e w1 ⟨rfl,rfl⟩);go_ret;exact⟨rfl,rfl⟩
theorem zps (w:World)(h:CqI N qb cb base c ev nv lv w)(hb:base<=1000000) :
 xK 100 #[xP qb] w (λe w'=>e=.returned (xI ((base+c.nd.vars.length+1:Nat):Int))/\∃n,w'=w.drewN n):=by
 obtain⟨nb,vs,qv,xs,rfl,hnt⟩:=h.sc.nd;obtain⟨xv,cpv,rfl⟩:=zB hnt.vown;obtain⟨n0,n1,n2,n3,n4,n5,nf,nz⟩:=zt hnt.blk;obtain⟨m0,m1,m2,m3,m4,mf,mz⟩:=zcf h.blk;have hfew:=hnt.few;have hw1:wrap64 ((base:Int)+(c.nd.vars.length:Int))=(base:Int)+(c.nd.vars.length:Int):=by unfold wrap64;omega
 have hw2:wrap64 ((base:Int)+(c.nd.vars.length:Int)+1)=(base:Int)+(c.nd.vars.length:Int)+1:=by unfold wrap64;omega
 go_enter func100,ntmps100;go_upto_region 1 with fail;go_quiet (fail);go_wp2_with fail;go_ret;exact⟨by simp,_,rfl⟩
theorem zfz (s:ByteArray)(a:Int)(w:World)(HQ:CqI N qb cb base c ev nv lv w)(hb:base<=1000000)(hi:c.idx s<=1000000) :
 xK 107 #[xP qb,.agg #[.string s,xI a]] w (λe w'=>e=.returned (xI ((base+c.idx s:Nat):Int))/\xB w w'):=by
 obtain⟨xe,cpe,nb,rfl,rfl,hnb⟩:=HQ.sc.shape;go_enter func107,ntmps107;go_upto_region 1 with fail;refine zn (λW=>CqI N qb cb base c (xE xe c cpe) (xP nb) lv W/\xB w W/\xH W w.heap.size #[.string s,xI a] 117) ⟨HQ.keep (zq w _),zq w _,zc w _⟩ ?_;rintro W ⟨HQW,HB,hX⟩;obtain⟨m0,m1,m2,m3,m4,mf,mz⟩:=zcf HQW.blk;obtain⟨s0,s1,sf,sz⟩:=zp hX;have HIx:=za (zaz s a W.drew (HQW.sc.old (λ_ _=>rfl)) HQW.hN)
 go_region_held3 (λw'=>w'.cell? (xD qb 0)=some (xE xe c cpe)/\w'.cell? (xD qb 1)=some (xP nb)/\w'.cell? (xD w.heap.size 0)=some (.string s)/\w'.cell? (xD w.heap.size 1)=some (xI a))
  (first|(with_reducible (refine⟨?_,?_,?_,?_⟩ <;> repeat (first|assumption|refine zg ?_|refine zj _ ?_|refine zk (by omega) ?_|refine zd HB1.o ?_ (by first|omega|(rw[zsb];omega)))))|go_keep)
  (first
    | (go_at_call 161;refine HS.o.mono ?_;rintro e w2 ⟨rfl,rfl⟩)
    | (go_at_call 105;refine HIx.o.mono ?_;rintro e w1 ⟨rfl,hB1⟩;have HB1:=za (zw hB1);have HS:=za (zeI (c.idx s) w1 (HQW.keep HB1.o) hb hi)))
 go_wp2_with fail;go_ret;exact⟨rfl,HB.trans (HB1.o.mono HB.size)⟩
mutual
def zav:Tm->Int
 | .mk k _ _ _ n ts=>if k=0 then (n:Int) else if k=10 then wrap64 (-(zhD ts)) else if k=1 then 1 else 0
def zhD:List Tm->Int
 | []=>0
 | t::_=>zav t
end
theorem zdp:∀(t:Tm),Wf t->∀(v:Value) (w:World),TT w N t v ->
 xK 196 #[v] w (λe w'=>e=.returned (xI (zav t))/\w=w'):=by
 intro t;induction t using Tm.ind with
 | h kk a nm n p ts ih =>
   intro hW v w h;obtain⟨b,args,vs,rfl,hb,hblk,hown,hlen,hsub,hgs⟩:=h.ptr;obtain⟨m0,m1,m2,m3,m4,m5,mf,mz⟩:=zt hblk;by_cases h0:kk=0
   . have HE:Hid (zav (.mk kk a nm n p ts)=(p:Int)):=(by unfold Hid zav;rw[if_pos h0]);have m0':w.cell? (xD b 0)=some (xI 0):=(by rw[m0];show some (xI ((kk:Nat):Int))=_;rw[h0];rfl);have m4':xC w b 4 (xI (p:Int)):=m4;clear h hblk hown hlen hsub hgs ih hW h0 m0 m1 m2 m3 m4 m5;go_enter func196,ntmps196;go_wp2_with fail;go_ret;rw[HE.o];exact⟨rfl,rfl⟩
   . by_cases h10:kk=10
     . subst h10;have har:=hW.ar;obtain⟨u,us,hu⟩:∃u us,ts=u::us:=by
        cases ts with
        | nil=>simp[Tm.k,Tm.ts,arB] at har
        | cons u us=>exact⟨u,us,rfl⟩
       subst hu;obtain⟨x,cp,rfl⟩:=zB hown;obtain⟨y,hy⟩:∃y,vs[0]?=some y:=⟨_,zsc (by rw[hlen];simp[Tm.ts])⟩;obtain⟨g',rfl,hcell⟩:=zbE hown hy;have hTu:=hsub 0 u y rfl hy;obtain⟨bu,_,_,rfl,_⟩:=hTu.ptr;have HC:=za (ih u (List.mem_cons_self ..) (hW.sub (List.mem_cons_self ..)) _ w hTu);have HE:Hid (zav (.mk 10 a nm n p (u::us))=wrap64 (-(zav u))):=(by unfold Hid;rw[zav,if_neg (by omega),if_pos rfl,zhD]);have m0':xC w b 0 (xI 10):=m0;have hvl:(0:Int)<(vs.length:Int):=(by rw[hlen];simp[Tm.ts]);clear h hblk hown hlen hsub hgs ih hW h0 m0 m1 m2 m3 m4 hTu hy har;go_enter func196,ntmps196;go_wp2_with (go_at_call 196;refine HC.o.mono ?_;rintro e w1 ⟨rfl,rfl⟩);go_ret;rw[HE.o];exact⟨rfl,rfl⟩
     . by_cases h1:kk=1
       . have HE:Hid (zav (.mk kk a nm n p ts)=1):=(by unfold Hid zav;rw[if_neg h0,if_neg h10,if_pos h1]);have m0':w.cell? (xD b 0)=some (xI 1):=(by rw[m0];show some (xI ((kk:Nat):Int))=_;rw[h1];rfl);clear h hblk hown hlen hsub hgs ih hW h0 h1 h10 m0 m1 m2 m3 m4 m5;go_enter func196,ntmps196;go_wp2_with fail;go_ret;rw[HE.o];exact⟨rfl,rfl⟩
       . have HE:Hid (zav (.mk kk a nm n p ts)=0):=(by unfold Hid zav;rw[if_neg h0,if_neg h10,if_neg h1]);have m0':xC w b 0 (xI (kk:Int)):=m0;have g0:¬(kk:Int)=0:=(by omega);have g1:¬(kk:Int)=1:=(by omega);have g10:¬(kk:Int)=10:=(by omega);clear h hblk hown hlen hsub hgs ih hW h0 h1 h10 m0 m1 m2 m3 m4 m5;go_enter func196,ntmps196;go_wp2_with fail;go_ret;rw[HE.o];exact⟨rfl,rfl⟩
end
end Go.Proofs.YtbicmofihhjgbaaGreatDoor
