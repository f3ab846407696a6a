/- Part 30 of the proof: TreX ChkA ChkB ChkC. -/
import Derived.LaidEqlPtr
import Derived.Test.YtmfkofhgdjechaaGreatDoorK28
set_option maxRecDepth 100000
set_option maxHeartbeats 8000000
namespace Go.Proofs.YtmfkofhgdjechaaGreatDoor
open Go.Proofs.Tryz
open Go.RowKit
section
variable {caps:Array Value} {F:FuncId} {N:Nat} {T:Nat->Prop} {n:Nod} {q:Qn} {Pt:Tm->Prop} {rv:Value} {w:World}
attribute [local go_sem ↓] Go.wp_at_zero Go.wp_at_succ
structure EqV (w:World) (N:Nat) (q:Qn) (lv rv:Value):Prop where
 own:w.ownsRow 0 144 2 lv q.ns.length (nmC q.ns q.ps)
 lo:∀g,lv.ownBlock=some g->g<N
 tt:TT w N q.r rv
theorem EqV.old {w':World}{lv:Value}(h:EqV w N q lv rv)(ho:Old N w w'):EqV w' N q lv rv :=
 ⟨zi h.own (λg _ _ e=>ho g (h.lo g e)),h.lo,h.tt.old ho⟩
theorem zcU.at:∀{qs:List Qn} {xs:List Value},zcU w N qs xs->∀{k:Nat} {q:Qn},qs[k]?=some q->∃lv rv,xs[k*3]?=some lv/\xs[k*3+1]?=some (xI q.a)/\xs[k*3+2]?=some rv/\EqV w N q lv rv:=by
 intro qs;induction qs with
 | nil=>intro xs _ k q h;simp at h
 | cons q0 qs ih =>
   rintro xs ⟨lv,v,ys,rfl,h2,h3,h4,h5⟩ k q hq;cases k with
   | zero=>simp at hq;subst hq;exact⟨lv,v,rfl,rfl,rfl,h2,h3,h4⟩
   | succ k =>
     obtain⟨lv',rv',e1,e2,e3,e4⟩:=ih h5 (by simpa using hq);refine⟨lv',rv',?_,?_,?_,e4⟩
     . rw[show (k+1)*3=k*3+1+1+1 by omega];simpa using e1
     . rw[show (k+1)*3+1=k*3+1+1+1+1 by omega];simpa using e2
     . rw[show (k+1)*3+2=k*3+2+1+1+1 by omega];simpa using e3
theorem zcd {n cp:Nat}{a:Option Addr}{qs:List Qn}{xs:List Value}(h:w.ownsRow 0 161 3 (.slice a n cp) n xs)(hE:zcU w N qs xs){k:Nat}(hk:qs[k]?=some q)(hn:n=qs.length) :
 ∃g lv rv,a=some (xD g 0)/\w.cell? (xD g (k*3))=some lv/\w.cell? (xD g (k*3+1))=some (xI q.a)/\w.cell? (xD g (k*3+2))=some rv/\EqV w N q lv rv:=by
 have hk':=(List.getElem?_eq_some_iff.1 hk).1;obtain⟨g,cap,hv,_⟩:=zM h (by omega);cases hv;obtain⟨lv,rv,e1,e2,e3,e4⟩:=hE.at hk;have hc:=h.cells (g:=g) rfl;have e0:∀j,((xD g 0):Addr).add j=⟨g,j,none⟩:=λj=>by cases j <;> simp[Addr.add]
 refine⟨g,lv,rv,rfl,?_,?_,?_,e4⟩
 . have:=hc _ _ e1;rwa [e0] at this
 . have:=hc _ _ e2;rwa [e0] at this
 . have:=hc _ _ e3;rwa [e0] at this
def zfa (q:Qn)(rv:Value)(t:Tm)(v:Value):Prop:=(t=q.r/\v=rv)∨szT t<szT q.r
theorem zfa.sub {t:Tm}{v:Value}(h:zfa q rv t v){u:Tm}(x:Value)(hu:u∈t.ts):zfa q rv u x:=by
 have h1:szT u<szT t:=by
  cases t with
  | mk k a s nm n ts=>have:=zkw hu;simp only[szT];simp only[Tm.ts] at this;omega
 right;rcases h with ⟨rfl,_⟩|h
 . exact h1
 . omega
structure zjB {σ:Type} (N:Nat) (T:Nat->Prop) (F:FuncId) (caps:Array Value) (Pt:Tm->Prop) (n:Nod) (step:σ->Qn->Tm->σ) (I:σ->World->Prop):Prop where
 enters:zH F
 hT:∀k,T k->N<=k
 keep:∀s w w',I s w->xB w w'->I s w'
 sub:∀t u,Pt t->u∈t.ts->Pt u
 root:∀q∈n.eqs,Pt q.r
 call:∀q lv rv t v s w,q∈n.eqs->EqV w N q lv rv->TT w N t v->zfa q rv t v->N<=w.heap.size->I s w->Pt t->xK F (#[.agg #[lv,xI q.a,rv],v]++caps) w (λe w'=>e=.returned (.bool true)/\I (step s q t) w'/\Fr T w w')
theorem zox:zH 174:=λ_ _=>by kernel_rfl
theorem zmv {σ:Type}{step:σ->Qn->Tm->σ}{I:σ->World->Prop}(HV:zjB N T F caps Pt n step I)(q:Qn)(hq:q∈n.eqs)(lv rv:Value)(b1 b2:Nat)(hb1:¬T b1)(hb2:¬T b2)(hMN:N<=b1) :
 Vis N T 174 #[xP b1,xP b2] (λt v=>Pt t/\zfa q rv t v) za5 (λs t=>step s q t) (λs w=>I s w/\xH w b1 #[.func (.func F) #[] caps] 219/\xH w b2 #[lv,xI q.a,rv] 161/\EqV w N q lv rv) where
 enters:=zox
 hT:=HV.hT
 keep:=λs w w' h hB=>⟨HV.keep s w w' h.1 hB,(hB.block _ (ze h.2.1)).trans h.2.1,(hB.block _ (ze h.2.2.1)).trans h.2.2.1,h.2.2.2.old (zm hB (by have:=ze h.2.1;omega))⟩
 sub:=λt v u x h hu=>⟨HV.sub t u h.1 hu,h.2.sub x hu⟩
 call:=by
  intro t v s w hT hN hI hP;obtain⟨hI0,HX1,HX2,HE⟩:=hI;obtain⟨p0,pf,pz⟩:=zu HX1;obtain⟨q0,q1,q2,qf,qz⟩:=zL HX2;have HC:=HV.call q lv rv t v s w hq HE hT hP.2 hN hI0 hP.1;have hcf:∀(args:Array Value) (w:World),(callFunc F args).run prog w=.ok (.enter F args) w:=HV.enters;have h21:=pz;clear hI0 hP hT
  show Calls prog _ #[v,xP b1,xP b2] w _;go_enter func174,ntmps174;go_wp2_with fail;with_reducible refine HC.mono ?_
  rintro e w1 ⟨rfl,HI1,HF1⟩;go_wp2_with fail;go_ret;exact⟨rfl,⟨HI1,(HF1.block _ pz hb1).trans HX1,(HF1.block _ qz hb2).trans HX2,HE.old (HF1.old hN HV.hT)⟩,HF1⟩
theorem zfN {σ:Type}{step:σ->Qn->Tm->σ}{I:σ->World->Prop}(HV:zjB N T F caps Pt n step I)(nb:Nat)(vs ev:Value)(xs:List Value)(s:σ)(w:World)(HN:NT w N n nb vs ev xs)(hN:N<=w.heap.size)(HTw:∀k,T k->k<w.heap.size)(hI:I s w) :
 xK 104 #[xP nb,.func (.func F) #[] caps] w (λe w'=>e=.returned (.tuple #[])/\I (n.eqs.foldl (λs q=>(zaV za5 q.r).foldl (λs t=>step s q t) s) s) w'/\Fr T w w'):=by
 obtain⟨h0,h1,h2,h3,h4,h5,hf,hz⟩:=zt HN.blk;obtain⟨x,cp,rfl⟩:=zB HN.own;have HI1:=HV.keep s w (w.alloc (.cells #[.func (.func F) #[] caps] 219)) hI (zq w _);have h16:n.eqs.length<=9223372036854775807:=by
  rcases HN.own.2 with ⟨_,HN⟩|⟨g,cap,cur,hv,_,_,h3,h4,_⟩
  . omega
  . unfold maxLen at h4;omega
 have hnz:=HN.lo;clear hI;go_enter func104,ntmps104;go_wp2_with fail;go_loopg [11] (n.eqs.length+1) (λj i wr=>∃k:Nat,k+j=n.eqs.length+1/\k<=n.eqs.length/\i=xI k/\(I ((n.eqs.take k).foldl (λs q=>(zaV za5 q.r).foldl (λs t=>step s q t) s) s) wr)/\(xH wr w.heap.size #[.func (.func F) #[] caps] 219)/\(Fr T w wr));case atStart=>exact⟨0,by omega,Nat.zero_le _,rfl,HI1,zc w _,(Fr.refl T w).alloc _⟩
 case round =>
  obtain⟨k,hkj,hk,rfl,HIk,HBk,HFk⟩:=hrel;have hOk:Old N w wr:=HFk.old hN HV.hT;have hzk:=HFk.size;have hzk2:=ze HBk;by_cases hlt:k<n.eqs.length
  . obtain⟨q,HQ⟩:∃q,n.eqs[k]?=some q:=⟨_,zsc hlt⟩;have hN2:=HN.old hOk;obtain⟨g,lv,rv,rfl,c0,c1,c2,hE⟩:=zcd hN2.own hN2.eqs HQ rfl;obtain⟨bb,_,_,rfl,_⟩:=hE.tt.ptr;obtain⟨xl,cl,rfl⟩:=zB hE.own;have hVis:=zmv HV q (List.mem_of_getElem? HQ) (.slice xl q.ns.length cl) (xP bb) w.heap.size wr.heap.size (λe=>by have:=HTw _ e;omega) (λe=>by have:=HTw _ e;omega) (by omega);have hold1:Old N wr (wr.alloc (.cells #[.slice xl q.ns.length cl,xI q.a,xP bb] 161)):=λk hk=>Below.heap_alloc _ _ _ (by omega);have HW:=ziV hVis q.r (xP bb) _ (wr.alloc (.cells #[.slice xl q.ns.length cl,xI q.a,xP bb] 161)) (hE.tt.old hold1) (by rw[zsb];omega) ⟨HV.keep _ _ _ HIk (zq wr _),(Below.heap_alloc _ _ _ hzk2).trans HBk,zc wr _,hE.old hold1⟩ ⟨HV.root q (List.mem_of_getElem? HQ),Or.inl ⟨rfl,rfl⟩⟩;clear hN2 hE hVis hold1 hOk;go_wp2_with (go_at_call 173;refine HW.mono ?_;rintro e w2 ⟨rfl,HI2,hF2⟩;have HF2:=(((HFk.alloc _).trans hF2));clear hF2);go_roundg (gk-1);case measure=>omega
    refine⟨k+1,by omega,by omega,by go_num,?_,HI2.2.1,HF2⟩;obtain⟨e1,e2⟩:=List.getElem?_eq_some_iff.1 HQ;rw[List.take_succ_eq_append_getElem e1,e2,List.foldl_append];exact HI2.1
  . have ek:k=n.eqs.length:=by omega
    subst ek;rw[List.take_length] at HIk;go_wp2_with fail;first|go_end0|refine bodyPost_ret (results_none rfl _ _ _) rfl ?_
    exact⟨rfl,HIk,HFk⟩
end
section
variable {bb kd lb sb:Nat} {S:Nat->Addr} {st:Option Nat} {askv nmv:Value} {w:World}
attribute [local go_sem ↓] Go.wp_at_zero Go.wp_at_succ
def zbp (S:Nat->Addr)(kd:Nat):Option Nat->Value
 | none=>.nilIface
 | some p=>.iface 58 (.agg #[sen S kd,xI p])
structure RpI (S:Nat->Addr) (kd lb bb sb:Nat) (nmv askv:Value) (st:Option Nat) (w:World):Prop where
 l:w.heap[lb]?=some (.cells #[zbp S kd st] 42 (0,0))
 b:w.heap[bb]?=some (.cells #[xI (st.getD 0:Nat)] 3 (0,0))
 s:w.heap[sb]?=some (.cells #[nmv,sen S kd,askv] 117 (0,0))
 n1:lb≠bb
 n2:lb≠sb
 n3:bb≠sb
def RT (lb bb:Nat)(k:Nat):Prop:=k=lb∨k=bb
def zam (lb bb sb:Nat):Value:=.func (.func 124) #[] #[xP lb,xP bb,xP sb]
theorem RpI.keep {w':World}(h:RpI S kd lb bb sb nmv askv st w)(hB:xB w w'):RpI S kd lb bb sb nmv askv st w' :=
 ⟨(hB.block _ (ze h.l)).trans h.l,(hB.block _ (ze h.b)).trans h.b,(hB.block _ (ze h.s)).trans h.s,h.n1,h.n2,h.n3⟩
theorem zhY {b:Nat}{e:TypeId}{v0:Value}(h:xH w b #[v0] e)(v:Value):xH (w.setCell (xD b 0) v) b #[v] e:=zh _ _ _ _ h
theorem zkD {w1:World}(h:RpI S kd lb bb sb nmv askv st w)(hB:xB w w1)(p:Nat) :
 RpI S kd lb bb sb nmv askv (some p) ((w1.setCell (xD lb 0) (zbp S kd (some p))).setCell (xD bb 0) (xI p))/\Fr (RT lb bb) w ((w1.setCell (xD lb 0) (zbp S kd (some p))).setCell (xD bb 0) (xI p)):=by
 have h1:=h.keep hB;refine⟨⟨(zr h.n1 rfl).trans (zhY h1.l _),zhY ((zr (λe=>h.n1 e.symm) rfl).trans h1.b) _,(zr (λe=>h.n3 e.symm) rfl).trans ((zr (λe=>h.n2 e.symm) rfl).trans h1.s),h.n1,h.n2,h.n3⟩,?_⟩;have hf:Fr (RT lb bb) w w1:=Fr.of_below hB;exact (hf.setCell (Or.inl (Or.inl rfl)) _).setCell (Or.inl (Or.inr rfl)) _
theorem zaa (S:Nat->Addr)(kd lb bb sb:Nat)(nmv askv:Value)(st:Option Nat)(p:Nat)(w:World)(H:RpI S kd lb bb sb nmv askv st w) :
 xK 124 #[xI p,xP lb,xP bb,xP sb] w (λe w'=>e=.returned (.tuple #[])/\RpI S kd lb bb sb nmv askv (rep st p) w'/\Fr (RT lb bb) w w'):=by
 obtain⟨l0,lf,lz⟩:=zu H.l;obtain⟨b0,bf,bz⟩:=zu H.b;obtain⟨s0,s1,s2,sf,sz⟩:=zL H.s;have n1:¬lb=bb:=H.n1;have n1':¬bb=lb:=λe=>H.n1 e.symm;unfold sen at s1;cases st with
 | none => have e0:rep none p=some p:=rfl;rw[e0];unfold zbp at l0;go_enter func124,ntmps124;go_wp2_with (go_at_call 31;refine (zi3 S kd p _).mono ?_;rintro e w1 ⟨rfl,HB⟩;have hK:=H.keep HB;obtain⟨l1,lf1,lz1⟩:=zu hK.l;obtain⟨b1,bf1,bz1⟩:=zu hK.b;clear hK);go_end0;obtain⟨k1,k2⟩:=zkD H HB p;exact⟨rfl,k1,k2⟩
 | some b =>
   unfold zbp at l0;have b0':xC w bb 0 (xI (b:Nat)):=b0;clear b0;by_cases hlt:p<b
   . have e0:rep (some b) p=some p:=(by show (if p<b then some p else some b)=_;rw[if_pos hlt]);rw[e0];go_enter func124,ntmps124;go_wp2_with (go_at_call 31;refine (zi3 S kd p _).mono ?_;rintro e w1 ⟨rfl,HB⟩;have hK:=H.keep HB;obtain⟨l1,lf1,lz1⟩:=zu hK.l;obtain⟨b1,bf1,bz1⟩:=zu hK.b;clear hK);go_end0;obtain⟨k1,k2⟩:=zkD H HB p;exact⟨rfl,k1,k2⟩
   . have e0:rep (some b) p=some b:=(by show (if p<b then some p else some b)=_;rw[if_neg hlt]);rw[e0];go_enter func124,ntmps124;go_wp2_with fail;go_end0;exact⟨rfl,H,Fr.refl _ w⟩
theorem zf2 {N:Nat}{t:Tm}{v:Value}(w:World)(h:TT w N t v) :
 xK 106 #[v] w (λe w'=>e=.returned (.bool (zaJ t.k))/\w=w'):=by
 obtain⟨b,args,vs,rfl,hb,hblk,_⟩:=h.ptr;obtain⟨h0,h1,h2,h3,h4,h5,hf,hz⟩:=zt hblk;clear h;have hc:t.k=3∨t.k=7∨t.k=8∨t.k=6∨(t.k≠3/\t.k≠7/\t.k≠8/\t.k≠6):=by omega
 generalize t.k=k at *;rcases hc with rfl|rfl|rfl|rfl|⟨c1,c2,c3,c4⟩
 . go_enter func106,ntmps106;go_wp2_with fail;go_ret;exact⟨rfl,rfl⟩
 . go_enter func106,ntmps106;go_wp2_with fail;go_ret;exact⟨rfl,rfl⟩
 . go_enter func106,ntmps106;go_wp2_with fail;go_ret;exact⟨rfl,rfl⟩
 . go_enter func106,ntmps106;go_wp2_with fail;go_ret;exact⟨rfl,rfl⟩
 . have d1:((k:Int)==3)=false:=by simp;omega
   have d2:((k:Int)==7)=false:=(by simp;omega);have d3:((k:Int)==8)=false:=(by simp;omega);have d4:((k:Int)==6)=false:=(by simp;omega);have HK:Hid (zaJ k=false):=(by unfold Hid zaJ;simp[c1,c2,c3,c4]);clear c1 c2 c3 c4;go_enter func106,ntmps106;go_wp2_with fail;go_ret;exact⟨by rw[HK.o];rfl,rfl⟩
end
section
variable {N:Nat} {t:Tm} {v:Value} {w:World}
attribute [local go_sem ↓] Go.wp_at_zero Go.wp_at_succ
theorem zI {B:Nat}{a:World}(h:Below B a w)(n:Nat):Below B a (w.drewN n):=⟨h.os,h.tape,h.output,h.size,h.block⟩
theorem Tryz.sizeEx:(prog.info? 216).map (·.size)=some 6:=by kernel_rfl
theorem zoG (b:Nat)(w:World):(binOp .eql 159 (xP b) (xP b)).run prog w=.ok (.bool true) w:=by
 cases h:prog.info? 216 with
 | none=>have:=Tryz.sizeEx;rw[h] at this;cases this
 | some j=>exact run_eql_ptr_same w _ underlying159 h
theorem zmX {b b2:Nat}{c1 c2:Array Value}{t1 t2:TypeId}(hne:b≠b2)(h1:xH w b c1 t1)(h2:xH w b2 c2 t2):(binOp .eql 159 (xP b) (xP b2)).run prog w=.ok (.bool false) w:=by
 have hs:=Tryz.sizeEx;cases h:prog.info? 216 with
 | none=>rw[h] at hs;cases hs
 | some j =>
   rw[h] at hs;have:j.size=6:=by simpa using hs
   exact run_eql_ptr_other w underlying159 h (by omega) (by intro e;cases e;exact hne rfl) h1 h2
theorem znj {q:Qn}{lv rv:Value}(w:World)(hE:EqV w N q lv rv)(hT:TT w N t v)(hW:zfa q rv t v) :
 xK 108 #[.agg #[lv,xI q.a,rv],v] w (λe w'=>e=.returned (xI (zda q t:Nat))/\xB w w'):=by
 obtain⟨b,_,_,rfl,_,hb,_⟩:=hT.ptr;obtain⟨b2,_,_,rfl,_,hb2,_⟩:=hE.tt.ptr;obtain⟨x,cp,rfl⟩:=zB hE.own;by_cases hv:b=b2
 . subst hv;have e:=hT.det hE.tt;have HU:Hid (zda q t=q.ns.length):=by unfold Hid zda;rw[e,if_pos rfl]
   have hq:=zoG b;go_enter func108,ntmps108;go_wp2_with fail;go_ret;exact⟨by rw[HU.o];rfl,zq _ _⟩
 . have HU:Hid (zda q t=1):=by
    unfold Hid zda;rcases hW with ⟨_,e⟩|h
    . cases e;exact absurd rfl hv
    . rw[if_neg (by omega)]
   have hq:=λo=>zmX (w:=w.alloc o) hv ((Below.heap_alloc _ _ _ (ze hb)).trans hb) ((Below.heap_alloc _ _ _ (ze hb2)).trans hb2);go_enter func108,ntmps108;go_wp2_with fail;go_ret;exact⟨by rw[HU.o];rfl,zq _ _⟩
theorem znK {c:Sc}{ev nv:Value}(u:Nat)(w:World)(HSc:ScV w N c ev nv)(hN:N<=w.heap.size)(h6:c.er.length<=6)(hT:TT w N t v) :
 xK 107 #[.agg #[ev,nv],v,xI u] w (λe w'=>e=.returned (.bool (c.fits t u))/\xB w w'):=by
 obtain⟨b,args,vs,rfl,hb,HBk,hown,hlen,_⟩:=hT.ptr;obtain⟨xa,cpa,rfl⟩:=zB hown;obtain⟨xe,cpe,nb,rfl,rfl,_⟩:=HSc.shape;have ec:Hid (c.fits t u=match c.called t.s with|none=>false|some d=>d.nd.ins==t.ts.length&&d.nd.outs==u):=rfl;have hlen':vs.length=t.ts.length:=hlen;have hbz:=ze HBk;rw[hlen'] at HBk;go_enter func107,ntmps107;go_upto_region 1 with fail;refine zn (λW=>(xH W w.heap.size #[xE xe c cpe,xP nb] 205)/\xB w W) ⟨zc w _,zq w _⟩ ?_;rintro W ⟨Hs,HB⟩;obtain⟨s0,s1,sf,sz⟩:=zp Hs;obtain⟨h0,h1,h2,h3,h4,h5,hf,hz⟩:=zt ((HB.block b hbz).trans HBk);have hO:=zm HB hN;have hNW:N<=W.heap.size:=by omega
 have hS1:=HSc.old (w':=W.drew) hO;have hS2:=λo=>HSc.old (w':=(W.alloc o).drew) (hO.trans (λk hk=>Below.heap_alloc _ _ _ (by omega)));cases hcal:c.called t.s with
 | none =>
   rw[hcal] at ec;have HC1:=za (zc4 t.s (t.nm:Int) W.drew hS1 hNW h6 hcal);have HC2:=za (λo=>zc4 t.s (t.nm:Int) (W.alloc o).drew (hS2 o) (by show N<=(W.alloc o).heap.size;simp;omega) h6 hcal)
   go_region_held3 (λw'=>w'.cell? (xD w.heap.size 0)=some (xE xe c cpe)/\w'.cell? (xD w.heap.size 1)=some (xP nb)/\w'.cell? (xD b 2)=some (.string t.s)/\w'.cell? (xD b 3)=some (xI t.nm))
    (first|(with_reducible (refine⟨?_,?_,?_,?_⟩ <;> repeat (first|assumption|refine zg ?_|refine zj _ ?_|refine zk (by omega) ?_|refine zd HB1.o ?_ (by first|omega|(rw[zsb];omega)))))|go_keep)
    (first
      | (go_at_call 100;refine HC1.o.mono ?_;rintro e w1 ⟨rfl,hB1⟩;have HB1:=za (zw hB1))
      | (go_at_call 100;refine (HC2.o _).mono ?_;rintro e w1 ⟨rfl,hB1⟩;have HB1:=za (zw hB1);obtain⟨y0,y1,yf,yz⟩:=zp ((HB1.o.block W.heap.size (by rw[zsb];omega)).trans (zc W _))))
   . go_wp2_with fail;go_quiet (fail);go_wp2_with fail;go_ret;exact⟨by rw[ec.out];rfl,zI ((HB.trans (HB1.o.mono (by omega))).alloc (by have:=HB1.o.size;omega) _) _⟩
   . go_wp2_with fail;go_quiet (fail);go_wp2_with fail;go_ret;exact⟨by rw[ec.out];rfl,zI (zC (zC (HB.trans ((zE HB1.o).mono (by omega))) (by omega) _) (by omega) _) _⟩
 | some d =>
   rw[hcal] at ec;have HC1:=za (zah t.s (t.nm:Int) W.drew hS1 hNW h6 hcal);have HC2:=za (λo=>zah t.s (t.nm:Int) (W.alloc o).drew (hS2 o) (by show N<=(W.alloc o).heap.size;simp;omega) h6 hcal)
   go_region_held3 (λw'=>w'.cell? (xD w.heap.size 0)=some (xE xe c cpe)/\w'.cell? (xD w.heap.size 1)=some (xP nb)/\w'.cell? (xD b 2)=some (.string t.s)/\w'.cell? (xD b 3)=some (xI t.nm))
    (first|(with_reducible (refine⟨?_,?_,?_,?_⟩ <;> repeat (first|assumption|refine zg ?_|refine zj _ ?_|refine zk (by omega) ?_|refine zd HB1.o ?_ (by first|omega|(rw[zsb];omega)))))|go_keep)
    (first
      | (go_at_call 100;refine HC1.o.mono ?_;rintro e w1 ⟨x2,cp2,n2,rfl,hsc,hB1⟩;have HB1:=za (zw hB1);have HS2:=za hsc)
      | (go_at_call 100;refine (HC2.o _).mono ?_;rintro e w1 ⟨x2,cp2,n2,rfl,hsc,hB1⟩;have HB1:=za (zw hB1);have HS2:=za hsc;obtain⟨y0,y1,yf,yz⟩:=zp ((HB1.o.block W.heap.size (by rw[zsb];omega)).trans (zc W _))))
   . go_wp2_with fail;obtain⟨nn,vs2,qv2,xs2,e9,hnt⟩:=HS2.o.nd;cases e9;obtain⟨m0,m1,m2,m3,m4,m5,mf,mz⟩:=zt hnt.blk;have hn2:=hnt.lo;have hz1:=HB1.o.size;try rw[zsb] at hz1
     refine zn (λW2=>(W2.cell? (xD w1.heap.size 1)=some (xP n2)/\W2.cell? (xD n2 3)=some (xI d.nd.ins)/\W2.cell? (xD n2 4)=some (xI d.nd.outs)/\W2.cell? (xD b 5)=some (.slice xa t.ts.length cpa))/\xB w W2) ⟨⟨?_,?_,?_,?_⟩,((HB.trans (HB1.o.mono (by omega))).alloc (by omega) _)⟩ ?_
     . first|(simp;done)|exact za0 (zce y1)
     . repeat (first|with_reducible exact m3|with_reducible refine zj _ ?_|with_reducible refine zk (by omega) ?_)
     . repeat (first|with_reducible exact m4|with_reducible refine zj _ ?_|with_reducible refine zk (by omega) ?_)
     . repeat (first|with_reducible exact h5|with_reducible refine zj _ ?_|with_reducible refine zk (by omega) ?_|with_reducible refine zd HB1.o ?_ (by first|omega|(rw[zsb];omega)))
     rintro W2 ⟨⟨g0,g1,g2,g3⟩,HB2⟩;have HE:Hid (c.fits t u=(d.nd.ins==t.ts.length&&d.nd.outs==u)):=ec.out;by_cases hi:d.nd.ins=t.ts.length
     . have hi':((d.nd.ins:Int)==(t.ts.length:Int))=true:=(by simp[hi]);by_cases ho:d.nd.outs=u
       . have ho':((d.nd.outs:Int)==(u:Int))=true:=(by simp[ho]);have HE2:Hid (c.fits t u=true):=(by unfold Hid;rw[HE.o];simp[hi,ho]);go_quiet (fail);go_wp2_with fail;go_ret;exact⟨by rw[HE2.o];rfl,zI HB2 _⟩
       . have ho':((d.nd.outs:Int)==(u:Int))=false:=(by simp;omega);have HE2:Hid (c.fits t u=false):=(by unfold Hid;rw[HE.o];simp[ho]);go_quiet (fail);go_wp2_with fail;go_ret;exact⟨by rw[HE2.o];rfl,zI HB2 _⟩
     . have hi':((d.nd.ins:Int)==(t.ts.length:Int))=false:=(by simp;omega);have HE2:Hid (c.fits t u=false):=(by unfold Hid;rw[HE.o];simp[hi]);go_quiet (fail);go_wp2_with fail;go_ret;exact⟨by rw[HE2.o];rfl,zI HB2 _⟩
   . go_wp2_with fail;obtain⟨nn,vs2,qv2,xs2,e9,hnt⟩:=HS2.o.nd;cases e9;obtain⟨m0,m1,m2,m3,m4,m5,mf,mz⟩:=zt hnt.blk;have hn2:=hnt.lo;have hz1:=HB1.o.size;try rw[zsb] at hz1
     refine zn (λW2=>(W2.cell? (xD W.heap.size 1)=some (xP n2)/\W2.cell? (xD n2 3)=some (xI d.nd.ins)/\W2.cell? (xD n2 4)=some (xI d.nd.outs)/\W2.cell? (xD b 5)=some (.slice xa t.ts.length cpa))/\xB w W2) ⟨⟨?_,?_,?_,?_⟩,(zC (zC (HB.trans ((zE HB1.o).mono (by omega))) (by omega) _) (by omega) _)⟩ ?_
     . first|(simp;done)|exact za0 (zce y1)
     . repeat (first|with_reducible exact m3|with_reducible refine zj _ ?_|with_reducible refine zk (by omega) ?_)
     . repeat (first|with_reducible exact m4|with_reducible refine zj _ ?_|with_reducible refine zk (by omega) ?_)
     . repeat (first|with_reducible exact h5|with_reducible refine zj _ ?_|with_reducible refine zk (by omega) ?_|with_reducible refine zd HB1.o ?_ (by first|omega|(rw[zsb];omega)))
     rintro W2 ⟨⟨g0,g1,g2,g3⟩,HB2⟩;have HE:Hid (c.fits t u=(d.nd.ins==t.ts.length&&d.nd.outs==u)):=ec.out;by_cases hi:d.nd.ins=t.ts.length
     . have hi':((d.nd.ins:Int)==(t.ts.length:Int))=true:=(by simp[hi]);by_cases ho:d.nd.outs=u
       . have ho':((d.nd.outs:Int)==(u:Int))=true:=(by simp[ho]);have HE2:Hid (c.fits t u=true):=(by unfold Hid;rw[HE.o];simp[hi,ho]);go_quiet (fail);go_wp2_with fail;go_ret;exact⟨by rw[HE2.o];rfl,zI HB2 _⟩
       . have ho':((d.nd.outs:Int)==(u:Int))=false:=(by simp;omega);have HE2:Hid (c.fits t u=false):=(by unfold Hid;rw[HE.o];simp[ho]);go_quiet (fail);go_wp2_with fail;go_ret;exact⟨by rw[HE2.o];rfl,zI HB2 _⟩
     . have hi':((d.nd.ins:Int)==(t.ts.length:Int))=false:=(by simp;omega);have HE2:Hid (c.fits t u=false):=(by unfold Hid;rw[HE.o];simp[hi]);go_quiet (fail);go_wp2_with fail;go_ret;exact⟨by rw[HE2.o];rfl,zI HB2 _⟩
end
section
variable {xs:List Value} {N cp2 n2:Nat} {x2:Option Addr} {d:Sc} {e:TypeId} {ev:Value} {W w w1:World}
attribute [local go_sem ↓] Go.wp_at_zero Go.wp_at_succ
structure Got (w:World) (N:Nat) (d:Sc) (X n2:Nat) (x2:Option Addr) (cp2:Nat) (W:World):Prop where
 box:W.heap[X]?=some (.cells #[xE x2 d cp2,xP n2] 202 (0,0))
 sc:ScV W N d (xE x2 d cp2) (xP n2)
 bel:xB w W
theorem zow (hB:xB w W)(hB1:xB W w1)(hs:ScV w1 N d (xE x2 d cp2) (xP n2))(hN:N<=w.heap.size) :
 Got w N d w1.heap.size n2 x2 cp2 (w1.alloc (.cells #[xE x2 d cp2,xP n2] 202)):=by
 have h1:=hB.size;have h2:=hB1.size;exact⟨zc _ _,hs.old (zeW (by omega) _),(hB.trans (hB1.mono h1)).alloc (by omega) _⟩
theorem zos {u0 u1:Value}(hB:xB w W)(hB1:Below (W.alloc (.cells #[u0,u1] 202)).heap.size (W.alloc (.cells #[u0,u1] 202)) w1)(hs:ScV w1 N d (xE x2 d cp2) (xP n2))(hN:N<=w.heap.size) :
 Got w N d W.heap.size n2 x2 cp2 ((w1.setCell (xD W.heap.size 0) (xE x2 d cp2)).setCell (xD W.heap.size 1) (xP n2)):=by
 have h1:=hB.size;have hb:xH w1 W.heap.size #[u0,u1] 202:=(hB1.block _ (by rw[zsb];omega)).trans (zc W _);have h2:=zh (w1.setCell (xD W.heap.size 0) (xE x2 d cp2)) W.heap.size 1 (xP n2) (zh w1 W.heap.size 0 (xE x2 d cp2) hb);refine⟨h2,hs.old (λk hk=>?_),zC (zC (hB.trans ((zE hB1).mono h1)) h1 _) h1 _⟩;exact (zr (by omega) rfl).trans (zr (by omega) rfl)
theorem zx7 {a b:Value}:xH (w.alloc (.cells #[a,b] e)) w.heap.size #[a,b] e:=zc w _
theorem zbD {c:Sc}{nv:Value}(s:ByteArray)(a:Int)(w:World)(HSc:ScV w N c ev nv)(hN:N<=w.heap.size)(hh:c.has s=true) :
 xK 109 #[.agg #[ev,nv],.agg #[.string s,xI a]] w (λe w'=>e=.returned (xI (c.decl s:Nat))/\xB w w'):=by
 obtain⟨xe,cpe,nb,rfl,rfl,hnb⟩:=HSc.shape;obtain⟨nb',vs,qv,xs,e9,HN⟩:=HSc.nd;cases e9;obtain⟨i,hi⟩:∃i,c.nd.find s=some i:=Option.isSome_iff_exists.1 hh;have hlt:=(zgO hi).2.1;obtain⟨v,hv⟩:∃v,c.nd.vars[i]?=some v:=⟨_,zsc (by omega)⟩;have hidx:c.idx s=i:=by unfold Sc.idx;rw[hi];rfl
 have HE:Hid (c.decl s=tyV v):=by unfold Hid Sc.decl;rw[hidx,hv];rfl
 obtain⟨xv,cpv,rfl⟩:=zB HN.vown;obtain⟨g,rfl,c0,c1,c2,c3,c4,c5,c6⟩:=zaM HN.vown hv;have hfew:=HN.few;have hgN:=HN.vlo g rfl;have i1:(i:Int)<(c.nd.vars.length:Int):=by omega
 have i0:(0:Int)<=(i:Int):=by omega
 go_enter func109,ntmps109;go_upto_region 1 with fail;refine zn (λW=>(W.heap[w.heap.size]?=some (.cells #[xE xe c cpe,xP nb] 205 (0,0))/\W.heap[w.heap.size+1]?=some (.cells #[.string s,xI a] 144 (0,0)))/\xB w W) ⟨⟨(Below.heap_alloc _ _ _ (by simp)).trans (zc w _),by have:=zc (w.alloc (.cells #[xE xe c cpe,xP nb] 205)) (.cells #[.string s,xI a] 144);rwa [zsb] at this⟩,zaD w _ _⟩ ?_;rintro W ⟨⟨hs,hs2⟩,HB⟩;obtain⟨s0,s1,sf,sz⟩:=zp hs;obtain⟨r0,r1,rf,rz⟩:=zp hs2;obtain⟨m0,m1,m2,m3,m4,m5,mf,mz⟩:=zt ((HB.block nb (by omega)).trans HN.blk);have c2':=zd HB c2 (by omega);have hO:=zm HB hN;have HI:=za (zaz s a W.drew (HSc.old (w':=W.drew) hO) (by show N<=W.heap.size;omega));rw[hidx] at HI
 go_region_held3 (λw'=>w'.cell? (xD w.heap.size 0)=some (xE xe c cpe)/\w'.cell? (xD w.heap.size 1)=some (xP nb)/\w'.cell? (xD (w.heap.size+1) 0)=some (.string s)/\w'.cell? (xD (w.heap.size+1) 1)=some (xI a)/\w'.cell? (xD nb 2)=some (xS g c.nd.vars.length cpv)/\w'.cell? (xD g (i*7+2))=some (xI (zaK v:Nat)))
  (first|(with_reducible (refine⟨?_,?_,?_,?_,?_,?_⟩ <;> repeat (first|assumption|refine zg ?_|refine zj _ ?_|refine zk (by omega) ?_|refine zd HB1.o ?_ (by first|omega|(rw[zsb];omega)))))|go_keep)
  (first
    | (go_at_call 103;refine HI.o.mono ?_;rintro e w1 ⟨rfl,hB1⟩;have HB1:=za (zw hB1)))
 all_goals go_wp2_with fail
 all_goals go_ret
 all_goals exact⟨by rw[HE.o];rfl,HB.trans (HB1.o.mono (by omega))⟩
theorem znU {B g n cap size:Nat}(h:w.ownsRow B e size (xS g n cap) n xs):n<=cap/\cap<=9223372036854775807:=by
 rcases h.2 with ⟨h2,_⟩|⟨g',cap',cur,hv,hg,hh,h3,h4,h5,h6⟩
 . cases h2
 . cases hv;unfold maxLen at h4;exact⟨h3,by omega⟩
theorem zdM {n:Nod}{nb:Nat}{vs:Value}(w:World)(h:NT w N n nb vs ev xs)(hio:n.ins+n.outs<=n.vars.length)(hlt:n.ins<n.vars.length) :
 xK 76 #[xP nb] w (λe w'=>∃g cp,vs=xS g n.vars.length cp/\e=.returned (.slice (some (xD g (n.ins*7))) n.outs (cp-n.ins))/\xB w w'):=by
 obtain⟨g,cp,rfl,_⟩:=zM h.vown (by omega);obtain⟨h0,h1,h2,h3,h4,h5,hf,hz⟩:=zt h.blk;have hcap:=znU h.vown;have hfew:=h.few;have i0:(0:Int)<=(n.ins:Int):=by omega
 have i1:(n.ins:Int)<=(n.ins:Int)+(n.outs:Int):=by omega
 have i2:(n.ins:Int)+(n.outs:Int)<=(cp:Int):=by omega
 have i3:¬(n.ins=cp):=by omega
 have i4:¬((n.ins:Int)=(cp:Int)):=by omega
 have i5:¬(cp=n.ins):=by omega
 have i6:((n.ins:Int)+(n.outs:Int)).toNat=n.ins+n.outs:=by omega
 have i7:IntKind.i64.wrap ((n.ins:Int)+(n.outs:Int))=(n.ins:Int)+(n.outs:Int):=by rw[IntKind.wrap_i64];omega
 have i8:(0:Int)<=(n.ins:Int)+(n.outs:Int):=by omega
 go_enter func76,ntmps76;go_upto_region 1 with fail
 go_region_held3 (λw'=>w'.cell? (xD nb 2)=some (xS g n.vars.length cp)/\w'.cell? (xD nb 3)=some (xI n.ins)/\w'.cell? (xD nb 4)=some (xI n.outs))
  (first|(with_reducible (refine⟨?_,?_,?_⟩ <;> repeat (first|assumption|refine zg ?_|refine zj _ ?_|refine zk (by omega) ?_)))|go_keep) (fail)
 all_goals go_wp2_with fail
 all_goals go_ret
 all_goals exact⟨_,_,rfl,rfl,zo (Below.refl _ _)⟩
end
end Go.Proofs.YtmfkofhgdjechaaGreatDoor
