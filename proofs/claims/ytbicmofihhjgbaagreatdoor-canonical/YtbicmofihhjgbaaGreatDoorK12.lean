/- Part 13 of the proof. -/
import Derived.Test.YtbicmofihhjgbaaGreatDoorK11
set_option maxRecDepth 100000
set_option maxHeartbeats 8000000
namespace Go.Proofs.YtbicmofihhjgbaaGreatDoor
open Go.Proofs.Tryz
section
open Go.RowKit
variable {xs:Xm} {N cp2 n2:Nat} {x2:Xp} {d:Sc} {ev:Xv} {W w w1:Xw}
attribute [local go_sem ↓] Go.wp_at_zero Go.wp_at_succ
structure Got (w:Xw) (N:Nat) (d:Sc) (X n2:Nat) (x2:Xp) (cp2:Nat) (W:Xw):Prop where
 box:W.heap[X]?=some (.cells #[xE x2 d cp2,xP n2] 114 (0,0))
 sc:ScV W N d (xE x2 d cp2) (xP n2)
 bel:xB w W
theorem zow (hB:xB w W)(hB1:xB W w1)(hs:ScV w1 N d (xE x2 d cp2) (xP n2))(hN:N<=w.heap.size) :
 Got w N d w1.heap.size n2 x2 cp2 (w1.alloc (.cells #[xE x2 d cp2,xP n2] 114)):=by
 have h1:=hB.size;have h2:=hB1.size;exact⟨zc _ _,hs.old (zeW (by omega) _),(hB.trans (hB1.mono h1)).alloc (by omega) _⟩
theorem zos {u0 u1:Xv}(hB:xB w W)(hB1:Below (W.alloc (.cells #[u0,u1] 114)).heap.size (W.alloc (.cells #[u0,u1] 114)) w1)(hs:ScV w1 N d (xE x2 d cp2) (xP n2))(hN:N<=w.heap.size) :
 Got w N d W.heap.size n2 x2 cp2 ((w1.setCell (xD W.heap.size 0) (xE x2 d cp2)).setCell (xD W.heap.size 1) (xP n2)):=by
 have h1:=hB.size;have hb:xH w1 W.heap.size #[u0,u1] 114:=(hB1.block _ (by rw[zsb];omega)).trans (zc W _);have h2:=zh (w1.setCell (xD W.heap.size 0) (xE x2 d cp2)) W.heap.size 1 (xP n2) (zh w1 W.heap.size 0 (xE x2 d cp2) hb);refine⟨h2,hs.old (λk hk=>?_),zC (zC (hB.trans ((zE hB1).mono h1)) h1 _) h1 _⟩;exact (zr (by omega) rfl).trans (zr (by omega) rfl)
theorem zbD {c:Sc}{nv:Xv}(s:Xb)(a:Int)(w:Xw)(HSc:ScV w N c ev nv)(hN:N<=w.heap.size)(hh:c.has s=true) :
 xK 127 #[.agg #[ev,nv],.agg #[.string s,xI a]] w (λe w'=>e=.returned (xI (c.decl s:Nat))/\xB w w'):=by
 obtain⟨xe,cpe,nb,rfl,rfl,hnb⟩:=HSc.shape;obtain⟨nb',vs,qv,xs,e9,HN⟩:=HSc.nd;cases e9;obtain⟨i,hi⟩:∃i,c.nd.find s=some i:=Option.isSome_iff_exists.1 hh;have hlt:=(zgO hi).2.1;obtain⟨v,hv⟩:∃v,c.nd.vars[i]?=some v:=⟨_,zsc (by omega)⟩;have hidx:c.idx s=i:=by unfold Sc.idx;rw[hi];rfl
 have HE:Hid (c.decl s=tyV v):=by unfold Hid Sc.decl;rw[hidx,hv];rfl
 obtain⟨xv,cpv,rfl⟩:=zB HN.vown;obtain⟨g,rfl,c0,c1,c2,c3,c4,c5,c6⟩:=zaM HN.vown hv;have hfew:=HN.few;have hgN:=HN.vlo g rfl;have i1:(i:Int)<(c.nd.vars.length:Int):=by omega
 have i0:(0:Int)<=(i:Int):=by omega
 go_enter func127,ntmps127;go_upto_region 1 with fail;refine zn (λW=>(W.heap[w.heap.size]?=some (.cells #[xE xe c cpe,xP nb] 216 (0,0))/\W.heap[w.heap.size+1]?=some (.cells #[.string s,xI a] 117 (0,0)))/\xB w W) ⟨⟨(Below.heap_alloc _ _ _ (by simp)).trans (zc w _),by have:=zc (w.alloc (.cells #[xE xe c cpe,xP nb] 216)) (.cells #[.string s,xI a] 117);rwa [zsb] at this⟩,zaD w _ _⟩ ?_;rintro W ⟨⟨hs,hs2⟩,HB⟩;obtain⟨s0,s1,sf,sz⟩:=zp hs;obtain⟨r0,r1,rf,rz⟩:=zp hs2;obtain⟨m0,m1,m2,m3,m4,m5,mf,mz⟩:=zt ((HB.block nb (by omega)).trans HN.blk);have c2':=zd HB c2 (by omega);have hO:=zm HB hN;have HI:=za (zaz s a W.drew (HSc.old (w':=W.drew) hO) (by show N<=W.heap.size;omega));rw[hidx] at HI
 go_region_held3 (λw'=>w'.cell? (xD w.heap.size 0)=some (xE xe c cpe)/\w'.cell? (xD w.heap.size 1)=some (xP nb)/\w'.cell? (xD (w.heap.size+1) 0)=some (.string s)/\w'.cell? (xD (w.heap.size+1) 1)=some (xI a)/\w'.cell? (xD nb 2)=some (xS g c.nd.vars.length cpv)/\w'.cell? (xD g (i*7+2))=some (xI (zaK v:Nat)))
  (first|(with_reducible (refine⟨?_,?_,?_,?_,?_,?_⟩ <;> repeat (first|assumption|refine zg ?_|refine zj _ ?_|refine zk (by omega) ?_|refine zd HB1.o ?_ (by first|omega|(rw[zsb];omega)))))|go_keep)
  (first
    | (go_at_call 105;refine HI.o.mono ?_;rintro e w1 ⟨rfl,hB1⟩;have HB1:=za (zw hB1)))
 all_goals go_wp2_with fail
 all_goals go_ret
 all_goals exact⟨by rw[HE.o];rfl,HB.trans (HB1.o.mono (by omega))⟩
theorem znU {B g n cap size:Nat}{e:Xy}(h:w.ownsRow B e size (xS g n cap) n xs):n<=cap/\cap<=9223372036854775807:=by
 rcases h.2 with ⟨h2,_⟩|⟨g',cap',cur,hv,hg,hh,h3,h4,h5,h6⟩
 . cases h2
 cases hv;unfold maxLen at h4;exact⟨h3,by omega⟩
theorem zdM {n:Nod}{nb:Nat}{vs:Xv}(w:Xw)(h:NT w N n nb vs ev xs)(hio:n.ins+n.outs<=n.vars.length)(hlt:n.ins<n.vars.length) :
 xK 88 #[xP nb] w (λe w'=>∃g cp,vs=xS g n.vars.length cp/\e=.returned (.slice (some (xD g (n.ins*7))) n.outs (cp-n.ins))/\xB w w'):=by
 obtain⟨g,cp,rfl,_⟩:=zM h.vown (by omega);obtain⟨h0,h1,h2,h3,h4,h5,hf,hz⟩:=zt h.blk;have hcap:=znU h.vown;have hfew:=h.few;have i0:(0:Int)<=(n.ins:Int):=by omega
 have i1:(n.ins:Int)<=(n.ins:Int)+(n.outs:Int):=by omega
 have i2:(n.ins:Int)+(n.outs:Int)<=(cp:Int):=by omega
 have i3:¬(n.ins=cp):=by omega
 have i4:¬((n.ins:Int)=(cp:Int)):=by omega
 have i5:¬(cp=n.ins):=by omega
 have i6:((n.ins:Int)+(n.outs:Int)).toNat=n.ins+n.outs:=by omega
 have i7:IntKind.i64.wrap ((n.ins:Int)+(n.outs:Int))=(n.ins:Int)+(n.outs:Int):=by rw[IntKind.wrap_i64];omega
 have i8:(0:Int)<=(n.ins:Int)+(n.outs:Int):=by omega
 go_enter func88,ntmps88;go_upto_region 1 with fail
 go_region_held3 (λw'=>w'.cell? (xD nb 2)=some (xS g n.vars.length cp)/\w'.cell? (xD nb 3)=some (xI n.ins)/\w'.cell? (xD nb 4)=some (xI n.outs))
  (first|(with_reducible (refine⟨?_,?_,?_⟩ <;> repeat (first|assumption|refine zg ?_|refine zj _ ?_|refine zk (by omega) ?_)))|go_keep) (fail)
 all_goals go_wp2_with fail
 all_goals go_ret
 all_goals exact⟨_,_,rfl,rfl,zo (Below.refl _ _)⟩
end
section
open Go.RowKit
variable {N:Nat} {c:Sc} {t u:Tm}
attribute [local go_sem ↓] Go.wp_at_zero Go.wp_at_succ
structure zeJ (n:Nod):Prop where
 ins:1<=n.ins
 outs:1<=n.outs
 io:n.ins+n.outs<=n.vars.length
 few:n.vars.length<=16
 eqs:∀q∈n.eqs,q.ns.length=q.ps.length/\1<=q.ns.length/\Wf q.r/\(2<=q.ns.length->q.r.k=4)
structure zbr (c:Sc):Prop where
 er:∀n∈c.er,zeJ n
 nd:zeJ c.nd
 few:c.er.length<=6
theorem zbr.called {d:Sc}(h:zbr c){s:Xb}(hd:c.called s=some d):zbr d/\d.nd∈c.er:=by
 unfold Sc.called at hd;split at hd
 . cases hd
 rename_i i hi
 split at hd
 . cases hd
 rename_i n hn
 cases hd;have hm:=zML hn;exact⟨⟨λm hm'=>h.er m (List.mem_of_mem_take hm'),h.er n hm,by have:=h.few;simp;omega⟩,hm⟩
def zdg (c:Sc)(t:Tm):Prop:=∀u∈zaV za5 t,(zaJ u.k=true->c.has u.s=true)/\(u.k=4->∃d,c.called u.s=some d/\d.nd.ins=u.ts.length)/\arB u.k u.ts.length=true
theorem zn7 {g:Tm->Bool}{ts:List Tm}(ht:t∈ts)(hu:u∈zaV g t):u∈zdk g ts:=by
 induction ts with
 | nil=>simp at ht
 | cons x ts ih =>
   rw[zdk];rcases zNa.1 ht with rfl|ht
   . exact List.mem_append_left _ hu
   exact List.mem_append_right _ (ih ht)
theorem zey (g:Tm->Bool)(t:Tm):t∈zaV g t:=by
 cases t with
 | mk k a s nm n ts=>rw[zaV];simp
theorem zdg.sub (h:zdg c t)(hu:u∈t.ts):zdg c u:=by
 intro x hx;refine h x ?_;cases t with
 | mk k a s nm n ts => rw[zaV];refine zMX _ ?_;rw[zM2 (show za5 _=true from rfl)];exact zn7 hu hx
theorem zdU:∀{ts:List Tm} {i:Nat} {t:Tm},ts[i]?=some t->zbh c ts i=zaj c t:=by
 intro ts;induction ts with
 | nil=>intro i t h;simp at h
 | cons x ts ih =>
   intro i t h;cases i with
   | zero=>simp at h;subst h;rw[zbh]
   | succ i=>rw[zbh];exact ih (by simpa using h)
theorem TT.arg {w:Xw}{vl:Nat}{x:Xp}{cp:Nat}{vs:Xm}{i:Nat}(hown:w.ownsRow 0 182 1 (.slice x vl cp) vl vs)(hl:vs.length=t.ts.length)(hs:∀(i:Nat) (u:Tm) (x:Xv),t.ts[i]?=some u->vs[i]?=some x->TT w N u x)(hu:t.ts[i]?=some u):∃g ub,x=some (xD g 0)/\xC w g i (xP ub)/\TT w N u (xP ub)/\ub<N:=by have hi:=(zMJ.1 hu).1;have hv:vs[i]?=some vs[i]:=zsc (by omega);obtain⟨g,rfl,hc⟩:=zbE hown hv;have ht:=hs i u _ hu hv;obtain⟨ub,_,_,e,hub,_⟩:=ht.ptr;rw[e] at hc ht;exact⟨g,ub,rfl,hc,ht,hub⟩
theorem zhl {n:Nod}(h:zeJ n):∃v,n.vars[n.ins]?=some v/\n.results[0]?=some v:=by have h1:=h.io;have h2:=h.outs;refine⟨n.vars[n.ins]'(by omega),zsc _,?_⟩;unfold Nod.results;rw[List.getElem?_take,zM2 (by omega),List.getElem?_drop];simp
theorem zcQ {ev nv:Xv}(hc:zbr c):∀(t:Tm) (v:Xv) (w:Xw),TT w N t v->ScV w N c ev nv->N<=w.heap.size->zdg c t ->
 xK 171 #[.agg #[ev,nv],v] w (λe w'=>e=.returned (xI (zaj c t:Nat))/\xB w w'):=by
 intro t;induction t using Tm.ind with
 | h k a s nm n ts ih =>
   intro v w hT h hN hO;obtain⟨b,args,vs,rfl,hb,hblk,hown,hlen,hsub,hgs⟩:=hT.ptr;obtain⟨xa,cpa,rfl⟩:=zB hown;have HSc:=za h;obtain⟨xe,cpe,nb,rfl,rfl,hnb⟩:=h.shape;have hlen':vs.length=ts.length:=hlen;have hbz:=ze hblk;obtain⟨o1,o2,o3⟩:=hO _ (zey za5 _);have hblk':w.heap[b]?=some (.cells #[xI k,xI a,.string s,xI nm,xI n,.slice xa ts.length cpa] 226 (0,0)):=(by rw[<- hlen'];exact hblk);have HBk:=za hblk';have hown':w.ownsRow 0 182 1 (.slice xa ts.length cpa) ts.length vs:=(by rw[<- hlen'];exact hown);have HOw:=za hown';have Hsub:=za hsub;have HO:=za hO;have Hih:=za ih;have Hgs:=za hgs;simp only[Tm.k,Tm.s,Tm.ts] at o1 o2 o3;obtain⟨h0,h1,h2,h3,h4,h5,hf,hz⟩:=zt hblk';have Hlen:=za hlen';clear hT hown h hlen hlen' hblk hown' hsub hO ih hgs hblk' h1 h4 hf;have hcases:k=3∨k=4∨k=7∨k=8∨k=6∨k=5∨k=9∨k=0∨k=10∨k=19∨k=20∨k=21∨k=22∨k=23∨k=1∨k=2∨k=11∨k=12∨k=13∨k=14∨k=15∨k=16∨k=17∨k=18:=by
    have:k<=23:=by
     rcases Nat.lt_or_ge 23 k with h|h
     . exfalso;unfold arB at o3;simp only[show ¬k<=3 by omega,show ¬k=4 by omega,show ¬k=5 by omega,show ¬k=6 by omega,show ¬k<=8 by omega,show ¬k=9 by omega,show ¬k<=11 by omega,show ¬k<=23 by omega,if_false] at o3;cases o3
     exact h
    omega
   have PRE:∀W,xB w W->ScV W N c (xE xe c cpe) (xP nb):=λW hB=>HSc.o.old (zm hB hN);rcases hcases with rfl|rfl|rfl|rfl|rfl|rfl|rfl|rfl|rfl|rfl|rfl|rfl|rfl|rfl|rfl|rfl|rfl|rfl|rfl|rfl|rfl|rfl|rfl|rfl
   . have hh:=o1 rfl;go_enter func171,ntmps171;go_upto_region 3 with fail;refine zn (λW=>(xH W w.heap.size #[xE xe c cpe,xP nb] 216)/\xB w W) ⟨zc w _,zq w _⟩ ?_;rintro W ⟨hs,hB⟩;obtain⟨s0,s1,sf,sz⟩:=zp hs;obtain⟨m0,m1,m2,m3,m4,m5,mf,mz⟩:=zt ((hB.block b hbz).trans HBk.o);have HB:=za hB;have hzW:=hB.size;have HD:=za (zbD s (nm:Int) W.drew (PRE W.drew (zo hB)) (by show N<=W.heap.size;omega) hh);clear hs hB m0 m1 m4 m5 mf sf
     go_region_held3 (λw'=>w'.cell? (xD w.heap.size 0)=some (xE xe c cpe)/\w'.cell? (xD w.heap.size 1)=some (xP nb)/\w'.cell? (xD b 2)=some (.string s)/\w'.cell? (xD b 3)=some (xI nm))
      (first|(with_reducible (refine⟨?_,?_,?_,?_⟩ <;> repeat (first|assumption|refine zg ?_|refine zj _ ?_|refine zk (by omega) ?_|refine zd HB1.o ?_ (by first|omega|(rw[zsb];omega)))))|go_keep)
      (first
        | (go_at_call 127;refine HD.o.mono ?_;rintro e w1 ⟨rfl,hB1⟩;have HB1:=za (zw hB1);clear hB1))
     all_goals go_wp2_with fail
     all_goals go_ret
     all_goals exact⟨by rw[zaj];rfl,HB.o.trans (HB1.o.mono (by omega))⟩
   . obtain⟨d,hd,hdi⟩:=o2 rfl;have hdw:=(hc.called hd).1.nd;go_enter func171,ntmps171;go_upto_region 5 with fail;refine zn (λW=>W.heap[w.heap.size]?=some (.cells #[xE xe c cpe,xP nb] 216 (0,0))/\xB w W) ⟨zc w _,zq w _⟩ ?_;rintro W ⟨hs,hB⟩;obtain⟨s0,s1,sf,sz⟩:=zp hs;obtain⟨m0,m1,m2,m3,m4,m5,mf,mz⟩:=zt ((hB.block b hbz).trans HBk.o);have HB:=za hB;have hzW:=hB.size;have HC1:=za (zah s (nm:Int) W.drew (PRE W.drew (zo hB)) (by show N<=W.heap.size;omega) hc.few hd);have HC2:=za (λo=>zah s (nm:Int) (W.alloc o).drew (PRE _ (zo (hB.alloc (by omega) o))) (by show N<=(W.alloc o).heap.size;simp;omega) hc.few hd);clear hs hB m0 m1 m4 m5 mf sf
     go_region_held3 (λw'=>w'.cell? (xD w.heap.size 0)=some (xE xe c cpe)/\w'.cell? (xD w.heap.size 1)=some (xP nb)/\w'.cell? (xD b 2)=some (.string s)/\w'.cell? (xD b 3)=some (xI nm))
      (first|(with_reducible (refine⟨?_,?_,?_,?_⟩ <;> repeat (first|assumption|refine zg ?_|refine zj _ ?_|refine zk (by omega) ?_|refine zd HB1.o ?_ (by first|omega|(rw[zsb];omega)))))|go_keep)
      (first
        | (go_at_call 119;refine HC1.o.mono ?_;rintro e w1 ⟨x2,cp2,n2,rfl,hsc,hB1⟩;have HB1:=za (zw hB1);have HS2:=za hsc;clear hB1 hsc)
        | (go_at_call 119;refine (HC2.o _).mono ?_;rintro e w1 ⟨x2,cp2,n2,rfl,hsc,hB1⟩;have HB1:=za (zw hB1);have HS2:=za hsc;obtain⟨y0,y1,yf,yz⟩:=zp ((HB1.o.block W.heap.size (by rw[zsb];omega)).trans (zc W _));clear hB1 hsc))
     all_goals go_upto_region 6 with fail
     refine zn (Got w N d w1.heap.size n2 x2 cp2) (zow HB.o HB1.o HS2.o hN) ?_;rotate_left;refine zn (Got w N d W.heap.size n2 x2 cp2) (zos HB.o HB1.o HS2.o hN) ?_
     all_goals
      rintro W2 hG;obtain⟨t0,t1,tf,tz⟩:=zp hG.box;obtain⟨n2',vs2,qv2,xs2,e9,hnt⟩:=hG.sc.nd;cases e9;obtain⟨v0,hv1,hv2⟩:=zhl hdw;have HE:Hid (zaj c (.mk 4 a s nm n ts)=zaK v0):=by
       unfold Hid;rw[zaj]
       show c.callTy s=_;unfold Sc.callTy;rw[hd]
       show ((d.nd.results[0]?).map tyV).getD 0=_;rw[hv2];rfl
      have HR:=za (zdM W2 hnt hdw.io (by have:=hdw.io;have:=hdw.outs;omega));obtain⟨xv,cpv,rfl⟩:=zB hnt.vown;obtain⟨gv,rfl,_,_,c2,_⟩:=zaM hnt.vown hv1;have hvz:=hnt.vlo gv rfl;have hBG:=za hG.bel;have hzz:=hG.bel.size;have hou:(0:Int)<(d.nd.outs:Int):=(by have:=hdw.outs;omega);have hou':0<d.nd.outs:=hdw.outs;have c2':xC W2 gv (d.nd.ins*7+2) (xI (zaK v0:Nat)):=c2;clear hG hnt hv1 hv2 c2 hd hdi hdw;go_wp2_with (go_at_call 88;refine HR.o.mono ?_;rintro e w3 ⟨g9,cp9,e9,rfl,hB3⟩;cases e9;have c3:=zd hB3 c2' (by omega);have HB3:=za hB3;clear hB3);go_ret;exact⟨by rw[HE.o];rfl,hBG.out.trans (HB3.o.mono hzz)⟩
   iterate 3
    . have hlen3:0<ts.length:=(by simp[arB] at o3;omega);obtain⟨u,hu⟩:∃u,ts[0]?=some u:=⟨_,zsc hlen3⟩;obtain⟨g,ub,rfl,hcu,hTu,hubN⟩:=TT.arg (t:=.mk _ a s nm n ts) HOw.o Hlen.o Hsub.o hu;have hgN:=Hgs.o g rfl;have hOu:=HO.o.sub (t:=.mk _ a s nm n ts) (u:=u) (zML hu);have hty:=zdU (c:=c) hu;go_enter func171,ntmps171;go_upto_region 10 with fail;refine zn (λW=>(xH W w.heap.size #[xE xe c cpe,xP nb] 216)/\xB w W) ⟨zc w _,zq w _⟩ ?_;rintro W ⟨hs,hB⟩;obtain⟨s0,s1,sf,sz⟩:=zp hs;obtain⟨m0,m1,m2,m3,m4,m5,mf,mz⟩:=zt ((hB.block b hbz).trans HBk.o);have HB:=za hB;have hzW:=hB.size;have hcu':=zd hB hcu (by omega);have HD:=za (Hih.o u (zML hu) (xP ub) W.drew (hTu.old (zm (zo hB) hN)) (PRE W.drew (zo hB)) (by show N<=W.heap.size;omega) hOu);have l0:(0:Int)<(ts.length:Int):=(by omega);clear hs hB m0 m1 m2 m3 m4 mf sf hTu hu
      go_region_held3 (λw'=>w'.cell? (xD w.heap.size 0)=some (xE xe c cpe)/\w'.cell? (xD w.heap.size 1)=some (xP nb)/\w'.cell? (xD b 5)=some (xS g ts.length cpa)/\w'.cell? (xD g 0)=some (xP ub))
       (first|(with_reducible (refine⟨?_,?_,?_,?_⟩ <;> repeat (first|assumption|refine zg ?_|refine zj _ ?_|refine zk (by omega) ?_|refine zd HB1.o ?_ (by first|omega|(rw[zsb];omega)))))|go_keep)
       (first
         | (go_at_call 171;refine HD.o.mono ?_;rintro e w1 ⟨rfl,hB1⟩;have HB1:=za (zw hB1);clear hB1))
      all_goals go_wp2_with fail
      all_goals go_ret
      all_goals exact⟨by rw[zaj];show Ending.returned (xI (zaj c u:Nat))=Ending.returned (xI (zbh c ts 0:Nat));rw[hty],HB.o.trans (HB1.o.mono (by omega))⟩
   iterate 2
    . have hlen3:1<ts.length:=(by simp[arB] at o3;omega);obtain⟨u,hu⟩:∃u,ts[1]?=some u:=⟨_,zsc hlen3⟩;obtain⟨g,ub,rfl,hcu,hTu,hubN⟩:=TT.arg (t:=.mk _ a s nm n ts) HOw.o Hlen.o Hsub.o hu;have hgN:=Hgs.o g rfl;have hOu:=HO.o.sub (t:=.mk _ a s nm n ts) (u:=u) (zML hu);have hty:=zdU (c:=c) hu;go_enter func171,ntmps171;go_upto_region 13 with fail;refine zn (λW=>(xH W w.heap.size #[xE xe c cpe,xP nb] 216)/\xB w W) ⟨zc w _,zq w _⟩ ?_;rintro W ⟨hs,hB⟩;obtain⟨s0,s1,sf,sz⟩:=zp hs;obtain⟨m0,m1,m2,m3,m4,m5,mf,mz⟩:=zt ((hB.block b hbz).trans HBk.o);have HB:=za hB;have hzW:=hB.size;have hcu':=zd hB hcu (by omega);have HD:=za (Hih.o u (zML hu) (xP ub) W.drew (hTu.old (zm (zo hB) hN)) (PRE W.drew (zo hB)) (by show N<=W.heap.size;omega) hOu);have l0:(1:Int)<(ts.length:Int):=(by omega);clear hs hB m0 m1 m2 m3 m4 mf sf hTu hu
      go_region_held3 (λw'=>w'.cell? (xD w.heap.size 0)=some (xE xe c cpe)/\w'.cell? (xD w.heap.size 1)=some (xP nb)/\w'.cell? (xD b 5)=some (xS g ts.length cpa)/\w'.cell? (xD g 1)=some (xP ub))
       (first|(with_reducible (refine⟨?_,?_,?_,?_⟩ <;> repeat (first|assumption|refine zg ?_|refine zj _ ?_|refine zk (by omega) ?_|refine zd HB1.o ?_ (by first|omega|(rw[zsb];omega)))))|go_keep)
       (first
         | (go_at_call 171;refine HD.o.mono ?_;rintro e w1 ⟨rfl,hB1⟩;have HB1:=za (zw hB1);clear hB1))
      all_goals go_wp2_with fail
      all_goals go_ret
      all_goals exact⟨by rw[zaj];show Ending.returned (xI (zaj c u:Nat))=Ending.returned (xI (zbh c ts 1:Nat));rw[hty],HB.o.trans (HB1.o.mono (by omega))⟩
   all_goals
    go_enter func171,ntmps171;go_wp2_with fail;go_ret;exact⟨by rw[zaj];rfl,zq _ _⟩
end
section
variable {L:List Ex} {x:Nat} {t:Tm}
theorem zFW (hA:ArL L)(h:zeA L x t):Wf t:=by
 induction h with
 | mk x ex ts hx hl hr ih =>
   refine .mk _ _ _ _ _ _ ?_ (λt ht=>?_)
   . have:=hA ex (zML hx);unfold arE at this;rw[hl];exact this
   obtain⟨i,hi⟩:=List.getElem?_of_mem ht;have hlt:=(zMJ.1 hi).1;obtain⟨y,hy⟩:∃y,ex.ins[i]?=some y:=⟨_,zsc (by omega)⟩;exact ih i y t hy hi
theorem zCH (h:zeA L x t):∃ex:Ex,L[x]?=some ex/\t.k=zag ex.op.toList ex.n:=by
 cases h with
 | mk x ex ts hx hl hr=>exact⟨ex,hx,rfl⟩
theorem zEx (hA:ArL L):∀{l:List Eqn} {qs:List Qn},zge L l qs->(∀q∈l,zzX L q)->∀q∈qs,q.ns.length=q.ps.length/\1<=q.ns.length/\Wf q.r/\(2<=q.ns.length->q.r.k=4)
 | [],qs,h,_,q,hq=>by cases h;cases hq
 | e::l,qs,h,he,q,hq=>by
   obtain⟨q',l',rfl,h1,h2⟩:=h;rcases zNa.1 hq with rfl|hq
   . obtain⟨k1,k2,k3⟩:=he e (zMS ..);rw[h1.ns,h1.ps];refine⟨k1,k2,zFW hA h1.r,λh3=>?_⟩;obtain⟨ex,e1,e2⟩:=k3 h3;obtain⟨ex',f1,f2⟩:=zCH h1.r;rw[f2];have:ex'=ex:=Option.some.inj (f1.symm.trans e1);rw[this];exact e2
   exact zEx hA h2 (λq hq=>he q (zMX _ hq)) q hq
theorem zGA {d:Nd}{n:Nod}(h:zo6 d n)(hd:zAr d):zeJ n:=by
 obtain⟨v1,v2,v3,v4⟩:=hd.vars;refine⟨?_,?_,?_,?_,λq hq=>zEx hd.ar h.eqs hd.eqs q hq⟩
 . rw[h.ins];exact v1
 . rw[h.outs];exact v2
 . rw[h.ins,h.outs,h.vars];exact v3
 rw[h.vars];exact v4
theorem zC6:∀{l:List Nd} {ns:List Nod},ze5 l ns->(∀d∈l,zAr d)->∀n∈ns,zeJ n
 | [],ns,h,_,n,hn=>by cases h;cases hn
 | d::l,ns,h,hd,n,hn=>by
   obtain⟨n',l',rfl,h1,h2⟩:=h;rcases zNa.1 hn with rfl|hn
   . exact zGA h1 (hd d (zMS ..))
   exact zC6 h2 (λd hd'=>hd d (zMX _ hd')) n hn
theorem zGg {r17 r18:Fn}(a17:ArK r17)(a18:ArK r18)(x17:Ext r17)(x18:Ext r18)(g17:zv 17 r17)(g18:zv 18 r18){g:Nat}{src:Xb}(hs:src.size<=1200)(he:(zgo r17 r18 g src).1.er=0){ns:List Nod}(hn:ze5 (zgo r17 r18 g src).2 ns):∀n∈ns,zeJ n :=
 zC6 hn (zCh a17 a18 x17 x18 g17 g18 g src (zmc hs) he)
theorem zEG {d:Nat}{r:Fn}(e:r=(lev d).ex):ArK r/\Ext r:=by obtain⟨h1,_⟩:=zDb d;obtain⟨h2,_⟩:=zDg d;rw[e];exact⟨h1,h2.ext⟩
end
section
variable {L L':List Ex} {ins:Xn} {ts:List Tm} {d x:Nat} {st:St} {t:Tm}
def vz (t:Tm):Nat:=(zaV za5 t).length
def vzL (ts:List Tm):Nat:=(zdk za5 ts).length
theorem zBn (k a:Nat)(s:Xb)(nm n:Nat)(ts:List Tm):vz (.mk k a s nm n ts)=1+vzL ts:=by unfold vz vzL;rw[zaV,zM2 (show za5 (.mk k a s nm n ts)=true from rfl),zMR];omega
theorem zys (t:Tm)(ts:List Tm):vzL (t::ts)=vz t+vzL ts:=by unfold vz vzL;rw[zdk,zMM]
theorem zAz (hp:L <+: L')(h:zeA L x t):zeA L' x t:=by
 induction h with
 | mk x ex ts hx hl hr ih => obtain⟨E,rfl⟩:=hp;exact .mk x ex ts (by rw[zM6 (zMJ.1 hx).1];exact hx) hl (λi y t h1 h2=>ih i y t h1 h2)
def Trs (L:List Ex)(ins:Xn)(ts:List Tm):Prop:=ts.length=ins.length/\∀(i y:Nat) (t:Tm),ins[i]?=some y->ts[i]?=some t->zeA L y t
theorem Trs.nil (L:List Ex):Trs L [] []:=⟨rfl,λi y t h=>by simp at h⟩
theorem Trs.more (hp:L <+: L')(h:Trs L ins ts):Trs L' ins ts:=⟨h.1,λi y t h1 h2=>zAz hp (h.2 i y t h1 h2)⟩
theorem Trs.snoc (h:Trs L ins ts)(hx:zeA L x t):Trs L (ins++[x]) (ts++[t]):=by
 refine⟨by rw[zMM,zMM,h.1];rfl,λi y u h1 h2=>?_⟩;by_cases hi:i<ins.length
 . rw[zM6 hi] at h1;rw[zM6 (by rw[h.1];exact hi)] at h2;exact h.2 i y u h1 h2
 rw[zM5 (by omega)] at h1;rw[zM5 (by rw[h.1];omega),h.1] at h2;have:i-ins.length=0:=by have:=(zMJ.1 h1).1;simp at this;exact this
 rw[this] at h1 h2;simp at h1 h2;subst h1;subst h2;exact hx
theorem Trs.one (h:zeA L x t):Trs L [x] [t]:=(Trs.nil L).snoc h
def Cd' (d:Nat)(st:St):Prop:=st.er=0->18<=st.op+d/\st.op<=16
theorem Cd'.stay {a b:St}(h:Cd' d a)(hs:zbu a b)(ho:b.op=a.op):Cd' d b:=λhe=>by rw[ho];exact h (hs.back he)
theorem Cd'.step (h:Cd' d st):Cd' d st.step:=h.stay (zbu.step st) st.step_op
theorem Cd'.must (h:Cd' d st)(k:Nat)(l:Xu):Cd' d (st.must k l):=h.stay (zbu.must st k l) (st.must_op k l)
theorem Cd'.name (h:Cd' d st):Cd' d st.name:=h.stay (zbu.name st) st.name_op
theorem zzd (h:st.enter.er=0):st.er=0/\st.op+1<=16:=by
 unfold St.enter at h;split at h
 . exact absurd h (St.fail_er _ (by decide))
 rw[St.step_er] at h;exact⟨h,by omega⟩
theorem Cd'.enter (h:Cd' (d+1) st):Cd' d st.enter:=λhe=>by obtain⟨h1,h2⟩:=zzd he;rw[St.enter_op];have:=h h1;omega
end
section
variable {P atm rx:Fn} {n:Nat}
mutual
def eT:Tm->Tm
 | .mk k _ s _ n ts=>.mk k 0 s 0 n (eL ts)
def eL:List Tm->List Tm
 | []=>[]
 | t::l=>eT t::eL l
end
theorem zNC:∀ts:List Tm,eL ts=ts.map eT
 | []=>rfl
 | t::l=>by rw[eL,zNC l];rfl
structure Yes (st:St) (R:Xl) (t:Tm) (x:St×Nat):Prop where
 at':At x.1 R
 op:x.1.op=st.op
 L:st.L <+: x.1.L
 tr:∃t',zeA x.1.L x.2 t'/\eT t'=eT t
def Out (st:St)(R:Xl)(t:Tm)(x:St×Nat):Prop:=x.1.er=3∨Yes st R t x
theorem zND {st:St}(h:(atm st).1.er≠0∨zdi (atm st).1=false):zfu atm st=atm st:=by
 unfold zfu
 show zaY (1299+1) _=_;generalize 1299=f
 show (if _ then _ else atm st)=_;rw[zM1 (λe=>by rcases h with h|h;exact h e.1;rw[h] at e;cases e.2)]
theorem zNH {st:St}(h:(P st).1.er≠0∨zco (P st).1.t n=false):zcT n P st=P st:=by
 unfold zcT
 show zdq n P (1299+1) _=_;generalize 1299=f
 show (if _ then _ else P st)=_;rw[zM1 (λe=>by rcases h with h|h;exact h e.1;rw[h] at e;cases e.2)]
theorem zOp {st:St}(h:(P st).1.er≠0∨zcn (P st).1.t=false):zdJ P st=P st:=by unfold zdJ;simp only;rw[zM1 (λe=>by rcases h with h|h;exact h e.1;rw[h] at e;cases e.2)]
theorem zOi {st:St}(h:(P st).1.er≠0∨(P st).1.is 5 [102,98,121]=false):zgk rx P st=P st:=by unfold zgk;simp only;rw[zM1 (λe=>by rcases h with h|h;exact h e.1;rw[h] at e;cases e.2)]
theorem zQn {ra:Fn}{st:St}(h:st.er≠0):(zap rx ra st).1=st:=by unfold zap;rw[zM2 h]
theorem zN3 {ru smp:Fn}{st:St}(h:¬(st.er=0/\(st.is 4 [45]||st.is 5 [110,111,116])=true)):zdn ru smp st=smp st:=by unfold zdn;rw[zM1 h]
theorem zNQ:∀(d:Nat) {st:St},st.er≠0->((lev d).ex st).1=st/\((lev d).un st).1=st/\((lev d).at' st).1=st
 | 0,st,h=>⟨rfl,rfl,rfl⟩
 | d+1,st,h=>by have ha:(zap (lev d).ex (lev d).at' st).1=st:=zQn h;have hs:zfu (zap (lev d).ex (lev d).at') st=zap (lev d).ex (lev d).at' st:=zND (.inl (by rw[ha];exact h));have hu:zdn (lev d).un (zfu (zap (lev d).ex (lev d).at')) st=zap (lev d).ex (lev d).at' st:=(by rw[zN3 (λe=>h e.1),hs]);have e3:=zNH (n:=3) (P:=zdn (lev d).un (zfu (zap (lev d).ex (lev d).at'))) (st:=st) (.inl (by rw[hu,ha];exact h));rw[hu] at e3;have e2:=zNH (n:=2) (P:=zcT 3 (zdn (lev d).un (zfu (zap (lev d).ex (lev d).at')))) (st:=st) (.inl (by rw[e3,ha];exact h));rw[e3] at e2;have et:=zOp (P:=zcT 2 (zcT 3 (zdn (lev d).un (zfu (zap (lev d).ex (lev d).at'))))) (st:=st) (.inl (by rw[e2,ha];exact h));rw[e2] at et;have e1:=zNH (n:=1) (P:=zdJ (zcT 2 (zcT 3 (zdn (lev d).un (zfu (zap (lev d).ex (lev d).at')))))) (st:=st) (.inl (by rw[et,ha];exact h));rw[et] at e1;have e0:=zNH (n:=0) (P:=zcT 1 (zdJ (zcT 2 (zcT 3 (zdn (lev d).un (zfu (zap (lev d).ex (lev d).at'))))))) (st:=st) (.inl (by rw[e1,ha];exact h));rw[e1] at e0;have ex:=zOi (rx:=(lev d).ex) (P:=zcT 0 (zcT 1 (zdJ (zcT 2 (zcT 3 (zdn (lev d).un (zfu (zap (lev d).ex (lev d).at')))))))) (st:=st) (.inl (by rw[e0,ha];exact h));rw[e0] at ex;exact⟨by show (zgk _ _ st).1=st;rw[ex,ha],by show (zdn _ _ st).1=st;rw[hu,ha],ha⟩
theorem At.level {st:St}{y:Xb}{R:Xl}(h:At st (y::R))(n:Nat):zco st.t n=zco (tkB y) n:=by unfold zco;rw[h.2.1.1,h.2.1.2.1]
theorem At.test {st:St}{y:Xb}{R:Xl}(h:At st (y::R)):zcn st.t=zcn (tkB y):=by unfold zcn;rw[h.2.1.1,h.2.1.2.1]
variable {st:St} {y:Xb} {R:Xl} {t:Tm}
theorem zOx (h:Out st (y::R) t (atm st))(hy:((tkB y).k==5&&((tkB y).s.toList==[119,104,101,110]||(tkB y).s.toList==[119,104,101,110,111,116]))=false):Out st (y::R) t (zfu atm st):=by
 rw[zND];exact h;rcases h with h|h
 . exact .inl (by rw[h];decide)
 refine .inr ?_;unfold zdi;rw[h.at'.is,h.at'.is,<- hy,Bool.and_or_distrib_left]
theorem zNv (h:Out st (y::R) t (P st))(hy:zco (tkB y) n=false):Out st (y::R) t (zcT n P st):=by
 rw[zNH];exact h;rcases h with h|h
 . exact .inl (by rw[h];decide)
 exact .inr (by rw[h.at'.level];exact hy)
theorem zPS (h:Out st (y::R) t (P st))(hy:zcn (tkB y)=false):Out st (y::R) t (zdJ P st):=by
 rw[zOp];exact h;rcases h with h|h
 . exact .inl (by rw[h];decide)
 exact .inr (by rw[h.at'.test];exact hy)
theorem zPM (h:Out st (y::R) t (P st))(hy:((tkB y).k==5&&(tkB y).s.toList==[102,98,121])=false):Out st (y::R) t (zgk rx P st):=by
 rw[zOi];exact h;rcases h with h|h
 . exact .inl (by rw[h];decide)
 exact .inr (by rw[h.at'.is];exact hy)
end
section
variable {s:Xb} {P atm rx:Fn} {L:List Ex} {f i j k n:Nat}
variable {st:St} {y x:Xb} {R l:Xl} {t:Tm}
theorem At.add (h:At st R)(e:Ex):At (st.add e) R:=by cases R <;> exact h
theorem At.leave (h:At st R):At st.leave R:=by cases R <;> exact h
theorem At.enter (h:At st (x::l))(hl:∀y∈l,zNf y):st.enter.er=3∨(At st.enter l/\st.op+1<=16):=by
 unfold St.enter;split
 . refine .inl ?_;unfold St.fail;rw[zM2 (show ({ st with op:=st.op+1 }:St).er=0 from h.1)]
 exact .inr ⟨At.step (st:={ st with op:=st.op+1 }) (x:=x) h hl,by omega⟩
theorem At.must (h:At st (x::l))(hl:∀y∈l,zNf y){b:Xu}(hk:(tkB x).k=k)(hb:(tkB x).s.toList=b):At (st.must k b) l:=by unfold St.must;rw[zM2 (by rw[h.is,hk,hb];simp)];exact h.step hl
theorem At.name (h:At st (x::l))(hl:∀y∈l,zNf y)(hk:(tkB x).k=2):At st.name l:=by unfold St.name;rw[zM2 (by rw[h.2.1.1,hk])];exact h.step hl
theorem zNt {s1:St}{e:Ex}{us:List Tm}(hA:At s1 R)(ho:s1.op=st.op)(hL:st.L <+: s1.L)(hT:Trs s1.L e.ins us)(ht:eT t=.mk (zag e.op.toList e.n) 0 e.s 0 (zbF e.op.toList e.n) (us.map eT)):Yes st R t (s1.put e):=by
 refine⟨hA.add e,ho,hL.trans (List.prefix_append _ _),⟨.mk (zag e.op.toList e.n) e.a e.s e.nm (zbF e.op.toList e.n) us,?_,?_⟩⟩
 . refine .mk s1.L.length e us ?_ hT.1 (λi y t h1 h2=>zAz (List.prefix_append _ _) (hT.2 i y t h1 h2))
   show (s1.L++[e])[s1.L.length]?=_;rw[zM5 (zMK _),Nat.sub_self];rfl
 rw[eT,ht,zNC]
theorem zQO {a:Tm}(h:zeA L i a):Trs L [i] [a]:=(Trs.nil L).snoc h
theorem zQt {a b:Tm}(h:zeA L i a)(h':zeA L j b):Trs L [i,j] [a,b]:=(zQO h).snoc h'
theorem zTc {a b c:Tm}(h:zeA L i a)(h':zeA L j b)(h'':zeA L k c):Trs L [i,j,k] [a,b,c]:=(zQt h h').snoc h''
def Dp (d:Nat)(st:St):Prop:=st.op<=16/\18<=st.op+d
def Rds (d:Nat)(M:Fn)(u:Tm)(y:Xb):Prop:=∀(st:St) (R:Xl),Dp d st->(∀z∈y::R,zNf z)->At st (exT u++y::R)->Out st (y::R) u (M st)
theorem zRl {x:St×Nat}(h:x.1.er≠0∨zco x.1.t n=false):zdq n P f x=x:=by
 cases f with
 | zero=>rfl
 | succ f => show (if _ then _ else x)=_;rw[zM1 (λe=>by rcases h with h|h;exact h e.1;rw[h] at e;cases e.2)]
variable {d:Nat} {a b c:Tm}
theorem zPR {x:St×Nat}(hpa:Yes st (y::(exT b++rpW::R)) a x)(hP:Rds d P b rpW)(hb:∀z∈exT b++rpW::R,zNf z)(hd:Dp d st)(ht:eT t=.mk (zag (tkB y).s.toList 0) 0 sE 0 (zbF (tkB y).s.toList 0) [eT a,eT b]) :
 Out st (rpW::R) t ((P x.1.step).1.put ⟨x.1.t.s,x.1.t.a,0,[x.2,(P x.1.step).2],sE,0⟩):=by
 have h1:=hpa.at'.step hb;have h2:=hP x.1.step R ⟨by rw[St.step_op,hpa.op];exact hd.1,by rw[St.step_op,hpa.op];exact hd.2⟩ (λz hz=>hb z (zMY.2 (.inr hz))) h1;rcases h2 with h2|h2
 . exact .inl h2
 refine .inr ?_;obtain⟨ta,q1,q2⟩:=hpa.tr;obtain⟨tb,q3,q4⟩:=h2.tr;have hL:=h2.L;rw[St.step_L] at hL;refine zNt (us:=[ta,tb]) h2.at' (by rw[h2.op,St.step_op,hpa.op]) (hpa.L.trans hL) (zQt (zAz hL q1) q3) ?_
 show eT t=.mk (zag x.1.t.s.toList 0) 0 sE 0 (zbF x.1.t.s.toList 0) [eT ta,eT tb];rw[ht,hpa.at'.2.1.2.1,q2,q4]
theorem zOm (ha:Out st (y::(exT b++rpW::R)) a (P st))(hP:Rds d P b rpW)(hb:∀z∈exT b++rpW::R,zNf z)(hd:Dp d st)(hy:zco (tkB y) n=true)(hr:zco (tkB rpW) n=false)(ht:eT t=.mk (zag (tkB y).s.toList 0) 0 sE 0 (zbF (tkB y).s.toList 0) [eT a,eT b]) :
 Out st (rpW::R) t (zcT n P st):=by
 rcases ha with ha|ha
 . rw[zNH (.inl (by rw[ha];decide))];exact .inl ha
 have h1:=zPR ha hP hb hd ht;unfold zcT
 show Out _ _ _ (zdq n P (1299+1) _);generalize 1299=f
 show Out _ _ _ (if _ then _ else P st);rw[zM2 ⟨ha.at'.er,by rw[ha.at'.level];exact hy⟩,zRl]
 . exact h1
 rcases h1 with h1|h1
 . exact .inl (by rw[h1];decide)
 exact .inr (by rw[h1.at'.level];exact hr)
theorem zSp (ha:Out st (y::(exT b++rpW::R)) a (P st))(hP:Rds d P b rpW)(hb:∀z∈exT b++rpW::R,zNf z)(hd:Dp d st)(hy:zcn (tkB y)=true)(ht:eT t=.mk (zag (tkB y).s.toList 0) 0 sE 0 (zbF (tkB y).s.toList 0) [eT a,eT b]) :
 Out st (rpW::R) t (zdJ P st):=by
 rcases ha with ha|ha
 . rw[zOp (.inl (by rw[ha];decide))];exact .inl ha
 have h1:=zPR ha hP hb hd ht;unfold zdJ;simp only;rw[zM2 ⟨ha.at'.er,by rw[ha.at'.test];exact hy⟩];exact h1
theorem Dp.enter (h:Dp (d+1) st)(ho:st.op+1<=16):Dp d st.enter:=⟨by rw[St.enter_op];exact ho,by rw[St.enter_op];have:=h.2;omega⟩
theorem zSc (ha:Out st (y::(exT b++rpW::R)) a (P st))(hP:Rds d rx b rpW)(hx:∀s:St,s.er≠0->(rx s).1=s)(hb:∀z∈exT b++rpW::R,zNf z)(hd:Dp (d+1) st)(hy:(tkB y).k=5/\(tkB y).s.toList=[102,98,121])(ht:eT t=.mk 9 0 sE 0 0 [eT a,eT b]) :
 Out st (rpW::R) t (zgk rx P st):=by
 rcases ha with ha|ha
 . rw[zOi (.inl (by rw[ha];decide))];exact .inl ha
 unfold zgk;simp only;rw[zM2 ⟨ha.at'.er,by rw[ha.at'.is,hy.1,hy.2];rfl⟩];have hd':Dp (d+1) (P st).1:=⟨by rw[ha.op];exact hd.1,by rw[ha.op];exact hd.2⟩;rcases ha.at'.enter hb with h1|⟨h1,ho⟩
 . left
   show (rx (P st).1.enter).1.er=3;rw[hx _ (by rw[h1];decide)];exact h1
 rcases hP _ R (hd'.enter ho) (λz hz=>hb z (zMY.2 (.inr hz))) h1 with h2|h2
 . exact .inl h2
 right;obtain⟨ta,q1,q2⟩:=ha.tr;obtain⟨tb,q3,q4⟩:=h2.tr;have hL:=h2.L;rw[St.enter_L] at hL;refine zNt (us:=[ta,tb]) h2.at'.leave (by rw[St.leave_op,h2.op,St.enter_op,ha.op];rfl) (ha.L.trans hL) (zQt (zAz hL q1) q3) ?_
 show eT t=.mk (zag zgW.toList 0) 0 sE 0 (zbF zgW.toList 0) [eT ta,eT tb];rw[ht,q2,q4,show zag zgW.toList 0=9 by decide +kernel,show zbF zgW.toList 0=0 by decide +kernel]
theorem zQ0 {ru smp:Fn}(hA:At st (y::(exT a++rpW::R)))(hP:Rds d ru a rpW)(hx:∀s:St,s.er≠0->(ru s).1=s)(hb:∀z∈exT a++rpW::R,zNf z)(hd:Dp (d+1) st)(hy:((tkB y).k=4/\(tkB y).s.toList=[45]/\eT t=.mk 10 0 sE 0 0 [eT a])∨((tkB y).k=5/\(tkB y).s.toList=[110,111,116]/\eT t=.mk 11 0 sE 0 0 [eT a])) :
 Out st (rpW::R) t (zdn ru smp st):=by
 unfold zdn;have hc:(st.is 4 [45]||st.is 5 [110,111,116])=true:=by rw[hA.is,hA.is];rcases hy with ⟨h1,h2,_⟩|⟨h1,h2,_⟩ <;> rw[h1,h2] <;> rfl
 rw[zM2 ⟨hA.er,hc⟩];rcases hA.enter hb with h1|⟨h1,ho⟩
 . left
   show (ru st.enter).1.er=3;rw[hx _ (by rw[h1];decide)];exact h1
 rcases hP _ R (hd.enter ho) (λz hz=>hb z (zMY.2 (.inr hz))) h1 with h2|h2
 . exact .inl h2
 right;obtain⟨ta,q1,q2⟩:=h2.tr;have hL:=h2.L;rw[St.enter_L] at hL;refine zNt (us:=[ta]) h2.at'.leave (by rw[St.leave_op,h2.op,St.enter_op];rfl) hL (zQO q1) ?_;simp only[List.map_cons,List.map_nil];rw[q2,hA.is];rcases hy with ⟨e1,e2,e3⟩|⟨e1,e2,e3⟩
 . rw[e1,e2,zM2 (by decide),e3,show zag zlo.toList 0=10 by decide +kernel,show zbF zlo.toList 0=0 by decide +kernel]
 rw[e1,e2,zM1 (by decide),e3,show zag zk5.toList 0=11 by decide +kernel,show zbF zk5.toList 0=0 by decide +kernel]
theorem zPn {x:St×Nat}(h:x.1.er≠0∨zdi x.1=false):zaY f x=x:=by
 cases f with
 | zero=>rfl
 | succ f => show (if _ then _ else x)=_;rw[zM1 (λe=>by rcases h with h|h;exact h e.1;rw[h] at e;cases e.2)]
theorem zR5 (hA:At st (rpW::R)):zdi st=false:=by unfold zdi;rw[hA.is,hA.is];decide +kernel
theorem zPX (ha:Out st (y::s::rpW::R) a (atm st))(hs:zNi s)(hb:∀z∈rpW::R,zNf z)(hy:(tkB y).k=5/\((tkB y).s.toList=[119,104,101,110]∨(tkB y).s.toList=[119,104,101,110,111,116]))(ht:eT t=.mk (zag (tkB y).s.toList 0) 0 s 0 0 [eT a]) :
 Out st (rpW::R) t (zfu atm st):=by
 rcases ha with ha|ha
 . rw[zND (.inl (by rw[ha];decide))];exact .inl ha
 have hb':∀z∈s::rpW::R,zNf z:=λz hz=>by
  rcases zNa.1 hz with rfl|hz
  . exact hs.ok
  exact hb z hz
 have hw:zdi (atm st).1=true:=by unfold zdi;rw[ha.at'.is,ha.at'.is,hy.1];rcases hy.2 with h|h <;> rw[h] <;> rfl
 have h1:=ha.at'.step hb';have h2:=h1.name hb hs.k;have h3:Yes st (rpW::R) t ((atm st).1.step.name.put ⟨(atm st).1.t.s,(atm st).1.t.a,(atm st).1.step.t.a,[(atm st).2],(atm st).1.step.t.s,0⟩):=by
  obtain⟨ta,q1,q2⟩:=ha.tr;refine zNt (us:=[ta]) h2 (by rw[St.name_op,St.step_op,ha.op]) (by rw[St.name_L,St.step_L];exact ha.L) (by rw[St.name_L,St.step_L];exact zQO q1) ?_
  show eT t=.mk (zag (atm st).1.t.s.toList 0) 0 (atm st).1.step.t.s 0 (zbF (atm st).1.t.s.toList 0) [eT ta];rw[q2,ha.at'.2.1.2.1,h1.2.1.2.1,hs.s,ht,zbK]
 unfold zfu
 show Out _ _ _ (zaY (1299+1) _);generalize 1299=f
 show Out _ _ _ (if _ then _ else atm st);rw[zM2 ⟨ha.at'.er,hw⟩,zPn (.inr (zR5 h3.at'))];exact .inr h3
theorem zQp (h:st.er≠0)(k:Nat)(l:Xu):(st.must k l).er=st.er:=(zlf h k l).1
theorem zNo {M:Fn}(hx:∀s:St,s.er≠0->(M s).1=s)(h:st.er=3):(M st).1.er=3:=by rw[hx st (by rw[h];decide)];exact h
theorem zNk {l:Xu}(h:st.er=3):(st.must k l).er=3:=by rw[zQp (by rw[h];decide)];exact h
def zNx:ByteArray:=⟨#[116,104,101,110]⟩
def zNs:ByteArray:=⟨#[101,108,115,101]⟩
def ifW:ByteArray:=⟨#[105,102]⟩
theorem zQN (hA:At st (ifW::(exT c++zNx::(exT a++zNs::(exT b++rpW::R)))))(hc:Rds d rx c zNx)(ha:Rds d rx a zNs)(hb:Rds d rx b rpW)(hx:∀s:St,s.er≠0->(rx s).1=s)(hz:∀z∈exT c++zNx::(exT a++zNs::(exT b++rpW::R)),zNf z)(hd:Dp (d+1) st)(ht:eT t=.mk 5 0 sE 0 0 [eT c,eT a,eT b]) :
 Out st (rpW::R) t (zdx rx st):=by
 have z1:∀z∈zNx::(exT a++zNs::(exT b++rpW::R)),zNf z:=λz h=>hz z (zMY.2 (.inr h));have z2:∀z∈exT a++zNs::(exT b++rpW::R),zNf z:=λz h=>z1 z (zMX _ h);have z3:∀z∈zNs::(exT b++rpW::R),zNf z:=λz h=>z2 z (zMY.2 (.inr h));have z4:∀z∈exT b++rpW::R,zNf z:=λz h=>z3 z (zMX _ h);have z5:∀z∈rpW::R,zNf z:=λz h=>z4 z (zMY.2 (.inr h));unfold zdx;simp only;have L1:(tkB zNx).k=5/\(tkB zNx).s.toList=[116,104,101,110]:=by decide +kernel
 have L2:(tkB zNs).k=5/\(tkB zNs).s.toList=[101,108,115,101]:=by decide +kernel
 rcases hA.enter hz with h1|⟨h1,ho⟩
 . exact .inl (zNo hx (zNk (zNo hx (zNk (zNo hx h1)))))
 rcases hc _ _ (hd.enter ho) z1 h1 with h2|h2
 . exact .inl (zNo hx (zNk (zNo hx (zNk h2))))
 generalize hC:rx st.enter=C at *;have m1:=h2.at'.must z2 L1.1 L1.2;have d1:Dp d (C.1.must 5 [116,104,101,110]):=by unfold Dp;rw[St.must_op,h2.op];exact hd.enter ho
 rcases ha _ _ d1 z3 m1 with h3|h3
 . exact .inl (zNo hx (zNk h3))
 generalize hB:rx (C.1.must 5 [116,104,101,110])=A at *;have m2:=h3.at'.must z4 L2.1 L2.2;have d2:Dp d (A.1.must 5 [101,108,115,101]):=by unfold Dp;rw[St.must_op,h3.op];exact d1
 rcases hb _ _ d2 z5 m2 with h4|h4
 . exact .inl h4
 right;obtain⟨tc,c1,c2⟩:=h2.tr;obtain⟨ta,a1,a2⟩:=h3.tr;obtain⟨tb,b1,b2⟩:=h4.tr;have l2:=h2.L;have l3:=h3.L;have l4:=h4.L;rw[St.enter_L] at l2;rw[St.must_L] at l3 l4;refine zNt (us:=[tc,ta,tb]) h4.at'.leave (by rw[St.leave_op,h4.op,St.must_op,h3.op,St.must_op,h2.op,St.enter_op];rfl) ((l2.trans l3).trans l4) (zTc (zAz (l3.trans l4) c1) (zAz l4 a1) b1) ?_
 show eT t=.mk (zag sIf.toList 0) 0 sE 0 (zbF sIf.toList 0) [eT tc,eT ta,eT tb];rw[ht,c2,a2,b2,show zag sIf.toList 0=5 by decide +kernel,show zbF sIf.toList 0=0 by decide +kernel]
def Sds (d:Nat)(M:Fn)(u:Tm):Prop:=∀(st:St) (R:Xl),Dp d st->(∀z∈R,zNf z)->At st (zvi u.k (exT u)++R)->Out st R u (M st)
def zNP:ByteArray:=⟨#[109,101,114,103,101]⟩
theorem zQX (hA:At st (zNP::s::(zvi a.k (exT a)++(zvi b.k (exT b)++R))))(hs:zNi s)(ha:Sds d (zch atm) a)(hb:Sds d (zch atm) b)(hx:∀s:St,s.er≠0->(zch atm s).1=s)(hz:∀z∈zvi a.k (exT a)++(zvi b.k (exT b)++R),zNf z)(hd:Dp (d+1) st)(ht:eT t=.mk 6 0 s 0 0 [eT a,eT b]) :
 Out st R t (zeE atm st):=by
 have z0:∀z∈s::(zvi a.k (exT a)++(zvi b.k (exT b)++R)),zNf z:=λz h=>by
  rcases zNa.1 h with rfl|h
  . exact hs.ok
  exact hz z h
 have z1:∀z∈zvi b.k (exT b)++R,zNf z:=λz h=>hz z (zMY.2 (.inr h));have z2:∀z∈R,zNf z:=λz h=>z1 z (zMY.2 (.inr h));unfold zeE;simp only;rcases hA.enter z0 with h1|⟨h1,ho⟩
 . refine .inl (zNo hx (zNo hx ?_));rw[(zbu.name st.enter (by rw[h1];decide)).1];exact h1
 have n1:=h1.name hz hs.k;have d1:Dp d st.enter.name:=by unfold Dp;rw[St.name_op];exact hd.enter ho
 rcases ha _ _ d1 z1 n1 with h2|h2
 . exact .inl (zNo hx h2)
 generalize hC:zch atm st.enter.name=C at *;have d2:Dp d C.1:=by unfold Dp;rw[h2.op];exact d1
 rcases hb _ _ d2 z2 h2.at' with h3|h3
 . exact .inl h3
 right;obtain⟨ta,a1,a2⟩:=h2.tr;obtain⟨tb,b1,b2⟩:=h3.tr;have l2:=h2.L;rw[St.name_L,St.enter_L] at l2;refine zNt (us:=[ta,tb]) h3.at'.leave (by rw[St.leave_op,h3.op,h2.op,St.name_op,St.enter_op];rfl) (l2.trans h3.L) (zQt (zAz h3.L a1) b1) ?_
 show eT t=.mk (zag zep.toList 0) 0 st.enter.t.s 0 (zbF zep.toList 0) [eT ta,eT tb];rw[ht,a2,b2,h1.2.1.2.1,hs.s,show zag zep.toList 0=6 by decide +kernel,show zbF zep.toList 0=0 by decide +kernel]
theorem zO9 (hA:At st (lpW::l))(hl:∀z∈l,zNf z)(hR:∀z∈R,zNf z)(hx:∀s:St,s.er≠0->(rx s).1=s)(h:At st.enter l->st.op+1<=16->Out st.enter (rpW::R) t (rx st.enter)):Out st R t (zfQ rx st):=by
 unfold zfQ;have L1:(tkB rpW).k=4/\(tkB rpW).s.toList=[41]:=by decide +kernel
 rcases hA.enter hl with h1|⟨h1,ho⟩
 . exact .inl (zNk (zNo hx h1))
 rcases h h1 ho with h2|h2
 . exact .inl (zNk h2)
 right;refine⟨(h2.at'.must hR L1.1 L1.2).leave,?_,?_,?_⟩
 . show ((rx st.enter).1.must 4 [41]).op-1=_;rw[St.must_op,h2.op,St.enter_op];rfl
 . show _ <+: ((rx st.enter).1.must 4 [41]).L;rw[St.must_L];have:=h2.L;rw[St.enter_L] at this;exact this
 obtain⟨t',q1,q2⟩:=h2.tr;exact⟨t',by show zeA ((rx st.enter).1.must 4 [41]).L _ _;rw[St.must_L];exact q1,q2⟩
end
section
variable {x:Xb} {l:Xl} {k:Nat} {st:St} {t:Tm}
def nmK (k:Nat):Bool:=k==3||k==4||k==6||k==7||k==8
inductive Rd:Tm->Prop
 | mk (k a:Nat) (s:Xb) (nm n:Nat) (ts:List Tm) (ar:arB k ts.length=true) (len:ts.length<=1200) (nk:nmK k=true->zNi s) (sk:nmK k=false->s=sE) (n0:k≠0->n=0) (nn:n<=9223372036854775807) (hr:∀t∈ts,Rd t):Rd (.mk k a s nm n ts)
theorem zSI:((List.range 24).all λk=>k==0||k==3||k==4||zQG (wd k) 4||zQG (wd k) 5)=true:=by decide +kernel
theorem zNZ (h:k<24)(h':¬(k=0∨k=3∨k=4)):zNf (wd k):=by
 have:=List.all_eq_true.1 zSI k (List.mem_range.2 h);simp only[Bool.or_eq_true,beq_iff_eq] at this;rcases this with (((h1|h1)|h1)|h1)|h1
 . exact absurd (.inl h1) h'
 . exact absurd (.inr (.inl h1)) h'
 . exact absurd (.inr (.inr h1)) h'
 . exact (zNh h1).1
 exact (zNh h1).1
theorem zOV:zNf lpW:=(zNh (k:=4) (by decide +kernel)).1
theorem zNq:zNf rpW:=(zNh (k:=4) (by decide +kernel)).1
theorem zPr:zNf coW:=(zNh (k:=4) (by decide +kernel)).1
theorem zSN:zNf ifW:=(zNh (k:=5) (by decide +kernel)).1
theorem zQh:zNf zNx:=(zNh (k:=5) (by decide +kernel)).1
theorem zP8:zNf zNs:=(zNh (k:=5) (by decide +kernel)).1
theorem zRt:zNf zNP:=(zNh (k:=5) (by decide +kernel)).1
abbrev Oks (l:Xl):Prop:=∀x∈l,zNf x
theorem zNe {l':Xl}(h:Oks l)(h':Oks l'):Oks (l++l'):=λx hx=>by
 rcases zMY.1 hx with hx|hx
 . exact h x hx
 exact h' x hx
theorem zNd (h:zNf x)(h':Oks l):Oks (x::l):=λz hz=>by
 rcases zNa.1 hz with rfl|hz
 . exact h
 exact h' z hz
theorem zNn:Oks []:=λx hx=>by cases hx
theorem zNl (h:zNf x):Oks [x]:=zNd h zNn
theorem zNG:∀(b:Bool) (l:List (List ByteArray)),(∀x∈l,Oks x)->Oks (zu6 b l)
 | _,[],_=>zNn
 | b,x::l,h=>by
   rw[zu6];refine zNe ?_ (zNe (h x (zMS ..)) (zNG true l (λy hy=>h y (zMX _ hy))));split
   . exact zNd zPr zNn
   exact zNn
theorem zOD {l:List (List ByteArray)}(h:∀x∈l,Oks x):Oks (zu5 l) :=
 zNe (zNl zOV) (zNe (zNG false l h) (zNl zNq))
theorem zNr {l:List (List ByteArray)}(h:∀x∈l,Oks x)(i:Nat):Oks (l.getD i []):=by
 rw[List.getD_eq_getElem?_getD];cases e:l[i]? with
 | none=>exact zNn
 | some y=>exact h y (zML e)
theorem zNW (h:Oks l):Oks (zvi k l):=by
 unfold zvi;split
 . exact zNe (zNl zOV) (zNe h (zNl zNq))
 exact h
theorem zPv {n:Nat}(h:arB k n=true):k<24:=by
 unfold arB at h
 repeat' split at h
 all_goals first|omega|cases h
theorem zQ2 {s:Xb}{ks:Xn}{l:List (List ByteArray)}(hk:k<24)(h5:5<=k)(hs:nmK k=true->zNi s)(h:∀x∈l,Oks x):Oks (opW k s ks l):=by
 unfold opW;split
 . exact zNe (zNl zSN) (zNe (zNr h 0) (zNe (zNl zQh) (zNe (zNr h 1) (zNe (zNl zP8) (zNr h 2)))))
 split
 . rename_i _ e
   exact zNe (zNd zRt (zNl (hs (by rw[e];rfl)).ok)) ((zNe (zNW (zNr h 0)) (zNW (zNr h 1))))
 split
 . rename_i _ _ e
   exact zNe (zNr h 0) (zNd (zNZ hk (by omega)) (zNd (hs (by rcases e with e|e <;> rw[e] <;> rfl)).ok zNn))
 split
 . exact zNe (zNl (zNZ hk (by omega))) (zNr h 0)
 exact zNe (zNr h 0) (zNe (zNl (zNZ hk (by omega))) (zNr h 1))
theorem zNm (h:Rd t):Oks (exT t):=by
 induction h with
 | mk k a s nm n ts ar len nk sk n0 nn hr ih =>
   have hl:∀x∈exL ts,Oks x:=λx hx=>by rw[zvt] at hx;obtain⟨u,hu,rfl⟩:=List.mem_map.1 hx;exact ih u hu
   have hk:=zPv ar;rw[exT];unfold exW;split
   . exact zNd (zOn nn).1 zNn
   split
   . exact zNd (zNZ hk (by omega)) zNn
   split
   . rename_i e;exact zNd (nk (by rw[e];rfl)).ok zNn
   split
   . rename_i e;exact zNe (zNl (nk (by rw[e];rfl)).ok) (zOD hl)
   exact zNe (zNl zOV) (zNe (zQ2 hk (by omega) nk hl) (zNl zNq))
def zO6 (y:Xb):Bool:=!((tkB y).k==4&&(tkB y).s.toList==[45])&&!((tkB y).k==5&&(tkB y).s.toList==[110,111,116])
theorem zOS {y:Xb}{R:Xl}(hA:At st (y::R))(h:zO6 y=true):¬(st.er=0/\(st.is 4 [45]||st.is 5 [110,111,116])=true):=by rintro⟨_,e⟩;rw[hA.is,hA.is] at e;unfold zO6 at h;cases h1:((tkB y).k==4&&(tkB y).s.toList==[45]) <;> cases h2:((tkB y).k==5&&(tkB y).s.toList==[110,111,116]) <;> rw[h1,h2] at h e <;> first|(simp at e;done)|(simp at h;done)
theorem zO1 (h:Rd t):∃y l,exT t=y::l/\zO6 y=true/\(t.k=3∨t.k=4∨¬(tkB y).k=2):=by
 cases h with
 | mk k a s nm n ts ar len nk sk n0 nn hr =>
   have hk:=zPv ar;have nam:nmK k=true->zO6 s=true:=λe=>by unfold zO6;rw[(nk e).k];rfl
   rw[exT];unfold exW;split
   . refine⟨_,_,rfl,?_,.inr (.inr ?_)⟩
     . unfold zO6;rw[(zOn nn).2.1];rfl
     rw[(zOn nn).2.1];decide
   split
   . rename_i e
     refine⟨_,_,rfl,?_,.inr (.inr ?_)⟩ <;> rcases e with e|e <;> rw[e] <;> decide +kernel
   split
   . rename_i e;exact⟨_,_,rfl,nam (by rw[e];rfl),.inl e⟩
   split
   . rename_i e;exact⟨_,_,rfl,nam (by rw[e];rfl),.inr (.inl e)⟩
   exact⟨_,_,rfl,by decide +kernel,.inr (.inr (by decide +kernel))⟩
def T3 (d:Nat):Fn:=zcT 3 (lev d).un
def T2 (d:Nat):Fn:=zcT 2 (T3 d)
def Te (d:Nat):Fn:=zdJ (T2 d)
def T1 (d:Nat):Fn:=zcT 1 (Te d)
def T0 (d:Nat):Fn:=zcT 0 (T1 d)
theorem zOf (d:Nat):(lev (d+1)).un=zdn (lev d).un (zfu (lev (d+1)).at'):=rfl
theorem zNT (d:Nat):(lev (d+1)).at'=zap (lev d).ex (lev d).at':=rfl
theorem zOR (d:Nat):(lev (d+1)).ex=zgk (lev d).ex (T0 (d+1)):=by unfold T0 T1 Te T2 T3;rw[zOf,zNT];simp only[lev]
def zTa:List ByteArray->Prop
 | []=>True
 | z::_=>((tkB z).k==4&&(tkB z).s.toList==[40])=false
def zNj (u:Tm):Prop:=∀(d:Nat) (st:St) (R:Xl),Dp d st->Oks R->(u.k=3->zTa R)->At st (exT u++R)->Out st R u ((lev d).at' st)
def zNg (y:Xb)(i:Nat):Bool :=
 !((tkB y).k==4&&(tkB y).s.toList==[40])&&!((tkB y).k==5&&((tkB y).s.toList==[119,104,101,110]||(tkB y).s.toList==[119,104,101,110,111,116]))
 && (i==0||!zco (tkB y) 3)&&(i<=1||!zco (tkB y) 2)&&(i<=2||!zcn (tkB y))&&(i<=3||!zco (tkB y) 1)&&(i<=4||!zco (tkB y) 0)&&(i<=5||!((tkB y).k==5&&(tkB y).s.toList==[102,98,121]))
theorem Dp.succ {d:Nat}(h:Dp d st):∃e,d=e+1:=⟨d-1,by have:=h.1;have:=h.2;omega⟩
variable {u:Tm} {y:Xb} {d:Nat}
theorem zNy {i:Nat}(h:zNg y i=true):((tkB y).k==4&&(tkB y).s.toList==[40])=false/\((tkB y).k==5&&((tkB y).s.toList==[119,104,101,110]||(tkB y).s.toList==[119,104,101,110,111,116]))=false
 /\ (1<=i->zco (tkB y) 3=false)/\(2<=i->zco (tkB y) 2=false)/\(3<=i->zcn (tkB y)=false)/\(4<=i->zco (tkB y) 1=false)/\(5<=i->zco (tkB y) 0=false)/\(6<=i->((tkB y).k==5&&(tkB y).s.toList==[102,98,121])=false):=by
 unfold zNg at h;simp only[Bool.and_eq_true,Bool.or_eq_true,Bool.not_eq_true',beq_iff_eq,decide_eq_true_eq] at h;obtain⟨⟨⟨⟨⟨⟨⟨h1,h2⟩,h3⟩,h4⟩,h5⟩,h6⟩,h7⟩,h8⟩:=h;refine⟨h1,h2,λe=>h3.resolve_left (by omega),λe=>h4.resolve_left (by omega),λe=>h5.resolve_left (by omega),λe=>h6.resolve_left (by omega),λe=>h7.resolve_left (by omega),λe=>h8.resolve_left (by omega)⟩
theorem zOO (ha:zNj u)(hu:Rd u)(hy:zNg y 0=true):Rds d (lev d).un u y:=λst R hd hz hA=>by obtain⟨e,rfl⟩:=hd.succ;obtain⟨p1,p2,_⟩:=zNy hy;obtain⟨h,l,hh,hb,_⟩:=zO1 hu;have hA':=hA;rw[hh] at hA';rw[zOf,zN3 (zOS hA' hb)];exact zOx (ha _ st _ hd hz (λ_=>p1) hA) p2
theorem zQL (ha:zNj u)(hu:Rd u)(hy:zNg y 1=true)(h0:zNg y 0=true):Rds d (T3 d) u y:=λst R hd hz hA=>zNv (zOO ha hu h0 st R hd hz hA) ((zNy hy).2.2.1 (zMK _))
theorem zQQ (ha:zNj u)(hu:Rd u)(hy:zNg y 2=true)(h1:zNg y 1=true)(h0:zNg y 0=true):Rds d (T2 d) u y:=λst R hd hz hA=>zNv (zQL ha hu h1 h0 st R hd hz hA) ((zNy hy).2.2.2.1 (zMK _))
theorem zQD (ha:zNj u)(hu:Rd u)(hy:zNg y 3=true)(h2:zNg y 2=true)(h1:zNg y 1=true)(h0:zNg y 0=true):Rds d (Te d) u y:=λst R hd hz hA=>zPS (zQQ ha hu h2 h1 h0 st R hd hz hA) ((zNy hy).2.2.2.2.1 (zMK _))
theorem zQy (ha:zNj u)(hu:Rd u)(hy:zNg y 4=true)(h3:zNg y 3=true)(h2:zNg y 2=true)(h1:zNg y 1=true)(h0:zNg y 0=true):Rds d (T1 d) u y:=λst R hd hz hA=>zNv (zQD ha hu h3 h2 h1 h0 st R hd hz hA) ((zNy hy).2.2.2.2.2.1 (zMK _))
theorem zRT (ha:zNj u)(hu:Rd u)(hy:zNg y 5=true)(h4:zNg y 4=true)(h3:zNg y 3=true)(h2:zNg y 2=true)(h1:zNg y 1=true)(h0:zNg y 0=true):Rds d (T0 d) u y:=λst R hd hz hA=>zNv (zQy ha hu h4 h3 h2 h1 h0 st R hd hz hA) ((zNy hy).2.2.2.2.2.2.1 (zMK _))
theorem zOQ (ha:zNj u)(hu:Rd u)(hy:zNg y 6=true)(h5:zNg y 5=true)(h4:zNg y 4=true)(h3:zNg y 3=true)(h2:zNg y 2=true)(h1:zNg y 1=true)(h0:zNg y 0=true):Rds d (lev d).ex u y:=λst R hd hz hA=>by obtain⟨e,rfl⟩:=hd.succ;rw[zOR];exact zPM (zRT ha hu h5 h4 h3 h2 h1 h0 st R hd hz hA) ((zNy hy).2.2.2.2.2.2.2 (zMK _))
end
section
variable {ra rx:Fn}
section
variable {st:St} {R l:Xl} {t:Tm} {d:Nat}
theorem zSw (h:Out st (rpW::R) t (T0 (d+1) st)):Out st (rpW::R) t ((lev (d+1)).ex st):=by rw[zOR];exact zPM h (by decide +kernel)
theorem zSv (h:Out st (rpW::R) t (T1 (d+1) st)):Out st (rpW::R) t ((lev (d+1)).ex st):=zSw (zNv h (by decide +kernel))
theorem zSB (h:Out st (rpW::R) t (Te (d+1) st)):Out st (rpW::R) t ((lev (d+1)).ex st):=zSv (zNv h (by decide +kernel))
theorem zSJ (h:Out st (rpW::R) t (T2 (d+1) st)):Out st (rpW::R) t ((lev (d+1)).ex st):=zSB (zPS h (by decide +kernel))
theorem zSu (h:Out st (rpW::R) t (T3 (d+1) st)):Out st (rpW::R) t ((lev (d+1)).ex st):=zSJ (zNv h (by decide +kernel))
theorem zSy (h:Out st (rpW::R) t ((lev (d+1)).un st)):Out st (rpW::R) t ((lev (d+1)).ex st):=zSu (zNv h (by decide +kernel))
theorem zSx (hb:¬(st.er=0/\(st.is 4 [45]||st.is 5 [110,111,116])=true))(h:Out st (rpW::R) t (zfu (lev (d+1)).at' st)):Out st (rpW::R) t ((lev (d+1)).ex st):=zSy (by rw[zOf,zN3 hb];exact h)
theorem zSG (hb:¬(st.er=0/\(st.is 4 [45]||st.is 5 [110,111,116])=true))(h:Out st (rpW::R) t ((lev (d+1)).at' st)):Out st (rpW::R) t ((lev (d+1)).ex st):=zSx hb (zOx h (by decide +kernel))
theorem zFX (hA:At st (ifW::l)):zap rx ra st=zdx rx st:=by unfold zap;rw[zM1 (λe=>e hA.er),hA.2.1.1,hA.is,hA.is,hA.is,hA.is,hA.is,zM1 (by decide +kernel),zM1 (by decide +kernel),zM1 (by decide +kernel),zM1 (by decide +kernel),zM1 (by decide +kernel),zM2 (by decide +kernel)]
theorem zDv (hA:At st (zNP::l)):zap rx ra st=zeE ra st:=by unfold zap;rw[zM1 (λe=>e hA.er),hA.2.1.1,hA.is,hA.is,hA.is,hA.is,hA.is,zM1 (by decide +kernel),zM1 (by decide +kernel),zM1 (by decide +kernel),zM1 (by decide +kernel),zM1 (by decide +kernel),zM1 (by decide +kernel),zM2 (by decide +kernel)]
theorem zQm (hA:At st (lpW::l)):zap rx ra st=zfQ rx st:=by unfold zap;rw[zM1 (λe=>e hA.er),hA.2.1.1,hA.is,zM1 (by decide +kernel),zM1 (by decide +kernel),zM2 (by decide +kernel)]
theorem zSf {d:Nat}(s:St)(h:s.er≠0):(zch (lev d).at' s).1=s:=by unfold zch;rw[zM2 (.inl h)];exact (zNQ d h).2.2
variable {u:Tm}
theorem zPs (ha:zNj u)(hu:Rd u):Rds d (lev d).ex u rpW:=zOQ ha hu (by decide +kernel) (by decide +kernel) (by decide +kernel) (by decide +kernel) (by decide +kernel) (by decide +kernel) (by decide +kernel)
theorem zSm (ha:zNj u)(hu:Rd u):Rds d (lev d).ex u zNx:=zOQ ha hu (by decide +kernel) (by decide +kernel) (by decide +kernel) (by decide +kernel) (by decide +kernel) (by decide +kernel) (by decide +kernel)
theorem zSh (ha:zNj u)(hu:Rd u):Rds d (lev d).ex u zNs:=zOQ ha hu (by decide +kernel) (by decide +kernel) (by decide +kernel) (by decide +kernel) (by decide +kernel) (by decide +kernel) (by decide +kernel)
theorem zSR (ha:zNj u)(hu:Rd u):Rds d (lev d).ex u coW:=zOQ ha hu (by decide +kernel) (by decide +kernel) (by decide +kernel) (by decide +kernel) (by decide +kernel) (by decide +kernel) (by decide +kernel)
theorem zPK {s:Xb}(hs:zNi s)(hA:At st (s::R))(hz:Oks R)(ht:eT t=.mk 3 0 s 0 0 []):Out st R t (zjx st):=by
 right;unfold zjx;refine zNt (us:=[]) (hA.step hz) (St.step_op st) (by rw[St.step_L];exact List.prefix_rfl) (Trs.nil _) ?_
 show eT t=.mk (zag zfR.toList 0) 0 st.t.s 0 (zbF zfR.toList 0) [];rw[hA.2.1.2.1,hs.s,ht,show zag zfR.toList 0=3 by decide +kernel,show zbF zfR.toList 0=0 by decide +kernel]
theorem zPa (ha:zNj u)(hu:Rd u):Sds d (zch (lev d).at') u:=λst R hd hz hA=>by
 obtain⟨e,rfl⟩:=hd.succ;unfold zvi at hA;by_cases h4:u.k=4
 . rw[zM2 h4] at hA;have hA':At st (lpW::(exT u++rpW::R)):=by simpa using hA
   have hk:¬st.t.k=2:=(by rw[hA'.2.1.1];decide +kernel);unfold zch;rw[zM2 (.inr hk),zNT,zQm hA'];have hx:Oks (exT u++rpW::R):=zNe (zNm hu) (zNd zNq hz);exact zO9 hA' hx hz (λs h=>(zNQ e h).1) (λh1 ho=>zPs ha hu _ _ (hd.enter ho) (zNd zNq hz) h1)
 rw[zM1 h4] at hA;obtain⟨h,l,hh,hb,h3⟩:=zO1 hu;have hA':=hA;rw[hh] at hA';unfold zch;by_cases h3':u.k=3
 . cases hu with
   | mk k a s nm n ts ar len nk sk n0 nn hr =>
     have hk3:k=3:=h3';subst hk3;have he:exT (.mk 3 a s nm n ts)=[s]:=(by rw[exT];rfl);rw[he] at hA;have hs:=nk rfl;have hts:ts=[]:=List.length_eq_zero_iff.1 (by simpa [arB] using ar);rw[zM1 (by
      have h1:=hA.er;have h2:st.t.k=2:=(by rw[hA.2.1.1];exact hs.k);rintro (e|e)
      . exact e h1
      exact e h2)]
     exact zPK hs hA hz (by rw[eT,zNC,hts,n0 (by decide)];rfl)
 have hk:¬st.t.k=2:=by rw[hA'.2.1.1];exact h3.elim (λe=>absurd e h3') (λe=>e.elim (λe=>absurd e h4) id)
 rw[zM2 (.inr hk)];exact ha _ st R hd hz (λe=>absurd e h3') hA
end
theorem ar1 {l:List Tm}(h:(l.length==1)=true):∃a,l=[a]:=by
 match l,h with
 | [a],_=>exact⟨a,rfl⟩
theorem ar2 {l:List Tm}(h:(l.length==2)=true):∃a b,l=[a,b]:=by
 match l,h with
 | [a,b],_=>exact⟨a,b,rfl⟩
theorem ar3 {l:List Tm}(h:(l.length==3)=true):∃a b c,l=[a,b,c]:=by
 match l,h with
 | [a,b,c],_=>exact⟨a,b,c,rfl⟩
end
section
section
variable {k a nm:Nat} {s:Xb} {x y:Tm} {R:Xl} {ks:Xn}
theorem zN8 (hs:s=sE)(h1:zag (tkB (wd k)).s.toList 0=k)(h2:zbF (tkB (wd k)).s.toList 0=0):eT (.mk k a s nm 0 [x,y])=.mk (zag (tkB (wd k)).s.toList 0) 0 sE 0 (zbF (tkB (wd k)).s.toList 0) [eT x,eT y]:=by rw[h1,h2,eT,eL,eL,eL,hs]
theorem zQa (h:k=9∨12<=k):opW k s ks (exL [x,y])++rpW::R=exT x++wd k::(exT y++rpW::R):=by unfold opW;rw[zM1 (by omega),zM1 (by omega),zM1 (by omega),zM1 (by omega)];simp[exL]
theorem zSs (h:k=10∨k=11):opW k s ks (exL [x])++rpW::R=wd k::(exT x++rpW::R):=by unfold opW;rw[zM1 (by omega),zM1 (by omega),zM1 (by omega),zM2 h];simp[exL]
theorem zRr (h:k=7∨k=8):opW k s ks (exL [x])++rpW::R=exT x++wd k::s::rpW::R:=by unfold opW;rw[zM1 (by omega),zM1 (by omega),zM2 h];simp[exL]
end
section
variable {st:St} {R:Xl} {d:Nat} {k a nm:Nat} {s:Xb} {x y:Tm}
theorem zOL {u:Tm}(hu:Rd u)(hz:Oks R):Oks (exT u++rpW::R):=zNe (zNm hu) (zNd zNq hz)
theorem zRG (hx:Rd x)(hy:Rd y)(ax:zNj x)(ay:zNj y)(hs:s=sE)(hk:12<=k)(hk':k<24)(hz:Oks R)(hd:Dp (d+1) st)(hA:At st (exT x++wd k::(exT y++rpW::R))):Out st (rpW::R) (.mk k a s nm 0 [x,y]) ((lev (d+1)).ex st):=by
 have zr:=zNd zNq hz;have zy:=zOL hy hz;have zw:Oks (wd k::(exT y++rpW::R)):=zNd (zNZ hk' (by omega)) zy;rcases (by omega:k=12∨(k=13∨k=14)∨(k=15∨k=16∨k=17∨k=18)∨(k=19∨k=20)∨k=21∨k=22∨k=23) with e|e|e|e|e
 . subst e;exact zSv (zOm (n:=1) (zQD ax hx (by decide +kernel) (by decide +kernel) (by decide +kernel) (by decide +kernel) st _ hd zw hA) (zQD ay hy (by decide +kernel) (by decide +kernel) (by decide +kernel) (by decide +kernel)) zy hd (by decide +kernel) (by decide +kernel) (zN8 hs (by decide +kernel) (by decide +kernel)))
 . rcases e with e|e <;> subst e <;>
   exact zSw (zOm (n:=0) (zQy ax hx (by decide +kernel) (by decide +kernel) (by decide +kernel) (by decide +kernel) (by decide +kernel) st _ hd zw hA) (zQy ay hy (by decide +kernel) (by decide +kernel) (by decide +kernel) (by decide +kernel) (by decide +kernel)) zy hd (by decide +kernel) (by decide +kernel) (zN8 hs (by decide +kernel) (by decide +kernel)))
 . rcases e with e|e|e|e <;> subst e <;>
   exact zSB (zSp (zQQ ax hx (by decide +kernel) (by decide +kernel) (by decide +kernel) st _ hd zw hA) (zQQ ay hy (by decide +kernel) (by decide +kernel) (by decide +kernel)) zy hd (by decide +kernel) (zN8 hs (by decide +kernel) (by decide +kernel)))
 . rcases e with e|e <;> subst e <;>
   exact zSJ (zOm (n:=2) (zQL ax hx (by decide +kernel) (by decide +kernel) st _ hd zw hA) (zQL ay hy (by decide +kernel) (by decide +kernel)) zy hd (by decide +kernel) (by decide +kernel) (zN8 hs (by decide +kernel) (by decide +kernel)))
 rcases e with e|e|e <;> subst e <;>
 exact zSu (zOm (n:=3) (zOO ax hx (by decide +kernel) st _ hd zw hA) (zOO ay hy (by decide +kernel)) zy hd (by decide +kernel) (by decide +kernel) (zN8 hs (by decide +kernel) (by decide +kernel)))
theorem zQA {n:Nat}{ts:List Tm}(hR:Rd (.mk k a s nm n ts))(ih:∀u∈ts,zNj u)(h5:5<=k)(hz:Oks R)(hd:Dp (d+1) st)(hA:At st (opW k s (ts.map Tm.k) (exL ts)++rpW::R)):Out st (rpW::R) (.mk k a s nm n ts) ((lev (d+1)).ex st):=by
 cases hR with
 | mk _ _ _ _ _ _ ar len nk sk n0 nn hr =>
   have hk:=zPv ar;have hn:n=0:=n0 (by omega);subst hn;have zr:=zNd zNq hz;have hx:∀s:St,s.er≠0->((lev d).ex s).1=s:=λs h=>(zNQ d h).1;rcases (by omega:k=5∨k=6∨(k=7∨k=8)∨k=9∨(k=10∨k=11)∨12<=k) with e|e|e|e|e|e
   . subst e;obtain⟨c,x,y,rfl⟩:=ar3 (show (ts.length==3)=true from ar);have hc:=hr c (by simp);have hx':=hr x (by simp);have hy:=hr y (by simp);have hA':At st (ifW::(exT c++zNx::(exT x++zNs::(exT y++rpW::R)))):=(by have e:opW 5 s ([c,x,y].map Tm.k) (exL [c,x,y])++rpW::R=ifW::(exT c++zNx::(exT x++zNs::(exT y++rpW::R))):=(by simp[opW,exL,ifW,zNx,zNs]);rw[e] at hA;exact hA);refine zSG (zOS hA' (by decide +kernel)) ?_;rw[zNT,zFX hA'];exact zQN hA' (zSm (ih c (by simp)) hc) (zSh (ih x (by simp)) hx') (zPs (ih y (by simp)) hy) hx (zNe (zNm hc) (zNd zQh (zNe (zNm hx') (zNd zP8 (zOL hy hz))))) hd (by rw[eT,eL,eL,eL,eL,sk rfl])
   . subst e;obtain⟨x,y,rfl⟩:=ar2 (show (ts.length==2)=true from ar);have hx':=hr x (by simp);have hy:=hr y (by simp);have hA':At st (zNP::s::(zvi x.k (exT x)++(zvi y.k (exT y)++rpW::R))):=(by have e:opW 6 s ([x,y].map Tm.k) (exL [x,y])++rpW::R=zNP::s::(zvi x.k (exT x)++(zvi y.k (exT y)++rpW::R)):=(by simp[opW,exL,zNP]);rw[e] at hA;exact hA);refine zSG (zOS hA' (by decide +kernel)) ?_;rw[zNT,zDv hA'];exact zQX hA' (nk rfl) (zPa (ih x (by simp)) hx') (zPa (ih y (by simp)) hy) zSf (zNe (zNW (zNm hx')) (zNe (zNW (zNm hy)) zr)) hd (by rw[eT,eL,eL,eL])
   . obtain⟨x,rfl⟩:∃x,ts=[x]:=by rcases e with e|e <;> subst e <;> exact ar1 (show (ts.length==1)=true from ar)
     have hx':=hr x (by simp);rw[zRr e] at hA;obtain⟨h,l,hh,hb,_⟩:=zO1 hx';have hA':=hA;rw[hh] at hA';refine zSx (zOS hA' hb) ?_;have hs:zNi s:=nk (by rcases e with e|e <;> subst e <;> rfl);have zw:Oks (wd k::s::rpW::R):=zNd (zNZ hk (by omega)) (zNd hs.ok zr);rcases e with e|e <;> subst e
     . exact zPX (ih x (by simp) _ st _ hd zw (λ_=>by show _=false;decide +kernel) hA) hs zr (by decide +kernel) (by rw[eT,eL,eL,show zag (tkB (wd 7)).s.toList 0=7 by decide +kernel])
     exact zPX (ih x (by simp) _ st _ hd zw (λ_=>by show _=false;decide +kernel) hA) hs zr (by decide +kernel) (by rw[eT,eL,eL,show zag (tkB (wd 8)).s.toList 0=8 by decide +kernel])
   . subst e;obtain⟨x,y,rfl⟩:=ar2 (show (ts.length==2)=true from ar);have hx':=hr x (by simp);have hy:=hr y (by simp);rw[zQa (.inl rfl)] at hA;have zw:Oks (wd 9::(exT y++rpW::R)):=zNd (zNZ hk (by omega)) (zOL hy hz);rw[zOR];exact zSc (zRT (ih x (by simp)) hx' (by decide +kernel) (by decide +kernel) (by decide +kernel) (by decide +kernel) (by decide +kernel) (by decide +kernel) st _ hd zw hA) (zPs (ih y (by simp)) hy) hx (zOL hy hz) hd (by decide +kernel) (by rw[eT,eL,eL,eL,sk rfl])
   . obtain⟨x,rfl⟩:∃x,ts=[x]:=by rcases e with e|e <;> subst e <;> exact ar1 (show (ts.length==1)=true from ar)
     have hx':=hr x (by simp);rw[zSs e] at hA;refine zSy ?_;rw[zOf];have hs:s=sE:=sk (by rcases e with e|e <;> subst e <;> rfl);refine zQ0 hA (zOO (ih x (by simp)) hx' (by decide +kernel)) (λs h=>(zNQ d h).2.1) (zOL hx' hz) hd ?_;rcases e with e|e <;> subst e
     . exact .inl ⟨by decide +kernel,by decide +kernel,by rw[eT,eL,eL,hs]⟩
     exact .inr ⟨by decide +kernel,by decide +kernel,by rw[eT,eL,eL,hs]⟩
   have h2:(ts.length==2)=true:=(by unfold arB at ar;rw[zM1 (by omega),zM1 (by omega),zM1 (by omega),zM1 (by omega),zM1 (by omega),zM1 (by omega),zM1 (by omega),zM2 (by omega)] at ar;exact ar);obtain⟨x,y,rfl⟩:=ar2 h2;rw[zQa (.inr e)] at hA;have hs:s=sE:=sk (by
    unfold nmK;simp only[Bool.or_eq_false_iff,zM0];omega)
   exact zRG (hr x (by simp)) (hr y (by simp)) (ih x (by simp)) (ih y (by simp)) hs e hk hz hd hA
end
end
end Go.Proofs.YtbicmofihhjgbaaGreatDoor
