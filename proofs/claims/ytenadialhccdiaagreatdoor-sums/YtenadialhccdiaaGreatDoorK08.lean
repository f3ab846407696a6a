/- Part 9. -/
import Derived.Carry
import Derived.Test.YtenadialhccdiaaGreatDoorK07
set_option maxRecDepth 100000
set_option maxHeartbeats 8000000
namespace Go.Proofs.YtenadialhccdiaaGreatDoor
open Go.Proofs.Tryz
section
open Go.RowKit
variable {xs:Xm} {N cp2 n2:Nat} {x2:Xp} {d:Sc} {ev:Xv} {W w w1:Xw}
attribute [local go_sem ↓] Go.wp_at_zero Go.wp_at_succ
structure Got (w:Xw) (N:Nat) (d:Sc) (X n2:Nat) (x2:Xp) (cp2:Nat) (W:Xw):Prop where
 box:W.heap[X]?=some (.cells #[xE x2 d cp2,xP n2] 79 (0,0))
 sc:ScV W N d (xE x2 d cp2) (xP n2)
 bel:xB w W
theorem zow (hB:xB w W)(hB1:xB W w1)(hs:ScV w1 N d (xE x2 d cp2) (xP n2))(hN:N<=w.heap.size) :
 Got w N d w1.heap.size n2 x2 cp2 (w1.alloc (.cells #[xE x2 d cp2,xP n2] 79)):=by
 have h1:=hB.size;have h2:=hB1.size;exact⟨zc _ _,hs.old (zeW (by omega) _),(hB.trans (hB1.mono h1)).alloc (by omega) _⟩
theorem zos {u0 u1:Xv}(hB:xB w W)(hB1:Below (W.alloc (.cells #[u0,u1] 79)).heap.size (W.alloc (.cells #[u0,u1] 79)) w1)(hs:ScV w1 N d (xE x2 d cp2) (xP n2))(hN:N<=w.heap.size) :
 Got w N d W.heap.size n2 x2 cp2 ((w1.setCell (xD W.heap.size 0) (xE x2 d cp2)).setCell (xD W.heap.size 1) (xP n2)):=by
 have h1:=hB.size;have hb:xH w1 W.heap.size #[u0,u1] 79:=(hB1.block _ (by rw[zsb];omega)).trans (zc W _);have h2:=zh (w1.setCell (xD W.heap.size 0) (xE x2 d cp2)) W.heap.size 1 (xP n2) (zh w1 W.heap.size 0 (xE x2 d cp2) hb);refine⟨h2,hs.old (λk hk=>?_),zC (zC (hB.trans ((zE hB1).mono h1)) h1 _) h1 _⟩;exact (zr (by omega) rfl).trans (zr (by omega) rfl)
theorem zbD {c:Sc}{nv:Xv}(s:Xb)(a:Int)(w:Xw)(HSc:ScV w N c ev nv)(hN:N<=w.heap.size)(hh:c.has s=true) :
 xK 97 #[.agg #[ev,nv],.agg #[.string s,xI a]] w (λe w'=>e=.returned (xI (c.decl s:Nat))/\xB w w'):=by
 obtain⟨xe,cpe,nb,rfl,rfl,hnb⟩:=HSc.shape;obtain⟨nb',vs,qv,xs,e9,HN⟩:=HSc.nd;cases e9;obtain⟨i,hi⟩:∃i,c.nd.find s=some i:=Option.isSome_iff_exists.1 hh;have hlt:=(zgO hi).2.1;obtain⟨v,hv⟩:∃v,c.nd.vars[i]?=some v:=⟨_,zsc (by omega)⟩;have hidx:c.idx s=i:=by unfold Sc.idx;rw[hi];rfl
 have HE:Hid (c.decl s=tyV v):=by unfold Hid Sc.decl;rw[hidx,hv];rfl
 obtain⟨xv,cpv,rfl⟩:=zB HN.vown;obtain⟨g,rfl,c0,c1,c2,c3,c4,c5,c6⟩:=zaM HN.vown hv;have hfew:=HN.few;have hgN:=HN.vlo g rfl;have i1:(i:Int)<(c.nd.vars.length:Int):=by omega
 have i0:(0:Int)<=(i:Int):=by omega
 go_enter func97,ntmps97;go_upto_region 1 with fail;refine zn (λW=>(W.heap[w.heap.size]?=some (.cells #[xE xe c cpe,xP nb] 188 (0,0))/\W.heap[w.heap.size+1]?=some (.cells #[.string s,xI a] 84 (0,0)))/\xB w W) ⟨⟨(zWP _ _ _ (by simp)).trans (zc w _),by have:=zc (w.alloc (.cells #[xE xe c cpe,xP nb] 188)) (.cells #[.string s,xI a] 84);rwa [zsb] at this⟩,zaD w _ _⟩ ?_;rintro W ⟨⟨hs,hs2⟩,HB⟩;obtain⟨s0,s1,sf,sz⟩:=zp hs;obtain⟨r0,r1,rf,rz⟩:=zp hs2;obtain⟨m0,m1,m2,m3,m4,m5,mf,mz⟩:=zt ((HB.block nb (by omega)).trans HN.blk);have c2':=zd HB c2 (by omega);have hO:=zm HB hN;have HI:=za (zaz s a W.drew (HSc.old (w':=W.drew) hO) (by show N<=W.heap.size;omega));rw[hidx] at HI
 go_region_held3 (λw'=>w'.cell? (xD w.heap.size 0)=some (xE xe c cpe)/\w'.cell? (xD w.heap.size 1)=some (xP nb)/\w'.cell? (xD (w.heap.size+1) 0)=some (.string s)/\w'.cell? (xD (w.heap.size+1) 1)=some (xI a)/\w'.cell? (xD nb 2)=some (xS g c.nd.vars.length cpv)/\w'.cell? (xD g (i*7+2))=some (xI (zaK v:Nat)))
  (first|(with_reducible (refine⟨?_,?_,?_,?_,?_,?_⟩ <;> repeat (first|assumption|refine zg ?_|refine zj _ ?_|refine zk (by omega) ?_|refine zd HB1.o ?_ (by first|omega|(rw[zsb];omega)))))|go_keep)
  (first
    | (go_at_call 65;refine HI.o.mono ?_;rintro e w1 ⟨rfl,hB1⟩;have HB1:=za (zw hB1)))
 all_goals go_wp2_with fail
 all_goals go_ret
 all_goals exact⟨by rw[HE.o];rfl,HB.trans (HB1.o.mono (by omega))⟩
theorem znU {B g n cap size:Nat}{e:Xy}(h:w.ownsRow B e size (xS g n cap) n xs):n<=cap/\cap<=9223372036854775807:=by
 rcases h.2 with ⟨h2,_⟩|⟨g',cap',cur,hv,hg,hh,h3,h4,h5,h6⟩
 . cases h2
 cases hv;unfold maxLen at h4;exact⟨h3,by omega⟩
theorem zdM {n:Nod}{nb:Nat}{vs:Xv}(w:Xw)(h:NT w N n nb vs ev xs)(hio:n.ins+n.outs<=n.vars.length)(hlt:n.ins<n.vars.length) :
 xK 137 #[xP nb] w (λe w'=>∃g cp,vs=xS g n.vars.length cp/\e=.returned (.slice (some (xD g (n.ins*7))) n.outs (cp-n.ins))/\xB w w'):=by
 obtain⟨g,cp,rfl,_⟩:=zM h.vown (by omega);obtain⟨h0,h1,h2,h3,h4,h5,hf,hz⟩:=zt h.blk;have hcap:=znU h.vown;have hfew:=h.few;have i0:(0:Int)<=(n.ins:Int):=by omega
 have i1:(n.ins:Int)<=(n.ins:Int)+(n.outs:Int):=by omega
 have i2:(n.ins:Int)+(n.outs:Int)<=(cp:Int):=by omega
 have i3:¬(n.ins=cp):=by omega
 have i4:¬((n.ins:Int)=(cp:Int)):=by omega
 have i5:¬(cp=n.ins):=by omega
 have i6:((n.ins:Int)+(n.outs:Int)).toNat=n.ins+n.outs:=by omega
 have i7:IntKind.i64.wrap ((n.ins:Int)+(n.outs:Int))=(n.ins:Int)+(n.outs:Int):=by rw[IntKind.wrap_i64];omega
 have i8:(0:Int)<=(n.ins:Int)+(n.outs:Int):=by omega
 go_enter func137,ntmps137;go_upto_region 1 with fail
 go_region_held3 (λw'=>w'.cell? (xD nb 2)=some (xS g n.vars.length cp)/\w'.cell? (xD nb 3)=some (xI n.ins)/\w'.cell? (xD nb 4)=some (xI n.outs))
  (first|(with_reducible (refine⟨?_,?_,?_⟩ <;> repeat (first|assumption|refine zg ?_|refine zj _ ?_|refine zk (by omega) ?_)))|go_keep) (fail)
 all_goals go_wp2_with fail
 all_goals go_ret
 all_goals exact⟨_,_,rfl,rfl,zo (zWQ _ _)⟩
end
section
open Go.RowKit
variable {N:Nat} {c:Sc} {t u:Tm}
attribute [local go_sem ↓] Go.wp_at_zero Go.wp_at_succ
structure zeJ (n:Nod):Prop where
 ins:1<=n.ins
 outs:1<=n.outs
 io:n.ins+n.outs<=n.vars.length
 few:n.vars.length<=16
 eqs:∀q∈n.eqs,q.ns.length=q.ps.length/\1<=q.ns.length/\Wf q.r/\(2<=q.ns.length->q.r.k=4)
structure zbr (c:Sc):Prop where
 er:∀n∈c.er,zeJ n
 nd:zeJ c.nd
 few:c.er.length<=6
theorem zbr.called {d:Sc}(h:zbr c){s:Xb}(hd:c.called s=some d):zbr d/\d.nd∈c.er:=by
 unfold Sc.called at hd;split at hd
 . cases hd
 rename_i i hi
 split at hd
 . cases hd
 rename_i n hn
 cases hd;have hm:=zML hn;exact⟨⟨λm hm'=>h.er m (List.mem_of_mem_take hm'),h.er n hm,by have:=h.few;simp;omega⟩,hm⟩
def zdg (c:Sc)(t:Tm):Prop:=∀u∈zaV za5 t,(zaJ u.k=true->c.has u.s=true)/\(u.k=4->∃d,c.called u.s=some d/\d.nd.ins=u.ts.length)/\arB u.k u.ts.length=true
theorem zn7 {g:Tm->Bool}{ts:List Tm}(ht:t∈ts)(hu:u∈zaV g t):u∈zdk g ts:=by
 induction ts with
 | nil=>simp at ht
 | cons x ts ih =>
   rw[zdk];rcases zNa.1 ht with rfl|ht
   . exact List.mem_append_left _ hu
   exact List.mem_append_right _ (ih ht)
theorem zey (g:Tm->Bool)(t:Tm):t∈zaV g t:=by
 cases t with
 | mk k a s nm n ts=>rw[zaV];simp
theorem zdg.sub (h:zdg c t)(hu:u∈t.ts):zdg c u:=by
 intro x hx;refine h x ?_;cases t with
 | mk k a s nm n ts => rw[zaV];refine zMX _ ?_;rw[zM2 (show za5 _=true from rfl)];exact zn7 hu hx
theorem zdU:∀{ts:List Tm} {i:Nat} {t:Tm},ts[i]?=some t->zbh c ts i=zaj c t:=by
 intro ts;induction ts with
 | nil=>intro i t h;simp at h
 | cons x ts ih =>
   intro i t h;cases i with
   | zero=>simp at h;subst h;rw[zbh]
   | succ i=>rw[zbh];exact ih (by simpa using h)
theorem TT.arg {w:Xw}{vl:Nat}{x:Xp}{cp:Nat}{vs:Xm}{i:Nat}(hown:w.ownsRow 0 156 1 (.slice x vl cp) vl vs)(hl:vs.length=t.ts.length)(hs:∀(i:Nat) (u:Tm) (x:Xv),t.ts[i]?=some u->vs[i]?=some x->TT w N u x)(hu:t.ts[i]?=some u):∃g ub,x=some (xD g 0)/\xC w g i (xP ub)/\TT w N u (xP ub)/\ub<N:=by have hi:=(zMJ.1 hu).1;have hv:vs[i]?=some vs[i]:=zsc (by omega);obtain⟨g,rfl,hc⟩:=zbE hown hv;have ht:=hs i u _ hu hv;obtain⟨ub,_,_,e,hub,_⟩:=ht.ptr;rw[e] at hc ht;exact⟨g,ub,rfl,hc,ht,hub⟩
theorem zhl {n:Nod}(h:zeJ n):∃v,n.vars[n.ins]?=some v/\n.results[0]?=some v:=by have h1:=h.io;have h2:=h.outs;refine⟨n.vars[n.ins]'(by omega),zsc _,?_⟩;unfold Nod.results;rw[List.getElem?_take,zM2 (by omega),List.getElem?_drop];simp
theorem zcQ {ev nv:Xv}(hc:zbr c):∀(t:Tm) (v:Xv) (w:Xw),TT w N t v->ScV w N c ev nv->N<=w.heap.size->zdg c t ->
 xK 136 #[.agg #[ev,nv],v] w (λe w'=>e=.returned (xI (zaj c t:Nat))/\xB w w'):=by
 intro t;induction t using Tm.ind with
 | h k a s nm n ts ih =>
   intro v w hT h hN hO;obtain⟨b,args,vs,rfl,hb,hblk,hown,hlen,hsub,hgs⟩:=hT.ptr;obtain⟨xa,cpa,rfl⟩:=zB hown;have HSc:=za h;obtain⟨xe,cpe,nb,rfl,rfl,hnb⟩:=h.shape;have hlen':vs.length=ts.length:=hlen;have hbz:=ze hblk;obtain⟨o1,o2,o3⟩:=hO _ (zey za5 _);have hblk':w.heap[b]?=some (.cells #[xI k,xI a,.string s,xI nm,xI n,.slice xa ts.length cpa] 198 (0,0)):=(by rw[<- hlen'];exact hblk);have HBk:=za hblk';have hown':w.ownsRow 0 156 1 (.slice xa ts.length cpa) ts.length vs:=(by rw[<- hlen'];exact hown);have HOw:=za hown';have Hsub:=za hsub;have HO:=za hO;have Hih:=za ih;have Hgs:=za hgs;simp only[Tm.k,Tm.s,Tm.ts] at o1 o2 o3;obtain⟨h0,h1,h2,h3,h4,h5,hf,hz⟩:=zt hblk';have Hlen:=za hlen';clear hT hown h hlen hlen' hblk hown' hsub hO ih hgs hblk' h1 h4 hf;have hcases:k=3∨k=4∨k=7∨k=8∨k=6∨k=5∨k=9∨k=0∨k=10∨k=19∨k=20∨k=21∨k=22∨k=23∨k=1∨k=2∨k=11∨k=12∨k=13∨k=14∨k=15∨k=16∨k=17∨k=18:=by
    have:k<=23:=by
     rcases Nat.lt_or_ge 23 k with h|h
     . exfalso;unfold arB at o3;simp only[show ¬k<=3 by omega,show ¬k=4 by omega,show ¬k=5 by omega,show ¬k=6 by omega,show ¬k<=8 by omega,show ¬k=9 by omega,show ¬k<=11 by omega,show ¬k<=23 by omega,if_false] at o3;cases o3
     exact h
    omega
   have PRE:∀W,xB w W->ScV W N c (xE xe c cpe) (xP nb):=λW hB=>HSc.o.old (zm hB hN);rcases hcases with rfl|rfl|rfl|rfl|rfl|rfl|rfl|rfl|rfl|rfl|rfl|rfl|rfl|rfl|rfl|rfl|rfl|rfl|rfl|rfl|rfl|rfl|rfl|rfl
   . have hh:=o1 rfl;go_enter func136,ntmps136;go_upto_region 3 with fail;refine zn (λW=>(xH W w.heap.size #[xE xe c cpe,xP nb] 188)/\xB w W) ⟨zc w _,zq w _⟩ ?_;rintro W ⟨hs,hB⟩;obtain⟨s0,s1,sf,sz⟩:=zp hs;obtain⟨m0,m1,m2,m3,m4,m5,mf,mz⟩:=zt ((hB.block b hbz).trans HBk.o);have HB:=za hB;have hzW:=hB.size;have HD:=za (zbD s (nm:Int) W.drew (PRE W.drew (zo hB)) (by show N<=W.heap.size;omega) hh);clear hs hB m0 m1 m4 m5 mf sf
     go_region_held3 (λw'=>w'.cell? (xD w.heap.size 0)=some (xE xe c cpe)/\w'.cell? (xD w.heap.size 1)=some (xP nb)/\w'.cell? (xD b 2)=some (.string s)/\w'.cell? (xD b 3)=some (xI nm))
      (first|(with_reducible (refine⟨?_,?_,?_,?_⟩ <;> repeat (first|assumption|refine zg ?_|refine zj _ ?_|refine zk (by omega) ?_|refine zd HB1.o ?_ (by first|omega|(rw[zsb];omega)))))|go_keep)
      (first
        | (go_at_call 97;refine HD.o.mono ?_;rintro e w1 ⟨rfl,hB1⟩;have HB1:=za (zw hB1);clear hB1))
     all_goals go_wp2_with fail
     all_goals go_ret
     all_goals exact⟨by rw[zaj];rfl,HB.o.trans (HB1.o.mono (by omega))⟩
   . obtain⟨d,hd,hdi⟩:=o2 rfl;have hdw:=(hc.called hd).1.nd;go_enter func136,ntmps136;go_upto_region 5 with fail;refine zn (λW=>W.heap[w.heap.size]?=some (.cells #[xE xe c cpe,xP nb] 188 (0,0))/\xB w W) ⟨zc w _,zq w _⟩ ?_;rintro W ⟨hs,hB⟩;obtain⟨s0,s1,sf,sz⟩:=zp hs;obtain⟨m0,m1,m2,m3,m4,m5,mf,mz⟩:=zt ((hB.block b hbz).trans HBk.o);have HB:=za hB;have hzW:=hB.size;have HC1:=za (zah s (nm:Int) W.drew (PRE W.drew (zo hB)) (by show N<=W.heap.size;omega) hc.few hd);have HC2:=za (λo=>zah s (nm:Int) (W.alloc o).drew (PRE _ (zo (hB.alloc (by omega) o))) (by show N<=(W.alloc o).heap.size;simp;omega) hc.few hd);clear hs hB m0 m1 m4 m5 mf sf
     go_region_held3 (λw'=>w'.cell? (xD w.heap.size 0)=some (xE xe c cpe)/\w'.cell? (xD w.heap.size 1)=some (xP nb)/\w'.cell? (xD b 2)=some (.string s)/\w'.cell? (xD b 3)=some (xI nm))
      (first|(with_reducible (refine⟨?_,?_,?_,?_⟩ <;> repeat (first|assumption|refine zg ?_|refine zj _ ?_|refine zk (by omega) ?_|refine zd HB1.o ?_ (by first|omega|(rw[zsb];omega)))))|go_keep)
      (first
        | (go_at_call 89;refine HC1.o.mono ?_;rintro e w1 ⟨x2,cp2,n2,rfl,hsc,hB1⟩;have HB1:=za (zw hB1);have HS2:=za hsc;clear hB1 hsc)
        | (go_at_call 89;refine (HC2.o _).mono ?_;rintro e w1 ⟨x2,cp2,n2,rfl,hsc,hB1⟩;have HB1:=za (zw hB1);have HS2:=za hsc;obtain⟨y0,y1,yf,yz⟩:=zp ((HB1.o.block W.heap.size (by rw[zsb];omega)).trans (zc W _));clear hB1 hsc))
     all_goals go_upto_region 6 with fail
     refine zn (Got w N d w1.heap.size n2 x2 cp2) (zow HB.o HB1.o HS2.o hN) ?_;rotate_left;refine zn (Got w N d W.heap.size n2 x2 cp2) (zos HB.o HB1.o HS2.o hN) ?_
     all_goals
      rintro W2 hG;obtain⟨t0,t1,tf,tz⟩:=zp hG.box;obtain⟨n2',vs2,qv2,xs2,e9,hnt⟩:=hG.sc.nd;cases e9;obtain⟨v0,hv1,hv2⟩:=zhl hdw;have HE:Hid (zaj c (.mk 4 a s nm n ts)=zaK v0):=by
       unfold Hid;rw[zaj]
       show c.callTy s=_;unfold Sc.callTy;rw[hd]
       show ((d.nd.results[0]?).map tyV).getD 0=_;rw[hv2];rfl
      have HR:=za (zdM W2 hnt hdw.io (by have:=hdw.io;have:=hdw.outs;omega));obtain⟨xv,cpv,rfl⟩:=zB hnt.vown;obtain⟨gv,rfl,_,_,c2,_⟩:=zaM hnt.vown hv1;have hvz:=hnt.vlo gv rfl;have hBG:=za hG.bel;have hzz:=hG.bel.size;have hou:(0:Int)<(d.nd.outs:Int):=(by have:=hdw.outs;omega);have hou':0<d.nd.outs:=hdw.outs;have c2':xC W2 gv (d.nd.ins*7+2) (xI (zaK v0:Nat)):=c2;clear hG hnt hv1 hv2 c2 hd hdi hdw;go_wp2_with (go_at_call 137;refine HR.o.mono ?_;rintro e w3 ⟨g9,cp9,e9,rfl,hB3⟩;cases e9;have c3:=zd hB3 c2' (by omega);have HB3:=za hB3;clear hB3);go_ret;exact⟨by rw[HE.o];rfl,hBG.out.trans (HB3.o.mono hzz)⟩
   iterate 3
    . have hlen3:0<ts.length:=(by simp[arB] at o3;omega);obtain⟨u,hu⟩:∃u,ts[0]?=some u:=⟨_,zsc hlen3⟩;obtain⟨g,ub,rfl,hcu,hTu,hubN⟩:=TT.arg (t:=.mk _ a s nm n ts) HOw.o Hlen.o Hsub.o hu;have hgN:=Hgs.o g rfl;have hOu:=HO.o.sub (t:=.mk _ a s nm n ts) (u:=u) (zML hu);have hty:=zdU (c:=c) hu;go_enter func136,ntmps136;go_upto_region 10 with fail;refine zn (λW=>(xH W w.heap.size #[xE xe c cpe,xP nb] 188)/\xB w W) ⟨zc w _,zq w _⟩ ?_;rintro W ⟨hs,hB⟩;obtain⟨s0,s1,sf,sz⟩:=zp hs;obtain⟨m0,m1,m2,m3,m4,m5,mf,mz⟩:=zt ((hB.block b hbz).trans HBk.o);have HB:=za hB;have hzW:=hB.size;have hcu':=zd hB hcu (by omega);have HD:=za (Hih.o u (zML hu) (xP ub) W.drew (hTu.old (zm (zo hB) hN)) (PRE W.drew (zo hB)) (by show N<=W.heap.size;omega) hOu);have l0:(0:Int)<(ts.length:Int):=(by omega);clear hs hB m0 m1 m2 m3 m4 mf sf hTu hu
      go_region_held3 (λw'=>w'.cell? (xD w.heap.size 0)=some (xE xe c cpe)/\w'.cell? (xD w.heap.size 1)=some (xP nb)/\w'.cell? (xD b 5)=some (xS g ts.length cpa)/\w'.cell? (xD g 0)=some (xP ub))
       (first|(with_reducible (refine⟨?_,?_,?_,?_⟩ <;> repeat (first|assumption|refine zg ?_|refine zj _ ?_|refine zk (by omega) ?_|refine zd HB1.o ?_ (by first|omega|(rw[zsb];omega)))))|go_keep)
       (first
         | (go_at_call 136;refine HD.o.mono ?_;rintro e w1 ⟨rfl,hB1⟩;have HB1:=za (zw hB1);clear hB1))
      all_goals go_wp2_with fail
      all_goals go_ret
      all_goals exact⟨by rw[zaj];show Ending.returned (xI (zaj c u:Nat))=Ending.returned (xI (zbh c ts 0:Nat));rw[hty],HB.o.trans (HB1.o.mono (by omega))⟩
   iterate 2
    . have hlen3:1<ts.length:=(by simp[arB] at o3;omega);obtain⟨u,hu⟩:∃u,ts[1]?=some u:=⟨_,zsc hlen3⟩;obtain⟨g,ub,rfl,hcu,hTu,hubN⟩:=TT.arg (t:=.mk _ a s nm n ts) HOw.o Hlen.o Hsub.o hu;have hgN:=Hgs.o g rfl;have hOu:=HO.o.sub (t:=.mk _ a s nm n ts) (u:=u) (zML hu);have hty:=zdU (c:=c) hu;go_enter func136,ntmps136;go_upto_region 13 with fail;refine zn (λW=>(xH W w.heap.size #[xE xe c cpe,xP nb] 188)/\xB w W) ⟨zc w _,zq w _⟩ ?_;rintro W ⟨hs,hB⟩;obtain⟨s0,s1,sf,sz⟩:=zp hs;obtain⟨m0,m1,m2,m3,m4,m5,mf,mz⟩:=zt ((hB.block b hbz).trans HBk.o);have HB:=za hB;have hzW:=hB.size;have hcu':=zd hB hcu (by omega);have HD:=za (Hih.o u (zML hu) (xP ub) W.drew (hTu.old (zm (zo hB) hN)) (PRE W.drew (zo hB)) (by show N<=W.heap.size;omega) hOu);have l0:(1:Int)<(ts.length:Int):=(by omega);clear hs hB m0 m1 m2 m3 m4 mf sf hTu hu
      go_region_held3 (λw'=>w'.cell? (xD w.heap.size 0)=some (xE xe c cpe)/\w'.cell? (xD w.heap.size 1)=some (xP nb)/\w'.cell? (xD b 5)=some (xS g ts.length cpa)/\w'.cell? (xD g 1)=some (xP ub))
       (first|(with_reducible (refine⟨?_,?_,?_,?_⟩ <;> repeat (first|assumption|refine zg ?_|refine zj _ ?_|refine zk (by omega) ?_|refine zd HB1.o ?_ (by first|omega|(rw[zsb];omega)))))|go_keep)
       (first
         | (go_at_call 136;refine HD.o.mono ?_;rintro e w1 ⟨rfl,hB1⟩;have HB1:=za (zw hB1);clear hB1))
      all_goals go_wp2_with fail
      all_goals go_ret
      all_goals exact⟨by rw[zaj];show Ending.returned (xI (zaj c u:Nat))=Ending.returned (xI (zbh c ts 1:Nat));rw[hty],HB.o.trans (HB1.o.mono (by omega))⟩
   all_goals
    go_enter func136,ntmps136;go_wp2_with fail;go_ret;exact⟨by rw[zaj];rfl,zq _ _⟩
end
section
variable {L:List Ex} {x:Nat} {t:Tm}
theorem zFW (hA:ArL L)(h:zeA L x t):Wf t:=by
 induction h with
 | mk x ex ts hx hl hr ih =>
   refine .mk _ _ _ _ _ _ ?_ (λt ht=>?_)
   . have:=hA ex (zML hx);unfold arE at this;rw[hl];exact this
   obtain⟨i,hi⟩:=List.getElem?_of_mem ht;have hlt:=(zMJ.1 hi).1;obtain⟨y,hy⟩:∃y,ex.ins[i]?=some y:=⟨_,zsc (by omega)⟩;exact ih i y t hy hi
theorem zCH (h:zeA L x t):∃ex:Ex,L[x]?=some ex/\t.k=zag ex.op.toList ex.n:=by
 cases h with
 | mk x ex ts hx hl hr=>exact⟨ex,hx,rfl⟩
theorem zEx (hA:ArL L):∀{l:List Eqn} {qs:List Qn},zge L l qs->(∀q∈l,zzX L q)->∀q∈qs,q.ns.length=q.ps.length/\1<=q.ns.length/\Wf q.r/\(2<=q.ns.length->q.r.k=4)
 | [],qs,h,_,q,hq=>by cases h;cases hq
 | e::l,qs,h,he,q,hq=>by
   obtain⟨q',l',rfl,h1,h2⟩:=h;rcases zNa.1 hq with rfl|hq
   . obtain⟨k1,k2,k3⟩:=he e (zMS ..);rw[h1.ns,h1.ps];refine⟨k1,k2,zFW hA h1.r,λh3=>?_⟩;obtain⟨ex,e1,e2⟩:=k3 h3;obtain⟨ex',f1,f2⟩:=zCH h1.r;rw[f2];have:ex'=ex:=Option.some.inj (f1.symm.trans e1);rw[this];exact e2
   exact zEx hA h2 (λq hq=>he q (zMX _ hq)) q hq
theorem zGA {d:Nd}{n:Nod}(h:zo6 d n)(hd:zAr d):zeJ n:=by
 obtain⟨v1,v2,v3,v4⟩:=hd.vars;refine⟨?_,?_,?_,?_,λq hq=>zEx hd.ar h.eqs hd.eqs q hq⟩
 . rw[h.ins];exact v1
 . rw[h.outs];exact v2
 . rw[h.ins,h.outs,h.vars];exact v3
 rw[h.vars];exact v4
theorem zC6:∀{l:List Nd} {ns:List Nod},ze5 l ns->(∀d∈l,zAr d)->∀n∈ns,zeJ n
 | [],ns,h,_,n,hn=>by cases h;cases hn
 | d::l,ns,h,hd,n,hn=>by
   obtain⟨n',l',rfl,h1,h2⟩:=h;rcases zNa.1 hn with rfl|hn
   . exact zGA h1 (hd d (zMS ..))
   exact zC6 h2 (λd hd'=>hd d (zMX _ hd')) n hn
theorem zGg {r17 r18:Fn}(a17:ArK r17)(a18:ArK r18)(x17:Ext r17)(x18:Ext r18)(g17:zv 17 r17)(g18:zv 18 r18){g:Nat}{src:Xb}(hs:src.size<=1200)(he:(zgo r17 r18 g src).1.er=0){ns:List Nod}(hn:ze5 (zgo r17 r18 g src).2 ns):∀n∈ns,zeJ n :=
 zC6 hn (zCh a17 a18 x17 x18 g17 g18 g src (zmc hs) he)
theorem zEG {d:Nat}{r:Fn}(e:r=(lev d).ex):ArK r/\Ext r:=by obtain⟨h1,_⟩:=zDb d;obtain⟨h2,_⟩:=zDg d;rw[e];exact⟨h1,h2.ext⟩
end
section
variable {L L':List Ex} {ins:Xn} {ts:List Tm} {d x:Nat} {st:St} {t:Tm}
def vz (t:Tm):Nat:=(zaV za5 t).length
def vzL (ts:List Tm):Nat:=(zdk za5 ts).length
theorem zBn (k a:Nat)(s:Xb)(nm n:Nat)(ts:List Tm):vz (.mk k a s nm n ts)=1+vzL ts:=by unfold vz vzL;rw[zaV,zM2 (show za5 (.mk k a s nm n ts)=true from rfl),zMR];omega
theorem zys (t:Tm)(ts:List Tm):vzL (t::ts)=vz t+vzL ts:=by unfold vz vzL;rw[zdk,zMM]
theorem zyZ:vzL []=0:=rfl
theorem zAz (hp:L <+: L')(h:zeA L x t):zeA L' x t:=by
 induction h with
 | mk x ex ts hx hl hr ih => obtain⟨E,rfl⟩:=hp;exact .mk x ex ts (by rw[zM6 (zMJ.1 hx).1];exact hx) hl (λi y t h1 h2=>ih i y t h1 h2)
def Trs (L:List Ex)(ins:Xn)(ts:List Tm):Prop:=ts.length=ins.length/\∀(i y:Nat) (t:Tm),ins[i]?=some y->ts[i]?=some t->zeA L y t
theorem Trs.nil (L:List Ex):Trs L [] []:=⟨rfl,λi y t h=>by simp at h⟩
theorem Trs.more (hp:L <+: L')(h:Trs L ins ts):Trs L' ins ts:=⟨h.1,λi y t h1 h2=>zAz hp (h.2 i y t h1 h2)⟩
theorem Trs.snoc (h:Trs L ins ts)(hx:zeA L x t):Trs L (ins++[x]) (ts++[t]):=by
 refine⟨by rw[zMM,zMM,h.1];rfl,λi y u h1 h2=>?_⟩;by_cases hi:i<ins.length
 . rw[zM6 hi] at h1;rw[zM6 (by rw[h.1];exact hi)] at h2;exact h.2 i y u h1 h2
 rw[zM5 (by omega)] at h1;rw[zM5 (by rw[h.1];omega),h.1] at h2;have:i-ins.length=0:=by have:=(zMJ.1 h1).1;simp at this;exact this
 rw[this] at h1 h2;simp at h1 h2;subst h1;subst h2;exact hx
theorem Trs.one (h:zeA L x t):Trs L [x] [t]:=(Trs.nil L).snoc h
def Cd' (d:Nat)(st:St):Prop:=st.er=0->18<=st.op+d/\st.op<=16
theorem Cd'.stay {a b:St}(h:Cd' d a)(hs:zbu a b)(ho:b.op=a.op):Cd' d b:=λhe=>by rw[ho];exact h (hs.back he)
theorem Cd'.step (h:Cd' d st):Cd' d st.step:=h.stay (zbu.step st) st.step_op
theorem Cd'.must (h:Cd' d st)(k:Nat)(l:Xu):Cd' d (st.must k l):=h.stay (zbu.must st k l) (st.must_op k l)
theorem Cd'.name (h:Cd' d st):Cd' d st.name:=h.stay (zbu.name st) st.name_op
theorem zzd (h:st.enter.er=0):st.er=0/\st.op+1<=16:=by
 unfold St.enter at h;split at h
 . exact absurd h (St.fail_er _ (by decide))
 rw[St.step_er] at h;exact⟨h,by omega⟩
theorem Cd'.enter (h:Cd' (d+1) st):Cd' d st.enter:=λhe=>by obtain⟨h1,h2⟩:=zzd he;rw[St.enter_op];have:=h h1;omega
end
section
variable {P:Fn}
mutual
def eT:Tm->Tm
 | .mk k _ s _ n ts=>.mk k 0 s 0 n (eL ts)
def eL:List Tm->List Tm
 | []=>[]
 | t::l=>eT t::eL l
end
theorem zNC:∀ts:List Tm,eL ts=ts.map eT
 | []=>rfl
 | t::l=>by rw[eL,zNC l];rfl
structure Yes (st:St) (R:Xl) (t:Tm) (x:St×Nat):Prop where
 at':At x.1 R
 op:x.1.op=st.op
 L:st.L <+: x.1.L
 tr:∃t',zeA x.1.L x.2 t'/\eT t'=eT t
def Out (st:St)(R:Xl)(t:Tm)(x:St×Nat):Prop:=x.1.er=3∨Yes st R t x
theorem zND {atm:Fn}{st:St}(h:(atm st).1.er≠0∨zdi (atm st).1=false):zfu atm st=atm st:=by
 unfold zfu
 show zaY (1299+1) _=_;generalize 1299=f
 show (if _ then _ else atm st)=_;rw[zM1 (λe=>by rcases h with h|h;exact h e.1;rw[h] at e;cases e.2)]
theorem zNH {n:Nat}{st:St}(h:(P st).1.er≠0∨zco (P st).1.t n=false):zcT n P st=P st:=by
 unfold zcT
 show zdq n P (1299+1) _=_;generalize 1299=f
 show (if _ then _ else P st)=_;rw[zM1 (λe=>by rcases h with h|h;exact h e.1;rw[h] at e;cases e.2)]
theorem zOp {st:St}(h:(P st).1.er≠0∨zcn (P st).1.t=false):zdJ P st=P st:=by unfold zdJ;simp only;rw[zM1 (λe=>by rcases h with h|h;exact h e.1;rw[h] at e;cases e.2)]
theorem zOi {rx:Fn}{st:St}(h:(P st).1.er≠0∨(P st).1.is 5 [102,98,121]=false):zgk rx P st=P st:=by unfold zgk;simp only;rw[zM1 (λe=>by rcases h with h|h;exact h e.1;rw[h] at e;cases e.2)]
theorem zN3 {ru smp:Fn}{st:St}(h:¬(st.er=0/\(st.is 4 [45]||st.is 5 [110,111,116])=true)):zdn ru smp st=smp st:=by unfold zdn;rw[zM1 h]
theorem At.level {st:St}{y:Xb}{R:Xl}(h:At st (y::R))(n:Nat):zco st.t n=zco (tkB y) n:=by unfold zco;rw[h.2.1.1,h.2.1.2.1]
theorem At.test {st:St}{y:Xb}{R:Xl}(h:At st (y::R)):zcn st.t=zcn (tkB y):=by unfold zcn;rw[h.2.1.1,h.2.1.2.1]
variable {st:St} {y:Xb} {R:Xl} {t:Tm}
end
section
variable {L:List Ex} {i j k:Nat}
variable {st:St} {y x:Xb} {R l:Xl} {t:Tm}
theorem At.add (h:At st R)(e:Ex):At (st.add e) R:=by cases R <;> exact h
theorem At.leave (h:At st R):At st.leave R:=by cases R <;> exact h
theorem At.must (h:At st (x::l))(hl:∀y∈l,zNf y){b:Xu}(hk:(tkB x).k=k)(hb:(tkB x).s.toList=b):At (st.must k b) l:=by unfold St.must;rw[zM2 (by rw[h.is,hk,hb];simp)];exact h.step hl
theorem At.name (h:At st (x::l))(hl:∀y∈l,zNf y)(hk:(tkB x).k=2):At st.name l:=by unfold St.name;rw[zM2 (by rw[h.2.1.1,hk])];exact h.step hl
theorem zNt {s1:St}{e:Ex}{us:List Tm}(hA:At s1 R)(ho:s1.op=st.op)(hL:st.L <+: s1.L)(hT:Trs s1.L e.ins us)(ht:eT t=.mk (zag e.op.toList e.n) 0 e.s 0 (zbF e.op.toList e.n) (us.map eT)):Yes st R t (s1.put e):=by
 refine⟨hA.add e,ho,hL.trans (List.prefix_append _ _),⟨.mk (zag e.op.toList e.n) e.a e.s e.nm (zbF e.op.toList e.n) us,?_,?_⟩⟩
 . refine .mk s1.L.length e us ?_ hT.1 (λi y t h1 h2=>zAz (List.prefix_append _ _) (hT.2 i y t h1 h2))
   show (s1.L++[e])[s1.L.length]?=_;rw[zM5 (zMK _),Nat.sub_self];rfl
 rw[eT,ht,zNC]
theorem zQO {a:Tm}(h:zeA L i a):Trs L [i] [a]:=(Trs.nil L).snoc h
theorem zQt {a b:Tm}(h:zeA L i a)(h':zeA L j b):Trs L [i,j] [a,b]:=(zQO h).snoc h'
theorem zTc {a b c:Tm}(h:zeA L i a)(h':zeA L j b)(h'':zeA L k c):Trs L [i,j,k] [a,b,c]:=(zQt h h').snoc h''
theorem zRl {n f:Nat}{P:Fn}{x:St×Nat}(h:x.1.er≠0∨zco x.1.t n=false):zdq n P f x=x:=by
 cases f with
 | zero=>rfl
 | succ f => show (if _ then _ else x)=_;rw[zM1 (λe=>by rcases h with h|h;exact h e.1;rw[h] at e;cases e.2)]
variable {d:Nat} {a b c:Tm}
def zNx:ByteArray:=⟨#[116,104,101,110]⟩
def zNs:ByteArray:=⟨#[101,108,115,101]⟩
def ifW:ByteArray:=⟨#[105,102]⟩
end
section
variable {x:Xb} {l:Xl}
theorem zOV:zNf lpW:=(zNh (k:=4) (by decide +kernel)).1
theorem zNq:zNf rpW:=(zNh (k:=4) (by decide +kernel)).1
theorem zPr:zNf coW:=(zNh (k:=4) (by decide +kernel)).1
theorem zSN:zNf ifW:=(zNh (k:=5) (by decide +kernel)).1
theorem zQh:zNf zNx:=(zNh (k:=5) (by decide +kernel)).1
theorem zP8:zNf zNs:=(zNh (k:=5) (by decide +kernel)).1
abbrev Oks (l:Xl):Prop:=∀x∈l,zNf x
theorem zNe {l':Xl}(h:Oks l)(h':Oks l'):Oks (l++l'):=λx hx=>by
 rcases zMY.1 hx with hx|hx
 . exact h x hx
 exact h' x hx
theorem zNd (h:zNf x)(h':Oks l):Oks (x::l):=λz hz=>by
 rcases zNa.1 hz with rfl|hz
 . exact h
 exact h' z hz
theorem zNn:Oks []:=λx hx=>by cases hx
theorem zNl (h:zNf x):Oks [x]:=zNd h zNn
theorem zNG:∀(b:Bool) (l:List (List ByteArray)),(∀x∈l,Oks x)->Oks (zu6 b l)
 | _,[],_=>zNn
 | b,x::l,h=>by
   rw[zu6];refine zNe ?_ (zNe (h x (zMS ..)) (zNG true l (λy hy=>h y (zMX _ hy))));split
   . exact zNd zPr zNn
   exact zNn
theorem zOD {l:List (List ByteArray)}(h:∀x∈l,Oks x):Oks (zu5 l) :=
 zNe (zNl zOV) (zNe (zNG false l h) (zNl zNq))
def zO6 (y:Xb):Bool:=!((tkB y).k==4&&(tkB y).s.toList==[45])&&!((tkB y).k==5&&(tkB y).s.toList==[110,111,116])
theorem zOS {st:St}{y:Xb}{R:Xl}(hA:At st (y::R))(h:zO6 y=true):¬(st.er=0/\(st.is 4 [45]||st.is 5 [110,111,116])=true):=by rintro⟨_,e⟩;rw[hA.is,hA.is] at e;unfold zO6 at h;cases h1:((tkB y).k==4&&(tkB y).s.toList==[45]) <;> cases h2:((tkB y).k==5&&(tkB y).s.toList==[110,111,116]) <;> rw[h1,h2] at h e <;> first|(simp at e;done)|(simp at h;done)
def T3 (d:Nat):Fn:=zcT 3 (lev d).un
def T2 (d:Nat):Fn:=zcT 2 (T3 d)
def Te (d:Nat):Fn:=zdJ (T2 d)
def T1 (d:Nat):Fn:=zcT 1 (Te d)
def T0 (d:Nat):Fn:=zcT 0 (T1 d)
theorem zOf (d:Nat):(lev (d+1)).un=zdn (lev d).un (zfu (lev (d+1)).at'):=rfl
theorem zNT (d:Nat):(lev (d+1)).at'=zap (lev d).ex (lev d).at':=rfl
theorem zOR (d:Nat):(lev (d+1)).ex=zgk (lev d).ex (T0 (d+1)):=by unfold T0 T1 Te T2 T3;rw[zOf,zNT];simp only[lev]
def zNg (y:Xb)(i:Nat):Bool :=
 !((tkB y).k==4&&(tkB y).s.toList==[40])&&!((tkB y).k==5&&((tkB y).s.toList==[119,104,101,110]||(tkB y).s.toList==[119,104,101,110,111,116]))
 && (i==0||!zco (tkB y) 3)&&(i<=1||!zco (tkB y) 2)&&(i<=2||!zcn (tkB y))&&(i<=3||!zco (tkB y) 1)&&(i<=4||!zco (tkB y) 0)&&(i<=5||!((tkB y).k==5&&(tkB y).s.toList==[102,98,121]))
variable {u:Tm} {y:Xb} {d:Nat}
theorem zNy {i:Nat}(h:zNg y i=true):((tkB y).k==4&&(tkB y).s.toList==[40])=false/\((tkB y).k==5&&((tkB y).s.toList==[119,104,101,110]||(tkB y).s.toList==[119,104,101,110,111,116]))=false
 /\ (1<=i->zco (tkB y) 3=false)/\(2<=i->zco (tkB y) 2=false)/\(3<=i->zcn (tkB y)=false)/\(4<=i->zco (tkB y) 1=false)/\(5<=i->zco (tkB y) 0=false)/\(6<=i->((tkB y).k==5&&(tkB y).s.toList==[102,98,121])=false):=by
 unfold zNg at h;simp only[Bool.and_eq_true,Bool.or_eq_true,Bool.not_eq_true',beq_iff_eq,decide_eq_true_eq] at h;obtain⟨⟨⟨⟨⟨⟨⟨h1,h2⟩,h3⟩,h4⟩,h5⟩,h6⟩,h7⟩,h8⟩:=h;refine⟨h1,h2,λe=>h3.resolve_left (by omega),λe=>h4.resolve_left (by omega),λe=>h5.resolve_left (by omega),λe=>h6.resolve_left (by omega),λe=>h7.resolve_left (by omega),λe=>h8.resolve_left (by omega)⟩
end
section
variable {ra rx:Fn}
section
variable {st:St} {R l:Xl} {t:Tm} {d:Nat}
theorem zFX (hA:At st (ifW::l)):zap rx ra st=zdx rx st:=by unfold zap;rw[zM1 (λe=>e hA.er),hA.2.1.1,hA.is,hA.is,hA.is,hA.is,hA.is,zM1 (by decide +kernel),zM1 (by decide +kernel),zM1 (by decide +kernel),zM1 (by decide +kernel),zM1 (by decide +kernel),zM2 (by decide +kernel)]
theorem zQm (hA:At st (lpW::l)):zap rx ra st=zfQ rx st:=by unfold zap;rw[zM1 (λe=>e hA.er),hA.2.1.1,hA.is,zM1 (by decide +kernel),zM1 (by decide +kernel),zM2 (by decide +kernel)]
variable {u:Tm}
theorem zPK {s:Xb}(hs:zNi s)(hA:At st (s::R))(hz:Oks R)(ht:eT t=.mk 3 0 s 0 0 []):Out st R t (zjx st):=by
 right;unfold zjx;refine zNt (us:=[]) (hA.step hz) (St.step_op st) (by rw[St.step_L];exact List.prefix_rfl) (Trs.nil _) ?_
 show eT t=.mk (zag zfR.toList 0) 0 st.t.s 0 (zbF zfR.toList 0) [];rw[hA.2.1.2.1,hs.s,ht,show zag zfR.toList 0=3 by decide +kernel,show zbF zfR.toList 0=0 by decide +kernel]
end
end
section
def eV (v:Vr):Vr:=⟨v.nm,0,v.bl,v.inn,v.out,0,v.ck,0,v.nt,v.tm⟩
structure RdV (v:Vr):Prop where
 nm:zNi v.nm
 ck:v.tm=true->zNi v.ck/\v.inn=false/\v.out=false
 no:v.tm=false->v.ck=sE/\v.nt=false
section
variable {st:St} {R:Xl} {vars:List Vr} {v:Vr} {b:Bool}
theorem zRL (hA:At st ((if b=true then (⟨#[98,111,111,108]⟩:Xb) else ⟨#[105,110,116]⟩)::R))(hz:Oks R):At (z9 st) R/\st.is 5 zbq=b:=by
 cases b with
 | true => rw[zM2 rfl] at hA;have h:st.is 5 zbq=true:=(by rw[hA.is];decide +kernel);unfold z9;rw[zM2 h];exact⟨hA.step hz,h⟩
 | false => rw[zM1 (by decide)] at hA;have h:st.is 5 zbq=false:=(by rw[hA.is];decide +kernel);unfold z9;rw[zM1 (by rw[h];decide)];exact⟨hA.must hz (by decide +kernel) (by decide +kernel),h⟩
theorem zRZ:zNf (if b=true then (⟨#[98,111,111,108]⟩:Xb) else ⟨#[105,110,116]⟩):=by
 cases b
 . exact (zNh (k:=5) (by decide +kernel)).1
 exact (zNh (k:=5) (by decide +kernel)).1
theorem zPO:zNf ⟨#[58]⟩:=(zNh (k:=4) (by decide +kernel)).1
theorem zOo:zNf ⟨#[59]⟩:=(zNh (k:=4) (by decide +kernel)).1
theorem zNS (hv:RdV v):Oks (zu7 v):=zNd hv.nm.ok (zNd zPO (zNl zRZ))
structure zQu (st:St) (R:Xl) (vars:List Vr) (v:Vr) (x:St×List Vr):Prop where
 at':At x.1 R
 op:x.1.op=st.op
 L:x.1.L=st.L
 vs:∃v',x.2=vars++[v']/\eV v'=eV v
theorem zOh (hv:RdV v)(hA:At st (zu7 v++R))(hz:Oks R):st.t.s=v.nm/\At (z9 (st.name.must 4 [58])) R/\(st.name.must 4 [58]).is 5 zbq=v.bl:=by have hA':At st (v.nm::⟨#[58]⟩::(if v.bl=true then (⟨#[98,111,111,108]⟩:Xb) else ⟨#[105,110,116]⟩)::R):=hA;have z1:Oks ((if v.bl=true then (⟨#[98,111,111,108]⟩:Xb) else ⟨#[105,110,116]⟩)::R):=zNd zRZ hz;have h1:=hA'.name (zNd zPO z1) hv.nm.k;have h2:=h1.must (k:=4) (b:=[58]) z1 (by decide +kernel) (by decide +kernel);obtain⟨h3,h4⟩:=zRL h2 hz;exact⟨by rw[hA'.2.1.2.1,hv.nm.s],h3,h4⟩
theorem zPC {i o:Bool}(hv:RdV v)(ht:v.tm=false)(hi:v.inn=i)(ho:v.out=o)(hio:(!i&&!o)=false)(hA:At st (zu7 v++R))(hz:Oks R)(hl:¬16<=vars.length):zQu st R vars v (zx i o st vars):=by obtain⟨h1,h2,h3⟩:=zOh hv hA hz;unfold zx;rw[zM1 hl];simp only;rw[zM1 (by rw[Bool.and_assoc,hio,Bool.and_false];decide)];refine⟨h2,by rw[znk,St.must_op,St.name_op],by rw[zqh,St.must_L,St.name_L],⟨_,rfl,?_⟩⟩;obtain⟨c1,c2⟩:=hv.no ht;unfold eV;simp only[h1,h3,hi,ho,ht,c1,c2]
theorem zPB (hv:RdV v)(hi:v.inn=false)(ho:v.out=false)(hA:At st (zu9 v++R))(hz:Oks R)(hl:¬16<=vars.length):zQu st R vars v (zaR st vars):=by
 have zs:Oks (⟨#[59]⟩::R):=zNd zOo hz;have on_ok:zNf ⟨#[111,110]⟩:=(zNh (k:=5) (by decide +kernel)).1;have not_ok:zNf ⟨#[110,111,116]⟩:=(zNh (k:=5) (by decide +kernel)).1;have hL:zu9 v++R=zu7 v++(onW v++⟨#[59]⟩::R):=by unfold zu9;simp
 rw[hL] at hA;unfold zaR;simp only;cases ht:v.tm with
 | false => have hon:onW v=[]:=(by unfold onW zaA;rw[ht];simp);rw[hon] at hA;obtain⟨h1,h2,h3⟩:=zOh hv hA zs;obtain⟨c1,c2⟩:=hv.no ht;have hno:(z9 (st.name.must 4 [58])).is 5 kOn=false:=(by have h2':At (z9 (st.name.must 4 [58])) (⟨#[59]⟩::R):=h2;rw[h2'.is];decide +kernel);unfold zx;rw[zM1 hl];simp only;rw[hno,zM1 (by decide)];refine⟨At.must (x:=⟨#[59]⟩) h2 hz (by decide +kernel) (by decide +kernel),by rw[St.must_op,znk,St.must_op,St.name_op],by rw[St.must_L,zqh,St.must_L,St.name_L],⟨_,rfl,?_⟩⟩;unfold eV;simp only[h1,h3,hi,ho,ht,c1,c2]
 | true =>
   obtain⟨hc,_,_⟩:=hv.ck ht;have zc:Oks (v.ck::⟨#[59]⟩::R):=zNd hc.ok zs;cases hn:v.nt with
   | false => have hon:onW v=[⟨#[111,110]⟩,v.ck]:=(by unfold onW zaA;rw[ht,hn];simp);rw[hon] at hA;obtain⟨h1,h2,h3⟩:=zOh (R:=⟨#[111,110]⟩::v.ck::⟨#[59]⟩::R) hv hA (zNd on_ok zc);have hon1:(z9 (st.name.must 4 [58])).is 5 kOn=true:=(by rw[h2.is];decide +kernel);have h4:=h2.step zc;have hnn:(z9 (st.name.must 4 [58])).step.is 5 zet=false:=(by rw[h4.is,hc.k];rfl);have h5:za3 (z9 (st.name.must 4 [58])).step=(z9 (st.name.must 4 [58])).step:=(by unfold za3;rw[zM1 (by rw[hnn];decide)]);have h6:=h4.name zs hc.k;unfold zx;rw[zM1 hl];simp only;rw[hon1,zM2 (by decide),h5];refine⟨h6.must (k:=4) (b:=[59]) hz (by decide +kernel) (by decide +kernel),by rw[St.must_op,St.name_op,St.step_op,znk,St.must_op,St.name_op],by rw[St.must_L,St.name_L,St.step_L,zqh,St.must_L,St.name_L],⟨_,rfl,?_⟩⟩;unfold eV;simp only[h1,h3,hi,ho,ht,hn,hnn,h4.2.1.2.1,hc.s]
   | true => have hon:onW v=[⟨#[111,110]⟩,⟨#[110,111,116]⟩,v.ck]:=(by unfold onW zaA;rw[ht,hn];simp);rw[hon] at hA;have zn:Oks (⟨#[110,111,116]⟩::v.ck::⟨#[59]⟩::R):=zNd not_ok zc;obtain⟨h1,h2,h3⟩:=zOh (R:=⟨#[111,110]⟩::⟨#[110,111,116]⟩::v.ck::⟨#[59]⟩::R) hv hA (zNd on_ok zn);have hon1:(z9 (st.name.must 4 [58])).is 5 kOn=true:=(by rw[h2.is];decide +kernel);have h4:=h2.step zn;have hnn:(z9 (st.name.must 4 [58])).step.is 5 zet=true:=(by rw[h4.is];decide +kernel);have h5:za3 (z9 (st.name.must 4 [58])).step=(z9 (st.name.must 4 [58])).step.step:=(by unfold za3;rw[zM2 hnn]);have h7:=h4.step zc;have h6:=h7.name zs hc.k;unfold zx;rw[zM1 hl];simp only;rw[hon1,zM2 (by decide),h5];refine⟨h6.must (k:=4) (b:=[59]) hz (by decide +kernel) (by decide +kernel),by rw[St.must_op,St.name_op,St.step_op,St.step_op,znk,St.must_op,St.name_op],by rw[St.must_L,St.name_L,St.step_L,St.step_L,zqh,St.must_L,St.name_L],⟨_,rfl,?_⟩⟩;unfold eV;simp only[h1,h3,hi,ho,ht,hn,hnn,h7.2.1.2.1,hc.s]
end
end
section
variable {i:Bool} {us vs:List Vr} {f:Nat} {x:St×List Vr} {v:Vr}
structure VsL (st:St) (R:Xl) (vars vs:List Vr) (x:St×List Vr):Prop where
 at':At x.1 R
 op:x.1.op=st.op
 L:x.1.L=st.L
 vs:∃vs',x.2=vars++vs'/\vs'.map eV=vs.map eV
theorem VsL.len {st:St}{R:Xl}{vars:List Vr}(h:VsL st R vars vs x):x.2.length=vars.length+vs.length:=by obtain⟨vs',h1,h2⟩:=h.vs;have:=congrArg List.length h2;rw[List.length_map,List.length_map] at this;rw[h1,zMM,this]
theorem VsL.snoc {st s1:St}{R R':Xl}{vars:List Vr}{y:St×List Vr}(h:VsL st R vars vs x)(ho:s1.op=x.1.op)(hL:s1.L=x.1.L)(h':zQu s1 R' x.2 v y):VsL st R' vars (vs++[v]) y:=by obtain⟨vs',h1,h2⟩:=h.vs;obtain⟨v',h3,h4⟩:=h'.vs;refine⟨h'.at',by rw[h'.op,ho,h.op],by rw[h'.L,hL,h.L],⟨vs'++[v'],by rw[h3,h1,zMQ],by rw[List.map_append,List.map_append,h2];simp[h4]⟩⟩
section
variable {R:Xl} {st:St} {vars:List Vr}
theorem zQ4 (h:∀v∈us,RdV v)(b:Bool)(hz:Oks R):Oks (zu6 b (us.map zu7)++rpW::R):=by refine zNe (zNG _ _ ?_) (zNd zNq hz);intro x hx;obtain⟨w,hw,rfl⟩:=List.mem_map.1 hx;exact zNS (h w hw)
theorem zPY (h:x.1.is 4 [44]=false):zaG i f x=x:=by
 cases f with
 | zero=>rfl
 | succ f => show (if _ then _ else x)=_;rw[zM1 (λe=>by rw[h] at e;cases e.2)]
theorem zN9 (hz:Oks R):∀(us dn:List Vr) (f:Nat) (x:St×List Vr),us.length<f->(∀v∈us,RdV v/\v.tm=false/\v.inn=i/\v.out=!i)->vars.length+dn.length+us.length<=16->VsL st (zu6 true (us.map zu7)++rpW::R) vars dn x->VsL st (rpW::R) vars (dn++us) (zaG i f x)
 | [],dn,f,x,_,_,_,h=>by have hA:At x.1 (rpW::R):=h.at';rw[zPY (by rw[hA.is];decide +kernel),List.append_nil];exact h
 | u::us,dn,0,x,hf,_,_,_=>by cases hf
 | u::us,dn,f+1,x,hf,hr,hl,h=>by
   have e:zu6 true ((u::us).map zu7)++rpW::R=coW::(zu7 u++(zu6 true (us.map zu7)++rpW::R)):=(by simp[zu6]);have hA:=h.at';rw[e] at hA;obtain⟨r1,r2,r3,r4⟩:=hr u (zMS ..);have hus:∀v∈us,RdV v:=λv hv=>(hr v (zMX _ hv)).1;have zq:=zQ4 hus true hz;have h1:=hA.step (zNe (zNS r1) zq);have hl':¬16<=x.2.length:=(by rw[h.len];simp at hl;omega);have h2:=zPC (vars:=x.2) r1 r2 r3 r4 (by cases i <;> rfl) h1 zq hl'
   show VsL st (rpW::R) vars (dn++u::us) (if _ then zaG i f (zx i (!i) x.1.step x.2) else x);rw[zM2 ⟨hA.er,by rw[hA.is];decide +kernel⟩];have:=zN9 hz us (dn++[u]) f _ (by simp at hf;omega) (λv hv=>hr v (zMX _ hv)) (by simp at hl ⊢;omega) (h.snoc (St.step_op _) (St.step_L _) h2);rw[zMQ] at this;exact this
theorem zOq {u:Vr}(hz:Oks R)(hr:∀v∈u::us,RdV v/\v.tm=false/\v.inn=i/\v.out=!i)(hl:vars.length+(us.length+1)<=16)(hA:At st (zu5 ((u::us).map zu7)++R)):VsL st R vars (u::us) (zab i st vars):=by
 have e:zu5 ((u::us).map zu7)++R=lpW::(zu7 u++(zu6 true (us.map zu7)++rpW::R)):=by simp[zu5,zu6]
 rw[e] at hA;obtain⟨r1,r2,r3,r4⟩:=hr u (zMS ..);have hus:∀v∈us,RdV v:=λv hv=>(hr v (zMX _ hv)).1;have zq:=zQ4 hus true hz;have h1:=hA.must (k:=4) (b:=[40]) (zNe (zNS r1) zq) (by decide +kernel) (by decide +kernel);have h2:=zPC (vars:=vars) r1 r2 r3 r4 (by cases i <;> rfl) h1 zq (by omega);unfold zab;obtain⟨f,hf⟩:∃f,f=1300:=⟨_,rfl⟩;rw[<- hf];simp only;have h0:VsL st (zu6 true (us.map zu7)++rpW::R) vars [u] (zx i (!i) (st.must 4 [40]) vars):=by obtain⟨v',h3,h4⟩:=h2.vs;exact⟨h2.at',by rw[h2.op,St.must_op],by rw[h2.L,St.must_L],⟨[v'],h3,by simp[h4]⟩⟩
 have h5:=zN9 hz us [u] f _ (by omega) (λv hv=>hr v (zMX _ hv)) (by simp;omega) h0;generalize zaG i f (zx i (!i) (st.must 4 [40]) vars)=X at *;exact⟨h5.at'.must hz (by decide +kernel) (by decide +kernel),by rw[St.must_op,h5.op],by rw[St.must_L,h5.L],h5.vs⟩
def lbW:ByteArray:=⟨#[123]⟩
theorem zPt:zNf lbW:=(zNh (k:=4) (by decide +kernel)).1
theorem zP9 (h:RdV v):Oks (zu9 v):=by
 unfold zu9 onW;refine zNe (zNS h) (zNe ?_ (zNl zOo));cases ht:v.tm with
 | false=>rw[zM1 (by unfold zaA;rw[ht];simp),zM1 (by unfold zaA;rw[ht];simp)];exact zNn
 | true =>
   have hc:=(h.ck ht).1;split
   . exact zNd (zNh (k:=5) (by decide +kernel)).1 (zNl hc.ok)
   split
   . exact zNd (zNh (k:=5) (by decide +kernel)).1 (zNd (zNh (k:=5) (by decide +kernel)).1 (zNl hc.ok))
   exact zNn
theorem zN5 (h:∀v∈us,RdV v):Oks (us.flatMap zu9):=λx hx=>by obtain⟨v,hv,hx⟩:=zM8.1 hx;exact zP9 (h v hv) x hx
theorem zPw (h:¬x.1.t.k=2):zbA f x=x:=by
 cases f with
 | zero=>rfl
 | succ f => show (if _ then _ else x)=_;rw[zM1 (λe=>h e.2)]
theorem zOc (hz:Oks R):∀(us dn:List Vr) (f:Nat) (x:St×List Vr),us.length<f->(∀v∈us,RdV v/\v.inn=false/\v.out=false)->vars.length+dn.length+us.length<=16->VsL st (us.flatMap zu9++lbW::R) vars dn x->VsL st (lbW::R) vars (dn++us) (zbA f x)
 | [],dn,f,x,_,_,_,h=>by have hA:At x.1 (lbW::R):=h.at';rw[zPw (by rw[hA.2.1.1];decide +kernel),List.append_nil];exact h
 | u::us,dn,0,x,hf,_,_,_=>by cases hf
 | u::us,dn,f+1,x,hf,hr,hl,h=>by
   have e:(u::us).flatMap zu9++lbW::R=zu9 u++(us.flatMap zu9++lbW::R):=(by simp);have hA:=h.at';rw[e] at hA;obtain⟨r1,r2,r3⟩:=hr u (zMS ..);have hus:∀v∈us,RdV v:=λv hv=>(hr v (zMX _ hv)).1;have zq:Oks (us.flatMap zu9++lbW::R):=zNe (zN5 hus) (zNd zPt hz);have hl':¬16<=x.2.length:=(by rw[h.len];simp at hl;omega);have h2:=zPB (vars:=x.2) r1 r2 r3 hA zq hl';have hk:x.1.t.k=2:=by have hA':At x.1 (u.nm::(⟨#[58]⟩::(if u.bl=true then (⟨#[98,111,111,108]⟩:Xb) else ⟨#[105,110,116]⟩)::(onW u++[⟨#[59]⟩]++(us.flatMap zu9++lbW::R)))):=(by have e2:zu9 u++(us.flatMap zu9++lbW::R)=u.nm::(⟨#[58]⟩::(if u.bl=true then (⟨#[98,111,111,108]⟩:Xb) else ⟨#[105,110,116]⟩)::(onW u++[⟨#[59]⟩]++(us.flatMap zu9++lbW::R))):=(by unfold zu9 zu7;simp);rw[e2] at hA;exact hA);rw[hA'.2.1.1];exact r1.nm.k
   show VsL st (lbW::R) vars (dn++u::us) (if _ then zbA f (zaR x.1 x.2) else x);rw[zM2 ⟨hA.er,hk⟩];have:=zOc hz us (dn++[u]) f _ (by simp at hf;omega) (λv hv=>hr v (zMX _ hv)) (by simp at hl ⊢;omega) (h.snoc rfl rfl h2);rw[zMQ] at this;exact this
theorem zRi (hf:us.length<f)(hz:Oks R)(hr:∀v∈us,RdV v/\v.inn=false/\v.out=false)(hl:vars.length+us.length<=16)(hA:At st ((if 0<us.length then [(⟨#[118,97,114]⟩:Xb)] else [])++(us.flatMap zu9++lbW::R))):VsL st (lbW::R) vars us (zaS f st vars):=by
 unfold zaS;cases us with
 | nil => have hA':At st (lbW::R):=hA;rw[zM1 (by rw[hA'.is];decide +kernel)];exact⟨hA',rfl,rfl,⟨[],by simp,rfl⟩⟩
 | cons u us => rw[zM2 (by simp)] at hA;have hA':At st (⟨#[118,97,114]⟩::(zu9 u++(us.flatMap zu9++lbW::R))):=(by simpa using hA);obtain⟨r1,r2,r3⟩:=hr u (zMS ..);have hus:∀v∈us,RdV v:=λv hv=>(hr v (zMX _ hv)).1;have zq:Oks (us.flatMap zu9++lbW::R):=zNe (zN5 hus) (zNd zPt hz);have h1:=hA'.step (zNe (zP9 r1) zq);rw[zM2 (by rw[hA'.is];decide +kernel)];have h2:=zPB (vars:=vars) r1 r2 r3 h1 zq (by simp at hl;omega);have h0:VsL st (us.flatMap zu9++lbW::R) vars [u] (zaR st.step vars):=(by obtain⟨v',h3,h4⟩:=h2.vs;exact⟨h2.at',by rw[h2.op,St.step_op],by rw[h2.L,St.step_L],⟨[v'],h3,by simp[h4]⟩⟩);exact zOc hz us [u] f _ (by simp at hf;omega) (λv hv=>hr v (zMX _ hv)) (by simp at hl ⊢;omega) h0
end
end
section
variable {e:Eqn} {L L':List Ex} {q:Qn}
structure EqR (L:List Ex) (e:Eqn) (q:Qn):Prop where
 ns:e.ns=q.ns
 r:∃t,zeA L e.ex t/\eT t=eT q.r
theorem EqR.more (h:EqR L e q)(hp:L <+: L'):EqR L' e q:=by obtain⟨t,h1,h2⟩:=h.r;exact⟨h.ns,t,zAz hp h1,h2⟩
def zOd (L:List Ex)(es:List Eqn)(qs:List Qn):Prop:=es.length=qs.length/\∀(i:Nat) (e:Eqn) (q:Qn),es[i]?=some e->qs[i]?=some q->EqR L e q
theorem zOd.snoc {es:List Eqn}{qs:List Qn}(h:zOd L es qs)(hp:L <+: L')(hq:EqR L' e q):zOd L' (es++[e]) (qs++[q]):=by
 refine⟨by rw[zMM,zMM,h.1];rfl,λi e' q' h1 h2=>?_⟩;by_cases hi:i<es.length
 . rw[zM6 hi] at h1;rw[zM6 (by rw[<- h.1];exact hi)] at h2;exact (h.2 i e' q' h1 h2).more hp
 rw[zM5 (by omega)] at h1;rw[zM5 (by rw[<- h.1];omega),<- h.1] at h2
 match i-es.length,h1,h2 with
 | 0,h1,h2=>cases h1;cases h2;exact hq
structure QsL (st:St) (R:Xl) (qs:List Qn) (x:St×List Eqn):Prop where
 at':At x.1 R
 op:x.1.op=st.op
 L:st.L <+: x.1.L
 eqs:zOd x.1.L x.2 qs
section
variable {R:Xl} {st:St}
def eqW:ByteArray:=⟨#[61]⟩
def smW:ByteArray:=⟨#[59]⟩
theorem zRX:zNf eqW:=(zNh (k:=4) (by decide +kernel)).1
structure NsL (st:St) (R:Xl) (ns:Xl) (x:Nms):Prop where
 at':At x.st R
 op:x.st.op=st.op
 L:x.st.L=st.L
 ns:x.ns=ns
theorem zRF {a:Xb}(hz:Oks R)(ha:zNi a)(hA:At st (a::R)):st.is 4 [40]=false/\NsL st R [a] (zaH st):=by
 have hi:st.is 4 [40]=false:=by rw[hA.is,ha.k];rfl
 refine⟨hi,?_⟩;unfold zaH;rw[zM1 (by rw[hi];decide)];exact⟨hA.name hz ha.k,St.name_op st,St.name_L st,by show [st.t.s]=_;rw[hA.2.1.2.1,ha.s]⟩
end
end
section
section
variable {R:Xl} {st:St} {d:Nat} {q:Qn} {es:List Eqn} {qs:List Qn}
theorem zPq:zNf smW:=zOo
end
end
section
section
variable {R:Xl} {st:St} {d p:Nat}
def rbW:ByteArray:=⟨#[125]⟩
theorem zPo:zNf rbW:=(zNh (k:=4) (by decide +kernel)).1
end
end
section
variable {o:Int} {l:Xl}
section
variable {u v r:Xb} {R:Xl}
theorem zX5 {x y:Xb}(i:Nat):bt (x++y) (x.size+i)=bt y i:=by
 unfold bt;by_cases h:i<y.size
 . rw[dif_pos (by rw[ByteArray.size_append];omega),dif_pos h,ByteArray.getElem_append_right (by omega)];simp
 rw[dif_neg (by rw[ByteArray.size_append];omega),dif_neg h]
theorem zWZ {j:Nat}(h:j<v.size):bt (u++(v++r)) (u.size+j)=bt v j:=by rw[zX5,zN0 h]
theorem zXY {e:Nat}(h:zXb v 0 l=some e)(hR:Rst (u++(v++r)) (u.size+e) R):Rst (u++(v++r)) u.size (l++R) :=
 zXj (s':=v) (off:=u.size) (λj hj=>zWZ hj) (by rw[ByteArray.size_append,ByteArray.size_append];omega) l 0 e h hR
theorem zXi {n:Nat}(hn:n<=9223372036854775807)(hR:Rst (u++(zwd n++(sp1++r))) (u.size+(zwd n).size) R):Rst (u++(zwd n++(sp1++r))) u.size (zwd n::R):=by
 obtain⟨h1,h2,h3⟩:=zOn hn
 have hn1:=zXc (s:=u++(zwd n++(sp1++r))) (s':=zwd n++sp1) (off:=u.size) (p:=0) (by show (tkB (zwd n)).k≠1;rw[h2];decide) (by show (tkB (zwd n)).t < _;rw[h1.tt,zNA];omega)
  (λj _ hj=>by
    have hj':j<=(tkB (zwd n)).t:=hj;rw[h1.tt] at hj';rw[<- ByteArray.append_assoc (a:=zwd n)];exact zWZ (by rw[zNA];omega))
  (by show u.size+(tkB (zwd n)).t < _;rw[h1.tt,ByteArray.size_append,ByteArray.size_append,ByteArray.size_append];show _ < _+(_+(1+_));omega)
 have e:zZ (zwd n++sp1) 0=tkB (zwd n):=rfl;rw[e,Nat.add_zero,h1.tt] at hn1
 show (_/\_/\_)/\Rst _ (zZ _ u.size).t R;rw[hn1];exact⟨⟨rfl,rfl,rfl⟩,hR⟩
def mnW:ByteArray:=⟨#[45]⟩
theorem zX9 {s:Xb}{q:Nat}(h:q+2<=s.size)(h0:bt s q=45)(h1:zT (bt s (q+1))=true)(hR:Rst s (q+1) R):Rst s q (mnW::R):=by
 have hs:zQ zbY s q=q:=zif (by rw[h0];rfl);have x1:s.extract q (q+1)=mnW:=by
  have hb:∀i,0<=i->i<1->bt s (q+i)=bt mnW i:=λi _ hi=>by have e:i=0:=(by omega);subst e;rw[Nat.add_zero,h0];rfl
  have:=zWW (s:=s) (s':=mnW) (off:=q) (a:=0) (e:=1) (by omega) (by omega) (by decide) hb;rw[Nat.add_zero] at this;rw[this];decide +kernel
 have c:¬(q+2<=s.size/\((s.extract q (q+2)).toList==[45,62]||(s.extract q (q+2)).toList==[60,62]||(s.extract q (q+2)).toList==[60,61])=true):=by
  rintro⟨_,e⟩;rw[zRg h,h0] at e;unfold zT at h1;simp only[Bool.and_eq_true,decide_eq_true_eq] at h1;obtain⟨d,hd⟩:∃d,bt s (q+1)=d:=⟨_,rfl⟩;rw[hd] at e h1;have e62:∀c:Nat,c<=57->48<=c->(UInt8.ofNat c==62)=false/\(UInt8.ofNat c==61)=false:=by decide
  obtain⟨f1,f2⟩:=e62 d h1.2 h1.1;simp[f1] at e
 have hn:zZ s q=⟨4,q,q+1,mnW,0⟩:=by unfold zZ;simp only;rw[hs,zM1 (by omega),h0,zM1 (by decide),zM1 (by decide)];unfold zfh;rw[zM1 c,h0,zM2 (by decide),x1]
 have ht:(tkB mnW).k=4/\(tkB mnW).s.toList=mnW.toList/\(tkB mnW).n=0:=by decide +kernel
 show (_/\_/\_)/\Rst _ (zZ _ q).t R;rw[hn];exact⟨⟨ht.1.symm,by have e:=ht.2.1;rw[ByteArray.toList_eq,ByteArray.toList_eq] at e;exact (ByteArray.ext (Array.toList_inj.1 e)).symm,ht.2.2.symm⟩,hR⟩
end
def DOk (D:Xb)(T:Xl):Prop:=∀(u r:Xb) (R:Xl),Rst (u++(D++(sp1++r))) (u.size+D.size) R->Rst (u++(D++(sp1++r))) u.size (T++R)
def zWU (o:Int):List ByteArray:=if zz2 o<0 then [mnW,zwd (zz2 o).natAbs] else [zwd (zz2 o).natAbs]
theorem zXP (n:Nat):1<=(zwd n).size/\zT (bt (zwd n) 0)=true:=by
 obtain⟨h1,h2,_⟩:=zSj n;have e:zwd n=⟨(Lib.decDigits n).toArray⟩:=by unfold zwd Lib.itoa;rw[zM1 (by omega),Int.toNat_natCast]
 rw[e];refine⟨by show 1<=(Lib.decDigits n).toArray.size;simpa using h2,?_⟩;rw[zNz (by omega)];unfold zT;simp only[Bool.and_eq_true,decide_eq_true_eq];exact h1 _ (List.getElem_mem _)
theorem zWY (h1:-9223372036854775808<=o)(h2:o<=9223372036854775807):(zz2 o).natAbs<=9223372036854775807:=by unfold zz2;split <;> omega
theorem dok (h1:-9223372036854775808<=o)(h2:o<=9223372036854775807):DOk (zWT o) (zWU o):=by
 have hn:=zWY h1 h2;unfold zWT zWU;intro u r R;by_cases h:zz2 o<0
 . rw[zM2 h,zM2 h];generalize (zz2 o).natAbs=n at *;intro hR;have e:u++((⟨#[45]⟩++zwd n)++(sp1++r))=u++(mnW++(zwd n++(sp1++r))):=by rw[ByteArray.append_assoc (a:=(⟨#[45]⟩:Xb))];rfl
   have e2:u++(mnW++(zwd n++(sp1++r)))=(u++mnW)++(zwd n++(sp1++r)):=(ByteArray.append_assoc).symm;obtain⟨d1,d2⟩:=zXP n;have z:(u++mnW).size=u.size+1:=(by rw[ByteArray.size_append];rfl);rw[e] at hR ⊢;refine zX9 (by rw[ByteArray.size_append,ByteArray.size_append,ByteArray.size_append];show _<=_+(1+_);omega) ?_ ?_ ?_
   . exact zWZ (u:=u) (v:=mnW) (j:=0) (by decide)
   . rw[e2];have:=zWZ (u:=u++mnW) (v:=zwd n) (r:=sp1++r) (j:=0) (by omega);rw[Nat.add_zero,z] at this;rw[this];exact d2
   rw[e2] at hR ⊢;rw[<- z];refine zXi hn ?_;rw[ByteArray.size_append] at hR;rw[z,Nat.add_assoc];exact hR
 rw[zM1 h,zM1 h];exact λhR=>zXi hn hR
def tA:ByteArray:=⟨#[110,111,100,101,32,110,40,97,58,32,105,110,116,44,32,114,58,32,98,111,111,108,41,32,45,62,32,40,115,58,32,105,110,116,41,32,123,32,115,32,61,32,97,32,43,32,40,105,102,32,114,32,116,104,101,110,32]⟩
def bE:ByteArray:=⟨#[101,108,115,101,32]⟩
def bG:ByteArray:=⟨#[102,98,121,32,115,41,59,32]⟩
def kA:List ByteArray:=[⟨#[110,111,100,101]⟩,⟨#[110]⟩,⟨#[40]⟩,⟨#[97]⟩,⟨#[58]⟩,⟨#[105,110,116]⟩,⟨#[44]⟩,⟨#[114]⟩,⟨#[58]⟩,⟨#[98,111,111,108]⟩,⟨#[41]⟩,⟨#[45,62]⟩,⟨#[40]⟩,⟨#[115]⟩,⟨#[58]⟩,⟨#[105,110,116]⟩,⟨#[41]⟩,⟨#[123]⟩,⟨#[115]⟩,⟨#[61]⟩,⟨#[97]⟩,⟨#[43]⟩,⟨#[40]⟩,⟨#[105,102]⟩,⟨#[114]⟩,⟨#[116,104,101,110]⟩]
def suT (D:Xb):ByteArray:=tA++(D++(sp1++(bE++(D++(sp1++(bG++rbW))))))
theorem zYi {u r:Xb}:bt (u++(sp1++r)) u.size=32:=zWZ (u:=u) (v:=sp1) (j:=0) (by decide)
theorem zXV {u r:Xb}(hR:Rst ((u++sp1)++r) (u++sp1).size l):Rst (u++(sp1++r)) u.size l:=by refine zXr (by rw[ByteArray.size_append,ByteArray.size_append];show _ < _+(1+_);omega) (by rw[zYi];rfl) ?_;rw[ByteArray.append_assoc,ByteArray.size_append] at hR;exact hR
theorem zXB {u:Xb}:Rst (u++rbW) u.size [rbW]:=by
 have z:(u++rbW).size=u.size+1:=by rw[ByteArray.size_append];rfl
 have h0:bt (u++rbW) u.size=125:=zX5 (x:=u) (y:=rbW) 0;generalize u++rbW=s at *;have hs:zQ zbY s u.size=u.size:=zif (by rw[h0];rfl);have hb:∀i,0<=i->i<1->bt s (u.size+i)=bt rbW i:=λi _ hi=>by
  have e:i=0:=by omega
  subst e;rw[Nat.add_zero,h0];rfl
 have x1:=zWW (s:=s) (s':=rbW) (off:=u.size) (a:=0) (e:=1) (by omega) (by omega) (by decide) hb;rw[Nat.add_zero,show rbW.extract 0 1=rbW by decide +kernel] at x1;have hn:zZ s u.size=⟨4,u.size,u.size+1,rbW,0⟩:=by unfold zZ;simp only;rw[hs,zM1 (by omega),h0,zM1 (by decide),zM1 (by decide)];unfold zfh;rw[zM1 (by omega),h0,zM2 (by decide),x1]
 have ht:(tkB rbW).k=4/\(tkB rbW).s.toList=rbW.toList/\(tkB rbW).n=0:=by decide +kernel
 show (_/\_/\_)/\Rst _ (zZ _ u.size).t [];rw[hn];refine⟨⟨ht.1.symm,by have e:=ht.2.1;rw[ByteArray.toList_eq,ByteArray.toList_eq] at e;exact (ByteArray.ext (Array.toList_inj.1 e)).symm,ht.2.2.symm⟩,?_⟩
 show (zZ s (u.size+1)).k=0;unfold zZ;simp only;rw[zjm (by omega),zM2 z.symm]
def fbW:ByteArray:=⟨#[102,98,121]⟩
def nS:ByteArray:=⟨#[115]⟩
def kC:List ByteArray:=[fbW,nS,rpW,smW]
theorem zXI {u v r:Xb}(e:Nat)(he:v.size=e+1)(hw:zbY (bt v e)=true)(hR:Rst ((u++v)++r) (u++v).size l):Rst (u++(v++r)) (u.size+e) l:=by refine zXr (by rw[ByteArray.size_append,ByteArray.size_append];omega) (by rw[zWZ (by omega)];exact hw) ?_;rw[ByteArray.append_assoc,ByteArray.size_append,he] at hR;exact hR
theorem zXy {D:Xb}{T:Xl}(hD:DOk D T):Rst (suT D) 0 (kA++(T++([zNs]++(T++(kC++[rbW]))))):=by
 unfold suT;have hD2:∀(u r:Xb) (R:Xl),Rst (((u++D)++sp1)++r) ((u++D)++sp1).size R->Rst (u++(D++(sp1++r))) u.size (T++R):=λu r R h=>by refine hD u r R ?_;have:=zXV h;rw[ByteArray.append_assoc,ByteArray.size_append] at this;exact this
 have hs:∀{v r:Xb} {l R:Xl} {e:Nat} (u:Xb),zXb v 0 l=some e->v.size=e+1->zbY (bt v e)=true->Rst ((u++v)++r) (u++v).size R->Rst (u++(v++r)) u.size (l++R):=λu h1 h2 h3 h4=>zXY h1 (zXI _ h2 h3 h4);have e0:∀r:Xb,(⟨#[]⟩:Xb)++r=r:=λr=>by apply ByteArray.ext;simp
 have h:=hs (v:=tA) (r:=D++(sp1++(bE++(D++(sp1++(bG++rbW)))))) (l:=kA) (R:=T++([zNs]++(T++(kC++[rbW])))) (e:=56) ⟨#[]⟩ (by decide +kernel) (by decide +kernel) (by decide +kernel);rw[e0,e0] at h;refine h (hD2 tA _ _ ?_);refine hs (e:=4) _ (by decide +kernel) (by decide +kernel) (by decide +kernel) (hD2 _ _ _ ?_);exact hs (e:=7) _ (by decide +kernel) (by decide +kernel) (by decide +kernel) zXB
end
section
variable {P:Fn} {n:Nat}
section
variable {st:St} {y x:Xb} {R l:Xl} {t a b c:Tm} {d:Nat}
theorem At.enter' (h:At st (x::l))(hl:Oks l)(ho:st.op+1<=16):At st.enter l:=by unfold St.enter;rw[zM1 (by omega)];exact At.step (st:={ st with op:=st.op+1 }) (x:=x) h hl
theorem zXg {atm:Fn}(h:Yes st (y::R) t (atm st))(hy:((tkB y).k==5&&((tkB y).s.toList==[119,104,101,110]||(tkB y).s.toList==[119,104,101,110,111,116]))=false):Yes st (y::R) t (zfu atm st):=by rw[zND];exact h;refine .inr ?_;unfold zdi;rw[h.at'.is,h.at'.is,<- hy,Bool.and_or_distrib_left]
theorem zW2 (h:Yes st (y::R) t (P st))(hy:zco (tkB y) n=false):Yes st (y::R) t (zcT n P st):=by rw[zNH];exact h;exact .inr (by rw[h.at'.level];exact hy)
theorem zXz (h:Yes st (y::R) t (P st))(hy:zcn (tkB y)=false):Yes st (y::R) t (zdJ P st):=by rw[zOp];exact h;exact .inr (by rw[h.at'.test];exact hy)
theorem zXC {rx:Fn}(h:Yes st (y::R) t (P st))(hy:((tkB y).k==5&&(tkB y).s.toList==[102,98,121])=false):Yes st (y::R) t (zgk rx P st):=by rw[zOi];exact h;exact .inr (by rw[h.at'.is];exact hy)
theorem zW7 (hA:At st (x::l))(hb:zO6 x=true)(h:Yes st (y::R) t ((lev (d+1)).at' st))(hy:zNg y 0=true):Yes st (y::R) t ((lev (d+1)).un st):=by rw[zOf,zN3 (zOS hA hb)];exact zXg h (zNy hy).2.1
theorem zXl (h:Yes st (y::R) t ((lev (d+1)).un st))(hy:zNg y 1=true):Yes st (y::R) t (T3 (d+1) st):=zW2 h ((zNy hy).2.2.1 (zMK _))
theorem zYb (h:Yes st (y::R) t (T3 (d+1) st))(hy:zNg y 2=true):Yes st (y::R) t (T2 (d+1) st):=zW2 h ((zNy hy).2.2.2.1 (zMK _))
theorem zYf (h:Yes st (y::R) t (T2 (d+1) st))(hy:zNg y 3=true):Yes st (y::R) t (Te (d+1) st):=zXz h ((zNy hy).2.2.2.2.1 (zMK _))
theorem zYc (h:Yes st (y::R) t (Te (d+1) st))(hy:zNg y 4=true):Yes st (y::R) t (T1 (d+1) st):=zW2 h ((zNy hy).2.2.2.2.2.1 (zMK _))
theorem zYd (h:Yes st (y::R) t (T1 (d+1) st))(hy:zNg y 5=true):Yes st (y::R) t (T0 (d+1) st):=zW2 h ((zNy hy).2.2.2.2.2.2.1 (zMK _))
theorem zW9 (h:Yes st (y::R) t (T0 (d+1) st))(hy:zNg y 6=true):Yes st (y::R) t ((lev (d+1)).ex st):=by rw[zOR];exact zXC h ((zNy hy).2.2.2.2.2.2.2 (zMK _))
theorem zXv (h:Yes st (y::R) t (T2 (d+1) st))(h3:zNg y 3=true)(h4:zNg y 4=true)(h5:zNg y 5=true):Yes st (y::R) t (T0 (d+1) st):=zYd (zYc (zYf h h3) h4) h5
theorem zW6 (h:Yes st (y::R) t ((lev (d+1)).un st))(hy:zNg y 5=true):Yes st (y::R) t (T0 (d+1) st):=by
 have p:∀i,i<=5->zNg y i=true:=λi hi=>by unfold zNg at hy ⊢;simp only[Bool.and_eq_true,Bool.or_eq_true,beq_iff_eq,decide_eq_true_eq] at hy ⊢;obtain⟨⟨⟨⟨⟨⟨⟨h1,h2⟩,h3⟩,h4⟩,h5⟩,h6⟩,h7⟩,h8⟩:=hy;exact⟨⟨⟨⟨⟨⟨⟨h1,h2⟩,.inr (h3.resolve_left (by omega))⟩,.inr (h4.resolve_left (by omega))⟩,.inr (h5.resolve_left (by omega))⟩,.inr (h6.resolve_left (by omega))⟩,.inr (h7.resolve_left (by omega))⟩,.inl hi⟩
 exact zXv (zYb (zXl h (p 1 (by omega))) (p 2 (by omega))) (p 3 (by omega)) (p 4 (by omega)) hy
theorem zXR (hn:n<=9223372036854775807)(hA:At st (zwd n::R))(hz:Oks R)(ht:eT t=.mk 0 0 sE 0 n []):Yes st R t ((lev (d+1)).at' st):=by obtain⟨_,g1,g2⟩:=zOn hn;rw[zNT];unfold zap;rw[zM1 (λe=>e hA.er),zM2 (by rw[hA.2.1.1];exact g1)];unfold zdP;refine zNt (us:=[]) (hA.step hz) (St.step_op st) (by rw[St.step_L];exact List.prefix_rfl) (Trs.nil _) ?_;rw[ht];simp only[hA.2.1.2.2,g2,List.map_nil];unfold zag zbF;rw[zM2 (by decide +kernel),zM2 (by decide +kernel)]
theorem zXW {s:Xb}(hs:zNi s)(hA:At st (s::y::R))(hz:Oks (y::R))(hy:zNg y 0=true)(ht:eT t=.mk 3 0 s 0 0 []):Yes st (y::R) t ((lev (d+1)).at' st):=by
 have hB:=hA.step hz;rw[zNT];unfold zap;rw[zM1 (λe=>e hA.er),zM1 (by rw[hA.2.1.1,hs.k];decide),zM2 (by rw[hA.2.1.1];exact hs.k),zM1 (by rw[hB.is,(zNy hy).1];decide)];rcases zPK hs hA hz ht with h|h
 . exact absurd h (by show (zjx st).1.er≠3;unfold zjx;show (st.step).er≠3;rw[hB.er];decide)
 exact h
end
end
section
variable {P:Fn} {k:Nat}
section
variable {st:St} {y z:Xb} {R X Y Z:Xl} {t a b c:Tm} {d:Nat}
def Yx (M:Fn)(X:Xl)(t:Tm)(y:Xb)(k:Nat):Prop:=∀(st:St) (R:Xl),st.op<=k->Oks (y::R)->At st (X++y::R)->Yes st (y::R) t (M st)
theorem zXK {n:Nat}(ha:Yes st (y::(X++z::R)) a (P st))(hP:Yx P X b z k)(ho:st.op<=k)(hb:Oks (X++z::R))(hy:zco (tkB y) n=true)(hr:zco (tkB z) n=false)(ht:eT t=.mk (zag (tkB y).s.toList 0) 0 sE 0 (zbF (tkB y).s.toList 0) [eT a,eT b]) :
 Yes st (z::R) t (zcT n P st):=by
 have h1:=ha.at'.step hb;have h2:=hP (P st).1.step R (by rw[St.step_op,ha.op];exact ho) (λw hw=>hb w (zMY.2 (.inr hw))) h1;have h3:Yes st (z::R) t ((P (P st).1.step).1.put ⟨(P st).1.t.s,(P st).1.t.a,0,[(P st).2,(P (P st).1.step).2],sE,0⟩):=by
  obtain⟨ta,q1,q2⟩:=ha.tr;obtain⟨tb,q3,q4⟩:=h2.tr;have hL:=h2.L;rw[St.step_L] at hL;refine zNt (us:=[ta,tb]) h2.at' (by rw[h2.op,St.step_op,ha.op]) (ha.L.trans hL) (zQt (zAz hL q1) q3) ?_
  show eT t=.mk (zag (P st).1.t.s.toList 0) 0 sE 0 (zbF (P st).1.t.s.toList 0) [eT ta,eT tb];rw[ht,ha.at'.2.1.2.1,q2,q4]
 unfold zcT
 show Yes _ _ _ (zdq n P (1299+1) _);generalize 1299=f
 show Yes _ _ _ (if _ then _ else P st);rw[zM2 ⟨ha.at'.er,by rw[ha.at'.level];exact hy⟩,zRl (.inr (by rw[h3.at'.level];exact hr))];exact h3
theorem zXL (hA:At st (mnW::(X++z::R)))(hP:Yx (lev d).un X a z (k+1))(ho:st.op<=k)(hk:k+1<=16)(hb:Oks (X++z::R))(ht:eT t=.mk 10 0 sE 0 0 [eT a]):Yes st (z::R) t ((lev (d+1)).un st):=by
 have hm:(tkB mnW).k=4/\(tkB mnW).s.toList=[45]:=by decide +kernel
 have hi:st.is 4 [45]=true:=by rw[hA.is,hm.1,hm.2];rfl
 rw[zOf];unfold zdn;rw[zM2 ⟨hA.er,by rw[hi];rfl⟩,zM2 hi];have h2:=hP st.enter R (by rw[St.enter_op];omega) (λw hw=>hb w (zMY.2 (.inr hw))) (hA.enter' hb (by omega));obtain⟨ta,q1,q2⟩:=h2.tr;have hL:=h2.L;rw[St.enter_L] at hL;refine zNt (us:=[ta]) h2.at'.leave (by rw[St.leave_op,h2.op,St.enter_op];rfl) hL (zQO q1) ?_;simp only[List.map_cons,List.map_nil];rw[q2,ht,show zag zlo.toList 0=10 by decide +kernel,show zbF zlo.toList 0=0 by decide +kernel]
theorem zX0 {rx:Fn}(ha:Yes st (fbW::(X++z::R)) a (P st))(hP:Yx rx X b z (k+1))(ho:st.op<=k)(hk:k+1<=16)(hb:Oks (X++z::R))(ht:eT t=.mk 9 0 sE 0 0 [eT a,eT b]) :
 Yes st (z::R) t (zgk rx P st):=by
 have hm:(tkB fbW).k=5/\(tkB fbW).s.toList=[102,98,121]:=by decide +kernel
 unfold zgk;simp only;rw[zM2 ⟨ha.at'.er,by rw[ha.at'.is,hm.1,hm.2];rfl⟩];have h2:=hP (P st).1.enter R (by rw[St.enter_op,ha.op];omega) (λw hw=>hb w (zMY.2 (.inr hw))) (ha.at'.enter' hb (by rw[ha.op];omega));obtain⟨ta,q1,q2⟩:=ha.tr;obtain⟨tb,q3,q4⟩:=h2.tr;have hL:=h2.L;rw[St.enter_L] at hL;refine zNt (us:=[ta,tb]) h2.at'.leave (by rw[St.leave_op,h2.op,St.enter_op,ha.op];rfl) (ha.L.trans hL) (zQt (zAz hL q1) q3) ?_
 show eT t=.mk (zag zgW.toList 0) 0 sE 0 (zbF zgW.toList 0) [eT ta,eT tb];rw[ht,q2,q4,show zag zgW.toList 0=9 by decide +kernel,show zbF zgW.toList 0=0 by decide +kernel]
theorem zXk (hA:At st (ifW::(X++zNx::(Y++zNs::(Z++z::R)))))(hc:Yx (lev d).ex X c zNx (k+1))(ha:Yx (lev d).ex Y a zNs (k+1))(hb:Yx (lev d).ex Z b z (k+1))(ho:st.op<=k)(hk:k+1<=16)(hz:Oks (X++zNx::(Y++zNs::(Z++z::R))))(ht:eT t=.mk 5 0 sE 0 0 [eT c,eT a,eT b]) :
 Yes st (z::R) t ((lev (d+1)).at' st):=by
 have z1:Oks (zNx::(Y++zNs::(Z++z::R))):=λw h=>hz w (zMY.2 (.inr h));have z2:Oks (Y++zNs::(Z++z::R)):=λw h=>z1 w (zMX _ h);have z3:Oks (zNs::(Z++z::R)):=λw h=>z2 w (zMY.2 (.inr h));have z4:Oks (Z++z::R):=λw h=>z3 w (zMX _ h);have z5:Oks (z::R):=λw h=>z4 w (zMY.2 (.inr h));rw[zNT,zFX hA];unfold zdx;simp only;have L1:(tkB zNx).k=5/\(tkB zNx).s.toList=[116,104,101,110]:=by decide +kernel
 have L2:(tkB zNs).k=5/\(tkB zNs).s.toList=[101,108,115,101]:=by decide +kernel
 have h2:=hc st.enter _ (by rw[St.enter_op];omega) z1 (hA.enter' hz (by omega));generalize hC:(lev d).ex st.enter=C at *;have m1:=h2.at'.must z2 L1.1 L1.2;have h3:=ha _ _ (by rw[St.must_op,h2.op,St.enter_op];omega) z3 m1;generalize hB:(lev d).ex (C.1.must 5 [116,104,101,110])=A at *;have m2:=h3.at'.must z4 L2.1 L2.2;have h4:=hb _ _ (by rw[St.must_op,h3.op,St.must_op,h2.op,St.enter_op];omega) z5 m2;obtain⟨tc,c1,c2⟩:=h2.tr;obtain⟨ta,a1,a2⟩:=h3.tr;obtain⟨tb,b1,b2⟩:=h4.tr;have l2:=h2.L;have l3:=h3.L;have l4:=h4.L;rw[St.enter_L] at l2;rw[St.must_L] at l3 l4;refine zNt (us:=[tc,ta,tb]) h4.at'.leave (by rw[St.leave_op,h4.op,St.must_op,h3.op,St.must_op,h2.op,St.enter_op];rfl) ((l2.trans l3).trans l4) (zTc (zAz (l3.trans l4) c1) (zAz l4 a1) b1) ?_
 show eT t=.mk (zag sIf.toList 0) 0 sE 0 (zbF sIf.toList 0) [eT tc,eT ta,eT tb];rw[ht,c2,a2,b2,show zag sIf.toList 0=5 by decide +kernel,show zbF sIf.toList 0=0 by decide +kernel]
theorem zXq (hA:At st (lpW::(X++rpW::R)))(h:Yx (lev d).ex X t rpW (k+1))(ho:st.op<=k)(hk:k+1<=16)(hz:Oks (X++rpW::R)):Yes st R t ((lev (d+1)).at' st):=by
 have z1:Oks (rpW::R):=λw h=>hz w (zMY.2 (.inr h));have z2:Oks R:=λw h=>z1 w (zMX _ h);rw[zNT,zQm hA];unfold zfQ;have L1:(tkB rpW).k=4/\(tkB rpW).s.toList=[41]:=by decide +kernel
 have h2:=h st.enter R (by rw[St.enter_op];omega) z1 (hA.enter' hz (by omega));have l2:=h2.L;rw[St.enter_L] at l2;refine⟨(h2.at'.must z2 L1.1 L1.2).leave,?_,?_,?_⟩
 . show (((lev d).ex st.enter).1.must 4 [41]).op-1=_;rw[St.must_op,h2.op,St.enter_op];rfl
 . show _ <+: (((lev d).ex st.enter).1.must 4 [41]).L;rw[St.must_L];exact l2
 show ∃t',zeA (((lev d).ex st.enter).1.must 4 [41]).L _ t'/\_;rw[St.must_L];exact h2.tr
end
end
section
variable {s:Xb}
def zW1 (o:Int):Tm:=if zz2 o<0 then .mk 10 0 sE 0 0 [.mk 0 0 sE 0 (zz2 o).natAbs []] else .mk 0 0 sE 0 (zz2 o).natAbs []
def nA:ByteArray:=⟨#[97]⟩
def nR:ByteArray:=⟨#[114]⟩
def nN:ByteArray:=⟨#[110]⟩
def vT (s:Xb):Tm:=.mk 3 0 s 0 0 []
def chT (o:Int):Tm:=.mk 5 0 sE 0 0 [vT nR,zW1 o,.mk 9 0 sE 0 0 [zW1 o,vT nS]]
def suR (o:Int):Tm:=.mk (zag [43] 0) 0 sE 0 0 [vT nA,chT o]
def plW:ByteArray:=⟨#[43]⟩
def chW (o:Int):List ByteArray:=ifW::([nR]++zNx::(zWU o++zNs::(zWU o++[fbW,nS])))
def suW (o:Int):List ByteArray:=nA::plW::lpW::(chW o++[rpW])
theorem zW4 {x:Xb}(h:zQG x 2=true):zNi x:=by obtain⟨h1,h2,h3⟩:=zNh h;rw[ByteArray.toList_eq,ByteArray.toList_eq] at h3;exact⟨h1,h2,ByteArray.ext (Array.toList_inj.1 h3)⟩
theorem nmA:zNi nA:=zW4 (by decide +kernel)
theorem nmR:zNi nR:=zW4 (by decide +kernel)
theorem nmS:zNi nS:=zW4 (by decide +kernel)
theorem nmN:zNi nN:=zW4 (by decide +kernel)
theorem zXm:zNf fbW:=(zNh (k:=5) (by decide +kernel)).1
theorem zXH:zNf plW:=(zNh (k:=4) (by decide +kernel)).1
theorem zYg:zNf mnW:=(zNh (k:=4) (by decide +kernel)).1
section
variable {o:Int} {d k:Nat} {y:Xb}
theorem zXE (h1:-9223372036854775808<=o)(h2:o<=9223372036854775807):Oks (zWU o):=by
 have hn:=zWY h1 h2;unfold zWU;split
 . exact zNd zYg (zNl (zOn hn).1)
 exact zNl (zOn hn).1
theorem zXF (h1:-9223372036854775808<=o)(h2:o<=9223372036854775807)(hk:k+1<=16)(hy:zNg y 0=true):Yx (lev (d+2)).un (zWU o) (zW1 o) y k:=by
 have hn:=zWY h1 h2;unfold zWU zW1;have hb:zO6 (zwd (zz2 o).natAbs)=true:=by unfold zO6;rw[(zOn hn).2.1];rfl
 generalize (zz2 o).natAbs=n at *;have key:∀{e k:Nat},Yx (lev (e+1)).un [zwd n] (.mk 0 0 sE 0 n []) y k:=λst R _ hz hA=>zW7 hA hb (zXR hn hA hz rfl) hy;split
 . exact λst R ho hz hA=>zXL (X:=[zwd n]) hA key ho hk (zNd (zOn hn).1 hz) rfl
 exact key
theorem zYn (h1:-9223372036854775808<=o)(h2:o<=9223372036854775807)(hk:k+1<=16)(hy:zNg y 0=true)(h5:zNg y 5=true)(h6:zNg y 6=true):Yx (lev (d+2)).ex (zWU o) (zW1 o) y k:=λst R ho hz hA=>zW9 (zW6 (zXF h1 h2 hk hy st R ho hz hA) h5) h6
theorem zXG (hs:zNi s)(hy:zNg y 0=true):Yx (lev (d+1)).un [s] (vT s) y k:=λst R _ hz hA=>zW7 hA (by unfold zO6;rw[hs.k];rfl) (zXW hs hA hz hy rfl) hy
theorem zX6 (hs:zNi s)(hy:zNg y 0=true)(h5:zNg y 5=true)(h6:zNg y 6=true):Yx (lev (d+1)).ex [s] (vT s) y k:=λst R ho hz hA=>zW9 (zW6 (zXG hs hy st R ho hz hA) h5) h6
theorem zYv (h1:-9223372036854775808<=o)(h2:o<=9223372036854775807)(hk:k+1<=16):Yx (lev (d+2)).ex (zWU o++[fbW,nS]) (.mk 9 0 sE 0 0 [zW1 o,vT nS]) rpW k:=λst R ho hz hA=>by have z1:Oks ([nS]++rpW::R):=zNd nmS.ok hz;rw[zMQ] at hA;rw[zOR];exact zX0 (X:=[nS]) (zW6 (zXF h1 h2 hk (by decide +kernel) st _ ho (zNd zXm z1) hA) (by decide +kernel)) (zX6 nmS (by decide +kernel) (by decide +kernel) (by decide +kernel)) ho hk z1 rfl
theorem zYr (h1:-9223372036854775808<=o)(h2:o<=9223372036854775807)(hk:k+2<=16):Yx (lev (d+3)).ex (chW o) (chT o) rpW k:=λst R ho hz hA=>by
 have zd:=zXE h1 h2;have z:Oks ([nR]++zNx::(zWU o++zNs::((zWU o++[fbW,nS])++rpW::R))):=zNd nmR.ok (zNd zQh (zNe zd (zNd zP8 (zNe (zNe zd (zNd zXm (zNl nmS.ok))) hz))));have e:chW o++rpW::R=ifW::([nR]++zNx::(zWU o++zNs::((zWU o++[fbW,nS])++rpW::R))):=by unfold chW;simp
 rw[e] at hA;have h:=zXk (d:=d+2) (k:=k) hA (zX6 nmR (by decide +kernel) (by decide +kernel) (by decide +kernel)) (zYn h1 h2 (by omega) (by decide +kernel) (by decide +kernel) (by decide +kernel)) (zYv h1 h2 (by omega)) ho (by omega) z (t:=chT o) rfl;exact zW9 (zW6 (zW7 hA (by decide +kernel) h (by decide +kernel)) (by decide +kernel)) (by decide +kernel)
theorem zXp (h1:-9223372036854775808<=o)(h2:o<=9223372036854775807):Oks (chW o):=by have zd:=zXE h1 h2;exact zNd zSN (zNd nmR.ok (zNd zQh (zNe zd (zNd zP8 (zNe zd (zNd zXm (zNl nmS.ok)))))))
theorem zYx (h1:-9223372036854775808<=o)(h2:o<=9223372036854775807):Yx (lev (d+4)).ex (suW o) (suR o) smW 0:=λst R ho hz hA=>by
 have zc:=zXp h1 h2;have z1:Oks (chW o++rpW::smW::R):=zNe zc (zNd zNq hz);have e:suW o++smW::R=nA::plW::((lpW::(chW o++[rpW]))++smW::R):=by unfold suW;simp
 have e2:(lpW::(chW o++[rpW]))++smW::R=lpW::(chW o++rpW::smW::R):=by simp
 rw[e] at hA;have z2:Oks ((lpW::(chW o++[rpW]))++smW::R):=by rw[e2];exact zNd zOV z1
 have ha:Yes st (plW::((lpW::(chW o++[rpW]))++smW::R)) (vT nA) (T3 (d+4) st):=zXl (zXG (d:=d+3) (k:=0) nmA (by decide +kernel) st _ ho (zNd zXH z2) hA) (by decide +kernel);have hP:Yx (T3 (d+4)) (lpW::(chW o++[rpW])) (chT o) smW 0:=λs R' ho' hz' hA'=>by
  have e3:(lpW::(chW o++[rpW]))++smW::R'=lpW::(chW o++rpW::smW::R'):=by simp
  rw[e3] at hA';exact zXl (d:=d+3) (zW7 hA' (by decide +kernel) (zXq hA' (zYr h1 h2 (by omega)) ho' (by omega) (zNe zc (zNd zNq hz'))) (by decide +kernel)) (by decide +kernel)
 have hs:=zXK (n:=2) (t:=suR o) ha hP ho z2 (by decide +kernel) (by decide +kernel) (by
  have e4:(tkB plW).s.toList=[43]:=by decide +kernel
  rw[e4,show zbF [43] 0=0 by decide +kernel];rfl)
 exact zW9 (zXv hs (by decide +kernel) (by decide +kernel) (by decide +kernel)) (by decide +kernel)
end
end
section
structure NdE (d:Nd) (n:Nod):Prop where
 nm:d.nm=n.nm
 vars:d.vars.map eV=n.vars.map eV
 eqs:zOd d.exs d.eqs n.eqs
theorem At.fresh {st:St}{R:Xl}(h:At st R):At st.fresh R:=by cases R <;> exact h
def ndW:ByteArray:=⟨#[110,111,100,101]⟩
def arW:ByteArray:=⟨#[45,62]⟩
theorem zQR:zNf arW:=(zNh (k:=4) (by decide +kernel)).1
theorem zN4 {us:List Vr}(h:∀v∈us,RdV v):Oks (zu5 (us.map zu7)):=zOD (λx hx=>by
 obtain⟨w,hw,rfl⟩:=List.mem_map.1 hx;exact zNS (h w hw))
end
section
def zNX (ds:List Nd)(ns:List Nod):Prop:=ds.length=ns.length/\∀(i:Nat) (d:Nd) (n:Nod),ds[i]?=some d->ns[i]?=some n->NdE d n
section
variable {d g:Nat}
end
end
section
variable {M N:Fn} {f:Nat}
def suA:Vr:=⟨nA,0,false,true,false,0,sE,0,false,false⟩
def suB:Vr:=⟨nR,0,true,true,false,0,sE,0,false,false⟩
def suC:Vr:=⟨nS,0,false,false,true,0,sE,0,false,false⟩
def suQ (o:Int):Qn:={ ns:=[nS],ps:=[0],a:=0,r:=suR o }
def suN (o:Int):Nod:=⟨nN,0,[suA,suB,suC],2,1,[suQ o]⟩
section
variable {o:Int} {st:St} {R:Xl}
theorem zXd (h1:-9223372036854775808<=o)(h2:o<=9223372036854775807):Oks (suW o):=zNd nmA.ok (zNd zXH (zNd zOV (zNe (zXp h1 h2) (zNl zNq))))
theorem zYe (h1:-9223372036854775808<=o)(h2:o<=9223372036854775807)(hM:Yx M (suW o) (suR o) smW 0)(hz:Oks R)(ho:st.op=0)(hA:At st (nS::eqW::(suW o++smW::R))):QsL st R [suQ o] (zF N M st []):=by
 have zr:Oks (suW o++smW::R):=zNe (zXd h1 h2) (zNd zPq hz);have ze:Oks (eqW::(suW o++smW::R)):=zNd zRX zr;have L1:(tkB eqW).k=4/\(tkB eqW).s.toList=[61]:=by decide +kernel
 have L2:(tkB smW).k=4/\(tkB smW).s.toList=[59]:=by decide +kernel
 unfold zF;simp only;obtain⟨g1,g2⟩:=zRF ze nmS hA;have g3:=g2.at'.must zr L1.1 L1.2;rw[g1];rw[show zck N M false ((zaH st).st.must 4 [61])=M ((zaH st).st.must 4 [61]) from rfl];have hX:=hM _ R (by rw[St.must_op,g2.op,ho];exact zMK _) (zNd zPq hz) g3;generalize M ((zaH st).st.must 4 [61])=X at *;have hL:=hX.L;rw[St.must_L,g2.L] at hL;refine⟨hX.at'.must hz L2.1 L2.2,by show (X.1.must 4 [59]).op=_;rw[St.must_op,hX.op,St.must_op,g2.op],by show _ <+: (X.1.must 4 [59]).L;rw[St.must_L];exact hL,?_⟩
 show zOd (X.1.must 4 [59]).L _ _;rw[St.must_L];have h0:zOd X.1.L [] []:=⟨rfl,λi e q h=>by simp at h⟩;exact h0.snoc List.prefix_rfl ⟨g2.ns,hX.tr⟩
theorem zXT (h1:-9223372036854775808<=o)(h2:o<=9223372036854775807)(hM:Yx M (suW o) (suR o) smW 0)(hz:Oks R)(ho:st.op=0)(hA:At st (lbW::nS::eqW::(suW o++smW::rbW::R))):QsL st R [suQ o] (zdr N M f st):=by
 have zq:Oks (nS::eqW::(suW o++smW::rbW::R)):=zNd nmS.ok (zNd zRX (zNe (zXd h1 h2) (zNd zPq (zNd zPo hz))));have g1:=hA.must (k:=4) (b:=[123]) zq (by decide +kernel) (by decide +kernel);have g2:=zYe h1 h2 (N:=N) hM (zNd zPo hz) (by rw[St.must_op,ho]) g1;unfold zdr;simp only;generalize zF N M (st.must 4 [123]) []=X at *;have hB:At X.1 (rbW::R):=g2.at';have hs:zb5 N M f X=X:=by
  cases f with
  | zero=>rfl
  | succ f => show (if _ then zb5 _ _ f _ else X)=X;rw[zM1 (by rw[hB.2.1.1,hB.is];decide +kernel)]
 rw[hs];have hL:=g2.L;rw[St.must_L] at hL;exact⟨hB.must hz (by decide +kernel) (by decide +kernel),by show (X.1.must 4 [125]).op=_;rw[St.must_op,g2.op,St.must_op],by show _ <+: (X.1.must 4 [125]).L;rw[St.must_L];exact hL,by show zOd (X.1.must 4 [125]).L _ _;rw[St.must_L];exact g2.eqs⟩
end
theorem zXN (o:Int):kA++(zWU o++([zNs]++(zWU o++(kC++[rbW]))))=ndW::nN::(zu5 ([suA,suB].map zu7)++arW::(zu5 ([suC].map zu7)++(lbW::nS::eqW::(suW o++smW::rbW::[])))):=by unfold kA kC suW chW;simp[zu5,zu6,zu7,suA,suB,suC,ndW,nN,nA,nR,nS,arW,lbW,eqW,plW,ifW,zNx,zNs,fbW,smW,rpW,lpW,coW]
theorem zX4:RdV suA:=⟨nmA,(λh=>by cases h),λ_=>⟨rfl,rfl⟩⟩
theorem zX2:RdV suB:=⟨nmR,(λh=>by cases h),λ_=>⟨rfl,rfl⟩⟩
theorem zX1:RdV suC:=⟨nmS,(λh=>by cases h),λ_=>⟨rfl,rfl⟩⟩
theorem zXX {o:Int}(h1:-9223372036854775808<=o)(h2:o<=9223372036854775807)(hM:Yx M (suW o) (suR o) smW 0){st:St}(hf:0<f)(ho:st.op=0)(hA:At st (kA++(zWU o++([zNs]++(zWU o++(kC++[rbW])))))):At (zax N M f st).1 []/\NdE (zax N M f st).2 (suN o):=by
 rw[zXN] at hA;have z1:Oks (nS::eqW::(suW o++smW::rbW::[])):=zNd nmS.ok (zNd zRX (zNe (zXd h1 h2) (zNd zPq (zNl zPo))));have z3:Oks (lbW::nS::eqW::(suW o++smW::rbW::[])):=zNd zPt z1;have z4:Oks (zu5 ([suC].map zu7)++(lbW::nS::eqW::(suW o++smW::rbW::[]))):=zNe (zN4 (λv hv=>by rw[zMZ.1 hv];exact zX1)) z3;have z5:Oks (zu5 ([suA,suB].map zu7)++arW::(zu5 ([suC].map zu7)++(lbW::nS::eqW::(suW o++smW::rbW::[])))):=zNe (zN4 (λv hv=>by
  rcases zNa.1 hv with rfl|hv
  . exact zX4
  rw[zMZ.1 hv];exact zX2)) (zNd zQR z4)
 have s1:=hA.fresh.must (k:=5) (b:=zW) (zNd nmN.ok z5) (by decide +kernel) (by decide +kernel);have s2:=s1.name z5 nmN.k;have p1:=zOq (vars:=[]) (i:=true) (u:=suA) (us:=[suB]) (zNd zQR z4) (λv hv=>by
  rcases zNa.1 hv with rfl|hv
  . exact⟨zX4,rfl,rfl,rfl⟩
  rw[zMZ.1 hv];exact⟨zX2,rfl,rfl,rfl⟩) (by decide) s2
 unfold zax zaI;simp only;generalize hX:zab true (st.fresh.must 5 zW).name []=X at *;have s3:=p1.at'.must (k:=4) (b:=[45,62]) z4 (by decide +kernel) (by decide +kernel);have lX:=p1.len;have p2:=zOq (vars:=X.2) (i:=false) (u:=suC) (us:=[]) z3 (λv hv=>by rw[zMZ.1 hv];exact⟨zX1,rfl,rfl,rfl⟩) (by rw[lX];decide) s3;generalize hY:zab false (X.1.must 4 [45,62]) X.2=Y at *;have lY:=p2.len;have p3:=zRi (vars:=Y.2) (f:=f) (us:=[]) hf z1 (λv hv=>by cases hv) (by rw[lY,lX];decide) p2.at';generalize hZ:zaS f Y.1 Y.2=Z at *;have oZ:Z.1.op=0:=by rw[p3.op,p2.op,St.must_op,p1.op,St.name_op,St.must_op];exact ho
 have h:=zXT h1 h2 (N:=N) hM (f:=f) zNn oZ p3.at';refine⟨h.at',?_,?_,h.eqs⟩
 . show (st.fresh.must 5 zW).t.s=nN;rw[s1.2.1.2.1,nmN.s]
 show Z.2.map eV=_;obtain⟨v1,e1,f1⟩:=p1.vs;obtain⟨v2,e2,f2⟩:=p2.vs;obtain⟨v3,e3,f3⟩:=p3.vs;rw[e3,e2,e1];simp only[List.nil_append,List.map_append,f1,f2,f3];rfl
end
section
theorem zXZ {o:Int}(h1:-9223372036854775808<=o)(h2:o<=9223372036854775807){d g:Nat}(hd:d=17)(hg:0<g) :
 (zgo (lev d).ex (lev (d+1)).ex g (suT (zWT o))).1.er=0/\zNX (zgo (lev d).ex (lev (d+1)).ex g (suT (zWT o))).2 [suN o]:=by
 have hM:Yx (lev (d+1)).ex (suW o) (suR o) smW 0:=by obtain⟨e,he⟩:∃e,d+1=e+4:=⟨14,by omega⟩;rw[he];exact zYx h1 h2
 generalize (lev (d+1)).ex=M at *;generalize (lev d).ex=N at *;have hr:=zXy (dok h1 h2);generalize suT (zWT o)=s at *;have hA:=zQk hr (⟨s,zZ s 0,0,0,0,[]⟩:St) rfl rfl rfl;obtain⟨q1,q2⟩:=zXX h1 h2 (N:=N) hM hg rfl hA;unfold zgo;simp only;generalize zax N M g ⟨s,zZ s 0,0,0,0,[]⟩=X at *;have hs:zdZ N M g g (X.1,[X.2])=(X.1,[X.2]):=by
  cases g with
  | zero=>rfl
  | succ g => show (if _ then zdZ _ _ (g+1) g _ else (X.1,[X.2]))=_;rw[zM1 (by rintro⟨e,_⟩;unfold St.is at e;rw[q1.2] at e;cases e)]
 rw[hs];have he:zbB X.1=X.1:=by unfold zbB;rw[zM2 q1.2]
 show (zbB X.1).er=0/\zNX [X.2] [suN o];rw[he];refine⟨q1.1,rfl,λi d' n' e1 e2=>?_⟩
 match i,e1,e2 with
 | 0,e1,e2=>cases e1;cases e2;exact q2
end
section
open Go.RowKit
attribute [local go_sem ↓] Go.wp_at_zero Go.wp_at_succ
def zbX (n:Nat):Array Value:=(zK (List.replicate n 0)).toArray
theorem zhd (n c:Nat)(h:n<=c)(hc:c<=3145728)(w:Xw):(Instr.makeSlice 22 (xI (n:Int)) (xI (c:Int))).run prog w=.ok (xS w.heap.size n c) (w.alloc (.cells (zbX c) 2)):=by
 obtain⟨i0,hi,hi0,hi1,hi2⟩:=info_parts Tryz.infoI64;have:=run_make (P:=prog) w 22 2 i0 _ underlying22 hi hi0 .i64 .i64 (n:Int) (c:Int) (by omega) (by omega) (by rw[hi2];omega) (by omega);refine this.trans ?_;clear this;rw[hi1];simp only[Int.toNat_natCast,Nat.mul_one];refine congrArg (λx=>Result.ok (xS w.heap.size n c) (w.alloc (.cells x 2))) ?_;unfold zbX madeCells;apply Array.ext
 . simp[zK]
 intro j h1 h2;simp[zK,Value.cells,Nat.mod_one]
theorem al4 (w:Xw)(o1 o2 o3 o4:Obj):((((w.alloc o1).alloc o2).alloc o3).alloc o4).drew.heap[w.heap.size]?=some o1/\((((w.alloc o1).alloc o2).alloc o3).alloc o4).drew.heap[w.heap.size+1]?=some o2/\((((w.alloc o1).alloc o2).alloc o3).alloc o4).drew.heap[w.heap.size+1+1]?=some o3/\((((w.alloc o1).alloc o2).alloc o3).alloc o4).drew.heap[w.heap.size+1+1+1]?=some o4/\Below w.heap.size w ((((w.alloc o1).alloc o2).alloc o3).alloc o4).drew:=by
 have h (w:Xw) (o:Obj) (k:Nat):(w.alloc o).heap[k]?=if k=w.heap.size then some o else w.heap[k]?:=by show (w.heap.push o)[k]?=_;rw[Array.getElem?_push]
 have e (W:Xw) (k:Nat):W.drew.heap[k]?=W.heap[k]?:=rfl;refine⟨?_,?_,?_,?_,⟨rfl,rfl,rfl,by simp[World.drew];omega,λk hk=>?_⟩⟩
 all_goals
  rw[e];simp only[h,zsb]
 . rw[zM1 (by omega),zM1 (by omega),zM1 (by omega),zM2 trivial]
 . rw[zM1 (by omega),zM1 (by omega),zM2 trivial]
 . rw[zM1 (by omega),zM2 trivial]
 . rw[zM2 trivial]
 rw[zM1 (by omega),zM1 (by omega),zM1 (by omega),zM1 (by omega)]
theorem zqs {w W:Xw}{N cb mb b1 b2 g n1 n2 n3:Nat}{bv cv rv:Xv}{c:Cd}(h:CB w N cb bv cv rv c)(hN:N<=w.heap.size)(hB:xB w W)(e1:n1=c.cells.length)(e2:n2=c.slots)
 (hm:xH W mb #[xP cb,xS b1 n1 n1,xS b2 n2 n2,xS g 0 n3] 114)
 (h1:xH W b1 (zbX n1) 2) (h2:xH W b2 (zbX n2) 2) (h3:xH W g (zbX n3) 2) (hn3:n3<=3145728)
 (l0:w.heap.size<=mb) (l1:w.heap.size<=b1) (l2:w.heap.size<=b2) (l3:w.heap.size<=g) (d1:mb≠b1) (d2:mb≠b2) (d3:b1≠b2) (d4:g≠mb) (d5:g≠b1) (d6:g≠b2) :
 Mc W w.heap.size mb cb b1 b2 bv cv rv (xS g 0 n3) c (List.replicate n1 0) (List.replicate n2 0) []:=by
 subst e1 e2;have hc:CB W w.heap.size cb bv cv rv c:=by have:=h.old (zm hB hN);exact⟨this.blk,this.bown,this.cown,this.rown,zM9 this.h0 hN,λk e=>zM9 (this.h1 k e) hN,λk e=>zM9 (this.h2 k e) hN,λk e=>zM9 (this.h3 k e) hN,this.outsB,this.slotsB,this.cellsB,this.depthB,this.rowB⟩
 refine⟨hc,⟨?_,?_,?_,?_,d1,d2,d3,?_,?_,?_,hB.size⟩,l0,l1,l2,by simp,by simp⟩
 . simpa using hm
 . exact h1
 . exact h2
 . refine⟨rfl,zM4 ⟨g,n3,zbX n3,rfl,l3,h3,by simp,by unfold maxLen;omega,by simp[zbX,zK],by simp[zK]⟩⟩
 . intro e;cases e;exact d4 rfl
 . intro e;cases e;exact d5 rfl
 intro e;cases e;exact d6 rfl
theorem zpK (N cb:Nat)(bv cv rv:Xv)(c:Cd)(w:Xw)(H:CB w N cb bv cv rv c)(hN:N<=w.heap.size) :
 xK 17 #[xP cb] w (λe w'=>∃mb b1 b2 sv,e=.returned (xP mb)/\Mc w' w.heap.size mb cb b1 b2 bv cv rv sv c c.cells (List.replicate c.slots 0) []/\xB w w'):=by
 obtain⟨k0,k1,k2,k3,k4,k5,kf,kz⟩:=zt H.blk;obtain⟨x,cp,rfl⟩:=zB H.cown;have a1:=H.slotsB;have a2:=H.cellsB;have a3:=H.depthB;have b1:(0:Int)<=(c.cells.length:Int):=by omega
 have b2:(0:Int)<=(c.slots:Int):=by omega
 have b3:(0:Int)<=(c.depth:Int):=by omega
 have m1:=zhd c.cells.length c.cells.length (by omega) (by omega);have m2:=zhd c.slots c.slots (by omega) (by omega);have m3:∀w,(Instr.makeSlice 22 (xI 0) (xI (c.depth:Int))).run prog w=_:=zhd 0 c.depth (by omega) (by omega);go_enter func17,ntmps17;go_upto_region 1 with fail;go_region_held3 (λw'=>w'.cell? (xD cb 3)=some (.slice x c.cells.length cp)/\w'.cell? (xD cb 2)=some (xI c.slots)/\w'.cell? (xD cb 4)=some (xI c.depth)) (first|(refine⟨?_,?_,?_⟩ <;> repeat (first|with_reducible exact k2|with_reducible exact k3|with_reducible exact k4|with_reducible refine zg ?_|with_reducible refine zj _ ?_))|go_keep) (fail)
 all_goals
  go_wp2_with (go_at_call 37;obtain⟨e1,e2,e3,e4,e5⟩:=al4 w _ _ _ _;refine (zm3 w.heap.size _ cb _ _ bv _ rv _ c _ _ [] _ (zqs H hN e5 rfl rfl e4 (by first|exact e1|exact e2|exact e3) (by first|exact e1|exact e2|exact e3) (by first|exact e1|exact e2|exact e3) a3 (by omega) (by omega) (by omega) (by omega) (by omega) (by omega) (by omega) (by omega) (by omega) (by omega))).mono ?_;rintro e w1 ⟨rfl,HM1,hF1⟩;have HB1:Hid (xB w w1):=e5.trans (hF1.below e5.size (by omega));clear hF1 e1 e2 e3 e4 e5)
 all_goals go_ret
 all_goals exact⟨_,_,_,_,rfl,HM1,HB1.o⟩
end
section
open Go.RowKit
variable {cb:Nat} {c:Sc} {w w':Xw}
attribute [local go_sem ↓] Go.wp_at_zero Go.wp_at_succ
theorem zd8 (w:Xw)(o1 o2:Obj):((w.alloc o1).alloc o2).heap[w.heap.size]?=some o1/\((w.alloc o1).alloc o2).heap[w.heap.size+1]?=some o2:=by refine⟨(zWP _ _ _ (by simp)).trans (zc w o1),?_⟩;have:=zc (w.alloc o1) o2;rwa [zsb] at this
def clk (k:Nat×Nat):Int×Int:=((k.1:Int),(k.2:Int))
def ckL (c:Sc):Nat->List ((Int×Int)×Value)
 | 0=>[]
 | i+1=>ckL c i++[(((i:Int),1),pr (clk (c.of i))),(((i:Int),2),pr (clk (c.of i)))]
theorem zpm (c:Sc)(n:Nat):(ckL c n).length=2*n:=by
 induction n with
 | zero=>rfl
 | succ n ih=>rw[ckL,zMM,ih];simp;omega
theorem zqf (c:Sc)(n:Nat):∀p∈ckL c n,∃j,j<n/\p.1.1=(j:Int):=by
 induction n with
 | zero=>intro p h;simp[ckL] at h
 | succ n ih =>
   intro p h;rw[ckL,zMY] at h;rcases h with h|h
   . obtain⟨j,h1,h2⟩:=ih p h;exact⟨j,by omega,h2⟩
   simp at h;rcases h with rfl|rfl
   . exact⟨n,by omega,rfl⟩
   exact⟨n,by omega,rfl⟩
theorem zkA (c:Sc)(n:Nat)(s:Int):((n:Int),s) ∉ (ckL c n).map (·.1):=by intro h;obtain⟨p,h1,h2⟩:=List.mem_map.1 h;obtain⟨j,h3,h4⟩:=zqf c n p h1;rw[h2] at h4;simp at h4;omega
theorem znw {κ:Type} [DecidableEq κ] (k:κ)(m:List (κ×Value)):∀l:List (κ×Value),zaT k (l++m)=match zaT k l with|some v=>some v|none=>zaT k m:=by
 intro l;induction l with
 | nil=>rfl
 | cons p l ih =>
   rw[List.cons_append];simp only[zaT];split
   . rfl
   exact ih
theorem zoh (c:Sc)(n j s:Nat):zaT ((j:Int),(s:Int)) (ckL c n)=if j<n/\(s=1∨s=2) then some (pr (clk (c.of j))) else none:=by
 induction n with
 | zero=>simp[ckL,zaT]
 | succ n ih =>
   rw[ckL,znw,ih];by_cases h1:j<n
   . by_cases h2:s=1∨s=2
     . rw[zM2 ⟨h1,h2⟩,zM2 ⟨by omega,h2⟩]
     rw[zM1 (λe=>h2 e.2),zM1 (λe=>h2 e.2)];simp only[zaT,Prod.mk.injEq];rw[zM1 (by omega),zM1 (by omega)]
   rw[zM1 (λe=>h1 e.1)];simp only[zaT,Prod.mk.injEq];by_cases h3:j=n
   . subst h3;by_cases h4:s=1
     . subst h4;simp
     by_cases h5:s=2
     . subst h5;simp
     rw[zM1 (by omega),zM1 (by omega),zM1 (by omega)]
   rw[zM1 (by omega),zM1 (by omega),zM1 (by omega)]
theorem zng (c:Sc)(n:Nat)(v:Xv):upd ((n:Int),1) v (ckL c n)=ckL c n++[(((n:Int),1),v)]:=zh0 (zkA c n 1)
theorem zn3 (c:Sc)(n:Nat)(u v:Xv):upd ((n:Int),2) v (ckL c n++[(((n:Int),1),u)])=ckL c n++[(((n:Int),1),u),(((n:Int),2),v)]:=by
 rw[zh0]
 . simp
 rw[List.map_append,zMY];rintro (h|h)
 . exact zkA c n 2 h
 simp at h
def za7 (w:Xw)(c:Sc)(cb:Nat):Prop:=zbn w cb pr (ckL c c.nd.vars.length)
theorem za7.of' (h:za7 w c cb)(hb:w'.heap[cb]?=w.heap[cb]?):za7 w' c cb:=zbn.of h hb
theorem za7.lt (h:za7 w c cb):cb<w.heap.size:=zbn.lt h
theorem za7.keep (h:za7 w c cb)(hB:xB w w'):za7 w' c cb:=h.of' (hB.block _ h.lt)
theorem Tryz.zeroClock (w:Xw):(zeroValue 161).run prog w=.ok (pr (0,0)) w:=by unfold pr;kernel_rfl
theorem zoP (c:Sc)(i:Nat)(h:¬i<c.nd.vars.length):c.of i=(0,0):=by unfold Sc.of;rw[List.getElem?_eq_none (by omega)]
theorem zkW (h:za7 w c cb)(k:Nat×Nat) :
 (Instr.lookup 90 (.map (some cb)) (pr (clk k)) false).run prog w=.ok (pr (clk (c.up k))) w:=by
 rw[zgI Tryz.keyClock underlying90 Tryz.zeroClock h (clk k) false];rw[show clk k=((k.1:Int),(k.2:Int)) from rfl,zoh];refine congrArg (λv=>Result.ok v w) ?_
 show Option.getD _ _=_;unfold Sc.up;by_cases h2:k.2=1∨k.2=2
 . rw[zM2 h2];by_cases h1:k.1<c.nd.vars.length
   . rw[zM2 ⟨h1,h2⟩];rfl
   rw[zM1 (λe=>h1 e.1),zoP c _ h1];rfl
 rw[zM1 (λe=>h2 e.2),zM1 h2];rfl
theorem zru (h:za7 w c cb)(i:Nat) :
 (Instr.lookup 90 (.map (some cb)) (.agg #[xI (i:Int),xI 1]) false).run prog w=.ok (.agg #[xI ((c.of i).1:Nat),xI ((c.of i).2:Nat)]) w:=by
 have:=zkW h (i,1);rw[show c.up (i,1)=c.of i from zM2 (zM3 rfl)] at this;exact this
theorem zqw (h:za7 w c cb)(ty:Xy):(Builtin.len_ #[90] ty #[.map (some cb)]).run prog w=.ok (xI ((2*c.nd.vars.length:Nat):Int)) w:=by
 obtain⟨es,clock,h1,h2⟩:=h;have h3:es.size=2*c.nd.vars.length:=by have:=congrArg List.length h2;rw[List.length_map,List.length_map,zpm] at this;simpa using this
 rw[<- h3];have h4:prog.underlying 90=some (.map (prog.mapKeyOf 90) (prog.mapElemOf 90)):=by kernel_rfl
 exact run_len_map w 90 ty cb es clock h4 h1
theorem zbC (i:Nat)(w:Xw)(h:za7 w c cb) :
 xK 64 #[.map (some cb),xI (i:Int)] w (λe w'=>e=.returned (.agg #[xI ((c.of i).1:Nat),xI ((c.of i).2:Nat)])/\xB w w'):=by
 have hl:=λo=>zru (h.keep (zq w o)) i;go_enter func64,ntmps64;go_wp2_with fail;refine zWR (v:=.agg #[xI ((c.of i).1:Nat),xI ((c.of i).2:Nat)]) (by simp[results,results64,go_sem]) rfl ⟨rfl,?_⟩;exact zq w _
theorem zdR {b:Nat}{e:Xy}{u0 u1:Xv}(h:xH w b #[u0,u1] e)(v0 v1:Xv):((w.setCell (xD b 0) v0).setCell (xD b 1) v1).heap[b]?=some (.cells #[v0,v1] e (0,0)) :=
 zh _ _ _ _ (zh _ _ _ _ h)
theorem znR (c:Sc)(i:Nat)(m:Nat)(k:Nat×Nat):zhr c i (m+1) k=if k=(0,0) then false else if k.1=i then true else zhr c i m (c.up k):=rfl
theorem ziA (i:Nat)(w:Xw)(h:za7 w c cb)(h16:c.nd.vars.length<=1000) :
 xK 102 #[.map (some cb),xI (i:Int)] w (λe w'=>e=.returned (.bool (c.comesBack i))/\xB w w'):=by
 have HL:=zbC i w h;have HC:=za h;have hz:=h.lt;clear h;go_enter func102,ntmps102;go_upto_region 2 with (go_at_call 64;refine HL.mono ?_;rintro e w1 ⟨rfl,HB⟩);refine zn (λW=>za7 W c cb/\xB w W/\xH W w1.heap.size #[xI ((c.of i).1:Nat),xI ((c.of i).2:Nat)] 161) ⟨(HC.o.keep HB).keep (zq w1 _),zaU HB (zMK _) _,zc w1 _⟩ ?_;rintro W ⟨hCW,hBW,hXW⟩;have hzw:w.heap.size<=w1.heap.size:=HB.size;have hlen:=zqw hCW;have HCW:=za hCW;have HBW:=za hBW;have HXW:=za hXW;clear hCW hBW hXW;go_wp2_with fail;go_loopg [11] (2*c.nd.vars.length+1) (λj x wr=>∃(k:Nat) (kk:Nat×Nat),k+j=2*c.nd.vars.length+1/\k<=2*c.nd.vars.length/\x=xI k/\Hid (za7 wr c cb)/\Hid (xH wr w1.heap.size #[xI (kk.1:Nat),xI (kk.2:Nat)] 161)/\Hid (c.comesBack i=zhr c i (j-1) kk)/\Hid (xB w wr));case atStart=>exact⟨0,c.of i,by omega,zMN _,rfl,HCW.o,HXW.o,rfl,HBW.o⟩
 case round =>
  clear HCW HXW HBW hlen;obtain⟨k,kk,hkj,hk,rfl,HC,HX,HD,HB2⟩:=hrel;obtain⟨x0,x1,xf,xz⟩:=zp HX.o;by_cases hlt:k<2*c.nd.vars.length
  . obtain⟨m,rfl⟩:∃m,gk=m+1+1:=⟨gk-1-1,by omega⟩;have hE:=HD.o;rw[show m+1+1-1=m+1 from rfl,znR] at hE;have hlk:=zkW HC.o kk;unfold pr clk at hlk;clear HD;by_cases h0:kk=(0,0)
    . rw[zM2 h0] at hE;subst h0;have HE:=za hE;clear hE;go_wp2_with fail;go_ret;exact⟨by rw[HE.o];rfl,HB2.o⟩
    rw[zM1 h0] at hE;by_cases h1:kk.1=i
    . rw[zM2 h1] at hE;have h1':(kk.1:Int)=(i:Int):=(by omega);have HE:=za hE;clear hE h1;obtain⟨k1,k2⟩:=kk;simp only[Prod.mk.injEq] at h0;simp only at h1' HX HE x0 x1 hlk;by_cases g0:(k1:Int)=0;have g1:¬(k2:Int)=0:=(by omega);simp only[g0] at hlk;all_goals clear h0
      . go_wp2_with fail;go_ret;exact⟨by rw[HE.o];rfl,HB2.o⟩
      go_wp2_with fail;go_ret;exact⟨by rw[HE.o];rfl,HB2.o⟩
    rw[zM1 h1] at hE;have h1':¬(kk.1:Int)=(i:Int):=(by omega);have HE:=za hE;clear hE h1;have hcn:¬cb=w1.heap.size:=(by omega);obtain⟨k1,k2⟩:=kk;simp only[Prod.mk.injEq] at h0;simp only at h1' HX HE x0 x1 hlk;by_cases g0:(k1:Int)=0;have g1:¬(k2:Int)=0:=(by omega);simp only[g0] at hlk;all_goals clear h0
    iterate 2
     . go_wp2_with fail;go_roundg (m+1);case measure=>omega
       exact⟨k+1,c.up (k1,k2),by omega,by omega,by go_num,HC.o.of' ((Below.heap_setCell _ _ _ _ hcn).trans (Below.heap_setCell _ _ _ _ hcn)),zdR HX.o _ _,HE.o,zC (zC HB2.o hzw _) hzw _⟩
  have ek:k=2*c.nd.vars.length:=by omega
  subst ek;have:gk=1:=by omega
  subst this;have HE:Hid (c.comesBack i=false):=HD.o;clear HD;go_wp2_with fail;go_ret;exact⟨by rw[HE.o];rfl,HB2.o⟩
end
end Go.Proofs.YtenadialhccdiaaGreatDoor
