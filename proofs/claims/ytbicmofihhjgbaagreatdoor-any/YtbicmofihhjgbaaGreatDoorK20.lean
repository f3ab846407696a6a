/- Part 21 of the proof: ChkC ChkD ChkE ChkF. -/
import Derived.Test.YtbicmofihhjgbaaGreatDoorK17
set_option maxRecDepth 100000
set_option maxHeartbeats 8000000
namespace Go.Proofs.YtbicmofihhjgbaaGreatDoor
open Go.Proofs.Tryz
open Go.RowKit
section
variable {xs:List Value} {N cp2 n2:Nat} {x2:Option Addr} {d:Sc} {e:TypeId} {ev:Value} {W w w1:World}
attribute [local go_sem ↓] Go.wp_at_zero Go.wp_at_succ
structure Got (w:World) (N:Nat) (d:Sc) (X n2:Nat) (x2:Option Addr) (cp2:Nat) (W:World):Prop where
 box:W.heap[X]?=some (.cells #[xE x2 d cp2,xP n2] 114 (0,0))
 sc:ScV W N d (xE x2 d cp2) (xP n2)
 bel:xB w W
theorem zow (hB:xB w W)(hB1:xB W w1)(hs:ScV w1 N d (xE x2 d cp2) (xP n2))(hN:N<=w.heap.size) :
 Got w N d w1.heap.size n2 x2 cp2 (w1.alloc (.cells #[xE x2 d cp2,xP n2] 114)):=by
 have h1:=hB.size;have h2:=hB1.size;exact⟨zc _ _,hs.old (zeW (by omega) _),(hB.trans (hB1.mono h1)).alloc (by omega) _⟩
theorem zos {u0 u1:Value}(hB:xB w W)(hB1:Below (W.alloc (.cells #[u0,u1] 114)).heap.size (W.alloc (.cells #[u0,u1] 114)) w1)(hs:ScV w1 N d (xE x2 d cp2) (xP n2))(hN:N<=w.heap.size) :
 Got w N d W.heap.size n2 x2 cp2 ((w1.setCell (xD W.heap.size 0) (xE x2 d cp2)).setCell (xD W.heap.size 1) (xP n2)):=by
 have h1:=hB.size;have hb:xH w1 W.heap.size #[u0,u1] 114:=(hB1.block _ (by rw[zsb];omega)).trans (zc W _);have h2:=zh (w1.setCell (xD W.heap.size 0) (xE x2 d cp2)) W.heap.size 1 (xP n2) (zh w1 W.heap.size 0 (xE x2 d cp2) hb);refine⟨h2,hs.old (λk hk=>?_),zC (zC (hB.trans ((zE hB1).mono h1)) h1 _) h1 _⟩;exact (zr (by omega) rfl).trans (zr (by omega) rfl)
theorem zx7 {a b:Value}:xH (w.alloc (.cells #[a,b] e)) w.heap.size #[a,b] e:=zc w _
theorem zbD {c:Sc}{nv:Value}(s:ByteArray)(a:Int)(w:World)(HSc:ScV w N c ev nv)(hN:N<=w.heap.size)(hh:c.has s=true) :
 xK 127 #[.agg #[ev,nv],.agg #[.string s,xI a]] w (λe w'=>e=.returned (xI (c.decl s:Nat))/\xB w w'):=by
 obtain⟨xe,cpe,nb,rfl,rfl,hnb⟩:=HSc.shape;obtain⟨nb',vs,qv,xs,e9,HN⟩:=HSc.nd;cases e9;obtain⟨i,hi⟩:∃i,c.nd.find s=some i:=Option.isSome_iff_exists.1 hh;have hlt:=(zgO hi).2.1;obtain⟨v,hv⟩:∃v,c.nd.vars[i]?=some v:=⟨_,zsc (by omega)⟩;have hidx:c.idx s=i:=by unfold Sc.idx;rw[hi];rfl
 have HE:Hid (c.decl s=tyV v):=by unfold Hid Sc.decl;rw[hidx,hv];rfl
 obtain⟨xv,cpv,rfl⟩:=zB HN.vown;obtain⟨g,rfl,c0,c1,c2,c3,c4,c5,c6⟩:=zaM HN.vown hv;have hfew:=HN.few;have hgN:=HN.vlo g rfl;have i1:(i:Int)<(c.nd.vars.length:Int):=by omega
 have i0:(0:Int)<=(i:Int):=by omega
 go_enter func127,ntmps127;go_upto_region 1 with fail;refine zn (λW=>(W.heap[w.heap.size]?=some (.cells #[xE xe c cpe,xP nb] 216 (0,0))/\W.heap[w.heap.size+1]?=some (.cells #[.string s,xI a] 117 (0,0)))/\xB w W) ⟨⟨(Below.heap_alloc _ _ _ (by simp)).trans (zc w _),by have:=zc (w.alloc (.cells #[xE xe c cpe,xP nb] 216)) (.cells #[.string s,xI a] 117);rwa [zsb] at this⟩,zaD w _ _⟩ ?_;rintro W ⟨⟨hs,hs2⟩,HB⟩;obtain⟨s0,s1,sf,sz⟩:=zp hs;obtain⟨r0,r1,rf,rz⟩:=zp hs2;obtain⟨m0,m1,m2,m3,m4,m5,mf,mz⟩:=zt ((HB.block nb (by omega)).trans HN.blk);have c2':=zd HB c2 (by omega);have hO:=zm HB hN;have HI:=za (zaz s a W.drew (HSc.old (w':=W.drew) hO) (by show N<=W.heap.size;omega));rw[hidx] at HI
 go_region_held3 (λw'=>w'.cell? (xD w.heap.size 0)=some (xE xe c cpe)/\w'.cell? (xD w.heap.size 1)=some (xP nb)/\w'.cell? (xD (w.heap.size+1) 0)=some (.string s)/\w'.cell? (xD (w.heap.size+1) 1)=some (xI a)/\w'.cell? (xD nb 2)=some (xS g c.nd.vars.length cpv)/\w'.cell? (xD g (i*7+2))=some (xI (zaK v:Nat)))
  (first|(with_reducible (refine⟨?_,?_,?_,?_,?_,?_⟩ <;> repeat (first|assumption|refine zg ?_|refine zj _ ?_|refine zk (by omega) ?_|refine zd HB1.o ?_ (by first|omega|(rw[zsb];omega)))))|go_keep)
  (first
    | (go_at_call 105;refine HI.o.mono ?_;rintro e w1 ⟨rfl,hB1⟩;have HB1:=za (zw hB1)))
 all_goals go_wp2_with fail
 all_goals go_ret
 all_goals exact⟨by rw[HE.o];rfl,HB.trans (HB1.o.mono (by omega))⟩
theorem znU {B g n cap size:Nat}(h:w.ownsRow B e size (xS g n cap) n xs):n<=cap/\cap<=9223372036854775807:=by
 rcases h.2 with ⟨h2,_⟩|⟨g',cap',cur,hv,hg,hh,h3,h4,h5,h6⟩
 . cases h2
 . cases hv;unfold maxLen at h4;exact⟨h3,by omega⟩
theorem zdM {n:Nod}{nb:Nat}{vs:Value}(w:World)(h:NT w N n nb vs ev xs)(hio:n.ins+n.outs<=n.vars.length)(hlt:n.ins<n.vars.length) :
 xK 88 #[xP nb] w (λe w'=>∃g cp,vs=xS g n.vars.length cp/\e=.returned (.slice (some (xD g (n.ins*7))) n.outs (cp-n.ins))/\xB w w'):=by
 obtain⟨g,cp,rfl,_⟩:=zM h.vown (by omega);obtain⟨h0,h1,h2,h3,h4,h5,hf,hz⟩:=zt h.blk;have hcap:=znU h.vown;have hfew:=h.few;have i0:(0:Int)<=(n.ins:Int):=by omega
 have i1:(n.ins:Int)<=(n.ins:Int)+(n.outs:Int):=by omega
 have i2:(n.ins:Int)+(n.outs:Int)<=(cp:Int):=by omega
 have i3:¬(n.ins=cp):=by omega
 have i4:¬((n.ins:Int)=(cp:Int)):=by omega
 have i5:¬(cp=n.ins):=by omega
 have i6:((n.ins:Int)+(n.outs:Int)).toNat=n.ins+n.outs:=by omega
 have i7:IntKind.i64.wrap ((n.ins:Int)+(n.outs:Int))=(n.ins:Int)+(n.outs:Int):=by rw[IntKind.wrap_i64];omega
 have i8:(0:Int)<=(n.ins:Int)+(n.outs:Int):=by omega
 go_enter func88,ntmps88;go_upto_region 1 with fail
 go_region_held3 (λw'=>w'.cell? (xD nb 2)=some (xS g n.vars.length cp)/\w'.cell? (xD nb 3)=some (xI n.ins)/\w'.cell? (xD nb 4)=some (xI n.outs))
  (first|(with_reducible (refine⟨?_,?_,?_⟩ <;> repeat (first|assumption|refine zg ?_|refine zj _ ?_|refine zk (by omega) ?_)))|go_keep) (fail)
 all_goals go_wp2_with fail
 all_goals go_ret
 all_goals exact⟨_,_,rfl,rfl,zo (Below.refl _ _)⟩
end
section
variable {N:Nat} {c:Sc} {t u:Tm}
attribute [local go_sem ↓] Go.wp_at_zero Go.wp_at_succ
structure zeJ (n:Nod):Prop where
 ins:1<=n.ins
 outs:1<=n.outs
 io:n.ins+n.outs<=n.vars.length
 few:n.vars.length<=16
 eqs:∀q∈n.eqs,q.ns.length=q.ps.length/\1<=q.ns.length/\Wf q.r/\(2<=q.ns.length->q.r.k=4)
structure zbr (c:Sc):Prop where
 er:∀n∈c.er,zeJ n
 nd:zeJ c.nd
 few:c.er.length<=6
theorem zbr.called {d:Sc}(h:zbr c){s:ByteArray}(hd:c.called s=some d):zbr d/\d.nd∈c.er:=by
 unfold Sc.called at hd;split at hd
 . cases hd
 . rename_i i hi
   split at hd
   . cases hd
   . rename_i n hn
     cases hd;have hm:=List.mem_of_getElem? hn;exact⟨⟨λm hm'=>h.er m (List.mem_of_mem_take hm'),h.er n hm,by have:=h.few;simp;omega⟩,hm⟩
def zdg (c:Sc)(t:Tm):Prop:=∀u∈zaV za5 t,(zaJ u.k=true->c.has u.s=true)/\(u.k=4->∃d,c.called u.s=some d/\d.nd.ins=u.ts.length)/\arB u.k u.ts.length=true
theorem zn7 {g:Tm->Bool}{ts:List Tm}(ht:t∈ts)(hu:u∈zaV g t):u∈zdk g ts:=by
 induction ts with
 | nil=>simp at ht
 | cons x ts ih =>
   rw[zdk];rcases List.mem_cons.1 ht with rfl|ht
   . exact List.mem_append_left _ hu
   . exact List.mem_append_right _ (ih ht)
theorem zey (g:Tm->Bool)(t:Tm):t∈zaV g t:=by
 cases t with
 | mk k a s nm n ts=>rw[zaV];simp
theorem zdg.sub (h:zdg c t)(hu:u∈t.ts):zdg c u:=by
 intro x hx;refine h x ?_;cases t with
 | mk k a s nm n ts => rw[zaV];refine List.mem_cons_of_mem _ ?_;rw[if_pos (show za5 _=true from rfl)];exact zn7 hu hx
theorem zdU:∀{ts:List Tm} {i:Nat} {t:Tm},ts[i]?=some t->zbh c ts i=zaj c t:=by
 intro ts;induction ts with
 | nil=>intro i t h;simp at h
 | cons x ts ih =>
   intro i t h;cases i with
   | zero=>simp at h;subst h;rw[zbh]
   | succ i=>rw[zbh];exact ih (by simpa using h)
theorem TT.arg {w:World}{vl:Nat}{x:Option Addr}{cp:Nat}{vs:List Value}{i:Nat}(hown:w.ownsRow 0 182 1 (.slice x vl cp) vl vs)(hl:vs.length=t.ts.length)(hs:∀(i:Nat) (u:Tm) (x:Value),t.ts[i]?=some u->vs[i]?=some x->TT w N u x)(hu:t.ts[i]?=some u):∃g ub,x=some (xD g 0)/\xC w g i (xP ub)/\TT w N u (xP ub)/\ub<N:=by have hi:=(List.getElem?_eq_some_iff.1 hu).1;have hv:vs[i]?=some vs[i]:=zsc (by omega);obtain⟨g,rfl,hc⟩:=zbE hown hv;have ht:=hs i u _ hu hv;obtain⟨ub,_,_,e,hub,_⟩:=ht.ptr;rw[e] at hc ht;exact⟨g,ub,rfl,hc,ht,hub⟩
theorem zhl {n:Nod}(h:zeJ n):∃v,n.vars[n.ins]?=some v/\n.results[0]?=some v:=by have h1:=h.io;have h2:=h.outs;refine⟨n.vars[n.ins]'(by omega),zsc _,?_⟩;unfold Nod.results;rw[List.getElem?_take,if_pos (by omega),List.getElem?_drop];simp
theorem zcQ {ev nv:Value}(hc:zbr c):∀(t:Tm) (v:Value) (w:World),TT w N t v->ScV w N c ev nv->N<=w.heap.size->zdg c t ->
 xK 171 #[.agg #[ev,nv],v] w (λe w'=>e=.returned (xI (zaj c t:Nat))/\xB w w'):=by
 intro t;induction t using Tm.ind with
 | h k a s nm n ts ih =>
   intro v w hT h hN hO;obtain⟨b,args,vs,rfl,hb,hblk,hown,hlen,hsub,hgs⟩:=hT.ptr;obtain⟨xa,cpa,rfl⟩:=zB hown;have HSc:=za h;obtain⟨xe,cpe,nb,rfl,rfl,hnb⟩:=h.shape;have hlen':vs.length=ts.length:=hlen;have hbz:=ze hblk;obtain⟨o1,o2,o3⟩:=hO _ (zey za5 _);have hblk':w.heap[b]?=some (.cells #[xI k,xI a,.string s,xI nm,xI n,.slice xa ts.length cpa] 226 (0,0)):=(by rw[<- hlen'];exact hblk);have HBk:=za hblk';have hown':w.ownsRow 0 182 1 (.slice xa ts.length cpa) ts.length vs:=(by rw[<- hlen'];exact hown);have HOw:=za hown';have Hsub:=za hsub;have HO:=za hO;have Hih:=za ih;have Hgs:=za hgs;simp only[Tm.k,Tm.s,Tm.ts] at o1 o2 o3;obtain⟨h0,h1,h2,h3,h4,h5,hf,hz⟩:=zt hblk';have Hlen:=za hlen';clear hT hown h hlen hlen' hblk hown' hsub hO ih hgs hblk' h1 h4 hf;have hcases:k=3∨k=4∨k=7∨k=8∨k=6∨k=5∨k=9∨k=0∨k=10∨k=19∨k=20∨k=21∨k=22∨k=23∨k=1∨k=2∨k=11∨k=12∨k=13∨k=14∨k=15∨k=16∨k=17∨k=18:=by
    have:k<=23:=by
     rcases Nat.lt_or_ge 23 k with h|h
     . exfalso;unfold arB at o3;simp only[show ¬k<=3 by omega,show ¬k=4 by omega,show ¬k=5 by omega,show ¬k=6 by omega,show ¬k<=8 by omega,show ¬k=9 by omega,show ¬k<=11 by omega,show ¬k<=23 by omega,if_false] at o3;cases o3
     . exact h
    omega
   have PRE:∀W,xB w W->ScV W N c (xE xe c cpe) (xP nb):=λW hB=>HSc.o.old (zm hB hN);rcases hcases with rfl|rfl|rfl|rfl|rfl|rfl|rfl|rfl|rfl|rfl|rfl|rfl|rfl|rfl|rfl|rfl|rfl|rfl|rfl|rfl|rfl|rfl|rfl|rfl
   . have hh:=o1 rfl;go_enter func171,ntmps171;go_upto_region 3 with fail;refine zn (λW=>(xH W w.heap.size #[xE xe c cpe,xP nb] 216)/\xB w W) ⟨zc w _,zq w _⟩ ?_;rintro W ⟨hs,hB⟩;obtain⟨s0,s1,sf,sz⟩:=zp hs;obtain⟨m0,m1,m2,m3,m4,m5,mf,mz⟩:=zt ((hB.block b hbz).trans HBk.o);have HB:=za hB;have hzW:=hB.size;have HD:=za (zbD s (nm:Int) W.drew (PRE W.drew (zo hB)) (by show N<=W.heap.size;omega) hh);clear hs hB m0 m1 m4 m5 mf sf
     go_region_held3 (λw'=>w'.cell? (xD w.heap.size 0)=some (xE xe c cpe)/\w'.cell? (xD w.heap.size 1)=some (xP nb)/\w'.cell? (xD b 2)=some (.string s)/\w'.cell? (xD b 3)=some (xI nm))
      (first|(with_reducible (refine⟨?_,?_,?_,?_⟩ <;> repeat (first|assumption|refine zg ?_|refine zj _ ?_|refine zk (by omega) ?_|refine zd HB1.o ?_ (by first|omega|(rw[zsb];omega)))))|go_keep)
      (first
        | (go_at_call 127;refine HD.o.mono ?_;rintro e w1 ⟨rfl,hB1⟩;have HB1:=za (zw hB1);clear hB1))
     all_goals go_wp2_with fail
     all_goals go_ret
     all_goals exact⟨by rw[zaj];rfl,HB.o.trans (HB1.o.mono (by omega))⟩
   . obtain⟨d,hd,hdi⟩:=o2 rfl;have hdw:=(hc.called hd).1.nd;go_enter func171,ntmps171;go_upto_region 5 with fail;refine zn (λW=>W.heap[w.heap.size]?=some (.cells #[xE xe c cpe,xP nb] 216 (0,0))/\xB w W) ⟨zc w _,zq w _⟩ ?_;rintro W ⟨hs,hB⟩;obtain⟨s0,s1,sf,sz⟩:=zp hs;obtain⟨m0,m1,m2,m3,m4,m5,mf,mz⟩:=zt ((hB.block b hbz).trans HBk.o);have HB:=za hB;have hzW:=hB.size;have HC1:=za (zah s (nm:Int) W.drew (PRE W.drew (zo hB)) (by show N<=W.heap.size;omega) hc.few hd);have HC2:=za (λo=>zah s (nm:Int) (W.alloc o).drew (PRE _ (zo (hB.alloc (by omega) o))) (by show N<=(W.alloc o).heap.size;simp;omega) hc.few hd);clear hs hB m0 m1 m4 m5 mf sf
     go_region_held3 (λw'=>w'.cell? (xD w.heap.size 0)=some (xE xe c cpe)/\w'.cell? (xD w.heap.size 1)=some (xP nb)/\w'.cell? (xD b 2)=some (.string s)/\w'.cell? (xD b 3)=some (xI nm))
      (first|(with_reducible (refine⟨?_,?_,?_,?_⟩ <;> repeat (first|assumption|refine zg ?_|refine zj _ ?_|refine zk (by omega) ?_|refine zd HB1.o ?_ (by first|omega|(rw[zsb];omega)))))|go_keep)
      (first
        | (go_at_call 119;refine HC1.o.mono ?_;rintro e w1 ⟨x2,cp2,n2,rfl,hsc,hB1⟩;have HB1:=za (zw hB1);have HS2:=za hsc;clear hB1 hsc)
        | (go_at_call 119;refine (HC2.o _).mono ?_;rintro e w1 ⟨x2,cp2,n2,rfl,hsc,hB1⟩;have HB1:=za (zw hB1);have HS2:=za hsc;obtain⟨y0,y1,yf,yz⟩:=zp ((HB1.o.block W.heap.size (by rw[zsb];omega)).trans (zc W _));clear hB1 hsc))
     all_goals go_upto_region 6 with fail
     refine zn (Got w N d w1.heap.size n2 x2 cp2) (zow HB.o HB1.o HS2.o hN) ?_;rotate_left;refine zn (Got w N d W.heap.size n2 x2 cp2) (zos HB.o HB1.o HS2.o hN) ?_
     all_goals
      rintro W2 hG;obtain⟨t0,t1,tf,tz⟩:=zp hG.box;obtain⟨n2',vs2,qv2,xs2,e9,hnt⟩:=hG.sc.nd;cases e9;obtain⟨v0,hv1,hv2⟩:=zhl hdw;have HE:Hid (zaj c (.mk 4 a s nm n ts)=zaK v0):=by
       unfold Hid;rw[zaj]
       show c.callTy s=_;unfold Sc.callTy;rw[hd]
       show ((d.nd.results[0]?).map tyV).getD 0=_;rw[hv2];rfl
      have HR:=za (zdM W2 hnt hdw.io (by have:=hdw.io;have:=hdw.outs;omega));obtain⟨xv,cpv,rfl⟩:=zB hnt.vown;obtain⟨gv,rfl,_,_,c2,_⟩:=zaM hnt.vown hv1;have hvz:=hnt.vlo gv rfl;have hBG:=za hG.bel;have hzz:=hG.bel.size;have hou:(0:Int)<(d.nd.outs:Int):=(by have:=hdw.outs;omega);have hou':0<d.nd.outs:=hdw.outs;have c2':xC W2 gv (d.nd.ins*7+2) (xI (zaK v0:Nat)):=c2;clear hG hnt hv1 hv2 c2 hd hdi hdw;go_wp2_with (go_at_call 88;refine HR.o.mono ?_;rintro e w3 ⟨g9,cp9,e9,rfl,hB3⟩;cases e9;have c3:=zd hB3 c2' (by omega);have HB3:=za hB3;clear hB3);go_ret;exact⟨by rw[HE.o];rfl,hBG.out.trans (HB3.o.mono hzz)⟩
   iterate 3
    . have hlen3:0<ts.length:=(by simp[arB] at o3;omega);obtain⟨u,hu⟩:∃u,ts[0]?=some u:=⟨_,zsc hlen3⟩;obtain⟨g,ub,rfl,hcu,hTu,hubN⟩:=TT.arg (t:=.mk _ a s nm n ts) HOw.o Hlen.o Hsub.o hu;have hgN:=Hgs.o g rfl;have hOu:=HO.o.sub (t:=.mk _ a s nm n ts) (u:=u) (List.mem_of_getElem? hu);have hty:=zdU (c:=c) hu;go_enter func171,ntmps171;go_upto_region 10 with fail;refine zn (λW=>(xH W w.heap.size #[xE xe c cpe,xP nb] 216)/\xB w W) ⟨zc w _,zq w _⟩ ?_;rintro W ⟨hs,hB⟩;obtain⟨s0,s1,sf,sz⟩:=zp hs;obtain⟨m0,m1,m2,m3,m4,m5,mf,mz⟩:=zt ((hB.block b hbz).trans HBk.o);have HB:=za hB;have hzW:=hB.size;have hcu':=zd hB hcu (by omega);have HD:=za (Hih.o u (List.mem_of_getElem? hu) (xP ub) W.drew (hTu.old (zm (zo hB) hN)) (PRE W.drew (zo hB)) (by show N<=W.heap.size;omega) hOu);have l0:(0:Int)<(ts.length:Int):=(by omega);clear hs hB m0 m1 m2 m3 m4 mf sf hTu hu
      go_region_held3 (λw'=>w'.cell? (xD w.heap.size 0)=some (xE xe c cpe)/\w'.cell? (xD w.heap.size 1)=some (xP nb)/\w'.cell? (xD b 5)=some (xS g ts.length cpa)/\w'.cell? (xD g 0)=some (xP ub))
       (first|(with_reducible (refine⟨?_,?_,?_,?_⟩ <;> repeat (first|assumption|refine zg ?_|refine zj _ ?_|refine zk (by omega) ?_|refine zd HB1.o ?_ (by first|omega|(rw[zsb];omega)))))|go_keep)
       (first
         | (go_at_call 171;refine HD.o.mono ?_;rintro e w1 ⟨rfl,hB1⟩;have HB1:=za (zw hB1);clear hB1))
      all_goals go_wp2_with fail
      all_goals go_ret
      all_goals exact⟨by rw[zaj];show Ending.returned (xI (zaj c u:Nat))=Ending.returned (xI (zbh c ts 0:Nat));rw[hty],HB.o.trans (HB1.o.mono (by omega))⟩
   iterate 2
    . have hlen3:1<ts.length:=(by simp[arB] at o3;omega);obtain⟨u,hu⟩:∃u,ts[1]?=some u:=⟨_,zsc hlen3⟩;obtain⟨g,ub,rfl,hcu,hTu,hubN⟩:=TT.arg (t:=.mk _ a s nm n ts) HOw.o Hlen.o Hsub.o hu;have hgN:=Hgs.o g rfl;have hOu:=HO.o.sub (t:=.mk _ a s nm n ts) (u:=u) (List.mem_of_getElem? hu);have hty:=zdU (c:=c) hu;go_enter func171,ntmps171;go_upto_region 13 with fail;refine zn (λW=>(xH W w.heap.size #[xE xe c cpe,xP nb] 216)/\xB w W) ⟨zc w _,zq w _⟩ ?_;rintro W ⟨hs,hB⟩;obtain⟨s0,s1,sf,sz⟩:=zp hs;obtain⟨m0,m1,m2,m3,m4,m5,mf,mz⟩:=zt ((hB.block b hbz).trans HBk.o);have HB:=za hB;have hzW:=hB.size;have hcu':=zd hB hcu (by omega);have HD:=za (Hih.o u (List.mem_of_getElem? hu) (xP ub) W.drew (hTu.old (zm (zo hB) hN)) (PRE W.drew (zo hB)) (by show N<=W.heap.size;omega) hOu);have l0:(1:Int)<(ts.length:Int):=(by omega);clear hs hB m0 m1 m2 m3 m4 mf sf hTu hu
      go_region_held3 (λw'=>w'.cell? (xD w.heap.size 0)=some (xE xe c cpe)/\w'.cell? (xD w.heap.size 1)=some (xP nb)/\w'.cell? (xD b 5)=some (xS g ts.length cpa)/\w'.cell? (xD g 1)=some (xP ub))
       (first|(with_reducible (refine⟨?_,?_,?_,?_⟩ <;> repeat (first|assumption|refine zg ?_|refine zj _ ?_|refine zk (by omega) ?_|refine zd HB1.o ?_ (by first|omega|(rw[zsb];omega)))))|go_keep)
       (first
         | (go_at_call 171;refine HD.o.mono ?_;rintro e w1 ⟨rfl,hB1⟩;have HB1:=za (zw hB1);clear hB1))
      all_goals go_wp2_with fail
      all_goals go_ret
      all_goals exact⟨by rw[zaj];show Ending.returned (xI (zaj c u:Nat))=Ending.returned (xI (zbh c ts 1:Nat));rw[hty],HB.o.trans (HB1.o.mono (by omega))⟩
   all_goals
    go_enter func171,ntmps171;go_wp2_with fail;go_ret;exact⟨by rw[zaj];rfl,zq _ _⟩
end
section
variable {N:Nat} {c:Sc} {ev nv:Value} {w:World}
attribute [local go_sem ↓] Go.wp_at_zero Go.wp_at_succ
structure zdA (w:World) (N:Nat) (ts:List Tm) (v:Value):Prop where
 ex:∃a cp,v=.slice a ts.length cp/\ts.length<=cp/\cp<=9223372036854775807/\(ts≠[]->∃g o,a=some (xD g o)/\g<N/\∀i u,ts[i]?=some u->∃ub,w.cell? (xD g (o+i))=some (xP ub)/\TT w N u (xP ub))
theorem zdA.old {w':World}{ts:List Tm}{v:Value}(h:zdA w N ts v)(ho:Old N w w'):zdA w' N ts v:=by obtain⟨a,cp,h1,h2,h3,h4⟩:=h.ex;refine⟨a,cp,h1,h2,h3,λhne=>?_⟩;obtain⟨g,o,h5,h6,h7⟩:=h4 hne;refine⟨g,o,h5,h6,λi u hi=>?_⟩;obtain⟨ub,h8,h9⟩:=h7 i u hi;exact⟨ub,(World.cell?_of_block (w:=w) (ho g h6)).trans h8,h9.old ho⟩
theorem zkm {t:Tm}{args:Value}{vs:List Value}(hown:w.ownsRow 0 182 1 args vs.length vs)(hl:vs.length=t.ts.length)(hs:∀(i:Nat) (u:Tm) (x:Value),t.ts[i]?=some u->vs[i]?=some x->TT w N u x)(hg:∀g,args.ownBlock=some g->g<N):zdA w N t.ts args:=by
 obtain⟨x,cp,rfl⟩:=zB hown;have hcp:vs.length<=cp/\cp<=9223372036854775807:=by
  rcases hown.2 with ⟨e,h⟩|⟨g,cap,cur,hv,_,_,h3,h4,_⟩
  . simp only[Value.slice.injEq] at e;omega
  . cases hv;unfold maxLen at h4;exact⟨h3,by omega⟩
 refine⟨x,cp,by rw[hl],by omega,hcp.2,λhne=>?_⟩;have h0:0<vs.length:=by rw[hl];exact List.length_pos_iff.2 hne
 obtain⟨g,cap,hv,_⟩:=zM hown h0;cases hv;refine⟨g,0,rfl,hg g rfl,λi u hu=>?_⟩;have hi:=(List.getElem?_eq_some_iff.1 hu).1;have hv:vs[i]?=some vs[i]:=zsc (by omega);have hc:=zhv hown hv;have ht:=hs i u _ hu hv;obtain⟨ub,_,_,e,_⟩:=ht.ptr;rw[e] at hc ht;exact⟨ub,by rw[Nat.zero_add];exact hc,ht⟩
theorem zkY (c:Sc)(ty:Nat)(t:Tm)(l:List Tm):zcv c ty (t::l)=(zaj c t==ty&&zcv c ty l):=rfl
theorem zhS (hc:zbr c)(ty:Nat)(ts:List Tm)(v:Value)(w:World)(HA:zdA w N ts v)(HSc:ScV w N c ev nv)(hN:N<=w.heap.size)(HO:∀t∈ts,zdg c t) :
 xK 172 #[.agg #[ev,nv],xI ty,v] w (λe w'=>e=.returned (.bool (zcv c ty ts))/\xB w w'):=by
 obtain⟨x,cp,rfl,hcp,hmx,_⟩:=HA.ex;obtain⟨xe,cpe,nb,rfl,rfl,hnb⟩:=HSc.shape;go_enter func172,ntmps172;go_wp2_with fail;go_loopg [11] (ts.length+1) (λj i wr=>∃k:Nat,k+j=ts.length+1/\k<=ts.length/\i=xI k/\Hid (zcv c ty (ts.drop k)=zcv c ty ts)/\Hid (xH wr w.heap.size #[xE xe c cpe,xP nb] 216)/\Hid (xB w wr));case atStart=>exact⟨0,by omega,Nat.zero_le _,rfl,rfl,zc w _,zq w _⟩
 case round =>
  obtain⟨k,hkj,hk,rfl,HS,HX,HB⟩:=hrel;obtain⟨s0,s1,sf,sz⟩:=zp HX.o;by_cases hlt:k<ts.length
  . obtain⟨t,ht⟩:∃t,ts[k]?=some t:=⟨_,zsc hlt⟩;obtain⟨x',cp',e1,_,_,hin⟩:=(HA.old (zm HB.o hN)).ex;cases e1;obtain⟨g,o,rfl,hgN,hat⟩:=hin (by intro e;rw[e] at hlt;simp at hlt);obtain⟨ub,hcu,hTu⟩:=hat k t ht;have HT:=za (zcQ hc t (xP ub) wr hTu (HSc.old (zm HB.o hN)) (by have:=HB.o.size;omega) (HO t (List.mem_of_getElem? ht)));have hd:ts.drop k=t::ts.drop (k+1):=by obtain⟨e1,e2⟩:=List.getElem?_eq_some_iff.1 ht;rw[List.drop_eq_getElem_cons e1,e2]
    have hS:=HS.o;rw[hd,zkY] at hS;have hzr:=HB.o.size;by_cases hq:zaj c t=ty
    . have hq':((zaj c t:Int) != (ty:Int))=false:=(by simp[hq]);have HS2:Hid (zcv c ty (ts.drop (k+1))=zcv c ty ts):=(by unfold Hid;rw[<- hS];simp[hq]);go_wp2_with (go_at_call 171;refine HT.o.mono ?_;rintro e w1 ⟨rfl,HB1⟩);go_roundg (gk-1);case measure=>omega
      exact⟨k+1,by omega,by omega,by go_num,HS2.o,(HB1.block _ sz).trans HX.o,HB.o.trans (HB1.mono hzr)⟩
    . have hq':((zaj c t:Int) != (ty:Int))=true:=(by simp;omega);have HS2:Hid (zcv c ty ts=false):=(by unfold Hid;rw[<- hS];simp[hq]);go_wp2_with (go_at_call 171;refine HT.o.mono ?_;rintro e w1 ⟨rfl,HB1⟩);go_ret;exact⟨by rw[HS2.o];rfl,HB.o.trans (HB1.mono hzr)⟩
  . have hS:zcv c ty ts=true:=by rw[<- HS.o,List.drop_of_length_le (by omega)];rfl
    have HS2:=za hS;go_wp2_with fail;go_ret;exact⟨by rw[HS2.o];rfl,HB.o⟩
theorem zky (a b:Nat):Ending.returned (.bool ((a:Int)==(b:Int)))=Ending.returned (.bool (a==b)):=by
 have:((a:Int)==(b:Int))=(a==b):=by rw[Bool.eq_iff_iff];simp;omega
 rw[this]
theorem zfS (hc:zbr c)(t1 t2:Tm)(ts:List Tm)(v:Value)(w:World)(hA:zdA w N (t1::t2::ts) v)(HSc:ScV w N c ev nv)(hN:N<=w.heap.size)(hO1:zdg c t1)(hO2:zdg c t2) :
 xK 173 #[.agg #[ev,nv],v] w (λe w'=>e=.returned (.bool (zc9 c (t1::t2::ts)))/\xB w w'):=by
 obtain⟨x,cp,rfl,hcp,hmx,hin⟩:=hA.ex;obtain⟨g,o,rfl,hgN,hat⟩:=hin (by simp);obtain⟨u1,c1,T1⟩:=hat 0 t1 rfl;obtain⟨u2,c2,T2⟩:=hat 1 t2 rfl;obtain⟨xe,cpe,nb,rfl,rfl,hnb⟩:=HSc.shape;have HT1:=za (λW (HB:xB w W)=>zcQ hc t1 (xP u1) W (T1.old (zm HB hN)) (HSc.old (zm HB hN)) (by have:=HB.size;omega) hO1);have HT2:=za (λW (HB:xB w W)=>zcQ hc t2 (xP u2) W (T2.old (zm HB hN)) (HSc.old (zm HB hN)) (by have:=HB.size;omega) hO2);have HE:Hid (zc9 c (t1::t2::ts)=(zaj c t1==zaj c t2)):=by unfold Hid zc9;rw[zbh,zbh,zbh]
 have hgz:g<w.heap.size:=by omega
 rw[Nat.add_zero] at c1;generalize zaj c t1=y1 at *;generalize zaj c t2=y2 at *;have a0:((xD g o):Addr).add 0=⟨g,o,none⟩:=by simp[Addr.add]
 have a1:((xD g o):Addr).add 1=⟨g,o+1,none⟩:=by simp[Addr.add]
 have n0:0<(t1::t2::ts).length:=by simp
 have n1:1<(t1::t2::ts).length:=by simp
 have l0:(0:Int)<((t1::t2::ts).length:Int):=by simp;omega
 have l1:(1:Int)<((t1::t2::ts).length:Int):=by simp;omega
 generalize (t1::t2::ts).length=nn at *;go_enter func173,ntmps173;go_upto_region 1 with fail;refine zn (λW=>(xH W w.heap.size #[xE xe c cpe,xP nb] 216)/\xB w W) ⟨zc w _,zq w _⟩ ?_;rintro W ⟨hs,HB⟩;obtain⟨s0,s1,sf,sz⟩:=zp hs;have c1':=zd HB c1 hgz;have c2':=zd HB c2 hgz;have hzW:=HB.size;have HD1:=za (HT1.o W.drew (zo HB))
 go_region_held3 (λw'=>w'.cell? (xD w.heap.size 0)=some (xE xe c cpe)/\w'.cell? (xD w.heap.size 1)=some (xP nb)/\w'.cell? (xD g o)=some (xP u1)/\w'.cell? (xD g (o+1))=some (xP u2))
  (first|(with_reducible (refine⟨?_,?_,?_,?_⟩ <;> repeat (first|assumption|refine zg ?_|refine zj _ ?_|refine zk (by omega) ?_|refine zd HB2.o ?_ (by first|omega|(rw[zsb];omega))|refine zd HB1.o ?_ (by first|omega|(rw[zsb];omega)))))|go_keep)
  (first
    | (go_at_call 171;refine HD2.o.mono ?_;rintro e w2 ⟨rfl,hB2⟩;have HB2:=za hB2)
    | (go_at_call 171;refine HD1.o.mono ?_;rintro e w1 ⟨rfl,hB1⟩;have HB1:=za (zw hB1);(have hzw1:W.heap.size<=w1.heap.size:=hB1.size);have HD2:=za (HT2.o w1 (HB.trans (HB1.o.mono hzW)))))
 all_goals go_wp2_with fail
 all_goals go_ret
 all_goals exact⟨by rw[HE.o];exact zky y1 y2,(HB.trans (HB1.o.mono hzW)).trans (HB2.o.mono (by omega))⟩
end
section
variable {N k:Nat} {c:Sc} {t:Tm} {v:Value}
attribute [local go_sem ↓] Go.wp_at_zero Go.wp_at_succ
theorem zo0 {n:Nat}(h:arB k n=true):k<=23:=by
 rcases Nat.lt_or_ge 23 k with h'|h'
 . exfalso;unfold arB at h;simp only[show ¬k<=3 by omega,show ¬k=4 by omega,show ¬k=5 by omega,show ¬k=6 by omega,show ¬k<=8 by omega,show ¬k=9 by omega,show ¬k<=11 by omega,show ¬k<=23 by omega,if_false] at h;cases h
 . exact h'
theorem zmE (w:World)(h:TT w N t v)(ha:arB t.k t.ts.length=true) :
 xK 174 #[v] w (λe w'=>e=.returned (.bool (zcG t))/\w=w'):=by
 obtain⟨b,args,vs,rfl,hb,hblk,hown,hlen,hsub,_⟩:=h.ptr;obtain⟨h0,h1,h2,h3,h4,h5,hf,hz⟩:=zt hblk;obtain⟨k,a,s,nm,n,ts⟩:=t;simp only[Tm.k,Tm.ts] at *;have h23:=zo0 ha;by_cases h10:k=10
 . subst h10;have hl:0<ts.length:=by simp[arB] at ha;omega
   obtain⟨u,hu⟩:∃u,ts[0]?=some u:=⟨_,zsc hl⟩;obtain⟨xa,cpa,rfl⟩:=zB hown;rw[hlen] at h5 hown;obtain⟨g,ub,rfl,hcu,hTu,_⟩:=TT.arg (t:=.mk 10 a s nm n ts) hown hlen hsub hu;obtain⟨_,_,_,e,_,hub,_⟩:=hTu.ptr;cases e;obtain⟨k0,_⟩:=zt hub;have he:zcG (.mk 10 a s nm n ts)=(u.k==0):=by
    unfold zcG;cases ts with
    | nil=>simp at hl
    | cons x ts=>simp at hu;subst hu;simp[Tm.k,Tm.ts]
   have HE:=za he;generalize u.k=uk at *;by_cases h0':uk=0
   . subst h0';go_enter func174,ntmps174;go_wp2_with fail;go_ret;exact⟨by rw[HE.o];rfl,rfl⟩
   . have d0:((uk:Int)==0)=false:=(by simp;omega);go_enter func174,ntmps174;go_wp2_with fail;go_ret;exact⟨by rw[HE.o];simp[h0'],rfl⟩
 . have hc:k=0∨k=1∨k=2∨(k≠0/\k≠1/\k≠2):=by omega
   rcases hc with rfl|rfl|rfl|⟨c1,c2,c3⟩
   . go_enter func174,ntmps174;go_wp2_with fail;go_ret;exact⟨rfl,rfl⟩
   . go_enter func174,ntmps174;go_wp2_with fail;go_ret;exact⟨rfl,rfl⟩
   . go_enter func174,ntmps174;go_wp2_with fail;go_ret;exact⟨rfl,rfl⟩
   . have d1:((k:Int)==0)=false:=(by simp;omega);have d2:((k:Int)==1)=false:=(by simp;omega);have d3:((k:Int)==2)=false:=(by simp;omega);have d4:((k:Int)==10)=false:=(by simp;omega);have HE:Hid (zcG (.mk k a s nm n ts)=false):=(by unfold Hid zcG;exact (if_neg (show ¬(k=0∨k=1∨k=2) by omega)).trans (if_neg (show ¬k=10 from h10)));go_enter func174,ntmps174;go_wp2_with fail;go_ret;exact⟨by rw[HE.o];rfl,rfl⟩
def zci (k:Nat):Bool:=zaJ k&&k != 3
theorem zj3 (w:World)(h:TT w N t v) :
 xK 130 #[v] w (λe w'=>e=.returned (.bool (zci t.k))/\w=w'):=by
 have HN:=za (zf2 w h);obtain⟨b,args,vs,rfl,hb,hblk,_⟩:=h.ptr;obtain⟨h0,h1,h2,h3,h4,h5,hf,hz⟩:=zt hblk;generalize t.k=k at *;cases hn:zaJ k with
 | false => rw[hn] at HN;have HE:Hid (zci k=false):=(by unfold Hid zci;rw[hn];rfl);go_enter func130,ntmps130;go_wp2_with (go_at_call 124;refine HN.o.mono ?_;rintro e w1 ⟨rfl,rfl⟩);go_ret;exact⟨by rw[HE.o];rfl,rfl⟩
 | true =>
   rw[hn] at HN;by_cases h3':k=3
   . subst h3';go_enter func130,ntmps130;go_wp2_with (go_at_call 124;refine HN.o.mono ?_;rintro e w1 ⟨rfl,rfl⟩);go_ret;exact⟨rfl,rfl⟩
   . have d1:((k:Int) != 3)=true:=(by simp;omega);have HE:Hid (zci k=true):=(by unfold Hid zci;rw[hn];simp[h3']);go_enter func130,ntmps130;go_wp2_with (go_at_call 124;refine HN.o.mono ?_;rintro e w1 ⟨rfl,rfl⟩);go_ret;exact⟨by rw[HE.o];rfl,rfl⟩
theorem ze3 {ts:List Tm}{vs:List Vr}{v:Vr}(ht:ts[k]?=some t)(hv:vs[k]?=some v):zaQ c (ts.drop k) (vs.drop k)=if (zaj c t != tyV v)=true then false else zaQ c (ts.drop (k+1)) (vs.drop (k+1)):=by obtain⟨h1,h2⟩:=List.getElem?_eq_some_iff.1 ht;obtain⟨h3,h4⟩:=List.getElem?_eq_some_iff.1 hv;rw[List.drop_eq_getElem_cons h1,List.drop_eq_getElem_cons h3,h2,h4];rfl
theorem zlM {d:Sc}{ev nv:Value}(hc:zbr c)(t:Tm)(v:Value)(w:World)(hT:TT w N t v)(HSc:ScV w N c ev nv)(hN:N<=w.heap.size)(HO:zdg c t)(hd:c.called t.s=some d)(hdi:d.nd.ins=t.ts.length) :
 xK 175 #[.agg #[ev,nv],v] w (λe w'=>e=.returned (.bool (zaQ c t.ts d.nd.vars))/\xB w w'):=by
 obtain⟨b,args,vs,rfl,hb,HBk,hown,hlen,hsub,hgs⟩:=hT.ptr;have hdw:=(hc.called hd).1.nd;have HA:=za (zkm hown hlen hsub hgs);obtain⟨xa,cpa,rfl⟩:=zB hown;obtain⟨xe,cpe,nb,rfl,rfl,hnb⟩:=HSc.shape;have hbz:=ze HBk;rw[hlen] at HBk HA;have hio:=hdw.io;have hou:=hdw.outs;have hfw:=hdw.few;go_enter func175,ntmps175;go_upto_region 1 with fail;refine zn (λW=>W.heap[w.heap.size]?=some (.cells #[xE xe c cpe,xP nb] 216 (0,0))/\xB w W) ⟨zc w _,zq w _⟩ ?_;rintro W ⟨Hs,HB⟩;obtain⟨s0,s1,sf,sz⟩:=zp Hs;obtain⟨m0,m1,m2,m3,m4,m5,mf,mz⟩:=zt ((HB.block b hbz).trans HBk);have hzW:=HB.size;have PRE:∀W,xB w W->ScV W N c (xE xe c cpe) (xP nb):=λW HB=>HSc.old (zm HB hN);have HC1:=za (zah t.s (t.nm:Int) W.drew (PRE W.drew (zo HB)) (by show N<=W.heap.size;omega) hc.few hd);have HC2:=za (λo=>zah t.s (t.nm:Int) (W.alloc o).drew (PRE _ (zo (HB.alloc (by omega) o))) (by show N<=(W.alloc o).heap.size;simp;omega) hc.few hd)
 go_region_held3 (λw'=>w'.cell? (xD w.heap.size 0)=some (xE xe c cpe)/\w'.cell? (xD w.heap.size 1)=some (xP nb)/\w'.cell? (xD b 2)=some (.string t.s)/\w'.cell? (xD b 3)=some (xI t.nm))
  (first|(with_reducible (refine⟨?_,?_,?_,?_⟩ <;> repeat (first|assumption|refine zg ?_|refine zj _ ?_|refine zk (by omega) ?_|refine zd HB1.o ?_ (by first|omega|(rw[zsb];omega)))))|go_keep)
  (first
    | (go_at_call 119;refine HC1.o.mono ?_;rintro e w1 ⟨x2,cp2,n2,rfl,hsc,hB1⟩;have HB1:=za (zw hB1);have HS2:=za hsc)
    | (go_at_call 119;refine (HC2.o _).mono ?_;rintro e w1 ⟨x2,cp2,n2,rfl,hsc,hB1⟩;have HB1:=za (zw hB1);have HS2:=za hsc;obtain⟨y0,y1,yf,yz⟩:=zp ((HB1.o.block W.heap.size (by rw[zsb];omega)).trans (zc W _))))
 all_goals go_upto_region 2 with fail
 refine zn (λW2=>Got w N d w1.heap.size n2 x2 cp2 W2/\xH W2 w.heap.size #[xE xe c cpe,xP nb] 216) ⟨zow HB HB1.o HS2.o hN,(Below.heap_alloc _ _ _ (by have:=HB1.o.size;omega)).trans ((HB1.o.block _ sz).trans Hs)⟩ ?_;generalize w1.heap.size=wz;rotate_left;refine zn (λW2=>Got w N d W.heap.size n2 x2 cp2 W2/\xH W2 w.heap.size #[xE xe c cpe,xP nb] 216) ⟨zos HB HB1.o HS2.o hN,(zr (by omega) rfl).trans ((zr (by omega) rfl).trans ((HB1.o.block _ (by rw[zsb];omega)).trans ((Below.heap_alloc _ _ _ sz).trans Hs)))⟩ ?_;generalize W.heap.size=wz
 all_goals
  rintro W2 ⟨HG,HSb⟩;obtain⟨t0,t1,tf,tz⟩:=zp HG.box;obtain⟨p0,p1,pf,pz⟩:=zp HSb;obtain⟨k0,k1,k2,k3,k4,k5,kf,kz⟩:=zt ((HG.bel.block b hbz).trans HBk);have hzz:=HG.bel.size;obtain⟨n2',vs2,qv2,xs2,e9,HNt⟩:=HG.sc.nd;cases e9;obtain⟨xv,cpv,rfl⟩:=zB HNt.vown;have hn2:=HNt.lo;obtain⟨_,_,e1,_,h16,_⟩:=HA.o.ex;simp only[Value.slice.injEq] at e1;obtain⟨rfl,_,rfl⟩:=e1;go_wp2_with fail;go_loopg [24] (t.ts.length+1) (λj i wr=>∃k:Nat,k+j=t.ts.length+1/\k<=t.ts.length/\i=xI k/\Hid (zaQ c (t.ts.drop k) (d.nd.vars.drop k)=zaQ c t.ts d.nd.vars)/\Hid (xB W2 wr));case atStart=>exact⟨0,by omega,Nat.zero_le _,rfl,rfl,Below.refl _ _⟩
  case round =>
   obtain⟨k,hkj,hk,rfl,HS,HBr⟩:=hrel;have hBw:xB w wr:=HG.bel.trans (HBr.o.mono hzz);have hzr:=HBr.o.size;by_cases hlt:k<t.ts.length
   . obtain⟨u,hu⟩:∃u,t.ts[k]?=some u:=⟨_,zsc hlt⟩;obtain⟨v,hv⟩:∃v,d.nd.vars[k]?=some v:=⟨_,zsc (by omega)⟩;obtain⟨x',cp',e1,_,_,hin⟩:=(HA.o.old (zm hBw hN)).ex;simp only[Value.slice.injEq] at e1;obtain⟨rfl,_,rfl⟩:=e1;obtain⟨g,o,rfl,hgN,hat⟩:=hin (by intro e;rw[e] at hlt;simp at hlt);obtain⟨ub,hcu,hTu⟩:=hat k u hu;have hnt2:=HNt.old (zm HBr.o (by omega:N<=W2.heap.size));obtain⟨gv,rfl,_,_,c2,_⟩:=zaM hnt2.vown hv;have hgv:=hnt2.vlo gv rfl;obtain⟨q0,q1,q2,q3,q4,q5,qf,qz⟩:=zt hnt2.blk;have b0:=zd HBr.o p0 pz;have b1:=zd HBr.o p1 pz;have d1:=zd HBr.o t1 tz;have HT:=za (zcQ hc u (xP ub) wr.drew (hTu.old (λ_ _=>rfl)) (HSc.old (w':=wr.drew) (zm (zo hBw) hN)) (by show N<=wr.heap.size;omega) (HO.sub (List.mem_of_getElem? hu)));have hS:=ze3 (c:=c) hu hv;rw[HS.o] at hS;have i0:(0:Int)<=(k:Int):=(by omega);have i1:(k:Int)<(d.nd.vars.length:Int):=(by omega);have hty:tyV v=zaK v:=rfl;rw[hty] at hS;have hgvz:gv<wr.heap.size:=(by omega);have hnz:n2<wr.heap.size:=(by omega);generalize zaj c u=y1 at *;generalize zaK v=y2 at *;by_cases hq:y1=y2
     . have hq':((y1:Int) != (y2:Int))=false:=(by simp[hq]);rw[if_neg (by simp[hq])] at hS;have HS2:=za hS;go_upto_region 5 with fail
       go_region_held3 (λw'=>w'.cell? (xD w.heap.size 0)=some (xE xe c cpe)/\w'.cell? (xD w.heap.size 1)=some (xP nb)/\w'.cell? (xD wz 1)=some (xP n2)/\w'.cell? (xD n2 2)=some (xS gv d.nd.vars.length cpv)/\w'.cell? (xD gv (k*7+2))=some (xI y2))
        (first|(with_reducible (refine⟨?_,?_,?_,?_,?_⟩ <;> repeat (first|assumption|refine zg ?_|refine zj _ ?_|refine zk (by omega) ?_|refine zd HB1.o ?_ (by first|omega|(rw[zsb];omega)))))|go_keep)
        (first
          | (go_at_call 171;refine HT.o.mono ?_;rintro e w8 ⟨rfl,hB1⟩;have HB1:=za (zw hB1)))
       all_goals go_wp2_with fail
       all_goals
        go_roundg (gk-1);case measure=>omega
        exact⟨k+1,by omega,by omega,by go_num,HS2.o.symm,HBr.o.trans (HB1.o.mono hzr)⟩
     . have hq':((y1:Int) != (y2:Int))=true:=(by simp;omega);rw[if_pos (by simp[hq])] at hS;have HS2:=za hS;go_upto_region 5 with fail
       go_region_held3 (λw'=>w'.cell? (xD w.heap.size 0)=some (xE xe c cpe)/\w'.cell? (xD w.heap.size 1)=some (xP nb)/\w'.cell? (xD wz 1)=some (xP n2)/\w'.cell? (xD n2 2)=some (xS gv d.nd.vars.length cpv)/\w'.cell? (xD gv (k*7+2))=some (xI y2))
        (first|(with_reducible (refine⟨?_,?_,?_,?_,?_⟩ <;> repeat (first|assumption|refine zg ?_|refine zj _ ?_|refine zk (by omega) ?_|refine zd HB1.o ?_ (by first|omega|(rw[zsb];omega)))))|go_keep)
        (first
          | (go_at_call 171;refine HT.o.mono ?_;rintro e w8 ⟨rfl,hB1⟩;have HB1:=za (zw hB1)))
       all_goals go_wp2_with fail
       all_goals go_ret
       all_goals exact⟨by rw[HS2.o];rfl,hBw.trans (HB1.o.mono (by omega))⟩
   . have hS:zaQ c t.ts d.nd.vars=true:=(by rw[<- HS.o,List.drop_of_length_le (by omega)];rfl);have HS2:=za hS;go_wp2_with fail;go_ret;exact⟨by rw[HS2.o];rfl,hBw⟩
end
end Go.Proofs.YtbicmofihhjgbaaGreatDoor
