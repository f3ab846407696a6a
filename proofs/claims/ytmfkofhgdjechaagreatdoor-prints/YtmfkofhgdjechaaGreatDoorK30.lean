/- Part 31 of the proof: ChkD MdlU MdlS. -/
import Derived.Test.YtmfkofhgdjechaaGreatDoorK29
set_option maxRecDepth 100000
set_option maxHeartbeats 8000000
namespace Go.Proofs.YtmfkofhgdjechaaGreatDoor
open Go.Proofs.Tryz
section
open Go.RowKit
variable {N:Nat} {c:Sc} {t u:Tm}
attribute [local go_sem ↓] Go.wp_at_zero Go.wp_at_succ
structure zeJ (n:Nod):Prop where
 ins:1<=n.ins
 outs:1<=n.outs
 io:n.ins+n.outs<=n.vars.length
 few:n.vars.length<=16
 eqs:∀q∈n.eqs,q.ns.length=q.ps.length/\1<=q.ns.length/\Wf q.r/\(2<=q.ns.length->q.r.k=4)
structure zbr (c:Sc):Prop where
 er:∀n∈c.er,zeJ n
 nd:zeJ c.nd
 few:c.er.length<=6
theorem zbr.called {d:Sc}(h:zbr c){s:ByteArray}(hd:c.called s=some d):zbr d/\d.nd∈c.er:=by
 unfold Sc.called at hd;split at hd
 . cases hd
 . rename_i i hi
   split at hd
   . cases hd
   . rename_i n hn
     cases hd;have hm:=List.mem_of_getElem? hn;exact⟨⟨λm hm'=>h.er m (List.mem_of_mem_take hm'),h.er n hm,by have:=h.few;simp;omega⟩,hm⟩
def zdg (c:Sc)(t:Tm):Prop:=∀u∈zaV za5 t,(zaJ u.k=true->c.has u.s=true)/\(u.k=4->∃d,c.called u.s=some d/\d.nd.ins=u.ts.length)/\arB u.k u.ts.length=true
theorem zn7 {g:Tm->Bool}{ts:List Tm}(ht:t∈ts)(hu:u∈zaV g t):u∈zdk g ts:=by
 induction ts with
 | nil=>simp at ht
 | cons x ts ih =>
   rw[zdk];rcases List.mem_cons.1 ht with rfl|ht
   . exact List.mem_append_left _ hu
   . exact List.mem_append_right _ (ih ht)
theorem zey (g:Tm->Bool)(t:Tm):t∈zaV g t:=by
 cases t with
 | mk k a s nm n ts=>rw[zaV];simp
theorem zdg.sub (h:zdg c t)(hu:u∈t.ts):zdg c u:=by
 intro x hx;refine h x ?_;cases t with
 | mk k a s nm n ts => rw[zaV];refine List.mem_cons_of_mem _ ?_;rw[if_pos (show za5 _=true from rfl)];exact zn7 hu hx
theorem zdU:∀{ts:List Tm} {i:Nat} {t:Tm},ts[i]?=some t->zbh c ts i=zaj c t:=by
 intro ts;induction ts with
 | nil=>intro i t h;simp at h
 | cons x ts ih =>
   intro i t h;cases i with
   | zero=>simp at h;subst h;rw[zbh]
   | succ i=>rw[zbh];exact ih (by simpa using h)
theorem TT.arg {w:World}{vl:Nat}{x:Option Addr}{cp:Nat}{vs:List Value}{i:Nat}(hown:w.ownsRow 0 159 1 (.slice x vl cp) vl vs)(hl:vs.length=t.ts.length)(hs:∀(i:Nat) (u:Tm) (x:Value),t.ts[i]?=some u->vs[i]?=some x->TT w N u x)(hu:t.ts[i]?=some u):∃g ub,x=some (xD g 0)/\xC w g i (xP ub)/\TT w N u (xP ub)/\ub<N:=by have hi:=(List.getElem?_eq_some_iff.1 hu).1;have hv:vs[i]?=some vs[i]:=zsc (by omega);obtain⟨g,rfl,hc⟩:=zbE hown hv;have ht:=hs i u _ hu hv;obtain⟨ub,_,_,e,hub,_⟩:=ht.ptr;rw[e] at hc ht;exact⟨g,ub,rfl,hc,ht,hub⟩
theorem zhl {n:Nod}(h:zeJ n):∃v,n.vars[n.ins]?=some v/\n.results[0]?=some v:=by have h1:=h.io;have h2:=h.outs;refine⟨n.vars[n.ins]'(by omega),zsc _,?_⟩;unfold Nod.results;rw[List.getElem?_take,if_pos (by omega),List.getElem?_drop];simp
theorem zcQ {ev nv:Value}(hc:zbr c):∀(t:Tm) (v:Value) (w:World),TT w N t v->ScV w N c ev nv->N<=w.heap.size->zdg c t ->
 xK 175 #[.agg #[ev,nv],v] w (λe w'=>e=.returned (xI (zaj c t:Nat))/\xB w w'):=by
 intro t;induction t using Tm.ind with
 | h k a s nm n ts ih =>
   intro v w hT h hN hO;obtain⟨b,args,vs,rfl,hb,hblk,hown,hlen,hsub,hgs⟩:=hT.ptr;obtain⟨xa,cpa,rfl⟩:=zB hown;have HSc:=za h;obtain⟨xe,cpe,nb,rfl,rfl,hnb⟩:=h.shape;have hlen':vs.length=ts.length:=hlen;have hbz:=ze hblk;obtain⟨o1,o2,o3⟩:=hO _ (zey za5 _);have hblk':w.heap[b]?=some (.cells #[xI k,xI a,.string s,xI nm,xI n,.slice xa ts.length cpa] 216 (0,0)):=(by rw[<- hlen'];exact hblk);have HBk:=za hblk';have hown':w.ownsRow 0 159 1 (.slice xa ts.length cpa) ts.length vs:=(by rw[<- hlen'];exact hown);have HOw:=za hown';have Hsub:=za hsub;have HO:=za hO;have Hih:=za ih;have Hgs:=za hgs;simp only[Tm.k,Tm.s,Tm.ts] at o1 o2 o3;obtain⟨h0,h1,h2,h3,h4,h5,hf,hz⟩:=zt hblk';have Hlen:=za hlen';clear hT hown h hlen hlen' hblk hown' hsub hO ih hgs hblk' h1 h4 hf;have hcases:k=3∨k=4∨k=7∨k=8∨k=6∨k=5∨k=9∨k=0∨k=10∨k=19∨k=20∨k=21∨k=22∨k=23∨k=1∨k=2∨k=11∨k=12∨k=13∨k=14∨k=15∨k=16∨k=17∨k=18:=by
    have:k<=23:=by
     rcases Nat.lt_or_ge 23 k with h|h
     . exfalso;unfold arB at o3;simp only[show ¬k<=3 by omega,show ¬k=4 by omega,show ¬k=5 by omega,show ¬k=6 by omega,show ¬k<=8 by omega,show ¬k=9 by omega,show ¬k<=11 by omega,show ¬k<=23 by omega,if_false] at o3;cases o3
     . exact h
    omega
   have PRE:∀W,xB w W->ScV W N c (xE xe c cpe) (xP nb):=λW hB=>HSc.o.old (zm hB hN);rcases hcases with rfl|rfl|rfl|rfl|rfl|rfl|rfl|rfl|rfl|rfl|rfl|rfl|rfl|rfl|rfl|rfl|rfl|rfl|rfl|rfl|rfl|rfl|rfl|rfl
   . have hh:=o1 rfl;go_enter func175,ntmps175;go_upto_region 3 with fail;refine zn (λW=>(xH W w.heap.size #[xE xe c cpe,xP nb] 205)/\xB w W) ⟨zc w _,zq w _⟩ ?_;rintro W ⟨hs,hB⟩;obtain⟨s0,s1,sf,sz⟩:=zp hs;obtain⟨m0,m1,m2,m3,m4,m5,mf,mz⟩:=zt ((hB.block b hbz).trans HBk.o);have HB:=za hB;have hzW:=hB.size;have HD:=za (zbD s (nm:Int) W.drew (PRE W.drew (zo hB)) (by show N<=W.heap.size;omega) hh);clear hs hB m0 m1 m4 m5 mf sf
     go_region_held3 (λw'=>w'.cell? (xD w.heap.size 0)=some (xE xe c cpe)/\w'.cell? (xD w.heap.size 1)=some (xP nb)/\w'.cell? (xD b 2)=some (.string s)/\w'.cell? (xD b 3)=some (xI nm))
      (first|(with_reducible (refine⟨?_,?_,?_,?_⟩ <;> repeat (first|assumption|refine zg ?_|refine zj _ ?_|refine zk (by omega) ?_|refine zd HB1.o ?_ (by first|omega|(rw[zsb];omega)))))|go_keep)
      (first
        | (go_at_call 109;refine HD.o.mono ?_;rintro e w1 ⟨rfl,hB1⟩;have HB1:=za (zw hB1);clear hB1))
     all_goals go_wp2_with fail
     all_goals go_ret
     all_goals exact⟨by rw[zaj];rfl,HB.o.trans (HB1.o.mono (by omega))⟩
   . obtain⟨d,hd,hdi⟩:=o2 rfl;have hdw:=(hc.called hd).1.nd;go_enter func175,ntmps175;go_upto_region 5 with fail;refine zn (λW=>W.heap[w.heap.size]?=some (.cells #[xE xe c cpe,xP nb] 205 (0,0))/\xB w W) ⟨zc w _,zq w _⟩ ?_;rintro W ⟨hs,hB⟩;obtain⟨s0,s1,sf,sz⟩:=zp hs;obtain⟨m0,m1,m2,m3,m4,m5,mf,mz⟩:=zt ((hB.block b hbz).trans HBk.o);have HB:=za hB;have hzW:=hB.size;have HC1:=za (zah s (nm:Int) W.drew (PRE W.drew (zo hB)) (by show N<=W.heap.size;omega) hc.few hd);have HC2:=za (λo=>zah s (nm:Int) (W.alloc o).drew (PRE _ (zo (hB.alloc (by omega) o))) (by show N<=(W.alloc o).heap.size;simp;omega) hc.few hd);clear hs hB m0 m1 m4 m5 mf sf
     go_region_held3 (λw'=>w'.cell? (xD w.heap.size 0)=some (xE xe c cpe)/\w'.cell? (xD w.heap.size 1)=some (xP nb)/\w'.cell? (xD b 2)=some (.string s)/\w'.cell? (xD b 3)=some (xI nm))
      (first|(with_reducible (refine⟨?_,?_,?_,?_⟩ <;> repeat (first|assumption|refine zg ?_|refine zj _ ?_|refine zk (by omega) ?_|refine zd HB1.o ?_ (by first|omega|(rw[zsb];omega)))))|go_keep)
      (first
        | (go_at_call 100;refine HC1.o.mono ?_;rintro e w1 ⟨x2,cp2,n2,rfl,hsc,hB1⟩;have HB1:=za (zw hB1);have HS2:=za hsc;clear hB1 hsc)
        | (go_at_call 100;refine (HC2.o _).mono ?_;rintro e w1 ⟨x2,cp2,n2,rfl,hsc,hB1⟩;have HB1:=za (zw hB1);have HS2:=za hsc;obtain⟨y0,y1,yf,yz⟩:=zp ((HB1.o.block W.heap.size (by rw[zsb];omega)).trans (zc W _));clear hB1 hsc))
     all_goals go_upto_region 6 with fail
     refine zn (Got w N d w1.heap.size n2 x2 cp2) (zow HB.o HB1.o HS2.o hN) ?_;rotate_left;refine zn (Got w N d W.heap.size n2 x2 cp2) (zos HB.o HB1.o HS2.o hN) ?_
     all_goals
      rintro W2 hG;obtain⟨t0,t1,tf,tz⟩:=zp hG.box;obtain⟨n2',vs2,qv2,xs2,e9,hnt⟩:=hG.sc.nd;cases e9;obtain⟨v0,hv1,hv2⟩:=zhl hdw;have HE:Hid (zaj c (.mk 4 a s nm n ts)=zaK v0):=by
       unfold Hid;rw[zaj]
       show c.callTy s=_;unfold Sc.callTy;rw[hd]
       show ((d.nd.results[0]?).map tyV).getD 0=_;rw[hv2];rfl
      have HR:=za (zdM W2 hnt hdw.io (by have:=hdw.io;have:=hdw.outs;omega));obtain⟨xv,cpv,rfl⟩:=zB hnt.vown;obtain⟨gv,rfl,_,_,c2,_⟩:=zaM hnt.vown hv1;have hvz:=hnt.vlo gv rfl;have hBG:=za hG.bel;have hzz:=hG.bel.size;have hou:(0:Int)<(d.nd.outs:Int):=(by have:=hdw.outs;omega);have hou':0<d.nd.outs:=hdw.outs;have c2':xC W2 gv (d.nd.ins*7+2) (xI (zaK v0:Nat)):=c2;clear hG hnt hv1 hv2 c2 hd hdi hdw;go_wp2_with (go_at_call 76;refine HR.o.mono ?_;rintro e w3 ⟨g9,cp9,e9,rfl,hB3⟩;cases e9;have c3:=zd hB3 c2' (by omega);have HB3:=za hB3;clear hB3);go_ret;exact⟨by rw[HE.o];rfl,hBG.out.trans (HB3.o.mono hzz)⟩
   iterate 3
    . have hlen3:0<ts.length:=(by simp[arB] at o3;omega);obtain⟨u,hu⟩:∃u,ts[0]?=some u:=⟨_,zsc hlen3⟩;obtain⟨g,ub,rfl,hcu,hTu,hubN⟩:=TT.arg (t:=.mk _ a s nm n ts) HOw.o Hlen.o Hsub.o hu;have hgN:=Hgs.o g rfl;have hOu:=HO.o.sub (t:=.mk _ a s nm n ts) (u:=u) (List.mem_of_getElem? hu);have hty:=zdU (c:=c) hu;go_enter func175,ntmps175;go_upto_region 10 with fail;refine zn (λW=>(xH W w.heap.size #[xE xe c cpe,xP nb] 205)/\xB w W) ⟨zc w _,zq w _⟩ ?_;rintro W ⟨hs,hB⟩;obtain⟨s0,s1,sf,sz⟩:=zp hs;obtain⟨m0,m1,m2,m3,m4,m5,mf,mz⟩:=zt ((hB.block b hbz).trans HBk.o);have HB:=za hB;have hzW:=hB.size;have hcu':=zd hB hcu (by omega);have HD:=za (Hih.o u (List.mem_of_getElem? hu) (xP ub) W.drew (hTu.old (zm (zo hB) hN)) (PRE W.drew (zo hB)) (by show N<=W.heap.size;omega) hOu);have l0:(0:Int)<(ts.length:Int):=(by omega);clear hs hB m0 m1 m2 m3 m4 mf sf hTu hu
      go_region_held3 (λw'=>w'.cell? (xD w.heap.size 0)=some (xE xe c cpe)/\w'.cell? (xD w.heap.size 1)=some (xP nb)/\w'.cell? (xD b 5)=some (xS g ts.length cpa)/\w'.cell? (xD g 0)=some (xP ub))
       (first|(with_reducible (refine⟨?_,?_,?_,?_⟩ <;> repeat (first|assumption|refine zg ?_|refine zj _ ?_|refine zk (by omega) ?_|refine zd HB1.o ?_ (by first|omega|(rw[zsb];omega)))))|go_keep)
       (first
         | (go_at_call 175;refine HD.o.mono ?_;rintro e w1 ⟨rfl,hB1⟩;have HB1:=za (zw hB1);clear hB1))
      all_goals go_wp2_with fail
      all_goals go_ret
      all_goals exact⟨by rw[zaj];show Ending.returned (xI (zaj c u:Nat))=Ending.returned (xI (zbh c ts 0:Nat));rw[hty],HB.o.trans (HB1.o.mono (by omega))⟩
   iterate 2
    . have hlen3:1<ts.length:=(by simp[arB] at o3;omega);obtain⟨u,hu⟩:∃u,ts[1]?=some u:=⟨_,zsc hlen3⟩;obtain⟨g,ub,rfl,hcu,hTu,hubN⟩:=TT.arg (t:=.mk _ a s nm n ts) HOw.o Hlen.o Hsub.o hu;have hgN:=Hgs.o g rfl;have hOu:=HO.o.sub (t:=.mk _ a s nm n ts) (u:=u) (List.mem_of_getElem? hu);have hty:=zdU (c:=c) hu;go_enter func175,ntmps175;go_upto_region 13 with fail;refine zn (λW=>(xH W w.heap.size #[xE xe c cpe,xP nb] 205)/\xB w W) ⟨zc w _,zq w _⟩ ?_;rintro W ⟨hs,hB⟩;obtain⟨s0,s1,sf,sz⟩:=zp hs;obtain⟨m0,m1,m2,m3,m4,m5,mf,mz⟩:=zt ((hB.block b hbz).trans HBk.o);have HB:=za hB;have hzW:=hB.size;have hcu':=zd hB hcu (by omega);have HD:=za (Hih.o u (List.mem_of_getElem? hu) (xP ub) W.drew (hTu.old (zm (zo hB) hN)) (PRE W.drew (zo hB)) (by show N<=W.heap.size;omega) hOu);have l0:(1:Int)<(ts.length:Int):=(by omega);clear hs hB m0 m1 m2 m3 m4 mf sf hTu hu
      go_region_held3 (λw'=>w'.cell? (xD w.heap.size 0)=some (xE xe c cpe)/\w'.cell? (xD w.heap.size 1)=some (xP nb)/\w'.cell? (xD b 5)=some (xS g ts.length cpa)/\w'.cell? (xD g 1)=some (xP ub))
       (first|(with_reducible (refine⟨?_,?_,?_,?_⟩ <;> repeat (first|assumption|refine zg ?_|refine zj _ ?_|refine zk (by omega) ?_|refine zd HB1.o ?_ (by first|omega|(rw[zsb];omega)))))|go_keep)
       (first
         | (go_at_call 175;refine HD.o.mono ?_;rintro e w1 ⟨rfl,hB1⟩;have HB1:=za (zw hB1);clear hB1))
      all_goals go_wp2_with fail
      all_goals go_ret
      all_goals exact⟨by rw[zaj];show Ending.returned (xI (zaj c u:Nat))=Ending.returned (xI (zbh c ts 1:Nat));rw[hty],HB.o.trans (HB1.o.mono (by omega))⟩
   all_goals
    go_enter func175,ntmps175;go_wp2_with fail;go_ret;exact⟨by rw[zaj];rfl,zq _ _⟩
end
section
variable {L:List Ex} {x:Nat} {t:Tm}
theorem zFW (hA:ArL L)(h:zeA L x t):Wf t:=by
 induction h with
 | mk x ex ts hx hl hr ih =>
   refine .mk _ _ _ _ _ _ ?_ (λt ht=>?_)
   . have:=hA ex (List.mem_of_getElem? hx);unfold arE at this;rw[hl];exact this
   . obtain⟨i,hi⟩:=List.getElem?_of_mem ht;have hlt:=(List.getElem?_eq_some_iff.1 hi).1;obtain⟨y,hy⟩:∃y,ex.ins[i]?=some y:=⟨_,zsc (by omega)⟩;exact ih i y t hy hi
theorem zCH (h:zeA L x t):∃ex:Ex,L[x]?=some ex/\t.k=zag ex.op.toList ex.n:=by
 cases h with
 | mk x ex ts hx hl hr=>exact⟨ex,hx,rfl⟩
theorem zEx (hA:ArL L):∀{l:List Eqn} {qs:List Qn},zge L l qs->(∀q∈l,zzX L q)->∀q∈qs,q.ns.length=q.ps.length/\1<=q.ns.length/\Wf q.r/\(2<=q.ns.length->q.r.k=4)
 | [],qs,h,_,q,hq=>by cases h;cases hq
 | e::l,qs,h,he,q,hq=>by
   obtain⟨q',l',rfl,h1,h2⟩:=h;rcases List.mem_cons.1 hq with rfl|hq
   . obtain⟨k1,k2,k3⟩:=he e (List.mem_cons_self ..);rw[h1.ns,h1.ps];refine⟨k1,k2,zFW hA h1.r,λh3=>?_⟩;obtain⟨ex,e1,e2⟩:=k3 h3;obtain⟨ex',f1,f2⟩:=zCH h1.r;rw[f2];have:ex'=ex:=Option.some.inj (f1.symm.trans e1);rw[this];exact e2
   . exact zEx hA h2 (λq hq=>he q (List.mem_cons_of_mem _ hq)) q hq
theorem zGA {d:Nd}{n:Nod}(h:zo6 d n)(hd:zAr d):zeJ n:=by
 obtain⟨v1,v2,v3,v4⟩:=hd.vars;refine⟨?_,?_,?_,?_,λq hq=>zEx hd.ar h.eqs hd.eqs q hq⟩
 . rw[h.ins];exact v1
 . rw[h.outs];exact v2
 . rw[h.ins,h.outs,h.vars];exact v3
 . rw[h.vars];exact v4
theorem zC6:∀{l:List Nd} {ns:List Nod},ze5 l ns->(∀d∈l,zAr d)->∀n∈ns,zeJ n
 | [],ns,h,_,n,hn=>by cases h;cases hn
 | d::l,ns,h,hd,n,hn=>by
   obtain⟨n',l',rfl,h1,h2⟩:=h;rcases List.mem_cons.1 hn with rfl|hn
   . exact zGA h1 (hd d (List.mem_cons_self ..))
   . exact zC6 h2 (λd hd'=>hd d (List.mem_cons_of_mem _ hd')) n hn
theorem zGg {r17 r18:Fn}(a17:ArK r17)(a18:ArK r18)(x17:Ext r17)(x18:Ext r18)(g17:zv 17 r17)(g18:zv 18 r18){g:Nat}{src:ByteArray}(hs:src.size<=1200)(he:(zgo r17 r18 g src).1.er=0){ns:List Nod}(hn:ze5 (zgo r17 r18 g src).2 ns):∀n∈ns,zeJ n :=
 zC6 hn (zCh a17 a18 x17 x18 g17 g18 g src (zmc hs) he)
theorem zEG {d:Nat}{r:Fn}(e:r=(lev d).ex):ArK r/\Ext r:=by obtain⟨h1,_⟩:=zDb d;obtain⟨h2,_⟩:=zDg d;rw[e];exact⟨h1,h2.ext⟩
end
section
variable {M atm part rx:Fn} {L L':List Ex} {ins:List Nat} {ts:List Tm} {d lv x:Nat} {st:St} {t:Tm}
def vz (t:Tm):Nat:=(zaV za5 t).length
def vzL (ts:List Tm):Nat:=(zdk za5 ts).length
theorem zBn (k a:Nat)(s:ByteArray)(nm n:Nat)(ts:List Tm):vz (.mk k a s nm n ts)=1+vzL ts:=by unfold vz vzL;rw[zaV,if_pos (show za5 (.mk k a s nm n ts)=true from rfl),List.length_cons];omega
theorem zys (t:Tm)(ts:List Tm):vzL (t::ts)=vz t+vzL ts:=by unfold vz vzL;rw[zdk,List.length_append]
theorem zyZ:vzL []=0:=rfl
theorem zFl (ts:List Tm)(t:Tm):vzL (ts++[t])=vzL ts+vz t:=by
 induction ts with
 | nil=>rw[List.nil_append,zys,zyZ];omega
 | cons u ts ih=>rw[List.cons_append,zys,zys,ih];omega
theorem zAz (hp:L <+: L')(h:zeA L x t):zeA L' x t:=by
 induction h with
 | mk x ex ts hx hl hr ih => obtain⟨E,rfl⟩:=hp;exact .mk x ex ts (by rw[List.getElem?_append_left (List.getElem?_eq_some_iff.1 hx).1];exact hx) hl (λi y t h1 h2=>ih i y t h1 h2)
def Trs (L:List Ex)(ins:List Nat)(ts:List Tm):Prop:=ts.length=ins.length/\∀(i y:Nat) (t:Tm),ins[i]?=some y->ts[i]?=some t->zeA L y t
theorem Trs.nil (L:List Ex):Trs L [] []:=⟨rfl,λi y t h=>by simp at h⟩
theorem Trs.more (hp:L <+: L')(h:Trs L ins ts):Trs L' ins ts:=⟨h.1,λi y t h1 h2=>zAz hp (h.2 i y t h1 h2)⟩
theorem Trs.snoc (h:Trs L ins ts)(hx:zeA L x t):Trs L (ins++[x]) (ts++[t]):=by
 refine⟨by rw[List.length_append,List.length_append,h.1];rfl,λi y u h1 h2=>?_⟩;by_cases hi:i<ins.length
 . rw[List.getElem?_append_left hi] at h1;rw[List.getElem?_append_left (by rw[h.1];exact hi)] at h2;exact h.2 i y u h1 h2
 . rw[List.getElem?_append_right (by omega)] at h1;rw[List.getElem?_append_right (by rw[h.1];omega),h.1] at h2;have:i-ins.length=0:=by have:=(List.getElem?_eq_some_iff.1 h1).1;simp at this;exact this
   rw[this] at h1 h2;simp at h1 h2;subst h1;subst h2;exact hx
theorem Trs.one (h:zeA L x t):Trs L [x] [t]:=(Trs.nil L).snoc h
def Cd' (d:Nat)(st:St):Prop:=st.er=0->18<=st.op+d/\st.op<=16
structure Out (st:St) (r:St×Nat):Prop where
 er0:st.er=0
 op:r.1.op=st.op
 pre:st.L <+: r.1.L
 tr:∃t,zeA r.1.L r.2 t/\vz t+st.L.length<=r.1.L.length
def SzD (d:Nat)(M:Fn):Prop:=∀st,Cd' d st->(M st).1.er=0->Out st (M st)
theorem zy6 {s1:St}{e:Ex}(he:st.er=0)(ho:s1.op=st.op)(hp:st.L <+: s1.L)(ht:Trs s1.L e.ins ts)(hv:vzL ts+st.L.length<=s1.L.length):Out st (s1.put e):=by
 have hL:(s1.put e).1.L=s1.L++[e]:=rfl;refine⟨he,ho,by rw[hL];exact hp.trans (List.prefix_append _ _),.mk (zag e.op.toList e.n) e.a e.s e.nm (zbF e.op.toList e.n) ts,?_,?_⟩
 . rw[hL];refine .mk s1.L.length e ts ?_ ht.1 (λi y t h1 h2=>zAz (List.prefix_append _ _) (ht.2 i y t h1 h2));rw[List.getElem?_append_right (Nat.le_refl _),Nat.sub_self];rfl
 . rw[hL,zBn,List.length_append,List.length_singleton];omega
theorem Cd'.next (hM:SzD d M)(h:Cd' d st):Cd' d (M st).1:=λhe=>by have o:=hM st h he;rw[o.op];exact h o.er0
theorem Cd'.stay {a b:St}(h:Cd' d a)(hs:zbu a b)(ho:b.op=a.op):Cd' d b:=λhe=>by rw[ho];exact h (hs.back he)
theorem Cd'.step (h:Cd' d st):Cd' d st.step:=h.stay (zbu.step st) st.step_op
theorem Cd'.must (h:Cd' d st)(k:Nat)(l:List UInt8):Cd' d (st.must k l):=h.stay (zbu.must st k l) (st.must_op k l)
theorem Cd'.name (h:Cd' d st):Cd' d st.name:=h.stay (zbu.name st) st.name_op
theorem zzd (h:st.enter.er=0):st.er=0/\st.op+1<=16:=by
 unfold St.enter at h;split at h
 . exact absurd h (St.fail_er _ (by decide))
 . rw[St.step_er] at h;exact⟨h,by omega⟩
theorem Cd'.enter (h:Cd' (d+1) st):Cd' d st.enter:=λhe=>by obtain⟨h1,h2⟩:=zzd he;rw[St.enter_op];have:=h h1;omega
theorem zCc (hp:SzD d part)(st:St):∀(f:Nat) (x:St×Nat),Cd' d x.1->(x.1.er=0->Out st x)->(zdq lv part f x).1.er=0->Out st (zdq lv part f x)
 | 0,_,_,h,he=>h he
 | f+1,x,hc,h,he=>by
   unfold zdq at he ⊢;split
   . rename_i hl
     rw[if_pos hl] at he;have o:=h hl.1;refine zCc hp st f _ ?_ (λe1=>?_) he
     . exact Cd'.next hp hc.step
     . have o2:=hp _ hc.step e1;obtain⟨t1,q1,v1⟩:=o.tr;obtain⟨t2,q2,v2⟩:=o2.tr;have pL:x.1.L <+: (part x.1.step).1.L:=(by have:=o2.pre;rw[St.step_L] at this;exact this);rw[St.step_L] at v2;refine zy6 (ts:=[t1,t2]) o.er0 (by rw[o2.op,St.step_op,o.op]) (o.pre.trans pL) (((Trs.one q1).more pL).snoc q2) ?_;rw[zys,zys,zyZ];omega
   . rename_i hl
     rw[if_neg hl] at he;exact h he
theorem zAK (hp:SzD d part):SzD d (zcT lv part):=λst hc he=>zCc hp st 1300 _ (Cd'.next hp hc) (λe=>hp st hc e) he
theorem zFh {sum:Fn}(hs:SzD d sum):SzD d (zdJ sum):=by
 intro st hc he;unfold zdJ at he ⊢;simp only at he ⊢;split
 . rename_i hl
   rw[if_pos hl] at he;have o:=hs st hc hl.1;have o2:=hs _ (Cd'.next hs hc).step he;obtain⟨t1,q1,v1⟩:=o.tr;obtain⟨t2,q2,v2⟩:=o2.tr;have pL:(sum st).1.L <+: (sum (sum st).1.step).1.L:=(by have:=o2.pre;rw[St.step_L] at this;exact this);rw[St.step_L] at v2;refine zy6 (ts:=[t1,t2]) o.er0 (by rw[o2.op,St.step_op,o.op]) (o.pre.trans pL) (((Trs.one q1).more pL).snoc q2) ?_;rw[zys,zys,zyZ];omega
 . rename_i hl
   rw[if_neg hl] at he;exact hs st hc he
theorem Out.inner {r:St×Nat}(h:Out st.enter r):st.er=0/\r.1.leave.op=st.op/\st.L <+: r.1.leave.L/\∃t,zeA r.1.leave.L r.2 t/\vz t+st.L.length<=r.1.leave.L.length:=by have h1:=(zzd h.er0).1;have hp:=h.pre;obtain⟨t,q,v⟩:=h.tr;rw[St.enter_L] at hp v;exact⟨h1,by rw[St.leave_op,h.op,St.enter_op];omega,by rw[St.leave_L];exact hp,t,by rw[St.leave_L];exact q,by rw[St.leave_L];exact v⟩
theorem zEo {ru smp:Fn}(hr:SzD d ru)(hs:SzD (d+1) smp):SzD (d+1) (zdn ru smp):=by
 intro st hc he;unfold zdn at he ⊢;split
 . rename_i hl
   rw[if_pos hl] at he;obtain⟨h1,h2,h3,t,q,v⟩:=(hr _ hc.enter he).inner;exact zy6 (ts:=[t]) h1 h2 h3 (Trs.one q) (by rw[zys,zyZ];omega)
 . rename_i hl
   rw[if_neg hl] at he;exact hs st hc he
theorem zAn (st:St):∀(f:Nat) (x:St×Nat),Cd' d x.1->(x.1.er=0->Out st x)->(zaY f x).1.er=0->Out st (zaY f x)
 | 0,_,_,h,he=>h he
 | f+1,x,hc,h,he=>by
   unfold zaY at he ⊢;split
   . rename_i hl
     rw[if_pos hl] at he;have o:=h hl.1;refine zAn st f _ (hc.step.name) (λ_=>?_) he;obtain⟨t1,q1,v1⟩:=o.tr;have eL:x.1.step.name.L=x.1.L:=(by rw[St.name_L,St.step_L]);refine zy6 (ts:=[t1]) o.er0 (by rw[St.name_op,St.step_op,o.op]) (by rw[eL];exact o.pre) (by rw[eL];exact Trs.one q1) ?_;rw[eL,zys,zyZ];omega
   . rename_i hl
     rw[if_neg hl] at he;exact h he
theorem zCQ (ha:SzD d atm):SzD d (zfu atm):=λst hc he=>zAn st 1300 _ (Cd'.next ha hc) (λe=>ha st hc e) he
theorem zAs (op:ByteArray)(n:Nat):SzD d (zdP op n):=by intro st hc he;have h1:st.er=0:=(zbu.step st).back he;have eL:st.step.L=st.L:=st.step_L;exact zy6 (ts:=[]) h1 st.step_op (by rw[eL];exact List.prefix_refl _) (Trs.nil _) (by rw[eL,zyZ];omega)
theorem zDl:SzD d zjx:=by intro st hc he;have h1:st.er=0:=(zbu.step st).back he;have eL:st.step.L=st.L:=st.step_L;exact zy6 (ts:=[]) h1 st.step_op (by rw[eL];exact List.prefix_refl _) (Trs.nil _) (by rw[eL,zyZ];omega)
theorem zFC (ha:SzD d atm):SzD d (zch atm):=by
 intro st hc he;unfold zch at he ⊢;split
 . rename_i hl
   rw[if_pos hl] at he;exact ha st hc he
 . rename_i hl
   rw[if_neg hl] at he;exact zDl (d:=d) st hc he
structure zE8 (st:St) (x:St×List Nat):Prop where
 er0:st.er=0
 op:x.1.op=st.op
 pre:st.L <+: x.1.L
 tr:∃ts,Trs x.1.L x.2 ts/\vzL ts+st.L.length<=x.1.L.length
theorem zBZ (hr:SzD d rx)(st:St):∀(f:Nat) (x:St×List Nat),Cd' d x.1->(x.1.er=0->zE8 st x)->(zc1 rx f x).1.er=0->zE8 st (zc1 rx f x)
 | 0,_,_,h,he=>h he
 | f+1,x,hc,h,he=>by
   unfold zc1 at he ⊢;split
   . rename_i hl
     rw[if_pos hl] at he;have o:=h hl.1;refine zBZ hr st f _ (Cd'.next hr hc.step) (λe1=>?_) he;have o2:=hr _ hc.step e1;obtain⟨ts,q1,v1⟩:=o.tr;obtain⟨t2,q2,v2⟩:=o2.tr;have pL:x.1.L <+: (rx x.1.step).1.L:=(by have:=o2.pre;rw[St.step_L] at this;exact this);rw[St.step_L] at v2;exact⟨o.er0,by show (rx x.1.step).1.op=_;rw[o2.op,St.step_op,o.op],o.pre.trans pL,ts++[t2],(q1.more pL).snoc q2,by show _<=(rx x.1.step).1.L.length;rw[zFl];omega⟩
   . rename_i hl
     rw[if_neg hl] at he;exact h he
theorem zFd (hr:SzD d rx)(hc:Cd' d st)(he:(zbG rx st).1.er=0):zE8 st (zbG rx st):=by refine zBZ hr st 1300 _ (Cd'.next hr hc) (λe=>?_) he;have o:=hr st hc e;obtain⟨t,q,v⟩:=o.tr;exact⟨o.er0,o.op,o.pre,[t],Trs.one q,by rw[zys,zyZ];exact v⟩
theorem zCf (hr:SzD d rx)(t:Tk):SzD (d+1) (zao rx t):=by
 intro st hc he;unfold zao at he ⊢;split
 . rename_i hl
   rw[if_pos hl] at he;simp only at he ⊢;have h1:(zbG rx st.enter).1.er=0:=(zbu.must _ 4 [41]).back he;have o:=zFd hr hc.enter h1;obtain⟨ts,q,v⟩:=o.tr;have hp:=o.pre;have eL:(((zbG rx st.enter).1.must 4 [41]).leave).L=(zbG rx st.enter).1.L:=(by rw[St.leave_L,St.must_L]);rw[St.enter_L] at hp v;exact zy6 (ts:=ts) (zzd o.er0).1 (by rw[St.leave_op,St.must_op,o.op,St.enter_op];omega) (by rw[eL];exact hp) (by rw[eL];exact q) (by rw[eL];exact v)
 . rename_i hl
   rw[if_neg hl] at he;exact absurd he (zzP _ _)
theorem zDu (hr:SzD d rx):SzD (d+1) (zdx rx):=by
 intro st hc he;have he':(rx ((rx ((rx st.enter).1.must 5 [116,104,101,110])).1.must 5 [101,108,115,101])).1.er=0:=he;have c1:=Cd'.next hr hc.enter;have c2:=c1.must 5 [116,104,101,110];have c3:=(Cd'.next hr c2).must 5 [101,108,115,101];have o3:=hr _ c3 he';have o2:=hr _ c2 ((zbu.must _ 5 [101,108,115,101]).back o3.er0);have o1:=hr _ hc.enter ((zbu.must _ 5 [116,104,101,110]).back o2.er0);obtain⟨t1,q1,v1⟩:=o1.tr;obtain⟨t2,q2,v2⟩:=o2.tr;obtain⟨t3,q3,v3⟩:=o3.tr;have p1:=o1.pre;have p2:=o2.pre;have p3:=o3.pre;rw[St.enter_L] at p1 v1;rw[St.must_L] at p2 v2 p3 v3;unfold zdx;simp only;refine zy6 (ts:=[t1,t2,t3]) (zzd o1.er0).1 ?_ ?_ ?_ ?_
 . rw[St.leave_op,o3.op,St.must_op,o2.op,St.must_op,o1.op,St.enter_op];omega
 . rw[St.leave_L];exact (p1.trans p2).trans p3
 . rw[St.leave_L];exact ((((Trs.one q1).more p2).snoc q2).more p3).snoc q3
 . rw[St.leave_L,zys,zys,zys,zyZ];omega
theorem zEL (ha:SzD d atm):SzD (d+1) (zeE atm):=by
 intro st hc he;have he':(zch atm (zch atm st.enter.name).1).1.er=0:=he;have hs:=zFC ha;have c1:=hc.enter.name;have o2:=hs _ (Cd'.next hs c1) he';have o1:=hs _ c1 o2.er0;obtain⟨t1,q1,v1⟩:=o1.tr;obtain⟨t2,q2,v2⟩:=o2.tr;have p1:=o1.pre;rw[St.name_L,St.enter_L] at p1 v1;unfold zeE;simp only;refine zy6 (ts:=[t1,t2]) (zzd ((zbu.name _).back o1.er0)).1 ?_ ?_ ?_ ?_
 . rw[St.leave_op,o2.op,o1.op,St.name_op,St.enter_op];omega
 . rw[St.leave_L];exact p1.trans o2.pre
 . rw[St.leave_L];exact ((Trs.one q1).more o2.pre).snoc q2
 . rw[St.leave_L,zys,zys,zyZ];omega
theorem zEB (hr:SzD d rx):SzD (d+1) (zfQ rx):=by
 intro st hc he;have h1:(rx st.enter).1.er=0:=(zbu.must _ 4 [41]).back he;have o:=hr _ hc.enter h1;obtain⟨t,q,v⟩:=o.tr;have hp:=o.pre;have eL:(((rx st.enter).1.must 4 [41]).leave).L=(rx st.enter).1.L:=by rw[St.leave_L,St.must_L]
 rw[St.enter_L] at hp v;exact⟨(zzd o.er0).1,by show (((rx st.enter).1.must 4 [41]).leave).op=_;rw[St.leave_op,St.must_op,o.op,St.enter_op];omega,by show _ <+: (((rx st.enter).1.must 4 [41]).leave).L;rw[eL];exact hp,t,by show zeA (((rx st.enter).1.must 4 [41]).leave).L _ t;rw[eL];exact q,by show _<=(((rx st.enter).1.must 4 [41]).leave).L.length;rw[eL];exact v⟩
theorem zD5 (h:SzD d M)(hc:Cd' d st)(he:(M st.step).1.er=0):Out st (M st.step):=by have o:=h _ hc.step he;have hp:=o.pre;obtain⟨t,q,v⟩:=o.tr;rw[St.step_L] at hp v;exact⟨(zbu.step st).back o.er0,by rw[o.op,St.step_op],hp,t,q,v⟩
theorem zFa {ra:Fn}(hr:SzD d rx)(ha:SzD d ra):SzD (d+1) (zap rx ra):=by
 intro st hc he;unfold zap at he ⊢;by_cases h0:st.er≠0
 . rw[if_pos h0] at he;exact absurd he h0
 . rw[if_neg h0] at he ⊢;by_cases h1:st.t.k=3
   . rw[if_pos h1] at he ⊢;exact zAs zcq _ st hc he
   . rw[if_neg h1] at he ⊢;by_cases h2:st.t.k=2
     . rw[if_pos h2] at he ⊢;by_cases h3:st.step.is 4 [40]=true
       . rw[if_pos h3] at he ⊢;exact zD5 (zCf hr st.t) hc he
       . rw[if_neg h3] at he ⊢;exact zDl st hc he
     . rw[if_neg h2] at he ⊢;by_cases h4:st.is 4 [40]=true
       . rw[if_pos h4] at he ⊢;exact zEB hr st hc he
       . rw[if_neg h4] at he ⊢;by_cases h5:st.is 5 [116,114,117,101]=true
         . rw[if_pos h5] at he ⊢;exact zAs zcb 1 st hc he
         . rw[if_neg h5] at he ⊢;by_cases h6:st.is 5 [102,97,108,115,101]=true
           . rw[if_pos h6] at he ⊢;exact zAs zcb 0 st hc he
           . rw[if_neg h6] at he ⊢;by_cases h7:st.is 5 [105,102]=true
             . rw[if_pos h7] at he ⊢;exact zDu hr st hc he
             . rw[if_neg h7] at he ⊢;by_cases h8:st.is 5 [109,101,114,103,101]=true
               . rw[if_pos h8] at he ⊢;exact zEL ha st hc he
               . rw[if_neg h8] at he;exact absurd he (zzP _ _)
theorem zFr {eith:Fn}(hr:SzD d rx)(hE:SzD (d+1) eith):SzD (d+1) (zgk rx eith):=by
 intro st hc he;unfold zgk at he ⊢;simp only at he ⊢;split
 . rename_i hl
   rw[if_pos hl] at he;have o:=hE st hc hl.1;obtain⟨t1,q1,v1⟩:=o.tr;obtain⟨_,h2,h3,t2,q2,v2⟩:=(hr _ (Cd'.next hE hc).enter he).inner;refine zy6 (ts:=[t1,t2]) o.er0 (by rw[h2,o.op]) (o.pre.trans h3) (((Trs.one q1).more h3).snoc q2) ?_;rw[zys,zys,zyZ];omega
 . rename_i hl
   rw[if_neg hl] at he;exact hE st hc he
theorem zBD:∀d:Nat,SzD d (lev d).ex/\SzD d (lev d).un/\SzD d (lev d).at'
 | 0=>by
   have h:∀st:St,Cd' 0 st->st.er=0->Out st (st,0):=λst hc he=>by have:=hc he;omega
   exact⟨λst hc he=>h st hc he,λst hc he=>h st hc he,λst hc he=>h st hc he⟩
 | d+1=>by obtain⟨h1,h2,h3⟩:=zBD d;have ha:SzD (d+1) (zap (lev d).ex (lev d).at'):=zFa h1 h3;have hu:SzD (d+1) (zdn (lev d).un (zfu (zap (lev d).ex (lev d).at'))):=zEo h2 (zCQ ha);exact⟨zFr h1 (zAK (zAK (zFh (zAK (zAK hu))))),hu,ha⟩
end
end Go.Proofs.YtmfkofhgdjechaaGreatDoor
