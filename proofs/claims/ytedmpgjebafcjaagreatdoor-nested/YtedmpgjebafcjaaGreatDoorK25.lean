/- Part 26 of the proof: FacC ChkC ChkD. -/
import Derived.Test.YtedmpgjebafcjaaGreatDoorK21
set_option maxRecDepth 100000
set_option maxHeartbeats 8000000
namespace Go.Proofs.YtedmpgjebafcjaaGreatDoor
section
open Go.RowKit
attribute [local go_sem ↓] Go.wp_at_zero Go.wp_at_succ
theorem NL.ne {w:World} {N:Nat} {ns:List Nod} {gv:Value} {xs:List Value} (h:NL w N ns gv xs):NE w N ns gv:=by
 have hc:=h.own
 rcases h.own.2 with ⟨h1,h2⟩|⟨g,cap,cur,hv,_,_,h3,h4,_⟩
 · exact ⟨none,0,by rw [h1,h2],by omega,by omega,λhne=>absurd (List.length_eq_zero_iff.1 h2) hne⟩
 · subst hv
   refine ⟨some ⟨g,0,none⟩,cap,rfl,h3,by unfold maxLen at h4;omega,λ_=>⟨g,rfl,h.lo g rfl,λi n hi=>?_⟩⟩
   obtain ⟨u,hu,hnp⟩:=h.at' i n hi
   have:=hc.cells (g:=g) rfl i u hu
   have e0:(⟨g,0,none⟩:Addr).add i=⟨g,i,none⟩:=by cases i <;> simp [Addr.add]
   rw [e0] at this
   exact ⟨u,this,hnp⟩
theorem zh3 {N:Nat} {ns:List Nod} {pv:Value} (k:Nat) (n:Nod) (w:World) (h:PT w N ns pv) (hN:N<=w.heap.size) (hk:ns[k]?=some n) :
 Calls Tryz.prog 35 #[pv,.int .i64 k] w (λe w'=>∃x cp nb,e=.returned (.agg #[.slice x k cp,.pointer (some ⟨nb,0,none⟩)])/\ScV w' N ⟨ns.take k,n⟩ (.slice x k cp) (.pointer (some ⟨nb,0,none⟩))/\Below w.heap.size w w'):=by
 obtain ⟨gb,gv,xs,rfl,hgb,hg,hl⟩:=h
 have hlt:=(List.getElem?_eq_some_iff.1 hk).1
 have hE:=hl.ne
 have h6:=hl.few
 obtain ⟨x,cp,rfl,hcp,hmx,hin⟩:=hl.ne
 obtain ⟨g,rfl,hgN,hat⟩:=hin (by intro e;rw [e] at hlt;simp at hlt)
 obtain ⟨u,hu,hnp⟩:=hat k n hk
 have HNP:=za hnp
 have HE:=za (hE.take hlt)
 obtain ⟨nb,vs,qv,xs',rfl,hnt⟩:=hnp
 obtain ⟨p0,pf,pz⟩:=zu hg
 have i1:(k:Int)<=(cp:Int):=by omega
 have i0:(0:Int)<=(k:Int):=by omega
 have i2:(k:Int)<(ns.length:Int):=by omega
 have hgw:g<w.heap.size:=by omega
 clear hE hin hat hnt hl hg hk
 go_enter Tryz.func35,Tryz.ntmps35
 go_wp2_with fail
 refine zn (λW=>W=w.alloc (.cells #[.slice none 0 0,.pointer none] 88 (0,0))/\True) ⟨rfl,trivial⟩ ?_
 rintro W ⟨hW,_⟩
 have HW:=za (hW▸zq w (.cells #[.slice none 0 0,.pointer none] 88 (0,0)):Below w.heap.size w W)
 obtain ⟨r0,r1,rf,rz⟩:=zp (hW▸zc w (.cells #[.slice none 0 0,.pointer none] 88 (0,0)):W.heap[w.heap.size]?=_)
 have s0:=zd HW.out p0 pz
 have s1:=zd HW.out hu hgw
 have hn1:¬w.heap.size=gb:=by omega
 have hn2:¬w.heap.size=g:=by omega
 have hn3:¬gb=w.heap.size:=by omega
 have hn4:¬g=w.heap.size:=by omega
 clear hW p0 hu
 go_region_held3 (λw'=>w'.cell? ⟨gb,0,none⟩=some (.slice (some ⟨g,0,none⟩) ns.length cp)/\w'.cell? ⟨g,k,none⟩=some (.pointer (some ⟨nb,0,none⟩))) (go_keep) (fail)
 go_wp2_with fail
 have hBn:=zo (zC (i:=1) (zC (b:=w.heap.size) (i:=0) HW.out (Nat.le_refl _) (.slice (some ⟨g,0,none⟩) k cp)) (b:=w.heap.size) (Nat.le_refl _) (.pointer (some ⟨nb,0,none⟩)))
 refine bodyPost_ret (v:=.agg #[.slice (some ⟨g,0,none⟩) k cp,.pointer (some ⟨nb,0,none⟩)]) (by simp [results,Tryz.results35,go_sem,r0,r1]) rfl ⟨_,_,_,rfl,?_,hBn⟩
 exact ⟨HE.out.old (zm hBn hN),HNP.out.old (zm hBn hN)⟩
end
section
open Go.RowKit
attribute [local go_sem ↓] Go.wp_at_zero Go.wp_at_succ
structure Got (w:World) (N:Nat) (d:Sc) (X n2:Nat) (x2:Option Addr) (cp2:Nat) (W:World):Prop where
 box:W.heap[X]?=some (.cells #[.slice x2 d.er.length cp2,.pointer (some ⟨n2,0,none⟩)] 88 (0,0))
 sc:ScV W N d (.slice x2 d.er.length cp2) (.pointer (some ⟨n2,0,none⟩))
 bel:Below w.heap.size w W
theorem zow {w W w1:World} {N:Nat} {d:Sc} {n2:Nat} {x2:Option Addr} {cp2:Nat} (hB:Below w.heap.size w W) (hB1:Below W.heap.size W w1) (hs:ScV w1 N d (.slice x2 d.er.length cp2) (.pointer (some ⟨n2,0,none⟩))) (hN:N<=w.heap.size) :
 Got w N d w1.heap.size n2 x2 cp2 (w1.alloc (.cells #[.slice x2 d.er.length cp2,.pointer (some ⟨n2,0,none⟩)] 88)):=by
 have h1:=hB.size
 have h2:=hB1.size
 exact ⟨zc _ _,hs.old (zeW (by omega) _),(hB.trans (hB1.mono h1)).alloc (by omega) _⟩
theorem zos {w W w1:World} {N:Nat} {d:Sc} {n2:Nat} {x2:Option Addr} {cp2:Nat} {u0 u1:Value} (hB:Below w.heap.size w W) (hB1:Below (W.alloc (.cells #[u0,u1] 88)).heap.size (W.alloc (.cells #[u0,u1] 88)) w1) (hs:ScV w1 N d (.slice x2 d.er.length cp2) (.pointer (some ⟨n2,0,none⟩))) (hN:N<=w.heap.size) :
 Got w N d W.heap.size n2 x2 cp2 ((w1.setCell ⟨W.heap.size,0,none⟩ (.slice x2 d.er.length cp2)).setCell ⟨W.heap.size,1,none⟩ (.pointer (some ⟨n2,0,none⟩))):=by
 have h1:=hB.size
 have hb:w1.heap[W.heap.size]?=some (.cells #[u0,u1] 88 (0,0)):=(hB1.block _ (by rw [zsb];omega)).trans (zc W _)
 have h2:=zh (w1.setCell ⟨W.heap.size,0,none⟩ (.slice x2 d.er.length cp2)) W.heap.size 1 (.pointer (some ⟨n2,0,none⟩)) (zh w1 W.heap.size 0 (.slice x2 d.er.length cp2) hb)
 refine ⟨h2,hs.old (λk hk=>?_),zC (zC (hB.trans ((zE hB1).mono h1)) h1 _) h1 _⟩
 exact (zr (by omega) rfl).trans (zr (by omega) rfl)
theorem zbD {N:Nat} {c:Sc} {ev nv:Value} (s:ByteArray) (a:Int) (w:World) (h:ScV w N c ev nv) (hN:N<=w.heap.size) (hh:c.has s=true) :
 Calls Tryz.prog 104 #[.agg #[ev,nv],.agg #[.string s,.int .i64 a]] w (λe w'=>e=.returned (.int .i64 (c.decl s:Nat))/\Below w.heap.size w w'):=by
 have HSc:=za h
 obtain ⟨xe,cpe,nb,rfl,rfl,hnb⟩:=h.shape
 obtain ⟨nb',vs,qv,xs,e9,hnt⟩:=h.nd
 cases e9
 obtain ⟨i,hi⟩:∃i,c.nd.find s=some i:=Option.isSome_iff_exists.1 hh
 have hlt:=(zgO hi).2.1
 obtain ⟨v,hv⟩:∃v,c.nd.vars[i]?=some v:=⟨_,zsc (by omega)⟩
 have hidx:c.idx s=i:=by unfold Sc.idx;rw [hi];rfl
 have HE:Hid (c.decl s=tyV v):=by unfold Hid Sc.decl;rw [hidx,hv];rfl
 obtain ⟨xv,cpv,rfl⟩:=zB hnt.vown
 obtain ⟨g,rfl,c0,c1,c2,c3,c4,c5,c6⟩:=zaM hnt.vown hv
 have hfew:=hnt.few
 have hgN:=hnt.vlo g rfl
 have HN:=za hnt
 have i1:(i:Int)<(c.nd.vars.length:Int):=by omega
 have i0:(0:Int)<=(i:Int):=by omega
 clear h hh hnt c0 c1 c3 c4 c5 c6
 go_enter Tryz.func104,Tryz.ntmps104
 go_upto_region 1 with fail
 refine zn (λW=>(W.heap[w.heap.size]?=some (.cells #[.slice xe c.er.length cpe,.pointer (some ⟨nb,0,none⟩)] 206 (0,0))/\W.heap[w.heap.size+1]?=some (.cells #[.string s,.int .i64 a] 93 (0,0)))/\Below w.heap.size w W) ⟨⟨(Below.heap_alloc _ _ _ (by simp)).trans (zc w _),by have:=zc (w.alloc (.cells #[.slice xe c.er.length cpe,.pointer (some ⟨nb,0,none⟩)] 206)) (.cells #[.string s,.int .i64 a] 93);rwa [zsb] at this⟩,zaD w _ _⟩ ?_
 rintro W ⟨⟨hs,hs2⟩,hB⟩
 obtain ⟨s0,s1,sf,sz⟩:=zp hs
 obtain ⟨r0,r1,rf,rz⟩:=zp hs2
 obtain ⟨m0,m1,m2,m3,m4,m5,mf,mz⟩:=zt ((hB.block nb (by omega)).trans HN.out.blk)
 have c2':=zd hB c2 (by omega)
 have hO:=zm hB hN
 have HI:=za (zaz s a W.drew (HSc.out.old (w':=W.drew) hO) (by show N<=W.heap.size;omega))
 rw [hidx] at HI
 have HB:=za hB
 clear hs hs2 hB m0 m1 m3 m4 m5 c2
 go_region_held3 (λw'=>w'.cell? ⟨w.heap.size,0,none⟩=some (.slice xe c.er.length cpe)/\w'.cell? ⟨w.heap.size,1,none⟩=some (.pointer (some ⟨nb,0,none⟩))/\w'.cell? ⟨w.heap.size+1,0,none⟩=some (.string s)/\w'.cell? ⟨w.heap.size+1,1,none⟩=some (.int .i64 a)/\w'.cell? ⟨nb,2,none⟩=some (.slice (some ⟨g,0,none⟩) c.nd.vars.length cpv)/\w'.cell? ⟨g,i*7+2,none⟩=some (.int .i64 (zaK v:Nat)))
  (first|(refine ⟨?_,?_,?_,?_,?_,?_⟩ <;> repeat (first|with_reducible exact s0|with_reducible exact s1|with_reducible exact r0|with_reducible exact r1|with_reducible exact m2|with_reducible exact c2'|with_reducible refine zg ?_|with_reducible refine zj _ ?_|with_reducible refine zk (by omega) ?_|with_reducible refine zd HB1.out ?_ (by first|omega|(rw [zsb];omega))))|go_keep)
  (first
    | (go_at_call 72;refine HI.out.mono ?_;rintro e w1 ⟨rfl,hB1⟩;have HB1:=za (zw hB1);clear hB1))
 all_goals go_wp2_with fail
 all_goals go_ret
 all_goals exact ⟨by rw [HE.out];rfl,HB.out.trans (HB1.out.mono (by omega))⟩
theorem znU {w:World} {B g n cap size:Nat} {e:TypeId} {xs:List Value} (h:w.ownsRow B e size (.slice (some ⟨g,0,none⟩) n cap) n xs):n<=cap/\cap<=9223372036854775807:=by
 rcases h.2 with ⟨h2,_⟩|⟨g',cap',cur,hv,hg,hh,h3,h4,h5,h6⟩
 · cases h2
 · cases hv;unfold maxLen at h4;exact ⟨h3,by omega⟩
theorem zdM {N:Nat} {n:Nod} {nb:Nat} {vs ev:Value} {xs:List Value} (w:World) (h:NT w N n nb vs ev xs) (hio:n.ins+n.outs<=n.vars.length) (hlt:n.ins<n.vars.length) :
 Calls Tryz.prog 139 #[.pointer (some ⟨nb,0,none⟩)] w (λe w'=>∃g cp,vs=.slice (some ⟨g,0,none⟩) n.vars.length cp/\e=.returned (.slice (some ⟨g,n.ins*7,none⟩) n.outs (cp-n.ins))/\Below w.heap.size w w'):=by
 obtain ⟨g,cp,rfl,_⟩:=zM h.vown (by omega)
 obtain ⟨h0,h1,h2,h3,h4,h5,hf,hz⟩:=zt h.blk
 have hcap:=znU h.vown
 have hfew:=h.few
 have i0:(0:Int)<=(n.ins:Int):=by omega
 have i1:(n.ins:Int)<=(n.ins:Int)+(n.outs:Int):=by omega
 have i2:(n.ins:Int)+(n.outs:Int)<=(cp:Int):=by omega
 have i3:¬(n.ins=cp):=by omega
 have i4:¬((n.ins:Int)=(cp:Int)):=by omega
 have i5:¬(cp=n.ins):=by omega
 have i6:((n.ins:Int)+(n.outs:Int)).toNat=n.ins+n.outs:=by omega
 have i7:IntKind.i64.wrap ((n.ins:Int)+(n.outs:Int))=(n.ins:Int)+(n.outs:Int):=by rw [IntKind.wrap_i64];omega
 have i8:(0:Int)<=(n.ins:Int)+(n.outs:Int):=by omega
 clear h
 go_enter Tryz.func139,Tryz.ntmps139
 go_upto_region 1 with fail
 go_region_held3 (λw'=>w'.cell? ⟨nb,2,none⟩=some (.slice (some ⟨g,0,none⟩) n.vars.length cp)/\w'.cell? ⟨nb,3,none⟩=some (.int .i64 n.ins)/\w'.cell? ⟨nb,4,none⟩=some (.int .i64 n.outs))
  (first|(refine ⟨?_,?_,?_⟩ <;> repeat (first|with_reducible exact h2|with_reducible exact h3|with_reducible exact h4|with_reducible refine zg ?_|with_reducible refine zj _ ?_|with_reducible refine zk (by omega) ?_))|go_keep) (fail)
 all_goals go_wp2_with fail
 all_goals go_ret
 all_goals exact ⟨_,_,rfl,rfl,zo (Below.refl _ _)⟩
end
section
open Go.RowKit
attribute [local go_sem ↓] Go.wp_at_zero Go.wp_at_succ
structure zeJ (n:Nod):Prop where
 ins:1<=n.ins
 outs:1<=n.outs
 io:n.ins+n.outs<=n.vars.length
 few:n.vars.length<=16
 eqs:∀q∈n.eqs,q.ns.length=q.ps.length/\1<=q.ns.length/\Wf q.r/\(2<=q.ns.length->q.r.k=4)
structure zbr (c:Sc):Prop where
 er:∀n∈c.er,zeJ n
 nd:zeJ c.nd
 few:c.er.length<=6
theorem zbr.called {c d:Sc} (h:zbr c) {s:ByteArray} (hd:c.called s=some d):zbr d/\d.nd∈c.er:=by
 unfold Sc.called at hd
 split at hd
 · cases hd
 · rename_i i hi
   split at hd
   · cases hd
   · rename_i n hn
     cases hd
     have hm:=List.mem_of_getElem? hn
     exact ⟨⟨λm hm'=>h.er m (List.mem_of_mem_take hm'),h.er n hm,by have:=h.few;simp;omega⟩,hm⟩
def zdg (c:Sc) (t:Tm):Prop:=∀u∈zaV za5 t,(zaJ u.k=true->c.has u.s=true)/\(u.k=4->∃d,c.called u.s=some d/\d.nd.ins=u.ts.length)/\arB u.k u.ts.length=true
theorem zn7 {g:Tm->Bool} {u t:Tm} {ts:List Tm} (ht:t∈ts) (hu:u∈zaV g t):u∈zdk g ts:=by
 induction ts with
 | nil=>simp at ht
 | cons x ts ih =>
   rw [zdk]
   rcases List.mem_cons.1 ht with rfl|ht
   · exact List.mem_append_left _ hu
   · exact List.mem_append_right _ (ih ht)
theorem zey (g:Tm->Bool) (t:Tm):t∈zaV g t:=by
 cases t with
 | mk k a s nm n ts=>rw [zaV];simp
theorem zdg.sub {c:Sc} {t u:Tm} (h:zdg c t) (hu:u∈t.ts):zdg c u:=by
 intro x hx
 refine h x ?_
 cases t with
 | mk k a s nm n ts =>
   rw [zaV]
   refine List.mem_cons_of_mem _ ?_
   rw [if_pos (show za5 _=true from rfl)]
   exact zn7 hu hx
theorem zdU {c:Sc}:∀{ts:List Tm} {i:Nat} {t:Tm},ts[i]?=some t->zbh c ts i=zaj c t:=by
 intro ts
 induction ts with
 | nil=>intro i t h;simp at h
 | cons x ts ih =>
   intro i t h
   cases i with
   | zero=>simp at h;subst h;rw [zbh]
   | succ i=>rw [zbh];exact ih (by simpa using h)
theorem TT.arg {w:World} {N:Nat} {t:Tm} {vl:Nat} {x:Option Addr} {cp:Nat} {vs:List Value} {i:Nat} {u:Tm} (hown:w.ownsRow 0 164 1 (.slice x vl cp) vl vs) (hl:vs.length=t.ts.length) (hs:∀(i:Nat) (u:Tm) (x:Value),t.ts[i]?=some u->vs[i]?=some x->TT w N u x) (hu:t.ts[i]?=some u):∃g ub,x=some ⟨g,0,none⟩/\w.cell? ⟨g,i,none⟩=some (.pointer (some ⟨ub,0,none⟩))/\TT w N u (.pointer (some ⟨ub,0,none⟩))/\ub<N:=by
 have hi:=(List.getElem?_eq_some_iff.1 hu).1
 have hv:vs[i]?=some vs[i]:=zsc (by omega)
 obtain ⟨g,rfl,hc⟩:=zbE hown hv
 have ht:=hs i u _ hu hv
 obtain ⟨ub,_,_,e,hub,_⟩:=ht.ptr
 rw [e] at hc ht
 exact ⟨g,ub,rfl,hc,ht,hub⟩
theorem zhl {n:Nod} (h:zeJ n):∃v,n.vars[n.ins]?=some v/\n.results[0]?=some v:=by
 have h1:=h.io
 have h2:=h.outs
 refine ⟨n.vars[n.ins]'(by omega),zsc _,?_⟩
 unfold Nod.results
 rw [List.getElem?_take,if_pos (by omega),List.getElem?_drop]
 simp
theorem zcQ {N:Nat} {c:Sc} {ev nv:Value} (hc:zbr c):∀(t:Tm) (v:Value) (w:World),TT w N t v->ScV w N c ev nv->N<=w.heap.size->zdg c t ->
 Calls Tryz.prog 138 #[.agg #[ev,nv],v] w (λe w'=>e=.returned (.int .i64 (zaj c t:Nat))/\Below w.heap.size w w'):=by
 intro t
 induction t using Tm.ind with
 | h k a s nm n ts ih =>
   intro v w hT h hN hO
   obtain ⟨b,args,vs,rfl,hb,hblk,hown,hlen,hsub,hgs⟩:=hT.ptr
   obtain ⟨xa,cpa,rfl⟩:=zB hown
   have HSc:=za h
   obtain ⟨xe,cpe,nb,rfl,rfl,hnb⟩:=h.shape
   have hlen':vs.length=ts.length:=hlen
   have hbz:=ze hblk
   obtain ⟨o1,o2,o3⟩:=hO _ (zey za5 _)
   have hblk':w.heap[b]?=some (.cells #[.int .i64 k,.int .i64 a,.string s,.int .i64 nm,.int .i64 n,.slice xa ts.length cpa] 216 (0,0)):=by rw [<- hlen'];exact hblk
   have HBk:=za hblk'
   have hown':w.ownsRow 0 164 1 (.slice xa ts.length cpa) ts.length vs:=by rw [<- hlen'];exact hown
   have HOw:=za hown'
   have Hsub:=za hsub
   have HO:=za hO
   have Hih:=za ih
   have Hgs:=za hgs
   simp only [Tm.k,Tm.s,Tm.ts] at o1 o2 o3
   obtain ⟨h0,h1,h2,h3,h4,h5,hf,hz⟩:=zt hblk'
   have Hlen:=za hlen'
   clear hT hown h hlen hlen' hblk hown' hsub hO ih hgs hblk' h1 h4 hf
   have hcases:k=3∨k=4∨k=7∨k=8∨k=6∨k=5∨k=9∨k=0∨k=10∨k=19∨k=20∨k=21∨k=22∨k=23∨k=1∨k=2∨k=11∨k=12∨k=13∨k=14∨k=15∨k=16∨k=17∨k=18:=by
    have:k<=23:=by
     rcases Nat.lt_or_ge 23 k with h|h
     · exfalso;unfold arB at o3;simp only [show ¬k<=3 by omega,show ¬k=4 by omega,show ¬k=5 by omega,show ¬k=6 by omega,show ¬k<=8 by omega,show ¬k=9 by omega,show ¬k<=11 by omega,show ¬k<=23 by omega,if_false] at o3;cases o3
     · exact h
    omega
   have PRE:∀W,Below w.heap.size w W->ScV W N c (.slice xe c.er.length cpe) (.pointer (some ⟨nb,0,none⟩)):=λW hB=>HSc.out.old (zm hB hN)
   rcases hcases with rfl|rfl|rfl|rfl|rfl|rfl|rfl|rfl|rfl|rfl|rfl|rfl|rfl|rfl|rfl|rfl|rfl|rfl|rfl|rfl|rfl|rfl|rfl|rfl
   · have hh:=o1 rfl
     go_enter Tryz.func138,Tryz.ntmps138
     go_upto_region 3 with fail
     refine zn (λW=>W.heap[w.heap.size]?=some (.cells #[.slice xe c.er.length cpe,.pointer (some ⟨nb,0,none⟩)] 206 (0,0))/\Below w.heap.size w W) ⟨zc w _,zq w _⟩ ?_
     rintro W ⟨hs,hB⟩
     obtain ⟨s0,s1,sf,sz⟩:=zp hs
     obtain ⟨m0,m1,m2,m3,m4,m5,mf,mz⟩:=zt ((hB.block b hbz).trans HBk.out)
     have HB:=za hB
     have hzW:=hB.size
     have HD:=za (zbD s (nm:Int) W.drew (PRE W.drew (zo hB)) (by show N<=W.heap.size;omega) hh)
     clear hs hB m0 m1 m4 m5 mf sf
     go_region_held3 (λw'=>w'.cell? ⟨w.heap.size,0,none⟩=some (.slice xe c.er.length cpe)/\w'.cell? ⟨w.heap.size,1,none⟩=some (.pointer (some ⟨nb,0,none⟩))/\w'.cell? ⟨b,2,none⟩=some (.string s)/\w'.cell? ⟨b,3,none⟩=some (.int .i64 nm))
      (first|(refine ⟨?_,?_,?_,?_⟩ <;> repeat (first|with_reducible exact s0|with_reducible exact s1|with_reducible exact m2|with_reducible exact m3|with_reducible refine zg ?_|with_reducible refine zj _ ?_|with_reducible refine zk (by omega) ?_|with_reducible refine zd HB1.out ?_ (by first|omega|(rw [zsb];omega))))|go_keep)
      (first
        | (go_at_call 104;refine HD.out.mono ?_;rintro e w1 ⟨rfl,hB1⟩;have HB1:=za (zw hB1);clear hB1))
     all_goals go_wp2_with fail
     all_goals go_ret
     all_goals exact ⟨by rw [zaj];rfl,HB.out.trans (HB1.out.mono (by omega))⟩
   · obtain ⟨d,hd,hdi⟩:=o2 rfl
     have hdw:=(hc.called hd).1.nd
     go_enter Tryz.func138,Tryz.ntmps138
     go_upto_region 5 with fail
     refine zn (λW=>W.heap[w.heap.size]?=some (.cells #[.slice xe c.er.length cpe,.pointer (some ⟨nb,0,none⟩)] 206 (0,0))/\Below w.heap.size w W) ⟨zc w _,zq w _⟩ ?_
     rintro W ⟨hs,hB⟩
     obtain ⟨s0,s1,sf,sz⟩:=zp hs
     obtain ⟨m0,m1,m2,m3,m4,m5,mf,mz⟩:=zt ((hB.block b hbz).trans HBk.out)
     have HB:=za hB
     have hzW:=hB.size
     have HC1:=za (zah s (nm:Int) W.drew (PRE W.drew (zo hB)) (by show N<=W.heap.size;omega) hc.few hd)
     have HC2:=za (λo=>zah s (nm:Int) (W.alloc o).drew (PRE _ (zo (hB.alloc (by omega) o))) (by show N<=(W.alloc o).heap.size;simp;omega) hc.few hd)
     clear hs hB m0 m1 m4 m5 mf sf
     go_region_held3 (λw'=>w'.cell? ⟨w.heap.size,0,none⟩=some (.slice xe c.er.length cpe)/\w'.cell? ⟨w.heap.size,1,none⟩=some (.pointer (some ⟨nb,0,none⟩))/\w'.cell? ⟨b,2,none⟩=some (.string s)/\w'.cell? ⟨b,3,none⟩=some (.int .i64 nm))
      (first|(refine ⟨?_,?_,?_,?_⟩ <;> repeat (first|with_reducible exact s0|with_reducible exact s1|with_reducible exact m2|with_reducible exact m3|with_reducible refine zg ?_|with_reducible refine zj _ ?_|with_reducible refine zk (by omega) ?_|with_reducible refine zd HB1.out ?_ (by first|omega|(rw [zsb];omega))))|go_keep)
      (first
        | (go_at_call 96;refine HC1.out.mono ?_;rintro e w1 ⟨x2,cp2,n2,rfl,hsc,hB1⟩;have HB1:=za (zw hB1);have HS2:=za hsc;clear hB1 hsc)
        | (go_at_call 96;refine (HC2.out _).mono ?_;rintro e w1 ⟨x2,cp2,n2,rfl,hsc,hB1⟩;have HB1:=za (zw hB1);have HS2:=za hsc;obtain ⟨y0,y1,yf,yz⟩:=zp ((HB1.out.block W.heap.size (by rw [zsb];omega)).trans (zc W _));clear hB1 hsc))
     · go_upto_region 6 with fail
       refine zn (Got w N d w1.heap.size n2 x2 cp2) (zow HB.out HB1.out HS2.out hN) ?_
       rintro W2 hG
       obtain ⟨t0,t1,tf,tz⟩:=zp hG.box
       obtain ⟨n2',vs2,qv2,xs2,e9,hnt⟩:=hG.sc.nd
       cases e9
       obtain ⟨v0,hv1,hv2⟩:=zhl hdw
       have HE:Hid (zaj c (.mk 4 a s nm n ts)=zaK v0):=by
        unfold Hid
        rw [zaj]
        show c.callTy s=_
        unfold Sc.callTy
        rw [hd]
        show ((d.nd.results[0]?).map tyV).getD 0=_
        rw [hv2]
        rfl
       have HR:=za (zdM W2 hnt hdw.io (by have:=hdw.io;have:=hdw.outs;omega))
       obtain ⟨xv,cpv,rfl⟩:=zB hnt.vown
       obtain ⟨gv,rfl,_,_,c2,_⟩:=zaM hnt.vown hv1
       have hvz:=hnt.vlo gv rfl
       have hBG:=za hG.bel
       have hzz:=hG.bel.size
       have hou:(0:Int)<(d.nd.outs:Int):=by have:=hdw.outs;omega
       have hou':0<d.nd.outs:=hdw.outs
       have c2':W2.cell? ⟨gv,d.nd.ins*7+2,none⟩=some (.int .i64 (zaK v0:Nat)):=c2
       clear hG hnt hv1 hv2 c2 hd hdi hdw
       go_wp2_with (go_at_call 139;refine HR.out.mono ?_;rintro e w3 ⟨g9,cp9,e9,rfl,hB3⟩;cases e9;have c3:=zd hB3 c2' (by omega);have HB3:=za hB3;clear hB3)
       go_ret
       exact ⟨by rw [HE.out];rfl,hBG.out.trans (HB3.out.mono hzz)⟩
     · go_upto_region 6 with fail
       refine zn (Got w N d W.heap.size n2 x2 cp2) (zos HB.out HB1.out HS2.out hN) ?_
       rintro W2 hG
       obtain ⟨t0,t1,tf,tz⟩:=zp hG.box
       obtain ⟨n2',vs2,qv2,xs2,e9,hnt⟩:=hG.sc.nd
       cases e9
       obtain ⟨v0,hv1,hv2⟩:=zhl hdw
       have HE:Hid (zaj c (.mk 4 a s nm n ts)=zaK v0):=by
        unfold Hid
        rw [zaj]
        show c.callTy s=_
        unfold Sc.callTy
        rw [hd]
        show ((d.nd.results[0]?).map tyV).getD 0=_
        rw [hv2]
        rfl
       have HR:=za (zdM W2 hnt hdw.io (by have:=hdw.io;have:=hdw.outs;omega))
       obtain ⟨xv,cpv,rfl⟩:=zB hnt.vown
       obtain ⟨gv,rfl,_,_,c2,_⟩:=zaM hnt.vown hv1
       have hvz:=hnt.vlo gv rfl
       have hBG:=za hG.bel
       have hzz:=hG.bel.size
       have hou:(0:Int)<(d.nd.outs:Int):=by have:=hdw.outs;omega
       have hou':0<d.nd.outs:=hdw.outs
       have c2':W2.cell? ⟨gv,d.nd.ins*7+2,none⟩=some (.int .i64 (zaK v0:Nat)):=c2
       clear hG hnt hv1 hv2 c2 hd hdi hdw
       go_wp2_with (go_at_call 139;refine HR.out.mono ?_;rintro e w3 ⟨g9,cp9,e9,rfl,hB3⟩;cases e9;have c3:=zd hB3 c2' (by omega);have HB3:=za hB3;clear hB3)
       go_ret
       exact ⟨by rw [HE.out];rfl,hBG.out.trans (HB3.out.mono hzz)⟩
   · have hlen3:0<ts.length:=by simp [arB] at o3;omega
     obtain ⟨u,hu⟩:∃u,ts[0]?=some u:=⟨_,zsc hlen3⟩
     obtain ⟨g,ub,rfl,hcu,hTu,hubN⟩:=TT.arg (t:=.mk 7 a s nm n ts) HOw.out Hlen.out Hsub.out hu
     have hgN:=Hgs.out g rfl
     have hOu:=HO.out.sub (t:=.mk 7 a s nm n ts) (u:=u) (List.mem_of_getElem? hu)
     have hty:=zdU (c:=c) hu
     go_enter Tryz.func138,Tryz.ntmps138
     go_upto_region 10 with fail
     refine zn (λW=>W.heap[w.heap.size]?=some (.cells #[.slice xe c.er.length cpe,.pointer (some ⟨nb,0,none⟩)] 206 (0,0))/\Below w.heap.size w W) ⟨zc w _,zq w _⟩ ?_
     rintro W ⟨hs,hB⟩
     obtain ⟨s0,s1,sf,sz⟩:=zp hs
     obtain ⟨m0,m1,m2,m3,m4,m5,mf,mz⟩:=zt ((hB.block b hbz).trans HBk.out)
     have HB:=za hB
     have hzW:=hB.size
     have hcu':=zd hB hcu (by omega)
     have HD:=za (Hih.out u (List.mem_of_getElem? hu) (.pointer (some ⟨ub,0,none⟩)) W.drew (hTu.old (zm (zo hB) hN)) (PRE W.drew (zo hB)) (by show N<=W.heap.size;omega) hOu)
     have l0:(0:Int)<(ts.length:Int):=by omega
     clear hs hB m0 m1 m2 m3 m4 mf sf hTu hu
     go_region_held3 (λw'=>w'.cell? ⟨w.heap.size,0,none⟩=some (.slice xe c.er.length cpe)/\w'.cell? ⟨w.heap.size,1,none⟩=some (.pointer (some ⟨nb,0,none⟩))/\w'.cell? ⟨b,5,none⟩=some (.slice (some ⟨g,0,none⟩) ts.length cpa)/\w'.cell? ⟨g,0,none⟩=some (.pointer (some ⟨ub,0,none⟩)))
      (first|(refine ⟨?_,?_,?_,?_⟩ <;> repeat (first|with_reducible exact s0|with_reducible exact s1|with_reducible exact m5|with_reducible exact hcu'|with_reducible refine zg ?_|with_reducible refine zj _ ?_|with_reducible refine zk (by omega) ?_|with_reducible refine zd HB1.out ?_ (by first|omega|(rw [zsb];omega))))|go_keep)
      (first
        | (go_at_call 138;refine HD.out.mono ?_;rintro e w1 ⟨rfl,hB1⟩;have HB1:=za (zw hB1);clear hB1))
     all_goals go_wp2_with fail
     all_goals go_ret
     all_goals exact ⟨by rw [zaj];show Ending.returned (.int .i64 (zaj c u:Nat))=Ending.returned (.int .i64 (zbh c ts 0:Nat));rw [hty],HB.out.trans (HB1.out.mono (by omega))⟩
   · have hlen3:0<ts.length:=by simp [arB] at o3;omega
     obtain ⟨u,hu⟩:∃u,ts[0]?=some u:=⟨_,zsc hlen3⟩
     obtain ⟨g,ub,rfl,hcu,hTu,hubN⟩:=TT.arg (t:=.mk 8 a s nm n ts) HOw.out Hlen.out Hsub.out hu
     have hgN:=Hgs.out g rfl
     have hOu:=HO.out.sub (t:=.mk 8 a s nm n ts) (u:=u) (List.mem_of_getElem? hu)
     have hty:=zdU (c:=c) hu
     go_enter Tryz.func138,Tryz.ntmps138
     go_upto_region 10 with fail
     refine zn (λW=>W.heap[w.heap.size]?=some (.cells #[.slice xe c.er.length cpe,.pointer (some ⟨nb,0,none⟩)] 206 (0,0))/\Below w.heap.size w W) ⟨zc w _,zq w _⟩ ?_
     rintro W ⟨hs,hB⟩
     obtain ⟨s0,s1,sf,sz⟩:=zp hs
     obtain ⟨m0,m1,m2,m3,m4,m5,mf,mz⟩:=zt ((hB.block b hbz).trans HBk.out)
     have HB:=za hB
     have hzW:=hB.size
     have hcu':=zd hB hcu (by omega)
     have HD:=za (Hih.out u (List.mem_of_getElem? hu) (.pointer (some ⟨ub,0,none⟩)) W.drew (hTu.old (zm (zo hB) hN)) (PRE W.drew (zo hB)) (by show N<=W.heap.size;omega) hOu)
     have l0:(0:Int)<(ts.length:Int):=by omega
     clear hs hB m0 m1 m2 m3 m4 mf sf hTu hu
     go_region_held3 (λw'=>w'.cell? ⟨w.heap.size,0,none⟩=some (.slice xe c.er.length cpe)/\w'.cell? ⟨w.heap.size,1,none⟩=some (.pointer (some ⟨nb,0,none⟩))/\w'.cell? ⟨b,5,none⟩=some (.slice (some ⟨g,0,none⟩) ts.length cpa)/\w'.cell? ⟨g,0,none⟩=some (.pointer (some ⟨ub,0,none⟩)))
      (first|(refine ⟨?_,?_,?_,?_⟩ <;> repeat (first|with_reducible exact s0|with_reducible exact s1|with_reducible exact m5|with_reducible exact hcu'|with_reducible refine zg ?_|with_reducible refine zj _ ?_|with_reducible refine zk (by omega) ?_|with_reducible refine zd HB1.out ?_ (by first|omega|(rw [zsb];omega))))|go_keep)
      (first
        | (go_at_call 138;refine HD.out.mono ?_;rintro e w1 ⟨rfl,hB1⟩;have HB1:=za (zw hB1);clear hB1))
     all_goals go_wp2_with fail
     all_goals go_ret
     all_goals exact ⟨by rw [zaj];show Ending.returned (.int .i64 (zaj c u:Nat))=Ending.returned (.int .i64 (zbh c ts 0:Nat));rw [hty],HB.out.trans (HB1.out.mono (by omega))⟩
   · have hlen3:0<ts.length:=by simp [arB] at o3;omega
     obtain ⟨u,hu⟩:∃u,ts[0]?=some u:=⟨_,zsc hlen3⟩
     obtain ⟨g,ub,rfl,hcu,hTu,hubN⟩:=TT.arg (t:=.mk 6 a s nm n ts) HOw.out Hlen.out Hsub.out hu
     have hgN:=Hgs.out g rfl
     have hOu:=HO.out.sub (t:=.mk 6 a s nm n ts) (u:=u) (List.mem_of_getElem? hu)
     have hty:=zdU (c:=c) hu
     go_enter Tryz.func138,Tryz.ntmps138
     go_upto_region 10 with fail
     refine zn (λW=>W.heap[w.heap.size]?=some (.cells #[.slice xe c.er.length cpe,.pointer (some ⟨nb,0,none⟩)] 206 (0,0))/\Below w.heap.size w W) ⟨zc w _,zq w _⟩ ?_
     rintro W ⟨hs,hB⟩
     obtain ⟨s0,s1,sf,sz⟩:=zp hs
     obtain ⟨m0,m1,m2,m3,m4,m5,mf,mz⟩:=zt ((hB.block b hbz).trans HBk.out)
     have HB:=za hB
     have hzW:=hB.size
     have hcu':=zd hB hcu (by omega)
     have HD:=za (Hih.out u (List.mem_of_getElem? hu) (.pointer (some ⟨ub,0,none⟩)) W.drew (hTu.old (zm (zo hB) hN)) (PRE W.drew (zo hB)) (by show N<=W.heap.size;omega) hOu)
     have l0:(0:Int)<(ts.length:Int):=by omega
     clear hs hB m0 m1 m2 m3 m4 mf sf hTu hu
     go_region_held3 (λw'=>w'.cell? ⟨w.heap.size,0,none⟩=some (.slice xe c.er.length cpe)/\w'.cell? ⟨w.heap.size,1,none⟩=some (.pointer (some ⟨nb,0,none⟩))/\w'.cell? ⟨b,5,none⟩=some (.slice (some ⟨g,0,none⟩) ts.length cpa)/\w'.cell? ⟨g,0,none⟩=some (.pointer (some ⟨ub,0,none⟩)))
      (first|(refine ⟨?_,?_,?_,?_⟩ <;> repeat (first|with_reducible exact s0|with_reducible exact s1|with_reducible exact m5|with_reducible exact hcu'|with_reducible refine zg ?_|with_reducible refine zj _ ?_|with_reducible refine zk (by omega) ?_|with_reducible refine zd HB1.out ?_ (by first|omega|(rw [zsb];omega))))|go_keep)
      (first
        | (go_at_call 138;refine HD.out.mono ?_;rintro e w1 ⟨rfl,hB1⟩;have HB1:=za (zw hB1);clear hB1))
     all_goals go_wp2_with fail
     all_goals go_ret
     all_goals exact ⟨by rw [zaj];show Ending.returned (.int .i64 (zaj c u:Nat))=Ending.returned (.int .i64 (zbh c ts 0:Nat));rw [hty],HB.out.trans (HB1.out.mono (by omega))⟩
   · have hlen3:1<ts.length:=by simp [arB] at o3;omega
     obtain ⟨u,hu⟩:∃u,ts[1]?=some u:=⟨_,zsc hlen3⟩
     obtain ⟨g,ub,rfl,hcu,hTu,hubN⟩:=TT.arg (t:=.mk 5 a s nm n ts) HOw.out Hlen.out Hsub.out hu
     have hgN:=Hgs.out g rfl
     have hOu:=HO.out.sub (t:=.mk 5 a s nm n ts) (u:=u) (List.mem_of_getElem? hu)
     have hty:=zdU (c:=c) hu
     go_enter Tryz.func138,Tryz.ntmps138
     go_upto_region 13 with fail
     refine zn (λW=>W.heap[w.heap.size]?=some (.cells #[.slice xe c.er.length cpe,.pointer (some ⟨nb,0,none⟩)] 206 (0,0))/\Below w.heap.size w W) ⟨zc w _,zq w _⟩ ?_
     rintro W ⟨hs,hB⟩
     obtain ⟨s0,s1,sf,sz⟩:=zp hs
     obtain ⟨m0,m1,m2,m3,m4,m5,mf,mz⟩:=zt ((hB.block b hbz).trans HBk.out)
     have HB:=za hB
     have hzW:=hB.size
     have hcu':=zd hB hcu (by omega)
     have HD:=za (Hih.out u (List.mem_of_getElem? hu) (.pointer (some ⟨ub,0,none⟩)) W.drew (hTu.old (zm (zo hB) hN)) (PRE W.drew (zo hB)) (by show N<=W.heap.size;omega) hOu)
     have l0:(1:Int)<(ts.length:Int):=by omega
     clear hs hB m0 m1 m2 m3 m4 mf sf hTu hu
     go_region_held3 (λw'=>w'.cell? ⟨w.heap.size,0,none⟩=some (.slice xe c.er.length cpe)/\w'.cell? ⟨w.heap.size,1,none⟩=some (.pointer (some ⟨nb,0,none⟩))/\w'.cell? ⟨b,5,none⟩=some (.slice (some ⟨g,0,none⟩) ts.length cpa)/\w'.cell? ⟨g,1,none⟩=some (.pointer (some ⟨ub,0,none⟩)))
      (first|(refine ⟨?_,?_,?_,?_⟩ <;> repeat (first|with_reducible exact s0|with_reducible exact s1|with_reducible exact m5|with_reducible exact hcu'|with_reducible refine zg ?_|with_reducible refine zj _ ?_|with_reducible refine zk (by omega) ?_|with_reducible refine zd HB1.out ?_ (by first|omega|(rw [zsb];omega))))|go_keep)
      (first
        | (go_at_call 138;refine HD.out.mono ?_;rintro e w1 ⟨rfl,hB1⟩;have HB1:=za (zw hB1);clear hB1))
     all_goals go_wp2_with fail
     all_goals go_ret
     all_goals exact ⟨by rw [zaj];show Ending.returned (.int .i64 (zaj c u:Nat))=Ending.returned (.int .i64 (zbh c ts 1:Nat));rw [hty],HB.out.trans (HB1.out.mono (by omega))⟩
   · have hlen3:1<ts.length:=by simp [arB] at o3;omega
     obtain ⟨u,hu⟩:∃u,ts[1]?=some u:=⟨_,zsc hlen3⟩
     obtain ⟨g,ub,rfl,hcu,hTu,hubN⟩:=TT.arg (t:=.mk 9 a s nm n ts) HOw.out Hlen.out Hsub.out hu
     have hgN:=Hgs.out g rfl
     have hOu:=HO.out.sub (t:=.mk 9 a s nm n ts) (u:=u) (List.mem_of_getElem? hu)
     have hty:=zdU (c:=c) hu
     go_enter Tryz.func138,Tryz.ntmps138
     go_upto_region 13 with fail
     refine zn (λW=>W.heap[w.heap.size]?=some (.cells #[.slice xe c.er.length cpe,.pointer (some ⟨nb,0,none⟩)] 206 (0,0))/\Below w.heap.size w W) ⟨zc w _,zq w _⟩ ?_
     rintro W ⟨hs,hB⟩
     obtain ⟨s0,s1,sf,sz⟩:=zp hs
     obtain ⟨m0,m1,m2,m3,m4,m5,mf,mz⟩:=zt ((hB.block b hbz).trans HBk.out)
     have HB:=za hB
     have hzW:=hB.size
     have hcu':=zd hB hcu (by omega)
     have HD:=za (Hih.out u (List.mem_of_getElem? hu) (.pointer (some ⟨ub,0,none⟩)) W.drew (hTu.old (zm (zo hB) hN)) (PRE W.drew (zo hB)) (by show N<=W.heap.size;omega) hOu)
     have l0:(1:Int)<(ts.length:Int):=by omega
     clear hs hB m0 m1 m2 m3 m4 mf sf hTu hu
     go_region_held3 (λw'=>w'.cell? ⟨w.heap.size,0,none⟩=some (.slice xe c.er.length cpe)/\w'.cell? ⟨w.heap.size,1,none⟩=some (.pointer (some ⟨nb,0,none⟩))/\w'.cell? ⟨b,5,none⟩=some (.slice (some ⟨g,0,none⟩) ts.length cpa)/\w'.cell? ⟨g,1,none⟩=some (.pointer (some ⟨ub,0,none⟩)))
      (first|(refine ⟨?_,?_,?_,?_⟩ <;> repeat (first|with_reducible exact s0|with_reducible exact s1|with_reducible exact m5|with_reducible exact hcu'|with_reducible refine zg ?_|with_reducible refine zj _ ?_|with_reducible refine zk (by omega) ?_|with_reducible refine zd HB1.out ?_ (by first|omega|(rw [zsb];omega))))|go_keep)
      (first
        | (go_at_call 138;refine HD.out.mono ?_;rintro e w1 ⟨rfl,hB1⟩;have HB1:=za (zw hB1);clear hB1))
     all_goals go_wp2_with fail
     all_goals go_ret
     all_goals exact ⟨by rw [zaj];show Ending.returned (.int .i64 (zaj c u:Nat))=Ending.returned (.int .i64 (zbh c ts 1:Nat));rw [hty],HB.out.trans (HB1.out.mono (by omega))⟩
   all_goals
    go_enter Tryz.func138,Tryz.ntmps138
    go_wp2_with fail
    go_ret
    exact ⟨by rw [zaj];rfl,zq _ _⟩
end
end Go.Proofs.YtedmpgjebafcjaaGreatDoor
