/- Part 29 of the proof: ChkH. -/
import Derived.Test.YtedmpgjebafcjaaGreatDoorK27
set_option maxRecDepth 100000
set_option maxHeartbeats 8000000
namespace Go.Proofs.YtedmpgjebafcjaaGreatDoor
section
open Go.RowKit
attribute [local go_sem ↓] Go.wp_at_zero Go.wp_at_succ
theorem zqv:∀(ns:List ByteArray) (ps:List Nat) (k:Nat) (s:ByteArray) (p:Nat),ns[k]?=some s->ps[k]?=some p->(nmC ns ps)[k*2]?=some (.string s)/\(nmC ns ps)[k*2+1]?=some (.int .i64 p):=by
 intro ns
 induction ns with
 | nil=>intro ps k s p h;simp at h
 | cons a ns ih =>
   intro ps k s p hs hp
   cases ps with
   | nil=>simp at hp
   | cons b ps =>
     cases k with
     | zero=>simp at hs hp;subst hs hp;exact ⟨rfl,rfl⟩
     | succ k =>
       obtain ⟨h1,h2⟩:=ih ps k s p (by simpa using hs) (by simpa using hp)
       rw [show (k+1)*2=k*2+1+1 by omega]
       exact ⟨by simpa [nmC] using h1,by simpa [nmC] using h2⟩
theorem zbe {w:World} {n cp:Nat} {a:Option Addr} {ns:List ByteArray} {ps:List Nat} (h:w.ownsRow 0 93 2 (.slice a n cp) n (nmC ns ps)) {k:Nat} {s:ByteArray} {p:Nat} (hs:ns[k]?=some s) (hp:ps[k]?=some p) (hn:n=ns.length) :
 ∃g,a=some ⟨g,0,none⟩/\w.cell? ⟨g,k*2,none⟩=some (.string s)/\w.cell? ⟨g,k*2+1,none⟩=some (.int .i64 p):=by
 have hk':=(List.getElem?_eq_some_iff.1 hs).1
 obtain ⟨g,cap,hv,_⟩:=zM h (by omega)
 cases hv
 obtain ⟨e1,e2⟩:=zqv ns ps k s p hs hp
 have hc:=h.cells (g:=g) rfl
 have e0:∀j,(⟨g,0,none⟩:Addr).add j=⟨g,j,none⟩:=λj=>by cases j <;> simp [Addr.add]
 refine ⟨g,rfl,?_,?_⟩
 · have:=hc _ _ e1;rwa [e0] at this
 · have:=hc _ _ e2;rwa [e0] at this
theorem ze7 {c:Sc} {ns:List ByteArray} {rs:List Vr} {k:Nat} {s:ByteArray} {v:Vr} (hs:ns[k]?=some s) (hv:rs[k]?=some v):zaE c (ns.drop k) (rs.drop k)=if (c.decl s != tyV v)=true then false else zaE c (ns.drop (k+1)) (rs.drop (k+1)):=by
 obtain ⟨h1,h2⟩:=List.getElem?_eq_some_iff.1 hs
 obtain ⟨h3,h4⟩:=List.getElem?_eq_some_iff.1 hv
 rw [List.drop_eq_getElem_cons h1,List.drop_eq_getElem_cons h3,h2,h4]
 rfl
theorem al2 (w:World) (o1 o2:Obj):((w.alloc o1).alloc o2).heap[w.heap.size]?=some o1/\((w.alloc o1).alloc o2).heap[w.heap.size+1]?=some o2:=by
 refine ⟨(Below.heap_alloc _ _ _ (by simp)).trans (zc w o1),?_⟩
 have:=zc (w.alloc o1) o2
 rwa [zsb] at this
theorem zlF {N:Nat} {c:Sc} {ev nv:Value} (hc:zbr c) (q:Qn) (lv rv:Value) (w:World) (hE:EqV w N q lv rv) (h:ScV w N c ev nv) (hN:N<=w.heap.size) (hO:zdg c q.r) (hh:∀s∈q.ns,c.has s=true) (hps:q.ns.length=q.ps.length) (h1:q.ns.length=1) :
 Calls Tryz.prog 105 #[.agg #[ev,nv],.agg #[lv,.int .i64 q.a,rv]] w (λe w'=>e=.returned (.bool (c.holds q))/\Below w.heap.size w w'):=by
 have HEq:=za hE
 obtain ⟨s,hs⟩:∃s,q.ns[0]?=some s:=⟨_,zsc (by omega)⟩
 obtain ⟨p,hp⟩:∃p,q.ps[0]?=some p:=⟨_,zsc (by omega)⟩
 obtain ⟨xl,cl,rfl⟩:=zB hE.own
 obtain ⟨g,rfl,c0,c1⟩:=zbe hE.own hs hp rfl
 have hgN:=hE.lo g rfl
 obtain ⟨rb,_,_,rfl,hrb,_⟩:=hE.tt.ptr
 have HSc:=za h
 obtain ⟨xe,cpe,nb,rfl,rfl,hnb⟩:=h.shape
 have hhs:=hh s (List.mem_of_getElem? hs)
 have HE:Hid (c.holds q=(c.decl s==zaj c q.r)):=by
  unfold Hid Sc.holds
  cases hn:q.ns with
  | nil=>rw [hn] at hs;simp at hs
  | cons x l =>
    cases l with
    | nil=>rw [hn] at hs;simp at hs;subst hs;rfl
    | cons y l=>rw [hn] at h1;simp at h1
 have PRE:∀W,Below w.heap.size w W->ScV W N c (.slice xe c.er.length cpe) (.pointer (some ⟨nb,0,none⟩)):=λW hB=>HSc.out.old (zm hB hN)
 have HD:=za (λW (hB:Below w.heap.size w W)=>zbD s (p:Int) W (PRE W hB) (by have:=hB.size;omega) hhs)
 have HT:=za (λW (hB:Below w.heap.size w W)=>zcQ hc q.r (.pointer (some ⟨rb,0,none⟩)) W (HEq.out.tt.old (zm hB hN)) (PRE W hB) (by have:=hB.size;omega) hO)
 rw [Nat.zero_mul,Nat.zero_add] at c1
 rw [Nat.zero_mul] at c0
 have l1:((q.ns.length:Int)==1)=true:=by simp [h1]
 have l0:(0:Int)<(q.ns.length:Int):=by omega
 have l0':0<q.ns.length:=by omega
 clear hE h hO hh hps hs hp hhs h1
 generalize c.decl s=y1 at *
 generalize zaj c q.r=y2 at *
 go_enter Tryz.func105,Tryz.ntmps105
 go_upto_region 2 with fail
 refine zn (λW=>(W.heap[w.heap.size]?=some (.cells #[.slice xe c.er.length cpe,.pointer (some ⟨nb,0,none⟩)] 206 (0,0))/\W.heap[w.heap.size+1]?=some (.cells #[.slice (some ⟨g,0,none⟩) q.ns.length cl,.int .i64 q.a,.pointer (some ⟨rb,0,none⟩)] 166 (0,0)))/\Below w.heap.size w W) ⟨al2 w _ _,zaD w _ _⟩ ?_
 rintro W ⟨⟨hs,hs2⟩,hB⟩
 obtain ⟨s0,s1,sf,sz⟩:=zp hs
 obtain ⟨r0,r1,r2,rf,rz⟩:=zL hs2
 have HB:=za hB
 have hzW:=hB.size
 have c0':=zd hB c0 (by omega)
 have c1':=zd hB c1 (by omega)
 have HD1:=za (HD.out W.drew (zo hB))
 clear hs hs2 hB sf rf
 go_region_held3 (λw'=>w'.cell? ⟨w.heap.size,0,none⟩=some (.slice xe c.er.length cpe)/\w'.cell? ⟨w.heap.size,1,none⟩=some (.pointer (some ⟨nb,0,none⟩))/\w'.cell? ⟨w.heap.size+1,0,none⟩=some (.slice (some ⟨g,0,none⟩) q.ns.length cl)/\w'.cell? ⟨w.heap.size+1,2,none⟩=some (.pointer (some ⟨rb,0,none⟩))/\w'.cell? ⟨g,0,none⟩=some (.string s)/\w'.cell? ⟨g,1,none⟩=some (.int .i64 p))
  (first|(refine ⟨?_,?_,?_,?_,?_,?_⟩ <;> repeat (first|with_reducible exact s0|with_reducible exact s1|with_reducible exact r0|with_reducible exact r2|with_reducible exact c0'|with_reducible exact c1'|with_reducible refine zg ?_|with_reducible refine zj _ ?_|with_reducible refine zk (by omega) ?_|with_reducible refine zd HB2.out ?_ (by first|omega|(rw [zsb];omega))|with_reducible refine zd HB1.out ?_ (by first|omega|(rw [zsb];omega))))|go_keep)
  (first
    | (go_at_call 138;refine HD2.out.mono ?_;rintro e w2 ⟨rfl,hB2⟩;have HB2:=za hB2;clear hB2)
    | (go_at_call 104;refine HD1.out.mono ?_;rintro e w1 ⟨rfl,hB1⟩;have HB1:=za (zw hB1);(have hzw1:W.heap.size<=w1.heap.size:=hB1.size);have HD2:=za (HT.out w1 (HB.out.trans (HB1.out.mono hzW)));clear hB1))
 all_goals go_wp2_with fail
 all_goals go_ret
 all_goals exact ⟨by rw [HE.out];exact zky y1 y2,(HB.out.trans (HB1.out.mono hzW)).trans (HB2.out.mono (by omega))⟩
theorem zk0 {N:Nat} {c d:Sc} {ev nv:Value} (hc:zbr c) (q:Qn) (lv rv:Value) (w:World) (hE:EqV w N q lv rv) (h:ScV w N c ev nv) (hN:N<=w.heap.size) (hh:∀s∈q.ns,c.has s=true) (hps:q.ns.length=q.ps.length) (h2:2<=q.ns.length) (hd:c.called q.r.s=some d) (hdo:d.nd.outs=q.ns.length) :
 Calls Tryz.prog 105 #[.agg #[ev,nv],.agg #[lv,.int .i64 q.a,rv]] w (λe w'=>e=.returned (.bool (c.holds q))/\Below w.heap.size w w'):=by
 have HEq:=za hE
 obtain ⟨xl,cl,rfl⟩:=zB hE.own
 obtain ⟨rb,_,_,rfl,hrb,hrblk,_⟩:=hE.tt.ptr
 have hrz:=ze hrblk
 have HRb:=za hrblk
 have hdw:=(hc.called hd).1.nd
 have hio:=hdw.io
 have hin1:=hdw.ins
 have hfw:=hdw.few
 have HSc:=za h
 obtain ⟨xe,cpe,nb,rfl,rfl,hnb⟩:=h.shape
 have HE:Hid (c.holds q=zaE c q.ns d.nd.results):=by
  unfold Hid Sc.holds
  cases hn:q.ns with
  | nil=>rw [hn] at h2;simp at h2
  | cons x l =>
    cases l with
    | nil=>rw [hn] at h2;simp at h2
    | cons y l=>simp only [hd]
 have PRE:∀W,Below w.heap.size w W->ScV W N c (.slice xe c.er.length cpe) (.pointer (some ⟨nb,0,none⟩)):=λW hB=>HSc.out.old (zm hB hN)
 have HH:=za hh
 have HPs:=za hps
 have l1:((q.ns.length:Int)==1)=false:=by simp;omega
 have od1:d.nd.outs<=q.ns.length:=by omega
 have od2:q.ns.length<=d.nd.outs:=by omega
 clear hE h hh hrblk hps hdo
 go_enter Tryz.func105,Tryz.ntmps105
 go_upto_region 3 with fail
 refine zn (λW=>(W.heap[w.heap.size]?=some (.cells #[.slice xe c.er.length cpe,.pointer (some ⟨nb,0,none⟩)] 206 (0,0))/\W.heap[w.heap.size+1]?=some (.cells #[.slice xl q.ns.length cl,.int .i64 q.a,.pointer (some ⟨rb,0,none⟩)] 166 (0,0)))/\Below w.heap.size w W) ⟨al2 w _ _,zaD w _ _⟩ ?_
 rintro W ⟨⟨hs,hs2⟩,hB⟩
 obtain ⟨s0,s1,sf,sz⟩:=zp hs
 obtain ⟨r0,r1,r2,rf,rz⟩:=zL hs2
 have HB:=za hB
 have hzW:=hB.size
 obtain ⟨m0,m1,m2,m3,m4,m5,mf,mz⟩:=zt ((hB.block rb hrz).trans HRb.out)
 have HC1:=za (zah q.r.s (q.r.nm:Int) W.drew (PRE W.drew (zo hB)) (by show N<=W.heap.size;omega) hc.few hd)
 have HC2:=za (λo=>zah q.r.s (q.r.nm:Int) (W.alloc o).drew (PRE _ (zo (hB.alloc (by omega) o))) (by show N<=(W.alloc o).heap.size;simp;omega) hc.few hd)
 have Hs:=za hs
 have Hs2:=za hs2
 clear hs hs2 hB sf rf m0 m1 m4 m5 mf
 go_region_held3 (λw'=>w'.cell? ⟨w.heap.size,0,none⟩=some (.slice xe c.er.length cpe)/\w'.cell? ⟨w.heap.size,1,none⟩=some (.pointer (some ⟨nb,0,none⟩))/\w'.cell? ⟨w.heap.size+1,2,none⟩=some (.pointer (some ⟨rb,0,none⟩))/\w'.cell? ⟨rb,2,none⟩=some (.string q.r.s)/\w'.cell? ⟨rb,3,none⟩=some (.int .i64 q.r.nm))
  (first|(refine ⟨?_,?_,?_,?_,?_⟩ <;> repeat (first|with_reducible exact s0|with_reducible exact s1|with_reducible exact r2|with_reducible exact m2|with_reducible exact m3|with_reducible refine zg ?_|with_reducible refine zj _ ?_|with_reducible refine zk (by omega) ?_|with_reducible refine zd HB1.out ?_ (by first|omega|(rw [zsb];omega))))|go_keep)
  (first
    | (go_at_call 96;refine HC1.out.mono ?_;rintro e w1 ⟨x2,cp2,n2,rfl,hsc,hB1⟩;have HB1:=za (zw hB1);have HS2:=za hsc;clear hB1 hsc)
    | (go_at_call 96;refine (HC2.out _).mono ?_;rintro e w1 ⟨x2,cp2,n2,rfl,hsc,hB1⟩;have HB1:=za (zw hB1);have HS2:=za hsc;obtain ⟨y0,y1,yf,yz⟩:=zp ((HB1.out.block W.heap.size (by rw [zsb];omega)).trans (zc W _));clear hB1 hsc))
 · go_upto_region 4 with fail
   refine zn (λW2=>Got w N d w1.heap.size n2 x2 cp2 W2/\(W2.heap[w.heap.size]?=some (.cells #[.slice xe c.er.length cpe,.pointer (some ⟨nb,0,none⟩)] 206 (0,0))/\W2.heap[w.heap.size+1]?=some (.cells #[.slice xl q.ns.length cl,.int .i64 q.a,.pointer (some ⟨rb,0,none⟩)] 166 (0,0)))) ⟨zow HB.out HB1.out HS2.out hN,(Below.heap_alloc _ _ _ (by have:=HB1.out.size;omega)).trans ((HB1.out.block _ sz).trans Hs.out),(Below.heap_alloc _ _ _ (by have:=HB1.out.size;omega)).trans ((HB1.out.block _ rz).trans Hs2.out)⟩ ?_
   rintro W2 ⟨hG,hsb,hsb2⟩
   obtain ⟨t0,t1,tf,tz⟩:=zp hG.box
   have HG:=za hG
   obtain ⟨p0,p1,pf,pz⟩:=zp hsb
   obtain ⟨e0,e1,e2,ef,ez⟩:=zL hsb2
   have hzz:=hG.bel.size
   obtain ⟨n2',vs2,qv2,xs2,e9,hnt⟩:=hG.sc.nd
   cases e9
   have hn2:=hnt.lo
   have HNt:=za hnt
   have HR:=za (zdM W2 hnt hio (by omega))
   clear hG hsb hsb2 hnt s0 s1 r0 r1 r2 m2 m3 HB1 HS2 HC1 HC2
   go_wp2_with (go_at_call 139;refine HR.out.mono ?_;rintro e w3 ⟨g9,cp9,e9,rfl,hB3⟩;subst e9;have HB3:=za hB3;have hz3:=hB3.size;clear hB3)
   have hvl:d.nd.results.length=d.nd.outs:=by unfold Nod.results;simp;omega
   have Hvl:=za hvl
   have hHm:zaE c (q.ns.drop 0) (d.nd.results.drop 0)=zaE c q.ns d.nd.results:=rfl
   have HHm:=za hHm
   clear hvl hHm
   go_loopg [39] (d.nd.outs+1) (λj i wr=>∃k:Nat,k+j=d.nd.outs+1/\k<=d.nd.outs/\i=.int .i64 k/\Hid (zaE c (q.ns.drop k) (d.nd.results.drop k)=zaE c q.ns d.nd.results)/\Hid (Below W2.heap.size W2 wr))
   case atStart=>exact ⟨0,by omega,Nat.zero_le _,rfl,HHm.out,HB3.out⟩
   case round =>
    obtain ⟨k,hkj,hk,rfl,HS,HBr⟩:=hrel
    have hBw:Below w.heap.size w wr:=HG.out.bel.trans (HBr.out.mono hzz)
    have HBw:=za hBw
    have hzr:=HBr.out.size
    by_cases hlt:k<d.nd.outs
    · obtain ⟨s,hsk⟩:∃s,q.ns[k]?=some s:=⟨_,zsc (by omega)⟩
      obtain ⟨p,hpk⟩:∃p,q.ps[k]?=some p:=⟨_,zsc (by have:=HPs.out;omega)⟩
      obtain ⟨v,hvk⟩:∃v,d.nd.results[k]?=some v:=⟨_,zsc (by have:=Hvl.out;omega)⟩
      have hvv:d.nd.vars[d.nd.ins+k]?=some v:=by
       unfold Nod.results at hvk
       rw [List.getElem?_take_of_lt hlt,List.getElem?_drop] at hvk
       exact hvk
      have hnt2:=HNt.out.old (zm HBr.out (by omega:N<=W2.heap.size))
      obtain ⟨gv,e9,z0,z1,c2,z3,z4,z5,z6⟩:=zaM hnt2.vown hvv
      simp only [Option.some.injEq,Addr.mk.injEq,and_true] at e9
      subst e9
      have hidx:(d.nd.ins+k)*7=d.nd.ins*7+k*7:=by omega
      rw [hidx] at z0 z1 c2 z3 z4 z5 z6
      have hE2:=HEq.out.old (zm hBw hN)
      obtain ⟨g,rfl,c0,c1⟩:=zbe hE2.own hsk hpk rfl
      have hgN:=hE2.lo g rfl
      have b0:=zd HBr.out p0 pz
      have b1:=zd HBr.out p1 pz
      have f0:=zd HBr.out e0 ez
      have hhs:=HH.out s (List.mem_of_getElem? hsk)
      have HT:=za (λo=>zbD s (p:Int) (wr.alloc o).drew (PRE _ (zo (hBw.alloc (by omega) o))) (by show N<=(wr.alloc o).heap.size;simp;omega) hhs)
      have hS:=ze7 (c:=c) hsk hvk
      rw [HS.out] at hS
      have hty:tyV v=zaK v:=rfl
      rw [hty] at hS
      have hgz:g<wr.heap.size:=by omega
      have k0:(0:Int)<=(k:Int):=by omega
      have k1:(k:Int)<(q.ns.length:Int):=by omega
      clear HS hsk hpk hvk hvv hnt2 hE2 hty hidx hhs hBw HB3
      generalize c.decl s=y1 at *
      by_cases hq:y1=zaK v
      · have hq':((y1:Int) != (zaK v:Int))=false:=by simp [hq]
        rw [if_neg (by simp [hq])] at hS
        have HS2:=za hS
        clear hS
        go_upto_region 7 with fail
        refine zn (λW3=>(W3.cell? ⟨w.heap.size,0,none⟩=some (.slice xe c.er.length cpe)/\W3.cell? ⟨w.heap.size,1,none⟩=some (.pointer (some ⟨nb,0,none⟩))/\W3.cell? ⟨w.heap.size+1,0,none⟩=some (.slice (some ⟨g,0,none⟩) q.ns.length cl)/\W3.cell? ⟨g,k*2,none⟩=some (.string s)/\W3.cell? ⟨g,k*2+1,none⟩=some (.int .i64 p)/\W3.cell? ⟨wr.heap.size,2,none⟩=some (.int .i64 (zaK v:Nat)))/\∃o,W3=wr.alloc o) ⟨⟨zj _ b0,zj _ b1,zj _ f0,zj _ c0,zj _ c1,by simp⟩,_,rfl⟩ ?_
        rintro W3 ⟨⟨w0,w1',w2',w3',w4',w5'⟩,o,rfl⟩
        have HT1:=za (HT.out o)
        clear HT z0 z1 z3 z4 z5 z6 b0 b1 f0 c0 c1 c2
        go_region_held3 (λw'=>w'.cell? ⟨w.heap.size,0,none⟩=some (.slice xe c.er.length cpe)/\w'.cell? ⟨w.heap.size,1,none⟩=some (.pointer (some ⟨nb,0,none⟩))/\w'.cell? ⟨w.heap.size+1,0,none⟩=some (.slice (some ⟨g,0,none⟩) q.ns.length cl)/\w'.cell? ⟨g,k*2,none⟩=some (.string s)/\w'.cell? ⟨g,k*2+1,none⟩=some (.int .i64 p)/\w'.cell? ⟨wr.heap.size,2,none⟩=some (.int .i64 (zaK v:Nat)))
         (first|(refine ⟨?_,?_,?_,?_,?_,?_⟩ <;> first|with_reducible exact zg w0|with_reducible exact zg w1'|with_reducible exact zg w2'|with_reducible exact zg w3'|with_reducible exact zg w4'|with_reducible exact zg w5'|with_reducible exact zd HB1.out w0 (by rw [zsb];omega)|with_reducible exact zd HB1.out w1' (by rw [zsb];omega)|with_reducible exact zd HB1.out w2' (by rw [zsb];omega)|with_reducible exact zd HB1.out w3' (by rw [zsb];omega)|with_reducible exact zd HB1.out w4' (by rw [zsb];omega)|with_reducible exact zd HB1.out w5' (by rw [zsb];omega))|go_keep)
         (first
           | (go_at_call 104;refine HT1.out.mono ?_;rintro e w8 ⟨rfl,hB1⟩;have HB1:=za (zw hB1);clear hB1))
        all_goals go_wp2_with fail
        all_goals
         go_roundg (gk-1)
         case measure=>omega
         exact ⟨k+1,by omega,by omega,by go_num,HS2.out.symm,HBr.out.trans ((zE HB1.out).mono hzr)⟩
      · have hq':((y1:Int) != (zaK v:Int))=true:=by simp;omega
        rw [if_pos (by simp [hq])] at hS
        have HS2:=za hS
        clear hS
        go_upto_region 7 with fail
        refine zn (λW3=>(W3.cell? ⟨w.heap.size,0,none⟩=some (.slice xe c.er.length cpe)/\W3.cell? ⟨w.heap.size,1,none⟩=some (.pointer (some ⟨nb,0,none⟩))/\W3.cell? ⟨w.heap.size+1,0,none⟩=some (.slice (some ⟨g,0,none⟩) q.ns.length cl)/\W3.cell? ⟨g,k*2,none⟩=some (.string s)/\W3.cell? ⟨g,k*2+1,none⟩=some (.int .i64 p)/\W3.cell? ⟨wr.heap.size,2,none⟩=some (.int .i64 (zaK v:Nat)))/\∃o,W3=wr.alloc o) ⟨⟨zj _ b0,zj _ b1,zj _ f0,zj _ c0,zj _ c1,by simp⟩,_,rfl⟩ ?_
        rintro W3 ⟨⟨w0,w1',w2',w3',w4',w5'⟩,o,rfl⟩
        have HT1:=za (HT.out o)
        clear HT z0 z1 z3 z4 z5 z6 b0 b1 f0 c0 c1 c2
        go_region_held3 (λw'=>w'.cell? ⟨w.heap.size,0,none⟩=some (.slice xe c.er.length cpe)/\w'.cell? ⟨w.heap.size,1,none⟩=some (.pointer (some ⟨nb,0,none⟩))/\w'.cell? ⟨w.heap.size+1,0,none⟩=some (.slice (some ⟨g,0,none⟩) q.ns.length cl)/\w'.cell? ⟨g,k*2,none⟩=some (.string s)/\w'.cell? ⟨g,k*2+1,none⟩=some (.int .i64 p)/\w'.cell? ⟨wr.heap.size,2,none⟩=some (.int .i64 (zaK v:Nat)))
         (first|(refine ⟨?_,?_,?_,?_,?_,?_⟩ <;> first|with_reducible exact zg w0|with_reducible exact zg w1'|with_reducible exact zg w2'|with_reducible exact zg w3'|with_reducible exact zg w4'|with_reducible exact zg w5'|with_reducible exact zd HB1.out w0 (by rw [zsb];omega)|with_reducible exact zd HB1.out w1' (by rw [zsb];omega)|with_reducible exact zd HB1.out w2' (by rw [zsb];omega)|with_reducible exact zd HB1.out w3' (by rw [zsb];omega)|with_reducible exact zd HB1.out w4' (by rw [zsb];omega)|with_reducible exact zd HB1.out w5' (by rw [zsb];omega))|go_keep)
         (first
           | (go_at_call 104;refine HT1.out.mono ?_;rintro e w8 ⟨rfl,hB1⟩;have HB1:=za (zw hB1);clear hB1))
        all_goals go_wp2_with fail
        all_goals go_ret
        all_goals exact ⟨by rw [HE.out,HS2.out];rfl,HBw.out.trans ((zE HB1.out).mono (by omega))⟩
    · have hS:zaE c q.ns d.nd.results=true:=by
       rw [<- HS.out,List.drop_of_length_le (by omega)]
       cases d.nd.results.drop k <;> rfl
      have HS2:=za hS
      clear HS hS
      go_wp2_with fail
      go_ret
      exact ⟨by rw [HE.out,HS2.out];rfl,hBw⟩
 · go_upto_region 4 with fail
   refine zn (λW2=>Got w N d W.heap.size n2 x2 cp2 W2/\(W2.heap[w.heap.size]?=some (.cells #[.slice xe c.er.length cpe,.pointer (some ⟨nb,0,none⟩)] 206 (0,0))/\W2.heap[w.heap.size+1]?=some (.cells #[.slice xl q.ns.length cl,.int .i64 q.a,.pointer (some ⟨rb,0,none⟩)] 166 (0,0)))) ⟨zos HB.out HB1.out HS2.out hN,(zr (by omega) rfl).trans ((zr (by omega) rfl).trans ((HB1.out.block _ (by rw [zsb];omega)).trans ((Below.heap_alloc _ _ _ sz).trans Hs.out))),(zr (by omega) rfl).trans ((zr (by omega) rfl).trans ((HB1.out.block _ (by rw [zsb];omega)).trans ((Below.heap_alloc _ _ _ rz).trans Hs2.out)))⟩ ?_
   rintro W2 ⟨hG,hsb,hsb2⟩
   obtain ⟨t0,t1,tf,tz⟩:=zp hG.box
   have HG:=za hG
   obtain ⟨p0,p1,pf,pz⟩:=zp hsb
   obtain ⟨e0,e1,e2,ef,ez⟩:=zL hsb2
   have hzz:=hG.bel.size
   obtain ⟨n2',vs2,qv2,xs2,e9,hnt⟩:=hG.sc.nd
   cases e9
   have hn2:=hnt.lo
   have HNt:=za hnt
   have HR:=za (zdM W2 hnt hio (by omega))
   clear hG hsb hsb2 hnt s0 s1 r0 r1 r2 m2 m3 HB1 HS2 HC1 HC2
   go_wp2_with (go_at_call 139;refine HR.out.mono ?_;rintro e w3 ⟨g9,cp9,e9,rfl,hB3⟩;subst e9;have HB3:=za hB3;have hz3:=hB3.size;clear hB3)
   have hvl:d.nd.results.length=d.nd.outs:=by unfold Nod.results;simp;omega
   have Hvl:=za hvl
   have hHm:zaE c (q.ns.drop 0) (d.nd.results.drop 0)=zaE c q.ns d.nd.results:=rfl
   have HHm:=za hHm
   clear hvl hHm
   go_loopg [39] (d.nd.outs+1) (λj i wr=>∃k:Nat,k+j=d.nd.outs+1/\k<=d.nd.outs/\i=.int .i64 k/\Hid (zaE c (q.ns.drop k) (d.nd.results.drop k)=zaE c q.ns d.nd.results)/\Hid (Below W2.heap.size W2 wr))
   case atStart=>exact ⟨0,by omega,Nat.zero_le _,rfl,HHm.out,HB3.out⟩
   case round =>
    obtain ⟨k,hkj,hk,rfl,HS,HBr⟩:=hrel
    have hBw:Below w.heap.size w wr:=HG.out.bel.trans (HBr.out.mono hzz)
    have HBw:=za hBw
    have hzr:=HBr.out.size
    by_cases hlt:k<d.nd.outs
    · obtain ⟨s,hsk⟩:∃s,q.ns[k]?=some s:=⟨_,zsc (by omega)⟩
      obtain ⟨p,hpk⟩:∃p,q.ps[k]?=some p:=⟨_,zsc (by have:=HPs.out;omega)⟩
      obtain ⟨v,hvk⟩:∃v,d.nd.results[k]?=some v:=⟨_,zsc (by have:=Hvl.out;omega)⟩
      have hvv:d.nd.vars[d.nd.ins+k]?=some v:=by
       unfold Nod.results at hvk
       rw [List.getElem?_take_of_lt hlt,List.getElem?_drop] at hvk
       exact hvk
      have hnt2:=HNt.out.old (zm HBr.out (by omega:N<=W2.heap.size))
      obtain ⟨gv,e9,z0,z1,c2,z3,z4,z5,z6⟩:=zaM hnt2.vown hvv
      simp only [Option.some.injEq,Addr.mk.injEq,and_true] at e9
      subst e9
      have hidx:(d.nd.ins+k)*7=d.nd.ins*7+k*7:=by omega
      rw [hidx] at z0 z1 c2 z3 z4 z5 z6
      have hE2:=HEq.out.old (zm hBw hN)
      obtain ⟨g,rfl,c0,c1⟩:=zbe hE2.own hsk hpk rfl
      have hgN:=hE2.lo g rfl
      have b0:=zd HBr.out p0 pz
      have b1:=zd HBr.out p1 pz
      have f0:=zd HBr.out e0 ez
      have hhs:=HH.out s (List.mem_of_getElem? hsk)
      have HT:=za (λo=>zbD s (p:Int) (wr.alloc o).drew (PRE _ (zo (hBw.alloc (by omega) o))) (by show N<=(wr.alloc o).heap.size;simp;omega) hhs)
      have hS:=ze7 (c:=c) hsk hvk
      rw [HS.out] at hS
      have hty:tyV v=zaK v:=rfl
      rw [hty] at hS
      have hgz:g<wr.heap.size:=by omega
      have k0:(0:Int)<=(k:Int):=by omega
      have k1:(k:Int)<(q.ns.length:Int):=by omega
      clear HS hsk hpk hvk hvv hnt2 hE2 hty hidx hhs hBw HB3
      generalize c.decl s=y1 at *
      by_cases hq:y1=zaK v
      · have hq':((y1:Int) != (zaK v:Int))=false:=by simp [hq]
        rw [if_neg (by simp [hq])] at hS
        have HS2:=za hS
        clear hS
        go_upto_region 7 with fail
        refine zn (λW3=>(W3.cell? ⟨w.heap.size,0,none⟩=some (.slice xe c.er.length cpe)/\W3.cell? ⟨w.heap.size,1,none⟩=some (.pointer (some ⟨nb,0,none⟩))/\W3.cell? ⟨w.heap.size+1,0,none⟩=some (.slice (some ⟨g,0,none⟩) q.ns.length cl)/\W3.cell? ⟨g,k*2,none⟩=some (.string s)/\W3.cell? ⟨g,k*2+1,none⟩=some (.int .i64 p)/\W3.cell? ⟨wr.heap.size,2,none⟩=some (.int .i64 (zaK v:Nat)))/\∃o,W3=wr.alloc o) ⟨⟨zj _ b0,zj _ b1,zj _ f0,zj _ c0,zj _ c1,by simp⟩,_,rfl⟩ ?_
        rintro W3 ⟨⟨w0,w1',w2',w3',w4',w5'⟩,o,rfl⟩
        have HT1:=za (HT.out o)
        clear HT z0 z1 z3 z4 z5 z6 b0 b1 f0 c0 c1 c2
        go_region_held3 (λw'=>w'.cell? ⟨w.heap.size,0,none⟩=some (.slice xe c.er.length cpe)/\w'.cell? ⟨w.heap.size,1,none⟩=some (.pointer (some ⟨nb,0,none⟩))/\w'.cell? ⟨w.heap.size+1,0,none⟩=some (.slice (some ⟨g,0,none⟩) q.ns.length cl)/\w'.cell? ⟨g,k*2,none⟩=some (.string s)/\w'.cell? ⟨g,k*2+1,none⟩=some (.int .i64 p)/\w'.cell? ⟨wr.heap.size,2,none⟩=some (.int .i64 (zaK v:Nat)))
         (first|(refine ⟨?_,?_,?_,?_,?_,?_⟩ <;> first|with_reducible exact zg w0|with_reducible exact zg w1'|with_reducible exact zg w2'|with_reducible exact zg w3'|with_reducible exact zg w4'|with_reducible exact zg w5'|with_reducible exact zd HB1.out w0 (by rw [zsb];omega)|with_reducible exact zd HB1.out w1' (by rw [zsb];omega)|with_reducible exact zd HB1.out w2' (by rw [zsb];omega)|with_reducible exact zd HB1.out w3' (by rw [zsb];omega)|with_reducible exact zd HB1.out w4' (by rw [zsb];omega)|with_reducible exact zd HB1.out w5' (by rw [zsb];omega))|go_keep)
         (first
           | (go_at_call 104;refine HT1.out.mono ?_;rintro e w8 ⟨rfl,hB1⟩;have HB1:=za (zw hB1);clear hB1))
        all_goals go_wp2_with fail
        all_goals
         go_roundg (gk-1)
         case measure=>omega
         exact ⟨k+1,by omega,by omega,by go_num,HS2.out.symm,HBr.out.trans ((zE HB1.out).mono hzr)⟩
      · have hq':((y1:Int) != (zaK v:Int))=true:=by simp;omega
        rw [if_pos (by simp [hq])] at hS
        have HS2:=za hS
        clear hS
        go_upto_region 7 with fail
        refine zn (λW3=>(W3.cell? ⟨w.heap.size,0,none⟩=some (.slice xe c.er.length cpe)/\W3.cell? ⟨w.heap.size,1,none⟩=some (.pointer (some ⟨nb,0,none⟩))/\W3.cell? ⟨w.heap.size+1,0,none⟩=some (.slice (some ⟨g,0,none⟩) q.ns.length cl)/\W3.cell? ⟨g,k*2,none⟩=some (.string s)/\W3.cell? ⟨g,k*2+1,none⟩=some (.int .i64 p)/\W3.cell? ⟨wr.heap.size,2,none⟩=some (.int .i64 (zaK v:Nat)))/\∃o,W3=wr.alloc o) ⟨⟨zj _ b0,zj _ b1,zj _ f0,zj _ c0,zj _ c1,by simp⟩,_,rfl⟩ ?_
        rintro W3 ⟨⟨w0,w1',w2',w3',w4',w5'⟩,o,rfl⟩
        have HT1:=za (HT.out o)
        clear HT z0 z1 z3 z4 z5 z6 b0 b1 f0 c0 c1 c2
        go_region_held3 (λw'=>w'.cell? ⟨w.heap.size,0,none⟩=some (.slice xe c.er.length cpe)/\w'.cell? ⟨w.heap.size,1,none⟩=some (.pointer (some ⟨nb,0,none⟩))/\w'.cell? ⟨w.heap.size+1,0,none⟩=some (.slice (some ⟨g,0,none⟩) q.ns.length cl)/\w'.cell? ⟨g,k*2,none⟩=some (.string s)/\w'.cell? ⟨g,k*2+1,none⟩=some (.int .i64 p)/\w'.cell? ⟨wr.heap.size,2,none⟩=some (.int .i64 (zaK v:Nat)))
         (first|(refine ⟨?_,?_,?_,?_,?_,?_⟩ <;> first|with_reducible exact zg w0|with_reducible exact zg w1'|with_reducible exact zg w2'|with_reducible exact zg w3'|with_reducible exact zg w4'|with_reducible exact zg w5'|with_reducible exact zd HB1.out w0 (by rw [zsb];omega)|with_reducible exact zd HB1.out w1' (by rw [zsb];omega)|with_reducible exact zd HB1.out w2' (by rw [zsb];omega)|with_reducible exact zd HB1.out w3' (by rw [zsb];omega)|with_reducible exact zd HB1.out w4' (by rw [zsb];omega)|with_reducible exact zd HB1.out w5' (by rw [zsb];omega))|go_keep)
         (first
           | (go_at_call 104;refine HT1.out.mono ?_;rintro e w8 ⟨rfl,hB1⟩;have HB1:=za (zw hB1);clear hB1))
        all_goals go_wp2_with fail
        all_goals go_ret
        all_goals exact ⟨by rw [HE.out,HS2.out];rfl,HBw.out.trans ((zE HB1.out).mono (by omega))⟩
    · have hS:zaE c q.ns d.nd.results=true:=by
       rw [<- HS.out,List.drop_of_length_le (by omega)]
       cases d.nd.results.drop k <;> rfl
      have HS2:=za hS
      clear HS hS
      go_wp2_with fail
      go_ret
      exact ⟨by rw [HE.out,HS2.out];rfl,hBw⟩
end
end Go.Proofs.YtedmpgjebafcjaaGreatDoor
