/- Part 19 of the proof. -/
import Derived.Test.YtbicmofihhjgbaaGreatDoorK17
set_option maxRecDepth 100000
set_option maxHeartbeats 8000000
namespace Go.Proofs.YtbicmofihhjgbaaGreatDoor
open Go.Proofs.Tryz
open Go.RowKit
section
variable {s:Xb} {ns:Xl} {N k:Nat} {c:Sc} {ev nv:Xv}
attribute [local go_sem ↓] Go.wp_at_zero Go.wp_at_succ
theorem zqv:∀(ns:Xl) (ps:Xn) (k:Nat) (s:Xb) (p:Nat),ns[k]?=some s->ps[k]?=some p->(nmC ns ps)[k*2]?=some (.string s)/\(nmC ns ps)[k*2+1]?=some (xI p):=by
 intro ns;induction ns with
 | nil=>intro ps k s p h;simp at h
 | cons a ns ih =>
   intro ps k s p hs hp;cases ps with
   | nil=>simp at hp
   | cons b ps =>
     cases k with
     | zero=>simp at hs hp;subst hs hp;exact⟨rfl,rfl⟩
     | succ k => obtain⟨h1,h2⟩:=ih ps k s p (by simpa using hs) (by simpa using hp);rw[show (k+1)*2=k*2+1+1 by omega];exact⟨by simpa [nmC] using h1,by simpa [nmC] using h2⟩
theorem zbe {w:Xw}{n cp:Nat}{a:Xp}{ps:Xn}(h:w.ownsRow 0 117 2 (.slice a n cp) n (nmC ns ps)){p:Nat}(hs:ns[k]?=some s)(hp:ps[k]?=some p)(hn:n=ns.length) :
 ∃g,a=some (xD g 0)/\w.cell? (xD g (k*2))=some (.string s)/\w.cell? (xD g (k*2+1))=some (xI p):=by
 have hk':=(zMJ.1 hs).1;obtain⟨g,cap,hv,_⟩:=zM h (by omega);cases hv;obtain⟨e1,e2⟩:=zqv ns ps k s p hs hp;have hc:=h.cells (g:=g) rfl;have e0:∀j,((xD g 0):Addr).add j=⟨g,j,none⟩:=λj=>by cases j <;> simp[Addr.add]
 refine⟨g,rfl,?_,?_⟩
 . have:=hc _ _ e1;rwa [e0] at this
 have:=hc _ _ e2;rwa [e0] at this
theorem ze7 {rs:List Vr}{v:Vr}(hs:ns[k]?=some s)(hv:rs[k]?=some v):zaE c (ns.drop k) (rs.drop k)=if (c.decl s != tyV v)=true then false else zaE c (ns.drop (k+1)) (rs.drop (k+1)):=by obtain⟨h1,h2⟩:=zMJ.1 hs;obtain⟨h3,h4⟩:=zMJ.1 hv;rw[zMT h1,zMT h3,h2,h4];rfl
theorem al2 (w:Xw)(o1 o2:Obj):((w.alloc o1).alloc o2).heap[w.heap.size]?=some o1/\((w.alloc o1).alloc o2).heap[w.heap.size+1]?=some o2:=by refine⟨(Below.heap_alloc _ _ _ (by simp)).trans (zc w o1),?_⟩;have:=zc (w.alloc o1) o2;rwa [zsb] at this
theorem zlF (hc:zbr c)(q:Qn)(lv rv:Xv)(w:Xw)(HEq:EqV w N q lv rv)(HSc:ScV w N c ev nv)(hN:N<=w.heap.size)(hO:zdg c q.r)(hh:∀s∈q.ns,c.has s=true)(hps:q.ns.length=q.ps.length)(h1:q.ns.length=1) :
 xK 128 #[.agg #[ev,nv],.agg #[lv,xI q.a,rv]] w (λe w'=>e=.returned (.bool (c.holds q))/\xB w w'):=by
 obtain⟨s,hs⟩:∃s,q.ns[0]?=some s:=⟨_,zsc (by omega)⟩;obtain⟨p,hp⟩:∃p,q.ps[0]?=some p:=⟨_,zsc (by omega)⟩;obtain⟨xl,cl,rfl⟩:=zB HEq.own;obtain⟨g,rfl,c0,c1⟩:=zbe HEq.own hs hp rfl;have hgN:=HEq.lo g rfl;obtain⟨rb,_,_,rfl,hrb,_⟩:=HEq.tt.ptr;obtain⟨xe,cpe,nb,rfl,rfl,hnb⟩:=HSc.shape;have hhs:=hh s (zML hs);have HE:Hid (c.holds q=(c.decl s==zaj c q.r)):=by
  unfold Hid Sc.holds;cases hn:q.ns with
  | nil=>rw[hn] at hs;simp at hs
  | cons x l =>
    cases l with
    | nil=>rw[hn] at hs;simp at hs;subst hs;rfl
    | cons y l=>rw[hn] at h1;simp at h1
 have PRE:∀W,xB w W->ScV W N c (xE xe c cpe) (xP nb):=λW HB=>HSc.old (zm HB hN);have HD:=za (λW (HB:xB w W)=>zbD s (p:Int) W (PRE W HB) (by have:=HB.size;omega) hhs);have HT:=za (λW (HB:xB w W)=>zcQ hc q.r (xP rb) W (HEq.tt.old (zm HB hN)) (PRE W HB) (by have:=HB.size;omega) hO);rw[Nat.zero_mul,Nat.zero_add] at c1;rw[Nat.zero_mul] at c0;have l1:((q.ns.length:Int)==1)=true:=by simp[h1]
 have l0:(0:Int)<(q.ns.length:Int):=by omega
 have l0':0<q.ns.length:=by omega
 clear hO hh hps hs hp hhs h1;generalize c.decl s=y1 at *;generalize zaj c q.r=y2 at *;go_enter func128,ntmps128;go_upto_region 2 with fail;refine zn (λW=>(xH W w.heap.size #[xE xe c cpe,xP nb] 216/\xH W (w.heap.size+1) #[xS g q.ns.length cl,xI q.a,xP rb] 184)/\xB w W) ⟨al2 w _ _,zaD w _ _⟩ ?_;rintro W ⟨⟨hs,hs2⟩,HB⟩;obtain⟨s0,s1,sf,sz⟩:=zp hs;obtain⟨r0,r1,r2,rf,rz⟩:=zL hs2;have hzW:=HB.size;have c0':=zd HB c0 (by omega);have c1':=zd HB c1 (by omega);have HD1:=za (HD.o W.drew (zo HB));clear hs hs2 sf rf
 go_region_held3 (λw'=>w'.cell? (xD w.heap.size 0)=some (xE xe c cpe)/\w'.cell? (xD w.heap.size 1)=some (xP nb)/\w'.cell? (xD (w.heap.size+1) 0)=some (xS g q.ns.length cl)/\w'.cell? (xD (w.heap.size+1) 2)=some (xP rb)/\w'.cell? (xD g 0)=some (.string s)/\w'.cell? (xD g 1)=some (xI p))
  (first|(with_reducible (refine⟨?_,?_,?_,?_,?_,?_⟩ <;> repeat (first|assumption|refine zg ?_|refine zj _ ?_|refine zk (by omega) ?_|refine zd HB2.o ?_ (by first|omega|(rw[zsb];omega))|refine zd HB1.o ?_ (by first|omega|(rw[zsb];omega)))))|go_keep)
  (first
    | (go_at_call 171;refine HD2.o.mono ?_;rintro e w2 ⟨rfl,hB2⟩;have HB2:=za hB2;clear hB2)
    | (go_at_call 127;refine HD1.o.mono ?_;rintro e w1 ⟨rfl,hB1⟩;have HB1:=za (zw hB1);(have hzw1:W.heap.size<=w1.heap.size:=hB1.size);have HD2:=za (HT.o w1 (HB.trans (HB1.o.mono hzW)));clear hB1))
 all_goals go_wp2_with fail
 all_goals go_ret
 all_goals exact⟨by rw[HE.o];exact zky y1 y2,(HB.trans (HB1.o.mono hzW)).trans (HB2.o.mono (by omega))⟩
theorem zk0 {d:Sc}(hc:zbr c)(q:Qn)(lv rv:Xv)(w:Xw)(hE:EqV w N q lv rv)(h:ScV w N c ev nv)(hN:N<=w.heap.size)(hh:∀s∈q.ns,c.has s=true)(hps:q.ns.length=q.ps.length)(h2:2<=q.ns.length)(hd:c.called q.r.s=some d)(hdo:d.nd.outs=q.ns.length) :
 xK 128 #[.agg #[ev,nv],.agg #[lv,xI q.a,rv]] w (λe w'=>e=.returned (.bool (c.holds q))/\xB w w'):=by
 have HEq:=za hE;obtain⟨xl,cl,rfl⟩:=zB hE.own;obtain⟨rb,_,_,rfl,hrb,hrblk,_⟩:=hE.tt.ptr;have hrz:=ze hrblk;have HRb:=za hrblk;have hdw:=(hc.called hd).1.nd;have hio:=hdw.io;have hin1:=hdw.ins;have hfw:=hdw.few;have HSc:=za h;obtain⟨xe,cpe,nb,rfl,rfl,hnb⟩:=h.shape;have HE:Hid (c.holds q=zaE c q.ns d.nd.results):=by
  unfold Hid Sc.holds;cases hn:q.ns with
  | nil=>rw[hn] at h2;simp at h2
  | cons x l =>
    cases l with
    | nil=>rw[hn] at h2;simp at h2
    | cons y l=>simp only[hd]
 have PRE:∀W,xB w W->ScV W N c (xE xe c cpe) (xP nb):=λW hB=>HSc.o.old (zm hB hN);have HH:=za hh;have HPs:=za hps;have l1:((q.ns.length:Int)==1)=false:=by simp;omega
 have od1:d.nd.outs<=q.ns.length:=by omega
 have od2:q.ns.length<=d.nd.outs:=by omega
 clear hE h hh hrblk hps hdo;go_enter func128,ntmps128;go_upto_region 3 with fail;refine zn (λW=>(xH W w.heap.size #[xE xe c cpe,xP nb] 216/\xH W (w.heap.size+1) #[.slice xl q.ns.length cl,xI q.a,xP rb] 184)/\xB w W) ⟨al2 w _ _,zaD w _ _⟩ ?_;rintro W ⟨⟨hs,hs2⟩,hB⟩;obtain⟨s0,s1,sf,sz⟩:=zp hs;obtain⟨r0,r1,r2,rf,rz⟩:=zL hs2;have HB:=za hB;have hzW:=hB.size;obtain⟨m0,m1,m2,m3,m4,m5,mf,mz⟩:=zt ((hB.block rb hrz).trans HRb.o);have HC1:=za (zah q.r.s (q.r.nm:Int) W.drew (PRE W.drew (zo hB)) (by show N<=W.heap.size;omega) hc.few hd);have HC2:=za (λo=>zah q.r.s (q.r.nm:Int) (W.alloc o).drew (PRE _ (zo (hB.alloc (by omega) o))) (by show N<=(W.alloc o).heap.size;simp;omega) hc.few hd);have Hs:=za hs;have Hs2:=za hs2;clear hs hs2 hB sf rf m0 m1 m4 m5 mf
 go_region_held3 (λw'=>w'.cell? (xD w.heap.size 0)=some (xE xe c cpe)/\w'.cell? (xD w.heap.size 1)=some (xP nb)/\w'.cell? (xD (w.heap.size+1) 2)=some (xP rb)/\w'.cell? (xD rb 2)=some (.string q.r.s)/\w'.cell? (xD rb 3)=some (xI q.r.nm))
  (first|(with_reducible (refine⟨?_,?_,?_,?_,?_⟩ <;> repeat (first|assumption|refine zg ?_|refine zj _ ?_|refine zk (by omega) ?_|refine zd HB1.o ?_ (by first|omega|(rw[zsb];omega)))))|go_keep)
  (first
    | (go_at_call 119;refine HC1.o.mono ?_;rintro e w1 ⟨x2,cp2,n2,rfl,hsc,hB1⟩;have HB1:=za (zw hB1);have HS2:=za hsc;clear hB1 hsc)
    | (go_at_call 119;refine (HC2.o _).mono ?_;rintro e w1 ⟨x2,cp2,n2,rfl,hsc,hB1⟩;have HB1:=za (zw hB1);have HS2:=za hsc;obtain⟨y0,y1,yf,yz⟩:=zp ((HB1.o.block W.heap.size (by rw[zsb];omega)).trans (zc W _));clear hB1 hsc))
 all_goals go_upto_region 4 with fail
 refine zn (λW2=>Got w N d w1.heap.size n2 x2 cp2 W2/\(xH W2 w.heap.size #[xE xe c cpe,xP nb] 216/\xH W2 (w.heap.size+1) #[.slice xl q.ns.length cl,xI q.a,xP rb] 184)) ⟨zow HB.o HB1.o HS2.o hN,(Below.heap_alloc _ _ _ (by have:=HB1.o.size;omega)).trans ((HB1.o.block _ sz).trans Hs.o),(Below.heap_alloc _ _ _ (by have:=HB1.o.size;omega)).trans ((HB1.o.block _ rz).trans Hs2.o)⟩ ?_;rotate_left;refine zn (λW2=>Got w N d W.heap.size n2 x2 cp2 W2/\(xH W2 w.heap.size #[xE xe c cpe,xP nb] 216/\xH W2 (w.heap.size+1) #[.slice xl q.ns.length cl,xI q.a,xP rb] 184)) ⟨zos HB.o HB1.o HS2.o hN,(zr (by omega) rfl).trans ((zr (by omega) rfl).trans ((HB1.o.block _ (by rw[zsb];omega)).trans ((Below.heap_alloc _ _ _ sz).trans Hs.o))),(zr (by omega) rfl).trans ((zr (by omega) rfl).trans ((HB1.o.block _ (by rw[zsb];omega)).trans ((Below.heap_alloc _ _ _ rz).trans Hs2.o)))⟩ ?_
 all_goals
  rintro W2 ⟨hG,hsb,hsb2⟩;obtain⟨t0,t1,tf,tz⟩:=zp hG.box;have HG:=za hG;obtain⟨p0,p1,pf,pz⟩:=zp hsb;obtain⟨e0,e1,e2,ef,ez⟩:=zL hsb2;have hzz:=hG.bel.size;obtain⟨n2',vs2,qv2,xs2,e9,hnt⟩:=hG.sc.nd;cases e9;have hn2:=hnt.lo;have HNt:=za hnt;have HR:=za (zdM W2 hnt hio (by omega));clear hG hsb hsb2 hnt s0 s1 r0 r1 r2 m2 m3 HB1 HS2 HC1 HC2;go_wp2_with (go_at_call 88;refine HR.o.mono ?_;rintro e w3 ⟨g9,cp9,e9,rfl,hB3⟩;subst e9;have HB3:=za hB3;have hz3:=hB3.size;clear hB3);have hvl:d.nd.results.length=d.nd.outs:=by unfold Nod.results;simp;omega
  have Hvl:=za hvl;have hHm:zaE c (q.ns.drop 0) (d.nd.results.drop 0)=zaE c q.ns d.nd.results:=rfl;have HHm:=za hHm;clear hvl hHm;go_loopg [39] (d.nd.outs+1) (λj i wr=>∃k:Nat,k+j=d.nd.outs+1/\k<=d.nd.outs/\i=xI k/\Hid (zaE c (q.ns.drop k) (d.nd.results.drop k)=zaE c q.ns d.nd.results)/\Hid (xB W2 wr));case atStart=>exact⟨0,by omega,zMN _,rfl,HHm.o,HB3.o⟩
  case round =>
   obtain⟨k,hkj,hk,rfl,HS,HBr⟩:=hrel;have hBw:xB w wr:=HG.o.bel.trans (HBr.o.mono hzz);have HBw:=za hBw;have hzr:=HBr.o.size;by_cases hlt:k<d.nd.outs
   . obtain⟨s,hsk⟩:∃s,q.ns[k]?=some s:=⟨_,zsc (by omega)⟩;obtain⟨p,hpk⟩:∃p,q.ps[k]?=some p:=⟨_,zsc (by have:=HPs.o;omega)⟩;obtain⟨v,hvk⟩:∃v,d.nd.results[k]?=some v:=⟨_,zsc (by have:=Hvl.o;omega)⟩;have hvv:d.nd.vars[d.nd.ins+k]?=some v:=(by unfold Nod.results at hvk;rw[List.getElem?_take_of_lt hlt,List.getElem?_drop] at hvk;exact hvk);have hnt2:=HNt.o.old (zm HBr.o (by omega:N<=W2.heap.size));obtain⟨gv,e9,z0,z1,c2,z3,z4,z5,z6⟩:=zaM hnt2.vown hvv;simp only[Option.some.injEq,Addr.mk.injEq,and_true] at e9;subst e9;have hidx:(d.nd.ins+k)*7=d.nd.ins*7+k*7:=(by omega);rw[hidx] at z0 z1 c2 z3 z4 z5 z6;have hE2:=HEq.o.old (zm hBw hN);obtain⟨g,rfl,c0,c1⟩:=zbe hE2.own hsk hpk rfl;have hgN:=hE2.lo g rfl;have b0:=zd HBr.o p0 pz;have b1:=zd HBr.o p1 pz;have f0:=zd HBr.o e0 ez;have hhs:=HH.o s (zML hsk);have HT:=za (λo=>zbD s (p:Int) (wr.alloc o).drew (PRE _ (zo (hBw.alloc (by omega) o))) (by show N<=(wr.alloc o).heap.size;simp;omega) hhs);have hS:=ze7 (c:=c) hsk hvk;rw[HS.o] at hS;have hty:tyV v=zaK v:=rfl;rw[hty] at hS;have hgz:g<wr.heap.size:=(by omega);have k0:(0:Int)<=(k:Int):=(by omega);have k1:(k:Int)<(q.ns.length:Int):=(by omega);clear HS hsk hpk hvk hvv hnt2 hE2 hty hidx hhs hBw HB3;generalize c.decl s=y1 at *;by_cases hq:y1=zaK v
     . have hq':((y1:Int) != (zaK v:Int))=false:=(by simp[hq]);rw[zM1 (by simp[hq])] at hS;have HS2:=za hS;clear hS;go_upto_region 7 with fail;refine zn (λW3=>(W3.cell? (xD w.heap.size 0)=some (xE xe c cpe)/\W3.cell? (xD w.heap.size 1)=some (xP nb)/\W3.cell? (xD (w.heap.size+1) 0)=some (xS g q.ns.length cl)/\W3.cell? (xD g (k*2))=some (.string s)/\W3.cell? (xD g (k*2+1))=some (xI p)/\W3.cell? (xD wr.heap.size 2)=some (xI (zaK v:Nat)))/\∃o,W3=wr.alloc o) ⟨⟨zj _ b0,zj _ b1,zj _ f0,zj _ c0,zj _ c1,by simp⟩,_,rfl⟩ ?_;rintro W3 ⟨⟨w0,w1',w2',w3',w4',w5'⟩,o,rfl⟩;have HT1:=za (HT.o o);clear HT z0 z1 z3 z4 z5 z6 b0 b1 f0 c0 c1 c2
       go_region_held3 (λw'=>w'.cell? (xD w.heap.size 0)=some (xE xe c cpe)/\w'.cell? (xD w.heap.size 1)=some (xP nb)/\w'.cell? (xD (w.heap.size+1) 0)=some (xS g q.ns.length cl)/\w'.cell? (xD g (k*2))=some (.string s)/\w'.cell? (xD g (k*2+1))=some (xI p)/\w'.cell? (xD wr.heap.size 2)=some (xI (zaK v:Nat)))
        (first|(with_reducible (refine⟨?_,?_,?_,?_,?_,?_⟩ <;> repeat (first|assumption|refine zg ?_|refine zd HB1.o ?_ (by rw[zsb];omega))))|go_keep)
        (first
          | (go_at_call 127;refine HT1.o.mono ?_;rintro e w8 ⟨rfl,hB1⟩;have HB1:=za (zw hB1);clear hB1))
       all_goals go_wp2_with fail
       all_goals
        go_roundg (gk-1);case measure=>omega
        exact⟨k+1,by omega,by omega,by go_num,HS2.o.symm,HBr.o.trans ((zE HB1.o).mono hzr)⟩
     have hq':((y1:Int) != (zaK v:Int))=true:=(by simp;omega);rw[zM2 (by simp[hq])] at hS;have HS2:=za hS;clear hS;go_upto_region 7 with fail;refine zn (λW3=>(W3.cell? (xD w.heap.size 0)=some (xE xe c cpe)/\W3.cell? (xD w.heap.size 1)=some (xP nb)/\W3.cell? (xD (w.heap.size+1) 0)=some (xS g q.ns.length cl)/\W3.cell? (xD g (k*2))=some (.string s)/\W3.cell? (xD g (k*2+1))=some (xI p)/\W3.cell? (xD wr.heap.size 2)=some (xI (zaK v:Nat)))/\∃o,W3=wr.alloc o) ⟨⟨zj _ b0,zj _ b1,zj _ f0,zj _ c0,zj _ c1,by simp⟩,_,rfl⟩ ?_;rintro W3 ⟨⟨w0,w1',w2',w3',w4',w5'⟩,o,rfl⟩;have HT1:=za (HT.o o);clear HT z0 z1 z3 z4 z5 z6 b0 b1 f0 c0 c1 c2
     go_region_held3 (λw'=>w'.cell? (xD w.heap.size 0)=some (xE xe c cpe)/\w'.cell? (xD w.heap.size 1)=some (xP nb)/\w'.cell? (xD (w.heap.size+1) 0)=some (xS g q.ns.length cl)/\w'.cell? (xD g (k*2))=some (.string s)/\w'.cell? (xD g (k*2+1))=some (xI p)/\w'.cell? (xD wr.heap.size 2)=some (xI (zaK v:Nat)))
      (first|(with_reducible (refine⟨?_,?_,?_,?_,?_,?_⟩ <;> repeat (first|assumption|refine zg ?_|refine zd HB1.o ?_ (by rw[zsb];omega))))|go_keep)
      (first
        | (go_at_call 127;refine HT1.o.mono ?_;rintro e w8 ⟨rfl,hB1⟩;have HB1:=za (zw hB1);clear hB1))
     all_goals go_wp2_with fail
     all_goals go_ret
     all_goals exact⟨by rw[HE.o,HS2.o];rfl,HBw.o.trans ((zE HB1.o).mono (by omega))⟩
   have hS:zaE c q.ns d.nd.results=true:=(by rw[<- HS.o,List.drop_of_length_le (by omega)];cases d.nd.results.drop k <;> rfl);have HS2:=za hS;clear HS hS;go_wp2_with fail;go_ret;exact⟨by rw[HE.o,HS2.o];rfl,hBw⟩
end
section
variable {S:Xs}
theorem zxy:zH 157:=λ_ _=>by kernel_rfl
theorem zxc {lb B N b1 b2:Nat}{w0 W:Xw}{tv0:Xv}{ts:Xl}(H0:LnI lb B w0 tv0 W ts)(hN:N<=lb)(q:Qn)(lv rv:Xv)(hq:EqV w0 N q lv rv)(hl:q.ns.length=q.ps.length)
 (hX:Bx lb B (.cells #[lv,xI q.a,rv] 184 (0,0)) b1 b2 w0 tv0) (i:Nat) (s:Xb) (hi:q.ns[i]?=some s) (hm:(ts++[s]).length<=10000000000) :
 xK 157 (#[xI i]++#[xP b1,xP b2]) W (zu1 lb B w0 tv0 (ts++[s])):=by
 have hil:=(zMJ.1 hi).1;obtain⟨p,hp⟩:∃p,q.ps[i]?=some p:=⟨_,zsc (by omega)⟩;obtain⟨xl,cl,rfl⟩:=zB hq.own;obtain⟨g,rfl,u0,_⟩:=zbe hq.own hi hp rfl;have hgN:=hq.lo g rfl;have HKp:Hid (∀(w':Xw) (ts':Xl),LnI lb B w0 tv0 w' ts'->xC w' b1 0 (xP lb)/\xC w' b2 0 (xS g q.ns.length cl)/\xC w' g (i*2) (.string s)):=λw' ts' h'=>⟨(zu (hX.at h').1).1,(zL (hX.at h').2).1,(zuZ (h'.old hN) hgN).trans u0⟩;obtain⟨p0,q0,c0⟩:=HKp.o _ _ H0;have hz2:b2<W.heap.size:=ze (hX.at H0).2;have hz1:b1<W.heap.size:=ze (hX.at H0).1;have hgz:g<W.heap.size:=by have:=H0.size;have:=(hq.own.lt g rfl).2;omega
 obtain⟨L,hL⟩:∃L,q.ns.length=L:=⟨_,rfl⟩;have h16:L<=9223372036854775807:=by
  rw[<- hL];rcases hq.own.2 with ⟨_,H0⟩|⟨g,cap,cur,hv,_,_,h3,h4,_⟩
  . omega
  unfold maxLen at h4;omega
 rw[hL] at q0 hil HKp;clear hq hX hi hp u0 hgN hL hl
 show Calls prog _ #[xI i,xP b1,xP b2] W _;go_enter func157,ntmps157;go_region_held3 (λw'=>w'.cell? (xD b1 0)=some (xP lb)/\w'.cell? (xD b2 0)=some (xS g L cl)/\w'.cell? (xD g (i*2))=some (.string s)) (first|go_keep|exact HKp.o _ _ H1) (first|(go_at_call 89;refine (zu2 H0 [s] 1 rfl hm _ rfl).mono ?_;rintro e w1 ⟨rfl,H1⟩));all_goals first|go_end0|refine bodyPost_ret (results_none rfl _ _ _) rfl ?_
 all_goals exact⟨rfl,H1⟩
def EqC (S:Xs)(q:Qn):Prop:=∀(lb B N:Nat) (w0 W:Xw) (tv0:Xv) (ts:Xl) (lv rv:Xv),LnI lb B w0 tv0 W ts->N<=lb->21<=N->Kn S w0->EqV w0 N q lv rv->(ts++zvd q).length<=10000000000->xK 95 #[xP lb,.agg #[lv,xI q.a,rv]] W (zu1 lb B w0 tv0 (ts++zvd q))
theorem zJo (q:Qn)(hl:q.ns.length=q.ps.length)(hone:q.ns.length=1)(hE:zvc S q.r):EqC S q:=by
 intro lb B N w0 W tv0 ts lv rv h hN h21 hKn hq hm;obtain⟨tv,hb,hX,hback⟩:=h.boxes (.cells #[lv,xI q.a,rv] 184);obtain⟨wb,ewb⟩:∃wb,wb=(W.alloc (.cells #[xP lb] 175)).alloc (.cells #[lv,xI q.a,rv] 184):=⟨_,rfl⟩;have hKb:Kn S wb:=ewb▸hKn.ln ((h.alloc _).alloc _) (by omega);have hOb:Old N w0 wb:=ewb▸((h.alloc _).alloc _).old hN;rw[<- ewb] at hb hX hback;have hqb:=hq.old hOb;obtain⟨rb,_,_,rfl,_⟩:=hqb.tt.ptr;obtain⟨xl,cl,rfl⟩:=zB hqb.own;obtain⟨s,hs⟩:∃s,q.ns[0]?=some s:=⟨_,zsc (by omega)⟩;obtain⟨p,hp⟩:∃p,q.ps[0]?=some p:=⟨_,zsc (by omega)⟩;obtain⟨g,rfl,u0,_⟩:=zbe hqb.own hs hp rfl;have u0:xC wb g 0 (.string s):=by simpa using u0
 have hgN:=hqb.lo g rfl;have HKp:Hid (∀(w':Xw) (ts':Xl),LnI lb B wb tv w' ts'->xC w' W.heap.size 0 (xP lb)/\xC w' (W.heap.size+1) 0 (xS g q.ns.length cl)/\xC w' g 0 (.string s)/\xC w' (W.heap.size+1) 2 (xP rb)):=λw' ts' h'=>⟨(zu (hX.at h').1).1,(zL (hX.at h').2).1,(zuZ (h'.old hN) hgN).trans u0,(zL (hX.at h').2).2.2.1⟩;obtain⟨p0,q0,c0,r0⟩:=HKp.o _ _ hb;have hWz:W.heap.size+1<wb.heap.size:=by rw[ewb];simp only[zsb];omega
 have hgz:g<wb.heap.size:=(hqb.own.lt g rfl).2;have h16:q.ns.length<=10000000000:=by omega
 have htw:(W.alloc (.cells #[xP lb] 175)).alloc (.cells #[xS g q.ns.length cl,xI q.a,xP rb] 184)=wb:=ewb.symm;have H0:=za hb;have HM:=za hm;have HQ:=za hqb;have HX:=za hX;have HK:=za hKb;have HB:=za hback;have HE:=za hE;have Hs:=za hs;have Hl:=za hl;clear h hKn hq hb hX hback hKb hOb hqb hE hm ewb u0 hs hp hl;have e1:q.ns=[s]:=by
  have:=Hs.o
  match hq:q.ns,hone with
  | [x],_=>rw[hq] at this;simp at this;rw[this]
 have el:zvd q=[s]++([⟨#[61]⟩]++(exT q.r++[⟨#[59]⟩])):=by unfold zvd;rw[zM2 hone,e1]
 rw[el] at HM ⊢;rw[hone] at q0 HKp htw ⊢;clear el e1 hone Hs;go_enter func95,ntmps95;go_upto_region 1 with fail;clear htw;go_upto_region 2 with fail;go_region_held3 (λw'=>w'.cell? (xD W.heap.size 0)=some (xP lb)/\w'.cell? (xD (W.heap.size+1) 0)=some (xS g 1 cl)/\w'.cell? (xD g 0)=some (.string s)) (first|go_keep|exact⟨(HKp.o _ _ H1.o).1,(HKp.o _ _ H1.o).2.1,(HKp.o _ _ H1.o).2.2.1⟩) (first|(go_at_call 89;refine (zu2 H0.o [s] 1 rfl (by have:=HM.o;simp only[zMM,zMR,zNb] at this ⊢;omega) _ rfl).mono ?_;rintro e w1 ⟨rfl,h1⟩;have H1:=za h1;clear h1));obtain⟨p1,_,_,r1⟩:=HKp.o _ _ H1.o;clear p0 q0 c0 r0;have tk:=trivial;go_wp2_with (clear tk;go_at_call 89;refine (zu0 H1.o [⟨#[61]⟩] 1 rfl (by have:=HM.o;simp only[zMM,zMR,zNb] at this ⊢;omega) _ rfl).mono ?_);rintro e w2 ⟨rfl,h2⟩;obtain⟨p2,_,_,r2⟩:=HKp.o _ _ h2;have H2:=za h2;clear h2 p1 r1;have tk:=trivial;go_wp2_with (clear tk;go_at_call 158;refine (HE.o lb B N wb tv _ _ _ hN h21 HQ.o.tt HK.o H2.o (by have:=HM.o;simp only[zMM,zMR,zNb] at this ⊢;omega)).mono ?_);rintro e w3 ⟨rfl,h3⟩;obtain⟨p3,_,_,r3⟩:=HKp.o _ _ h3;have H3:=za h3;clear h3 p2 r2;have tk:=trivial;go_wp2_with (clear tk;go_at_call 89;refine (zu0 H3.o [⟨#[59]⟩] 1 rfl (by have:=HM.o;simp only[zMM,zMR,zNb] at this ⊢;omega) _ rfl).mono ?_;rintro e w4 ⟨rfl,h4⟩;have H4:=za h4;clear h4);first|go_end0|refine bodyPost_ret (results_none rfl _ _ _) rfl ?_
 exact⟨rfl,HB.o _ _ (by simpa [zMQ] using H4.o)⟩
theorem zvX (q:Qn)(hl:q.ns.length=q.ps.length)(h1:1<=q.ns.length)(hE:zvc S q.r):EqC S q:=by
 by_cases hone:q.ns.length=1
 . exact zJo q hl hone hE
 intro lb B N w0 W tv0 ts lv rv h hN h21 hKn hq hm;obtain⟨tv,hb,hX,hback⟩:=h.boxes (.cells #[lv,xI q.a,rv] 184);obtain⟨wb,ewb⟩:∃wb,wb=(W.alloc (.cells #[xP lb] 175)).alloc (.cells #[lv,xI q.a,rv] 184):=⟨_,rfl⟩;have hKb:Kn S wb:=ewb▸hKn.ln ((h.alloc _).alloc _) (by omega);have hOb:Old N w0 wb:=ewb▸((h.alloc _).alloc _).old hN;rw[<- ewb] at hb hX hback;have hqb:=hq.old hOb;obtain⟨rb,_,_,rfl,_⟩:=hqb.tt.ptr;obtain⟨xl,cl,rfl⟩:=zB hqb.own;obtain⟨s,hs⟩:∃s,q.ns[0]?=some s:=⟨_,zsc (by omega)⟩;obtain⟨p,hp⟩:∃p,q.ps[0]?=some p:=⟨_,zsc (by omega)⟩;obtain⟨g,rfl,u0,_⟩:=zbe hqb.own hs hp rfl;have u0:xC wb g 0 (.string s):=by simpa using u0
 have hgN:=hqb.lo g rfl;have HKp:Hid (∀(w':Xw) (ts':Xl),LnI lb B wb tv w' ts'->xC w' W.heap.size 0 (xP lb)/\xC w' (W.heap.size+1) 0 (xS g q.ns.length cl)/\xC w' g 0 (.string s)/\xC w' (W.heap.size+1) 2 (xP rb)):=λw' ts' h'=>⟨(zu (hX.at h').1).1,(zL (hX.at h').2).1,(zuZ (h'.old hN) hgN).trans u0,(zL (hX.at h').2).2.2.1⟩;obtain⟨p0,q0,c0,r0⟩:=HKp.o _ _ hb;have hWz:W.heap.size+1<wb.heap.size:=by rw[ewb];simp only[zsb];omega
 have hgz:g<wb.heap.size:=(hqb.own.lt g rfl).2;have h16:q.ns.length<=10000000000:=by
  have:=hm;simp only[zvd,zMM] at this;rw[zM1 hone] at this;unfold zu5 at this;simp only[zMM] at this;have e:∀(l:Xl) (b:Bool),l.length<=(zu6 b (l.map (λs=>[s]))).length:=by
   intro l;induction l with
   | nil=>intro b;simp
   | cons x l ih=>intro b;have:=ih true;simp only[List.map_cons,zu6,zMM,zMR];omega
  have:=e q.ns false;omega
 have htw:(W.alloc (.cells #[xP lb] 175)).alloc (.cells #[xS g q.ns.length cl,xI q.a,xP rb] 184)=wb:=ewb.symm;have H0:=za hb;have HM:=za hm;have HQ:=za hqb;have HX:=za hX;have HK:=za hKb;have HB:=za hback;have HE:=za hE;have Hs:=za hs;have Hl:=za hl;clear h hKn hq hb hX hback hKb hOb hqb hE hm ewb u0 hs hp hl;have el:zvd q=zu5 (q.ns.map (λs=>[s]))++([⟨#[61]⟩]++(exT q.r++[⟨#[59]⟩])):=by unfold zvd;rw[zM1 hone]
 rw[el] at HM;have HEl:=za el;have hLi:Hid (∀W',LnI lb B wb tv W' ts->xK 90 #[xP lb,xI q.ns.length,.func (.func 157) #[] #[xP W.heap.size,xP (W.heap.size+1)]] W' (zu1 lb B wb tv (ts++zu5 (q.ns.map (λs=>[s]))))):=by
  intro W' h';have:=zvq (lb:=lb) (B:=B) (w0:=wb) (tv0:=tv) 157 #[xP W.heap.size,xP (W.heap.size+1)] zxy (q.ns.map (λs=>[s])) (λi u hu W'' ts'' h'' hm''=>?_) W' ts h' (by have:=HM.o;simp only[zMM,zMR,zNb] at this ⊢;omega) (by simpa using h16)
  . rw[List.length_map] at this;exact this
  rw[List.getElem?_map,Option.map_eq_some_iff] at hu;obtain⟨x,hx,rfl⟩:=hu;exact zxc h'' hN q _ _ HQ.o Hl.o HX.o i x hx hm''
 have hmf:∀(fn:Go.Fn) (first cap:Xa) (w:Xw),(Instr.makeFunc fn first cap).run prog w=.ok (.func fn first cap) w:=λ_ _ _ _=>rfl;obtain⟨T,hT⟩:∃T,zu5 (q.ns.map (λs=>[s]))=T:=⟨_,rfl⟩;rw[hT] at hLi HM HEl;have hone':¬((q.ns.length:Int)=1):=by omega
 clear el hone Hs hT;go_enter func95,ntmps95;go_upto_region 1 with fail;clear htw;have tk:=trivial;go_wp2_with (clear tk;go_at_call 90;refine (hLi.out _ H0.o).mono ?_);rintro e w1 ⟨rfl,h1⟩;obtain⟨p1,_,_,r1⟩:=HKp.o _ _ h1;have H1:=za h1;clear h1 p0 q0 c0 r0;have tk:=trivial;go_wp2_with (clear tk;go_at_call 89;refine (zu0 H1.o [⟨#[61]⟩] 1 rfl (by have:=HM.o;simp only[zMM,zMR,zNb] at this ⊢;omega) _ rfl).mono ?_);rintro e w2 ⟨rfl,h2⟩;obtain⟨p2,_,_,r2⟩:=HKp.o _ _ h2;have H2:=za h2;clear h2 p1 r1;have tk:=trivial;go_wp2_with (clear tk;go_at_call 158;refine (HE.o lb B N wb tv _ _ _ hN h21 HQ.o.tt HK.o H2.o (by have:=HM.o;simp only[zMM,zMR,zNb] at this ⊢;omega)).mono ?_);rintro e w3 ⟨rfl,h3⟩;obtain⟨p3,_,_,r3⟩:=HKp.o _ _ h3;have H3:=za h3;clear h3 p2 r2;have tk:=trivial;go_wp2_with (clear tk;go_at_call 89;refine (zu0 H3.o [⟨#[59]⟩] 1 rfl (by have:=HM.o;simp only[zMM,zMR,zNb] at this ⊢;omega) _ rfl).mono ?_;rintro e w4 ⟨rfl,h4⟩;have H4:=za h4;clear h4);first|go_end0|refine bodyPost_ret (results_none rfl _ _ _) rfl ?_
 exact⟨rfl,HB.o _ _ (by rw[HEl.o];simpa [zMQ] using H4.o)⟩
end
end Go.Proofs.YtbicmofihhjgbaaGreatDoor
