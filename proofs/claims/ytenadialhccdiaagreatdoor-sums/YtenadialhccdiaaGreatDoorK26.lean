/- Part 27. -/
import Derived.Test.YtenadialhccdiaaGreatDoorK25
set_option maxRecDepth 100000
set_option maxHeartbeats 8000000
namespace Go.Proofs.YtenadialhccdiaaGreatDoor
open Go.Proofs.Tryz
open Go.RowKit
section
theorem zYa (S:Xs)(m:Ma)(sv:Xv)(o:Int)(ho:-9223372036854775808<=o/\o<=9223372036854775807)(P a:Int)(r:Bool)(slots:List Int)(w:Xw)(v:Xv)(g:Nat)(hfit:zd9 (cS o).slots (cS o).cells.length 0 (cS o).row=some 0)(hG:Gl S w)(h:MM w m sv (cS o) [P] slots)(hl:Nm w v g [a,zbV r])(hg2:g≠m.b2) :
 xK 7 #[xP m.M,v] w (λe w'=>∃sv' slots',e=.returned (.tuple #[xI (nU (zz2 o) r P a),.bool true])/\MM w' m sv' (cS o) [nU (zz2 o) r P a] slots'/\Fr (λj=>m.N<=j) w w'):=by
 have hq:=zXO o P a r ho.1 ho.2;have hs:=zta S m sv (cS o) [P] slots w v g [a,zbV r] _ hG h hl (λ_=>hg2) (zXt o a r) hfit (zXe o).2 hq.2;have he:=hq.1;clear hq;obtain⟨R,hR⟩:∃R,zbm (cS o) [P] [a,zbV r]=R:=⟨_,rfl⟩;rw[hR] at hs he;refine hs.mono ?_;rintro e w' ⟨sv',rfl,q3,q4⟩;rw[he] at q3;exact⟨sv',R.slots,rfl,q3,q4⟩
theorem zXU (S:Xs)(o:Int)(v1 v2:Xv)(ins rs:List Int)(w:Xw)(ho:-9223372036854775808<=o/\o<=9223372036854775807)(hG:Gl S w)(hop:zbt w)(hS:zbW w)(h1:Ar w w.heap.size v1 ins)(h2:Ar w w.heap.size v2 rs) :
 xK 3 #[xI o,v1,v2] w (λe w'=>e=.returned (.bool true)/\xB w w'):=by
 obtain⟨a1,cp1,rfl,hl1,hc1⟩:=h1.ex;obtain⟨a2,cp2,rfl,hl2,hc2⟩:=h2.ex;have hsrc:=zX8 ho.1 ho.2;have HD:=za (λW=>zXw o ho.1 ho.2 W);have hzd:=zXD ho.1 ho.2;have HMa:=za (λW (hb:xB w W)=>zkS S (suT (zWT o)) (cS o) hsrc W (hG.of (T:=λ_=>False) (Fr.of_below hb) (λ_ e=>e.elim)) (hop.old (zm hb (zMK _)) hG.size) (hS.old (zm hb (zMK _)) hG.size));rw[zXA ho.1 ho.2] at HMa;have HOn:=za (λm sv P a r slots W v g=>zYa S m sv o ho P a r slots W v g hsrc.fit);have H1:=za h1;have H2:=za h2;have HG:=za hG;have Hw1:=za h1.wf;have Hw2:=za h2.wf;have h21:=hG.size;have hwo:o=-9223372036854775808->zz2 o=-9223372036854775807:=λh=>by unfold zz2;rw[zM2 h]
 have hwn:¬o=-9223372036854775808->zz2 o=o:=λh=>by unfold zz2;rw[zM1 h]
 clear h1 h2 hc1 hc2 hG hop hS hsrc;generalize zWT o=D at *;generalize cS o=c at *;obtain⟨f,hf⟩:∃f,zz2 o=f:=⟨_,rfl⟩;rw[hf] at hwo hwn HMa HOn;clear hf;obtain⟨ho1,ho2⟩:=ho;go_enter func3,ntmps3
 go_upto_if 25 with (first
  | (go_at_call 4;revert HB2;intro HB2;refine zmf (s':=suT D) (zX7 D) ?_;refine (HMa.o _ HB2.o).mono ?_;rintro e w3 ⟨m,sv,rfl,hM,hN,hB⟩;have HM:=za hM;have HB3:=za (HB2.o.trans (hB.mono HB2.o.size));have hNm:w.heap.size<=m.N:=zMO HB2.o.size hN;clear hM hB)
  | (go_at_call 5;revert HB1;intro HB1;refine (HD.o _).mono ?_;rintro e w2 ⟨rfl,hb⟩;have HB2:=za (HB1.o.trans (hb.mono HB1.o.size));clear hb)
  | (go_at_call 5;refine (HD.o _).mono ?_;rintro e w1 ⟨rfl,hb⟩;have HB1:=za hb;clear hb))
 clear HD HMa hzd;go_cut [0] (λx wx=>x=xI f/\wx=w3);case first =>
  by_cases hmin:o=-9223372036854775808
  . have hq:f=-9223372036854775807:=hwo hmin;subst hmin;subst hq;go_wp2_with fail;go_meet;exact⟨rfl,rfl⟩
  have hq:=hwn hmin;subst hq;have hmb:(f==-9223372036854775808)=false:=by simp[hmin]
  go_wp2_with fail;go_meet;exact⟨rfl,rfl⟩
 case rest =>
  obtain⟨rfl,rfl⟩:=hcut;clear hwo hwn ho1 ho2;go_wp2_with fail;go_loopg [8,9] (ins.length+1) (λj s i wr=>∃(k:Nat) (P:Int) (sv':Xv) (slots:List Int),k+j=ins.length+1/\k<=ins.length/\i=xI k/\s=xI P/\Hid (MM wr m sv' c [P] slots)/\Hid (xB w wr));case atStart=>exact⟨0,f,sv,_,by omega,zMN _,rfl,rfl,HM.o,HB3.o⟩
  case round =>
   obtain⟨k,P,sv',slots,hk,hkl,rfl,rfl,HMr,HBr⟩:=hrel;have hzr:=HBr.o.size;have Hx1:=za (H1.o.fr (zm HBr.o (zMK _)));have Hx2:=za (H2.o.fr (zm HBr.o (zMK _)));clear HM HB3;by_cases hlt:k<ins.length
   . obtain⟨a,hxa⟩:∃x,ins[k]?=some x:=⟨_,zsc hlt⟩;obtain⟨_,_,ev1,_,hcell1⟩:=Hx1.o.ex;cases ev1;obtain⟨g1,o1,rfl,hg1,hcl1⟩:=hcell1 (by intro e;rw[e] at hxa;simp at hxa);have hc1:=hcl1 k a hxa;have HOne:=za (λ(r:Bool) (W:Xw) (hb:xB wr W) (v:Xv) (g:Nat) (hn:Nm W v g [a,zbV r]) (hg:wr.heap.size<=g)=>HOn.o m sv' P a r slots W v g (HG.o.of (T:=λ_=>False) (Fr.of_below (HBr.o.trans (hb.mono hzr))) (λ_ e=>e.elim)) (HMr.o.keep hb) hn (by have:=HMr.o.mc.mem.lt.2.2.1;omega));clear hcl1 hcell1 hxa HOn;have hnU0:nU f false P a=wrap64 (P+a):=rfl;have hnU1:nU f true P a=wrap64 (f+a):=rfl;have hk0:¬(k:Int)<0:=(by omega);have HR:=za (λ(r:Bool)=>HOne.o r ((wr.alloc (.cells #[xI a,xI (zbV r)] 2)).drew) (zo (zq wr _)) (xS wr.heap.size 2 2) wr.heap.size ((zfb wr a (zbV r) 2).of rfl) (zMK _));have HBe:Hid (∀(o:Obj) (w5:Xw),Fr (λj=>m.N<=j) (wr.alloc o).drew w5->xB w w5):=λo w5 q4=>HBr.o.trans ((((Fr.refl (λj=>m.N<=j) wr).alloc o).drew.trans q4).below (B:=w.heap.size) hzr (λj e=>zMO hNm e));have HC1:Hid (∀W,xB w W->W.cell? (xD g1 (o1+k))=some (xI a)):=λW hb=>(zWS (w:=w) (a:=(xD g1 (o1+k))) (hb.block g1 hg1)).trans ((zWS (w:=w) (a:=(xD g1 (o1+k))) (HBr.o.block g1 hg1)).symm.trans hc1);clear HOne;by_cases hlt2:k<rs.length
     . obtain⟨xd,hxd⟩:∃x,rs[k]?=some x:=⟨_,zsc hlt2⟩;obtain⟨_,_,ev2,_,hcell2⟩:=Hx2.o.ex;cases ev2;obtain⟨g2,o2,rfl,hg2,hcl2⟩:=hcell2 (by intro e;rw[e] at hxd;simp at hxd);have hc2:=hcl2 k xd hxd;have hwd:=Hw2.o xd (zML hxd);have HT2:=za (λW=>zjr xd hwd W);obtain⟨d,hd⟩:∃d,d=odd xd:=⟨_,rfl⟩;rw[<- hd] at HT2;clear hcl2 hcell2 hxd hwd hd;cases d
       . have HS:=za (HR.o false);rw[hnU0] at HS;go_upto_region 14 with (go_at_call 6;refine (HT2.o _).mono ?_;rintro e w2 ⟨rfl,rfl⟩)
         go_region_held3 (λw'=>w'.cell? (xD g1 (o1+k))=some (xI a)) (first|with_reducible assumption|with_reducible exact zg hc1|with_reducible exact HC1.o _ Q4.o|go_keep)
          (first
            | (go_at_call 7;refine HS.o.mono ?_;rintro e w5 ⟨sv2,sl2,rfl,q3,q4⟩;have Q3:=za q3;have Q4:=za (HBe.o _ _ q4);clear q3 q4)
            | (go_at_call 8;refine (zcm _ _).mono ?_;rintro e w4 ⟨rfl,rfl⟩))
         go_wp2_with fail;go_roundg (gk-1);case measure=>omega
         exact⟨k+1,_,sv2,sl2,by omega,by omega,by go_num,rfl,Q3.o,Q4.o⟩
       have HS:=za (HR.o true);rw[hnU1] at HS;go_upto_region 14 with (go_at_call 6;refine (HT2.o _).mono ?_;rintro e w2 ⟨rfl,rfl⟩)
       go_region_held3 (λw'=>w'.cell? (xD g1 (o1+k))=some (xI a)) (first|with_reducible assumption|with_reducible exact zg hc1|with_reducible exact HC1.o _ Q4.o|go_keep)
        (first
          | (go_at_call 7;refine HS.o.mono ?_;rintro e w5 ⟨sv2,sl2,rfl,q3,q4⟩;have Q3:=za q3;have Q4:=za (HBe.o _ _ q4);clear q3 q4)
          | (go_at_call 8;refine (zcm _ _).mono ?_;rintro e w4 ⟨rfl,rfl⟩))
       go_wp2_with fail;go_roundg (gk-1);case measure=>omega
       exact⟨k+1,_,sv2,sl2,by omega,by omega,by go_num,rfl,Q3.o,Q4.o⟩
     have HS:=za (HR.o false);rw[hnU0] at HS;go_upto_region 14 with (fail)
     go_region_held3 (λw'=>w'.cell? (xD g1 (o1+k))=some (xI a)) (first|with_reducible assumption|with_reducible exact zg hc1|with_reducible exact HC1.o _ Q4.o|go_keep)
      (first
        | (go_at_call 7;refine HS.o.mono ?_;rintro e w5 ⟨sv2,sl2,rfl,q3,q4⟩;have Q3:=za q3;have Q4:=za (HBe.o _ _ q4);clear q3 q4)
        | (go_at_call 8;refine (zcm _ _).mono ?_;rintro e w4 ⟨rfl,rfl⟩))
     go_wp2_with fail;go_roundg (gk-1);case measure=>omega
     exact⟨k+1,_,sv2,sl2,by omega,by omega,by go_num,rfl,Q3.o,Q4.o⟩
   go_wp2_with fail;go_ret;exact⟨rfl,HBr.o⟩
end
end Go.Proofs.YtenadialhccdiaaGreatDoor
