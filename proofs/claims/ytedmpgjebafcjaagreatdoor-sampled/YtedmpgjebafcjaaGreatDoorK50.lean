/- Part 51 of the proof: SmB LdA LdB ArA JfA SmD SmE. -/
import Derived.Deep.Strs
import Derived.JoinedOf
import Derived.LaidHandle
import Derived.LaidLaws
import Derived.LaidMore
import Derived.OpenShut
import Derived.ProofKit
import Derived.Test.YtedmpgjebafcjaaGreatDoorRows
import Derived.Test.YtedmpgjebafcjaaGreatDoorK49
set_option maxRecDepth 100000
set_option maxHeartbeats 8000000
namespace Go.Proofs.YtedmpgjebafcjaaGreatDoor
section
open Go.RowKit
theorem zpS:zlL src1 c1:=by
 obtain ⟨K,h1,h2⟩:=zpq zrq
 exact zpN (by decide) (by decide) h1 h2 ⟨by decide,by decide,by decide,by decide,by decide⟩ zqO
theorem zmf {P:Program} {f:FuncId} {s s':ByteArray} {w:World} {Q:Ending->World->Prop} (h:s=s') (H:Calls P f #[.string s'] w Q):Calls P f #[.string s] w Q:=by subst h;exact H
def nX (c:Bool) (x:Int):Int:=if c then wrap64 (x+1) else x
def nY (c:Bool) (y:Int):Int:=if c then y else wrap64 (y-1)
def nW (c d:Bool) (w:Int):Int:=if c&&d then wrap64 (w+1) else w
def nF (c d:Bool) (w f:Int):Int:=if c then (if d then wrap64 (w+1) else 0) else f
def nK (c:Bool) (x y:Int):Int:=if c then wrap64 (x+1) else wrap64 (y-1)
theorem zfb (w:World) (a b:Int) (t:TypeId):Nm (w.alloc (.cells #[.int .i64 a,.int .i64 b] t)) (.slice (some ⟨w.heap.size,0,none⟩) 2 2) w.heap.size [a,b]:=by
 refine ⟨some ⟨w.heap.size,0,none⟩,2,rfl,Nat.le_refl _,by decide,λ_=>⟨0,rfl,λj x hj=>?_⟩⟩
 obtain ⟨c0,c1,_,_⟩:=zp (zc w (.cells #[.int .i64 a,.int .i64 b] t))
 rcases j with _|_|j
 · simp at hj;subst hj;exact c0
 · simp at hj;subst hj;exact c1
 · simp at hj
theorem zen (S:Nat->Addr) (m:Ma) (sv:Value) (c d:Bool) (X Y W F:Int) (slots:List Int) (w:World) (v:Value) (g:Nat) (hG:Gl S w) (h:MM w m sv c1 [X,Y,W,F] slots) (hl:Nm w v g [zbV c,zbV d]) (hg2:g≠m.b2) :
 Calls Tryz.prog 8 #[.pointer (some ⟨m.M,0,none⟩),v] w (λe w'=>∃ob sv' slots',e=.returned (.tuple #[.slice (some ⟨ob,0,none⟩) 3 3,.int .i64 0])/\w.heap.size<=ob/\w'.heap[ob]?=some (.cells #[.int .i64 (nK c X Y),.int .i64 (zbV d),.int .i64 (nF c d W F)] 2 (0,0))/\MM w' m sv' c1 [nX c X,nY c Y,nW c d W,nF c d W F] slots'/\Fr (λj=>m.N<=j) w w'):=by
 have hr:zdE c1.bools [zbV c,zbV d]=none:=by cases c <;> cases d <;> decide
 have hs:=zp7 S m sv c1 [X,Y,W,F] slots w v g [zbV c,zbV d] hG h hl (λ_=>hg2) hr zqO
 have he:(zbm c1 [X,Y,W,F] [zbV c,zbV d]).cells=[nX c X,nY c Y,nW c d W,nF c d W F]/\zcX c1 (zbm c1 [X,Y,W,F] [zbV c,zbV d])=[nK c X Y,zbV d,nF c d W F]:=by
  cases c <;> cases d
  · exact zoM X Y W F
  · exact znC X Y W F
  · have:=zoC X Y W F;rw [Int.add_comm 1 X] at this;exact this
  · have:=zou X Y W F;rw [Int.add_comm 1 X] at this;exact this
 obtain ⟨R,hR⟩:∃R,zbm c1 [X,Y,W,F] [zbV c,zbV d]=R:=⟨_,rfl⟩
 rw [hR] at hs he
 refine hs.mono ?_
 rintro e w' ⟨ob,sv',rfl,q1,q2,q3,q4⟩
 rw [he.2] at q2
 rw [he.1] at q3
 exact ⟨ob,sv',R.slots,rfl,q1,q2,q3,q4⟩
theorem zpx (S:Nat->Addr) (v1 v2:Value) (cs ds:List Int) (w:World) (hG:Gl S w) (hop:zbt w) (hS:zbW w) (h1:Ar w w.heap.size v1 cs) (h2:Ar w w.heap.size v2 ds) :
 Calls Tryz.prog 3 #[v1,v2] w (λe w'=>e=.returned (.bool true)/\Below w.heap.size w w'):=by
 obtain ⟨a1,cp1,rfl,hl1,hc1⟩:=h1.ex
 obtain ⟨a2,cp2,rfl,hl2,hc2⟩:=h2.ex
 have HMa:=za (zkS S src1 c1 zpS w hG hop hS)
 have H1:=za h1
 have H2:=za h2
 have HG:=za hG
 have Hw1:=za h1.wf
 have Hw2:=za h2.wf
 have h21:=hG.size
 clear h1 h2 hc1 hc2 hG hop hS
 go_enter Tryz.func3,Tryz.ntmps3
 go_wp2_with (go_at_call 6;refine zmf (s':=src1) (by kernel_rfl) ?_;refine HMa.out.mono ?_;rintro e w1 ⟨m,sv,rfl,hM,hN,hB⟩;have hz1:=hB.size;have HM:=za hM;have HB:=za hB;clear hM hB)
 go_loopg [6,7,8,9,10] (cs.length+1) (λj x y ww f i wr=>∃(k:Nat) (X Y W F:Int) (sv':Value) (slots:List Int),k+j=cs.length+1/\k<=cs.length/\i=.int .i64 k/\x=.int .i64 X/\y=.int .i64 Y/\ww=.int .i64 W/\f=.int .i64 F/\Hid (MM wr m sv' c1 [X,Y,W,F] slots)/\Hid (Below w.heap.size w wr))
 case atStart=>exact ⟨0,0,0,10,7,sv,_,by omega,Nat.zero_le _,rfl,rfl,rfl,rfl,rfl,HM.out,HB.out⟩
 case round =>
  obtain ⟨k,X,Y,W,F,sv',slots,hk,hkl,rfl,rfl,rfl,rfl,rfl,HMr,HBr⟩:=hrel
  have hzr:=HBr.out.size
  have Hx1:=za (H1.out.fr (zm HBr.out (Nat.le_refl _)))
  have Hx2:=za (H2.out.fr (zm HBr.out (Nat.le_refl _)))
  clear HM HB HMa
  by_cases hlt:k<cs.length
  · obtain ⟨xc,hxc⟩:∃x,cs[k]?=some x:=⟨_,zsc hlt⟩
    obtain ⟨_,_,ev1,_,hcell1⟩:=Hx1.out.ex
    cases ev1
    obtain ⟨g1,o1,rfl,hg1,hcl1⟩:=hcell1 (by intro e;rw [e] at hxc;simp at hxc)
    have hc1:=hcl1 k xc hxc
    have hwc:=Hw1.out xc (List.mem_of_getElem? hxc)
    have HT1:=za (λW=>zjr xc hwc W)
    obtain ⟨c,hc⟩:∃c,c=odd xc:=⟨_,rfl⟩
    rw [<- hc] at HT1
    have hG2:Gl S wr:=HG.out.of (T:=λ_=>False) (Fr.of_below HBr.out) (λ_ e=>e.elim)
    have HGr:=za hG2
    clear hcl1 hcell1 hxc hwc hc hG2
    by_cases hlt2:k<ds.length
    · obtain ⟨xd,hxd⟩:∃x,ds[k]?=some x:=⟨_,zsc hlt2⟩
      obtain ⟨_,_,ev2,_,hcell2⟩:=Hx2.out.ex
      cases ev2
      obtain ⟨g2,o2,rfl,hg2,hcl2⟩:=hcell2 (by intro e;rw [e] at hxd;simp at hxd)
      have hc2:=hcl2 k xd hxd
      have hwd:=Hw2.out xd (List.mem_of_getElem? hxd)
      have HT2:=za (λW=>zjr xd hwd W)
      obtain ⟨d,hd⟩:∃d,d=odd xd:=⟨_,rfl⟩
      rw [<- hd] at HT2
      clear hcl2 hcell2 hxd hwd hd
      have hb2:wr.heap.size≠m.b2:=by have:=HMr.out.mc.mem.lt.2.2.1;omega
      have HGb:=za (λo:Obj=>HGr.out.of (T:=λ_=>False) ((Fr.refl _ wr).alloc o) (λ_ e=>e.elim))
      cases c <;> cases d
      · go_upto_region 24 with (first
         | (go_at_call 8;refine (zen S m sv' false false X Y W F slots _ _ wr.heap.size (HGb.out _) (HMr.out.keep (zq wr _)) (zfb wr _ _ _) hb2).mono ?_;rintro e w2 ⟨ob,sv2,sl2,rfl,q1,q2,q3,q4⟩;have q5:w2.heap[ob]?=some (.cells #[.int .i64 (wrap64 (Y-1)),.int .i64 (zbV false),.int .i64 (F)] 2 (0,0)):=q2;obtain ⟨o0,o1,o2,of,oz⟩:=zL q5;have Q3:=za q3;have Q4:=za (HBr.out.trans ((((Fr.refl (λj=>m.N<=j) wr).alloc _).trans q4).below (B:=w.heap.size) hzr (λj e=>Nat.le_trans hN e)));clear q2 q3 q4 q5)
         | (go_at_call 9;refine (zcm _ _).mono ?_;rintro e w2 ⟨rfl,rfl⟩)
         | (go_at_call 7;refine (HT1.out _).mono ?_;rintro e w2 ⟨rfl,rfl⟩)
         | (go_at_call 7;refine (HT2.out _).mono ?_;rintro e w2 ⟨rfl,rfl⟩))
        have HQb:=za (λq=>zaX (zcm false (w2.drewN q)))
        go_quiet ((go_at_call 9;exact HQb.out _))
        go_wp2_with fail
        go_roundg (gk-1)
        case measure=>omega
        exact ⟨k+1,_,_,_,_,sv2,sl2,by omega,by omega,by go_num,rfl,rfl,rfl,rfl,Q3.out.keep (zaf (Below.refl _ _) _),zaf Q4.out _⟩
      · go_upto_region 24 with (first
         | (go_at_call 8;refine (zen S m sv' false true X Y W F slots _ _ wr.heap.size (HGb.out _) (HMr.out.keep (zq wr _)) (zfb wr _ _ _) hb2).mono ?_;rintro e w2 ⟨ob,sv2,sl2,rfl,q1,q2,q3,q4⟩;have q5:w2.heap[ob]?=some (.cells #[.int .i64 (wrap64 (Y-1)),.int .i64 (zbV true),.int .i64 (F)] 2 (0,0)):=q2;obtain ⟨o0,o1,o2,of,oz⟩:=zL q5;have Q3:=za q3;have Q4:=za (HBr.out.trans ((((Fr.refl (λj=>m.N<=j) wr).alloc _).trans q4).below (B:=w.heap.size) hzr (λj e=>Nat.le_trans hN e)));clear q2 q3 q4 q5)
         | (go_at_call 9;refine (zcm _ _).mono ?_;rintro e w2 ⟨rfl,rfl⟩)
         | (go_at_call 7;refine (HT1.out _).mono ?_;rintro e w2 ⟨rfl,rfl⟩)
         | (go_at_call 7;refine (HT2.out _).mono ?_;rintro e w2 ⟨rfl,rfl⟩))
        have HQb:=za (λq=>zaX (zcm true (w2.drewN q)))
        go_quiet ((go_at_call 9;exact HQb.out _))
        go_wp2_with fail
        go_roundg (gk-1)
        case measure=>omega
        exact ⟨k+1,_,_,_,_,sv2,sl2,by omega,by omega,by go_num,rfl,rfl,rfl,rfl,Q3.out.keep (zaf (Below.refl _ _) _),zaf Q4.out _⟩
      · go_upto_region 24 with (first
         | (go_at_call 8;refine (zen S m sv' true false X Y W F slots _ _ wr.heap.size (HGb.out _) (HMr.out.keep (zq wr _)) (zfb wr _ _ _) hb2).mono ?_;rintro e w2 ⟨ob,sv2,sl2,rfl,q1,q2,q3,q4⟩;have q5:w2.heap[ob]?=some (.cells #[.int .i64 (wrap64 (X+1)),.int .i64 (zbV false),.int .i64 (0)] 2 (0,0)):=q2;obtain ⟨o0,o1,o2,of,oz⟩:=zL q5;have Q3:=za q3;have Q4:=za (HBr.out.trans ((((Fr.refl (λj=>m.N<=j) wr).alloc _).trans q4).below (B:=w.heap.size) hzr (λj e=>Nat.le_trans hN e)));clear q2 q3 q4 q5)
         | (go_at_call 9;refine (zcm _ _).mono ?_;rintro e w2 ⟨rfl,rfl⟩)
         | (go_at_call 7;refine (HT1.out _).mono ?_;rintro e w2 ⟨rfl,rfl⟩)
         | (go_at_call 7;refine (HT2.out _).mono ?_;rintro e w2 ⟨rfl,rfl⟩))
        have HQb:=za (λq=>zaX (zcm false (w2.drewN q)))
        go_quiet ((go_at_call 9;exact HQb.out _))
        go_wp2_with fail
        go_roundg (gk-1)
        case measure=>omega
        exact ⟨k+1,_,_,_,_,sv2,sl2,by omega,by omega,by go_num,rfl,rfl,rfl,rfl,Q3.out.keep (zaf (Below.refl _ _) _),zaf Q4.out _⟩
      · go_upto_region 24 with (first
         | (go_at_call 8;refine (zen S m sv' true true X Y W F slots _ _ wr.heap.size (HGb.out _) (HMr.out.keep (zq wr _)) (zfb wr _ _ _) hb2).mono ?_;rintro e w2 ⟨ob,sv2,sl2,rfl,q1,q2,q3,q4⟩;have q5:w2.heap[ob]?=some (.cells #[.int .i64 (wrap64 (X+1)),.int .i64 (zbV true),.int .i64 (wrap64 (W+1))] 2 (0,0)):=q2;obtain ⟨o0,o1,o2,of,oz⟩:=zL q5;have Q3:=za q3;have Q4:=za (HBr.out.trans ((((Fr.refl (λj=>m.N<=j) wr).alloc _).trans q4).below (B:=w.heap.size) hzr (λj e=>Nat.le_trans hN e)));clear q2 q3 q4 q5)
         | (go_at_call 9;refine (zcm _ _).mono ?_;rintro e w2 ⟨rfl,rfl⟩)
         | (go_at_call 7;refine (HT1.out _).mono ?_;rintro e w2 ⟨rfl,rfl⟩)
         | (go_at_call 7;refine (HT2.out _).mono ?_;rintro e w2 ⟨rfl,rfl⟩))
        have HQb:=za (λq=>zaX (zcm true (w2.drewN q)))
        go_quiet ((go_at_call 9;exact HQb.out _))
        go_wp2_with fail
        go_roundg (gk-1)
        case measure=>omega
        exact ⟨k+1,_,_,_,_,sv2,sl2,by omega,by omega,by go_num,rfl,rfl,rfl,rfl,Q3.out.keep (zaf (Below.refl _ _) _),zaf Q4.out _⟩
    · have hb2:wr.heap.size≠m.b2:=by have:=HMr.out.mc.mem.lt.2.2.1;omega
      have HGb:=za (λo:Obj=>HGr.out.of (T:=λ_=>False) ((Fr.refl _ wr).alloc o) (λ_ e=>e.elim))
      cases c
      · go_upto_region 24 with (first
         | (go_at_call 8;refine (zen S m sv' false false X Y W F slots _ _ wr.heap.size (HGb.out _) (HMr.out.keep (zq wr _)) (zfb wr _ _ _) hb2).mono ?_;rintro e w2 ⟨ob,sv2,sl2,rfl,q1,q2,q3,q4⟩;have q5:w2.heap[ob]?=some (.cells #[.int .i64 (wrap64 (Y-1)),.int .i64 (zbV false),.int .i64 (F)] 2 (0,0)):=q2;obtain ⟨o0,o1,o2,of,oz⟩:=zL q5;have Q3:=za q3;have Q4:=za (HBr.out.trans ((((Fr.refl (λj=>m.N<=j) wr).alloc _).trans q4).below (B:=w.heap.size) hzr (λj e=>Nat.le_trans hN e)));clear q2 q3 q4 q5)
         | (go_at_call 9;refine (zcm _ _).mono ?_;rintro e w2 ⟨rfl,rfl⟩)
         | (go_at_call 7;refine (HT1.out _).mono ?_;rintro e w2 ⟨rfl,rfl⟩))
        have HQb:=za (λq=>zaX (zcm false (w2.drewN q)))
        go_quiet ((go_at_call 9;exact HQb.out _))
        go_wp2_with fail
        go_roundg (gk-1)
        case measure=>omega
        exact ⟨k+1,_,_,_,_,sv2,sl2,by omega,by omega,by go_num,rfl,rfl,rfl,rfl,Q3.out.keep (zaf (Below.refl _ _) _),zaf Q4.out _⟩
      · go_upto_region 24 with (first
         | (go_at_call 8;refine (zen S m sv' true false X Y W F slots _ _ wr.heap.size (HGb.out _) (HMr.out.keep (zq wr _)) (zfb wr _ _ _) hb2).mono ?_;rintro e w2 ⟨ob,sv2,sl2,rfl,q1,q2,q3,q4⟩;have q5:w2.heap[ob]?=some (.cells #[.int .i64 (wrap64 (X+1)),.int .i64 (zbV false),.int .i64 (0)] 2 (0,0)):=q2;obtain ⟨o0,o1,o2,of,oz⟩:=zL q5;have Q3:=za q3;have Q4:=za (HBr.out.trans ((((Fr.refl (λj=>m.N<=j) wr).alloc _).trans q4).below (B:=w.heap.size) hzr (λj e=>Nat.le_trans hN e)));clear q2 q3 q4 q5)
         | (go_at_call 9;refine (zcm _ _).mono ?_;rintro e w2 ⟨rfl,rfl⟩)
         | (go_at_call 7;refine (HT1.out _).mono ?_;rintro e w2 ⟨rfl,rfl⟩))
        have HQb:=za (λq=>zaX (zcm false (w2.drewN q)))
        go_quiet ((go_at_call 9;exact HQb.out _))
        go_wp2_with fail
        go_roundg (gk-1)
        case measure=>omega
        exact ⟨k+1,_,_,_,_,sv2,sl2,by omega,by omega,by go_num,rfl,rfl,rfl,rfl,Q3.out.keep (zaf (Below.refl _ _) _),zaf Q4.out _⟩
  · go_wp2_with fail
    go_ret
    exact ⟨rfl,HBr.out⟩
end
section
open Go.ChangeShapes Go.WideShapes Go.ChangeAt Go.RowKit
theorem zhU {P:Program} {w:World}:∀{l:List (String×DataW Unit)} {ps:List MemPlace},DataW.LaidVars P w l ps->∀{k:Nat} {n:String} {d:DataW Unit},l[k]?=some (n,d)->∃g t cs fuel p,P.globalNamed n=some g/\(P.globals[g]?).map (·.type)=some t/\w.var? P n=some cs/\DataW.trod (λ_=>()) P w 0 (λ_=>true) false fuel t cs.toList=some (d,p)/\∀x∈MemPlace.row ⟨g,0,none⟩ cs.size,x∈ps:=by
 intro l
 induction l with
 | nil=>intro ps _ k n d hk;simp at hk
 | cons x l ih =>
   obtain ⟨n0,d0⟩:=x
   rintro ps ⟨g,t,cs,fuel,p,q,h1,h2,h3,h4,h5,h6⟩ k n d hk
   cases k with
   | zero =>
     simp at hk
     obtain ⟨rfl,rfl⟩:=hk
     exact ⟨g,t,cs,fuel,p,h1,h2,h3,h4,λx hx=>by rw [h6];simp [hx]⟩
   | succ k =>
     obtain ⟨g',t',cs',fuel',p',e1,e2,e3,e4,e5⟩:=ih h5 (k:=k) (by simpa using hk)
     exact ⟨g',t',cs',fuel',p',e1,e2,e3,e4,λx hx=>by rw [h6];simp [e5 x hx]⟩
theorem Tryz.star: "*"++ "errors.errorString"= "*errors.errorString":=by decide
theorem Tryz.rowErr (u:TypeId) (h:Tryz.prog.typeName? 3 u=some "*errors.errorString"):u=293 :=
 typeName_ptr_named (nm:= "errors.errorString") (by rw [Tryz.star];kernel_rfl) (by kernel_rfl) (by decide) u (by rw [Tryz.star];exact h)
theorem Tryz.cellsErr:Tryz.prog.cellsOf 295=1:=by kernel_rfl
theorem Tryz.cellsStr:Tryz.prog.cellsOf 9=1:=by kernel_rfl
theorem zcl {W:World} {l:List (String×DataW Unit)} (h:laidMet Tryz.prog l W) {k g:Nat} {n:String} {text:List UInt8} (hk:l[k]?=some (n,.iface "*errors.errorString" (.ptr (.agg [.lit (.string text)])))) (hg:Tryz.prog.globalNamed n=some g) (ht:(Tryz.prog.globals[g]?).map (·.type)=some 43) :
 ∃a,W.cell? ⟨g,0,none⟩=some (.iface 293 (.pointer (some a))):=by
 obtain ⟨ps,hL,_,hrows⟩:=h
 obtain ⟨g',t,cs,fuel,p,e1,e2,e3,e4,e5⟩:=zhU hL hk
 obtain rfl:=Option.some.inj (hg.symm.trans e1)
 obtain rfl:=Option.some.inj (ht.symm.trans e2)
 obtain ⟨l0⟩:=cs
 have ok:∀u v,l0=[.iface u v]->Value.okWide Tryz.prog W .any 0 u v:=λu v e=>by
  subst e
  exact (hrows g 0 (e5 _ (by simp [MemPlace.row]))).2 u v (by simpa using World.var?_cell e1 e3 0)
 obtain ⟨a,s,rfl,_⟩:=errorString_of_trod Tryz.underlying43 Tryz.rowErr Tryz.underlying293 Tryz.underlying295 rfl rfl Tryz.underlying9 Tryz.cellsErr Tryz.cellsStr e4 ok
 exact ⟨a,by simpa using World.var?_cell e1 e3 0⟩
theorem zjE {W:World} {l:List (String×DataW Unit)} (h:laidMet Tryz.prog l W) {k g n:Nat} {t e:TypeId} {nm:String} {ds:List (DataW Unit)} (hk:l[k]?=some (nm,.agg ds)) (hg:Tryz.prog.globalNamed nm=some g) (ht:(Tryz.prog.globals[g]?).map (·.type)=some t) (hu:Tryz.prog.underlying t=some (.array n e)) (hc:Tryz.prog.cellsOf e=1) (hct:Tryz.prog.cellsOf t=n) :
 ∀i,i<n->∃v f x,W.cell? ⟨g,i,none⟩=some v/\DataW.trod (λ_=>()) Tryz.prog W 0 (λ_=>true) false f e [v]=some x/\ds[i]?=some x.1:=by
 obtain ⟨ps,hL,_,hrows⟩:=h
 obtain ⟨g',t',cs,fuel,p,e1,e2,e3,e4,e5⟩:=zhU hL hk
 obtain rfl:=Option.some.inj (hg.symm.trans e1)
 obtain rfl:=Option.some.inj (ht.symm.trans e2)
 obtain ⟨xs,m,_,hx,hl,hn,hel⟩:=DataW.trod_array hu e4
 intro i hi
 have h1:=hel i hi
 rw [hc] at h1
 obtain ⟨x,hx1⟩:∃x,xs[i]?=some x:=⟨_,zsc (by omega)⟩
 rw [hx1] at h1
 have hds:ds=xs.map (·.1):=by
  have:=congrArg Prod.fst hx
  simpa using this
 simp only [Nat.mul_one] at h1
 rcases hd:cs.toList.drop i with _|⟨v,r⟩
 · have:=List.drop_eq_nil_iff.1 hd
   rw [hct] at hl
   omega
 · rw [hd] at h1
   refine ⟨v,m,x,?_,by simpa using h1,by rw [hds,List.getElem?_map,hx1];rfl⟩
   have hv:cs[i]?=some v:=by
    have:cs.toList[i]?=some v:=by
     have:=congrArg (λl=>l[0]?) hd
     simpa [List.getElem?_drop] using this
    simpa using this
   rw [World.var?_cell e1 e3 i]
   exact hv
theorem zpE {W:World} {l:List (String×DataW Unit)} (h:laidMet Tryz.prog l W) {k g n:Nat} {t e:TypeId} {f0 f1 f2:Field} {nm:String} {ds:List (DataW Unit)} (hk:l[k]?=some (nm,.agg ds)) (hg:Tryz.prog.globalNamed nm=some g) (ht:(Tryz.prog.globals[g]?).map (·.type)=some t) (hu:Tryz.prog.underlying t=some (.array n e)) (hs:Tryz.prog.underlying e=some (.struct #[f0,f1,f2])) (h0:f0.offset=0) (h1:f1.offset=1) (h2:f2.offset=2) (u0:Tryz.prog.underlying f0.type=some (.int .i64)) (u1:Tryz.prog.underlying f1.type=some (.int .i64)) (u2:Tryz.prog.underlying f2.type=some (.int .i64)) (c0:Tryz.prog.cellsOf f0.type=1) (c1:Tryz.prog.cellsOf f1.type=1) (c2:Tryz.prog.cellsOf f2.type=1) (hc:Tryz.prog.cellsOf e=3) :
 ∀i,i<n->∃a b c:Int,W.cell? ⟨g,i*3,none⟩=some (.int .i64 a)/\W.cell? ⟨g,i*3+1,none⟩=some (.int .i64 b)/\W.cell? ⟨g,i*3+2,none⟩=some (.int .i64 c)/\ds[i]?=some (.agg [.lit (.int .i64 a),.lit (.int .i64 b),.lit (.int .i64 c)]):=by
 obtain ⟨ps,hL,_,hrows⟩:=h
 obtain ⟨g',t',cs,fuel,p,e1,e2,e3,e4,e5⟩:=zhU hL hk
 obtain rfl:=Option.some.inj (hg.symm.trans e1)
 obtain rfl:=Option.some.inj (ht.symm.trans e2)
 obtain ⟨xs,m,_,hx,hl,hn,hel⟩:=DataW.trod_array hu e4
 intro i hi
 have hi1:=hel i hi
 rw [hc] at hi1
 obtain ⟨x,hx1⟩:∃x,xs[i]?=some x:=⟨_,zsc (by omega)⟩
 rw [hx1] at hi1
 have hds:ds=xs.map (·.1):=by
  have:=congrArg Prod.fst hx
  simpa using this
 obtain ⟨y0,y1,y2,m2,rfl,hl3,t0,t1,t2⟩:=Deep.trod_struct3 hs hi1
 rw [h0,c0] at t0
 rw [h1,c1] at t1
 rw [h2,c2] at t2
 obtain ⟨a,q0,rfl,_⟩:=DataW.trod_int u0 t0
 obtain ⟨b,q1,rfl,_⟩:=DataW.trod_int u1 t1
 obtain ⟨c,q2,rfl,_⟩:=DataW.trod_int u2 t2
 have key:∀j v,j<3->(((cs.toList.drop (i*3)).take 3).drop j).take 1=[v]->W.cell? ⟨g,i*3+j,none⟩=some v:=by
  intro j v hj hv
  rw [World.var?_cell e1 e3 (i*3+j)]
  have:=congrArg (λl=>l[0]?) hv
  simp only [List.getElem?_take,List.getElem?_drop] at this
  have h3:cs.toList[i*3+j]?=some v:=by simpa [hj] using this
  simpa using h3
 refine ⟨a,b,c,by simpa using key 0 _ (by decide) q0,key 1 _ (by decide) q1,key 2 _ (by decide) q2,?_⟩
 rw [hds,List.getElem?_map,hx1]
 rfl
def zmy:List (String×DataW Unit):=[("cadence/tree.words",Rows.laid_cadence_tree_words),("math/bits.deBruijn32tab",Rows.laid_math_bits_deBruijn32tab),("math/bits.deBruijn64tab",Rows.laid_math_bits_deBruijn64tab),("internal/strconv.uint64pow10",Rows.laid_internal_strconv_uint64pow10),("strconv.ErrRange",Rows.laid_strconv_ErrRange),("strconv.ErrSyntax",Rows.laid_strconv_ErrSyntax),("cadence/fault.Long",Rows.laid_cadence_fault_Long),("cadence/fault.Syntax",Rows.laid_cadence_fault_Syntax),("cadence/fault.Deep",Rows.laid_cadence_fault_Deep),("cadence/fault.Name",Rows.laid_cadence_fault_Name),("cadence/fault.Type",Rows.laid_cadence_fault_Type),("cadence/fault.Clock",Rows.laid_cadence_fault_Clock),("cadence/fault.Define",Rows.laid_cadence_fault_Define),("cadence/fault.Cause",Rows.laid_cadence_fault_Cause),("cadence/fault.Limit",Rows.laid_cadence_fault_Limit),("cadence/fault.Image",Rows.laid_cadence_fault_Image),("cadence/fault.Input",Rows.laid_cadence_fault_Input),("cadence/code.shapes",Rows.laid_cadence_code_shapes),("cadence/compile.operators",Rows.laid_cadence_compile_operators)]
theorem zig {W:World} (h:laidMetH Tryz.prog Rows.sampledRow.laid W):laidMet Tryz.prog zmy W:=by
 have h':laidMet Tryz.prog zmy W/\handlesMet Tryz.prog [("errors.errorType",Rows.laid_errors_errorType)] W:=h
 exact h'.1
theorem Tryz.gLong:Tryz.prog.globalNamed "cadence/fault.Long"=some 2:=by kernel_rfl
theorem Tryz.tLong:(Tryz.prog.globals[2]?).map (·.type)=some 43:=by kernel_rfl
theorem Tryz.gSyntax:Tryz.prog.globalNamed "cadence/fault.Syntax"=some 3:=by kernel_rfl
theorem Tryz.tSyntax:(Tryz.prog.globals[3]?).map (·.type)=some 43:=by kernel_rfl
theorem Tryz.gDeep:Tryz.prog.globalNamed "cadence/fault.Deep"=some 4:=by kernel_rfl
theorem Tryz.tDeep:(Tryz.prog.globals[4]?).map (·.type)=some 43:=by kernel_rfl
theorem Tryz.gName:Tryz.prog.globalNamed "cadence/fault.Name"=some 5:=by kernel_rfl
theorem Tryz.tName:(Tryz.prog.globals[5]?).map (·.type)=some 43:=by kernel_rfl
theorem Tryz.gType:Tryz.prog.globalNamed "cadence/fault.Type"=some 6:=by kernel_rfl
theorem Tryz.tType:(Tryz.prog.globals[6]?).map (·.type)=some 43:=by kernel_rfl
theorem Tryz.gClock:Tryz.prog.globalNamed "cadence/fault.Clock"=some 7:=by kernel_rfl
theorem Tryz.tClock:(Tryz.prog.globals[7]?).map (·.type)=some 43:=by kernel_rfl
theorem Tryz.gDefine:Tryz.prog.globalNamed "cadence/fault.Define"=some 8:=by kernel_rfl
theorem Tryz.tDefine:(Tryz.prog.globals[8]?).map (·.type)=some 43:=by kernel_rfl
theorem Tryz.gCause:Tryz.prog.globalNamed "cadence/fault.Cause"=some 9:=by kernel_rfl
theorem Tryz.tCause:(Tryz.prog.globals[9]?).map (·.type)=some 43:=by kernel_rfl
theorem Tryz.gLimit:Tryz.prog.globalNamed "cadence/fault.Limit"=some 10:=by kernel_rfl
theorem Tryz.tLimit:(Tryz.prog.globals[10]?).map (·.type)=some 43:=by kernel_rfl
theorem Tryz.gImage:Tryz.prog.globalNamed "cadence/fault.Image"=some 11:=by kernel_rfl
theorem Tryz.tImage:(Tryz.prog.globals[11]?).map (·.type)=some 43:=by kernel_rfl
theorem Tryz.gInput:Tryz.prog.globalNamed "cadence/fault.Input"=some 0:=by kernel_rfl
theorem Tryz.tInput:(Tryz.prog.globals[0]?).map (·.type)=some 43:=by kernel_rfl
theorem Tryz.gErrRange:Tryz.prog.globalNamed "strconv.ErrRange"=some 15:=by kernel_rfl
theorem Tryz.tErrRange:(Tryz.prog.globals[15]?).map (·.type)=some 43:=by kernel_rfl
theorem Tryz.gWords:Tryz.prog.globalNamed "cadence/tree.words"=some 17:=by kernel_rfl
theorem Tryz.tWords:(Tryz.prog.globals[17]?).map (·.type)=some 306:=by kernel_rfl
theorem Tryz.cWords:Tryz.prog.cellsOf 306=24:=by kernel_rfl
theorem Tryz.gShapes:Tryz.prog.globalNamed "cadence/code.shapes"=some 12:=by kernel_rfl
theorem Tryz.tShapes:(Tryz.prog.globals[12]?).map (·.type)=some 158:=by kernel_rfl
theorem Tryz.gOpers:Tryz.prog.globalNamed "cadence/compile.operators"=some 13:=by kernel_rfl
theorem Tryz.tOpers:(Tryz.prog.globals[13]?).map (·.type)=some 264:=by kernel_rfl
theorem Tryz.cOpers:Tryz.prog.cellsOf 264=24:=by kernel_rfl
theorem Tryz.cellsOp:Tryz.prog.cellsOf 68=1:=by kernel_rfl
theorem Tryz.cellsShape:Tryz.prog.cellsOf 157=3:=by kernel_rfl
theorem zm4:∀(i:Nat) (s:ByteArray),zcY[i]?=some s->(match (Rows.laid_cadence_tree_words:DataW Unit) with|.agg ds=>ds[i]?=(some (DataW.lit (.string s.data.toList)):Option (DataW Unit))|_=>False):=by
 intro i s h
 have hi:=(List.getElem?_eq_some_iff.1 h).1
 have:zcY.length=24:=rfl
 have hi':i<24:=by omega
 have:i=0∨i=1∨i=2∨i=3∨i=4∨i=5∨i=6∨i=7∨i=8∨i=9∨i=10∨i=11∨i=12∨i=13∨i=14∨i=15∨i=16∨i=17∨i=18∨i=19∨i=20∨i=21∨i=22∨i=23:=by omega
 rcases this with rfl|rfl|rfl|rfl|rfl|rfl|rfl|rfl|rfl|rfl|rfl|rfl|rfl|rfl|rfl|rfl|rfl|rfl|rfl|rfl|rfl|rfl|rfl|rfl <;> (cases h;rfl)
theorem zoe {W:World} (h0:laidMetH Tryz.prog Rows.sampledRow.laid W) (hz:21<=W.heap.size):(∃S,Gl S W)/\zbt W/\zbW W:=by
 have h:=zig h0
 obtain ⟨a1,e1⟩:=zcl h (k:=6) rfl Tryz.gLong Tryz.tLong
 obtain ⟨a2,e2⟩:=zcl h (k:=7) rfl Tryz.gSyntax Tryz.tSyntax
 obtain ⟨a3,e3⟩:=zcl h (k:=8) rfl Tryz.gDeep Tryz.tDeep
 obtain ⟨a4,e4⟩:=zcl h (k:=9) rfl Tryz.gName Tryz.tName
 obtain ⟨a5,e5⟩:=zcl h (k:=10) rfl Tryz.gType Tryz.tType
 obtain ⟨a6,e6⟩:=zcl h (k:=11) rfl Tryz.gClock Tryz.tClock
 obtain ⟨a7,e7⟩:=zcl h (k:=12) rfl Tryz.gDefine Tryz.tDefine
 obtain ⟨a8,e8⟩:=zcl h (k:=13) rfl Tryz.gCause Tryz.tCause
 obtain ⟨a9,e9⟩:=zcl h (k:=14) rfl Tryz.gLimit Tryz.tLimit
 obtain ⟨a10,e10⟩:=zcl h (k:=15) rfl Tryz.gImage Tryz.tImage
 obtain ⟨a11,e11⟩:=zcl h (k:=16) rfl Tryz.gInput Tryz.tInput
 obtain ⟨a12,e12⟩:=zcl h (k:=4) rfl Tryz.gErrRange Tryz.tErrRange
 have hw:=zjE h (k:=0) rfl Tryz.gWords Tryz.tWords Tryz.underlying306 Tryz.cellsStr Tryz.cWords
 have ho:=zjE h (k:=18) rfl Tryz.gOpers Tryz.tOpers Tryz.underlying264 Tryz.cellsOp Tryz.cOpers
 have hs:=zpE h (k:=17) rfl Tryz.gShapes Tryz.tShapes Tryz.underlying158 Tryz.underlying157 rfl rfl rfl (by kernel_rfl) (by kernel_rfl) (by kernel_rfl) (by kernel_rfl) (by kernel_rfl) (by kernel_rfl) Tryz.cellsShape
 refine ⟨⟨λk=>match k with|1=>a1|2=>a2|3=>a3|4=>a4|5=>a5|6=>a6|7=>a7|8=>a8|9=>a9|10=>a10|11=>a11|_=>a12,e1,e2,e3,e4,e5,e6,e7,e8,e9,e10,e11,e12,λi s hi=>?_,hz⟩,λk h1 h2=>?_,?_⟩
 · have hlt:i<24:=by have:=(List.getElem?_eq_some_iff.1 hi).1;have e:zcY.length=24:=rfl;omega
   obtain ⟨v,f,x,q1,q2,q3⟩:=hw i hlt
   obtain ⟨s',r1,rfl,_⟩:=DataW.trod_string Tryz.underlying9 q2
   cases r1
   rw [q1]
   have h2:=zm4 i s hi
   have h3:(some (DataW.lit (.string s'.data.toList)):Option (DataW Unit))=some (.lit (.string s.data.toList)):=q3.symm.trans h2
   have h4:s'.data.toList=s.data.toList:=by
    have:=Option.some.inj h3
    injection this with this
    injection this
   obtain ⟨⟨d1⟩⟩:=s'
   obtain ⟨⟨d2⟩⟩:=s
   simp only at h4
   rw [h4]
 · obtain ⟨v,f,x,q1,q2,q3⟩:=ho k (by omega)
   obtain ⟨s',r1,rfl,_⟩:=DataW.trod_int Tryz.underlying68 q2
   cases r1
   rw [q1]
   have:k=5∨k=10∨k=11∨k=12∨k=13∨k=14∨k=15∨k=16∨k=17∨k=18∨k=19∨k=20∨k=21∨k=22∨k=23:=by omega
   rcases this with rfl|rfl|rfl|rfl|rfl|rfl|rfl|rfl|rfl|rfl|rfl|rfl|rfl|rfl|rfl <;> (have q4:=Option.some.inj q3;injection q4 with q4;injection q4 with _ q5;subst q5;rfl)
 · have key:∀k s,zY[k]?=some s->∃a b c:Int,W.cell? ⟨12,k*3,none⟩=some (.int .i64 a)/\W.cell? ⟨12,k*3+1,none⟩=some (.int .i64 b)/\W.cell? ⟨12,k*3+2,none⟩=some (.int .i64 c)/\a=(s.1:Nat)/\b=(s.2.1:Nat)/\c=(s.2.2:Nat):=by
    intro k s hk
    have h20:=zeB hk
    obtain ⟨a,b,c,q1,q2,q3,q4⟩:=hs k (by omega)
    refine ⟨a,b,c,q1,q2,q3,?_⟩
    clear q1 q2 q3 hs ho hw
    have:k=0∨k=1∨k=2∨k=3∨k=4∨k=5∨k=6∨k=7∨k=8∨k=9∨k=10∨k=11∨k=12∨k=13∨k=14∨k=15∨k=16∨k=17∨k=18∨k=19∨k=20:=by omega
    rcases this with rfl|rfl|rfl|rfl|rfl|rfl|rfl|rfl|rfl|rfl|rfl|rfl|rfl|rfl|rfl|rfl|rfl|rfl|rfl|rfl|rfl <;> (cases hk;have q5:=Option.some.inj q4;injection q5 with q5;injection q5 with q6 q7;injection q7 with q8 q9;injection q9 with q10 _;injection q6 with q6;injection q6 with _ q6;injection q8 with q8;injection q8 with _ q8;injection q10 with q10;injection q10 with _ q10;subst q6 q8 q10;exact ⟨rfl,rfl,rfl⟩)
   refine ⟨λk s hk=>?_,λk s hk=>?_,λk s hk=>?_⟩
   · obtain ⟨a,b,c,q1,q2,q3,rfl,rfl,rfl⟩:=key k s hk;exact q1
   · obtain ⟨a,b,c,q1,q2,q3,rfl,rfl,rfl⟩:=key k s hk;exact q2
   · obtain ⟨a,b,c,q1,q2,q3,rfl,rfl,rfl⟩:=key k s hk;exact q3
theorem Tryz.own:ownKnob Tryz.prog.godebug=none:=by kernel_rfl
theorem Tryz.laidOut:laidOutB Tryz.prog=true:=by kernel_rfl
theorem Tryz.cells64:Tryz.prog.cellsOf 2=1:=by kernel_rfl
theorem znF (os:Go.Os) (args:Array Value):laidMetH Tryz.prog Rows.sampledRow.laid ((World.doorLaid Tryz.prog 314 os).forCall (λ_ _=>0) ⟨#[],args,[]⟩).memory :=
 laidMetH_of_parts (laidMet_of_run' 8 (by kernel_rfl) (by kernel_rfl)) (by kernel_rfl)
theorem zqu {n:Int} (h:(Lit.int .i64 n).wf=true):-9223372036854775808<=n/\n<=9223372036854775807:=bounds_i64 h
theorem zo3 {H:Type} {enc:TypeId×Value->H} {W:World} {a:Option Addr} {len cap fuel:Nat} {x:DataW H×List MemPlace} {sp:Nat->Bool} {held:Bool} (hf:DataW.trod enc Tryz.prog W 0 sp held fuel 22 (Value.slice a len cap).cells.toList=some x) (hlt:∀p∈x.2,p.block<W.heap.size):∃l,Ar W W.heap.size (.slice a len cap) l:=by
 rcases open_ints Tryz.underlying22 Tryz.underlying2 Tryz.cells64 hf with ⟨hcs,hx⟩|⟨a',len',cap',zs,hcs,_,hl,hm,hz,hx,hcell,hwz⟩
 · simp [Value.cells] at hcs
   obtain ⟨rfl,rfl,rfl⟩:=hcs
   exact ⟨[],⟨none,0,rfl,by decide,λh=>absurd rfl h⟩,λx hx=>by cases hx⟩
 · simp [Value.cells] at hcs
   obtain ⟨rfl,rfl,rfl⟩:=hcs
   have hml:maxLen<=9223372036854775807:=by decide
   have hzl:len<=zs.length:=by rw [hz];split <;> omega
   have htl:(zs.take len).length=len:=by rw [List.length_take];omega
   refine ⟨zs.take len,⟨some a',cap,by rw [htl],by rw [htl];omega,λhne=>?_⟩,λy hy=>zqu (hwz y (List.mem_of_mem_take hy))⟩
   have h0:0<zs.length:=by
    rcases zs with _|⟨z,zs⟩
    · simp at hne
    · simp
   obtain ⟨b,off,spot⟩:=a'
   have hspot:spot=none:=by simpa [Addr.add] using World.cell?_spot (hcell 0 h0)
   subst hspot
   refine ⟨b,off,rfl,hlt (.cell b off) (by rw [hx];exact MemPlace.mem_row.2 ⟨0,h0,by simp⟩),λj y hj=>?_⟩
   rw [List.getElem?_take] at hj
   split at hj
   · have hjl:=(List.getElem?_eq_some_iff.1 hj).1
     have:=hcell j hjl
     rw [List.getD_eq_getElem?_getD,hj] at this
     rw [add_plain] at this
     exact this
   · cases hj
end
section
theorem Tryz.mapsR:(mapsRowed Tryz.prog)=true:=by kernel_rfl
theorem Tryz.heard:(Tryz.prog.stopsHeard)=true:=by kernel_rfl
theorem Tryz.enter:(Tryz.prog.mayEnter)=true:=by kernel_rfl
theorem zr1:((Rows.sampledRow.lifted==Tryz.prog.liftsFinal))=true:=by kernel_rfl
theorem zrC:((Tryz.prog.make==some Rows.sampledRow.make))=true:=by kernel_rfl
theorem zrZ:((Rows.sampledRow.plainKeys==Tryz.prog.plainKeys))=true:=by kernel_rfl
theorem jf9:((Rows.sampledRow.inPlace==Tryz.prog.inPlace 3))=true:=by kernel_rfl
theorem zrD:((Rows.sampledRow.unfollowed==Tryz.prog.unfollowed 3))=true:=by kernel_rfl
theorem zrE:((Rows.sampledRow.recurses==Tryz.prog.recurses 3))=true:=by kernel_rfl
theorem zrM:((Rows.sampledRow.named==Tryz.prog.varsNamed 3))=true:=by kernel_rfl
theorem jf0:(Rows.sampledRow.wf (OpenSpec.ofChange Rows.sampledSpec))=true:=by kernel_rfl
theorem jf3:(Tryz.f3.params.all (Tryz.prog.readableRec ·))=true:=by kernel_rfl
theorem jf4:(namedTie Tryz.prog Rows.sampledRow.named Rows.sampledSpec.vars)=true:=by kernel_rfl
theorem jf5:((Rows.sampledRow.stops==[]))=true:=by kernel_rfl
theorem jf6:((Tryz.prog.stops==[]))=true:=by kernel_rfl
theorem jf7:((Rows.sampledRow.knobs==[]))=true:=by kernel_rfl
theorem jf8:((Tryz.prog.stopKnobs==[]))=true:=by kernel_rfl
theorem zrQ:((Rows.sampledRow.maps==(Tryz.f3.params.toList++Rows.sampledSpec.plain.varTypes Tryz.prog).any (Tryz.prog.mapsRec ·)))=true:=by kernel_rfl
theorem zrT:((Rows.sampledRow.ifaces==(Tryz.f3.params.toList++Rows.sampledSpec.plain.varTypes Tryz.prog).any (Tryz.prog.ifacesRec ·)))=true:=by kernel_rfl
theorem zrF:((Rows.sampledRow.mapsOut==Tryz.prog.mapsAmong Tryz.f3.resultTypes.toList))=true:=by kernel_rfl
theorem zr3:((Rows.sampledRow.loops==(Tryz.f3.params.toList++Rows.sampledSpec.plain.varTypes Tryz.prog).any (Tryz.prog.loopsFrom ·)))=true:=by kernel_rfl
theorem zrP:((Rows.sampledRow.wideKeys==(Tryz.f3.params.toList++Rows.sampledSpec.plain.varTypes Tryz.prog++Tryz.f3.resultTypes.toList).any (Tryz.prog.wideKeysFrom ·)))=true:=by kernel_rfl
theorem zrG:(Rows.sampledSpec.vars.all (Tryz.prog.varReadable ·))=true:=by kernel_rfl
theorem zr2:(Tryz.f3.resultTypes.all (λt=>Tryz.prog.readableRec t&&decide (t<Tryz.prog.types.size)))=true:=by kernel_rfl
theorem zrX:((Rows.sampledRow.ifacesOut==Tryz.f3.resultTypes.toList.any (Tryz.prog.ifacesRec ·)))=true:=by kernel_rfl
theorem zrV:((Rows.sampledRow.loopsOut==Tryz.f3.resultTypes.toList.any (Tryz.prog.loopsFrom ·)))=true:=by kernel_rfl
theorem zrK:(Rows.sampledRow.shortTexts.isNone)=true:=by kernel_rfl
theorem zr4:((Rows.sampledRow.kinds==(if Rows.sampledRow.domain.isEmpty then [] else Tryz.f3.params.toList.map λt=>match Tryz.prog.underlying t with|some (.int k)=>some k|_=>none)))=true:=by kernel_rfl
theorem zrU:((Rows.sampledRow.pinned==Rows.sampledRow.pinnedBy))=true:=by kernel_rfl
theorem zrI:((Rows.sampledRow.veiled==(Tryz.f3.params.toList++Rows.sampledSpec.plain.varTypes Tryz.prog++Tryz.f3.resultTypes.toList).any (Tryz.prog.veiledRec ·)))=true:=by kernel_rfl
theorem zrO:(Rows.sampledRow.veiledFits Tryz.prog Tryz.f3.params.toList (Tryz.f3.params.toList++Rows.sampledSpec.plain.varTypes Tryz.prog++Tryz.f3.resultTypes.toList))=true:=by kernel_rfl
end
end Go.Proofs.YtedmpgjebafcjaaGreatDoor
