/- Part 14 of the proof: RunD Hnd RunE RunF MdlM RunH. -/
import Derived.Deep.DrawnRows
import Derived.Deep.RegionHeld3
import Derived.Test.YtbicmofihhjgbaaGreatDoorK12
set_option maxRecDepth 100000
set_option maxHeartbeats 8000000
namespace Go.Proofs.YtbicmofihhjgbaaGreatDoor
open Go.Proofs.Tryz
section
open Go.RowKit
theorem zpi (mb cb b1 b2 B:Nat)(sv:Value)(cells slots st:List Int)(v x:Int)(w:World)(h:MB w mb cb b1 b2 B sv cells slots (v::st))(hm:st.length+10<=10000000) :
 xK 59 #[xP mb,.agg #[.int .u8 7,xI x]] w (zcM mb cb b1 b2 B w sv cells slots (wrap64 (-v)::st)):=by
 have HM:=za h;obtain⟨h0,h1,h2,h3,hf,hz⟩:=zU h.blk;obtain⟨_,hl1,hl2,_⟩:=h.lt;go_enter func59,ntmps59;go_wp2_with (first|(go_at_call 109;refine (zcH mb cb b1 b2 B sv1 cells slots (st) (_) _ HM1.o (by simp;omega)).mono ?_;rintro e w2 ⟨rfl,sv2,hM,hF⟩;obtain⟨p2,q2,r2,s2,f2,z2⟩:=zU hM.blk;have HF2:=za (HF1.o.trans hF);have HG2:=za (HG1.o.trans hF);obtain⟨u2,v2,y2,x2⟩:=zp (HM.o.box HG2.o);have HM2:=za hM)|(go_at_call 110;refine (za6 mb cb b1 b2 B sv cells slots (st) v _ (HM.o.alloc _) (by simp;omega)).mono ?_;rintro e w1 ⟨rfl,sv1,hM,hF⟩;obtain⟨p1,q1,r1,s1,f1,z1⟩:=zU hM.blk;have HF1:=za hF.ofAlloc;have HG1:=za hF;obtain⟨u1,v1,y1,x1⟩:=zp (HM.o.box HG1.o);have HM1:=za hM));go_end0;exact⟨rfl,_,HM2.o,HF2.o⟩
theorem zpV (mb cb b1 b2 B:Nat)(sv:Value)(cells slots st:List Int)(v x:Int)(w:World)(h:MB w mb cb b1 b2 B sv cells slots (v::st))(hm:st.length+10<=10000000) :
 xK 59 #[xP mb,.agg #[.int .u8 8,xI x]] w (zcM mb cb b1 b2 B w sv cells slots (tru (v==0)::st)):=by
 have HM:=za h;obtain⟨h0,h1,h2,h3,hf,hz⟩:=zU h.blk;obtain⟨_,hl1,hl2,_⟩:=h.lt;go_enter func59,ntmps59;go_wp2_with (first|(go_at_call 109;refine (zcH mb cb b1 b2 B sv1 cells slots (st) (_) _ HM1.o (by simp;omega)).mono ?_;rintro e w2 ⟨rfl,sv2,hM,hF⟩;obtain⟨p2,q2,r2,s2,f2,z2⟩:=zU hM.blk;have HF2:=za (HF1.o.trans hF);have HG2:=za (HG1.o.trans hF);obtain⟨u2,v2,y2,x2⟩:=zp (HM.o.box HG2.o);have HM2:=za hM)|(go_at_call 112;refine (zdV _ _).mono ?_;rintro e w9 ⟨rfl,rfl⟩)|(go_at_call 110;refine (za6 mb cb b1 b2 B sv cells slots (st) v _ (HM.o.alloc _) (by simp;omega)).mono ?_;rintro e w1 ⟨rfl,sv1,hM,hF⟩;obtain⟨p1,q1,r1,s1,f1,z1⟩:=zU hM.blk;have HF1:=za hF.ofAlloc;have HG1:=za hF;obtain⟨u1,v1,y1,x1⟩:=zp (HM.o.box HG1.o);have HM1:=za hM));go_end0;exact⟨rfl,_,HM2.o,HF2.o⟩
theorem zpM (mb cb b1 b2 B:Nat)(sv:Value)(cells slots st:List Int)(no yes c x:Int)(w:World)(h:MB w mb cb b1 b2 B sv cells slots (no::yes::c::st))(hm:st.length+10<=10000000) :
 xK 59 #[xP mb,.agg #[.int .u8 5,xI x]] w (zcM mb cb b1 b2 B w sv cells slots ((pk c yes no)::st)):=by
 have HM:=za h;obtain⟨h0,h1,h2,h3,hf,hz⟩:=zU h.blk;obtain⟨_,hl1,hl2,_⟩:=h.lt;go_enter func59,ntmps59;go_wp2_with (first|(go_at_call 109;refine (zcH mb cb b1 b2 B sv3 cells slots (st) (_) _ HM3.o (by simp;omega)).mono ?_;rintro e w4 ⟨rfl,sv4,hM,hF⟩;obtain⟨p4,q4,r4,s4,f4,z4⟩:=zU hM.blk;have HF4:=za (HF3.o.trans hF);have HG4:=za (HG3.o.trans hF);obtain⟨u4,v4,y4,x4⟩:=zp (HM.o.box HG4.o);have HM4:=za hM)|(go_at_call 110;refine (za6 mb cb b1 b2 B sv2 cells slots (st) c _ HM2.o (by simp;omega)).mono ?_;rintro e w3 ⟨rfl,sv3,hM,hF⟩;obtain⟨p3,q3,r3,s3,f3,z3⟩:=zU hM.blk;have HF3:=za (HF2.o.trans hF);have HG3:=za (HG2.o.trans hF);obtain⟨u3,v3,y3,x3⟩:=zp (HM.o.box HG3.o);have HM3:=za hM)|(go_at_call 110;refine (za6 mb cb b1 b2 B sv1 cells slots (c::st) yes _ HM1.o (by simp;omega)).mono ?_;rintro e w2 ⟨rfl,sv2,hM,hF⟩;obtain⟨p2,q2,r2,s2,f2,z2⟩:=zU hM.blk;have HF2:=za (HF1.o.trans hF);have HG2:=za (HG1.o.trans hF);obtain⟨u2,v2,y2,x2⟩:=zp (HM.o.box HG2.o);have HM2:=za hM)|(go_at_call 111;refine (zdy _ _ _ _).mono ?_;rintro e w9 ⟨rfl,rfl⟩)|(go_at_call 110;refine (za6 mb cb b1 b2 B sv cells slots (yes::c::st) no _ (HM.o.alloc _) (by simp;omega)).mono ?_;rintro e w1 ⟨rfl,sv1,hM,hF⟩;obtain⟨p1,q1,r1,s1,f1,z1⟩:=zU hM.blk;have HF1:=za hF.ofAlloc;have HG1:=za hF;obtain⟨u1,v1,y1,x1⟩:=zp (HM.o.box HG1.o);have HM1:=za hM));go_end0;exact⟨rfl,_,HM4.o,HF4.o⟩
theorem zpk (mb cb b1 b2 B:Nat)(sv:Value)(cells slots st:List Int)(k:Nat)(v:Int)(hk:slots[k]?=some v)(w:World)(HM:MB w mb cb b1 b2 B sv cells slots (st))(hm:st.length+10<=10000000) :
 xK 59 #[xP mb,.agg #[.int .u8 1,xI k]] w (zcM mb cb b1 b2 B w sv cells slots (v::st)):=by
 obtain⟨h0,h1,h2,h3,hf,hz⟩:=zU HM.blk;obtain⟨_,hl1,hl2,_⟩:=HM.lt;have t1:=zbT HM.sl hk;have hlt:=(List.getElem?_eq_some_iff.1 hk).1;go_enter func59,ntmps59;go_upto_region 7 with fail;go_region_law (refine zde rfl 109 (.tmp 32) (.tmp 40) 61 2 rfl zhZ (xP mb) (xI v) rfl rfl (zcH mb cb b1 b2 B sv cells slots st v _ (HM.alloc _).drew (by omega)) ?_;rintro e w1 ⟨rfl,sv1,HM1,HF1⟩;refine⟨_,rfl,?_⟩);all_goals go_wp2_with fail
 all_goals go_end0
 all_goals exact⟨rfl,_,HM1,HF1.undrew.ofAlloc⟩
theorem zqj (mb cb b1 b2 B:Nat)(sv:Value)(cells slots st:List Int)(k:Nat)(v:Int)(hk:cells[k]?=some v)(w:World)(HM:MB w mb cb b1 b2 B sv cells slots (st))(hm:st.length+10<=10000000) :
 xK 59 #[xP mb,.agg #[.int .u8 3,xI k]] w (zcM mb cb b1 b2 B w sv cells slots (v::st)):=by
 obtain⟨h0,h1,h2,h3,hf,hz⟩:=zU HM.blk;obtain⟨_,hl1,hl2,_⟩:=HM.lt;have t1:=zbT HM.ce hk;have hlt:=(List.getElem?_eq_some_iff.1 hk).1;go_enter func59,ntmps59;go_upto_region 11 with fail;go_region_law (refine zde rfl 109 (.tmp 55) (.tmp 63) 61 2 rfl zhZ (xP mb) (xI v) rfl rfl (zcH mb cb b1 b2 B sv cells slots st v _ (HM.alloc _).drew (by omega)) ?_;rintro e w1 ⟨rfl,sv1,HM1,HF1⟩;refine⟨_,rfl,?_⟩);all_goals go_wp2_with fail
 all_goals go_end0
 all_goals exact⟨rfl,_,HM1,HF1.undrew.ofAlloc⟩
theorem zpA (mb cb b1 b2 B:Nat)(sv:Value)(cells slots st:List Int)(k:Nat)(c:Int)(hk:slots[k]?=some c)(no yes:Int)(w:World)(h:MB w mb cb b1 b2 B sv cells slots (no::yes::st))(hm:st.length+10<=10000000) :
 xK 59 #[xP mb,.agg #[.int .u8 6,xI k]] w (zcM mb cb b1 b2 B w sv cells slots ((pk c yes no)::st)):=by
 have HM:=za h;obtain⟨h0,h1,h2,h3,hf,hz⟩:=zU h.blk;obtain⟨_,hl1,hl2,_⟩:=h.lt;have Hk:=za hk;have hlt:=(List.getElem?_eq_some_iff.1 hk).1;go_enter func59,ntmps59;go_upto_region 20 with (first|(go_at_call 110;refine (za6 mb cb b1 b2 B sv1 cells slots (st) yes _ HM1.o (by simp;omega)).mono ?_;rintro e w2 ⟨rfl,sv2,hM,hF⟩;obtain⟨p2,q2,r2,s2,f2,z2⟩:=zU hM.blk;have HF2:=za (HF1.o.trans hF);have HG2:=za (HG1.o.trans hF);obtain⟨u2,v2,y2,x2⟩:=zp (HM.o.box HG2.o);have HM2:=za hM)|(go_at_call 110;refine (za6 mb cb b1 b2 B sv cells slots (yes::st) no _ (HM.o.alloc _) (by simp;omega)).mono ?_;rintro e w1 ⟨rfl,sv1,hM,hF⟩;obtain⟨p1,q1,r1,s1,f1,z1⟩:=zU hM.blk;have HF1:=za hF.ofAlloc;have HG1:=za hF;obtain⟨u1,v1,y1,x1⟩:=zp (HM.o.box HG1.o);have HM1:=za hM));have t1:=zbT HM2.o.sl Hk.o;go_region_law (first|(refine zde rfl 109 (.tmp 107) (.tmp 118) 61 2 rfl zhZ (xP mb) (xI (pk c yes no)) rfl rfl (zcH mb cb b1 b2 B sv2 cells slots st _ _ HM2.o.drew (by omega)) ?_;rintro e w3 ⟨rfl,sv3,hM3,hF3⟩;refine⟨_,rfl,?_⟩;have HM3:=za hM3;have HF3:=za hF3)|(refine zkN rfl 111 (.tmp 115) (.tmp 116) (.tmp 117) 2 2 2 rfl zpc (xI c) (xI yes) (xI no) rfl rfl rfl (zdy _ _ _ _) ?_;rintro e w9 ⟨rfl,rfl⟩;refine⟨_,rfl,?_⟩));all_goals go_wp2_with fail
 all_goals go_end0
 all_goals exact⟨rfl,_,HM3.o,HF2.o.trans HF3.o.undrew⟩
theorem zpu (mb cb b1 b2 B:Nat)(sv:Value)(cells slots st:List Int)(op:Nat)(ho1:9<=op)(ho2:op<=20)(a b x:Int)(w:World)(h:MB w mb cb b1 b2 B sv cells slots (b::a::st))(hm:st.length+10<=10000000) :
 xK 59 #[xP mb,.agg #[.int .u8 op,xI x]] w (zcM mb cb b1 b2 B w sv cells slots (opR op a b::st)):=by
 have HO1:=za ho1;have HO2:=za ho2;have o0:((op:Int)==0)=false:=by simp;omega
 have o1:((op:Int)==1)=false:=by simp;omega
 have o2:((op:Int)==2)=false:=by simp;omega
 have o3:((op:Int)==3)=false:=by simp;omega
 have o4:((op:Int)==4)=false:=by simp;omega
 have o5:((op:Int)==5)=false:=by simp;omega
 have o6:((op:Int)==6)=false:=by simp;omega
 have o7:((op:Int)==7)=false:=by simp;omega
 have o8:((op:Int)==8)=false:=by simp;omega
 have HM:=za h;obtain⟨h0,h1,h2,h3,hf,hz⟩:=zU h.blk;obtain⟨_,hl1,hl2,_⟩:=h.lt;go_enter func59,ntmps59;go_wp2_with (first|(go_at_call 109;refine (zcH mb cb b1 b2 B sv2 cells slots (st) (_) _ HM2.o (by simp;omega)).mono ?_;rintro e w3 ⟨rfl,sv3,hM,hF⟩;obtain⟨p3,q3,r3,s3,f3,z3⟩:=zU hM.blk;have HF3:=za (HF2.o.trans hF);have HG3:=za (HG2.o.trans hF);obtain⟨u3,v3,y3,x3⟩:=zp (HM.o.box HG3.o);have HM3:=za hM)|(go_at_call 110;refine (za6 mb cb b1 b2 B sv1 cells slots (st) a _ HM1.o (by simp;omega)).mono ?_;rintro e w2 ⟨rfl,sv2,hM,hF⟩;obtain⟨p2,q2,r2,s2,f2,z2⟩:=zU hM.blk;have HF2:=za (HF1.o.trans hF);have HG2:=za (HG1.o.trans hF);obtain⟨u2,v2,y2,x2⟩:=zp (HM.o.box HG2.o);have HM2:=za hM)|(go_at_call 113;refine (zlh op HO1.o HO2.o _ _ _).mono ?_;rintro e w9 ⟨rfl,rfl⟩)|(go_at_call 110;refine (za6 mb cb b1 b2 B sv cells slots (a::st) b _ (HM.o.alloc _) (by simp;omega)).mono ?_;rintro e w1 ⟨rfl,sv1,hM,hF⟩;obtain⟨p1,q1,r1,s1,f1,z1⟩:=zU hM.blk;have HF1:=za hF.ofAlloc;have HG1:=za hF;obtain⟨u1,v1,y1,x1⟩:=zp (HM.o.box HG1.o);have HM1:=za hM));go_end0;exact⟨rfl,_,HM3.o,HF3.o⟩
end
section
variable {a:Act} {listed:Array Bool} {ops:Array Oper} {Q:Exit->Act->World->Prop} {fuel:Nat} {oi:Oper} {P:Program} {md:Region.Mode} {v:Value} {w:World} {S:World->Prop}
theorem tkH {i:Nat}(hi:ops[i]?=some oi)
 (hb:(Region.noSelect ops&&(Region.free md ops listed i&&(Region.ready md ops listed).contains i))=true)
 (hQ:∀c a w,Q (.panic c) (a.put oi.dst v) w->Q (.panic c) a w) (hy:YieldsIf P ops S oi v a) (hS:S w)
 (h:wpAnyH P md ops Q S fuel (listed.setIfInBounds i true) (a.put oi.dst v) w):wpAnyH P md ops Q S (fuel+1) listed a w:=by
 simp only[Bool.and_eq_true] at hb;exact wpAnyH_take hi hb.1 hb.2.1 hb.2.2 hQ hy hS h
theorem tkA (i:Nat)(hi:ops[i]?=some oi)(hy:YieldsIf P ops S oi v a)
 (h:wpAnyH P md ops Q S fuel (listed.setIfInBounds i true) (a.put oi.dst v) w)
 (hb:(Region.noSelect ops&&(Region.free md ops listed i&&(Region.ready md ops listed).contains i))=true:=by kernel_rfl)
 (hQ:∀c a w,Q (.panic c) (a.put oi.dst v) w->Q (.panic c) a w:=by exact λ_ _ _ h=>h) (hS:S w:=by assumption):wpAnyH P md ops Q S (fuel+1) listed a w:=tkH hi hb hQ hy hS h
theorem zx2:(∀{α:Type} (a:α) (l:List α) (h:0<(a::l).length),(a::l)[0]'h=a)/\(∀{α:Type} (a:α) (l:List α) (i:Nat) (h:i+1<(a::l).length),(a::l)[i+1]'h=l[i]'(Nat.lt_of_succ_lt_succ h))/\(∀{α:Type} {l:List α} {i:Nat} (h:i<l.toArray.size),l.toArray[i]'h=l[i]'(by simpa using h))/\(∀{α:Type} (l:List α) (i:Nat) (a:α),l.toArray.setIfInBounds i a=(l.set i a).toArray)/\(∀{α:Type} {l:List α} {a b:α},(a::l).set 0 b=b::l)/\∀{α:Type} {l:List α} {a b:α} {n:Nat},(a::l).set (n+1) b=a::l.set n b :=
 ⟨λ_ _ _=>rfl,λ_ _ _ _=>rfl,λ_=>rfl,λl i a=>zr5 l i a,rfl,rfl⟩
end
section
open Go.RowKit
attribute [local go_sem ↓] Go.wp_at_zero Go.wp_at_succ
theorem zpU (mb cb b1 b2 B:Nat)(sv:Value)(cells slots st:List Int)(k:Nat)(old:Int)(Hk:cells[k]?=some old)(v c:Int)(w:World)(HM:MB w mb cb b1 b2 B sv cells slots (v::c::st))(hm:st.length+10<=10000000) :
 xK 59 #[xP mb,.agg #[.int .u8 4,xI k]] w (zcM mb cb b1 b2 B w sv (cells.set k (pk c v old)) slots st):=by
 obtain⟨h0,h1,h2,h3,hf,hz⟩:=zU HM.blk;obtain⟨_,hl1,hl2,_⟩:=HM.lt;have hlt:=(List.getElem?_eq_some_iff.1 Hk).1;have hk0:(0:Int)<=(k:Int):=by omega
 have hk8:(k:Int)<(cells.length:Int):=by omega
 have n1':¬mb=b1:=HM.ne1;have n1'':¬b1=mb:=λe=>HM.ne1 e.symm;have n2':¬w.heap.size=b1:=by omega
 have n2'':¬b1=w.heap.size:=by omega
 go_enter func59,ntmps59;go_upto_region 14 with ((go_at_call 110;refine (za6 mb cb b1 b2 B sv cells slots (c::st) v _ (HM.alloc _) (by simp;omega)).mono ?_;rintro e w1 ⟨rfl,sv1,HM1,HG1⟩;obtain⟨p1,q1,r1,s1,f1,z1⟩:=zU HM1.blk;have HF1:=za HG1.ofAlloc;obtain⟨u1,v1,y1,x1⟩:=zp (HM.box HG1)));have t1:=zbT HM1.ce Hk;refine wp_region_noPanic ?_;refine wp_region_held_drew (S:=(λw'=>w'.cell? (xD mb 1)=some (xS b1 cells.length cells.length)/\w'.cell? (xD w.heap.size 1)=some (xI k))) (by kernel_rfl) ?_ (λhHeld=>?_)
 . (try dsimp only);(go_keep)
 refine tkA 0 rfl (v:=?v1) (Or.inl ⟨by rfl,?h1⟩) ?_;case h1=>(intro w hSw;(try dsimp only at hSw);go_simp;try with_reducible rfl)
 try simp only[Act.put,zx2]
 refine tkA 1 rfl (v:=?v2) (Or.inl ⟨by rfl,?h2⟩) ?_;case h2=>(intro w hSw;(try dsimp only at hSw);go_simp;try with_reducible rfl)
 try simp only[Act.put,zx2]
 refine tkA 2 rfl (v:=?v3) (Or.inl ⟨by rfl,?h3⟩) ?_;case h3=>(intro w hSw;(try dsimp only at hSw);go_simp;try with_reducible rfl)
 try simp only[Act.put,zx2]
 refine tkA 3 rfl (v:=?v4) (Or.inl ⟨by rfl,?h4⟩) ?_;case h4=>(intro w hSw;(try dsimp only at hSw);go_simp;try with_reducible rfl)
 try simp only[Act.put,zx2]
 refine tkA 4 rfl (v:=?v5) (Or.inl ⟨by rfl,?h5⟩) ?_;case h5=>(intro w hSw;(try dsimp only at hSw);go_simp;try with_reducible rfl)
 try simp only[Act.put,zx2]
 refine tkA 5 rfl (v:=?v6) (Or.inl ⟨by rfl,?h6⟩) ?_;case h6=>(intro w hSw;(try dsimp only at hSw);go_simp;try with_reducible rfl)
 try simp only[Act.put,zx2]
 refine tkA 6 rfl (v:=?v7) (Or.inl ⟨by rfl,?h7⟩) ?_;case h7=>(intro w hSw;(try dsimp only at hSw);go_simp;try with_reducible rfl)
 try simp only[Act.put,zx2]
 refine tkA 8 rfl (v:=?v8) (Or.inl ⟨by rfl,?h8⟩) ?_;case h8=>(intro w hSw;(try dsimp only at hSw);go_simp;try with_reducible rfl)
 try simp only[Act.put,zx2]
 refine tkA 9 rfl (v:=?v9) (Or.inl ⟨by rfl,?h9⟩) ?_;case h9=>(intro w hSw;(try dsimp only at hSw);go_simp;try with_reducible rfl)
 try simp only[Act.put,zx2]
 refine tkA 10 rfl (v:=?v10) (Or.inl ⟨by rfl,?h10⟩) ?_;case h10=>(intro w hSw;(try dsimp only at hSw);go_simp;try with_reducible rfl)
 try simp only[Act.put,zx2]
 refine tkA 11 rfl (v:=?v11) (Or.inl ⟨by rfl,?h11⟩) ?_;case h11=>(intro w hSw;(try dsimp only at hSw);go_simp;try with_reducible rfl)
 try simp only[Act.put,zx2]
 refine tkA 12 rfl (v:=?v12) (Or.inl ⟨by rfl,?h12⟩) ?_;case h12=>(intro w hSw;(try dsimp only at hSw);go_simp;try with_reducible rfl)
 try simp only[Act.put,zx2]
 refine tkA 13 rfl (v:=?v13) (Or.inl ⟨by rfl,?h13⟩) ?_;case h13=>(intro w hSw;(try dsimp only at hSw);go_simp;try with_reducible rfl)
 try simp only[Act.put,zx2]
 refine tkA 14 rfl (v:=?v14) (Or.inl ⟨by rfl,?h14⟩) ?_;case h14=>(intro w hSw;(try dsimp only at hSw);go_simp;try with_reducible rfl)
 try simp only[Act.put,zx2]
 refine tkA 15 rfl (v:=?v15) (Or.inl ⟨by rfl,?h15⟩) ?_;case h15=>(intro w hSw;(try dsimp only at hSw);go_simp;try with_reducible rfl)
 try simp only[Act.put,zx2]
 refine wpAnyH_ready (rs:=[7,16]) (by kernel_rfl) (by simp) ?_;refine AllReadyH.cons rfl (λK hK=>?_) ?_;go_simp;first|go_at_K|((first|(go_at_call 111;refine (zdy _ _ _ _).mono ?_;rintro e w9 ⟨rfl,rfl⟩)|(go_at_call 110;refine (za6 mb cb b1 b2 B sv1 cells slots st c _ HM1.drew (by omega)).mono ?_;rintro e w2 ⟨rfl,sv2,HM2,HF2⟩;obtain⟨q0,q1,q2,q3,qf,qz⟩:=zU HM2.blk;obtain⟨n0,n1,nf,nz⟩:=zp (HM.box (HG1.trans HF2.undrew));have t2:=zai HM2.ce;have t3:=zbT HM2.ce Hk));first|go_at_K|go_wp2_with fail)
 refine hK.out _ _ ?_ (λh9=>?_)
 . (try dsimp only);(go_keep)
 clear hK K hHeld;have hHeld:=h9;try simp only[Act.put,zx2]
 refine wpAnyH_ready (rs:=[16]) (by kernel_rfl) (by simp) ?_;refine AllReadyH.cons rfl (λK hK=>?_) ?_;go_simp;refine hK.out _ _ ?_ (λh9=>?_)
 . (try dsimp only);(go_keep)
 clear hK K hHeld;have hHeld:=h9;try simp only[Act.put,zx2]
 refine wpAnyH_ready (rs:=[17]) (by kernel_rfl) (by simp) ?_;refine AllReadyH.cons rfl (λK hK=>?_) ?_;go_simp;first|go_at_K|((first|(go_at_call 111;refine (zdy _ _ _ _).mono ?_;rintro e w9 ⟨rfl,rfl⟩)|(go_at_call 110;refine (za6 mb cb b1 b2 B sv1 cells slots st c _ HM1.drew (by omega)).mono ?_;rintro e w2 ⟨rfl,sv2,HM2,HF2⟩;obtain⟨q0,q1,q2,q3,qf,qz⟩:=zU HM2.blk;obtain⟨n0,n1,nf,nz⟩:=zp (HM.box (HG1.trans HF2.undrew));have t2:=zai HM2.ce;have t3:=zbT HM2.ce Hk));first|go_at_K|go_wp2_with fail)
 refine hK.out _ _ ?_ (λh9=>?_)
 . (try dsimp only);(go_keep)
 clear hK K hHeld;have hHeld:=h9;try simp only[Act.put,zx2]
 refine tkA 18 rfl (v:=?v16) (Or.inl ⟨by rfl,?h16⟩) ?_;case h16=>(intro w hSw;(try dsimp only at hSw);go_simp;try with_reducible rfl)
 try simp only[Act.put,zx2]
 refine wpAnyH_ready (rs:=[19]) (by kernel_rfl) (by simp) ?_;refine AllReadyH.cons rfl (λK hK=>?_) ?_;go_simp;refine hK.out _ _ ?_ (λh9=>?_)
 . (try dsimp only);(go_keep)
 clear hK K hHeld;have hHeld:=h9;try simp only[Act.put,zx2]
 refine wpAnyH_done (by kernel_rfl) ?_ _;rotate_left;exact AllReadyH.nil;exact AllReadyH.nil;exact AllReadyH.nil;refine AllReadyH.cons rfl (λK hK=>?_) ?_;go_simp;refine hK.out _ _ ?_ (λh9=>?_)
 . (try dsimp only);(go_keep)
 clear hK K hHeld;have hHeld:=h9;try simp only[Act.put,zx2]
 refine wpAnyH_ready (rs:=[7]) (by kernel_rfl) (by simp) ?_;refine AllReadyH.cons rfl (λK hK=>?_) ?_;go_simp;first|go_at_K|((first|(go_at_call 111;refine (zdy _ _ _ _).mono ?_;rintro e w9 ⟨rfl,rfl⟩)|(go_at_call 110;refine (za6 mb cb b1 b2 B sv1 cells slots st c _ HM1.drew (by omega)).mono ?_;rintro e w2 ⟨rfl,sv2,HM2,HF2⟩;obtain⟨q0,q1,q2,q3,qf,qz⟩:=zU HM2.blk;obtain⟨n0,n1,nf,nz⟩:=zp (HM.box (HG1.trans HF2.undrew));have t2:=zai HM2.ce;have t3:=zbT HM2.ce Hk));first|go_at_K|go_wp2_with fail)
 refine hK.out _ _ ?_ (λh9=>?_)
 . (try dsimp only);(go_keep)
 clear hK K hHeld;have hHeld:=h9;try simp only[Act.put,zx2]
 refine wpAnyH_ready (rs:=[17]) (by kernel_rfl) (by simp) ?_;refine AllReadyH.cons rfl (λK hK=>?_) ?_;go_simp;first|go_at_K|((first|(go_at_call 111;refine (zdy _ _ _ _).mono ?_;rintro e w9 ⟨rfl,rfl⟩)|(go_at_call 110;refine (za6 mb cb b1 b2 B sv1 cells slots st c _ HM1.drew (by omega)).mono ?_;rintro e w2 ⟨rfl,sv2,HM2,HF2⟩;obtain⟨q0,q1,q2,q3,qf,qz⟩:=zU HM2.blk;obtain⟨n0,n1,nf,nz⟩:=zp (HM.box (HG1.trans HF2.undrew));have t2:=zai HM2.ce;have t3:=zbT HM2.ce Hk));first|go_at_K|go_wp2_with fail)
 refine hK.out _ _ ?_ (λh9=>?_)
 . (try dsimp only);(go_keep)
 clear hK K hHeld;have hHeld:=h9;try simp only[Act.put,zx2]
 refine tkA 18 rfl (v:=?v17) (Or.inl ⟨by rfl,?h17⟩) ?_;case h17=>(intro w hSw;(try dsimp only at hSw);go_simp;try with_reducible rfl)
 try simp only[Act.put,zx2]
 refine wpAnyH_ready (rs:=[19]) (by kernel_rfl) (by simp) ?_;refine AllReadyH.cons rfl (λK hK=>?_) ?_;go_simp;refine hK.out _ _ ?_ (λh9=>?_)
 . (try dsimp only);(go_keep)
 clear hK K hHeld;have hHeld:=h9;try simp only[Act.put,zx2]
 refine wpAnyH_done (by kernel_rfl) ?_ _;rotate_left;exact AllReadyH.nil;exact AllReadyH.nil;exact AllReadyH.nil;exact AllReadyH.nil;all_goals refine NoPanic.normal ?_
 all_goals go_wp2_with fail
 all_goals go_end0
 all_goals exact⟨rfl,_,HM2.cell k _,(HF1.o.trans HF2.undrew).cell k _⟩
end
section
open Go.RowKit
variable {cells slots st:List Int} {xs:List Value} {B b1 b2 cb mb n:Nat} {e:TypeId} {sv:Value} {w w':World}
attribute [local go_sem ↓] Go.wp_at_zero Go.wp_at_succ
structure Cd where
 bools:List Bool
 outs:Nat
 slots:Nat
 cells:List Int
 depth:Nat
 row:List (Nat×Int)
def zbs (l:List (Nat×Int)):List Value:=l.flatMap λi=>[.int .u8 i.1,xI i.2]
theorem zgC (l:List (Nat×Int)):(zbs l).length=l.length*2:=by
 induction l with
 | nil=>rfl
 | cons a l ih=>show (_::_::zbs l).length=_;simp[ih];omega
theorem zkl:∀(l:List (Nat×Int)) (k:Nat) (i:Nat×Int),l[k]?=some i->(zbs l)[k*2]?=some (.int .u8 i.1)/\(zbs l)[k*2+1]?=some (xI i.2):=by
 intro l;induction l with
 | nil=>intro k i h;simp at h
 | cons a l ih =>
   intro k i h;have e:zbs (a::l)=.int .u8 a.1::(xI a.2)::zbs l:=rfl;cases k with
   | zero=>simp at h;subst h;simp[e]
   | succ k => simp at h;obtain⟨h1,h2⟩:=ih k i h;rw[e,show (k+1)*2=k*2+1+1 by omega,show k*2+1+1+1=(k*2+1)+1+1 by omega];simp[h1,h2]
structure CB (w:World) (N cb:Nat) (bv cv rv:Value) (c:Cd):Prop where
 blk:xH w cb #[bv,xI c.outs,xI c.slots,cv,xI c.depth,rv] 103
 bown:w.ownsRow 0 4 1 bv c.bools.length (c.bools.map .bool)
 cown:w.ownsRow 0 2 1 cv c.cells.length (zK c.cells)
 rown:w.ownsRow 0 108 2 rv c.row.length (zbs c.row)
 h0:cb<N
 h1:∀k,bv.ownBlock=some k->k<N
 h2:∀k,cv.ownBlock=some k->k<N
 h3:∀k,rv.ownBlock=some k->k<N
 outsB:c.bools.length+c.outs<=c.slots
 slotsB:c.slots<=255
 cellsB:c.cells.length<=255
 depthB:c.depth<=3145728
 rowB:c.row.length<=1048576
theorem CB.old {N:Nat}{bv cv rv:Value}{c:Cd}(h:CB w N cb bv cv rv c)(ho:Old N w w'):CB w' N cb bv cv rv c :=
 ⟨(ho _ h.h0).trans h.blk,zi h.bown (λk _ _ e=>ho k (h.h1 k e)),zi h.cown (λk _ _ e=>ho k (h.h2 k e)),zi h.rown (λk _ _ e=>ho k (h.h3 k e)),h.h0,h.h1,h.h2,h.h3,h.outsB,h.slotsB,h.cellsB,h.depthB,h.rowB⟩
structure Mc (w:World) (N mb cb b1 b2:Nat) (bv cv rv sv:Value) (c:Cd) (cells slots st:List Int):Prop where
 code:CB w N cb bv cv rv c
 mem:MB w mb cb b1 b2 N sv cells slots st
 n0:N<=mb
 n1:N<=b1
 n2:N<=b2
 lc:cells.length=c.cells.length
 ls:slots.length=c.slots
theorem zB {size:Nat}{vs:Value}(h:w.ownsRow B e size vs n xs):∃x cp,vs=.slice x n cp:=by
 rcases h.2 with ⟨h1,h2⟩|⟨g,cap,cur,h1,_⟩
 . exact⟨none,0,by rw[h1,h2]⟩
 . exact⟨_,cap,h1⟩
theorem zec (mb cb:Nat)(N:Nat)(c1 c2 c3 bv cv rv:Value)(c:Cd)(w:World)(hb:xH w mb #[xP cb,c1,c2,c3] 138)(h:CB w N cb bv cv rv c) :
 xK 32 #[xP mb] w (λe w'=>e=.returned (xI c.bools.length)/\w=w'):=by
 obtain⟨h0,h1,h2,h3,hf,hz⟩:=zU hb;obtain⟨k0,k1,k2,k3,k4,k5,kf,kz⟩:=zt h.blk;obtain⟨x,cp,rfl⟩:=zB h.bown;clear h hb;go_enter func32,ntmps32;go_wp2_with fail;go_ret;exact⟨rfl,rfl⟩
theorem zjL (mb cb:Nat)(N:Nat)(c1 c2 c3 bv cv rv:Value)(c:Cd)(w:World)(hb:xH w mb #[xP cb,c1,c2,c3] 138)(h:CB w N cb bv cv rv c) :
 xK 35 #[xP mb] w (λe w'=>e=.returned (xI c.outs)/\w=w'):=by
 obtain⟨h0,h1,h2,h3,hf,hz⟩:=zU hb;obtain⟨k0,k1,k2,k3,k4,k5,kf,kz⟩:=zt h.blk;clear h hb;go_enter func35,ntmps35;go_wp2_with fail;go_ret;exact⟨rfl,rfl⟩
theorem Tryz.i64size:(prog.info? 2).map (·.size)=some 1:=by kernel_rfl
theorem zp0 {x:Option Addr}{cp:Nat}(h:w.ownsRow B e 1 (.slice x n cp) n xs):0<xs.length->∃ad,x=some ad/\∀j v,xs[j]?=some v->w.cell? (ad.add j)=some v:=by
 intro hp;have hl:xs.length=n:=by simpa using h.1
 obtain⟨g,cap,hv,_⟩:=zM h (by omega);cases hv;exact⟨_,rfl,λj v hj=>h.cells (g:=g) rfl j v hj⟩
theorem MB.cells' {cells':List Int}(h:MB w mb cb b1 b2 B sv cells slots st)(hl:cells'.length=cells.length)(hg:w'.heap[b1]?=some (.cells (zK cells').toArray 2 (0,0)))(hf:Fr (·=b1) w w'):MB w' mb cb b1 b2 B sv cells' slots st :=
 ⟨by rw[hl];exact (hf.block mb (ze h.blk) h.ne1).trans h.blk,hg,(hf.block b2 (ze h.sl) (λe=>h.ne3 e.symm)).trans h.sl,zi h.own (λk _ hk e=>hf.block k hk (λe'=>h.s1 (e'▸e))),h.ne1,h.ne2,h.ne3,h.sm,h.s1,h.s2,Nat.le_trans h.hB hf.size⟩
theorem MB.slots' {slots':List Int}(h:MB w mb cb b1 b2 B sv cells slots st)(hl:slots'.length=slots.length)(hg:w'.heap[b2]?=some (.cells (zK slots').toArray 2 (0,0)))(hf:Fr (·=b2) w w'):MB w' mb cb b1 b2 B sv cells slots' st :=
 ⟨by rw[hl];exact (hf.block mb (ze h.blk) h.ne2).trans h.blk,(hf.block b1 (ze h.ce) h.ne3).trans h.ce,hg,zi h.own (λk _ hk e=>hf.block k hk (λe'=>h.s2 (e'▸e))),h.ne1,h.ne2,h.ne3,h.sm,h.s1,h.s2,Nat.le_trans h.hB hf.size⟩
theorem zm3 (N mb cb b1 b2:Nat)(bv cv rv sv:Value)(c:Cd)(cells slots st:List Int)(w:World)(H:Mc w N mb cb b1 b2 bv cv rv sv c cells slots st) :
 xK 34 #[xP mb] w (λe w'=>e=.returned (.tuple #[])/\Mc w' N mb cb b1 b2 bv cv rv sv c c.cells slots st/\Fr (·=b1) w w'):=by
 obtain⟨h0,h1,h2,h3,hf,hz⟩:=zU H.mem.blk;obtain⟨k0,k1,k2,k3,k4,k5,kf,kz⟩:=zt H.code.blk;obtain⟨x,cp,rfl⟩:=zB H.code.cown;have hlc:=H.lc;have Hs:=za (zp0 H.code.cown);have Hu:=underlying32;have Hz1:=Tryz.i64size;rw[hlc] at h1;go_enter func34,ntmps34
 go_region_held3 (λw'=>w'.cell? (xD mb 0)=some (xP cb)/\w'.cell? (xD mb 1)=some (xS b1 c.cells.length c.cells.length)/\w'.cell? (xD cb 3)=some (.slice x c.cells.length cp)) (first|go_keep|(refine⟨?_,?_,?_⟩ <;> first|exact (HM.o).1|exact HM.o.2.1|exact HM.o.2.2))
  ((refine zmi rfl (.tmp 5) (.tmp 12) 32 32 (by rfl) 2 Hu Hz1 b1 c.cells.length c.cells.length x c.cells.length cp (by rfl) (by rfl) (zK cells) 2 H.mem.ce (zK c.cells) (by simp[zK]) Hs.o (by simp[zK,hlc]) zfs ?_;intro w1 HG1 HF1;have HM:Hid (w1.cell? (xD mb 0)=some (xP cb)/\w1.cell? (xD mb 1)=some (xS b1 c.cells.length c.cells.length)/\w1.cell? (xD cb 3)=some (.slice x c.cells.length cp)):=⟨(World.cell?_of_block (w:=w) (HF1.block mb hz H.mem.ne1)).trans h0,(World.cell?_of_block (w:=w) (HF1.block mb hz H.mem.ne1)).trans h1,(World.cell?_of_block (w:=w) (HF1.block cb kz (by have:=H.n1;have:=H.code.h0;omega))).trans k3⟩))
 all_goals go_wp2_with fail
 all_goals go_end0
 all_goals
  have hfr:Fr (·=b1) w w1:=HF1.undrew;refine⟨rfl,⟨H.code.old (hfr.old (Nat.le_trans H.n1 (Nat.le_of_lt H.mem.lt.2.1)) (λk e=>e▸H.n1)),H.mem.cells' (by rw[hlc]) ?_ hfr,H.n0,H.n1,H.n2,rfl,H.ls⟩,hfr⟩;have:=HG1;rwa [List.drop_eq_nil_of_le (by simp[zK,hlc]),List.append_nil] at this
end
section
open Go.RowKit
variable {nc ns:Nat}
structure Ms where
 cells:List Int
 slots:List Int
 st:List Int
def doM (m:Ms)(i:Nat×Int):Ms :=
 match i.1,m.st with
 | 0,st=>{ m with st:=i.2::st }
 | 1,st=>{ m with st:=m.slots.getD i.2.toNat 0::st }
 | 2,v::st=>{ m with slots:=m.slots.set i.2.toNat v,st:=st }
 | 3,st=>{ m with st:=m.cells.getD i.2.toNat 0::st }
 | 4,v::c::st=>{ m with cells:=m.cells.set i.2.toNat (pk c v (m.cells.getD i.2.toNat 0)),st:=st }
 | 5,no::yes::c::st=>{ m with st:=pk c yes no::st }
 | 6,no::yes::st=>{ m with st:=pk (m.slots.getD i.2.toNat 0) yes no::st }
 | 7,v::st=>{ m with st:=wrap64 (-v)::st }
 | 8,v::st=>{ m with st:=tru (v==0)::st }
 | op,b::a::st=>{ m with st:=opR op a b::st }
 | _,_=>m
def zY:List (Nat×Nat×Nat):=[(1,0,1),(2,0,1),(2,1,0),(3,0,1),(3,2,0),(0,3,1),(2,2,1),(0,1,1),(0,1,1),(0,2,1),(0,2,1),(0,2,1),(0,2,1),(0,2,1),(0,2,1),(0,2,1),(0,2,1),(0,2,1),(0,2,1),(0,2,1),(0,2,1)]
def zgT (ns nc h:Nat)(i:Nat×Int):Option Nat :=
 match zY[i.1]? with
 | none=>none
 | some s=>if s.2.1<=h/\(s.1=2->0<=i.2/\i.2.toNat<ns)/\(s.1=3->0<=i.2/\i.2.toNat<nc) then some (h-s.2.1+s.2.2) else none
def zd9 (ns nc:Nat):Nat->List (Nat×Int)->Option Nat
 | h,[]=>some h
 | h,i::l=>match zgT ns nc h i with
   | none=>none
   | some h'=>zd9 ns nc h' l
theorem zeB {k:Nat}{s:Nat×Nat×Nat}(h:zY[k]?=some s):k<=20:=by have:=(List.getElem?_eq_some_iff.1 h).1;simp[zY] at this;omega
theorem zqn {h h':Nat}{m:Ms}{i:Nat×Int}(hf:zgT ns nc h i=some h')(hs:m.st.length=h):(doM m i).st.length=h'/\(doM m i).cells.length=m.cells.length/\(doM m i).slots.length=m.slots.length/\h'<=h+1:=by
 unfold zgT at hf;split at hf
 . cases hf
 . rename_i s hsh
   have h20:=zeB hsh;split at hf
   . rename_i hc
     cases hf;obtain⟨op,x⟩:=i;obtain⟨cells,slots,st⟩:=m;simp only at hs hsh h20;subst hs;have:op=0∨op=1∨op=2∨op=3∨op=4∨op=5∨op=6∨op=7∨op=8∨op=9∨op=10∨op=11∨op=12∨op=13∨op=14∨op=15∨op=16∨op=17∨op=18∨op=19∨op=20:=by omega
     obtain⟨hc1,_⟩:=hc
     rcases this with rfl|rfl|rfl|rfl|rfl|rfl|rfl|rfl|rfl|rfl|rfl|rfl|rfl|rfl|rfl|rfl|rfl|rfl|rfl|rfl|rfl <;>
      (simp only[zY,List.getElem?_cons_zero,List.getElem?_cons_succ,Option.some.injEq] at hsh;subst hsh;simp only at hc1;rcases st with _|⟨a,_|⟨b,_|⟨c,st⟩⟩⟩ <;> simp_all [doM] <;> omega)
   . cases hf
def zeK:List Bool->List Int->Nat->Option Nat
 | b::bs,x::xs,i=>if b=true/\x≠0/\x≠1 then some i else zeK bs xs (i+1)
 | _,_,_=>none
def zdE (bools:List Bool)(l:List Int):Option Nat:=if l.length=bools.length then zeK bools l 0 else some (min l.length bools.length)
def zea (m:Ms)(l:List (Nat×Int)):Ms:=l.foldl doM m
def zdY (ns:Nat)(ins:List Int):List Int:=ins++List.replicate (ns-ins.length) 0
def zbm (c:Cd)(cells ins:List Int):Ms:=zea ⟨cells,zdY c.slots ins,[]⟩ c.row
def zcX (c:Cd)(m:Ms):List Int:=(m.slots.drop c.bools.length).take c.outs
theorem zkI:∀(l:List (Nat×Int)) (h h':Nat) (m:Ms),zd9 ns nc h l=some h'->m.st.length=h->(zea m l).st.length=h'/\(zea m l).cells.length=m.cells.length/\(zea m l).slots.length=m.slots.length:=by
 intro l;induction l with
 | nil=>intro h h' m hf hs;cases hf;exact⟨hs,rfl,rfl⟩
 | cons i l ih =>
   intro h h' m hf hs;unfold zd9 at hf;split at hf
   . cases hf
   . rename_i h1 hf1
     obtain⟨a,b,c,_⟩:=zqn hf1 hs;obtain⟨d,e,f⟩:=ih h1 h' (doM m i) hf a;exact⟨d,e.trans b,f.trans c⟩
end
section
open Go.RowKit
theorem zgl {l:List Int}{k:Nat}(h:k<l.length):l[k]?=some (l.getD k 0):=by rw[List.getD_eq_getElem?_getD,zsc h];rfl
theorem zdc {x:Int}(h:0<=x):((x.toNat:Nat):Int)=x:=Int.toNat_of_nonneg h
theorem zqr (mb cb b1 b2 B:Nat)(sv:Value)(m:Ms)(i:Nat×Int)(h h':Nat)(w:World)(hM:MB w mb cb b1 b2 B sv m.cells m.slots m.st)(hf:zgT m.slots.length m.cells.length h i=some h')(hs:m.st.length=h)(hm:h+10<=10000000) :
 xK 59 #[xP mb,.agg #[.int .u8 i.1,xI i.2]] w (zcM mb cb b1 b2 B w sv (doM m i).cells (doM m i).slots (doM m i).st):=by
 unfold zgT at hf;split at hf
 . cases hf
 . rename_i s hsh
   have h20:=zeB hsh;split at hf
   . rename_i hc
     clear hf;obtain⟨op,x⟩:=i;obtain⟨cells,slots,st⟩:=m;simp only at hs hsh h20 hM;subst hs;obtain⟨hc1,hc2,hc3⟩:=hc;simp only at hc1 hc2 hc3;by_cases h9:9<=op
     . have:s.2.1=2:=by
        have:op=9∨op=10∨op=11∨op=12∨op=13∨op=14∨op=15∨op=16∨op=17∨op=18∨op=19∨op=20:=by omega
        rcases this with rfl|rfl|rfl|rfl|rfl|rfl|rfl|rfl|rfl|rfl|rfl|rfl <;> (simp only[zY,List.getElem?_cons_zero,List.getElem?_cons_succ,Option.some.injEq] at hsh;subst hsh;rfl)
       rw[this] at hc1;obtain⟨b,a,st,rfl⟩:∃b a st',st=b::a::st':=by
        rcases st with _|⟨b,_|⟨a,st⟩⟩
        . simp at hc1
        . simp at hc1
        . exact⟨b,a,st,rfl⟩
       have e:doM ⟨cells,slots,b::a::st⟩ (op,x)=⟨cells,slots,opR op a b::st⟩:=by
        have:op=9∨op=10∨op=11∨op=12∨op=13∨op=14∨op=15∨op=16∨op=17∨op=18∨op=19∨op=20:=by omega
        rcases this with rfl|rfl|rfl|rfl|rfl|rfl|rfl|rfl|rfl|rfl|rfl|rfl <;> rfl
       rw[e];exact zpu mb cb b1 b2 B sv cells slots st op h9 h20 a b x w hM (by simp only[List.length_cons] at hm;omega)
     . have:op=0∨op=1∨op=2∨op=3∨op=4∨op=5∨op=6∨op=7∨op=8:=by omega
       rcases this with rfl|rfl|rfl|rfl|rfl|rfl|rfl|rfl|rfl <;> (simp only[zY,List.getElem?_cons_zero,List.getElem?_cons_succ,Option.some.injEq] at hsh;subst hsh;simp only at hc1 hc2 hc3)
       . exact zqa mb cb b1 b2 B sv cells slots st x w hM (by omega)
       . obtain⟨k1,k2⟩:=hc2 (by decide);have:=zpk mb cb b1 b2 B sv cells slots st x.toNat _ (zgl k2) w hM (by omega);rwa [zdc k1] at this
       . obtain⟨k1,k2⟩:=hc2 (by decide);obtain⟨v,st,rfl⟩:∃v st',st=v::st':=by
          rcases st with _|⟨b,st⟩
          . simp at hc1
          . exact⟨b,st,rfl⟩
         have:=zp5 mb cb b1 b2 B sv cells slots st x.toNat v w hM k2 (by simp only[List.length_cons] at hm;omega);rwa [zdc k1] at this
       . obtain⟨k1,k2⟩:=hc3 (by decide);have:=zqj mb cb b1 b2 B sv cells slots st x.toNat _ (zgl k2) w hM (by omega);rwa [zdc k1] at this
       . obtain⟨k1,k2⟩:=hc3 (by decide);obtain⟨v,c,st,rfl⟩:∃v c st',st=v::c::st':=by
          rcases st with _|⟨b,_|⟨a,st⟩⟩
          . simp at hc1
          . simp at hc1
          . exact⟨b,a,st,rfl⟩
         have:=zpU mb cb b1 b2 B sv cells slots st x.toNat _ (zgl k2) v c w hM (by simp only[List.length_cons] at hm;omega);rwa [zdc k1] at this
       . obtain⟨no,yes,c,st,rfl⟩:∃no yes c st',st=no::yes::c::st':=by
          rcases st with _|⟨b,_|⟨a,_|⟨c,st⟩⟩⟩
          . simp at hc1
          . simp at hc1
          . simp at hc1
          . exact⟨b,a,c,st,rfl⟩
         exact zpM mb cb b1 b2 B sv cells slots st no yes c x w hM (by simp only[List.length_cons] at hm;omega)
       . obtain⟨k1,k2⟩:=hc2 (by decide);obtain⟨no,yes,st,rfl⟩:∃v c st',st=v::c::st':=by
          rcases st with _|⟨b,_|⟨a,st⟩⟩
          . simp at hc1
          . simp at hc1
          . exact⟨b,a,st,rfl⟩
         have:=zpA mb cb b1 b2 B sv cells slots st x.toNat _ (zgl k2) no yes w hM (by simp only[List.length_cons] at hm;omega);rwa [zdc k1] at this
       . obtain⟨v,st,rfl⟩:∃v st',st=v::st':=by
          rcases st with _|⟨b,st⟩
          . simp at hc1
          . exact⟨b,st,rfl⟩
         exact zpi mb cb b1 b2 B sv cells slots st v x w hM (by simp only[List.length_cons] at hm;omega)
       . obtain⟨v,st,rfl⟩:∃v st',st=v::st':=by
          rcases st with _|⟨b,st⟩
          . simp at hc1
          . exact⟨b,st,rfl⟩
         exact zpV mb cb b1 b2 B sv cells slots st v x w hM (by simp only[List.length_cons] at hm;omega)
   . cases hf
end
end Go.Proofs.YtbicmofihhjgbaaGreatDoor
