/- Part 17 of the proof: RunD Hnd RunE RunF MdlM. -/
import Derived.Deep.DrawnRows
import Derived.Deep.RegionHeld3
import Derived.Test.YtedmpgjebafcjaaGreatDoorK15
set_option maxRecDepth 100000
set_option maxHeartbeats 8000000
namespace Go.Proofs.YtedmpgjebafcjaaGreatDoor
section
open Go.RowKit
theorem zpi (mb cb b1 b2 B:Nat) (sv:Value) (cells slots st:List Int) (v x:Int) (w:World) (h:MB w mb cb b1 b2 B sv cells slots (v::st)) (hm:st.length+10<=10000000) :
 Calls Tryz.prog 23 #[.pointer (some ⟨mb,0,none⟩),.agg #[.int .u8 7,.int .i64 x]] w (zcM mb cb b1 b2 B w sv cells slots (wrap64 (-v)::st)):=by
 have HM:=za h
 obtain ⟨h0,h1,h2,h3,hf,hz⟩:=zU h.blk
 obtain ⟨_,hl1,hl2,_⟩:=h.lt
 clear h
 go_enter Tryz.func23,Tryz.ntmps23
 go_wp2_with (first|(go_at_call 45;refine (zcH mb cb b1 b2 B sv1 cells slots (st) (_) _ HM1.out (by simp;omega)).mono ?_;rintro e w2 ⟨rfl,sv2,hM,hF⟩;obtain ⟨p2,q2,r2,s2,f2,z2⟩:=zU hM.blk;have HF2:=za (HF1.out.trans hF);have HG2:=za (HG1.out.trans hF);obtain ⟨u2,v2,y2,x2⟩:=zp (HM.out.box HG2.out);have HM2:=za hM;clear hM hF)|(go_at_call 46;refine (za6 mb cb b1 b2 B sv cells slots (st) v _ (HM.out.alloc _) (by simp;omega)).mono ?_;rintro e w1 ⟨rfl,sv1,hM,hF⟩;obtain ⟨p1,q1,r1,s1,f1,z1⟩:=zU hM.blk;have HF1:=za hF.ofAlloc;have HG1:=za hF;obtain ⟨u1,v1,y1,x1⟩:=zp (HM.out.box HG1.out);have HM1:=za hM;clear hM hF))
 go_end0
 exact ⟨rfl,_,HM2.out,HF2.out⟩
theorem zpV (mb cb b1 b2 B:Nat) (sv:Value) (cells slots st:List Int) (v x:Int) (w:World) (h:MB w mb cb b1 b2 B sv cells slots (v::st)) (hm:st.length+10<=10000000) :
 Calls Tryz.prog 23 #[.pointer (some ⟨mb,0,none⟩),.agg #[.int .u8 8,.int .i64 x]] w (zcM mb cb b1 b2 B w sv cells slots (tru (v==0)::st)):=by
 have HM:=za h
 obtain ⟨h0,h1,h2,h3,hf,hz⟩:=zU h.blk
 obtain ⟨_,hl1,hl2,_⟩:=h.lt
 clear h
 go_enter Tryz.func23,Tryz.ntmps23
 go_wp2_with (first|(go_at_call 45;refine (zcH mb cb b1 b2 B sv1 cells slots (st) (_) _ HM1.out (by simp;omega)).mono ?_;rintro e w2 ⟨rfl,sv2,hM,hF⟩;obtain ⟨p2,q2,r2,s2,f2,z2⟩:=zU hM.blk;have HF2:=za (HF1.out.trans hF);have HG2:=za (HG1.out.trans hF);obtain ⟨u2,v2,y2,x2⟩:=zp (HM.out.box HG2.out);have HM2:=za hM;clear hM hF)|(go_at_call 48;refine (zdV _ _).mono ?_;rintro e w9 ⟨rfl,rfl⟩)|(go_at_call 46;refine (za6 mb cb b1 b2 B sv cells slots (st) v _ (HM.out.alloc _) (by simp;omega)).mono ?_;rintro e w1 ⟨rfl,sv1,hM,hF⟩;obtain ⟨p1,q1,r1,s1,f1,z1⟩:=zU hM.blk;have HF1:=za hF.ofAlloc;have HG1:=za hF;obtain ⟨u1,v1,y1,x1⟩:=zp (HM.out.box HG1.out);have HM1:=za hM;clear hM hF))
 go_end0
 exact ⟨rfl,_,HM2.out,HF2.out⟩
theorem zpM (mb cb b1 b2 B:Nat) (sv:Value) (cells slots st:List Int) (no yes c x:Int) (w:World) (h:MB w mb cb b1 b2 B sv cells slots (no::yes::c::st)) (hm:st.length+10<=10000000) :
 Calls Tryz.prog 23 #[.pointer (some ⟨mb,0,none⟩),.agg #[.int .u8 5,.int .i64 x]] w (zcM mb cb b1 b2 B w sv cells slots ((pk c yes no)::st)):=by
 have HM:=za h
 obtain ⟨h0,h1,h2,h3,hf,hz⟩:=zU h.blk
 obtain ⟨_,hl1,hl2,_⟩:=h.lt
 clear h
 go_enter Tryz.func23,Tryz.ntmps23
 go_wp2_with (first|(go_at_call 45;refine (zcH mb cb b1 b2 B sv3 cells slots (st) (_) _ HM3.out (by simp;omega)).mono ?_;rintro e w4 ⟨rfl,sv4,hM,hF⟩;obtain ⟨p4,q4,r4,s4,f4,z4⟩:=zU hM.blk;have HF4:=za (HF3.out.trans hF);have HG4:=za (HG3.out.trans hF);obtain ⟨u4,v4,y4,x4⟩:=zp (HM.out.box HG4.out);have HM4:=za hM;clear hM hF)|(go_at_call 46;refine (za6 mb cb b1 b2 B sv2 cells slots (st) c _ HM2.out (by simp;omega)).mono ?_;rintro e w3 ⟨rfl,sv3,hM,hF⟩;obtain ⟨p3,q3,r3,s3,f3,z3⟩:=zU hM.blk;have HF3:=za (HF2.out.trans hF);have HG3:=za (HG2.out.trans hF);obtain ⟨u3,v3,y3,x3⟩:=zp (HM.out.box HG3.out);have HM3:=za hM;clear hM hF)|(go_at_call 46;refine (za6 mb cb b1 b2 B sv1 cells slots (c::st) yes _ HM1.out (by simp;omega)).mono ?_;rintro e w2 ⟨rfl,sv2,hM,hF⟩;obtain ⟨p2,q2,r2,s2,f2,z2⟩:=zU hM.blk;have HF2:=za (HF1.out.trans hF);have HG2:=za (HG1.out.trans hF);obtain ⟨u2,v2,y2,x2⟩:=zp (HM.out.box HG2.out);have HM2:=za hM;clear hM hF)|(go_at_call 47;refine (zdy _ _ _ _).mono ?_;rintro e w9 ⟨rfl,rfl⟩)|(go_at_call 46;refine (za6 mb cb b1 b2 B sv cells slots (yes::c::st) no _ (HM.out.alloc _) (by simp;omega)).mono ?_;rintro e w1 ⟨rfl,sv1,hM,hF⟩;obtain ⟨p1,q1,r1,s1,f1,z1⟩:=zU hM.blk;have HF1:=za hF.ofAlloc;have HG1:=za hF;obtain ⟨u1,v1,y1,x1⟩:=zp (HM.out.box HG1.out);have HM1:=za hM;clear hM hF))
 go_end0
 exact ⟨rfl,_,HM4.out,HF4.out⟩
theorem zpk (mb cb b1 b2 B:Nat) (sv:Value) (cells slots st:List Int) (k:Nat) (v:Int) (hk:slots[k]?=some v) (w:World) (h:MB w mb cb b1 b2 B sv cells slots (st)) (hm:st.length+10<=10000000) :
 Calls Tryz.prog 23 #[.pointer (some ⟨mb,0,none⟩),.agg #[.int .u8 1,.int .i64 k]] w (zcM mb cb b1 b2 B w sv cells slots (v::st)):=by
 have HM:=za h
 obtain ⟨h0,h1,h2,h3,hf,hz⟩:=zU h.blk
 obtain ⟨_,hl1,hl2,_⟩:=h.lt
 have t1:=zbT h.sl hk
 have hlt:=(List.getElem?_eq_some_iff.1 hk).1
 clear hk
 clear h
 go_enter Tryz.func23,Tryz.ntmps23
 go_upto_region 7 with fail
 go_region_law (refine zde rfl 45 (.tmp 32) (.tmp 40) 45 2 rfl zhZ (.pointer (some ⟨mb,0,none⟩)) (.int .i64 v) rfl rfl (zcH mb cb b1 b2 B sv cells slots st v _ (HM.out.alloc _).drew (by omega)) ?_;rintro e w1 ⟨rfl,sv1,hM1,hF1⟩;refine ⟨_,rfl,?_⟩;have HM1:=za hM1;have HF1:=za hF1;clear hM1 hF1)
 all_goals go_wp2_with fail
 all_goals go_end0
 all_goals exact ⟨rfl,_,HM1.out,HF1.out.undrew.ofAlloc⟩
theorem zqj (mb cb b1 b2 B:Nat) (sv:Value) (cells slots st:List Int) (k:Nat) (v:Int) (hk:cells[k]?=some v) (w:World) (h:MB w mb cb b1 b2 B sv cells slots (st)) (hm:st.length+10<=10000000) :
 Calls Tryz.prog 23 #[.pointer (some ⟨mb,0,none⟩),.agg #[.int .u8 3,.int .i64 k]] w (zcM mb cb b1 b2 B w sv cells slots (v::st)):=by
 have HM:=za h
 obtain ⟨h0,h1,h2,h3,hf,hz⟩:=zU h.blk
 obtain ⟨_,hl1,hl2,_⟩:=h.lt
 have t1:=zbT h.ce hk
 have hlt:=(List.getElem?_eq_some_iff.1 hk).1
 clear hk
 clear h
 go_enter Tryz.func23,Tryz.ntmps23
 go_upto_region 11 with fail
 go_region_law (refine zde rfl 45 (.tmp 55) (.tmp 63) 45 2 rfl zhZ (.pointer (some ⟨mb,0,none⟩)) (.int .i64 v) rfl rfl (zcH mb cb b1 b2 B sv cells slots st v _ (HM.out.alloc _).drew (by omega)) ?_;rintro e w1 ⟨rfl,sv1,hM1,hF1⟩;refine ⟨_,rfl,?_⟩;have HM1:=za hM1;have HF1:=za hF1;clear hM1 hF1)
 all_goals go_wp2_with fail
 all_goals go_end0
 all_goals exact ⟨rfl,_,HM1.out,HF1.out.undrew.ofAlloc⟩
theorem zpA (mb cb b1 b2 B:Nat) (sv:Value) (cells slots st:List Int) (k:Nat) (c:Int) (hk:slots[k]?=some c) (no yes:Int) (w:World) (h:MB w mb cb b1 b2 B sv cells slots (no::yes::st)) (hm:st.length+10<=10000000) :
 Calls Tryz.prog 23 #[.pointer (some ⟨mb,0,none⟩),.agg #[.int .u8 6,.int .i64 k]] w (zcM mb cb b1 b2 B w sv cells slots ((pk c yes no)::st)):=by
 have HM:=za h
 obtain ⟨h0,h1,h2,h3,hf,hz⟩:=zU h.blk
 obtain ⟨_,hl1,hl2,_⟩:=h.lt
 have Hk:=za hk
 have hlt:=(List.getElem?_eq_some_iff.1 hk).1
 clear hk
 clear h
 go_enter Tryz.func23,Tryz.ntmps23
 go_upto_region 20 with (first|(go_at_call 46;refine (za6 mb cb b1 b2 B sv1 cells slots (st) yes _ HM1.out (by simp;omega)).mono ?_;rintro e w2 ⟨rfl,sv2,hM,hF⟩;obtain ⟨p2,q2,r2,s2,f2,z2⟩:=zU hM.blk;have HF2:=za (HF1.out.trans hF);have HG2:=za (HG1.out.trans hF);obtain ⟨u2,v2,y2,x2⟩:=zp (HM.out.box HG2.out);have HM2:=za hM;clear hM hF)|(go_at_call 46;refine (za6 mb cb b1 b2 B sv cells slots (yes::st) no _ (HM.out.alloc _) (by simp;omega)).mono ?_;rintro e w1 ⟨rfl,sv1,hM,hF⟩;obtain ⟨p1,q1,r1,s1,f1,z1⟩:=zU hM.blk;have HF1:=za hF.ofAlloc;have HG1:=za hF;obtain ⟨u1,v1,y1,x1⟩:=zp (HM.out.box HG1.out);have HM1:=za hM;clear hM hF))
 have t1:=zbT HM2.out.sl Hk.out
 go_region_law (first|(refine zde rfl 45 (.tmp 107) (.tmp 118) 45 2 rfl zhZ (.pointer (some ⟨mb,0,none⟩)) (.int .i64 (pk c yes no)) rfl rfl (zcH mb cb b1 b2 B sv2 cells slots st _ _ HM2.out.drew (by omega)) ?_;rintro e w3 ⟨rfl,sv3,hM3,hF3⟩;refine ⟨_,rfl,?_⟩;have HM3:=za hM3;have HF3:=za hF3;clear hM3 hF3)|(refine zkN rfl 47 (.tmp 115) (.tmp 116) (.tmp 117) 2 2 2 rfl zpc (.int .i64 c) (.int .i64 yes) (.int .i64 no) rfl rfl rfl (zdy _ _ _ _) ?_;rintro e w9 ⟨rfl,rfl⟩;refine ⟨_,rfl,?_⟩))
 all_goals go_wp2_with fail
 all_goals go_end0
 all_goals exact ⟨rfl,_,HM3.out,HF2.out.trans HF3.out.undrew⟩
theorem zpu (mb cb b1 b2 B:Nat) (sv:Value) (cells slots st:List Int) (op:Nat) (ho1:9<=op) (ho2:op<=20) (a b x:Int) (w:World) (h:MB w mb cb b1 b2 B sv cells slots (b::a::st)) (hm:st.length+10<=10000000) :
 Calls Tryz.prog 23 #[.pointer (some ⟨mb,0,none⟩),.agg #[.int .u8 op,.int .i64 x]] w (zcM mb cb b1 b2 B w sv cells slots (opR op a b::st)):=by
 have HO1:=za ho1
 have HO2:=za ho2
 have o0:((op:Int)==0)=false:=by simp;omega
 have o1:((op:Int)==1)=false:=by simp;omega
 have o2:((op:Int)==2)=false:=by simp;omega
 have o3:((op:Int)==3)=false:=by simp;omega
 have o4:((op:Int)==4)=false:=by simp;omega
 have o5:((op:Int)==5)=false:=by simp;omega
 have o6:((op:Int)==6)=false:=by simp;omega
 have o7:((op:Int)==7)=false:=by simp;omega
 have o8:((op:Int)==8)=false:=by simp;omega
 have HM:=za h
 obtain ⟨h0,h1,h2,h3,hf,hz⟩:=zU h.blk
 obtain ⟨_,hl1,hl2,_⟩:=h.lt
 clear h
 go_enter Tryz.func23,Tryz.ntmps23
 go_wp2_with (first|(go_at_call 45;refine (zcH mb cb b1 b2 B sv2 cells slots (st) (_) _ HM2.out (by simp;omega)).mono ?_;rintro e w3 ⟨rfl,sv3,hM,hF⟩;obtain ⟨p3,q3,r3,s3,f3,z3⟩:=zU hM.blk;have HF3:=za (HF2.out.trans hF);have HG3:=za (HG2.out.trans hF);obtain ⟨u3,v3,y3,x3⟩:=zp (HM.out.box HG3.out);have HM3:=za hM;clear hM hF)|(go_at_call 46;refine (za6 mb cb b1 b2 B sv1 cells slots (st) a _ HM1.out (by simp;omega)).mono ?_;rintro e w2 ⟨rfl,sv2,hM,hF⟩;obtain ⟨p2,q2,r2,s2,f2,z2⟩:=zU hM.blk;have HF2:=za (HF1.out.trans hF);have HG2:=za (HG1.out.trans hF);obtain ⟨u2,v2,y2,x2⟩:=zp (HM.out.box HG2.out);have HM2:=za hM;clear hM hF)|(go_at_call 49;refine (zlh op HO1.out HO2.out _ _ _).mono ?_;rintro e w9 ⟨rfl,rfl⟩)|(go_at_call 46;refine (za6 mb cb b1 b2 B sv cells slots (a::st) b _ (HM.out.alloc _) (by simp;omega)).mono ?_;rintro e w1 ⟨rfl,sv1,hM,hF⟩;obtain ⟨p1,q1,r1,s1,f1,z1⟩:=zU hM.blk;have HF1:=za hF.ofAlloc;have HG1:=za hF;obtain ⟨u1,v1,y1,x1⟩:=zp (HM.out.box HG1.out);have HM1:=za hM;clear hM hF))
 go_end0
 exact ⟨rfl,_,HM3.out,HF3.out⟩
end
section
theorem tkH {P:Program} {md:Region.Mode} {ops:Array Oper} {Q:Exit->Act->World->Prop} {S:World->Prop} {i:Nat} {oi:Oper} {v:Value} {fuel:Nat} {listed:Array Bool} {a:Act} {w:World} (hi:ops[i]?=some oi)
 (hb:(Region.noSelect ops&&(Region.free md ops listed i&&(Region.ready md ops listed).contains i))=true)
 (hQ:∀c a w,Q (.panic c) (a.put oi.dst v) w->Q (.panic c) a w) (hy:YieldsIf P ops S oi v a) (hS:S w)
 (h:wpAnyH P md ops Q S fuel (listed.setIfInBounds i true) (a.put oi.dst v) w):wpAnyH P md ops Q S (fuel+1) listed a w:=by
 simp only [Bool.and_eq_true] at hb
 exact wpAnyH_take hi hb.1 hb.2.1 hb.2.2 hQ hy hS h
end
section
open Go.RowKit
attribute [local go_sem ↓] Go.wp_at_zero Go.wp_at_succ
theorem zpU (mb cb b1 b2 B:Nat) (sv:Value) (cells slots st:List Int) (k:Nat) (old:Int) (hk:cells[k]?=some old) (v c:Int) (w:World) (h:MB w mb cb b1 b2 B sv cells slots (v::c::st)) (hm:st.length+10<=10000000) :
 Calls Tryz.prog 23 #[.pointer (some ⟨mb,0,none⟩),.agg #[.int .u8 4,.int .i64 k]] w (zcM mb cb b1 b2 B w sv (cells.set k (pk c v old)) slots st):=by
 have HM:=za h
 obtain ⟨h0,h1,h2,h3,hf,hz⟩:=zU h.blk
 obtain ⟨_,hl1,hl2,_⟩:=h.lt
 have Hk:=za hk
 have hlt:=(List.getElem?_eq_some_iff.1 hk).1
 have hk0:(0:Int)<=(k:Int):=by omega
 have hk8:(k:Int)<(cells.length:Int):=by omega
 have n1':¬mb=b1:=h.ne1
 have n1'':¬b1=mb:=λe=>h.ne1 e.symm
 have n2':¬w.heap.size=b1:=by omega
 have n2'':¬b1=w.heap.size:=by omega
 clear hk
 clear h
 go_enter Tryz.func23,Tryz.ntmps23
 go_upto_region 14 with ((go_at_call 46;refine (za6 mb cb b1 b2 B sv cells slots (c::st) v _ (HM.out.alloc _) (by simp;omega)).mono ?_;rintro e w1 ⟨rfl,sv1,hM,hF⟩;obtain ⟨p1,q1,r1,s1,f1,z1⟩:=zU hM.blk;have HF1:=za hF.ofAlloc;have HG1:=za hF;obtain ⟨u1,v1,y1,x1⟩:=zp (HM.out.box HG1.out);have HM1:=za hM;clear hM hF))
 have t1:=zbT HM1.out.ce Hk.out
 refine wp_region_noPanic ?_
 refine wp_region_held_drew (S:=(λw'=>w'.cell? ⟨mb,1,none⟩=some (.slice (some ⟨b1,0,none⟩) cells.length cells.length)/\w'.cell? ⟨w.heap.size,1,none⟩=some (.int .i64 k))) (by kernel_rfl) ?_ (λhHeld=>?_)
 · (try dsimp only);(go_keep)
 refine tkH (i:=0) (v:=?v1) rfl (by kernel_rfl) (λ_ _ _ h=>h) (Or.inl ⟨by rfl,?h1⟩) (by assumption) ?_
 case h1=>(intro w hSw;(try dsimp only at hSw);go_simp;try with_reducible rfl)
 try simp only [Act.put,zr8,zr6,zr5,zsa,zr9]
 refine tkH (i:=1) (v:=?v2) rfl (by kernel_rfl) (λ_ _ _ h=>h) (Or.inl ⟨by rfl,?h2⟩) (by assumption) ?_
 case h2=>(intro w hSw;(try dsimp only at hSw);go_simp;try with_reducible rfl)
 try simp only [Act.put,zr8,zr6,zr7,zr5,zsa,zr9]
 refine tkH (i:=2) (v:=?v3) rfl (by kernel_rfl) (λ_ _ _ h=>h) (Or.inl ⟨by rfl,?h3⟩) (by assumption) ?_
 case h3=>(intro w hSw;(try dsimp only at hSw);go_simp;try with_reducible rfl)
 try simp only [Act.put,zr8,zr6,zr7,zr5,zsa,zr9]
 refine tkH (i:=3) (v:=?v4) rfl (by kernel_rfl) (λ_ _ _ h=>h) (Or.inl ⟨by rfl,?h4⟩) (by assumption) ?_
 case h4=>(intro w hSw;(try dsimp only at hSw);go_simp;try with_reducible rfl)
 try simp only [Act.put,zr8,zr6,zr7,zr5,zsa,zr9]
 refine tkH (i:=4) (v:=?v5) rfl (by kernel_rfl) (λ_ _ _ h=>h) (Or.inl ⟨by rfl,?h5⟩) (by assumption) ?_
 case h5=>(intro w hSw;(try dsimp only at hSw);go_simp;try with_reducible rfl)
 try simp only [Act.put,zr8,zr6,zr7,zr5,zsa,zr9]
 refine tkH (i:=5) (v:=?v6) rfl (by kernel_rfl) (λ_ _ _ h=>h) (Or.inl ⟨by rfl,?h6⟩) (by assumption) ?_
 case h6=>(intro w hSw;(try dsimp only at hSw);go_simp;try with_reducible rfl)
 try simp only [Act.put,zr8,zr6,zr7,zr5,zsa,zr9]
 refine tkH (i:=6) (v:=?v7) rfl (by kernel_rfl) (λ_ _ _ h=>h) (Or.inl ⟨by rfl,?h7⟩) (by assumption) ?_
 case h7=>(intro w hSw;(try dsimp only at hSw);go_simp;try with_reducible rfl)
 try simp only [Act.put,zr8,zr6,zr7,zr5,zsa,zr9]
 refine tkH (i:=8) (v:=?v8) rfl (by kernel_rfl) (λ_ _ _ h=>h) (Or.inl ⟨by rfl,?h8⟩) (by assumption) ?_
 case h8=>(intro w hSw;(try dsimp only at hSw);go_simp;try with_reducible rfl)
 try simp only [Act.put,zr8,zr6,zr7,zr5,zsa,zr9]
 refine tkH (i:=9) (v:=?v9) rfl (by kernel_rfl) (λ_ _ _ h=>h) (Or.inl ⟨by rfl,?h9⟩) (by assumption) ?_
 case h9=>(intro w hSw;(try dsimp only at hSw);go_simp;try with_reducible rfl)
 try simp only [Act.put,zr8,zr6,zr7,zr5,zsa,zr9]
 refine tkH (i:=10) (v:=?v10) rfl (by kernel_rfl) (λ_ _ _ h=>h) (Or.inl ⟨by rfl,?h10⟩) (by assumption) ?_
 case h10=>(intro w hSw;(try dsimp only at hSw);go_simp;try with_reducible rfl)
 try simp only [Act.put,zr8,zr6,zr7,zr5,zsa,zr9]
 refine tkH (i:=11) (v:=?v11) rfl (by kernel_rfl) (λ_ _ _ h=>h) (Or.inl ⟨by rfl,?h11⟩) (by assumption) ?_
 case h11=>(intro w hSw;(try dsimp only at hSw);go_simp;try with_reducible rfl)
 try simp only [Act.put,zr8,zr6,zr7,zr5,zsa,zr9]
 refine tkH (i:=12) (v:=?v12) rfl (by kernel_rfl) (λ_ _ _ h=>h) (Or.inl ⟨by rfl,?h12⟩) (by assumption) ?_
 case h12=>(intro w hSw;(try dsimp only at hSw);go_simp;try with_reducible rfl)
 try simp only [Act.put,zr8,zr6,zr7,zr5,zsa,zr9]
 refine tkH (i:=13) (v:=?v13) rfl (by kernel_rfl) (λ_ _ _ h=>h) (Or.inl ⟨by rfl,?h13⟩) (by assumption) ?_
 case h13=>(intro w hSw;(try dsimp only at hSw);go_simp;try with_reducible rfl)
 try simp only [Act.put,zr8,zr6,zr7,zr5,zsa,zr9]
 refine tkH (i:=14) (v:=?v14) rfl (by kernel_rfl) (λ_ _ _ h=>h) (Or.inl ⟨by rfl,?h14⟩) (by assumption) ?_
 case h14=>(intro w hSw;(try dsimp only at hSw);go_simp;try with_reducible rfl)
 try simp only [Act.put,zr8,zr6,zr7,zr5,zsa,zr9]
 refine tkH (i:=15) (v:=?v15) rfl (by kernel_rfl) (λ_ _ _ h=>h) (Or.inl ⟨by rfl,?h15⟩) (by assumption) ?_
 case h15=>(intro w hSw;(try dsimp only at hSw);go_simp;try with_reducible rfl)
 try simp only [Act.put,zr8,zr6,zr7,zr5,zsa,zr9]
 refine wpAnyH_ready (rs:=[7,16]) (by kernel_rfl) (by simp) ?_
 refine AllReadyH.cons rfl (λK hK=>?_) ?_
 go_simp
 first|go_at_K|((first|(go_at_call 47;refine (zdy _ _ _ _).mono ?_;rintro e w9 ⟨rfl,rfl⟩)|(go_at_call 46;refine (za6 mb cb b1 b2 B sv1 cells slots st c _ HM1.out.drew (by omega)).mono ?_;rintro e w2 ⟨rfl,sv2,hM2,hF2⟩;obtain ⟨q0,q1,q2,q3,qf,qz⟩:=zU hM2.blk;obtain ⟨n0,n1,nf,nz⟩:=zp (HM.out.box (HG1.out.trans hF2.undrew));have t2:=zai hM2.ce;have t3:=zbT hM2.ce Hk.out;have HM2:=za hM2;have HF2:=za hF2;clear hM2 hF2));first|go_at_K|go_wp2_with fail)
 refine hK.out _ _ ?_ (λh9=>?_)
 · (try dsimp only);(go_keep)
 clear hK K hHeld;have hHeld:=h9;clear h9
 try simp only [Act.put,zr8,zr6,zr7,zr5,zsa,zr9]
 refine wpAnyH_ready (rs:=[16]) (by kernel_rfl) (by simp) ?_
 refine AllReadyH.cons rfl (λK hK=>?_) ?_
 go_simp
 refine hK.out _ _ ?_ (λh9=>?_)
 · (try dsimp only);(go_keep)
 clear hK K hHeld;have hHeld:=h9;clear h9
 try simp only [Act.put,zr8,zr6,zr7,zr5,zsa,zr9]
 refine wpAnyH_ready (rs:=[17]) (by kernel_rfl) (by simp) ?_
 refine AllReadyH.cons rfl (λK hK=>?_) ?_
 go_simp
 first|go_at_K|((first|(go_at_call 47;refine (zdy _ _ _ _).mono ?_;rintro e w9 ⟨rfl,rfl⟩)|(go_at_call 46;refine (za6 mb cb b1 b2 B sv1 cells slots st c _ HM1.out.drew (by omega)).mono ?_;rintro e w2 ⟨rfl,sv2,hM2,hF2⟩;obtain ⟨q0,q1,q2,q3,qf,qz⟩:=zU hM2.blk;obtain ⟨n0,n1,nf,nz⟩:=zp (HM.out.box (HG1.out.trans hF2.undrew));have t2:=zai hM2.ce;have t3:=zbT hM2.ce Hk.out;have HM2:=za hM2;have HF2:=za hF2;clear hM2 hF2));first|go_at_K|go_wp2_with fail)
 refine hK.out _ _ ?_ (λh9=>?_)
 · (try dsimp only);(go_keep)
 clear hK K hHeld;have hHeld:=h9;clear h9
 try simp only [Act.put,zr8,zr6,zr7,zr5,zsa,zr9]
 refine tkH (i:=18) (v:=?v16) rfl (by kernel_rfl) (λ_ _ _ h=>h) (Or.inl ⟨by rfl,?h16⟩) (by assumption) ?_
 case h16=>(intro w hSw;(try dsimp only at hSw);go_simp;try with_reducible rfl)
 try simp only [Act.put,zr8,zr6,zr7,zr5,zsa,zr9]
 refine wpAnyH_ready (rs:=[19]) (by kernel_rfl) (by simp) ?_
 refine AllReadyH.cons rfl (λK hK=>?_) ?_
 go_simp
 refine hK.out _ _ ?_ (λh9=>?_)
 · (try dsimp only);(go_keep)
 clear hK K hHeld;have hHeld:=h9;clear h9
 try simp only [Act.put,zr8,zr6,zr7,zr5,zsa,zr9]
 refine wpAnyH_done (by kernel_rfl) ?_ _
 rotate_left
 exact AllReadyH.nil
 exact AllReadyH.nil
 exact AllReadyH.nil
 refine AllReadyH.cons rfl (λK hK=>?_) ?_
 go_simp
 refine hK.out _ _ ?_ (λh9=>?_)
 · (try dsimp only);(go_keep)
 clear hK K hHeld;have hHeld:=h9;clear h9
 try simp only [Act.put,zr8,zr6,zr7,zr5,zsa,zr9]
 refine wpAnyH_ready (rs:=[7]) (by kernel_rfl) (by simp) ?_
 refine AllReadyH.cons rfl (λK hK=>?_) ?_
 go_simp
 first|go_at_K|((first|(go_at_call 47;refine (zdy _ _ _ _).mono ?_;rintro e w9 ⟨rfl,rfl⟩)|(go_at_call 46;refine (za6 mb cb b1 b2 B sv1 cells slots st c _ HM1.out.drew (by omega)).mono ?_;rintro e w2 ⟨rfl,sv2,hM2,hF2⟩;obtain ⟨q0,q1,q2,q3,qf,qz⟩:=zU hM2.blk;obtain ⟨n0,n1,nf,nz⟩:=zp (HM.out.box (HG1.out.trans hF2.undrew));have t2:=zai hM2.ce;have t3:=zbT hM2.ce Hk.out;have HM2:=za hM2;have HF2:=za hF2;clear hM2 hF2));first|go_at_K|go_wp2_with fail)
 refine hK.out _ _ ?_ (λh9=>?_)
 · (try dsimp only);(go_keep)
 clear hK K hHeld;have hHeld:=h9;clear h9
 try simp only [Act.put,zr8,zr6,zr7,zr5,zsa,zr9]
 refine wpAnyH_ready (rs:=[17]) (by kernel_rfl) (by simp) ?_
 refine AllReadyH.cons rfl (λK hK=>?_) ?_
 go_simp
 first|go_at_K|((first|(go_at_call 47;refine (zdy _ _ _ _).mono ?_;rintro e w9 ⟨rfl,rfl⟩)|(go_at_call 46;refine (za6 mb cb b1 b2 B sv1 cells slots st c _ HM1.out.drew (by omega)).mono ?_;rintro e w2 ⟨rfl,sv2,hM2,hF2⟩;obtain ⟨q0,q1,q2,q3,qf,qz⟩:=zU hM2.blk;obtain ⟨n0,n1,nf,nz⟩:=zp (HM.out.box (HG1.out.trans hF2.undrew));have t2:=zai hM2.ce;have t3:=zbT hM2.ce Hk.out;have HM2:=za hM2;have HF2:=za hF2;clear hM2 hF2));first|go_at_K|go_wp2_with fail)
 refine hK.out _ _ ?_ (λh9=>?_)
 · (try dsimp only);(go_keep)
 clear hK K hHeld;have hHeld:=h9;clear h9
 try simp only [Act.put,zr8,zr6,zr7,zr5,zsa,zr9]
 refine tkH (i:=18) (v:=?v17) rfl (by kernel_rfl) (λ_ _ _ h=>h) (Or.inl ⟨by rfl,?h17⟩) (by assumption) ?_
 case h17=>(intro w hSw;(try dsimp only at hSw);go_simp;try with_reducible rfl)
 try simp only [Act.put,zr8,zr6,zr7,zr5,zsa,zr9]
 refine wpAnyH_ready (rs:=[19]) (by kernel_rfl) (by simp) ?_
 refine AllReadyH.cons rfl (λK hK=>?_) ?_
 go_simp
 refine hK.out _ _ ?_ (λh9=>?_)
 · (try dsimp only);(go_keep)
 clear hK K hHeld;have hHeld:=h9;clear h9
 try simp only [Act.put,zr8,zr6,zr7,zr5,zsa,zr9]
 refine wpAnyH_done (by kernel_rfl) ?_ _
 rotate_left
 exact AllReadyH.nil
 exact AllReadyH.nil
 exact AllReadyH.nil
 exact AllReadyH.nil
 all_goals refine NoPanic.normal ?_
 all_goals go_wp2_with fail
 all_goals go_end0
 all_goals exact ⟨rfl,_,HM2.out.cell k _,(HF1.out.trans HF2.out.undrew).cell k _⟩
end
section
open Go.RowKit
attribute [local go_sem ↓] Go.wp_at_zero Go.wp_at_succ
structure Cd where
 bools:List Bool
 outs:Nat
 slots:Nat
 cells:List Int
 depth:Nat
 row:List (Nat×Int)
def zbs (l:List (Nat×Int)):List Value:=l.flatMap λi=>[.int .u8 i.1,.int .i64 i.2]
theorem zgC (l:List (Nat×Int)):(zbs l).length=l.length*2:=by
 induction l with
 | nil=>rfl
 | cons a l ih=>show (_::_::zbs l).length=_;simp [ih];omega
theorem zkl:∀(l:List (Nat×Int)) (k:Nat) (i:Nat×Int),l[k]?=some i->(zbs l)[k*2]?=some (.int .u8 i.1)/\(zbs l)[k*2+1]?=some (.int .i64 i.2):=by
 intro l
 induction l with
 | nil=>intro k i h;simp at h
 | cons a l ih =>
   intro k i h
   have e:zbs (a::l)=.int .u8 a.1::.int .i64 a.2::zbs l:=rfl
   cases k with
   | zero=>simp at h;subst h;simp [e]
   | succ k =>
     simp at h
     obtain ⟨h1,h2⟩:=ih k i h
     rw [e,show (k+1)*2=k*2+1+1 by omega,show k*2+1+1+1=(k*2+1)+1+1 by omega]
     simp [h1,h2]
structure CB (w:World) (N cb:Nat) (bv cv rv:Value) (c:Cd):Prop where
 blk:w.heap[cb]?=some (.cells #[bv,.int .i64 c.outs,.int .i64 c.slots,cv,.int .i64 c.depth,rv] 67 (0,0))
 bown:w.ownsRow 0 4 1 bv c.bools.length (c.bools.map .bool)
 cown:w.ownsRow 0 2 1 cv c.cells.length (zK c.cells)
 rown:w.ownsRow 0 70 2 rv c.row.length (zbs c.row)
 h0:cb<N
 h1:∀k,bv.ownBlock=some k->k<N
 h2:∀k,cv.ownBlock=some k->k<N
 h3:∀k,rv.ownBlock=some k->k<N
 outsB:c.bools.length+c.outs<=c.slots
 slotsB:c.slots<=255
 cellsB:c.cells.length<=255
 depthB:c.depth<=3145728
 rowB:c.row.length<=1048576
theorem CB.old {w w':World} {N cb:Nat} {bv cv rv:Value} {c:Cd} (h:CB w N cb bv cv rv c) (ho:Old N w w'):CB w' N cb bv cv rv c :=
 ⟨(ho _ h.h0).trans h.blk,zi h.bown (λk _ _ e=>ho k (h.h1 k e)),zi h.cown (λk _ _ e=>ho k (h.h2 k e)),zi h.rown (λk _ _ e=>ho k (h.h3 k e)),h.h0,h.h1,h.h2,h.h3,h.outsB,h.slotsB,h.cellsB,h.depthB,h.rowB⟩
structure Mc (w:World) (N mb cb b1 b2:Nat) (bv cv rv sv:Value) (c:Cd) (cells slots st:List Int):Prop where
 code:CB w N cb bv cv rv c
 mem:MB w mb cb b1 b2 N sv cells slots st
 n0:N<=mb
 n1:N<=b1
 n2:N<=b2
 lc:cells.length=c.cells.length
 ls:slots.length=c.slots
theorem zB {w:World} {B n size:Nat} {e:TypeId} {vs:Value} {xs:List Value} (h:w.ownsRow B e size vs n xs):∃x cp,vs=.slice x n cp:=by
 rcases h.2 with ⟨h1,h2⟩|⟨g,cap,cur,h1,_⟩
 · exact ⟨none,0,by rw [h1,h2]⟩
 · exact ⟨_,cap,h1⟩
theorem zec (mb cb:Nat) (N:Nat) (c1 c2 c3 bv cv rv:Value) (c:Cd) (w:World) (hb:w.heap[mb]?=some (.cells #[.pointer (some ⟨cb,0,none⟩),c1,c2,c3] 63 (0,0))) (h:CB w N cb bv cv rv c) :
 Calls Tryz.prog 25 #[.pointer (some ⟨mb,0,none⟩)] w (λe w'=>e=.returned (.int .i64 c.bools.length)/\w=w'):=by
 obtain ⟨h0,h1,h2,h3,hf,hz⟩:=zU hb
 obtain ⟨k0,k1,k2,k3,k4,k5,kf,kz⟩:=zt h.blk
 obtain ⟨x,cp,rfl⟩:=zB h.bown
 clear h hb
 go_enter Tryz.func25,Tryz.ntmps25
 go_wp2_with fail
 go_ret
 exact ⟨rfl,rfl⟩
theorem zjL (mb cb:Nat) (N:Nat) (c1 c2 c3 bv cv rv:Value) (c:Cd) (w:World) (hb:w.heap[mb]?=some (.cells #[.pointer (some ⟨cb,0,none⟩),c1,c2,c3] 63 (0,0))) (h:CB w N cb bv cv rv c) :
 Calls Tryz.prog 24 #[.pointer (some ⟨mb,0,none⟩)] w (λe w'=>e=.returned (.int .i64 c.outs)/\w=w'):=by
 obtain ⟨h0,h1,h2,h3,hf,hz⟩:=zU hb
 obtain ⟨k0,k1,k2,k3,k4,k5,kf,kz⟩:=zt h.blk
 clear h hb
 go_enter Tryz.func24,Tryz.ntmps24
 go_wp2_with fail
 go_ret
 exact ⟨rfl,rfl⟩
theorem Tryz.i64size:(Tryz.prog.info? 2).map (·.size)=some 1:=by kernel_rfl
theorem zp0 {w:World} {B n:Nat} {e:TypeId} {x:Option Addr} {cp:Nat} {xs:List Value} (h:w.ownsRow B e 1 (.slice x n cp) n xs):0<xs.length->∃ad,x=some ad/\∀j v,xs[j]?=some v->w.cell? (ad.add j)=some v:=by
 intro hp
 have hl:xs.length=n:=by simpa using h.1
 obtain ⟨g,cap,hv,_⟩:=zM h (by omega)
 cases hv
 exact ⟨_,rfl,λj v hj=>h.cells (g:=g) rfl j v hj⟩
theorem MB.cells' {w w':World} {mb cb b1 b2 B:Nat} {sv:Value} {cells slots st cells':List Int} (h:MB w mb cb b1 b2 B sv cells slots st) (hl:cells'.length=cells.length) (hg:w'.heap[b1]?=some (.cells (zK cells').toArray 2 (0,0))) (hf:Fr (·=b1) w w'):MB w' mb cb b1 b2 B sv cells' slots st :=
 ⟨by rw [hl];exact (hf.block mb (ze h.blk) h.ne1).trans h.blk,hg,(hf.block b2 (ze h.sl) (λe=>h.ne3 e.symm)).trans h.sl,zi h.own (λk _ hk e=>hf.block k hk (λe'=>h.s1 (e'▸e))),h.ne1,h.ne2,h.ne3,h.sm,h.s1,h.s2,Nat.le_trans h.hB hf.size⟩
theorem MB.slots' {w w':World} {mb cb b1 b2 B:Nat} {sv:Value} {cells slots st slots':List Int} (h:MB w mb cb b1 b2 B sv cells slots st) (hl:slots'.length=slots.length) (hg:w'.heap[b2]?=some (.cells (zK slots').toArray 2 (0,0))) (hf:Fr (·=b2) w w'):MB w' mb cb b1 b2 B sv cells slots' st :=
 ⟨by rw [hl];exact (hf.block mb (ze h.blk) h.ne2).trans h.blk,(hf.block b1 (ze h.ce) h.ne3).trans h.ce,hg,zi h.own (λk _ hk e=>hf.block k hk (λe'=>h.s2 (e'▸e))),h.ne1,h.ne2,h.ne3,h.sm,h.s1,h.s2,Nat.le_trans h.hB hf.size⟩
theorem zm3 (N mb cb b1 b2:Nat) (bv cv rv sv:Value) (c:Cd) (cells slots st:List Int) (w:World) (h:Mc w N mb cb b1 b2 bv cv rv sv c cells slots st) :
 Calls Tryz.prog 43 #[.pointer (some ⟨mb,0,none⟩)] w (λe w'=>e=.returned (.tuple #[])/\Mc w' N mb cb b1 b2 bv cv rv sv c c.cells slots st/\Fr (·=b1) w w'):=by
 obtain ⟨h0,h1,h2,h3,hf,hz⟩:=zU h.mem.blk
 obtain ⟨k0,k1,k2,k3,k4,k5,kf,kz⟩:=zt h.code.blk
 obtain ⟨x,cp,rfl⟩:=zB h.code.cown
 have hlc:=h.lc
 have H:=za h
 have Hs:=za (zp0 h.code.cown)
 have hu:=Tryz.underlying22
 have hz1:=Tryz.i64size
 have Hu:=za hu
 have Hz1:=za hz1
 clear h hu hz1
 rw [hlc] at h1
 go_enter Tryz.func43,Tryz.ntmps43
 go_region_held3 (λw'=>w'.cell? ⟨mb,0,none⟩=some (.pointer (some ⟨cb,0,none⟩))/\w'.cell? ⟨mb,1,none⟩=some (.slice (some ⟨b1,0,none⟩) c.cells.length c.cells.length)/\w'.cell? ⟨cb,3,none⟩=some (.slice x c.cells.length cp)) (first|go_keep|(refine ⟨?_,?_,?_⟩ <;> first|exact (HM.out).1|exact HM.out.2.1|exact HM.out.2.2))
  ((refine zmi rfl (.tmp 5) (.tmp 12) 22 22 (by rfl) 2 Hu.out Hz1.out b1 c.cells.length c.cells.length x c.cells.length cp (by rfl) (by rfl) (zK cells) 2 H.out.mem.ce (zK c.cells) (by simp [zK]) Hs.out (by simp [zK,hlc]) zfs ?_;intro w1 hg1 hf1;have HM:Hid (w1.cell? ⟨mb,0,none⟩=some (.pointer (some ⟨cb,0,none⟩))/\w1.cell? ⟨mb,1,none⟩=some (.slice (some ⟨b1,0,none⟩) c.cells.length c.cells.length)/\w1.cell? ⟨cb,3,none⟩=some (.slice x c.cells.length cp)):=⟨(World.cell?_of_block (w:=w) (hf1.block mb hz H.out.mem.ne1)).trans h0,(World.cell?_of_block (w:=w) (hf1.block mb hz H.out.mem.ne1)).trans h1,(World.cell?_of_block (w:=w) (hf1.block cb kz (by have:=H.out.n1;have:=H.out.code.h0;omega))).trans k3⟩;have HG1:=za hg1;have HF1:=za hf1;clear hg1 hf1))
 all_goals go_wp2_with fail
 all_goals go_end0
 all_goals
  have hfr:Fr (·=b1) w w1:=HF1.out.undrew
  refine ⟨rfl,⟨H.out.code.old (hfr.old (Nat.le_trans H.out.n1 (Nat.le_of_lt H.out.mem.lt.2.1)) (λk e=>e▸H.out.n1)),H.out.mem.cells' (by rw [hlc]) ?_ hfr,H.out.n0,H.out.n1,H.out.n2,rfl,H.out.ls⟩,hfr⟩
  have:=HG1.out
  rwa [List.drop_eq_nil_of_le (by simp [zK,hlc]),List.append_nil] at this
end
section
open Go.RowKit
structure Ms where
 cells:List Int
 slots:List Int
 st:List Int
def doM (m:Ms) (i:Nat×Int):Ms :=
 match i.1,m.st with
 | 0,st=>{ m with st:=i.2::st }
 | 1,st=>{ m with st:=m.slots.getD i.2.toNat 0::st }
 | 2,v::st=>{ m with slots:=m.slots.set i.2.toNat v,st:=st }
 | 3,st=>{ m with st:=m.cells.getD i.2.toNat 0::st }
 | 4,v::c::st=>{ m with cells:=m.cells.set i.2.toNat (pk c v (m.cells.getD i.2.toNat 0)),st:=st }
 | 5,no::yes::c::st=>{ m with st:=pk c yes no::st }
 | 6,no::yes::st=>{ m with st:=pk (m.slots.getD i.2.toNat 0) yes no::st }
 | 7,v::st=>{ m with st:=wrap64 (-v)::st }
 | 8,v::st=>{ m with st:=tru (v==0)::st }
 | op,b::a::st=>{ m with st:=opR op a b::st }
 | _,_=>m
def zY:List (Nat×Nat×Nat):=[(1,0,1),(2,0,1),(2,1,0),(3,0,1),(3,2,0),(0,3,1),(2,2,1),(0,1,1),(0,1,1),(0,2,1),(0,2,1),(0,2,1),(0,2,1),(0,2,1),(0,2,1),(0,2,1),(0,2,1),(0,2,1),(0,2,1),(0,2,1),(0,2,1)]
def zgT (ns nc h:Nat) (i:Nat×Int):Option Nat :=
 match zY[i.1]? with
 | none=>none
 | some s=>if s.2.1<=h/\(s.1=2->0<=i.2/\i.2.toNat<ns)/\(s.1=3->0<=i.2/\i.2.toNat<nc) then some (h-s.2.1+s.2.2) else none
def zd9 (ns nc:Nat):Nat->List (Nat×Int)->Option Nat
 | h,[]=>some h
 | h,i::l=>match zgT ns nc h i with
   | none=>none
   | some h'=>zd9 ns nc h' l
theorem zeB {k:Nat} {s:Nat×Nat×Nat} (h:zY[k]?=some s):k<=20:=by
 have:=(List.getElem?_eq_some_iff.1 h).1
 simp [zY] at this;omega
theorem zqn {ns nc h h':Nat} {m:Ms} {i:Nat×Int} (hf:zgT ns nc h i=some h') (hs:m.st.length=h):(doM m i).st.length=h'/\(doM m i).cells.length=m.cells.length/\(doM m i).slots.length=m.slots.length/\h'<=h+1:=by
 unfold zgT at hf
 split at hf
 · cases hf
 · rename_i s hsh
   have h20:=zeB hsh
   split at hf
   · rename_i hc
     cases hf
     obtain ⟨op,x⟩:=i
     obtain ⟨cells,slots,st⟩:=m
     simp only at hs hsh h20
     subst hs
     have:op=0∨op=1∨op=2∨op=3∨op=4∨op=5∨op=6∨op=7∨op=8∨op=9∨op=10∨op=11∨op=12∨op=13∨op=14∨op=15∨op=16∨op=17∨op=18∨op=19∨op=20:=by omega
     obtain ⟨hc1,_⟩:=hc
     rcases this with rfl|rfl|rfl|rfl|rfl|rfl|rfl|rfl|rfl|rfl|rfl|rfl|rfl|rfl|rfl|rfl|rfl|rfl|rfl|rfl|rfl <;>
      (simp only [zY,List.getElem?_cons_zero,List.getElem?_cons_succ,Option.some.injEq] at hsh;subst hsh;simp only at hc1;rcases st with _|⟨a,_|⟨b,_|⟨c,st⟩⟩⟩ <;> simp_all [doM] <;> omega)
   · cases hf
def zeK:List Bool->List Int->Nat->Option Nat
 | b::bs,x::xs,i=>if b=true/\x≠0/\x≠1 then some i else zeK bs xs (i+1)
 | _,_,_=>none
def zdE (bools:List Bool) (l:List Int):Option Nat:=if l.length=bools.length then zeK bools l 0 else some (min l.length bools.length)
def zea (m:Ms) (l:List (Nat×Int)):Ms:=l.foldl doM m
def zdY (ns:Nat) (ins:List Int):List Int:=ins++List.replicate (ns-ins.length) 0
def zbm (c:Cd) (cells ins:List Int):Ms:=zea ⟨cells,zdY c.slots ins,[]⟩ c.row
def zcX (c:Cd) (m:Ms):List Int:=(m.slots.drop c.bools.length).take c.outs
theorem zkI {ns nc:Nat}:∀(l:List (Nat×Int)) (h h':Nat) (m:Ms),zd9 ns nc h l=some h'->m.st.length=h->(zea m l).st.length=h'/\(zea m l).cells.length=m.cells.length/\(zea m l).slots.length=m.slots.length:=by
 intro l
 induction l with
 | nil=>intro h h' m hf hs;cases hf;exact ⟨hs,rfl,rfl⟩
 | cons i l ih =>
   intro h h' m hf hs
   unfold zd9 at hf
   split at hf
   · cases hf
   · rename_i h1 hf1
     obtain ⟨a,b,c,_⟩:=zqn hf1 hs
     obtain ⟨d,e,f⟩:=ih h1 h' (doM m i) hf a
     exact ⟨d,e.trans b,f.trans c⟩
end
end Go.Proofs.YtedmpgjebafcjaaGreatDoor
