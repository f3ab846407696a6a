/- Nested holds: for every input the law returns true, and what was handed in reads behind the call as it read before; the package-level variables hold at the beginning what the program's own text lays into them (the card ties that). -/
import Derived.Test.YtedmpgjebafcjaaGreatDoorN49
set_option maxRecDepth 100000
set_option maxHeartbeats 8000000
namespace Go.Proofs.YtedmpgjebafcjaaGreatDoor
section
open Go.RowKit
theorem ztN (W:World)(b:UInt8)(n:Int)(h:n=b.toNat):(convert 31 9 (.slice (some ⟨W.heap.size,0,none⟩) 1 1)).run Tryz.prog (W.alloc (.cells #[.int .u8 n] 5))=.ok (.string ⟨#[b]⟩) (W.alloc (.cells #[.int .u8 n] 5)):=by
 subst h
 exact run_convert_bytes_back (P:=Tryz.prog) _ 31 9 5 ⟨W.heap.size,0,none⟩ 1 [b] Tryz.underlying31 Tryz.underlying5 Tryz.underlying9 (λj hj=>by
  obtain rfl:j=0:=by simp at hj;omega
  exact (zu (zc W (.cells #[.int .u8 (b.toNat:Int)] 5))).1)
theorem ztR (W:World)(o:Obj)(c:UInt8)(n:Int)(h:n=c.toNat):(convert 31 9 (.slice (some ⟨W.heap.size+1,0,none⟩) 1 1)).run Tryz.prog ((W.alloc o).alloc (.cells #[.int .u8 n] 5))=.ok (.string ⟨#[c]⟩) ((W.alloc o).alloc (.cells #[.int .u8 n] 5)):=by
 have:=ztN (W.alloc o) c n h
 rw[zsb] at this
 exact this
theorem zuk (S:Nat->Addr)(o:Int)(v2:Value)(ins:List Int)(w:World)(ho:-9223372036854775808<=o/\o<=9223372036854775807)(h8:ins.length*8<=140737488355328)(hG:Gl S w)(hop:zbt w)(hS:zbW w)(h2:Ar w w.heap.size v2 ins) :
 Calls Tryz.prog 4 #[.int .i64 o,v2] w (λe w'=>e=.returned (.bool true)/\Below w.heap.size w w'):=by
 obtain⟨a2,cp2,rfl,hl2,hc2⟩:=h2.ex
 have H2:=za h2
 have HG:=za hG
 have Hop:=za hop
 have HS:=za hS
 have h21:=hG.size
 obtain⟨ho1,ho2⟩:=ho
 clear h2 hc2 hG hop hS
 obtain⟨q,hq⟩:∃q,o.tmod 4=q:=⟨_,rfl⟩
 have hq3:-3<=q/\q<=3:=by
  have h1:=Int.lt_tmod_of_pos o (b:=4) (by decide)
  have h2:=Int.tmod_lt_of_pos o (b:=4) (by decide)
  omega
 obtain⟨hq1,hq2⟩:=hq3
 go_enter Tryz.func4,Tryz.ntmps4
 rcases Classical.em (q<0) with hneg|hneg
 case' inl =>
  obtain⟨n0,hn0⟩:∃n:Nat,-q=(n:Int):=⟨(-q).toNat,by omega⟩
  have hwb:IntKind.i64.wrap (-q)=(n0:Int):=by rw[IntKind.wrap_i64,<- hn0];omega
  have hb0:n0<=3:=by omega
  go_upto_region 6 with fail
  clear hwb hn0
 case' inr =>
  obtain⟨n0,rfl⟩:∃n:Nat,q=(n:Int):=⟨q.toNat,by omega⟩
  have hb0:n0<=3:=by omega
  go_upto_region 6 with fail
 all_goals
  go_loopg [6,7] (n0+1) (λj s i wr=>∃(k:Nat) (t:ByteArray),k+j=n0+1/\k<=n0/\i=.int .i64 k/\s=.string t/\t.size<=50+k*100/\Hid (t=txN k)/\Hid (Below w.heap.size w wr))
  case atStart=>exact⟨0,hdN,by omega,Nat.zero_le _,rfl,rfl,by decide,rfl,Below.refl _ _⟩
  case round =>
   obtain⟨k,t,hk,hkl,rfl,rfl,hts,HT,HB⟩:=hrel
   have hzr:=HB.out.size
   by_cases hlt:k<n0
   · have hk3:k=0∨k=1∨k=2:=by omega
     rcases hk3 with rfl|rfl|rfl
     · have hcv1:=ztN wr 97 97 rfl
       have hcv2:=ztR wr (.cells #[.int .u8 97] 5) 98 98 rfl
       go_wp2_with fail
       go_roundg (gk-1)
       case measure=>omega
       exact⟨0+1,txN 1,by omega,by omega,by go_num,by rw[HT.out];rfl,by decide,rfl,(HB.out.alloc hzr _).alloc (by rw[zsb];omega) _⟩
     · have hcv1:=ztN wr 98 98 rfl
       have hcv2:=ztR wr (.cells #[.int .u8 98] 5) 99 99 rfl
       go_wp2_with fail
       go_roundg (gk-1)
       case measure=>omega
       exact⟨1+1,txN 2,by omega,by omega,by go_num,by rw[HT.out];rfl,by decide,rfl,(HB.out.alloc hzr _).alloc (by rw[zsb];omega) _⟩
     · have hcv1:=ztN wr 99 99 rfl
       have hcv2:=ztR wr (.cells #[.int .u8 99] 5) 100 100 rfl
       go_wp2_with fail
       go_roundg (gk-1)
       case measure=>omega
       exact⟨2+1,txN 3,by omega,by omega,by go_num,by rw[HT.out];rfl,by decide,rfl,(HB.out.alloc hzr _).alloc (by rw[zsb];omega) _⟩
   · obtain rfl:k=n0:=by omega
     have HT:=HT.out
     subst HT
     have HMa:=za (zkS S (txN k) (cN k) (zuj hb0) wr (HG.out.of (T:=λ_=>False) (Fr.of_below HB.out) (λ_ e=>e.elim)) (Hop.out.old (zm HB.out (Nat.le_refl _)) h21) (HS.out.old (zm HB.out (Nat.le_refl _)) h21))
     rw[zur hb0] at HMa
     obtain⟨W0,hW0⟩:∃W0,ztD k ins=W0:=⟨_,rfl⟩
     have HW0:=za hW0
     have HWl:=za (show W0.length=ins.length by rw[<- hW0];exact ztG k ins)
     have HWo:=za (show ztH k (ztM k) ins=W0 by rw[<- hW0];exact ztQ k ins)
     have HFl:=za (λW (h:Ar W W.heap.size (.slice a2 ins.length cp2) ins)=>zt5 k (by omega) (.slice a2 ins.length cp2) ins W h8 h)
     rw[hW0] at HFl
     clear hW0
     have HOn:=za (λ(m:Ma) (sv:Value) (s:TyN k) (a:Int) (slots:List Int) (w:World) (v:Value) (g:Nat)=>zun S m sv k hb0 s a slots w v g)
     obtain⟨ini,hini⟩:∃s,ztM k=s:=⟨_,rfl⟩
     rw[hini] at HMa HWo
     clear hini
     generalize cN k=c at *
     generalize txN k=tx at *
     go_upto_region 16 with (first
      | (go_at_call 6;refine HMa.out.mono ?_;rintro e w1 ⟨m,sv,rfl,hM,hN,hB⟩;have hz1:=hB.size;have HBz:=za hzr;have HM:=za hM;have HB1:=za (HB.out.trans (hB.mono hzr));clear hM hB)
      | (go_at_call 10;refine (HFl.out _ ((H2.out.fr (zm HB1.out (Nat.le_refl _))).up HB1.out.size)).mono ?_;rintro e w3 ⟨vw,rfl,hw3,hg3,hB3⟩;have HW3:=za hw3;have HG3:=za hg3;have HB3:=za hB3;clear hw3 hg3 hB3))
     obtain⟨aw,cw,rfl,_,_⟩:=HW3.out.ex
     have hz3:=HB3.out.size
     have HB4:=za (HB1.out.trans (HB3.out.mono HB1.out.size))
     have hz4:=HB4.out.size
     have HM3:=za (HM.out.keep HB3.out)
     have HNe:=za (show ∀g,(Value.slice aw W0.length cw).ownBlock=some g->g≠m.mb/\g≠m.b1/\g≠m.b2/\¬sv.ownBlock=some g by
      intro g e
      have h1:=HG3.out g e
      have h2:=HM.out.mc.mem.lt
      exact⟨by have:=h2.1;omega,by have:=h2.2.1;omega,by have:=h2.2.2.1;omega,λe'=>by have:=(HM.out.mc.mem.own.lt g e').2;omega⟩)
     have hN2:w.heap.size<=m.N:=Nat.le_trans HBz.out hN
     clear HMa HB HM HFl HB1 HG3 hz1 hzr
     obtain⟨wp,rfl⟩:∃wp,wp=wr:=⟨_,rfl⟩
     go_loopg [12] (ins.length+1) (λj i wi=>∃(kk:Nat) (st:TyN k) (sv':Value) (slots:List Int),kk+j=ins.length+1/\kk<=ins.length/\i=.int .i64 kk/\Hid (ztH k st (ins.drop kk)=W0.drop kk)/\Hid (MM wi m sv' c (ztJ k st) slots)/\Hid (∀g,(Value.slice aw W0.length cw).ownBlock=some g->wi.heap[g]?=w3.heap[g]?/\¬sv'.ownBlock=some g)/\w3.heap.size<=wi.heap.size/\Hid (Below w.heap.size w wi))
     case atStart=>exact⟨0,ini,sv,_,by omega,Nat.zero_le _,rfl,HWo.out,HM3.out,λg e=>⟨rfl,(HNe.out g e).2.2.2⟩,Nat.le_refl _,HB4.out⟩
     case round =>
      obtain⟨kk,st,sv',slots,hk,hkl,rfl,HO,HMr,HKe,hz5,HBr⟩:=hrel
      have hzr:=HBr.out.size
      by_cases hlt:kk<ins.length
      · obtain⟨a,hxa⟩:∃x,ins[kk]?=some x:=⟨_,zsc hlt⟩
        obtain⟨_,_,ev1,_,hcell1⟩:=(H2.out.fr (zm HBr.out (Nat.le_refl _))).ex
        cases ev1
        obtain⟨g1,o1,rfl,hg1,hcl1⟩:=hcell1 (by intro e;rw[e] at hxa;simp at hxa)
        have hc1:=hcl1 kk a hxa
        have hdr:ins.drop kk=a::ins.drop (kk+1):=by rw[List.drop_eq_getElem_cons hlt,(List.getElem?_eq_some_iff.1 hxa).2]
        have hlw:kk<W0.length:=by rw[HWl.out];exact hlt
        have hdw:W0.drop kk=W0[kk]::W0.drop (kk+1):=List.drop_eq_getElem_cons hlw
        have hout:=HO.out
        rw[hdr,hdw] at hout
        have hy:(ztE k st a).2=W0[kk]:=(List.cons.inj hout).1
        have HO':=za (show ztH k (ztE k st a).1 (ins.drop (kk+1))=W0.drop (kk+1) from (List.cons.inj hout).2)
        have hW:W0[kk]?=some (ztE k st a).2:=by rw[zsc hlw,hy]
        obtain⟨_,_,ev2,_,hcell2⟩:=HW3.out.ex
        cases ev2
        obtain⟨g2,o2,rfl,hg2,hcl2⟩:=hcell2 (by intro e;rw[e] at hW;simp at hW)
        have hc3:=hcl2 kk _ hW
        have HK2:=za (HKe.out g2 rfl)
        have HN2:=za (HNe.out g2 rfl)
        have hG2:Gl S wr:=HG.out.of (T:=λ_=>False) (Fr.of_below HBr.out) (λ_ e=>e.elim)
        have HGb:=za (λo:Obj=>hG2.of (T:=λ_=>False) ((Fr.refl _ wr).alloc o) (λ_ e=>e.elim))
        have hb2:wr.heap.size≠m.b2:=by have:=HMr.out.mc.mem.lt.2.2.1;omega
        have HOne:=za (λo:Obj=>λhn=>HOn.out m sv' st a slots (wr.alloc o) (.slice (some ⟨wr.heap.size,0,none⟩) 1 1) wr.heap.size (HGb.out o) (HMr.out.keep (zq wr o)) hn hb2)
        have HB5:=za (λo:Obj=>HBr.out.alloc hzr o)
        obtain⟨R,hR⟩:∃R,ztE k st a=R:=⟨_,rfl⟩
        rw[hR] at HOne HO' hc3
        have hli:(kk:Int)<(W0.length:Int):=by omega
        have Hn:=za HMr.out.mc
        clear hcl1 hcell1 hxa hG2 hcl2 hcell2 hW hy hout hdw hdr hR HO hlw HMr
        go_wp2_with (go_at_call 11;refine (HOne.out _ (zsi wr a _)).mono ?_;rintro e w2 ⟨sv2,sl2,rfl,q3,q4⟩;have e4:w2.heap[g2]?=w3.heap[g2]?:=(q4.fr.block g2 (by simp;omega) (by rintro (e|e|e|e);exact HN2.out.1 e;exact HN2.out.2.1 e;exact HN2.out.2.2.1 e;exact HK2.out.2 e)).trans ((Below.heap_alloc _ _ _ (by omega)).trans HK2.out.1);have hc4:=(World.cell?_of_block (w:=w3) (a:=⟨g2,o2+kk,none⟩) e4).trans hc3;have Q3:=za q3;have Q4:=za q4;have E4:=za e4;clear q3 q4 e4)
        go_roundg (gk-1)
        case measure=>omega
        refine⟨kk+1,R.1,sv2,sl2,by omega,by omega,by go_num,HO'.out,Q3.out,?_,?_,?_⟩
        · intro g e
          cases e
          refine⟨E4.out,λe'=>?_⟩
          rcases Q4.out.new g2 e' with e''|e''
          · exact HK2.out.2 e''
          · rw[zsb] at e'';omega
        · have:=Q4.out.fr.size;rw[zsb] at this;omega
        · refine (HB5.out _).trans (Q4.out.fr.below (B:=w.heap.size) (by rw[zsb];omega) ?_)
          rintro j (e|e|e|e)
          · have:=Hn.out.n0;omega
          · have:=Hn.out.n1;omega
          · have:=Hn.out.n2;omega
          · have:=(Hn.out.mem.own.lt j e).1;omega
      · go_wp2_with fail
        go_ret
        exact⟨rfl,HBr.out⟩
end
section
open Go.ChangeShapes Go.WideShapes Go.ChangeAt Go.RowKit
theorem zhU {P:Program}{w:World}:∀{l:List (String×DataW Unit)} {ps:List MemPlace},DataW.LaidVars P w l ps->∀{k:Nat} {n:String} {d:DataW Unit},l[k]?=some (n,d)->∃g t cs fuel p,P.globalNamed n=some g/\(P.globals[g]?).map (·.type)=some t/\w.var? P n=some cs/\DataW.trod (λ_=>()) P w 0 (λ_=>true) false fuel t cs.toList=some (d,p)/\∀x∈MemPlace.row ⟨g,0,none⟩ cs.size,x∈ps:=by
 intro l
 induction l with
 | nil=>intro ps _ k n d hk;simp at hk
 | cons x l ih =>
   obtain⟨n0,d0⟩:=x
   rintro ps ⟨g,t,cs,fuel,p,q,h1,h2,h3,h4,h5,h6⟩ k n d hk
   cases k with
   | zero =>
     simp at hk
     obtain⟨rfl,rfl⟩:=hk
     exact⟨g,t,cs,fuel,p,h1,h2,h3,h4,λx hx=>by rw[h6];simp[hx]⟩
   | succ k =>
     obtain⟨g',t',cs',fuel',p',e1,e2,e3,e4,e5⟩:=ih h5 (k:=k) (by simpa using hk)
     exact⟨g',t',cs',fuel',p',e1,e2,e3,e4,λx hx=>by rw[h6];simp[e5 x hx]⟩
theorem Tryz.star: "*"++ "errors.errorString"= "*errors.errorString":=by decide
theorem Tryz.rowErr (u:TypeId)(h:Tryz.prog.typeName? 3 u=some "*errors.errorString"):u=293 :=
 typeName_ptr_named (nm:= "errors.errorString") (by rw[Tryz.star];kernel_rfl) (by kernel_rfl) (by decide) u (by rw[Tryz.star];exact h)
theorem Tryz.cellsErr:Tryz.prog.cellsOf 295=1:=by kernel_rfl
theorem Tryz.cellsStr:Tryz.prog.cellsOf 9=1:=by kernel_rfl
theorem zcl {W:World}{l:List (String×DataW Unit)}(h:laidMet Tryz.prog l W){k g:Nat}{n:String}{text:List UInt8}(hk:l[k]?=some (n,.iface "*errors.errorString" (.ptr (.agg [.lit (.string text)]))))(hg:Tryz.prog.globalNamed n=some g)(ht:(Tryz.prog.globals[g]?).map (·.type)=some 43) :
 ∃a,W.cell? ⟨g,0,none⟩=some (.iface 293 (.pointer (some a))):=by
 obtain⟨ps,hL,_,hrows⟩:=h
 obtain⟨g',t,cs,fuel,p,e1,e2,e3,e4,e5⟩:=zhU hL hk
 obtain rfl:=Option.some.inj (hg.symm.trans e1)
 obtain rfl:=Option.some.inj (ht.symm.trans e2)
 obtain⟨l0⟩:=cs
 have ok:∀u v,l0=[.iface u v]->Value.okWide Tryz.prog W .any 0 u v:=λu v e=>by
  subst e
  exact (hrows g 0 (e5 _ (by simp[MemPlace.row]))).2 u v (by simpa using World.var?_cell e1 e3 0)
 obtain⟨a,s,rfl,_⟩:=errorString_of_trod Tryz.underlying43 Tryz.rowErr Tryz.underlying293 Tryz.underlying295 rfl rfl Tryz.underlying9 Tryz.cellsErr Tryz.cellsStr e4 ok
 exact⟨a,by simpa using World.var?_cell e1 e3 0⟩
theorem zjE {W:World}{l:List (String×DataW Unit)}(h:laidMet Tryz.prog l W){k g n:Nat}{t e:TypeId}{nm:String}{ds:List (DataW Unit)}(hk:l[k]?=some (nm,.agg ds))(hg:Tryz.prog.globalNamed nm=some g)(ht:(Tryz.prog.globals[g]?).map (·.type)=some t)(hu:Tryz.prog.underlying t=some (.array n e))(hc:Tryz.prog.cellsOf e=1)(hct:Tryz.prog.cellsOf t=n) :
 ∀i,i<n->∃v f x,W.cell? ⟨g,i,none⟩=some v/\DataW.trod (λ_=>()) Tryz.prog W 0 (λ_=>true) false f e [v]=some x/\ds[i]?=some x.1:=by
 obtain⟨ps,hL,_,hrows⟩:=h
 obtain⟨g',t',cs,fuel,p,e1,e2,e3,e4,e5⟩:=zhU hL hk
 obtain rfl:=Option.some.inj (hg.symm.trans e1)
 obtain rfl:=Option.some.inj (ht.symm.trans e2)
 obtain⟨xs,m,_,hx,hl,hn,hel⟩:=DataW.trod_array hu e4
 intro i hi
 have h1:=hel i hi
 rw[hc] at h1
 obtain⟨x,hx1⟩:∃x,xs[i]?=some x:=⟨_,zsc (by omega)⟩
 rw[hx1] at h1
 have hds:ds=xs.map (·.1):=by
  have:=congrArg Prod.fst hx
  simpa using this
 simp only[Nat.mul_one] at h1
 rcases hd:cs.toList.drop i with _|⟨v,r⟩
 · have:=List.drop_eq_nil_iff.1 hd
   rw[hct] at hl
   omega
 · rw[hd] at h1
   refine⟨v,m,x,?_,by simpa using h1,by rw[hds,List.getElem?_map,hx1];rfl⟩
   have hv:cs[i]?=some v:=by
    have:cs.toList[i]?=some v:=by
     have:=congrArg (λl=>l[0]?) hd
     simpa [List.getElem?_drop] using this
    simpa using this
   rw[World.var?_cell e1 e3 i]
   exact hv
theorem zpE {W:World}{l:List (String×DataW Unit)}(h:laidMet Tryz.prog l W){k g n:Nat}{t e:TypeId}{f0 f1 f2:Field}{nm:String}{ds:List (DataW Unit)}(hk:l[k]?=some (nm,.agg ds))(hg:Tryz.prog.globalNamed nm=some g)(ht:(Tryz.prog.globals[g]?).map (·.type)=some t)(hu:Tryz.prog.underlying t=some (.array n e))(hs:Tryz.prog.underlying e=some (.struct #[f0,f1,f2]))(h0:f0.offset=0)(h1:f1.offset=1)(h2:f2.offset=2)(u0:Tryz.prog.underlying f0.type=some (.int .i64))(u1:Tryz.prog.underlying f1.type=some (.int .i64))(u2:Tryz.prog.underlying f2.type=some (.int .i64))(c0:Tryz.prog.cellsOf f0.type=1)(c1:Tryz.prog.cellsOf f1.type=1)(c2:Tryz.prog.cellsOf f2.type=1)(hc:Tryz.prog.cellsOf e=3) :
 ∀i,i<n->∃a b c:Int,W.cell? ⟨g,i*3,none⟩=some (.int .i64 a)/\W.cell? ⟨g,i*3+1,none⟩=some (.int .i64 b)/\W.cell? ⟨g,i*3+2,none⟩=some (.int .i64 c)/\ds[i]?=some (.agg [.lit (.int .i64 a),.lit (.int .i64 b),.lit (.int .i64 c)]):=by
 obtain⟨ps,hL,_,hrows⟩:=h
 obtain⟨g',t',cs,fuel,p,e1,e2,e3,e4,e5⟩:=zhU hL hk
 obtain rfl:=Option.some.inj (hg.symm.trans e1)
 obtain rfl:=Option.some.inj (ht.symm.trans e2)
 obtain⟨xs,m,_,hx,hl,hn,hel⟩:=DataW.trod_array hu e4
 intro i hi
 have hi1:=hel i hi
 rw[hc] at hi1
 obtain⟨x,hx1⟩:∃x,xs[i]?=some x:=⟨_,zsc (by omega)⟩
 rw[hx1] at hi1
 have hds:ds=xs.map (·.1):=by
  have:=congrArg Prod.fst hx
  simpa using this
 obtain⟨y0,y1,y2,m2,rfl,hl3,t0,t1,t2⟩:=Deep.trod_struct3 hs hi1
 rw[h0,c0] at t0
 rw[h1,c1] at t1
 rw[h2,c2] at t2
 obtain⟨a,q0,rfl,_⟩:=DataW.trod_int u0 t0
 obtain⟨b,q1,rfl,_⟩:=DataW.trod_int u1 t1
 obtain⟨c,q2,rfl,_⟩:=DataW.trod_int u2 t2
 have key:∀j v,j<3->(((cs.toList.drop (i*3)).take 3).drop j).take 1=[v]->W.cell? ⟨g,i*3+j,none⟩=some v:=by
  intro j v hj hv
  rw[World.var?_cell e1 e3 (i*3+j)]
  have:=congrArg (λl=>l[0]?) hv
  simp only[List.getElem?_take,List.getElem?_drop] at this
  have h3:cs.toList[i*3+j]?=some v:=by simpa [hj] using this
  simpa using h3
 refine⟨a,b,c,by simpa using key 0 _ (by decide) q0,key 1 _ (by decide) q1,key 2 _ (by decide) q2,?_⟩
 rw[hds,List.getElem?_map,hx1]
 rfl
def zmy:List (String×DataW Unit):=[("cadence/tree.words",Rows.laid_cadence_tree_words),("math/bits.deBruijn32tab",Rows.laid_math_bits_deBruijn32tab),("math/bits.deBruijn64tab",Rows.laid_math_bits_deBruijn64tab),("internal/strconv.uint64pow10",Rows.laid_internal_strconv_uint64pow10),("strconv.ErrRange",Rows.laid_strconv_ErrRange),("strconv.ErrSyntax",Rows.laid_strconv_ErrSyntax),("cadence/fault.Long",Rows.laid_cadence_fault_Long),("cadence/fault.Syntax",Rows.laid_cadence_fault_Syntax),("cadence/fault.Deep",Rows.laid_cadence_fault_Deep),("cadence/fault.Name",Rows.laid_cadence_fault_Name),("cadence/fault.Type",Rows.laid_cadence_fault_Type),("cadence/fault.Clock",Rows.laid_cadence_fault_Clock),("cadence/fault.Define",Rows.laid_cadence_fault_Define),("cadence/fault.Cause",Rows.laid_cadence_fault_Cause),("cadence/fault.Limit",Rows.laid_cadence_fault_Limit),("cadence/fault.Image",Rows.laid_cadence_fault_Image),("cadence/fault.Input",Rows.laid_cadence_fault_Input),("cadence/code.shapes",Rows.laid_cadence_code_shapes),("cadence/compile.operators",Rows.laid_cadence_compile_operators)]
theorem zig {W:World}(h:laidMetH Tryz.prog Rows.sampledRow.laid W):laidMet Tryz.prog zmy W:=by
 have h':laidMet Tryz.prog zmy W/\handlesMet Tryz.prog [("errors.errorType",Rows.laid_errors_errorType)] W:=h
 exact h'.1
theorem Tryz.gLong:Tryz.prog.globalNamed "cadence/fault.Long"=some 2:=by kernel_rfl
theorem Tryz.tLong:(Tryz.prog.globals[2]?).map (·.type)=some 43:=by kernel_rfl
theorem Tryz.gSyntax:Tryz.prog.globalNamed "cadence/fault.Syntax"=some 3:=by kernel_rfl
theorem Tryz.tSyntax:(Tryz.prog.globals[3]?).map (·.type)=some 43:=by kernel_rfl
theorem Tryz.gDeep:Tryz.prog.globalNamed "cadence/fault.Deep"=some 4:=by kernel_rfl
theorem Tryz.tDeep:(Tryz.prog.globals[4]?).map (·.type)=some 43:=by kernel_rfl
theorem Tryz.gName:Tryz.prog.globalNamed "cadence/fault.Name"=some 5:=by kernel_rfl
theorem Tryz.tName:(Tryz.prog.globals[5]?).map (·.type)=some 43:=by kernel_rfl
theorem Tryz.gType:Tryz.prog.globalNamed "cadence/fault.Type"=some 6:=by kernel_rfl
theorem Tryz.tType:(Tryz.prog.globals[6]?).map (·.type)=some 43:=by kernel_rfl
theorem Tryz.gClock:Tryz.prog.globalNamed "cadence/fault.Clock"=some 7:=by kernel_rfl
theorem Tryz.tClock:(Tryz.prog.globals[7]?).map (·.type)=some 43:=by kernel_rfl
theorem Tryz.gDefine:Tryz.prog.globalNamed "cadence/fault.Define"=some 8:=by kernel_rfl
theorem Tryz.tDefine:(Tryz.prog.globals[8]?).map (·.type)=some 43:=by kernel_rfl
theorem Tryz.gCause:Tryz.prog.globalNamed "cadence/fault.Cause"=some 9:=by kernel_rfl
theorem Tryz.tCause:(Tryz.prog.globals[9]?).map (·.type)=some 43:=by kernel_rfl
theorem Tryz.gLimit:Tryz.prog.globalNamed "cadence/fault.Limit"=some 10:=by kernel_rfl
theorem Tryz.tLimit:(Tryz.prog.globals[10]?).map (·.type)=some 43:=by kernel_rfl
theorem Tryz.gImage:Tryz.prog.globalNamed "cadence/fault.Image"=some 11:=by kernel_rfl
theorem Tryz.tImage:(Tryz.prog.globals[11]?).map (·.type)=some 43:=by kernel_rfl
theorem Tryz.gInput:Tryz.prog.globalNamed "cadence/fault.Input"=some 0:=by kernel_rfl
theorem Tryz.tInput:(Tryz.prog.globals[0]?).map (·.type)=some 43:=by kernel_rfl
theorem Tryz.gErrRange:Tryz.prog.globalNamed "strconv.ErrRange"=some 15:=by kernel_rfl
theorem Tryz.tErrRange:(Tryz.prog.globals[15]?).map (·.type)=some 43:=by kernel_rfl
theorem Tryz.gWords:Tryz.prog.globalNamed "cadence/tree.words"=some 17:=by kernel_rfl
theorem Tryz.tWords:(Tryz.prog.globals[17]?).map (·.type)=some 306:=by kernel_rfl
theorem Tryz.cWords:Tryz.prog.cellsOf 306=24:=by kernel_rfl
theorem Tryz.gShapes:Tryz.prog.globalNamed "cadence/code.shapes"=some 12:=by kernel_rfl
theorem Tryz.tShapes:(Tryz.prog.globals[12]?).map (·.type)=some 158:=by kernel_rfl
theorem Tryz.gOpers:Tryz.prog.globalNamed "cadence/compile.operators"=some 13:=by kernel_rfl
theorem Tryz.tOpers:(Tryz.prog.globals[13]?).map (·.type)=some 264:=by kernel_rfl
theorem Tryz.cOpers:Tryz.prog.cellsOf 264=24:=by kernel_rfl
theorem Tryz.cellsOp:Tryz.prog.cellsOf 68=1:=by kernel_rfl
theorem Tryz.cellsShape:Tryz.prog.cellsOf 157=3:=by kernel_rfl
theorem zm4:∀(i:Nat) (s:ByteArray),zcY[i]?=some s->(match (Rows.laid_cadence_tree_words:DataW Unit) with|.agg ds=>ds[i]?=(some (DataW.lit (.string s.data.toList)):Option (DataW Unit))|_=>False):=by
 intro i s h
 have hi:=(List.getElem?_eq_some_iff.1 h).1
 have:zcY.length=24:=rfl
 have hi':i<24:=by omega
 have:i=0∨i=1∨i=2∨i=3∨i=4∨i=5∨i=6∨i=7∨i=8∨i=9∨i=10∨i=11∨i=12∨i=13∨i=14∨i=15∨i=16∨i=17∨i=18∨i=19∨i=20∨i=21∨i=22∨i=23:=by omega
 rcases this with rfl|rfl|rfl|rfl|rfl|rfl|rfl|rfl|rfl|rfl|rfl|rfl|rfl|rfl|rfl|rfl|rfl|rfl|rfl|rfl|rfl|rfl|rfl|rfl <;> (cases h;rfl)
theorem zoe {W:World}(h0:laidMetH Tryz.prog Rows.sampledRow.laid W)(hz:21<=W.heap.size):(∃S,Gl S W)/\zbt W/\zbW W:=by
 have h:=zig h0
 obtain⟨a1,e1⟩:=zcl h (k:=6) rfl Tryz.gLong Tryz.tLong
 obtain⟨a2,e2⟩:=zcl h (k:=7) rfl Tryz.gSyntax Tryz.tSyntax
 obtain⟨a3,e3⟩:=zcl h (k:=8) rfl Tryz.gDeep Tryz.tDeep
 obtain⟨a4,e4⟩:=zcl h (k:=9) rfl Tryz.gName Tryz.tName
 obtain⟨a5,e5⟩:=zcl h (k:=10) rfl Tryz.gType Tryz.tType
 obtain⟨a6,e6⟩:=zcl h (k:=11) rfl Tryz.gClock Tryz.tClock
 obtain⟨a7,e7⟩:=zcl h (k:=12) rfl Tryz.gDefine Tryz.tDefine
 obtain⟨a8,e8⟩:=zcl h (k:=13) rfl Tryz.gCause Tryz.tCause
 obtain⟨a9,e9⟩:=zcl h (k:=14) rfl Tryz.gLimit Tryz.tLimit
 obtain⟨a10,e10⟩:=zcl h (k:=15) rfl Tryz.gImage Tryz.tImage
 obtain⟨a11,e11⟩:=zcl h (k:=16) rfl Tryz.gInput Tryz.tInput
 obtain⟨a12,e12⟩:=zcl h (k:=4) rfl Tryz.gErrRange Tryz.tErrRange
 have hw:=zjE h (k:=0) rfl Tryz.gWords Tryz.tWords Tryz.underlying306 Tryz.cellsStr Tryz.cWords
 have ho:=zjE h (k:=18) rfl Tryz.gOpers Tryz.tOpers Tryz.underlying264 Tryz.cellsOp Tryz.cOpers
 have hs:=zpE h (k:=17) rfl Tryz.gShapes Tryz.tShapes Tryz.underlying158 Tryz.underlying157 rfl rfl rfl (by kernel_rfl) (by kernel_rfl) (by kernel_rfl) (by kernel_rfl) (by kernel_rfl) (by kernel_rfl) Tryz.cellsShape
 refine⟨⟨λk=>match k with|1=>a1|2=>a2|3=>a3|4=>a4|5=>a5|6=>a6|7=>a7|8=>a8|9=>a9|10=>a10|11=>a11|_=>a12,e1,e2,e3,e4,e5,e6,e7,e8,e9,e10,e11,e12,λi s hi=>?_,hz⟩,λk h1 h2=>?_,?_⟩
 · have hlt:i<24:=by have:=(List.getElem?_eq_some_iff.1 hi).1;have e:zcY.length=24:=rfl;omega
   obtain⟨v,f,x,q1,q2,q3⟩:=hw i hlt
   obtain⟨s',r1,rfl,_⟩:=DataW.trod_string Tryz.underlying9 q2
   cases r1
   rw[q1]
   have h2:=zm4 i s hi
   have h3:(some (DataW.lit (.string s'.data.toList)):Option (DataW Unit))=some (.lit (.string s.data.toList)):=q3.symm.trans h2
   have h4:s'.data.toList=s.data.toList:=by
    have:=Option.some.inj h3
    injection this with this
    injection this
   obtain⟨⟨d1⟩⟩:=s'
   obtain⟨⟨d2⟩⟩:=s
   simp only at h4
   rw[h4]
 · obtain⟨v,f,x,q1,q2,q3⟩:=ho k (by omega)
   obtain⟨s',r1,rfl,_⟩:=DataW.trod_int Tryz.underlying68 q2
   cases r1
   rw[q1]
   have:k=5∨k=10∨k=11∨k=12∨k=13∨k=14∨k=15∨k=16∨k=17∨k=18∨k=19∨k=20∨k=21∨k=22∨k=23:=by omega
   rcases this with rfl|rfl|rfl|rfl|rfl|rfl|rfl|rfl|rfl|rfl|rfl|rfl|rfl|rfl|rfl <;> (have q4:=Option.some.inj q3;injection q4 with q4;injection q4 with _ q5;subst q5;rfl)
 · have key:∀k s,zY[k]?=some s->∃a b c:Int,W.cell? ⟨12,k*3,none⟩=some (.int .i64 a)/\W.cell? ⟨12,k*3+1,none⟩=some (.int .i64 b)/\W.cell? ⟨12,k*3+2,none⟩=some (.int .i64 c)/\a=(s.1:Nat)/\b=(s.2.1:Nat)/\c=(s.2.2:Nat):=by
    intro k s hk
    have h20:=zeB hk
    obtain⟨a,b,c,q1,q2,q3,q4⟩:=hs k (by omega)
    refine⟨a,b,c,q1,q2,q3,?_⟩
    clear q1 q2 q3 hs ho hw
    have:k=0∨k=1∨k=2∨k=3∨k=4∨k=5∨k=6∨k=7∨k=8∨k=9∨k=10∨k=11∨k=12∨k=13∨k=14∨k=15∨k=16∨k=17∨k=18∨k=19∨k=20:=by omega
    rcases this with rfl|rfl|rfl|rfl|rfl|rfl|rfl|rfl|rfl|rfl|rfl|rfl|rfl|rfl|rfl|rfl|rfl|rfl|rfl|rfl|rfl <;> (cases hk;have q5:=Option.some.inj q4;injection q5 with q5;injection q5 with q6 q7;injection q7 with q8 q9;injection q9 with q10 _;injection q6 with q6;injection q6 with _ q6;injection q8 with q8;injection q8 with _ q8;injection q10 with q10;injection q10 with _ q10;subst q6 q8 q10;exact⟨rfl,rfl,rfl⟩)
   refine⟨λk s hk=>?_,λk s hk=>?_,λk s hk=>?_⟩
   · obtain⟨a,b,c,q1,q2,q3,rfl,rfl,rfl⟩:=key k s hk;exact q1
   · obtain⟨a,b,c,q1,q2,q3,rfl,rfl,rfl⟩:=key k s hk;exact q2
   · obtain⟨a,b,c,q1,q2,q3,rfl,rfl,rfl⟩:=key k s hk;exact q3
theorem Tryz.own:ownKnob Tryz.prog.godebug=none:=by kernel_rfl
theorem Tryz.laidOut:laidOutB Tryz.prog=true:=by kernel_rfl
theorem Tryz.cells64:Tryz.prog.cellsOf 2=1:=by kernel_rfl
theorem znF (os:Go.Os)(args:Array Value):laidMetH Tryz.prog Rows.sampledRow.laid ((World.doorLaid Tryz.prog 314 os).forCall (λ_ _=>0) ⟨#[],args,[]⟩).memory :=
 laidMetH_of_parts (laidMet_of_run' 8 (by kernel_rfl) (by kernel_rfl)) (by kernel_rfl)
theorem zqu {n:Int}(h:(Lit.int .i64 n).wf=true):-9223372036854775808<=n/\n<=9223372036854775807:=bounds_i64 h
theorem zo3 {H:Type}{enc:TypeId×Value->H}{W:World}{a:Option Addr}{len cap fuel:Nat}{x:DataW H×List MemPlace}{sp:Nat->Bool}{held:Bool}(hf:DataW.trod enc Tryz.prog W 0 sp held fuel 22 (Value.slice a len cap).cells.toList=some x)(hlt:∀p∈x.2,p.block<W.heap.size):∃l,Ar W W.heap.size (.slice a len cap) l:=by
 rcases open_ints Tryz.underlying22 Tryz.underlying2 Tryz.cells64 hf with ⟨hcs,hx⟩|⟨a',len',cap',zs,hcs,_,hl,hm,hz,hx,hcell,hwz⟩
 · simp[Value.cells] at hcs
   obtain⟨rfl,rfl,rfl⟩:=hcs
   exact⟨[],⟨none,0,rfl,by decide,λh=>absurd rfl h⟩,λx hx=>by cases hx⟩
 · simp[Value.cells] at hcs
   obtain⟨rfl,rfl,rfl⟩:=hcs
   have hml:maxLen<=9223372036854775807:=by decide
   have hzl:len<=zs.length:=by rw[hz];split <;> omega
   have htl:(zs.take len).length=len:=by rw[List.length_take];omega
   refine⟨zs.take len,⟨some a',cap,by rw[htl],by rw[htl];omega,λhne=>?_⟩,λy hy=>zqu (hwz y (List.mem_of_mem_take hy))⟩
   have h0:0<zs.length:=by
    rcases zs with _|⟨z,zs⟩
    · simp at hne
    · simp
   obtain⟨b,off,spot⟩:=a'
   have hspot:spot=none:=by simpa [Addr.add] using World.cell?_spot (hcell 0 h0)
   subst hspot
   refine⟨b,off,rfl,hlt (.cell b off) (by rw[hx];exact MemPlace.mem_row.2 ⟨0,h0,by simp⟩),λj y hj=>?_⟩
   rw[List.getElem?_take] at hj
   split at hj
   · have hjl:=(List.getElem?_eq_some_iff.1 hj).1
     have:=hcell j hjl
     rw[List.getD_eq_getElem?_getD,hj] at this
     rw[add_plain] at this
     exact this
   · cases hj
end
section
theorem Tryz.mapsR:(mapsRowed Tryz.prog)=true:=by kernel_rfl
theorem Tryz.heard:(Tryz.prog.stopsHeard)=true:=by kernel_rfl
theorem Tryz.enter:(Tryz.prog.mayEnter)=true:=by kernel_rfl
abbrev rNs:=Rows.nestedRow
abbrev sNs:=Rows.nestedSpec
theorem zuz:((rNs.lifted==Tryz.prog.liftsFinal))=true:=by kernel_rfl
theorem zuK:((Tryz.prog.make==some rNs.make))=true:=by kernel_rfl
theorem zuF:((rNs.plainKeys==Tryz.prog.plainKeys))=true:=by kernel_rfl
theorem zuU:((rNs.inPlace==Tryz.prog.inPlace 4))=true:=by kernel_rfl
theorem zuB:((rNs.unfollowed==Tryz.prog.unfollowed 4))=true:=by kernel_rfl
theorem zuG:((rNs.recurses==Tryz.prog.recurses 4))=true:=by kernel_rfl
theorem zut:((rNs.named==Tryz.prog.varsNamed 4))=true:=by kernel_rfl
theorem zuR:(rNs.wf (OpenSpec.ofChange sNs))=true:=by kernel_rfl
theorem zuX:(Tryz.f4.params.all (Tryz.prog.readableRec ·))=true:=by kernel_rfl
theorem zuT:(namedTie Tryz.prog rNs.named sNs.vars)=true:=by kernel_rfl
theorem zuY:((rNs.stops==[]))=true:=by kernel_rfl
theorem zuW:((Tryz.prog.stops==[]))=true:=by kernel_rfl
theorem zuV:((rNs.knobs==[]))=true:=by kernel_rfl
theorem zuS:((Tryz.prog.stopKnobs==[]))=true:=by kernel_rfl
theorem zuN:((rNs.maps==(Tryz.f4.params.toList++sNs.plain.varTypes Tryz.prog).any (Tryz.prog.mapsRec ·)))=true:=by kernel_rfl
theorem zuE:((rNs.ifaces==(Tryz.f4.params.toList++sNs.plain.varTypes Tryz.prog).any (Tryz.prog.ifacesRec ·)))=true:=by kernel_rfl
theorem zux:((rNs.mapsOut==Tryz.prog.mapsAmong Tryz.f4.resultTypes.toList))=true:=by kernel_rfl
theorem zuv:((rNs.loops==(Tryz.f4.params.toList++sNs.plain.varTypes Tryz.prog).any (Tryz.prog.loopsFrom ·)))=true:=by kernel_rfl
theorem zuI:((rNs.wideKeys==(Tryz.f4.params.toList++sNs.plain.varTypes Tryz.prog++Tryz.f4.resultTypes.toList).any (Tryz.prog.wideKeysFrom ·)))=true:=by kernel_rfl
theorem zuO:(sNs.vars.all (Tryz.prog.varReadable ·))=true:=by kernel_rfl
theorem zuC:(Tryz.f4.resultTypes.all (λt=>Tryz.prog.readableRec t&&decide (t<Tryz.prog.types.size)))=true:=by kernel_rfl
theorem zus:((rNs.ifacesOut==Tryz.f4.resultTypes.toList.any (Tryz.prog.ifacesRec ·)))=true:=by kernel_rfl
theorem zuM:((rNs.loopsOut==Tryz.f4.resultTypes.toList.any (Tryz.prog.loopsFrom ·)))=true:=by kernel_rfl
theorem zuH:(rNs.shortTexts.isNone)=true:=by kernel_rfl
theorem zuA:((rNs.kinds==(if rNs.domain.isEmpty then [] else Tryz.f4.params.toList.map λt=>match Tryz.prog.underlying t with|some (.int k)=>some k|_=>none)))=true:=by kernel_rfl
theorem zuw:((rNs.pinned==rNs.pinnedBy))=true:=by kernel_rfl
theorem zuP:((rNs.veiled==(Tryz.f4.params.toList++sNs.plain.varTypes Tryz.prog++Tryz.f4.resultTypes.toList).any (Tryz.prog.veiledRec ·)))=true:=by kernel_rfl
theorem zuQ:(rNs.veiledFits Tryz.prog Tryz.f4.params.toList (Tryz.f4.params.toList++sNs.plain.varTypes Tryz.prog++Tryz.f4.resultTypes.toList))=true:=by kernel_rfl
end
section
open Go.ChangeShapes Go.WideShapes Go.ChangeAt Go.RowKit
theorem Tryz.gTab:Tryz.prog.globalNamed "math/bits.deBruijn64tab"=some 20:=by kernel_rfl
theorem Tryz.tTab:(Tryz.prog.globals[20]?).map (·.type)=some 314:=by kernel_rfl
theorem Tryz.cTab:Tryz.prog.cellsOf 314=64:=by kernel_rfl
theorem Tryz.cellsU8:Tryz.prog.cellsOf 5=1:=by kernel_rfl
theorem zp6 {W:World}(h0:laidMetH Tryz.prog Rows.sampledRow.laid W):21<=W.heap.size:=by
 obtain⟨v,_,_,h1,_⟩:=zjE (zig h0) (k:=2) rfl Tryz.gTab Tryz.tTab Tryz.underlying314 Tryz.cellsU8 Tryz.cTab 0 (by decide)
 exact World.block_lt_of_cell? W ⟨20,0,none⟩ h1
theorem Tryz.bytes64:Tryz.prog.bytesOf 2=8:=by kernel_rfl
theorem zuq {H:Type}{enc:TypeId×Value->H}{W:World}{a:Option Addr}{len cap fuel:Nat}{d0 d:DataW H}{p:List MemPlace}{sp:Nat->Bool}{held:Bool}(hf:DataW.trod enc Tryz.prog W 0 sp held fuel 22 (Value.slice a len cap).cells.toList=some (d,p))
 (h:(DataW.weightsEach Tryz.prog [3,22] [d0,d]).all (·<=reachBytes)=true):len*8<=140737488355328:=by
 rcases open_ints Tryz.underlying22 Tryz.underlying2 Tryz.cells64 hf with ⟨hcs,hx⟩|⟨a',len',cap',zs,hcs,hle,hl,hm,hz,hx,hcell,hwz⟩
 · simp[Value.cells] at hcs
   obtain⟨rfl,rfl,rfl⟩:=hcs
   omega
 · simp[Value.cells] at hcs
   obtain⟨rfl,rfl,rfl⟩:=hcs
   simp only[Prod.mk.injEq] at hx
   obtain⟨rfl,_⟩:=hx
   have hs:=sized_slice h (j:=1) rfl rfl Tryz.underlying22
   rw[Tryz.bytes64] at hs
   have hzl:len<=zs.length:=by rw[hz];split <;> omega
   have h1:(lits .i64 (zs.take len):List (DataW H)).length=len:=by simp[lits];omega
   rw[h1] at hs
   have hr:reachBytes<=140737488355328:=by decide
   omega
theorem ztV (os:Go.Os)(started:os.Started)(H:Type)(enc:TypeId×Value->H) :
 ReturnsInHanded {} Tryz.checked os 4 .any (λw args=>(Rows.nestedSpec.pre enc Tryz.prog Tryz.f4 [] false w args/\laidMetH Tryz.prog Rows.nestedRow.laid w)/\sizedMet enc Tryz.prog Tryz.f4 (OpenSpec.ofChange Rows.nestedSpec) false w args)
  (Rows.nestedSpec.post enc Tryz.prog Tryz.f4 false true false false):=by
 refine returnsInHanded_of_change_and (C:=Tryz.checked) (X:=λw _=>laidMetH Tryz.prog Rows.nestedRow.laid w) (λ_ _ _ hh h=>h.of_heap hh) Tryz.own started (by kernel_rfl) Tryz.func4
  (ChangeSpec.witness_shaped (enc:=enc) (C:=Tryz.checked) (os:=os) (X:=λw _=>laidMetH Tryz.prog Rows.nestedRow.laid w) false (World.doorLaid Tryz.prog 314 os) #[.int .i64 0,.slice none 0 0] 8 rfl (World.shaped_of_RefB (by kernel_rfl) (by kernel_rfl)) (by kernel_rfl) (by kernel_rfl) (by kernel_rfl) (znF os _)) ?_
 intro W base args ds gs before hval0 hW _ hsz hL _
 have hval:∀(j:Nat) t v,Tryz.f4.params[j]?=some t->args[j]?=some v->Value.okWide Tryz.prog W .any base t v:=hval0
 have hW':=hW
 obtain⟨p,q,hA0,hV,rfl,_,_⟩:=hW
 have hA:DataW.TrodAll enc Tryz.prog W 0 (λ_=>true) true Tryz.f4.params.toList args.toList ds p:=hA0
 rw[Tryz.params4] at hA hval
 obtain⟨v0,v1,d0,d1,p0,p1,rfl,rfl,rfl,h0,h1⟩:=trodAll_two hA
 obtain⟨rfl,rfl⟩:=trodVars_none hV
 obtain⟨n,rfl,rfl,rfl,hwf⟩:=open_int Tryz.underlying3 (hval 0 3 v0 rfl rfl) h0
 obtain⟨a1,len1,cap1,rfl⟩:=okWide_slice Tryz.underlying22 (hval 1 22 v1 rfl rfl)
 clear hA0 hval0
 simp only[List.append_nil] at hW'
 have hlt:∀x∈([]:List MemPlace)++p1,x.block<W.heap.size:=λx hx=>by simpa using hW'.lt x (by simpa using hx)
 have hargs0:∀(W':World),DataW.Trod enc Tryz.prog W' 0 (λb=>decide (b<W.heap.size)) true 3 (.int .i64 n) (.lit (.int .i64 n)) []:=λW'=>shut_int Tryz.underlying3 hwf
 have hargs1:∀(W':World),Below W.heap.size W W'->DataW.Trod enc Tryz.prog W' 0 (λb=>decide (b<W.heap.size)) true 22 (.slice a1 len1 cap1) d1 p1 :=
  λW' hn=>Below.trod Tryz.laidOut (by kernel_rfl) (of_decide_eq_true (by kernel_rfl)) h1 hn (λx hx=>hlt x (by simp[hx]))
 obtain⟨f1,hf1⟩:=h1
 have h8:=zuq hf1 (d0:=.lit (.int .i64 n)) hsz
 obtain⟨l1,hA1⟩:=zo3 hf1 (λx hx=>hlt x (by simp[hx]))
 have hz:21<=W.heap.size:=zp6 hL
 obtain⟨⟨S,hG⟩,hop,hS⟩:=zoe hL hz
 refine (zuk S n _ l1 W (bounds_i64 hwf) (by obtain⟨_,_,e,_⟩:=hA1.ex;cases e;exact h8) hG hop hS hA1).mono λe W' ⟨he,hnx⟩=>?_
 subst he
 refine⟨_,rfl,_,_,_,[],(([]:List MemPlace)++p1),[],hW',?_,?_,rfl,hnx.frame _,λh=>by cases h⟩
 · exact trodAll_mk1 (shut_bool Tryz.underlying4 true)
 · exact trodAll_mk2 (hargs0 _) (hargs1 _ hnx)
theorem zae {a b:Bool}(h1:a=true)(h2:b=true):(a&&b)=true:=by rw[h1,h2];rfl
theorem Tryz.main:Tryz.prog.mainIs=some (true,"85ebeb2ff86fcff32053cbf37fc533cace43c5bf82507a6d735a71fa134da4dc".toList):=by kernel_rfl
theorem Tryz.looked:true=Tryz.prog.looks []:=by kernel_rfl
theorem Tryz.noStand:Tryz.prog.wantsStandIn 22=false:=by kernel_rfl
end
section
abbrev rOd:=Rows.orderedRow
abbrev sOd:=Rows.orderedSpec
end
section
open Go.ChangeShapes Go.WideShapes Go.ChangeAt Go.RowKit
theorem Tryz.noStandI:Tryz.prog.wantsStandIn 3=false:=by kernel_rfl
theorem ztY:joinedFacts Tryz.prog 4 Tryz.f4 Rows.nestedSpec Rows.nestedRow=true:=by
 unfold joinedFacts
 exact (zae (zae (zae (zae (zae (zae (zae (zae (zae (zae (zae (zae (zae (zae (zae (zae (zae (zae (zae (zae (zae (zae (zae (zae (zae (zae (zae (zae (zae (zae (zae zuR Tryz.laidOut) Tryz.mapsR) zuX) zuT) zuY) zuW) zuV) zuS) zuU) zuB) zuG) zut) zuN) zuE) zux) zuv) zuI) zuO) zuC) zus) zuM) zuF) zuH) Tryz.heard) Tryz.enter) zuz) zuK) zuA) zuw) zuP) zuQ)
theorem zt2:Tryz.f4.isInstance Tryz.prog Rows.nestedRow.origin Rows.nestedRow.targs:=of_decide_eq_true (by kernel_rfl)
theorem zt0:Tryz.f4.isWrapper Tryz.prog Rows.nestedRow.wrapper Rows.nestedRow.mainSum:=by unfold Func.isWrapper;first|(rw[if_pos (by decide +kernel)];kernel_rfl)|(rw[if_neg (by decide +kernel)];exact⟨rfl,rfl⟩)
theorem ztP:Tryz.prog.funcNamed "cadence/cadencekeep.Nested"=some 4:=by kernel_rfl
theorem zt8:Rows.NestedSaid :=
 OpenClaim.holds_of_wide (p:=Tryz.pinned) (s:=Rows.nestedSpec) (c:=Rows.nestedRow) 4 Tryz.f4 rfl rfl rfl rfl rfl rfl rfl ⟨rfl,rfl,rfl,rfl,rfl⟩ rfl rfl rfl rfl rfl ztP Tryz.func4 ztY zt2 zt0
  (λos started H enc _=>ztV os started H enc)
theorem zuf:Rows.nestedRow.wfByText (OpenSpec.ofChange Rows.nestedSpec)=true:=by kernel_rfl
theorem zt1:false=Rows.nestedRow.goesBy Tryz.prog:=by kernel_rfl
theorem nested_holds:Rows.NestedCardSaid :=
 Claim7.holds_tied_plain_at .later [] [.data,.data,.data,.data,.handle,.sentinel,.sentinel,.sentinel,.sentinel,.sentinel,.sentinel,.sentinel,.sentinel,.sentinel,.sentinel,.sentinel,.sentinel,.sentinel,.data,.data] true (true,"85ebeb2ff86fcff32053cbf37fc533cace43c5bf82507a6d735a71fa134da4dc") true
  zt8 (λ_ h=>by cases h) zuf (λ_ h=>by cases h) nested_row_tie rfl ⟨rfl,rfl⟩ Tryz.main rfl
  (λf fn hf hfn=>by
    obtain rfl:f=4:=Option.some.inj (ztP.symm.trans hf) |>.symm
    obtain rfl:fn=Tryz.f4:=(Option.some.inj (Tryz.func4.symm.trans hfn)).symm
    exact⟨Tryz.looked,λj t ht=>by
     rw[Tryz.params4] at ht
     rcases j with _|_|j
     · have h3:t=3:=by simpa using ht.symm
       subst h3
       exact Tryz.noStandI
     · have h3:t=22:=by simpa using ht.symm
       subst h3
       exact Tryz.noStand
     · simp at ht⟩)
  zt1
end
end Go.Proofs.YtedmpgjebafcjaaGreatDoor
