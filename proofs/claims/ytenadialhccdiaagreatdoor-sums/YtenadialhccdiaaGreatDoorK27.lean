/- Part 28. -/
import Derived.Deep.Strs
import Derived.LaidHandle
import Derived.LaidLaws
import Derived.OpenShut
import Derived.ProofKit
import Derived.Test.YtenadialhccdiaaGreatDoorRows
import Derived.Test.YtenadialhccdiaaGreatDoorK00
set_option maxRecDepth 100000
set_option maxHeartbeats 8000000
namespace Go.Proofs.YtenadialhccdiaaGreatDoor
open Go.Proofs.Tryz
open Go.ChangeShapes Go.WideShapes Go.ChangeAt Go.RowKit
section
variable {ds:List (DataW Unit)} {l:List (String×DataW Unit)} {g k n:Nat} {nm:String} {e t:Xy} {W:Xw}
theorem zhU {P:Program}{w:Xw}:∀{l:List (String×DataW Unit)} {ps:List MemPlace},DataW.LaidVars P w l ps->∀{k:Nat} {n:String} {d:DataW Unit},l[k]?=some (n,d)->∃g t cs fuel p,P.globalNamed n=some g/\(P.globals[g]?).map (·.type)=some t/\w.var? P n=some cs/\DataW.trod (λ_=>()) P w 0 (λ_=>true) false fuel t cs.toList=some (d,p)/\∀x∈MemPlace.row (xD g 0) cs.size,x∈ps:=by
 intro l;induction l with
 | nil=>intro ps _ k n d hk;simp at hk
 | cons x l ih =>
   obtain⟨n0,d0⟩:=x;rintro ps ⟨g,t,cs,fuel,p,q,h1,h2,h3,h4,h5,h6⟩ k n d hk;cases k with
   | zero => simp at hk;obtain⟨rfl,rfl⟩:=hk;exact⟨g,t,cs,fuel,p,h1,h2,h3,h4,λx hx=>by rw[h6];simp[hx]⟩
   | succ k => obtain⟨g',t',cs',fuel',p',e1,e2,e3,e4,e5⟩:=ih h5 (k:=k) (by simpa using hk);exact⟨g',t',cs',fuel',p',e1,e2,e3,e4,λx hx=>by rw[h6];simp[e5 x hx]⟩
theorem Tryz.star: "*"++ "errors.errorString"= "*errors.errorString":=by decide
theorem Tryz.rowErr (u:Xy)(h:prog.typeName? 3 u=some "*errors.errorString"):u=290 :=
 typeName_ptr_named (nm:= "errors.errorString") (by rw[Tryz.star];kernel_rfl) (by kernel_rfl) (by decide) u (by rw[Tryz.star];exact h)
theorem Tryz.cellsErr:prog.cellsOf 292=1:=by kernel_rfl
theorem Tryz.cellsStr:prog.cellsOf 9=1:=by kernel_rfl
theorem zcl (h:laidMet prog l W){n:String}{text:Xu}(hk:l[k]?=some (n,.iface "*errors.errorString" (.ptr (.agg [.lit (.string text)]))))(hg:prog.globalNamed n=some g)(ht:(prog.globals[g]?).map (·.type)=some 41) :
 ∃a,W.cell? (xD g 0)=some (.iface 290 (.pointer (some a))):=by
 obtain⟨ps,hL,_,hrows⟩:=h;obtain⟨g',t,cs,fuel,p,e1,e2,e3,e4,e5⟩:=zhU hL hk;obtain rfl:=Option.some.inj (hg.symm.trans e1);obtain rfl:=Option.some.inj (ht.symm.trans e2);obtain⟨l0⟩:=cs;have ok:∀u v,l0=[.iface u v]->Value.okWide prog W .any 0 u v:=λu v e=>by subst e;exact (hrows g 0 (e5 _ (by simp[MemPlace.row]))).2 u v (by simpa using World.var?_cell e1 e3 0)
 obtain⟨a,s,rfl,_⟩:=errorString_of_trod underlying41 Tryz.rowErr underlying290 underlying292 rfl rfl underlying9 Tryz.cellsErr Tryz.cellsStr e4 ok;exact⟨a,by simpa using World.var?_cell e1 e3 0⟩
theorem zjE (h:laidMet prog l W)(hk:l[k]?=some (nm,.agg ds))(hg:prog.globalNamed nm=some g)(ht:(prog.globals[g]?).map (·.type)=some t)(hu:prog.underlying t=some (.array n e))(hc:prog.cellsOf e=1)(hct:prog.cellsOf t=n) :
 ∀i,i<n->∃v f x,W.cell? (xD g i)=some v/\DataW.trod (λ_=>()) prog W 0 (λ_=>true) false f e [v]=some x/\ds[i]?=some x.1:=by
 obtain⟨ps,hL,_,hrows⟩:=h;obtain⟨g',t',cs,fuel,p,e1,e2,e3,e4,e5⟩:=zhU hL hk;obtain rfl:=Option.some.inj (hg.symm.trans e1);obtain rfl:=Option.some.inj (ht.symm.trans e2);obtain⟨xs,m,_,hx,hl,hn,hel⟩:=DataW.trod_array hu e4;intro i hi;have h1:=hel i hi;rw[hc] at h1;obtain⟨x,hx1⟩:∃x,xs[i]?=some x:=⟨_,zsc (by omega)⟩;rw[hx1] at h1;have hds:ds=xs.map (·.1):=by have:=congrArg Prod.fst hx;simpa using this
 simp only[Nat.mul_one] at h1;rcases hd:cs.toList.drop i with _|⟨v,r⟩
 . have:=List.drop_eq_nil_iff.1 hd;rw[hct] at hl;omega
 rw[hd] at h1;refine⟨v,m,x,?_,by simpa using h1,by rw[hds,List.getElem?_map,hx1];rfl⟩;have hv:cs[i]?=some v:=by
  have:cs.toList[i]?=some v:=by have:=congrArg (λl=>l[0]?) hd;simpa [List.getElem?_drop] using this
  simpa using this
 rw[World.var?_cell e1 e3 i];exact hv
theorem zpE (h:laidMet prog l W){f0 f1 f2:Field}(hk:l[k]?=some (nm,.agg ds))(hg:prog.globalNamed nm=some g)(ht:(prog.globals[g]?).map (·.type)=some t)(hu:prog.underlying t=some (.array n e))(hs:prog.underlying e=some (.struct #[f0,f1,f2]))(h0:f0.offset=0)(h1:f1.offset=1)(h2:f2.offset=2)(u0:prog.underlying f0.type=some (.int .i64))(u1:prog.underlying f1.type=some (.int .i64))(u2:prog.underlying f2.type=some (.int .i64))(c0:prog.cellsOf f0.type=1)(c1:prog.cellsOf f1.type=1)(c2:prog.cellsOf f2.type=1)(hc:prog.cellsOf e=3) :
 ∀i,i<n->∃a b c:Int,W.cell? (xD g (i*3))=some (xI a)/\W.cell? (xD g (i*3+1))=some (xI b)/\W.cell? (xD g (i*3+2))=some (xI c)/\ds[i]?=some (.agg [.lit (.int .i64 a),.lit (.int .i64 b),.lit (.int .i64 c)]):=by
 obtain⟨ps,hL,_,hrows⟩:=h;obtain⟨g',t',cs,fuel,p,e1,e2,e3,e4,e5⟩:=zhU hL hk;obtain rfl:=Option.some.inj (hg.symm.trans e1);obtain rfl:=Option.some.inj (ht.symm.trans e2);obtain⟨xs,m,_,hx,hl,hn,hel⟩:=DataW.trod_array hu e4;intro i hi;have hi1:=hel i hi;rw[hc] at hi1;obtain⟨x,hx1⟩:∃x,xs[i]?=some x:=⟨_,zsc (by omega)⟩;rw[hx1] at hi1;have hds:ds=xs.map (·.1):=by have:=congrArg Prod.fst hx;simpa using this
 obtain⟨y0,y1,y2,m2,rfl,hl3,t0,t1,t2⟩:=Deep.trod_struct3 hs hi1;rw[h0,c0] at t0;rw[h1,c1] at t1;rw[h2,c2] at t2;obtain⟨a,q0,rfl,_⟩:=DataW.trod_int u0 t0;obtain⟨b,q1,rfl,_⟩:=DataW.trod_int u1 t1;obtain⟨c,q2,rfl,_⟩:=DataW.trod_int u2 t2;have key:∀j v,j<3->(((cs.toList.drop (i*3)).take 3).drop j).take 1=[v]->W.cell? (xD g (i*3+j))=some v:=by
  intro j v hj hv;rw[World.var?_cell e1 e3 (i*3+j)];have:=congrArg (λl=>l[0]?) hv;simp only[List.getElem?_take,List.getElem?_drop] at this;have h3:cs.toList[i*3+j]?=some v:=by simpa [hj] using this
  simpa using h3
 refine⟨a,b,c,by simpa using key 0 _ (by decide) q0,key 1 _ (by decide) q1,key 2 _ (by decide) q2,?_⟩;rw[hds,List.getElem?_map,hx1];rfl
end
end Go.Proofs.YtenadialhccdiaaGreatDoor
