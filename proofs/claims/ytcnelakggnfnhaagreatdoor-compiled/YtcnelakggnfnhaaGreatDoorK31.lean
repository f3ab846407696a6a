/- Part 32. -/
import Derived.Deep.Strs
import Derived.LaidHandle
import Derived.LaidLaws
import Derived.OpenShut
import Derived.ProofKit
import Derived.Test.YtcnelakggnfnhaaGreatDoorRows
import Derived.Test.YtcnelakggnfnhaaGreatDoorK00
set_option maxRecDepth 100000
set_option maxHeartbeats 8000000
namespace Go.Proofs.YtcnelakggnfnhaaGreatDoor
open Go.Proofs.Tryz
open Go.ChangeShapes Go.WideShapes Go.ChangeAt Go.RowKit
section
variable {o:List (DataW Unit)} {l:List (String×DataW Unit)} {g k n:Nat} {y:String} {e t:Xy} {W:Xw}
theorem r0 {P:Program}{w:Xw}:∀{l:List (String×DataW Unit)} {f:List MemPlace},DataW.LaidVars P w l f->∀{k:Nat} {n:String} {d:DataW Unit},l[k]?=some (n,d)->∃g t cs a p,P.globalNamed n=some g/\(P.globals[g]?).map (·.type)=some t/\w.var? P n=some cs/\DataW.trod (λ_=>()) P w 0 (λ_=>true) false a t cs.toList=some (d,p)/\∀x∈MemPlace.row (xD g 0) cs.size,x∈f:=by
 intro l;induction l with
 | nil=>intro f _ k n d c;simp at c
 | cons x l F =>
   obtain⟨I,d0⟩:=x;rintro f ⟨g,t,cs,a,p,q,A,B,C,D,E,j⟩ k n d c;cases k with
   | zero => simp at c;obtain⟨rfl,rfl⟩:=c;exact⟨g,t,cs,a,p,A,B,C,D,λx i=>by rw[j];simp[i]⟩
   | succ k => obtain⟨z,H,h,b,G,m,r,s,u,v⟩:=F E (k:=k) (by simpa using c);exact⟨z,H,h,b,G,m,r,s,u,λx i=>by rw[j];simp[v x i]⟩
theorem Tryz.star: "*"++ "errors.errorString"= "*errors.errorString":=by decide
theorem Tryz.tw (u:Xy)(h:prog.typeName? 3 u=some "*errors.errorString"):u=316 :=
 typeName_ptr_named (nm:= "errors.errorString") (by rw[Tryz.star];kernel_rfl) (by kernel_rfl) (by decide) u (by rw[Tryz.star];exact h)
theorem Tryz.sI:prog.cellsOf 318=1:=by kernel_rfl
theorem Tryz.p6:prog.cellsOf 9=1:=by kernel_rfl
theorem ic (h:laidMet prog l W){n:String}{c:Xu}(x:l[k]?=some (n,.iface "*errors.errorString" (.ptr (.agg [.lit (.string c)]))))(w:prog.globalNamed n=some g)(z:(prog.globals[g]?).map (·.type)=some 39) :
 ∃a,W.cell? (xD g 0)=some (.iface 316 (.pointer (some a))):=by
 obtain⟨D,r,_,b⟩:=h;obtain⟨C,t,cs,i,p,d,j,f,m,q⟩:=r0 r x;obtain rfl:=Option.some.inj (w.symm.trans d);obtain rfl:=Option.some.inj (z.symm.trans j);obtain⟨A⟩:=cs;have B:∀u v,A=[.iface u v]->Value.okWide prog W .any 0 u v:=λu v e=>by subst e;exact (b g 0 (q _ (by simp[MemPlace.row]))).2 u v (by simpa using World.var?_cell d f 0)
 obtain⟨a,s,rfl,_⟩:=errorString_of_trod underlying39 Tryz.tw underlying316 underlying318 rfl rfl underlying9 Tryz.sI Tryz.p6 m B;exact⟨a,by simpa using World.var?_cell d f 0⟩
theorem RP (h:laidMet prog l W)(G:l[k]?=some (y,.agg o))(E:prog.globalNamed y=some g)(I:(prog.globals[g]?).map (·.type)=some t)(J:prog.underlying t=some (.array n e))(D:prog.cellsOf e=1)(c:prog.cellsOf t=n) :
 ∀i,i<n->∃v f x,W.cell? (xD g i)=some v/\DataW.trod (λ_=>()) prog W 0 (λ_=>true) false f e [v]=some x/\o[i]?=some x.1:=by
 obtain⟨P,C,_,q⟩:=h;obtain⟨N,Q,cs,u,p,s,z,A,B,M⟩:=r0 C G;obtain rfl:=Option.some.inj (E.symm.trans s);obtain rfl:=Option.some.inj (I.symm.trans z);obtain⟨w,m,_,L,H,O,j⟩:=DataW.trod_array J B;intro i F;have a:=j i F;rw[D] at a;obtain⟨x,b⟩:∃x,w[i]?=some x:=⟨_,av (by omega)⟩;rw[b] at a;have d:o=w.map (·.1):=by have:=congrArg Prod.fst L;simpa using this
 simp only[Nat.mul_one] at a;rcases hd:cs.toList.drop i with _|⟨v,r⟩
 . have:=List.drop_eq_nil_iff.1 hd;rw[c] at H;omega
 rw[hd] at a;refine⟨v,m,x,?_,by simpa using a,by rw[d,List.getElem?_map,b];rfl⟩;have K:cs[i]?=some v:=by
  have:cs.toList[i]?=some v:=by have:=congrArg (λl=>l[0]?) hd;simpa [List.getElem?_drop] using this
  simpa using this
 rw[World.var?_cell s A i];exact K
theorem Xq (h:laidMet prog l W){f0 f1 f2:Field}(Q:l[k]?=some (y,.agg o))(N:prog.globalNamed y=some g)(T:(prog.globals[g]?).map (·.type)=some t)(U:prog.underlying t=some (.array n e))(S:prog.underlying e=some (.struct #[f0,f1,f2]))(H:f0.offset=0)(I:f1.offset=1)(J:f2.offset=2)(u0:prog.underlying f0.type=some (.int .i64))(u1:prog.underlying f1.type=some (.int .i64))(u2:prog.underlying f2.type=some (.int .i64))(B:prog.cellsOf f0.type=1)(C:prog.cellsOf f1.type=1)(D:prog.cellsOf f2.type=1)(M:prog.cellsOf e=3) :
 ∀i,i<n->∃a b c:Int,W.cell? (xD g (i*3))=some (xI a)/\W.cell? (xD g (i*3+1))=some (xI b)/\W.cell? (xD g (i*3+2))=some (xI c)/\o[i]?=some (.agg [.lit (.int .i64 a),.lit (.int .i64 b),.lit (.int .i64 c)]):=by
 obtain⟨ps,L,_,u⟩:=h;obtain⟨g',t',cs,z,p,w,E,F,G,e5⟩:=r0 L Q;obtain rfl:=Option.some.inj (N.symm.trans w);obtain rfl:=Option.some.inj (T.symm.trans E);obtain⟨A,m,_,X,ar,aA,s⟩:=DataW.trod_array U G;intro i O;have d:=s i O;rw[M] at d;obtain⟨x,q⟩:∃x,A[i]?=some x:=⟨_,av (by omega)⟩;rw[q] at d;have r:o=A.map (·.1):=by have:=congrArg Prod.fst X;simpa using this
 obtain⟨aL,aV,a0,m2,rfl,R,t0,t1,t2⟩:=Deep.trod_struct3 S d;rw[H,B] at t0;rw[I,C] at t1;rw[J,D] at t2;obtain⟨a,Y,rfl,_⟩:=DataW.trod_int u0 t0;obtain⟨b,Z,rfl,_⟩:=DataW.trod_int u1 t1;obtain⟨c,q2,rfl,_⟩:=DataW.trod_int u2 t2;have f:∀j v,j<3->(((cs.toList.drop (i*3)).take 3).drop j).take 1=[v]->W.cell? (xD g (i*3+j))=some v:=by
  intro j v P V;rw[World.var?_cell w F (i*3+j)];have:=congrArg (λl=>l[0]?) V;simp only[List.getElem?_take,List.getElem?_drop] at this;have K:cs.toList[i*3+j]?=some v:=by simpa [P] using this
  simpa using K
 refine⟨a,b,c,by simpa using f 0 _ (by decide) Y,f 1 _ (by decide) Z,f 2 _ (by decide) q2,?_⟩;rw[r,List.getElem?_map,q];rfl
end
end Go.Proofs.YtcnelakggnfnhaaGreatDoor
