/- Part 48 of the proof: LwB LwC LdA LdB LdE JfA PnD PnE LdP LdC LdK PnL. -/
import Derived.Deep.Slices
import Derived.Deep.Strs
import Derived.JoinedOf
import Derived.LaidHandle
import Derived.LaidLaws
import Derived.LaidMore
import Derived.OpenShut
import Derived.ProofKit
import Derived.Stop.Joined
import Derived.Test.YtmfkofhgdjechaaGreatDoorRows
import Derived.Test.YtmfkofhgdjechaaGreatDoorK46
set_option maxRecDepth 100000
set_option maxHeartbeats 8000000
namespace Go.Proofs.YtmfkofhgdjechaaGreatDoor
open Go.Proofs.Tryz
section
open Go.RowKit
theorem zFp (wb:Nat)(w:World)(hc:xC w wb 1 (.slice none 0 0)) :
 xK 10 #[xP wb] w (λe w'=>e=.returned (.bool true)/\xB w w'):=by
 go_enter func10,ntmps10;go_wp2_with fail;go_loopg [3] 1 (λj i wr=>j=1/\i=xI 0/\wr=w);case atStart=>exact⟨rfl,rfl,rfl⟩
 case round => obtain⟨rfl,rfl,rfl⟩:=hrel;go_wp2_with fail;go_ret;exact⟨rfl,Below.refl _ _⟩
structure OpV where
 kd:Int
 n:Int
 s:ByteArray
 a:Option Addr
 len:Nat
 cap:Nat
def zAO (w:World)(N:Nat)(v:Value)(l:List OpV):Prop :=
 ∃a c,v=.slice a l.length c/\l.length<=9223372036854775807/\(l≠[]->∃g o,a=some (xD g o)/\g<N/\∀j x,l[j]?=some x->w.cell? (xD g (o+j*4))=some (xI x.kd)/\w.cell? (xD g (o+j*4+1))=some (xI x.n)/\w.cell? (xD g (o+j*4+2))=some (.string x.s)/\w.cell? (xD g (o+j*4+3))=some (.slice x.a x.len x.cap))
def zGx (k:Int)(w:World):Prop:=∀(W:World) (wb:Nat) (n:Int) (s:ByteArray) (a:Option Addr) (len cap:Nat),xB w W->xK 9 #[xP wb,.agg #[xI k,xI n,.string s,.slice a len cap]] W (λe w'=>e=.returned (.bool true)/\xB W w')
theorem zGi (k:Int)(hk:k<3)(w:World)(HS:Hid (zGx k w))(v:Value)(l:List OpV)(hO:zAO w w.heap.size v l) :
 xK 6 #[v,xI k,xI k] w (λe w'=>e=.returned (xI (-1))/\xB w w'):=by
 obtain⟨a,c,rfl,hl63,hO⟩:=hO;have HO:=za hO;clear hO;obtain⟨L,hL⟩:∃L,l.length=L:=⟨_,rfl⟩;have HL:=za hL;rw[hL] at hl63 ⊢;clear hL;obtain⟨z,hz⟩:∃z,z=w.heap.size:=⟨_,rfl⟩;go_enter func6,ntmps6;go_wp2_with fail;go_loopg [8] (L+1) (λj i wr=>∃m:Nat,m+j=L+1/\m<=L/\i=xI m/\Hid (xB w wr)/\w.heap.size<wr.heap.size/\xC wr w.heap.size 1 (.slice none 0 0));case atStart=>exact⟨0,by omega,Nat.zero_le _,rfl,(Below.refl _ _).alloc (Nat.le_refl _) _,by simp,(zp (zc w _)).2.1⟩
 case round =>
  obtain⟨m,hmj,hmL,rfl,HB,hz1,hw1⟩:=hrel;by_cases hlt:m<L
  . obtain⟨x,hx⟩:∃x,l[m]?=some x:=⟨_,zsc (by have:=HL.o;omega)⟩;obtain⟨g,o,rfl,hg,hcs⟩:=HO.o (λe=>by subst e;simp at hx);obtain⟨c0,c1,c2,c3⟩:=hcs m x hx;have c0:=zd HB.o c0 hg;have c1:=zd HB.o c1 hg;have c2:=zd HB.o c2 hg;have c3:=zd HB.o c3 hg;clear hcs HO hx HL;obtain⟨xk,xn,xs,xa,xl,xc⟩:=x;simp only at c0 c1 c2 c3;have hg':g<wr.heap.size:=by omega
    by_cases h1:k<=xk
    . by_cases h2:xk<=k
      . have e:xk=k:=(by omega);subst e;have HBa:=za (HB.o.alloc HB.o.size (.cells #[xI xk,xI xn,.string xs,.slice xa xl xc] 38));go_wp2_with (go_at_call 9;refine (HS.o _ _ _ _ _ _ _ HBa.o).mono ?_);rintro e w1 rfl hB1;have HB1:=za (HBa.o.trans (hB1.mono (Nat.le_trans HB.o.size (by simp))));have hw2:xC w1 w.heap.size 1 (.slice none 0 0):=zd hB1 (zj _ hw1) (Nat.lt_of_lt_of_le hz1 (by simp));have hz2:w.heap.size<w1.heap.size:=(by have:=hB1.size;simp at this;omega);clear hB1 HBa c0 c1 c2 c3 hg hg' hw1 hz1 HB;go_wp2_with (go_at_call 10;refine (zFp _ w1 hw2).mono ?_);rintro e w2 ⟨rfl,hB2⟩;have HB2:=za (HB1.o.trans (hB2.mono HB1.o.size));have hw3:xC w2 w.heap.size 1 (.slice none 0 0):=zd hB2 hw2 hz2;have hz3:w.heap.size<w2.heap.size:=(by have:=hB2.size;omega);clear hB2 HB1 hw2 hz2;go_wp2_with fail;go_roundg (gk-1);case measure=>omega
        exact⟨m+1,by omega,by omega,by go_num,HB2,hz3,hw3⟩
      . have HBa:=za (HB.o.alloc HB.o.size (.cells #[xI xk,xI xn,.string xs,.slice xa xl xc] 38));have hwa:=zj (.cells #[xI xk,xI xn,.string xs,.slice xa xl xc] 38) hw1;by_cases h3:xk<3
        . go_wp2_with fail;go_roundg (gk-1);case measure=>omega
          exact⟨m+1,by omega,by omega,by go_num,HBa,by simp;omega,hwa⟩
        . go_wp2_with fail;go_roundg (gk-1);case measure=>omega
          exact⟨m+1,by omega,by omega,by go_num,HBa,by simp;omega,hwa⟩
    . have HBa:=za (HB.o.alloc HB.o.size (.cells #[xI xk,xI xn,.string xs,.slice xa xl xc] 38));have hwa:=zj (.cells #[xI xk,xI xn,.string xs,.slice xa xl xc] 38) hw1;have h3:xk<3:=(by omega);go_wp2_with fail;go_roundg (gk-1);case measure=>omega
      exact⟨m+1,by omega,by omega,by go_num,HBa,by simp;omega,hwa⟩
  . go_wp2_with fail;go_ret;exact⟨rfl,HB.o⟩
theorem zAO.bl {w W:World}{v:Value}{l:List OpV}(h:zAO w w.heap.size v l)(hB:xB w W):zAO W W.heap.size v l:=by obtain⟨a,c,rfl,h1,h2⟩:=h;refine⟨a,c,rfl,h1,λhl=>?_⟩;obtain⟨g,o,rfl,hg,hc⟩:=h2 hl;refine⟨g,o,rfl,Nat.lt_of_lt_of_le hg hB.size,λj x hj=>?_⟩;obtain⟨c0,c1,c2,c3⟩:=hc j x hj;exact⟨zd hB c0 hg,zd hB c1 hg,zd hB c2 hg,zd hB c3 hg⟩
theorem zCV (S:Nat->Addr)(w:World)(hK:Kn S w)(hE:Sn S w)(hT:ErT w)(v:Value)(l:List OpV)(hO:zAO w w.heap.size v l) :
 xK 4 #[v] w (λe w'=>e=.returned (.bool true)/\xB w w'):=by
 have HR:=za (zEP S w hK hE hT);have HU:=za (λW (hb:xB w W)=>zGi 2 (by decide) W (λW' wb n s a len cap hb'=>zFf S wb n s a len cap W' ((hK.bl hb).bl hb') ((hE.bl hb).bl hb') ((hT.bl hb).bl hb')) v l (hO.bl hb));obtain⟨a,c,rfl,_,_⟩:=hO;obtain⟨L,hL⟩:∃L,l.length=L:=⟨_,rfl⟩;rw[hL] at HU ⊢;clear hK hE hT hL;go_enter func4,ntmps4
 go_wp2_with (first
  | (go_at_call 6;refine (HU.o _ HB1.o).mono ?_;rintro e w2 ⟨rfl,hb⟩;have HB2:=za (HB1.o.trans (hb.mono HB1.o.size)))
  | (go_at_call 5;refine HR.o.mono ?_;rintro e w1 ⟨rfl,hb⟩;have HB1:=za hb))
 go_ret;exact⟨rfl,HB2.o⟩
end
section
open Go.ChangeShapes Go.WideShapes Go.ChangeAt Go.RowKit
variable {l:List (String×DataW Unit)} {g k:Nat} {W:World}
theorem zhU {P:Program}{w:World}:∀{l:List (String×DataW Unit)} {ps:List MemPlace},DataW.LaidVars P w l ps->∀{k:Nat} {n:String} {d:DataW Unit},l[k]?=some (n,d)->∃g t cs fuel p,P.globalNamed n=some g/\(P.globals[g]?).map (·.type)=some t/\w.var? P n=some cs/\DataW.trod (λ_=>()) P w 0 (λ_=>true) false fuel t cs.toList=some (d,p)/\∀x∈MemPlace.row (xD g 0) cs.size,x∈ps:=by
 intro l;induction l with
 | nil=>intro ps _ k n d hk;simp at hk
 | cons x l ih =>
   obtain⟨n0,d0⟩:=x;rintro ps ⟨g,t,cs,fuel,p,q,h1,h2,h3,h4,h5,h6⟩ k n d hk;cases k with
   | zero => simp at hk;obtain⟨rfl,rfl⟩:=hk;exact⟨g,t,cs,fuel,p,h1,h2,h3,h4,λx hx=>by rw[h6];simp[hx]⟩
   | succ k => obtain⟨g',t',cs',fuel',p',e1,e2,e3,e4,e5⟩:=ih h5 (k:=k) (by simpa using hk);exact⟨g',t',cs',fuel',p',e1,e2,e3,e4,λx hx=>by rw[h6];simp[e5 x hx]⟩
theorem Tryz.star: "*"++ "errors.errorString"= "*errors.errorString":=by decide
theorem Tryz.rowErr (u:TypeId)(h:prog.typeName? 3 u=some "*errors.errorString"):u=399 :=
 typeName_ptr_named (nm:= "errors.errorString") (by rw[Tryz.star];kernel_rfl) (by kernel_rfl) (by decide) u (by rw[Tryz.star];exact h)
theorem Tryz.cellsErr:prog.cellsOf 401=1:=by kernel_rfl
theorem Tryz.cellsStr:prog.cellsOf 9=1:=by kernel_rfl
theorem zcl (h:laidMet prog l W){n:String}{text:List UInt8}(hk:l[k]?=some (n,.iface "*errors.errorString" (.ptr (.agg [.lit (.string text)]))))(hg:prog.globalNamed n=some g)(ht:(prog.globals[g]?).map (·.type)=some 42) :
 ∃a,W.cell? (xD g 0)=some (.iface 399 (.pointer (some a))):=by
 obtain⟨ps,hL,_,hrows⟩:=h;obtain⟨g',t,cs,fuel,p,e1,e2,e3,e4,e5⟩:=zhU hL hk;obtain rfl:=Option.some.inj (hg.symm.trans e1);obtain rfl:=Option.some.inj (ht.symm.trans e2);obtain⟨l0⟩:=cs;have ok:∀u v,l0=[.iface u v]->Value.okWide prog W .any 0 u v:=λu v e=>by subst e;exact (hrows g 0 (e5 _ (by simp[MemPlace.row]))).2 u v (by simpa using World.var?_cell e1 e3 0)
 obtain⟨a,s,rfl,_⟩:=errorString_of_trod underlying42 Tryz.rowErr underlying399 underlying401 rfl rfl underlying9 Tryz.cellsErr Tryz.cellsStr e4 ok;exact⟨a,by simpa using World.var?_cell e1 e3 0⟩
theorem zjE (h:laidMet prog l W){n:Nat}{t e:TypeId}{nm:String}{ds:List (DataW Unit)}(hk:l[k]?=some (nm,.agg ds))(hg:prog.globalNamed nm=some g)(ht:(prog.globals[g]?).map (·.type)=some t)(hu:prog.underlying t=some (.array n e))(hc:prog.cellsOf e=1)(hct:prog.cellsOf t=n) :
 ∀i,i<n->∃v f x,W.cell? (xD g i)=some v/\DataW.trod (λ_=>()) prog W 0 (λ_=>true) false f e [v]=some x/\ds[i]?=some x.1:=by
 obtain⟨ps,hL,_,hrows⟩:=h;obtain⟨g',t',cs,fuel,p,e1,e2,e3,e4,e5⟩:=zhU hL hk;obtain rfl:=Option.some.inj (hg.symm.trans e1);obtain rfl:=Option.some.inj (ht.symm.trans e2);obtain⟨xs,m,_,hx,hl,hn,hel⟩:=DataW.trod_array hu e4;intro i hi;have h1:=hel i hi;rw[hc] at h1;obtain⟨x,hx1⟩:∃x,xs[i]?=some x:=⟨_,zsc (by omega)⟩;rw[hx1] at h1;have hds:ds=xs.map (·.1):=by have:=congrArg Prod.fst hx;simpa using this
 simp only[Nat.mul_one] at h1;rcases hd:cs.toList.drop i with _|⟨v,r⟩
 . have:=List.drop_eq_nil_iff.1 hd;rw[hct] at hl;omega
 . rw[hd] at h1;refine⟨v,m,x,?_,by simpa using h1,by rw[hds,List.getElem?_map,hx1];rfl⟩;have hv:cs[i]?=some v:=by
    have:cs.toList[i]?=some v:=by have:=congrArg (λl=>l[0]?) hd;simpa [List.getElem?_drop] using this
    simpa using this
   rw[World.var?_cell e1 e3 i];exact hv
end
section
open Go.ChangeShapes Go.WideShapes Go.ChangeAt Go.RowKit
variable {W:World}
def zmy:List (String×DataW Unit):=[("cadence/tree.words",Rows.laid_cadence_tree_words),("math/bits.deBruijn32tab",Rows.laid_math_bits_deBruijn32tab),("math/bits.deBruijn64tab",Rows.laid_math_bits_deBruijn64tab),("internal/strconv.uint64pow10",Rows.laid_internal_strconv_uint64pow10),("strconv.ErrRange",Rows.laid_strconv_ErrRange),("strconv.ErrSyntax",Rows.laid_strconv_ErrSyntax),("cadence/fault.Long",Rows.laid_cadence_fault_Long),("cadence/fault.Syntax",Rows.laid_cadence_fault_Syntax),("cadence/fault.Deep",Rows.laid_cadence_fault_Deep),("cadence/fault.Name",Rows.laid_cadence_fault_Name),("cadence/fault.Type",Rows.laid_cadence_fault_Type),("cadence/fault.Clock",Rows.laid_cadence_fault_Clock),("cadence/fault.Define",Rows.laid_cadence_fault_Define),("cadence/fault.Cause",Rows.laid_cadence_fault_Cause),("cadence/fault.Limit",Rows.laid_cadence_fault_Limit),("cadence/fault.Image",Rows.laid_cadence_fault_Image),("cadence/fault.Input",Rows.laid_cadence_fault_Input),("cadence/code.shapes",Rows.laid_cadence_code_shapes),("cadence/compile.operators",Rows.laid_cadence_compile_operators)]
theorem zig (h:laidMetH prog Rows.printsRow.laid W):laidMet prog zmy W:=by have h':laidMet prog zmy W/\handlesMet prog [("errors.errorType",Rows.laid_errors_errorType)] W:=h;exact h'.1
theorem Tryz.gLong:prog.globalNamed "cadence/fault.Long"=some 0:=by kernel_rfl
theorem Tryz.tLong:(prog.globals[0]?).map (·.type)=some 42:=by kernel_rfl
theorem Tryz.gSyntax:prog.globalNamed "cadence/fault.Syntax"=some 8:=by kernel_rfl
theorem Tryz.tSyntax:(prog.globals[8]?).map (·.type)=some 42:=by kernel_rfl
theorem Tryz.gDeep:prog.globalNamed "cadence/fault.Deep"=some 9:=by kernel_rfl
theorem Tryz.tDeep:(prog.globals[9]?).map (·.type)=some 42:=by kernel_rfl
theorem Tryz.gName:prog.globalNamed "cadence/fault.Name"=some 1:=by kernel_rfl
theorem Tryz.tName:(prog.globals[1]?).map (·.type)=some 42:=by kernel_rfl
theorem Tryz.gType:prog.globalNamed "cadence/fault.Type"=some 2:=by kernel_rfl
theorem Tryz.tType:(prog.globals[2]?).map (·.type)=some 42:=by kernel_rfl
theorem Tryz.gClock:prog.globalNamed "cadence/fault.Clock"=some 3:=by kernel_rfl
theorem Tryz.tClock:(prog.globals[3]?).map (·.type)=some 42:=by kernel_rfl
theorem Tryz.gDefine:prog.globalNamed "cadence/fault.Define"=some 4:=by kernel_rfl
theorem Tryz.tDefine:(prog.globals[4]?).map (·.type)=some 42:=by kernel_rfl
theorem Tryz.gCause:prog.globalNamed "cadence/fault.Cause"=some 5:=by kernel_rfl
theorem Tryz.tCause:(prog.globals[5]?).map (·.type)=some 42:=by kernel_rfl
theorem Tryz.gLimit:prog.globalNamed "cadence/fault.Limit"=some 6:=by kernel_rfl
theorem Tryz.tLimit:(prog.globals[6]?).map (·.type)=some 42:=by kernel_rfl
theorem Tryz.gImage:prog.globalNamed "cadence/fault.Image"=some 10:=by kernel_rfl
theorem Tryz.tImage:(prog.globals[10]?).map (·.type)=some 42:=by kernel_rfl
theorem Tryz.gInput:prog.globalNamed "cadence/fault.Input"=some 12:=by kernel_rfl
theorem Tryz.tInput:(prog.globals[12]?).map (·.type)=some 42:=by kernel_rfl
theorem Tryz.gErrRange:prog.globalNamed "strconv.ErrRange"=some 16:=by kernel_rfl
theorem Tryz.tErrRange:(prog.globals[16]?).map (·.type)=some 42:=by kernel_rfl
theorem Tryz.gWords:prog.globalNamed "cadence/tree.words"=some 13:=by kernel_rfl
theorem Tryz.tWords:(prog.globals[13]?).map (·.type)=some 377:=by kernel_rfl
theorem Tryz.cWords:prog.cellsOf 377=24:=by kernel_rfl
theorem zm4:∀(i:Nat) (s:ByteArray),zcY[i]?=some s->(match (Rows.laid_cadence_tree_words:DataW Unit) with|.agg ds=>ds[i]?=(some (DataW.lit (.string s.data.toList)):Option (DataW Unit))|_=>False):=by
 intro i s h;have hi:=(List.getElem?_eq_some_iff.1 h).1;have:zcY.length=24:=rfl;have hi':i<24:=by omega
 have:i=0∨i=1∨i=2∨i=3∨i=4∨i=5∨i=6∨i=7∨i=8∨i=9∨i=10∨i=11∨i=12∨i=13∨i=14∨i=15∨i=16∨i=17∨i=18∨i=19∨i=20∨i=21∨i=22∨i=23:=by omega
 rcases this with rfl|rfl|rfl|rfl|rfl|rfl|rfl|rfl|rfl|rfl|rfl|rfl|rfl|rfl|rfl|rfl|rfl|rfl|rfl|rfl|rfl|rfl|rfl|rfl <;> (cases h;rfl)
theorem zGN (h0:laidMetH prog Rows.printsRow.laid W)(hz:21<=W.heap.size):∃S,Gl S W:=by
 have h:=zig h0;obtain⟨a1,e1⟩:=zcl h (k:=6) rfl Tryz.gLong Tryz.tLong;obtain⟨a2,e2⟩:=zcl h (k:=7) rfl Tryz.gSyntax Tryz.tSyntax;obtain⟨a3,e3⟩:=zcl h (k:=8) rfl Tryz.gDeep Tryz.tDeep;obtain⟨a4,e4⟩:=zcl h (k:=9) rfl Tryz.gName Tryz.tName;obtain⟨a5,e5⟩:=zcl h (k:=10) rfl Tryz.gType Tryz.tType;obtain⟨a6,e6⟩:=zcl h (k:=11) rfl Tryz.gClock Tryz.tClock;obtain⟨a7,e7⟩:=zcl h (k:=12) rfl Tryz.gDefine Tryz.tDefine;obtain⟨a8,e8⟩:=zcl h (k:=13) rfl Tryz.gCause Tryz.tCause;obtain⟨a9,e9⟩:=zcl h (k:=14) rfl Tryz.gLimit Tryz.tLimit;obtain⟨a10,e10⟩:=zcl h (k:=15) rfl Tryz.gImage Tryz.tImage;obtain⟨a11,e11⟩:=zcl h (k:=16) rfl Tryz.gInput Tryz.tInput;obtain⟨a12,e12⟩:=zcl h (k:=4) rfl Tryz.gErrRange Tryz.tErrRange;have hw:=zjE h (k:=0) rfl Tryz.gWords Tryz.tWords underlying377 Tryz.cellsStr Tryz.cWords;refine⟨λk=>match k with|1=>a1|2=>a2|3=>a3|4=>a4|5=>a5|6=>a6|7=>a7|8=>a8|9=>a9|10=>a10|11=>a11|_=>a12,e1,e2,e3,e4,e5,e6,e7,e8,e9,e10,e11,e12,λi s hi=>?_,hz⟩;have hlt:i<24:=by have:=(List.getElem?_eq_some_iff.1 hi).1;have e:zcY.length=24:=rfl;omega
 obtain⟨v,f,x,q1,q2,q3⟩:=hw i hlt;obtain⟨s',r1,rfl,_⟩:=DataW.trod_string underlying9 q2;cases r1;refine q1.trans ?_;have h2:=zm4 i s hi;have h3:(some (DataW.lit (.string s'.data.toList)):Option (DataW Unit))=some (.lit (.string s.data.toList)):=q3.symm.trans h2;have h4:s'.data.toList=s.data.toList:=by
  have:=Option.some.inj h3;injection this with this
  injection this
 obtain⟨⟨d1⟩⟩:=s';obtain⟨⟨d2⟩⟩:=s;simp only at h4;rw[h4]
end
section
open Go.ChangeShapes Go.WideShapes Go.ChangeAt Go.RowKit
theorem Tryz.own:ownKnob prog.godebug=none:=by kernel_rfl
theorem Tryz.laidOut:laidOutB prog=true:=by kernel_rfl
theorem znF (os:Go.Os)(args:Array Value):laidMetH prog Rows.printsRow.laid ((World.doorLaid prog 314 os).forCall (λ_ _=>0) ⟨#[],args,[]⟩).memory :=
 laidMetH_of_parts (laidMet_of_run' 8 (by kernel_rfl) (by kernel_rfl)) (by kernel_rfl)
theorem Tryz.gTab:prog.globalNamed "math/bits.deBruijn64tab"=some 20:=by kernel_rfl
theorem Tryz.tTab:(prog.globals[20]?).map (·.type)=some 417:=by kernel_rfl
theorem Tryz.cTab:prog.cellsOf 417=64:=by kernel_rfl
theorem Tryz.cellsU8:prog.cellsOf 5=1:=by kernel_rfl
theorem zp6 {W:World}(h0:laidMetH prog Rows.printsRow.laid W):21<=W.heap.size:=by obtain⟨v,_,_,h1,_⟩:=zjE (zig h0) (k:=2) rfl Tryz.gTab Tryz.tTab underlying417 Tryz.cellsU8 Tryz.cTab 0 (by decide);exact World.block_lt_of_cell? W (xD 20 0) h1
end
section
theorem Tryz.mapsR:(mapsRowed prog)=true:=by kernel_rfl
theorem Tryz.heard:(prog.stopsHeard)=true:=by kernel_rfl
theorem Tryz.enter:(prog.mayEnter)=true:=by kernel_rfl
abbrev rPn:=Rows.printsRow
abbrev sPn:=Rows.printsSpec
theorem zHi:((rPn.lifted==prog.liftsFinal))=true:=by kernel_rfl
theorem zG6:((prog.make==some rPn.make))=true:=by kernel_rfl
theorem zG7:((rPn.plainKeys==prog.plainKeys))=true:=by kernel_rfl
theorem jp9:((rPn.inPlace==prog.inPlace 4))=true:=by kernel_rfl
theorem zHb:((rPn.unfollowed==prog.unfollowed 4))=true:=by kernel_rfl
theorem zG4:((rPn.recurses==prog.recurses 4))=true:=by kernel_rfl
theorem zGW:((rPn.named==prog.varsNamed 4))=true:=by kernel_rfl
theorem jp0:(rPn.wf (OpenSpec.ofChange sPn))=true:=by kernel_rfl
theorem jp3:(Tryz.f4.params.all (prog.readableRec ·))=true:=by kernel_rfl
theorem jp4:(namedTie prog rPn.named sPn.vars)=true:=by kernel_rfl
theorem jp5:((rPn.stops==[]))=true:=by kernel_rfl
theorem jp6:((prog.stops==[]))=true:=by kernel_rfl
theorem jp7:((rPn.knobs==[]))=true:=by kernel_rfl
theorem jp8:((prog.stopKnobs==[]))=true:=by kernel_rfl
theorem zGX:((rPn.maps==(Tryz.f4.params.toList++sPn.plain.varTypes prog).any (prog.mapsRec ·)))=true:=by kernel_rfl
theorem zHd:((rPn.ifaces==(Tryz.f4.params.toList++sPn.plain.varTypes prog).any (prog.ifacesRec ·)))=true:=by kernel_rfl
theorem zHj:((rPn.mapsOut==prog.mapsAmong Tryz.f4.resultTypes.toList))=true:=by kernel_rfl
theorem zG5:((rPn.loops==(Tryz.f4.params.toList++sPn.plain.varTypes prog).any (prog.loopsFrom ·)))=true:=by kernel_rfl
theorem zHl:((rPn.wideKeys==(Tryz.f4.params.toList++sPn.plain.varTypes prog++Tryz.f4.resultTypes.toList).any (prog.wideKeysFrom ·)))=true:=by kernel_rfl
theorem zHk:(sPn.vars.all (prog.varReadable ·))=true:=by kernel_rfl
theorem zHe:(Tryz.f4.resultTypes.all (λt=>prog.readableRec t&&decide (t<prog.types.size)))=true:=by kernel_rfl
theorem zG1:((rPn.ifacesOut==Tryz.f4.resultTypes.toList.any (prog.ifacesRec ·)))=true:=by kernel_rfl
theorem zG3:((rPn.loopsOut==Tryz.f4.resultTypes.toList.any (prog.loopsFrom ·)))=true:=by kernel_rfl
theorem zHf:(rPn.shortTexts.isNone)=true:=by kernel_rfl
theorem zGY:((rPn.kinds==(if rPn.domain.isEmpty then [] else Tryz.f4.params.toList.map λt=>match prog.underlying t with|some (.int k)=>some k|_=>none)))=true:=by kernel_rfl
theorem zG8:((rPn.pinned==rPn.pinnedBy))=true:=by kernel_rfl
theorem zHc:((rPn.veiled==(Tryz.f4.params.toList++sPn.plain.varTypes prog++Tryz.f4.resultTypes.toList).any (prog.veiledRec ·)))=true:=by kernel_rfl
theorem zHm:(rPn.veiledFits prog Tryz.f4.params.toList (Tryz.f4.params.toList++sPn.plain.varTypes prog++Tryz.f4.resultTypes.toList))=true:=by kernel_rfl
end
section
open Go.ChangeShapes Go.WideShapes Go.ChangeAt Go.RowKit
variable {held:Bool} {sp:Nat->Bool}
theorem Tryz.cellsScript:prog.cellsOf 38=4:=by kernel_rfl
theorem zGr {α:Type}{l:List α}(h:l.length=4):∃a b c d,l=[a,b,c,d]:=by
 rcases l with _|⟨a,_|⟨b,_|⟨c,_|⟨d,_|⟨e,l⟩⟩⟩⟩⟩
 . cases h
 . cases h
 . cases h
 . cases h
 . exact⟨a,b,c,d,rfl⟩
 . simp only[List.length_cons] at h;omega
theorem zFL {G:Type}{en:TypeId×Value->G}{P:Program}{w:World}{base n:Nat}{e:TypeId}{f0 f1 f2 f3:Field}{a:Addr}{cs:List Value}{y:DataW G×List MemPlace}(he:P.underlying e=some (.struct #[f0,f1,f2,f3]))
 (o0:f0.offset=0) (o1:f1.offset=1) (o2:f2.offset=2) (o3:f3.offset=3) (c0:P.cellsOf f0.type=1) (c1:P.cellsOf f1.type=1) (c2:P.cellsOf f2.type=1) (c3:P.cellsOf f3.type=1)
 (h1:w.cells? base a 4=some cs) (h2:DataW.trod en P w base sp held n e cs=some y) :
 ∃v0 v1 v2 v3 y0 y1 y2 y3 k,w.cell? a=some v0/\w.cell? (a.add 1)=some v1/\w.cell? (a.add 2)=some v2/\w.cell? (a.add 3)=some v3/\DataW.trod en P w base sp held k f0.type [v0]=some y0/\DataW.trod en P w base sp held k f1.type [v1]=some y1/\DataW.trod en P w base sp held k f2.type [v2]=some y2/\DataW.trod en P w base sp held k f3.type [v3]=some y3:=by
 obtain⟨_,hlen,hcell⟩:=World.cells?_some h1;obtain⟨xs,k,hk,hxy,_,hxl,hf⟩:=DataW.trod_struct he h2;obtain⟨v0,v1,v2,v3,rfl⟩:=zGr hlen;obtain⟨y0,y1,y2,y3,rfl⟩:=zGr (show xs.length=4 from hxl);have g0:=hf 0 f0 rfl;have g1:=hf 1 f1 rfl;have g2:=hf 2 f2 rfl;have g3:=hf 3 f3 rfl;rw[o0,c0] at g0;rw[o1,c1] at g1;rw[o2,c2] at g2;rw[o3,c3] at g3;have ha:a.add 0=a:=by simp[Addr.add]
 have e0:=hcell 0 (by omega);rw[ha] at e0;exact⟨v0,v1,v2,v3,y0,y1,y2,y3,k,e0,hcell 1 (by omega),hcell 2 (by omega),hcell 3 (by omega),g0,g1,g2,g3⟩
theorem zHo {α:Type}{p:Nat->α->Prop}:∀n:Nat,(∀i,i<n->∃x,p i x)->∃l:List α,l.length=n/\∀i x,l[i]?=some x->p i x
 | 0,_=>⟨[],rfl,λi x h=>by simp at h⟩
 | n+1,h=>by
   obtain⟨l,h1,h2⟩:=zHo n (λi hi=>h i (by omega));obtain⟨x,hx⟩:=h n (by omega);refine⟨l++[x],by simp[h1],λi y hy=>?_⟩;by_cases hi:i<l.length
   . rw[List.getElem?_append_left hi] at hy;exact h2 i y hy
   . rw[List.getElem?_append_right (by omega)] at hy;have h0:i-l.length=0:=(by have:=(List.getElem?_eq_some_iff.1 hy).1;simp at this;omega);rw[h0] at hy;cases hy;have:i=n:=(by omega);rw[this];exact hx
theorem zEi {H:Type}{enc:TypeId×Value->H}{W:World}{a:Option Addr}{len cap fuel:Nat}{x:DataW H×List MemPlace}(hf:DataW.trod enc prog W 0 sp held fuel 22 (Value.slice a len cap).cells.toList=some x)(hlt:∀p∈x.2,p.block<W.heap.size):∃l,zAO W W.heap.size (.slice a len cap) l:=by
 rcases Go.Deep.open_slice underlying22 hf with ⟨hcs,hx⟩|⟨a',len',cap',m,n,D,Pl,hcs,_,hl,hm,hmm,hx,hel⟩
 . simp[Value.cells] at hcs;obtain⟨rfl,rfl,rfl⟩:=hcs;exact⟨[],none,0,rfl,by decide,λh=>absurd rfl h⟩
 . simp[Value.cells] at hcs;obtain⟨rfl,rfl,rfl⟩:=hcs;have hml:maxLen<=9223372036854775807:=by decide
   have hlm:len<=m:=(by rw[hmm];split <;> omega);rw[Tryz.cellsScript] at hel hx;obtain⟨b,off,spot⟩:=a';have hone:∀i,i<len->∃y:OpV,spot=none/\W.cell? (xD b (off+i*4))=some (xI y.kd)/\W.cell? (xD b (off+i*4+1))=some (xI y.n)/\W.cell? (xD b (off+i*4+2))=some (.string y.s)/\W.cell? (xD b (off+i*4+3))=some (.slice y.a y.len y.cap):=by
    intro i hi;obtain⟨cs,h1,h2⟩:=hel i (by omega);obtain⟨v0,v1,v2,v3,y0,y1,y2,y3,k,e0,e1,e2,e3,g0,g1,g2,g3⟩:=zFL underlying38 rfl rfl rfl rfl (by kernel_rfl) (by kernel_rfl) (by kernel_rfl) (by kernel_rfl) h1 h2;have h00:=hel 0 (by omega);obtain⟨cs0,h01,h02⟩:=h00;obtain⟨u0,_,_,_,_,_,_,_,_,f0,_⟩:=zFL underlying38 rfl rfl rfl rfl (by kernel_rfl) (by kernel_rfl) (by kernel_rfl) (by kernel_rfl) h01 h02;have hspot:spot=none:=(by simpa [Addr.add] using World.cell?_spot f0);subst hspot;rw[add_plain] at e0;rw[add_plain,add_plain] at e1 e2 e3;obtain⟨n0,r0,_,_⟩:=DataW.trod_int underlying3 g0;obtain⟨n1,r1,_,_⟩:=DataW.trod_int underlying3 g1;obtain⟨s2,r2,_,_⟩:=DataW.trod_string underlying9 g2;cases r0;cases r1;cases r2;rcases DataW.trod_slice underlying36 g3 with ⟨r3,_⟩|⟨a3,len3,cap3,_,_,_,_,r3,_⟩
    . cases r3;exact⟨⟨n0,n1,s2,none,0,0⟩,rfl,e0,e1,e2,e3⟩
    . cases r3;exact⟨⟨n0,n1,s2,some a3,len3,cap3⟩,rfl,e0,e1,e2,e3⟩
   obtain⟨l,hl1,hl2⟩:=zHo len hone;refine⟨l,some ⟨b,off,spot⟩,cap,by rw[hl1],by rw[hl1];omega,λhne=>?_⟩;have hl0:0<l.length:=(by rcases l with _|⟨z,l⟩;exact absurd rfl hne;simp);obtain⟨z,hz⟩:∃z,l[0]?=some z:=⟨_,zsc hl0⟩;have hspot:=(hl2 0 z hz).1;subst hspot;refine⟨b,off,rfl,hlt (.cell b off) ?_,λj y hj=>(hl2 j y hj).2⟩;rw[hx];exact List.mem_append_left _ (MemPlace.mem_row.2 ⟨0,by omega,by simp⟩)
end
section
open Go.ChangeShapes Go.WideShapes Go.ChangeAt Go.RowKit
variable {W:World}
def zvO:Nat->List UInt8
 | 1=>[109,111,114,101,32,98,121,116,101,115,32,116,104,97,110,32,97,32,112,114,111,103,114,97,109,32,109,97,121,32,104,97,118,101]
 | 2=>[110,111,32,112,114,111,103,114,97,109]
 | 3=>[109,111,114,101,32,116,104,105,110,103,115,32,111,112,101,110,32,105,110,32,111,110,101,32,97,110,111,116,104,101,114,32,116,104,97,110,32,109,97,121,32,98,101]
 | 4=>[97,32,110,97,109,101,32,116,104,97,116,32,109,101,97,110,115,32,110,111,116,104,105,110,103,32,104,101,114,101,44,32,111,114,32,116,111,111,32,109,117,99,104]
 | 5=>[97,110,32,111,112,101,114,97,110,100,32,111,102,32,97,110,111,116,104,101,114,32,116,121,112,101,32,116,104,97,110,32,105,116,32,109,117,115,116,32,104,97,118,101]
 | 6=>[115,111,109,101,116,104,105,110,103,32,116,104,97,116,32,105,115,32,110,111,116,32,116,104,101,114,101,32,119,104,101,110,32,105,116,32,105,115,32,110,101,101,100,101,100]
 | 7=>[97,32,118,97,114,105,97,98,108,101,32,116,104,97,116,32,105,115,32,110,111,116,32,100,101,102,105,110,101,100,32,106,117,115,116,32,111,110,99,101]
 | 8=>[97,32,118,97,114,105,97,98,108,101,32,116,104,97,116,32,104,97,110,103,115,32,111,110,32,105,116,115,101,108,102]
 | 9=>[109,111,114,101,32,109,101,109,111,114,121,32,116,104,97,110,32,116,104,101,114,101,32,109,97,121,32,98,101]
 | 10=>[110,111,32,105,109,97,103,101]
 | _=>[110,111,32,105,110,112,117,116,32,111,102,32,116,104,105,115,32,109,97,99,104,105,110,101]
theorem zxf:((List.range 12).all λi=>(List.range 12).all λj=>i==0||j==0||i==j||zvO i != zvO j)=true:=by decide +kernel
theorem zwP {P:Program}{w:World}:∀{l:List (String×DataW Unit)} {ps:List MemPlace},DataW.LaidVars P w l ps->∀{k:Nat} {n:String} {d:DataW Unit},l[k]?=some (n,d)->∃g t cs fuel p,P.globalNamed n=some g/\(P.globals[g]?).map (·.type)=some t/\w.var? P n=some cs/\DataW.trod (λ_=>()) P w 0 (λ_=>true) false fuel t cs.toList=some (d,p)/\(∀x∈MemPlace.row (xD g 0) cs.size,x∈ps)/\∀x∈p,x∈ps:=by
 intro l;induction l with
 | nil=>intro ps _ k n d hk;simp at hk
 | cons x l ih =>
   obtain⟨n0,d0⟩:=x;rintro ps ⟨g,t,cs,fuel,p,q,h1,h2,h3,h4,h5,h6⟩ k n d hk;cases k with
   | zero => simp at hk;obtain⟨rfl,rfl⟩:=hk;exact⟨g,t,cs,fuel,p,h1,h2,h3,h4,λx hx=>by rw[h6];simp[hx],λx hx=>by rw[h6];simp[hx]⟩
   | succ k => obtain⟨g',t',cs',fuel',p',e1,e2,e3,e4,e5,e6⟩:=ih h5 (k:=k) (by simpa using hk);exact⟨g',t',cs',fuel',p',e1,e2,e3,e4,λx hx=>by rw[h6];simp[e5 x hx],λx hx=>by rw[h6];simp[e6 x hx]⟩
theorem zva {l:List (String×DataW Unit)}(h:laidMet prog l W){k g:Nat}{n:String}{text:List UInt8}(hk:l[k]?=some (n,.iface "*errors.errorString" (.ptr (.agg [.lit (.string text)]))))(hg:prog.globalNamed n=some g)(ht:(prog.globals[g]?).map (·.type)=some 42) :
 ∃a s c t,W.cell? (xD g 0)=some (.iface 399 (.pointer (some a)))/\W.cell? a=some (.string s)/\s.data.toList=text/\W.heap[a.block]?=some (.cells c t (0,0)):=by
 obtain⟨ps,hL,_,hrows⟩:=h;obtain⟨g',t,cs,fuel,p,e1,e2,e3,e4,e5,e6⟩:=zwP hL hk;obtain rfl:=Option.some.inj (hg.symm.trans e1);obtain rfl:=Option.some.inj (ht.symm.trans e2);obtain⟨l0⟩:=cs;have ok:∀u v,l0=[.iface u v]->Value.okWide prog W .any 0 u v:=λu v e=>by subst e;exact (hrows g 0 (e5 _ (by simp[MemPlace.row]))).2 u v (by simpa using World.var?_cell e1 e3 0)
 obtain⟨a,s,rfl,hc,hs,_,hp⟩:=errorString_of_trod underlying42 Tryz.rowErr underlying399 underlying401 rfl rfl underlying9 Tryz.cellsErr Tryz.cellsStr e4 ok;obtain⟨c,t,hb⟩:=(hrows a.block a.off (e6 _ (by simp[MemPlace.row,hp]))).1;exact⟨a,s,c,t,by simpa using World.var?_cell e1 e3 0,hc,hs,hb⟩
theorem Tryz.rowE:((List.range prog.types.size).all λu=>!prog.rowNamed u [101,114,114,111,114]||u==42)=true:=by decide +kernel
theorem zxt (h0:laidMetH prog Rows.printsRow.laid W):ErT W:=by
 have h':laidMet prog zmy W/\handlesMet prog [("errors.errorType",Rows.laid_errors_errorType)] W:=h0;have h2:=h'.2 _ (List.mem_singleton.2 rfl);have h3:∃name u ty,(Rows.laid_errors_errorType:DataW Unit).handleName?=some name/\(prog.cutTypes.find? (·.1== "internal/reflectlite.rtype")).map (·.2)=some u/\ty<prog.types.size/\prog.rowNamed ty name=true/\W.var? prog "errors.errorType"=some #[.iface u (.agg #[typeHandle prog ty])]:=h2;obtain⟨name,u,ty,e1,e2,e3,e4,e5⟩:=h3;obtain rfl:[101,114,114,111,114]=name:=Option.some.inj (show some [101,114,114,111,114]=some name from e1);obtain rfl:241=u:=Option.some.inj (show some 241=some u from Eq.trans (by kernel_rfl) e2);have h4:=List.all_eq_true.1 Tryz.rowE ty (List.mem_range.2 e3);rw[e4] at h4;obtain rfl:ty=42:=by simpa using h4
 have h5:typeHandle prog 42=.pointer (some ⟨21,42,none⟩):=by kernel_rfl
 rw[h5] at e5;have h6:prog.globalNamed "errors.errorType"=some 7:=by kernel_rfl
 have:=World.var?_cell h6 e5 0;simpa [ErT] using this
theorem zxr {S:Nat->Addr}(hG:Gl S W)(h0:laidMetH prog Rows.printsRow.laid W):SnK S W W.heap.size:=by
 have h:=zig h0;have key:∀i,1<=i->i<=11->∃s c t,W.cell? (S i)=some (.string s)/\s.data.toList=zvO i/\W.heap[(S i).block]?=some (.cells c t (0,0)):=by
  have fin:∀{g i:Nat} {text:List UInt8},W.cell? (xD g 0)=some (sen S i)->(∃a s c t,W.cell? (xD g 0)=some (.iface 399 (.pointer (some a)))/\W.cell? a=some (.string s)/\s.data.toList=text/\W.heap[a.block]?=some (.cells c t (0,0)))->∃s c t,W.cell? (S i)=some (.string s)/\s.data.toList=text/\W.heap[(S i).block]?=some (.cells c t (0,0)):=by
   rintro g i text e ⟨a,s,c,t,e',h1,h2,h3⟩;have:sen S i=.iface 399 (.pointer (some a)):=Option.some.inj (e.symm.trans e');unfold sen at this;injection this with _ this
   injection this with this
   injection this with this
   subst this;exact⟨s,c,t,h1,h2,h3⟩
  intro i i1 i2;have:i=1∨i=2∨i=3∨i=4∨i=5∨i=6∨i=7∨i=8∨i=9∨i=10∨i=11:=by omega
  rcases this with rfl|rfl|rfl|rfl|rfl|rfl|rfl|rfl|rfl|rfl|rfl
  . exact fin hG.long (zva h (k:=6) rfl Tryz.gLong Tryz.tLong)
  . exact fin hG.syn (zva h (k:=7) rfl Tryz.gSyntax Tryz.tSyntax)
  . exact fin hG.deep (zva h (k:=8) rfl Tryz.gDeep Tryz.tDeep)
  . exact fin hG.name (zva h (k:=9) rfl Tryz.gName Tryz.tName)
  . exact fin hG.type (zva h (k:=10) rfl Tryz.gType Tryz.tType)
  . exact fin hG.clock (zva h (k:=11) rfl Tryz.gClock Tryz.tClock)
  . exact fin hG.define (zva h (k:=12) rfl Tryz.gDefine Tryz.tDefine)
  . exact fin hG.cause (zva h (k:=13) rfl Tryz.gCause Tryz.tCause)
  . exact fin hG.limit (zva h (k:=14) rfl Tryz.gLimit Tryz.tLimit)
  . exact fin hG.image (zva h (k:=15) rfl Tryz.gImage Tryz.tImage)
  . exact fin hG.input (zva h (k:=16) rfl Tryz.gInput Tryz.tInput)
 have ne:∀i j,1<=i->i<=11->1<=j->j<=11->i≠j->zvO i≠zvO j:=by
  intro i j i1 i2 j1 j2 hij e;have h1:=List.all_eq_true.1 (List.all_eq_true.1 zxf i (List.mem_range.2 (by omega))) j (List.mem_range.2 (by omega));simp only[Bool.or_eq_true,beq_iff_eq,bne_iff_ne,ne_eq] at h1;rcases h1 with ((h1|h1)|h1)|h1
  . omega
  . omega
  . exact hij h1
  . exact h1 e
 refine⟨hG.size,λi i1 i2=>?_,λi j i1 i2 j1 j2 hij e=>?_,zxt h0⟩
 . obtain⟨s,c,t,q1,q2,q3⟩:=key i i1 i2;exact⟨c,t,q3,ze q3⟩
 . obtain⟨s1,c1,t1,q1,q2,q3⟩:=key i i1 i2;obtain⟨s2,c2,t2,r1,r2,r3⟩:=key j j1 j2;rw[e,r1] at q1;have:s2=s1:=by injection q1 with q1;injection q1
   subst this;exact ne i j i1 i2 j1 j2 hij (q2.symm.trans r2)
end
section
open Go.ChangeShapes Go.WideShapes Go.ChangeAt Go.RowKit
theorem Tryz.tPow:(prog.globals[18]?).map (·.type)=some 406:=by kernel_rfl
theorem Tryz.cPow:prog.cellsOf 406=20:=by kernel_rfl
theorem Tryz.cellsU64:prog.cellsOf 368=1:=by kernel_rfl
theorem zxq:(Rows.laid_internal_strconv_uint64pow10:DataW Unit)=Lib.tabData .u64 Lib.pow10Tab:=by unfold Rows.laid_internal_strconv_uint64pow10 Lib.tabData Lib.pow10Tab;rfl
theorem zxC {S:Nat->Addr}{W:World}(hG:Gl S W)(h0:laidMetH prog Rows.printsRow.laid W):Kn S W:=by refine⟨hG,?_⟩;obtain⟨ps,hL,_,_⟩:=zig h0;obtain⟨g',t,cs,fuel,p,e1,e2,e3,e4,e5⟩:=zhU hL (k:=3) (d:=Lib.tabData .u64 Lib.pow10Tab) (n:= "internal/strconv.uint64pow10") (by rw[<- zxq];rfl);obtain rfl:=Option.some.inj (Tryz.gPow.symm.trans e1);obtain rfl:=Option.some.inj (Tryz.tPow.symm.trans e2);unfold Lib.TabIs;rw[e3,<- Lib.cells_of_tab underlying406 underlying368 Tryz.cellsU64 Tryz.cPow e4]
theorem zB4 (os:Go.Os)(started:os.Started)(H:Type)(enc:TypeId×Value->H) :
 ReturnsInHanded {} Tryz.checked os 4 .any (λw args=>(Rows.printsSpec.pre enc prog Tryz.f4 [] false w args/\laidMetH prog Rows.printsRow.laid w)/\sizedMet enc prog Tryz.f4 (OpenSpec.ofChange Rows.printsSpec) false w args)
  (Rows.printsSpec.post enc prog Tryz.f4 false true false false):=by
 refine returnsInHanded_of_change_and (C:=Tryz.checked) (X:=λw _=>laidMetH prog Rows.printsRow.laid w) (λ_ _ _ hh h=>h.of_heap hh) Tryz.own started (by kernel_rfl) func4
  (ChangeSpec.witness_shaped (enc:=enc) (C:=Tryz.checked) (os:=os) (X:=λw _=>laidMetH prog Rows.printsRow.laid w) false (World.doorLaid prog 314 os) #[.slice none 0 0] 8 rfl (World.shaped_of_RefB (by kernel_rfl) (by kernel_rfl)) (by kernel_rfl) (by kernel_rfl) (by kernel_rfl) (znF os _)) ?_
 intro W base args ds gs before hval0 hW _ _ hL _;have hval:∀(j:Nat) t v,Tryz.f4.params[j]?=some t->args[j]?=some v->Value.okWide prog W .any base t v:=hval0;have hW':=hW;obtain⟨p,q,hA0,hV,rfl,_,_⟩:=hW;have hA:DataW.TrodAll enc prog W 0 (λ_=>true) true Tryz.f4.params.toList args.toList ds p:=hA0;rw[params4] at hA hval;obtain⟨v0,d0,rfl,rfl,h0⟩:=trodAll_one hA;obtain⟨rfl,rfl⟩:=trodVars_none hV;obtain⟨a0,len0,cap0,rfl⟩:=okWide_slice underlying22 (hval 0 22 v0 rfl rfl);clear hA0 hval0;simp only[List.append_nil] at hW';have hlt:∀x∈p,x.block<W.heap.size:=λx hx=>by simpa using hW'.lt x (by simpa using hx)
 have hargs0:∀(W':World),xB W W'->DataW.Trod enc prog W' 0 (λb=>decide (b<W.heap.size)) true 22 (.slice a0 len0 cap0) d0 p :=
  λW' hn=>Below.trod Tryz.laidOut (by kernel_rfl) (of_decide_eq_true (by kernel_rfl)) h0 hn (λx hx=>hlt x hx)
 obtain⟨f0,hf0⟩:=h0;obtain⟨l0,hA0⟩:=zEi hf0 (λx hx=>hlt x hx);have hz:21<=W.heap.size:=zp6 hL;obtain⟨S,hG⟩:=zGN hL hz;have hsn:=zxr hG hL;refine (zCV S W (zxC hG hL) hsn.sn hsn.ert _ l0 hA0).mono λe W' ⟨he,hnx⟩=>?_;subst he;refine⟨_,rfl,_,_,_,[],p,[],hW',?_,?_,rfl,hnx.frame _,λh=>by cases h⟩
 . exact trodAll_mk1 (shut_bool underlying4 true)
 . exact trodAll_mk1 (hargs0 _ hnx)
end
end Go.Proofs.YtmfkofhgdjechaaGreatDoor
