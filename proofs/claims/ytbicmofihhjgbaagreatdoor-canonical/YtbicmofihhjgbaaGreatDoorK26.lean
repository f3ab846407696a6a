/- Canonical holds: for every input the law returns true, and what was handed in reads behind the call as it read before; the package-level variables hold at the beginning what the program's own text lays into them (the card ties that). -/
import Derived.JoinedOf
import Derived.LaidMore
import Derived.SevenTiedAt
import Derived.Stop.Joined
import Derived.Test.YtbicmofihhjgbaaGreatDoorCards
import Derived.Test.YtbicmofihhjgbaaGreatDoorTie
import Derived.Test.YtbicmofihhjgbaaGreatDoorK25
set_option maxRecDepth 100000
set_option maxHeartbeats 8000000
namespace Go.Proofs.YtbicmofihhjgbaaGreatDoor
open Go.Proofs.Tryz
section
open Go.ChangeShapes Go.WideShapes Go.ChangeAt Go.RowKit
variable {W:Xw}
def zmy:List (String×DataW Unit):=[("cadence/tree.words",Rows.laid_cadence_tree_words),("math/bits.deBruijn32tab",Rows.laid_math_bits_deBruijn32tab),("math/bits.deBruijn64tab",Rows.laid_math_bits_deBruijn64tab),("internal/strconv.uint64pow10",Rows.laid_internal_strconv_uint64pow10),("strconv.ErrRange",Rows.laid_strconv_ErrRange),("strconv.ErrSyntax",Rows.laid_strconv_ErrSyntax),("cadence/fault.Long",Rows.laid_cadence_fault_Long),("cadence/fault.Syntax",Rows.laid_cadence_fault_Syntax),("cadence/fault.Deep",Rows.laid_cadence_fault_Deep),("cadence/fault.Name",Rows.laid_cadence_fault_Name),("cadence/fault.Type",Rows.laid_cadence_fault_Type),("cadence/fault.Clock",Rows.laid_cadence_fault_Clock),("cadence/fault.Define",Rows.laid_cadence_fault_Define),("cadence/fault.Cause",Rows.laid_cadence_fault_Cause),("cadence/fault.Limit",Rows.laid_cadence_fault_Limit),("cadence/fault.Image",Rows.laid_cadence_fault_Image)]
theorem zig (h:laidMetH prog Rows.canonicalRow.laid W):laidMet prog zmy W:=by have h':laidMet prog zmy W/\handlesMet prog [("errors.errorType",Rows.laid_errors_errorType)] W:=h;exact h'.1
theorem Tryz.gLong:prog.globalNamed "cadence/fault.Long"=some 0:=by kernel_rfl
theorem Tryz.tLong:(prog.globals[0]?).map (·.type)=some 53:=by kernel_rfl
theorem Tryz.gSyntax:prog.globalNamed "cadence/fault.Syntax"=some 8:=by kernel_rfl
theorem Tryz.tSyntax:(prog.globals[8]?).map (·.type)=some 53:=by kernel_rfl
theorem Tryz.gDeep:prog.globalNamed "cadence/fault.Deep"=some 9:=by kernel_rfl
theorem Tryz.tDeep:(prog.globals[9]?).map (·.type)=some 53:=by kernel_rfl
theorem Tryz.gName:prog.globalNamed "cadence/fault.Name"=some 1:=by kernel_rfl
theorem Tryz.tName:(prog.globals[1]?).map (·.type)=some 53:=by kernel_rfl
theorem Tryz.gType:prog.globalNamed "cadence/fault.Type"=some 2:=by kernel_rfl
theorem Tryz.tType:(prog.globals[2]?).map (·.type)=some 53:=by kernel_rfl
theorem Tryz.gClock:prog.globalNamed "cadence/fault.Clock"=some 3:=by kernel_rfl
theorem Tryz.tClock:(prog.globals[3]?).map (·.type)=some 53:=by kernel_rfl
theorem Tryz.gDefine:prog.globalNamed "cadence/fault.Define"=some 4:=by kernel_rfl
theorem Tryz.tDefine:(prog.globals[4]?).map (·.type)=some 53:=by kernel_rfl
theorem Tryz.gCause:prog.globalNamed "cadence/fault.Cause"=some 5:=by kernel_rfl
theorem Tryz.tCause:(prog.globals[5]?).map (·.type)=some 53:=by kernel_rfl
theorem Tryz.gLimit:prog.globalNamed "cadence/fault.Limit"=some 6:=by kernel_rfl
theorem Tryz.tLimit:(prog.globals[6]?).map (·.type)=some 53:=by kernel_rfl
theorem Tryz.gImage:prog.globalNamed "cadence/fault.Image"=some 10:=by kernel_rfl
theorem Tryz.tImage:(prog.globals[10]?).map (·.type)=some 53:=by kernel_rfl
theorem Tryz.gInput:prog.globalNamed "strconv.ErrSyntax"=some 16:=by kernel_rfl
theorem Tryz.tInput:(prog.globals[16]?).map (·.type)=some 53:=by kernel_rfl
theorem Tryz.gErrRange:prog.globalNamed "strconv.ErrRange"=some 17:=by kernel_rfl
theorem Tryz.tErrRange:(prog.globals[17]?).map (·.type)=some 53:=by kernel_rfl
theorem Tryz.gWords:prog.globalNamed "cadence/tree.words"=some 14:=by kernel_rfl
theorem Tryz.tWords:(prog.globals[14]?).map (·.type)=some 307:=by kernel_rfl
theorem Tryz.cWords:prog.cellsOf 307=24:=by kernel_rfl
theorem zm4:∀(i:Nat) (s:Xb),zcY[i]?=some s->(match (Rows.laid_cadence_tree_words:DataW Unit) with|.agg ds=>ds[i]?=(some (DataW.lit (.string s.data.toList)):Option (DataW Unit))|_=>False):=by
 intro i s h;have hi:=(zMJ.1 h).1;have:zcY.length=24:=rfl;have hi':i<24:=by omega
 have:i=0∨i=1∨i=2∨i=3∨i=4∨i=5∨i=6∨i=7∨i=8∨i=9∨i=10∨i=11∨i=12∨i=13∨i=14∨i=15∨i=16∨i=17∨i=18∨i=19∨i=20∨i=21∨i=22∨i=23:=by omega
 rcases this with rfl|rfl|rfl|rfl|rfl|rfl|rfl|rfl|rfl|rfl|rfl|rfl|rfl|rfl|rfl|rfl|rfl|rfl|rfl|rfl|rfl|rfl|rfl|rfl <;> (cases h;rfl)
theorem zGN (h0:laidMetH prog Rows.canonicalRow.laid W)(hz:21<=W.heap.size):∃S,Gl S W:=by
 have h:=zig h0;obtain⟨a1,e1⟩:=zcl h (k:=6) rfl Tryz.gLong Tryz.tLong;obtain⟨a2,e2⟩:=zcl h (k:=7) rfl Tryz.gSyntax Tryz.tSyntax;obtain⟨a3,e3⟩:=zcl h (k:=8) rfl Tryz.gDeep Tryz.tDeep;obtain⟨a4,e4⟩:=zcl h (k:=9) rfl Tryz.gName Tryz.tName;obtain⟨a5,e5⟩:=zcl h (k:=10) rfl Tryz.gType Tryz.tType;obtain⟨a6,e6⟩:=zcl h (k:=11) rfl Tryz.gClock Tryz.tClock;obtain⟨a7,e7⟩:=zcl h (k:=12) rfl Tryz.gDefine Tryz.tDefine;obtain⟨a8,e8⟩:=zcl h (k:=13) rfl Tryz.gCause Tryz.tCause;obtain⟨a9,e9⟩:=zcl h (k:=14) rfl Tryz.gLimit Tryz.tLimit;obtain⟨a10,e10⟩:=zcl h (k:=15) rfl Tryz.gImage Tryz.tImage;obtain⟨a11,e11⟩:=zcl h (k:=5) rfl Tryz.gInput Tryz.tInput;obtain⟨a12,e12⟩:=zcl h (k:=4) rfl Tryz.gErrRange Tryz.tErrRange;have hw:=zjE h (k:=0) rfl Tryz.gWords Tryz.tWords underlying307 Tryz.cellsStr Tryz.cWords;refine⟨λk=>match k with|1=>a1|2=>a2|3=>a3|4=>a4|5=>a5|6=>a6|7=>a7|8=>a8|9=>a9|10=>a10|11=>a11|_=>a12,e1,e2,e3,e4,e5,e6,e7,e8,e9,e10,e11,e12,λi s hi=>?_,hz⟩;have hlt:i<24:=by have:=(zMJ.1 hi).1;have e:zcY.length=24:=rfl;omega
 obtain⟨v,f,x,q1,q2,q3⟩:=hw i hlt;obtain⟨s',r1,rfl,_⟩:=DataW.trod_string underlying9 q2;cases r1;refine q1.trans ?_;have h2:=zm4 i s hi;have h3:(some (DataW.lit (.string s'.data.toList)):Option (DataW Unit))=some (.lit (.string s.data.toList)):=q3.symm.trans h2;have h4:s'.data.toList=s.data.toList:=by
  have:=Option.some.inj h3;injection this with this
  injection this
 obtain⟨⟨d1⟩⟩:=s';obtain⟨⟨d2⟩⟩:=s;simp only at h4;rw[h4]
end
section
open Go.ChangeShapes Go.WideShapes Go.ChangeAt Go.RowKit
theorem Tryz.own:ownKnob prog.godebug=none:=by kernel_rfl
theorem Tryz.laidOut:laidOutB prog=true:=by kernel_rfl
theorem znF (os:Go.Os)(args:Xa):laidMetH prog Rows.canonicalRow.laid ((World.doorLaid prog 314 os).forCall (λ_ _=>0) ⟨#[],args,[]⟩).memory :=
 laidMetH_of_parts (laidMet_of_run' 8 (by kernel_rfl) (by kernel_rfl)) (by kernel_rfl)
theorem Tryz.gTab:prog.globalNamed "math/bits.deBruijn64tab"=some 20:=by kernel_rfl
theorem Tryz.tTab:(prog.globals[20]?).map (·.type)=some 338:=by kernel_rfl
theorem Tryz.cTab:prog.cellsOf 338=64:=by kernel_rfl
theorem Tryz.cellsU8:prog.cellsOf 5=1:=by kernel_rfl
theorem zp6 {W:Xw}(h0:laidMetH prog Rows.canonicalRow.laid W):21<=W.heap.size:=by obtain⟨v,_,_,h1,_⟩:=zjE (zig h0) (k:=2) rfl Tryz.gTab Tryz.tTab underlying338 Tryz.cellsU8 Tryz.cTab 0 (by decide);exact World.block_lt_of_cell? W (xD 20 0) h1
end
section
theorem Tryz.mapsR:(mapsRowed prog)=true:=by kernel_rfl
theorem Tryz.heard:(prog.stopsHeard)=true:=by kernel_rfl
theorem Tryz.enter:(prog.mayEnter)=true:=by kernel_rfl
abbrev rCq:=Rows.canonicalRow
abbrev sCq:=Rows.canonicalSpec
theorem zSY:((rCq.lifted==prog.liftsFinal))=true:=by kernel_rfl
theorem zTh:((prog.make==some rCq.make))=true:=by kernel_rfl
theorem zTj:((rCq.plainKeys==prog.plainKeys))=true:=by kernel_rfl
theorem jc9:((rCq.inPlace==prog.inPlace 3))=true:=by kernel_rfl
theorem zS6:((rCq.unfollowed==prog.unfollowed 3))=true:=by kernel_rfl
theorem zS3:((rCq.recurses==prog.recurses 3))=true:=by kernel_rfl
theorem zTf:((rCq.named==prog.varsNamed 3))=true:=by kernel_rfl
theorem jc0:(rCq.wf (OpenSpec.ofChange sCq))=true:=by kernel_rfl
theorem jc3:(Tryz.f3.params.all (prog.readableRec ·))=true:=by kernel_rfl
theorem jc4:(namedTie prog rCq.named sCq.vars)=true:=by kernel_rfl
theorem jc5:((rCq.stops==[]))=true:=by kernel_rfl
theorem jc6:((prog.stops==[]))=true:=by kernel_rfl
theorem jc7:((rCq.knobs==[]))=true:=by kernel_rfl
theorem jc8:((prog.stopKnobs==[]))=true:=by kernel_rfl
theorem zS2:((rCq.maps==(Tryz.f3.params.toList++sCq.plain.varTypes prog).any (prog.mapsRec ·)))=true:=by kernel_rfl
theorem zS5:((rCq.ifaces==(Tryz.f3.params.toList++sCq.plain.varTypes prog).any (prog.ifacesRec ·)))=true:=by kernel_rfl
theorem zTb:((rCq.mapsOut==prog.mapsAmong Tryz.f3.resultTypes.toList))=true:=by kernel_rfl
theorem zTd:((rCq.loops==(Tryz.f3.params.toList++sCq.plain.varTypes prog).any (prog.loopsFrom ·)))=true:=by kernel_rfl
theorem zSX:((rCq.wideKeys==(Tryz.f3.params.toList++sCq.plain.varTypes prog++Tryz.f3.resultTypes.toList).any (prog.wideKeysFrom ·)))=true:=by kernel_rfl
theorem zS0:(sCq.vars.all (prog.varReadable ·))=true:=by kernel_rfl
theorem zTe:(Tryz.f3.resultTypes.all (λt=>prog.readableRec t&&decide (t<prog.types.size)))=true:=by kernel_rfl
theorem zTi:((rCq.ifacesOut==Tryz.f3.resultTypes.toList.any (prog.ifacesRec ·)))=true:=by kernel_rfl
theorem zS9:((rCq.loopsOut==Tryz.f3.resultTypes.toList.any (prog.loopsFrom ·)))=true:=by kernel_rfl
theorem zTg:(rCq.shortTexts.isNone)=true:=by kernel_rfl
theorem zS1:((rCq.kinds==(if rCq.domain.isEmpty then [] else Tryz.f3.params.toList.map λt=>match prog.underlying t with|some (.int k)=>some k|_=>none)))=true:=by kernel_rfl
theorem zSZ:((rCq.pinned==rCq.pinnedBy))=true:=by kernel_rfl
theorem zS7:((rCq.veiled==(Tryz.f3.params.toList++sCq.plain.varTypes prog++Tryz.f3.resultTypes.toList).any (prog.veiledRec ·)))=true:=by kernel_rfl
theorem zS8:(rCq.veiledFits prog Tryz.f3.params.toList (Tryz.f3.params.toList++sCq.plain.varTypes prog++Tryz.f3.resultTypes.toList))=true:=by kernel_rfl
end
section
open Go.ChangeShapes Go.WideShapes Go.ChangeAt Go.RowKit
variable {W:Xw}
def zvO:Nat->List UInt8
 | 1=>[109,111,114,101,32,98,121,116,101,115,32,116,104,97,110,32,97,32,112,114,111,103,114,97,109,32,109,97,121,32,104,97,118,101]
 | 2=>[110,111,32,112,114,111,103,114,97,109]
 | 3=>[109,111,114,101,32,116,104,105,110,103,115,32,111,112,101,110,32,105,110,32,111,110,101,32,97,110,111,116,104,101,114,32,116,104,97,110,32,109,97,121,32,98,101]
 | 4=>[97,32,110,97,109,101,32,116,104,97,116,32,109,101,97,110,115,32,110,111,116,104,105,110,103,32,104,101,114,101,44,32,111,114,32,116,111,111,32,109,117,99,104]
 | 5=>[97,110,32,111,112,101,114,97,110,100,32,111,102,32,97,110,111,116,104,101,114,32,116,121,112,101,32,116,104,97,110,32,105,116,32,109,117,115,116,32,104,97,118,101]
 | 6=>[115,111,109,101,116,104,105,110,103,32,116,104,97,116,32,105,115,32,110,111,116,32,116,104,101,114,101,32,119,104,101,110,32,105,116,32,105,115,32,110,101,101,100,101,100]
 | 7=>[97,32,118,97,114,105,97,98,108,101,32,116,104,97,116,32,105,115,32,110,111,116,32,100,101,102,105,110,101,100,32,106,117,115,116,32,111,110,99,101]
 | 8=>[97,32,118,97,114,105,97,98,108,101,32,116,104,97,116,32,104,97,110,103,115,32,111,110,32,105,116,115,101,108,102]
 | 9=>[109,111,114,101,32,109,101,109,111,114,121,32,116,104,97,110,32,116,104,101,114,101,32,109,97,121,32,98,101]
 | 10=>[110,111,32,105,109,97,103,101]
 | _=>[105,110,118,97,108,105,100,32,115,121,110,116,97,120]
theorem zxf:((List.range 12).all λi=>(List.range 12).all λj=>i==0||j==0||i==j||zvO i != zvO j)=true:=by decide +kernel
theorem zwP {P:Program}{w:Xw}:∀{l:List (String×DataW Unit)} {ps:List MemPlace},DataW.LaidVars P w l ps->∀{k:Nat} {n:String} {d:DataW Unit},l[k]?=some (n,d)->∃g t cs fuel p,P.globalNamed n=some g/\(P.globals[g]?).map (·.type)=some t/\w.var? P n=some cs/\DataW.trod (λ_=>()) P w 0 (λ_=>true) false fuel t cs.toList=some (d,p)/\(∀x∈MemPlace.row (xD g 0) cs.size,x∈ps)/\∀x∈p,x∈ps:=by
 intro l;induction l with
 | nil=>intro ps _ k n d hk;simp at hk
 | cons x l ih =>
   obtain⟨n0,d0⟩:=x;rintro ps ⟨g,t,cs,fuel,p,q,h1,h2,h3,h4,h5,h6⟩ k n d hk;cases k with
   | zero => simp at hk;obtain⟨rfl,rfl⟩:=hk;exact⟨g,t,cs,fuel,p,h1,h2,h3,h4,λx hx=>by rw[h6];simp[hx],λx hx=>by rw[h6];simp[hx]⟩
   | succ k => obtain⟨g',t',cs',fuel',p',e1,e2,e3,e4,e5,e6⟩:=ih h5 (k:=k) (by simpa using hk);exact⟨g',t',cs',fuel',p',e1,e2,e3,e4,λx hx=>by rw[h6];simp[e5 x hx],λx hx=>by rw[h6];simp[e6 x hx]⟩
theorem zva {l:List (String×DataW Unit)}(h:laidMet prog l W){k g:Nat}{n:String}{text:Xu}(hk:l[k]?=some (n,.iface "*errors.errorString" (.ptr (.agg [.lit (.string text)]))))(hg:prog.globalNamed n=some g)(ht:(prog.globals[g]?).map (·.type)=some 53) :
 ∃a s c t,W.cell? (xD g 0)=some (.iface 324 (.pointer (some a)))/\W.cell? a=some (.string s)/\s.data.toList=text/\W.heap[a.block]?=some (.cells c t (0,0)):=by
 obtain⟨ps,hL,_,hrows⟩:=h;obtain⟨g',t,cs,fuel,p,e1,e2,e3,e4,e5,e6⟩:=zwP hL hk;obtain rfl:=Option.some.inj (hg.symm.trans e1);obtain rfl:=Option.some.inj (ht.symm.trans e2);obtain⟨l0⟩:=cs;have ok:∀u v,l0=[.iface u v]->Value.okWide prog W .any 0 u v:=λu v e=>by subst e;exact (hrows g 0 (e5 _ (by simp[MemPlace.row]))).2 u v (by simpa using World.var?_cell e1 e3 0)
 obtain⟨a,s,rfl,hc,hs,_,hp⟩:=errorString_of_trod underlying53 Tryz.rowErr underlying324 underlying326 rfl rfl underlying9 Tryz.cellsErr Tryz.cellsStr e4 ok;obtain⟨c,t,hb⟩:=(hrows a.block a.off (e6 _ (by simp[MemPlace.row,hp]))).1;exact⟨a,s,c,t,by simpa using World.var?_cell e1 e3 0,hc,hs,hb⟩
theorem Tryz.rowE:((List.range prog.types.size).all λu=>!prog.rowNamed u [101,114,114,111,114]||u==53)=true:=by decide +kernel
theorem zxt (h0:laidMetH prog Rows.canonicalRow.laid W):ErT W:=by
 have h':laidMet prog zmy W/\handlesMet prog [("errors.errorType",Rows.laid_errors_errorType)] W:=h0;have h2:=h'.2 _ (zMZ.2 rfl);have h3:∃name u ty,(Rows.laid_errors_errorType:DataW Unit).handleName?=some name/\(prog.cutTypes.find? (·.1== "internal/reflectlite.rtype")).map (·.2)=some u/\ty<prog.types.size/\prog.rowNamed ty name=true/\W.var? prog "errors.errorType"=some #[.iface u (.agg #[typeHandle prog ty])]:=h2;obtain⟨name,u,ty,e1,e2,e3,e4,e5⟩:=h3;obtain rfl:[101,114,114,111,114]=name:=Option.some.inj (show some [101,114,114,111,114]=some name from e1);obtain rfl:245=u:=Option.some.inj (show some 245=some u from Eq.trans (by kernel_rfl) e2);have h4:=List.all_eq_true.1 Tryz.rowE ty (List.mem_range.2 e3);rw[e4] at h4;obtain rfl:ty=53:=by simpa using h4
 have h5:typeHandle prog 53=.pointer (some ⟨21,53,none⟩):=by kernel_rfl
 rw[h5] at e5;have h6:prog.globalNamed "errors.errorType"=some 7:=by kernel_rfl
 have:=World.var?_cell h6 e5 0;simpa [ErT] using this
theorem zxr {S:Xs}(hG:Gl S W)(h0:laidMetH prog Rows.canonicalRow.laid W):SnK S W W.heap.size:=by
 have h:=zig h0;have key:∀i,1<=i->i<=11->∃s c t,W.cell? (S i)=some (.string s)/\s.data.toList=zvO i/\W.heap[(S i).block]?=some (.cells c t (0,0)):=by
  have fin:∀{g i:Nat} {text:Xu},W.cell? (xD g 0)=some (sen S i)->(∃a s c t,W.cell? (xD g 0)=some (.iface 324 (.pointer (some a)))/\W.cell? a=some (.string s)/\s.data.toList=text/\W.heap[a.block]?=some (.cells c t (0,0)))->∃s c t,W.cell? (S i)=some (.string s)/\s.data.toList=text/\W.heap[(S i).block]?=some (.cells c t (0,0)):=by
   rintro g i text e ⟨a,s,c,t,e',h1,h2,h3⟩;have:sen S i=.iface 324 (.pointer (some a)):=Option.some.inj (e.symm.trans e');unfold sen at this;injection this with _ this
   injection this with this
   injection this with this
   subst this;exact⟨s,c,t,h1,h2,h3⟩
  intro i i1 i2;have:i=1∨i=2∨i=3∨i=4∨i=5∨i=6∨i=7∨i=8∨i=9∨i=10∨i=11:=by omega
  rcases this with rfl|rfl|rfl|rfl|rfl|rfl|rfl|rfl|rfl|rfl|rfl
  . exact fin hG.long (zva h (k:=6) rfl Tryz.gLong Tryz.tLong)
  . exact fin hG.syn (zva h (k:=7) rfl Tryz.gSyntax Tryz.tSyntax)
  . exact fin hG.deep (zva h (k:=8) rfl Tryz.gDeep Tryz.tDeep)
  . exact fin hG.name (zva h (k:=9) rfl Tryz.gName Tryz.tName)
  . exact fin hG.type (zva h (k:=10) rfl Tryz.gType Tryz.tType)
  . exact fin hG.clock (zva h (k:=11) rfl Tryz.gClock Tryz.tClock)
  . exact fin hG.define (zva h (k:=12) rfl Tryz.gDefine Tryz.tDefine)
  . exact fin hG.cause (zva h (k:=13) rfl Tryz.gCause Tryz.tCause)
  . exact fin hG.limit (zva h (k:=14) rfl Tryz.gLimit Tryz.tLimit)
  . exact fin hG.image (zva h (k:=15) rfl Tryz.gImage Tryz.tImage)
  exact fin hG.input (zva h (k:=5) rfl Tryz.gInput Tryz.tInput)
 have ne:∀i j,1<=i->i<=11->1<=j->j<=11->i≠j->zvO i≠zvO j:=by
  intro i j i1 i2 j1 j2 hij e;have h1:=List.all_eq_true.1 (List.all_eq_true.1 zxf i (List.mem_range.2 (by omega))) j (List.mem_range.2 (by omega));simp only[Bool.or_eq_true,beq_iff_eq,bne_iff_ne,ne_eq] at h1;rcases h1 with ((h1|h1)|h1)|h1
  . omega
  . omega
  . exact hij h1
  exact h1 e
 refine⟨hG.size,λi i1 i2=>?_,λi j i1 i2 j1 j2 hij e=>?_,zxt h0⟩
 . obtain⟨s,c,t,q1,q2,q3⟩:=key i i1 i2;exact⟨c,t,q3,ze q3⟩
 obtain⟨s1,c1,t1,q1,q2,q3⟩:=key i i1 i2;obtain⟨s2,c2,t2,r1,r2,r3⟩:=key j j1 j2;rw[e,r1] at q1;have:s2=s1:=by injection q1 with q1;injection q1
 subst this;exact ne i j i1 i2 j1 j2 hij (q2.symm.trans r2)
end
section
open Go.ChangeShapes Go.WideShapes Go.ChangeAt Go.RowKit
theorem Tryz.tPow:(prog.globals[18]?).map (·.type)=some 332:=by kernel_rfl
theorem Tryz.cPow:prog.cellsOf 332=20:=by kernel_rfl
theorem Tryz.cellsU64:prog.cellsOf 270=1:=by kernel_rfl
theorem zxq:(Rows.laid_internal_strconv_uint64pow10:DataW Unit)=Lib.tabData .u64 Lib.pow10Tab:=by unfold Rows.laid_internal_strconv_uint64pow10 Lib.tabData Lib.pow10Tab;rfl
theorem zxC {S:Xs}{W:Xw}(hG:Gl S W)(h0:laidMetH prog Rows.canonicalRow.laid W):Kn S W:=by refine⟨hG,?_⟩;obtain⟨ps,hL,_,_⟩:=zig h0;obtain⟨g',t,cs,fuel,p,e1,e2,e3,e4,e5⟩:=zhU hL (k:=3) (d:=Lib.tabData .u64 Lib.pow10Tab) (n:= "internal/strconv.uint64pow10") (by rw[<- zxq];rfl);obtain rfl:=Option.some.inj (Tryz.gPow.symm.trans e1);obtain rfl:=Option.some.inj (Tryz.tPow.symm.trans e2);unfold Lib.TabIs;rw[e3,<- Lib.cells_of_tab underlying332 underlying270 Tryz.cellsU64 Tryz.cPow e4]
theorem zOE (os:Go.Os)(started:os.Started)(H:Type)(enc:TypeId×Value->H) :
 ReturnsInHanded {} Tryz.checked os 3 .any (λw args=>(Rows.canonicalSpec.pre enc prog Tryz.f3 [] false w args/\laidMetH prog Rows.canonicalRow.laid w)/\sizedMet enc prog Tryz.f3 (OpenSpec.ofChange Rows.canonicalSpec) false w args)
  (Rows.canonicalSpec.post enc prog Tryz.f3 false true false false):=by
 refine returnsInHanded_of_change_and (C:=Tryz.checked) (X:=λw _=>laidMetH prog Rows.canonicalRow.laid w) (λ_ _ _ hh h=>h.of_heap hh) Tryz.own started (by kernel_rfl) func3
  (ChangeSpec.witness_shaped (enc:=enc) (C:=Tryz.checked) (os:=os) (X:=λw _=>laidMetH prog Rows.canonicalRow.laid w) false (World.doorLaid prog 314 os) #[.string ⟨#[]⟩] 8 rfl (World.shaped_of_RefB (by kernel_rfl) (by kernel_rfl)) (by kernel_rfl) (by kernel_rfl) (by kernel_rfl) (znF os _)) ?_
 intro W base args ds gs before hval0 hW _ _ hL _;have hval:∀(j:Nat) t v,Tryz.f3.params[j]?=some t->args[j]?=some v->Value.okWide prog W .any base t v:=hval0;have hW':=hW;obtain⟨p,q,hA0,hV,rfl,_,_⟩:=hW;have hA:DataW.TrodAll enc prog W 0 (λ_=>true) true Tryz.f3.params.toList args.toList ds p:=hA0;rw[params3] at hA hval;obtain⟨v0,d0,rfl,rfl,h0⟩:=trodAll_one hA;obtain⟨rfl,rfl⟩:=trodVars_none hV;obtain⟨s0,rfl⟩:=okWide_string underlying9 (hval 0 9 v0 rfl rfl);clear hA0 hval0;simp only[List.append_nil] at hW';have hlt:∀x∈p,x.block<W.heap.size:=λx hx=>by simpa using hW'.lt x (by simpa using hx)
 have hargs0:∀(W':Xw),xB W W'->DataW.Trod enc prog W' 0 (λb=>decide (b<W.heap.size)) true 9 (.string s0) d0 p :=
  λW' hn=>Below.trod Tryz.laidOut (by kernel_rfl) (of_decide_eq_true (by kernel_rfl)) h0 hn (λx hx=>hlt x hx)
 have hz:21<=W.heap.size:=zp6 hL;obtain⟨S,hG⟩:=zGN hL hz;have hsn:=zxr hG hL;refine (zO5 S W (zxC hG hL) hsn.sn hsn.ert s0).mono λe W' ⟨he,hnx⟩=>?_;subst he;refine⟨_,rfl,_,_,_,[],p,[],hW',?_,?_,rfl,hnx.frame _,λh=>by cases h⟩
 . exact trodAll_mk1 (shut_bool underlying4 true)
 exact trodAll_mk1 (hargs0 _ hnx)
theorem zae {a b:Bool}(h1:a=true)(h2:b=true):(a&&b)=true:=by rw[h1,h2];rfl
theorem zOI:joinedFacts prog 3 Tryz.f3 Rows.canonicalSpec Rows.canonicalRow=true:=by unfold joinedFacts;exact (zae (zae (zae (zae (zae (zae (zae (zae (zae (zae (zae (zae (zae (zae (zae (zae (zae (zae (zae (zae (zae (zae (zae (zae (zae (zae (zae (zae (zae (zae (zae jc0 Tryz.laidOut) Tryz.mapsR) jc3) jc4) jc5) jc6) jc7) jc8) jc9) zS6) zS3) zTf) zS2) zS5) zTb) zTd) zSX) zS0) zTe) zTi) zS9) zTj) zTg) Tryz.heard) Tryz.enter) zSY) zTh) zS1) zSZ) zS7) zS8)
theorem zO4:Tryz.f3.isInstance prog Rows.canonicalRow.origin Rows.canonicalRow.targs:=of_decide_eq_true (by kernel_rfl)
theorem zO3:Tryz.f3.isWrapper prog Rows.canonicalRow.wrapper Rows.canonicalRow.mainSum:=by unfold Func.isWrapper;first|(rw[zM2 (by decide +kernel)];kernel_rfl)|(rw[zM1 (by decide +kernel)];exact⟨rfl,rfl⟩)
theorem zNM:prog.funcNamed "cadence/cadencekeep.Canonical"=some 3:=by kernel_rfl
theorem zPm:Rows.CanonicalSaid :=
 OpenClaim.holds_of_wide (p:=Tryz.pinned) (s:=Rows.canonicalSpec) (c:=Rows.canonicalRow) 3 Tryz.f3 rfl rfl rfl rfl rfl rfl rfl ⟨rfl,rfl,rfl,rfl,rfl⟩ rfl rfl rfl rfl rfl zNM func3 zOI zO4 zO3
  (λos started H enc _=>zOE os started H enc)
theorem zPL:Rows.canonicalRow.wfByText (OpenSpec.ofChange Rows.canonicalSpec)=true:=by kernel_rfl
theorem Tryz.main:prog.mainIs=some (true,"64034a7d68e1b7ee5ccbb41cd982dfdc980dfba6fa4908a744de58c32e1e0d0d".toList):=by kernel_rfl
theorem Tryz.looked:true=prog.looks []:=by kernel_rfl
theorem Tryz.noStand:prog.wantsStandIn 9=false:=by kernel_rfl
theorem zOX:false=Rows.canonicalRow.goesBy prog:=by kernel_rfl
theorem canonical_holds:Rows.CanonicalCardSaid :=
 Claim7.holds_tied_plain_at .later [] [.data,.data,.data,.data,.handle,.sentinel,.sentinel,.sentinel,.sentinel,.sentinel,.sentinel,.sentinel,.sentinel,.sentinel,.sentinel,.sentinel,.sentinel] true (true,"64034a7d68e1b7ee5ccbb41cd982dfdc980dfba6fa4908a744de58c32e1e0d0d") true
  zPm (λ_ h=>by cases h) zPL (λ_ h=>by cases h) canonical_row_tie rfl ⟨rfl,rfl⟩ Tryz.main rfl
  (λf fn hf hfn=>by
    obtain rfl:f=3:=Option.some.inj (zNM.symm.trans hf) |>.symm;obtain rfl:fn=Tryz.f3:=(Option.some.inj (func3.symm.trans hfn)).symm;exact⟨Tryz.looked,λj t ht=>by
     rw[params3] at ht;rcases j with _|j
     . obtain rfl:9=t:=by simpa using ht
       exact Tryz.noStand
     simp at ht⟩)
  zOX
end
end Go.Proofs.YtbicmofihhjgbaaGreatDoor
