/- Compiled holds: for every input the law returns true, and what was handed in reads behind the call as it read before; the package-level variables hold at the beginning what the program's own text lays into them (the card ties that). -/
import Derived.JoinedOf
import Derived.LaidMore
import Derived.SevenTiedAt
import Derived.Stop.Joined
import Derived.Test.YtcnelakggnfnhaaGreatDoorCards
import Derived.Test.YtcnelakggnfnhaaGreatDoorTie
import Derived.Test.YtcnelakggnfnhaaGreatDoorK30
import Derived.Test.YtcnelakggnfnhaaGreatDoorK31
set_option maxRecDepth 100000
set_option maxHeartbeats 8000000
namespace Go.Proofs.YtcnelakggnfnhaaGreatDoor
open Go.Proofs.Tryz
section
open Go.ChangeShapes Go.WideShapes Go.ChangeAt Go.RowKit
variable {W:Xw}
def RX:List (String×DataW Unit):=[("cadence/tree.words",Rows.laid_cadence_tree_words),("math/bits.deBruijn32tab",Rows.laid_math_bits_deBruijn32tab),("math/bits.deBruijn64tab",Rows.laid_math_bits_deBruijn64tab),("internal/strconv.uint64pow10",Rows.laid_internal_strconv_uint64pow10),("strconv.ErrRange",Rows.laid_strconv_ErrRange),("strconv.ErrSyntax",Rows.laid_strconv_ErrSyntax),("cadence/fault.Long",Rows.laid_cadence_fault_Long),("cadence/fault.Syntax",Rows.laid_cadence_fault_Syntax),("cadence/fault.Deep",Rows.laid_cadence_fault_Deep),("cadence/fault.Name",Rows.laid_cadence_fault_Name),("cadence/fault.Type",Rows.laid_cadence_fault_Type),("cadence/fault.Clock",Rows.laid_cadence_fault_Clock),("cadence/fault.Define",Rows.laid_cadence_fault_Define),("cadence/fault.Cause",Rows.laid_cadence_fault_Cause),("cadence/fault.Limit",Rows.laid_cadence_fault_Limit),("cadence/fault.Image",Rows.laid_cadence_fault_Image),("cadence/fault.Input",Rows.laid_cadence_fault_Input),("cadence/code.shapes",Rows.laid_cadence_code_shapes),("cadence/compile.operators",Rows.laid_cadence_compile_operators)]
theorem pD (h:laidMetH prog Rows.compiledRow.laid W):laidMet prog RX W:=by have a:laidMet prog RX W/\handlesMet prog [("errors.errorType",Rows.laid_errors_errorType)] W:=h;exact a.1
theorem Tryz.sY:prog.globalNamed "cadence/fault.Long"=some 0:=by kernel_rfl
theorem Tryz.tM:(prog.globals[0]?).map (·.type)=some 39:=by kernel_rfl
theorem Tryz.s0:prog.globalNamed "cadence/fault.Syntax"=some 8:=by kernel_rfl
theorem Tryz.tO:(prog.globals[8]?).map (·.type)=some 39:=by kernel_rfl
theorem Tryz.sT:prog.globalNamed "cadence/fault.Deep"=some 9:=by kernel_rfl
theorem Tryz.tH:(prog.globals[9]?).map (·.type)=some 39:=by kernel_rfl
theorem Tryz.sZ:prog.globalNamed "cadence/fault.Name"=some 1:=by kernel_rfl
theorem Tryz.tN:(prog.globals[1]?).map (·.type)=some 39:=by kernel_rfl
theorem Tryz.s3:prog.globalNamed "cadence/fault.Type"=some 2:=by kernel_rfl
theorem Tryz.tP:(prog.globals[2]?).map (·.type)=some 39:=by kernel_rfl
theorem Tryz.sS:prog.globalNamed "cadence/fault.Clock"=some 3:=by kernel_rfl
theorem Tryz.tG:(prog.globals[3]?).map (·.type)=some 39:=by kernel_rfl
theorem Tryz.sU:prog.globalNamed "cadence/fault.Define"=some 4:=by kernel_rfl
theorem Tryz.tI:(prog.globals[4]?).map (·.type)=some 39:=by kernel_rfl
theorem Tryz.sR:prog.globalNamed "cadence/fault.Cause"=some 5:=by kernel_rfl
theorem Tryz.tF:(prog.globals[5]?).map (·.type)=some 39:=by kernel_rfl
theorem Tryz.sX:prog.globalNamed "cadence/fault.Limit"=some 6:=by kernel_rfl
theorem Tryz.tL:(prog.globals[6]?).map (·.type)=some 39:=by kernel_rfl
theorem Tryz.sV:prog.globalNamed "cadence/fault.Image"=some 10:=by kernel_rfl
theorem Tryz.tJ:(prog.globals[10]?).map (·.type)=some 39:=by kernel_rfl
theorem Tryz.sW:prog.globalNamed "cadence/fault.Input"=some 12:=by kernel_rfl
theorem Tryz.tK:(prog.globals[12]?).map (·.type)=some 39:=by kernel_rfl
theorem Tryz.AA:prog.globalNamed "strconv.ErrRange"=some 17:=by kernel_rfl
theorem Tryz.BF:(prog.globals[17]?).map (·.type)=some 39:=by kernel_rfl
theorem Tryz.AC:prog.globalNamed "cadence/tree.words"=some 14:=by kernel_rfl
theorem Tryz.BI:(prog.globals[14]?).map (·.type)=some 302:=by kernel_rfl
theorem Tryz.Al:prog.cellsOf 302=24:=by kernel_rfl
theorem Tryz.T8:prog.globalNamed "cadence/code.shapes"=some 11:=by kernel_rfl
theorem Tryz.Uy:(prog.globals[11]?).map (·.type)=some 149:=by kernel_rfl
theorem Tryz.T7:prog.globalNamed "cadence/compile.operators"=some 13:=by kernel_rfl
theorem Tryz.Ux:(prog.globals[13]?).map (·.type)=some 281:=by kernel_rfl
theorem Tryz.TZ:prog.cellsOf 281=24:=by kernel_rfl
theorem Tryz.afa:prog.cellsOf 63=1:=by kernel_rfl
theorem Tryz.afb:prog.cellsOf 148=3:=by kernel_rfl
theorem IE:∀(i:Nat) (s:Xb),gJ[i]?=some s->(match (Rows.laid_cadence_tree_words:DataW Unit) with|.agg ds=>ds[i]?=(some (DataW.lit (.string s.data.toList)):Option (DataW Unit))|_=>False):=by
 intro i s h;have b:=(aB.1 h).1;have:gJ.length=24:=rfl;have a:i<24:=by omega
 have:i=0∨i=1∨i=2∨i=3∨i=4∨i=5∨i=6∨i=7∨i=8∨i=9∨i=10∨i=11∨i=12∨i=13∨i=14∨i=15∨i=16∨i=17∨i=18∨i=19∨i=20∨i=21∨i=22∨i=23:=by omega
 rcases this with rfl|rfl|rfl|rfl|rfl|rfl|rfl|rfl|rfl|rfl|rfl|rfl|rfl|rfl|rfl|rfl|rfl|rfl|rfl|rfl|rfl|rfl|rfl|rfl <;> (cases h;rfl)
theorem D5 (K:laidMetH prog Rows.compiledRow.laid W)(O:21<=W.heap.size):∃S,Gl S W:=by
 have h:=pD K;obtain⟨p,B⟩:=ic h (k:=6) rfl Tryz.sY Tryz.tM;obtain⟨q,C⟩:=ic h (k:=7) rfl Tryz.s0 Tryz.tO;obtain⟨r,D⟩:=ic h (k:=8) rfl Tryz.sT Tryz.tH;obtain⟨t,E⟩:=ic h (k:=9) rfl Tryz.sZ Tryz.tN;obtain⟨u,F⟩:=ic h (k:=10) rfl Tryz.s3 Tryz.tP;obtain⟨w,G⟩:=ic h (k:=11) rfl Tryz.sS Tryz.tG;obtain⟨y,H⟩:=ic h (k:=12) rfl Tryz.sU Tryz.tI;obtain⟨z,I⟩:=ic h (k:=13) rfl Tryz.sR Tryz.tF;obtain⟨A,J⟩:=ic h (k:=14) rfl Tryz.sX Tryz.tL;obtain⟨a,d⟩:=ic h (k:=15) rfl Tryz.sV Tryz.tJ;obtain⟨b,g⟩:=ic h (k:=16) rfl Tryz.sW Tryz.tK;obtain⟨c,j⟩:=ic h (k:=4) rfl Tryz.AA Tryz.BF;have N:=RP h (k:=0) rfl Tryz.AC Tryz.BI underlying302 Tryz.p6 Tryz.Al;refine⟨λk=>match k with|1=>p|2=>q|3=>r|4=>t|5=>u|6=>w|7=>y|8=>z|9=>A|10=>a|11=>b|_=>c,B,C,D,E,F,G,H,I,J,d,g,j,λi s o=>?_,O⟩;have l:i<24:=by have:=(aB.1 o).1;have e:gJ.length=24:=rfl;omega
 obtain⟨v,f,x,P,Q,R⟩:=N i l;obtain⟨m,T,rfl,_⟩:=DataW.trod_string underlying9 Q;cases T;refine P.trans ?_;have L:=IE i s o;have M:(some (DataW.lit (.string m.data.toList)):Option (DataW Unit))=some (.lit (.string s.data.toList)):=R.symm.trans L;have n:m.data.toList=s.data.toList:=by
  have:=Option.some.inj M;injection this with this
  injection this
 obtain⟨⟨d1⟩⟩:=m;obtain⟨⟨d2⟩⟩:=s;simp only at n;rw[n]
end
section
open Go.ChangeShapes Go.WideShapes Go.ChangeAt Go.RowKit
theorem Tryz.own:ownKnob prog.godebug=none:=by kernel_rfl
theorem Tryz.laidOut:laidOutB prog=true:=by kernel_rfl
theorem Jl (b:Go.Os)(a:Xa):laidMetH prog Rows.compiledRow.laid ((World.doorLaid prog 314 b).forCall (λ_ _=>0) ⟨#[],a,[]⟩).memory :=
 laidMetH_of_parts (laidMet_of_run' 8 (by kernel_rfl) (by kernel_rfl)) (by kernel_rfl)
theorem Tryz.AB:prog.globalNamed "math/bits.deBruijn64tab"=some 20:=by kernel_rfl
theorem Tryz.BH:(prog.globals[20]?).map (·.type)=some 330:=by kernel_rfl
theorem Tryz.Aj:prog.cellsOf 330=64:=by kernel_rfl
theorem Tryz.Ap:prog.cellsOf 5=1:=by kernel_rfl
theorem J7 {W:Xw}(a:laidMetH prog Rows.compiledRow.laid W):21<=W.heap.size:=by obtain⟨v,_,_,b,_⟩:=RP (pD a) (k:=2) rfl Tryz.AB Tryz.BH underlying330 Tryz.Ap Tryz.Aj 0 (by decide);exact World.block_lt_of_cell? W (xD 20 0) b
end
section
theorem Tryz.Be:(mapsRowed prog)=true:=by kernel_rfl
theorem Tryz.heard:(prog.stopsHeard)=true:=by kernel_rfl
theorem Tryz.enter:(prog.mayEnter)=true:=by kernel_rfl
abbrev aab:=Rows.compiledRow
abbrev aaI:=Rows.compiledSpec
theorem ag9:((aab.lifted==prog.liftsFinal))=true:=by kernel_rfl
theorem ahc:((prog.make==some aab.make))=true:=by kernel_rfl
theorem ahf:((aab.plainKeys==prog.plainKeys))=true:=by kernel_rfl
theorem afk:((aab.inPlace==prog.inPlace 3))=true:=by kernel_rfl
theorem ag8:((aab.unfollowed==prog.unfollowed 3))=true:=by kernel_rfl
theorem ahe:((aab.recurses==prog.recurses 3))=true:=by kernel_rfl
theorem ahw:((aab.named==prog.varsNamed 3))=true:=by kernel_rfl
theorem afd:(aab.wf (OpenSpec.ofChange aaI))=true:=by kernel_rfl
theorem afe:(Tryz.f3.params.all (prog.readableRec ·))=true:=by kernel_rfl
theorem aff:(namedTie prog aab.named aaI.vars)=true:=by kernel_rfl
theorem afg:((aab.stops==[]))=true:=by kernel_rfl
theorem afh:((prog.stops==[]))=true:=by kernel_rfl
theorem afi:((aab.knobs==[]))=true:=by kernel_rfl
theorem afj:((prog.stopKnobs==[]))=true:=by kernel_rfl
theorem aha:((aab.maps==(Tryz.f3.params.toList++aaI.plain.varTypes prog).any (prog.mapsRec ·)))=true:=by kernel_rfl
theorem ahg:((aab.ifaces==(Tryz.f3.params.toList++aaI.plain.varTypes prog).any (prog.ifacesRec ·)))=true:=by kernel_rfl
theorem ahb:((aab.mapsOut==prog.mapsAmong Tryz.f3.resultTypes.toList))=true:=by kernel_rfl
theorem ag5:((aab.loops==(Tryz.f3.params.toList++aaI.plain.varTypes prog).any (prog.loopsFrom ·)))=true:=by kernel_rfl
theorem ahx:((aab.wideKeys==(Tryz.f3.params.toList++aaI.plain.varTypes prog++Tryz.f3.resultTypes.toList).any (prog.wideKeysFrom ·)))=true:=by kernel_rfl
theorem ag6:(aaI.vars.all (prog.varReadable ·))=true:=by kernel_rfl
theorem ahA:(Tryz.f3.resultTypes.all (λt=>prog.readableRec t&&decide (t<prog.types.size)))=true:=by kernel_rfl
theorem ahy:((aab.ifacesOut==Tryz.f3.resultTypes.toList.any (prog.ifacesRec ·)))=true:=by kernel_rfl
theorem ahv:((aab.loopsOut==Tryz.f3.resultTypes.toList.any (prog.loopsFrom ·)))=true:=by kernel_rfl
theorem ahu:(aab.shortTexts.isNone)=true:=by kernel_rfl
theorem ag7:((aab.kinds==(if aab.domain.isEmpty then [] else Tryz.f3.params.toList.map λt=>match prog.underlying t with|some (.int k)=>some k|_=>none)))=true:=by kernel_rfl
theorem ahB:((aab.pinned==aab.pinnedBy))=true:=by kernel_rfl
theorem ahz:((aab.veiled==(Tryz.f3.params.toList++aaI.plain.varTypes prog++Tryz.f3.resultTypes.toList).any (prog.veiledRec ·)))=true:=by kernel_rfl
theorem ahd:(aab.veiledFits prog Tryz.f3.params.toList (Tryz.f3.params.toList++aaI.plain.varTypes prog++Tryz.f3.resultTypes.toList))=true:=by kernel_rfl
end
section
open Go.ChangeShapes Go.WideShapes Go.ChangeAt Go.RowKit
variable {W:Xw}
def Qs:Nat->List UInt8
 | 1=>[109,111,114,101,32,98,121,116,101,115,32,116,104,97,110,32,97,32,112,114,111,103,114,97,109,32,109,97,121,32,104,97,118,101]
 | 2=>[110,111,32,112,114,111,103,114,97,109]
 | 3=>[109,111,114,101,32,116,104,105,110,103,115,32,111,112,101,110,32,105,110,32,111,110,101,32,97,110,111,116,104,101,114,32,116,104,97,110,32,109,97,121,32,98,101]
 | 4=>[97,32,110,97,109,101,32,116,104,97,116,32,109,101,97,110,115,32,110,111,116,104,105,110,103,32,104,101,114,101,44,32,111,114,32,116,111,111,32,109,117,99,104]
 | 5=>[97,110,32,111,112,101,114,97,110,100,32,111,102,32,97,110,111,116,104,101,114,32,116,121,112,101,32,116,104,97,110,32,105,116,32,109,117,115,116,32,104,97,118,101]
 | 6=>[115,111,109,101,116,104,105,110,103,32,116,104,97,116,32,105,115,32,110,111,116,32,116,104,101,114,101,32,119,104,101,110,32,105,116,32,105,115,32,110,101,101,100,101,100]
 | 7=>[97,32,118,97,114,105,97,98,108,101,32,116,104,97,116,32,105,115,32,110,111,116,32,100,101,102,105,110,101,100,32,106,117,115,116,32,111,110,99,101]
 | 8=>[97,32,118,97,114,105,97,98,108,101,32,116,104,97,116,32,104,97,110,103,115,32,111,110,32,105,116,115,101,108,102]
 | 9=>[109,111,114,101,32,109,101,109,111,114,121,32,116,104,97,110,32,116,104,101,114,101,32,109,97,121,32,98,101]
 | 10=>[110,111,32,105,109,97,103,101]
 | _=>[110,111,32,105,110,112,117,116,32,111,102,32,116,104,105,115,32,109,97,99,104,105,110,101]
theorem LV:((List.range 12).all λi=>(List.range 12).all λj=>i==0||j==0||i==j||Qs i != Qs j)=true:=by decide +kernel
theorem LJ {P:Program}{w:Xw}:∀{l:List (String×DataW Unit)} {f:List MemPlace},DataW.LaidVars P w l f->∀{k:Nat} {n:String} {d:DataW Unit},l[k]?=some (n,d)->∃g t cs a p,P.globalNamed n=some g/\(P.globals[g]?).map (·.type)=some t/\w.var? P n=some cs/\DataW.trod (λ_=>()) P w 0 (λ_=>true) false a t cs.toList=some (d,p)/\(∀x∈MemPlace.row (xD g 0) cs.size,x∈f)/\∀x∈p,x∈f:=by
 intro l;induction l with
 | nil=>intro f _ k n d e;simp at e
 | cons x l D =>
   obtain⟨G,d0⟩:=x;rintro f ⟨g,t,cs,a,p,q,y,z,A,B,C,h⟩ k n d e;cases k with
   | zero => simp at e;obtain⟨rfl,rfl⟩:=e;exact⟨g,t,cs,a,p,y,z,A,B,λx c=>by rw[h];simp[c],λx c=>by rw[h];simp[c]⟩
   | succ k => obtain⟨v,F,i,b,E,j,m,o,r,s,u⟩:=D C (k:=k) (by simpa using e);exact⟨v,F,i,b,E,j,m,o,r,λx c=>by rw[h];simp[s x c],λx c=>by rw[h];simp[u x c]⟩
theorem iQ {l:List (String×DataW Unit)}(h:laidMet prog l W){k g:Nat}{n:String}{d:Xu}(A:l[k]?=some (n,.iface "*errors.errorString" (.ptr (.agg [.lit (.string d)]))))(z:prog.globalNamed n=some g)(D:(prog.globals[g]?).map (·.type)=some 39) :
 ∃a s c t,W.cell? (xD g 0)=some (.iface 316 (.pointer (some a)))/\W.cell? a=some (.string s)/\s.data.toList=d/\W.heap[a.block]?=some (.cells c t (0,0)):=by
 obtain⟨H,w,_,b⟩:=h;obtain⟨G,t,cs,j,p,f,m,i,o,q,r⟩:=LJ w A;obtain rfl:=Option.some.inj (z.symm.trans f);obtain rfl:=Option.some.inj (D.symm.trans m);obtain⟨E⟩:=cs;have F:∀u v,E=[.iface u v]->Value.okWide prog W .any 0 u v:=λu v e=>by subst e;exact (b g 0 (q _ (by simp[MemPlace.row]))).2 u v (by simpa using World.var?_cell f i 0)
 obtain⟨a,s,rfl,y,C,_,B⟩:=errorString_of_trod underlying39 Tryz.tw underlying316 underlying318 rfl rfl underlying9 Tryz.sI Tryz.p6 o F;obtain⟨c,t,x⟩:=(b a.block a.off (r _ (by simp[MemPlace.row,B]))).1;exact⟨a,s,c,t,by simpa using World.var?_cell f i 0,y,C,x⟩
theorem Tryz.Bw:((List.range prog.types.size).all λu=>!prog.rowNamed u [101,114,114,111,114]||u==39)=true:=by decide +kernel
theorem LZ (j:laidMetH prog Rows.compiledRow.laid W):fw W:=by
 have i:laidMet prog RX W/\handlesMet prog [("errors.errorType",Rows.laid_errors_errorType)] W:=j;have k:=i.2 _ (cu.2 rfl);have l:∃a u b,(Rows.laid_errors_errorType:DataW Unit).handleName?=some a/\(prog.cutTypes.find? (·.1== "internal/reflectlite.rtype")).map (·.2)=some u/\b<prog.types.size/\prog.rowNamed b a=true/\W.var? prog "errors.errorType"=some #[.iface u (.agg #[typeHandle prog b])]:=k;obtain⟨a,u,b,e,f,g,h,c⟩:=l;obtain rfl:[101,114,114,111,114]=a:=Option.some.inj (show some [101,114,114,111,114]=some a from e);obtain rfl:230=u:=Option.some.inj (show some 230=some u from Eq.trans (by kernel_rfl) f);have d:=List.all_eq_true.1 Tryz.Bw b (List.mem_range.2 g);rw[h] at d;obtain rfl:b=39:=by simpa using d
 have m:typeHandle prog 39=.pointer (some ⟨21,39,none⟩):=by kernel_rfl
 rw[m] at c;have n:prog.globalNamed "errors.errorType"=some 7:=by kernel_rfl
 have:=World.var?_cell n c 0;simpa [fw] using this
theorem LY {S:Xs}(d:Gl S W)(v:laidMetH prog Rows.compiledRow.laid W):p2 S W W.heap.size:=by
 have h:=pD v;have m:∀i,1<=i->i<=11->∃s c t,W.cell? (S i)=some (.string s)/\s.data.toList=Qs i/\W.heap[(S i).block]?=some (.cells c t (0,0)):=by
  have b:∀{g i:Nat} {f:Xu},W.cell? (xD g 0)=some (aW S i)->(∃a s c t,W.cell? (xD g 0)=some (.iface 316 (.pointer (some a)))/\W.cell? a=some (.string s)/\s.data.toList=f/\W.heap[a.block]?=some (.cells c t (0,0)))->∃s c t,W.cell? (S i)=some (.string s)/\s.data.toList=f/\W.heap[(S i).block]?=some (.cells c t (0,0)):=by
   rintro g i f e ⟨a,s,c,t,x,h1,y,z⟩;have:aW S i=.iface 316 (.pointer (some a)):=Option.some.inj (e.symm.trans x);unfold aW at this;injection this with _ this
   injection this with this
   injection this with this
   subst this;exact⟨s,c,t,h1,y,z⟩
  intro i n o;have:i=1∨i=2∨i=3∨i=4∨i=5∨i=6∨i=7∨i=8∨i=9∨i=10∨i=11:=by omega
  rcases this with rfl|rfl|rfl|rfl|rfl|rfl|rfl|rfl|rfl|rfl|rfl
  . exact b d.ou (iQ h (k:=6) rfl Tryz.sY Tryz.tM)
  . exact b d.e6 (iQ h (k:=7) rfl Tryz.s0 Tryz.tO)
  . exact b d.deep (iQ h (k:=8) rfl Tryz.sT Tryz.tH)
  . exact b d.name (iQ h (k:=9) rfl Tryz.sZ Tryz.tN)
  . exact b d.type (iQ h (k:=10) rfl Tryz.s3 Tryz.tP)
  . exact b d.clock (iQ h (k:=11) rfl Tryz.sS Tryz.tG)
  . exact b d.define (iQ h (k:=12) rfl Tryz.sU Tryz.tI)
  . exact b d.kn (iQ h (k:=13) rfl Tryz.sR Tryz.tF)
  . exact b d.k3 (iQ h (k:=14) rfl Tryz.sX Tryz.tL)
  . exact b d.mS (iQ h (k:=15) rfl Tryz.sV Tryz.tJ)
  exact b d.input (iQ h (k:=16) rfl Tryz.sW Tryz.tK)
 have A:∀i j,1<=i->i<=11->1<=j->j<=11->i≠j->Qs i≠Qs j:=by
  intro i j n o q r l e;have h1:=List.all_eq_true.1 (List.all_eq_true.1 LV i (List.mem_range.2 (by omega))) j (List.mem_range.2 (by omega));simp only[Bool.or_eq_true,beq_iff_eq,bne_iff_ne,ne_eq] at h1;rcases h1 with ((h1|h1)|h1)|h1
  . omega
  . omega
  . exact l h1
  exact h1 e
 refine⟨d.size,λi n o=>?_,λi j n o q r l e=>?_,LZ v⟩
 . obtain⟨s,c,t,p,w,u⟩:=m i n o;exact⟨c,t,u,ze u⟩
 obtain⟨D,F,t1,p,w,u⟩:=m i n o;obtain⟨E,G,t2,B,C,H⟩:=m j q r;rw[e,B] at p;have:E=D:=by injection p with p;injection p
 subst this;exact A i j n o q r l (w.symm.trans C)
end
section
open Go.ChangeShapes Go.WideShapes Go.ChangeAt Go.RowKit
theorem Tryz.BG:(prog.globals[18]?).map (·.type)=some 324:=by kernel_rfl
theorem Tryz.Ai:prog.cellsOf 324=20:=by kernel_rfl
theorem Tryz.Ao:prog.cellsOf 244=1:=by kernel_rfl
theorem LX:(Rows.laid_internal_strconv_uint64pow10:DataW Unit)=Lib.tabData .u64 Lib.pow10Tab:=by unfold Rows.laid_internal_strconv_uint64pow10 Lib.tabData Lib.pow10Tab;rfl
theorem LR {S:Xs}{W:Xw}(h:Gl S W)(g:laidMetH prog Rows.compiledRow.laid W):Kn S W:=by refine⟨h,?_⟩;obtain⟨m,i,_,_⟩:=pD g;obtain⟨l,t,cs,a,p,b,c,e,f,j⟩:=r0 i (k:=3) (d:=Lib.tabData .u64 Lib.pow10Tab) (n:= "internal/strconv.uint64pow10") (by rw[<- LX];rfl);obtain rfl:=Option.some.inj (Tryz.Qz.symm.trans b);obtain rfl:=Option.some.inj (Tryz.BG.symm.trans c);unfold Lib.TabIs;rw[e,<- Lib.cells_of_tab underlying324 underlying244 Tryz.Ao Tryz.Ai f]
theorem W3 {W:Xw}(q:laidMetH prog Rows.compiledRow.laid W)(w:21<=W.heap.size):(∃S,Gl S W)/\M9 W/\Nq W:=by
 have h:=pD q;have r:=RP h (k:=18) rfl Tryz.T7 Tryz.Ux underlying281 Tryz.afa Tryz.TZ;have t:=Xq h (k:=17) rfl Tryz.T8 Tryz.Uy underlying149 underlying148 rfl rfl rfl (by kernel_rfl) (by kernel_rfl) (by kernel_rfl) (by kernel_rfl) (by kernel_rfl) (by kernel_rfl) Tryz.afb;refine⟨D5 q w,λk B C=>?_,?_⟩
 . obtain⟨v,f,x,g,i,j⟩:=r k (by omega);obtain⟨D,A,rfl,_⟩:=DataW.trod_int underlying63 i;cases A;refine g.trans ?_;have:k=5∨k=10∨k=11∨k=12∨k=13∨k=14∨k=15∨k=16∨k=17∨k=18∨k=19∨k=20∨k=21∨k=22∨k=23:=by omega
   rcases this with rfl|rfl|rfl|rfl|rfl|rfl|rfl|rfl|rfl|rfl|rfl|rfl|rfl|rfl|rfl <;> (have m:=Option.some.inj j;injection m with m;injection m with _ n;subst n;rfl)
 have l:∀k s,zY[k]?=some s->∃a b c:Int,W.cell? (xD 11 (k*3))=some (xI a)/\W.cell? (xD 11 (k*3+1))=some (xI b)/\W.cell? (xD 11 (k*3+2))=some (xI c)/\a=(s.1:Nat)/\b=(s.2.1:Nat)/\c=(s.2.2:Nat):=by
  intro k s e;have u:=PM e;obtain⟨a,b,c,g,i,j,m⟩:=t k (by omega);refine⟨a,b,c,g,i,j,?_⟩;clear g i j t r;have:k=0∨k=1∨k=2∨k=3∨k=4∨k=5∨k=6∨k=7∨k=8∨k=9∨k=10∨k=11∨k=12∨k=13∨k=14∨k=15∨k=16∨k=17∨k=18∨k=19∨k=20:=by omega
  rcases this with rfl|rfl|rfl|rfl|rfl|rfl|rfl|rfl|rfl|rfl|rfl|rfl|rfl|rfl|rfl|rfl|rfl|rfl|rfl|rfl|rfl <;> (cases e;have n:=Option.some.inj m;injection n with n;injection n with o y;injection y with p z;injection z with d _;injection o with o;injection o with _ o;injection p with p;injection p with _ p;injection d with d;injection d with _ d;subst o p d;exact⟨rfl,rfl,rfl⟩)
 refine⟨λk s e=>?_,λk s e=>?_,λk s e=>?_⟩
 . obtain⟨a,b,c,g,i,j,rfl,rfl,rfl⟩:=l k s e;exact g
 . obtain⟨a,b,c,g,i,j,rfl,rfl,rfl⟩:=l k s e;exact i
 obtain⟨a,b,c,g,i,j,rfl,rfl,rfl⟩:=l k s e;exact j
theorem ag0 (l:Go.Os)(f:l.Started)(H:Type)(c:TypeId×Value->H) :
 ReturnsInHanded {} Tryz.checked l 3 .any (λw a=>(Rows.compiledSpec.pre c prog Tryz.f3 [] false w a/\laidMetH prog Rows.compiledRow.laid w)/\sizedMet c prog Tryz.f3 (OpenSpec.ofChange Rows.compiledSpec) false w a)
  (Rows.compiledSpec.post c prog Tryz.f3 false true false false):=by
 refine returnsInHanded_of_change_and (C:=Tryz.checked) (X:=λw _=>laidMetH prog Rows.compiledRow.laid w) (λ_ _ _ N h=>h.of_heap N) Tryz.own f (by kernel_rfl) func3
  (ChangeSpec.witness_shaped (enc:=c) (C:=Tryz.checked) (os:=l) (X:=λw _=>laidMetH prog Rows.compiledRow.laid w) false (World.doorLaid prog 314 l) #[.string ⟨#[]⟩] 8 rfl (World.shaped_of_RefB (by kernel_rfl) (by kernel_rfl)) (by kernel_rfl) (by kernel_rfl) (by kernel_rfl) (Jl l _)) ?_
 intro W m a I R u d F _ _ y _;have i:∀(j:Nat) t v,Tryz.f3.params[j]?=some t->a[j]?=some v->Value.okWide prog W .any m t v:=d;have k:=F;obtain⟨p,q,n,L,rfl,_,_⟩:=F;have D:DataW.TrodAll c prog W 0 (λ_=>true) true Tryz.f3.params.toList a.toList I p:=n;rw[params3] at D i;obtain⟨Q,d0,rfl,rfl,J⟩:=trodAll_one D;obtain⟨rfl,rfl⟩:=trodVars_none L;obtain⟨G,rfl⟩:=okWide_string underlying9 (i 0 9 Q rfl rfl);clear n d;simp only[List.append_nil] at k;have z:∀x∈p,x.block<W.heap.size:=λx B=>by simpa using k.lt x (by simpa using B)
 have g:∀(s:Xw),xB W s->DataW.Trod c prog s 0 (λb=>decide (b<W.heap.size)) true 9 (.string G) d0 p :=
  λs O=>Below.trod Tryz.laidOut (by kernel_rfl) (of_decide_eq_true (by kernel_rfl)) J O (λx B=>z x B)
 have P:21<=W.heap.size:=J7 y;obtain⟨⟨S,E⟩,A,K⟩:=W3 y P;have r:=LY E y;refine (agU S W (LR E y) r.sn r.Ay A K G).mono λe s ⟨M,o⟩=>?_;subst M;refine⟨_,rfl,_,_,_,[],p,[],k,?_,?_,rfl,o.frame _,λh=>by cases h⟩
 . exact trodAll_mk1 (shut_bool underlying4 true)
 exact trodAll_mk1 (g _ o)
theorem cV {a b:Bool}(c:a=true)(d:b=true):(a&&b)=true:=by rw[c,d];rfl
theorem ag2:joinedFacts prog 3 Tryz.f3 Rows.compiledSpec Rows.compiledRow=true:=by unfold joinedFacts;exact (cV (cV (cV (cV (cV (cV (cV (cV (cV (cV (cV (cV (cV (cV (cV (cV (cV (cV (cV (cV (cV (cV (cV (cV (cV (cV (cV (cV (cV (cV (cV afd Tryz.laidOut) Tryz.Be) afe) aff) afg) afh) afi) afj) afk) ag8) ahe) ahw) aha) ahg) ahb) ag5) ahx) ag6) ahA) ahy) ahv) ahf) ahu) Tryz.heard) Tryz.enter) ag9) ahc) ag7) ahB) ahz) ahd)
theorem agV:Tryz.f3.isInstance prog Rows.compiledRow.origin Rows.compiledRow.targs:=of_decide_eq_true (by kernel_rfl)
theorem agX:Tryz.f3.isWrapper prog Rows.compiledRow.wrapper Rows.compiledRow.mainSum:=by unfold Func.isWrapper;first|(rw[ag (by decide +kernel)];kernel_rfl)|(rw[ae (by decide +kernel)];exact⟨rfl,rfl⟩)
theorem aeY:prog.funcNamed "cadence/cadencekeep.Compiled"=some 3:=by kernel_rfl
theorem agY:Rows.CompiledSaid :=
 OpenClaim.holds_of_wide (p:=Tryz.pinned) (s:=Rows.compiledSpec) (c:=Rows.compiledRow) 3 Tryz.f3 rfl rfl rfl rfl rfl rfl rfl ⟨rfl,rfl,rfl,rfl,rfl⟩ rfl rfl rfl rfl rfl aeY func3 ag2 agV agX
  (λd a H b _=>ag0 d a H b)
theorem agZ:Rows.compiledRow.wfByText (OpenSpec.ofChange Rows.compiledSpec)=true:=by kernel_rfl
theorem Tryz.main:prog.mainIs=some (true,"2bf6389a8d69441dbbaef9eb1aecaf49f3a314df5757aee97fd78f18758dd955".toList):=by kernel_rfl
theorem Tryz.looked:true=prog.looks []:=by kernel_rfl
theorem Tryz.Bp:prog.wantsStandIn 9=false:=by kernel_rfl
theorem agW:false=Rows.compiledRow.goesBy prog:=by kernel_rfl
theorem compiled_holds:Rows.CompiledCardSaid :=
 Claim7.holds_tied_plain_at .later [] [.data,.data,.data,.data,.handle,.sentinel,.sentinel,.sentinel,.sentinel,.sentinel,.sentinel,.sentinel,.sentinel,.sentinel,.sentinel,.sentinel,.sentinel,.sentinel,.data,.data] true (true,"2bf6389a8d69441dbbaef9eb1aecaf49f3a314df5757aee97fd78f18758dd955") true
  agY (λ_ h=>by cases h) agZ (λ_ h=>by cases h) compiled_row_tie rfl ⟨rfl,rfl⟩ Tryz.main rfl
  (λf fn c a=>by
    obtain rfl:f=3:=Option.some.inj (aeY.symm.trans c) |>.symm;obtain rfl:fn=Tryz.f3:=(Option.some.inj (func3.symm.trans a)).symm;exact⟨Tryz.looked,λj t b=>by
     rw[params3] at b;rcases j with _|j
     . obtain rfl:9=t:=by simpa using b
       exact Tryz.Bp
     simp at b⟩)
  agW
end
end Go.Proofs.YtcnelakggnfnhaaGreatDoor
