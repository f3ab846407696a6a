/- Sums holds: for every input the law returns true, and what was handed in reads behind the call as it read before; the package-level variables hold at the beginning what the program's own text lays into them (the card ties that). -/
import Derived.JoinedOf
import Derived.LaidMore
import Derived.SevenTiedAt
import Derived.Stop.Joined
import Derived.Test.YtenadialhccdiaaGreatDoorCards
import Derived.Test.YtenadialhccdiaaGreatDoorTie
import Derived.Test.YtenadialhccdiaaGreatDoorK26
import Derived.Test.YtenadialhccdiaaGreatDoorK27
set_option maxRecDepth 100000
set_option maxHeartbeats 8000000
namespace Go.Proofs.YtenadialhccdiaaGreatDoor
open Go.Proofs.Tryz
section
open Go.ChangeShapes Go.WideShapes Go.ChangeAt Go.RowKit
variable {W:Xw}
def zmy:List (String×DataW Unit):=[("cadence/tree.words",Rows.laid_cadence_tree_words),("math/bits.deBruijn32tab",Rows.laid_math_bits_deBruijn32tab),("math/bits.deBruijn64tab",Rows.laid_math_bits_deBruijn64tab),("internal/strconv.uint64pow10",Rows.laid_internal_strconv_uint64pow10),("strconv.ErrRange",Rows.laid_strconv_ErrRange),("strconv.ErrSyntax",Rows.laid_strconv_ErrSyntax),("cadence/fault.Long",Rows.laid_cadence_fault_Long),("cadence/fault.Syntax",Rows.laid_cadence_fault_Syntax),("cadence/fault.Deep",Rows.laid_cadence_fault_Deep),("cadence/fault.Name",Rows.laid_cadence_fault_Name),("cadence/fault.Type",Rows.laid_cadence_fault_Type),("cadence/fault.Clock",Rows.laid_cadence_fault_Clock),("cadence/fault.Define",Rows.laid_cadence_fault_Define),("cadence/fault.Cause",Rows.laid_cadence_fault_Cause),("cadence/fault.Limit",Rows.laid_cadence_fault_Limit),("cadence/fault.Image",Rows.laid_cadence_fault_Image),("cadence/fault.Input",Rows.laid_cadence_fault_Input),("cadence/code.shapes",Rows.laid_cadence_code_shapes),("cadence/compile.operators",Rows.laid_cadence_compile_operators)]
theorem zig (h:laidMetH prog Rows.sumsRow.laid W):laidMet prog zmy W:=by have h':laidMet prog zmy W/\handlesMet prog [("errors.errorType",Rows.laid_errors_errorType)] W:=h;exact h'.1
theorem Tryz.gLong:prog.globalNamed "cadence/fault.Long"=some 0:=by kernel_rfl
theorem Tryz.tLong:(prog.globals[0]?).map (·.type)=some 41:=by kernel_rfl
theorem Tryz.gSyntax:prog.globalNamed "cadence/fault.Syntax"=some 8:=by kernel_rfl
theorem Tryz.tSyntax:(prog.globals[8]?).map (·.type)=some 41:=by kernel_rfl
theorem Tryz.gDeep:prog.globalNamed "cadence/fault.Deep"=some 9:=by kernel_rfl
theorem Tryz.tDeep:(prog.globals[9]?).map (·.type)=some 41:=by kernel_rfl
theorem Tryz.gName:prog.globalNamed "cadence/fault.Name"=some 1:=by kernel_rfl
theorem Tryz.tName:(prog.globals[1]?).map (·.type)=some 41:=by kernel_rfl
theorem Tryz.gType:prog.globalNamed "cadence/fault.Type"=some 2:=by kernel_rfl
theorem Tryz.tType:(prog.globals[2]?).map (·.type)=some 41:=by kernel_rfl
theorem Tryz.gClock:prog.globalNamed "cadence/fault.Clock"=some 3:=by kernel_rfl
theorem Tryz.tClock:(prog.globals[3]?).map (·.type)=some 41:=by kernel_rfl
theorem Tryz.gDefine:prog.globalNamed "cadence/fault.Define"=some 4:=by kernel_rfl
theorem Tryz.tDefine:(prog.globals[4]?).map (·.type)=some 41:=by kernel_rfl
theorem Tryz.gCause:prog.globalNamed "cadence/fault.Cause"=some 5:=by kernel_rfl
theorem Tryz.tCause:(prog.globals[5]?).map (·.type)=some 41:=by kernel_rfl
theorem Tryz.gLimit:prog.globalNamed "cadence/fault.Limit"=some 6:=by kernel_rfl
theorem Tryz.tLimit:(prog.globals[6]?).map (·.type)=some 41:=by kernel_rfl
theorem Tryz.gImage:prog.globalNamed "cadence/fault.Image"=some 10:=by kernel_rfl
theorem Tryz.tImage:(prog.globals[10]?).map (·.type)=some 41:=by kernel_rfl
theorem Tryz.gInput:prog.globalNamed "cadence/fault.Input"=some 12:=by kernel_rfl
theorem Tryz.tInput:(prog.globals[12]?).map (·.type)=some 41:=by kernel_rfl
theorem Tryz.gErrRange:prog.globalNamed "strconv.ErrRange"=some 15:=by kernel_rfl
theorem Tryz.tErrRange:(prog.globals[15]?).map (·.type)=some 41:=by kernel_rfl
theorem Tryz.gWords:prog.globalNamed "cadence/tree.words"=some 17:=by kernel_rfl
theorem Tryz.tWords:(prog.globals[17]?).map (·.type)=some 303:=by kernel_rfl
theorem Tryz.cWords:prog.cellsOf 303=24:=by kernel_rfl
theorem Tryz.gShapes:prog.globalNamed "cadence/code.shapes"=some 11:=by kernel_rfl
theorem Tryz.tShapes:(prog.globals[11]?).map (·.type)=some 149:=by kernel_rfl
theorem Tryz.gOpers:prog.globalNamed "cadence/compile.operators"=some 13:=by kernel_rfl
theorem Tryz.tOpers:(prog.globals[13]?).map (·.type)=some 261:=by kernel_rfl
theorem Tryz.cOpers:prog.cellsOf 261=24:=by kernel_rfl
theorem Tryz.cellsOp:prog.cellsOf 69=1:=by kernel_rfl
theorem Tryz.cellsShape:prog.cellsOf 148=3:=by kernel_rfl
theorem zm4:∀(i:Nat) (s:Xb),zcY[i]?=some s->(match (Rows.laid_cadence_tree_words:DataW Unit) with|.agg ds=>ds[i]?=(some (DataW.lit (.string s.data.toList)):Option (DataW Unit))|_=>False):=by
 intro i s h;have hi:=(zMJ.1 h).1;have:zcY.length=24:=rfl;have hi':i<24:=by omega
 have:i=0∨i=1∨i=2∨i=3∨i=4∨i=5∨i=6∨i=7∨i=8∨i=9∨i=10∨i=11∨i=12∨i=13∨i=14∨i=15∨i=16∨i=17∨i=18∨i=19∨i=20∨i=21∨i=22∨i=23:=by omega
 rcases this with rfl|rfl|rfl|rfl|rfl|rfl|rfl|rfl|rfl|rfl|rfl|rfl|rfl|rfl|rfl|rfl|rfl|rfl|rfl|rfl|rfl|rfl|rfl|rfl <;> (cases h;rfl)
theorem zGN (h0:laidMetH prog Rows.sumsRow.laid W)(hz:21<=W.heap.size):∃S,Gl S W:=by
 have h:=zig h0;obtain⟨a1,e1⟩:=zcl h (k:=6) rfl Tryz.gLong Tryz.tLong;obtain⟨a2,e2⟩:=zcl h (k:=7) rfl Tryz.gSyntax Tryz.tSyntax;obtain⟨a3,e3⟩:=zcl h (k:=8) rfl Tryz.gDeep Tryz.tDeep;obtain⟨a4,e4⟩:=zcl h (k:=9) rfl Tryz.gName Tryz.tName;obtain⟨a5,e5⟩:=zcl h (k:=10) rfl Tryz.gType Tryz.tType;obtain⟨a6,e6⟩:=zcl h (k:=11) rfl Tryz.gClock Tryz.tClock;obtain⟨a7,e7⟩:=zcl h (k:=12) rfl Tryz.gDefine Tryz.tDefine;obtain⟨a8,e8⟩:=zcl h (k:=13) rfl Tryz.gCause Tryz.tCause;obtain⟨a9,e9⟩:=zcl h (k:=14) rfl Tryz.gLimit Tryz.tLimit;obtain⟨a10,e10⟩:=zcl h (k:=15) rfl Tryz.gImage Tryz.tImage;obtain⟨a11,e11⟩:=zcl h (k:=16) rfl Tryz.gInput Tryz.tInput;obtain⟨a12,e12⟩:=zcl h (k:=4) rfl Tryz.gErrRange Tryz.tErrRange;have hw:=zjE h (k:=0) rfl Tryz.gWords Tryz.tWords underlying303 Tryz.cellsStr Tryz.cWords;refine⟨λk=>match k with|1=>a1|2=>a2|3=>a3|4=>a4|5=>a5|6=>a6|7=>a7|8=>a8|9=>a9|10=>a10|11=>a11|_=>a12,e1,e2,e3,e4,e5,e6,e7,e8,e9,e10,e11,e12,λi s hi=>?_,hz⟩;have hlt:i<24:=by have:=(zMJ.1 hi).1;have e:zcY.length=24:=rfl;omega
 obtain⟨v,f,x,q1,q2,q3⟩:=hw i hlt;obtain⟨s',r1,rfl,_⟩:=DataW.trod_string underlying9 q2;cases r1;refine q1.trans ?_;have h2:=zm4 i s hi;have h3:(some (DataW.lit (.string s'.data.toList)):Option (DataW Unit))=some (.lit (.string s.data.toList)):=q3.symm.trans h2;have h4:s'.data.toList=s.data.toList:=by
  have:=Option.some.inj h3;injection this with this
  injection this
 obtain⟨⟨d1⟩⟩:=s';obtain⟨⟨d2⟩⟩:=s;simp only at h4;rw[h4]
end
section
open Go.ChangeShapes Go.WideShapes Go.ChangeAt Go.RowKit
theorem Tryz.own:ownKnob prog.godebug=none:=by kernel_rfl
theorem Tryz.laidOut:laidOutB prog=true:=by kernel_rfl
theorem znF (os:Go.Os)(args:Xa):laidMetH prog Rows.sumsRow.laid ((World.doorLaid prog 314 os).forCall (λ_ _=>0) ⟨#[],args,[]⟩).memory :=
 laidMetH_of_parts (laidMet_of_run' 8 (by kernel_rfl) (by kernel_rfl)) (by kernel_rfl)
theorem Tryz.gTab:prog.globalNamed "math/bits.deBruijn64tab"=some 20:=by kernel_rfl
theorem Tryz.tTab:(prog.globals[20]?).map (·.type)=some 311:=by kernel_rfl
theorem Tryz.cTab:prog.cellsOf 311=64:=by kernel_rfl
theorem Tryz.cellsU8:prog.cellsOf 5=1:=by kernel_rfl
theorem zp6 {W:Xw}(h0:laidMetH prog Rows.sumsRow.laid W):21<=W.heap.size:=by obtain⟨v,_,_,h1,_⟩:=zjE (zig h0) (k:=2) rfl Tryz.gTab Tryz.tTab underlying311 Tryz.cellsU8 Tryz.cTab 0 (by decide);exact World.block_lt_of_cell? W (xD 20 0) h1
theorem zoe {W:Xw}(h0:laidMetH prog Rows.sumsRow.laid W)(hz:21<=W.heap.size):(∃S,Gl S W)/\zbt W/\zbW W:=by
 have h:=zig h0;have ho:=zjE h (k:=18) rfl Tryz.gOpers Tryz.tOpers underlying261 Tryz.cellsOp Tryz.cOpers;have hs:=zpE h (k:=17) rfl Tryz.gShapes Tryz.tShapes underlying149 underlying148 rfl rfl rfl (by kernel_rfl) (by kernel_rfl) (by kernel_rfl) (by kernel_rfl) (by kernel_rfl) (by kernel_rfl) Tryz.cellsShape;refine⟨zGN h0 hz,λk h1 h2=>?_,?_⟩
 . obtain⟨v,f,x,q1,q2,q3⟩:=ho k (by omega);obtain⟨s',r1,rfl,_⟩:=DataW.trod_int underlying69 q2;cases r1;refine q1.trans ?_;have:k=5∨k=10∨k=11∨k=12∨k=13∨k=14∨k=15∨k=16∨k=17∨k=18∨k=19∨k=20∨k=21∨k=22∨k=23:=by omega
   rcases this with rfl|rfl|rfl|rfl|rfl|rfl|rfl|rfl|rfl|rfl|rfl|rfl|rfl|rfl|rfl <;> (have q4:=Option.some.inj q3;injection q4 with q4;injection q4 with _ q5;subst q5;rfl)
 have key:∀k s,zY[k]?=some s->∃a b c:Int,W.cell? (xD 11 (k*3))=some (xI a)/\W.cell? (xD 11 (k*3+1))=some (xI b)/\W.cell? (xD 11 (k*3+2))=some (xI c)/\a=(s.1:Nat)/\b=(s.2.1:Nat)/\c=(s.2.2:Nat):=by
  intro k s hk;have h20:=zeB hk;obtain⟨a,b,c,q1,q2,q3,q4⟩:=hs k (by omega);refine⟨a,b,c,q1,q2,q3,?_⟩;clear q1 q2 q3 hs ho;have:k=0∨k=1∨k=2∨k=3∨k=4∨k=5∨k=6∨k=7∨k=8∨k=9∨k=10∨k=11∨k=12∨k=13∨k=14∨k=15∨k=16∨k=17∨k=18∨k=19∨k=20:=by omega
  rcases this with rfl|rfl|rfl|rfl|rfl|rfl|rfl|rfl|rfl|rfl|rfl|rfl|rfl|rfl|rfl|rfl|rfl|rfl|rfl|rfl|rfl <;> (cases hk;have q5:=Option.some.inj q4;injection q5 with q5;injection q5 with q6 q7;injection q7 with q8 q9;injection q9 with q10 _;injection q6 with q6;injection q6 with _ q6;injection q8 with q8;injection q8 with _ q8;injection q10 with q10;injection q10 with _ q10;subst q6 q8 q10;exact⟨rfl,rfl,rfl⟩)
 refine⟨λk s hk=>?_,λk s hk=>?_,λk s hk=>?_⟩
 . obtain⟨a,b,c,q1,q2,q3,rfl,rfl,rfl⟩:=key k s hk;exact q1
 . obtain⟨a,b,c,q1,q2,q3,rfl,rfl,rfl⟩:=key k s hk;exact q2
 obtain⟨a,b,c,q1,q2,q3,rfl,rfl,rfl⟩:=key k s hk;exact q3
theorem Tryz.cells64:prog.cellsOf 2=1:=by kernel_rfl
theorem zqu {n:Int}(h:(Lit.int .i64 n).wf=true):-9223372036854775808<=n/\n<=9223372036854775807:=bounds_i64 h
theorem zo3 {H:Type}{enc:TypeId×Value->H}{W:Xw}{a:Xp}{len cap fuel:Nat}{x:DataW H×List MemPlace}{sp:Xh}{held:Bool}(hf:DataW.trod enc prog W 0 sp held fuel 22 (Value.slice a len cap).cells.toList=some x)(hlt:∀p∈x.2,p.block<W.heap.size):∃l,Ar W W.heap.size (.slice a len cap) l:=by
 rcases open_ints underlying22 underlying2 Tryz.cells64 hf with ⟨hcs,hx⟩|⟨a',len',cap',us,hcs,_,hl,hm,hz,hx,hcell,hwz⟩
 . simp[Value.cells] at hcs;obtain⟨rfl,rfl,rfl⟩:=hcs;exact⟨[],⟨none,0,rfl,by decide,λh=>absurd rfl h⟩,λx hx=>by cases hx⟩
 simp[Value.cells] at hcs;obtain⟨rfl,rfl,rfl⟩:=hcs;have hml:maxLen<=9223372036854775807:=by decide
 have hzl:len<=us.length:=by rw[hz];split <;> omega
 have htl:(us.take len).length=len:=by rw[List.length_take];omega
 refine⟨us.take len,⟨some a',cap,by rw[htl],by rw[htl];omega,λhne=>?_⟩,λy hy=>zqu (hwz y (List.mem_of_mem_take hy))⟩;have h0:0<us.length:=by
  rcases us with _|⟨z,us⟩
  . simp at hne
  simp
 obtain⟨b,off,spot⟩:=a';have hspot:spot=none:=by simpa [Addr.add] using World.cell?_spot (hcell 0 h0)
 subst hspot;refine⟨b,off,rfl,hlt (.cell b off) (by rw[hx];exact MemPlace.mem_row.2 ⟨0,h0,by simp⟩),λj y hj=>?_⟩;rw[List.getElem?_take] at hj;split at hj
 . have hjl:=(zMJ.1 hj).1;have:=hcell j hjl;rw[List.getD_eq_getElem?_getD,hj] at this;rw[add_plain] at this;exact this
 cases hj
end
section
theorem Tryz.mapsR:(mapsRowed prog)=true:=by kernel_rfl
theorem Tryz.heard:(prog.stopsHeard)=true:=by kernel_rfl
theorem Tryz.enter:(prog.mayEnter)=true:=by kernel_rfl
abbrev rSs:=Rows.sumsRow
abbrev sSs:=Rows.sumsSpec
theorem zYE:((rSs.lifted==prog.liftsFinal))=true:=by kernel_rfl
theorem zYl:((prog.make==some rSs.make))=true:=by kernel_rfl
theorem zYy:((rSs.plainKeys==prog.plainKeys))=true:=by kernel_rfl
theorem js9:((rSs.inPlace==prog.inPlace 3))=true:=by kernel_rfl
theorem zYo:((rSs.unfollowed==prog.unfollowed 3))=true:=by kernel_rfl
theorem zYk:((rSs.recurses==prog.recurses 3))=true:=by kernel_rfl
theorem zYt:((rSs.named==prog.varsNamed 3))=true:=by kernel_rfl
theorem js0:(rSs.wf (OpenSpec.ofChange sSs))=true:=by kernel_rfl
theorem js3:(Tryz.f3.params.all (prog.readableRec ·))=true:=by kernel_rfl
theorem js4:(namedTie prog rSs.named sSs.vars)=true:=by kernel_rfl
theorem js5:((rSs.stops==[]))=true:=by kernel_rfl
theorem js6:((prog.stops==[]))=true:=by kernel_rfl
theorem js7:((rSs.knobs==[]))=true:=by kernel_rfl
theorem js8:((prog.stopKnobs==[]))=true:=by kernel_rfl
theorem zYz:((rSs.maps==(Tryz.f3.params.toList++sSs.plain.varTypes prog).any (prog.mapsRec ·)))=true:=by kernel_rfl
theorem zYj:((rSs.ifaces==(Tryz.f3.params.toList++sSs.plain.varTypes prog).any (prog.ifacesRec ·)))=true:=by kernel_rfl
theorem zYC:((rSs.mapsOut==prog.mapsAmong Tryz.f3.resultTypes.toList))=true:=by kernel_rfl
theorem zYA:((rSs.loops==(Tryz.f3.params.toList++sSs.plain.varTypes prog).any (prog.loopsFrom ·)))=true:=by kernel_rfl
theorem zYu:((rSs.wideKeys==(Tryz.f3.params.toList++sSs.plain.varTypes prog++Tryz.f3.resultTypes.toList).any (prog.wideKeysFrom ·)))=true:=by kernel_rfl
theorem zYF:(sSs.vars.all (prog.varReadable ·))=true:=by kernel_rfl
theorem zYs:(Tryz.f3.resultTypes.all (λt=>prog.readableRec t&&decide (t<prog.types.size)))=true:=by kernel_rfl
theorem zYm:((rSs.ifacesOut==Tryz.f3.resultTypes.toList.any (prog.ifacesRec ·)))=true:=by kernel_rfl
theorem zYD:((rSs.loopsOut==Tryz.f3.resultTypes.toList.any (prog.loopsFrom ·)))=true:=by kernel_rfl
theorem zYG:(rSs.shortTexts.isNone)=true:=by kernel_rfl
theorem zYw:((rSs.kinds==(if rSs.domain.isEmpty then [] else Tryz.f3.params.toList.map λt=>match prog.underlying t with|some (.int k)=>some k|_=>none)))=true:=by kernel_rfl
theorem zYq:((rSs.pinned==rSs.pinnedBy))=true:=by kernel_rfl
theorem zYB:((rSs.veiled==(Tryz.f3.params.toList++sSs.plain.varTypes prog++Tryz.f3.resultTypes.toList).any (prog.veiledRec ·)))=true:=by kernel_rfl
theorem zYp:(rSs.veiledFits prog Tryz.f3.params.toList (Tryz.f3.params.toList++sSs.plain.varTypes prog++Tryz.f3.resultTypes.toList))=true:=by kernel_rfl
end
section
open Go.ChangeShapes Go.WideShapes Go.ChangeAt Go.RowKit
theorem zXf (os:Go.Os)(started:os.Started)(H:Type)(enc:TypeId×Value->H) :
 ReturnsInHanded {} Tryz.checked os 3 .any (λw args=>(Rows.sumsSpec.pre enc prog Tryz.f3 [] false w args/\laidMetH prog Rows.sumsRow.laid w)/\sizedMet enc prog Tryz.f3 (OpenSpec.ofChange Rows.sumsSpec) false w args)
  (Rows.sumsSpec.post enc prog Tryz.f3 false true false false):=by
 refine returnsInHanded_of_change_and (C:=Tryz.checked) (X:=λw _=>laidMetH prog Rows.sumsRow.laid w) (λ_ _ _ hh h=>h.of_heap hh) Tryz.own started (by kernel_rfl) func3
  (ChangeSpec.witness_shaped (enc:=enc) (C:=Tryz.checked) (os:=os) (X:=λw _=>laidMetH prog Rows.sumsRow.laid w) false (World.doorLaid prog 314 os) #[xI 0,.slice none 0 0,.slice none 0 0] 8 rfl (World.shaped_of_RefB (by kernel_rfl) (by kernel_rfl)) (by kernel_rfl) (by kernel_rfl) (by kernel_rfl) (znF os _)) ?_
 intro W base args ds gs before hval0 hW _ _ hL _;have hval:∀(j:Nat) t v,Tryz.f3.params[j]?=some t->args[j]?=some v->Value.okWide prog W .any base t v:=hval0;have hW':=hW;obtain⟨p,q,hA0,hV,rfl,_,_⟩:=hW;have hA:DataW.TrodAll enc prog W 0 (λ_=>true) true Tryz.f3.params.toList args.toList ds p:=hA0;rw[params3] at hA hval;obtain⟨v0,v1,v2,d0,d1,d2,p0,p1,p2,rfl,rfl,rfl,h0,h1,h2⟩:=trodAll_three hA;obtain⟨rfl,rfl⟩:=trodVars_none hV;obtain⟨n,rfl,rfl,rfl,hwf⟩:=open_int underlying2 (hval 0 2 v0 rfl rfl) h0;obtain⟨a1,len1,cap1,rfl⟩:=okWide_slice underlying22 (hval 1 22 v1 rfl rfl);obtain⟨a2,len2,cap2,rfl⟩:=okWide_slice underlying22 (hval 2 22 v2 rfl rfl);clear hA0 hval0;simp only[List.append_nil,zMQ] at hW';have hlt:∀x∈([]:List MemPlace)++p1++p2,x.block<W.heap.size:=λx hx=>by simpa using hW'.lt x (by simpa using hx)
 have hargs0:∀(W':Xw),DataW.Trod enc prog W' 0 (λb=>decide (b<W.heap.size)) true 2 (xI n) (.lit (.int .i64 n)) []:=λW'=>shut_int underlying2 hwf
 have hargs1:∀(W':Xw),xB W W'->DataW.Trod enc prog W' 0 (λb=>decide (b<W.heap.size)) true 22 (.slice a1 len1 cap1) d1 p1 :=
  λW' hn=>Below.trod Tryz.laidOut (by kernel_rfl) (of_decide_eq_true (by kernel_rfl)) h1 hn (λx hx=>hlt x (by simp[hx]))
 have hargs2:∀(W':Xw),xB W W'->DataW.Trod enc prog W' 0 (λb=>decide (b<W.heap.size)) true 22 (.slice a2 len2 cap2) d2 p2 :=
  λW' hn=>Below.trod Tryz.laidOut (by kernel_rfl) (of_decide_eq_true (by kernel_rfl)) h2 hn (λx hx=>hlt x (by simp[hx]))
 obtain⟨f1,hf1⟩:=h1;obtain⟨l1,hA1⟩:=zo3 hf1 (λx hx=>hlt x (by simp[hx]));obtain⟨f2,hf2⟩:=h2;obtain⟨l2,hA2⟩:=zo3 hf2 (λx hx=>hlt x (by simp[hx]));have hz:21<=W.heap.size:=zp6 hL;obtain⟨⟨S,hG⟩,hop,hS⟩:=zoe hL hz;refine (zXU S n _ _ l1 l2 W (bounds_i64 hwf) hG hop hS hA1 hA2).mono λe W' ⟨he,hnx⟩=>?_;subst he;refine⟨_,rfl,_,_,_,[],(p1++p2),[],hW',?_,?_,rfl,hnx.frame _,λh=>by cases h⟩
 . exact trodAll_mk1 (shut_bool underlying4 true)
 exact trodAll_mk3 (hargs0 _) (hargs1 _ hnx) (hargs2 _ hnx)
theorem zae {a b:Bool}(h1:a=true)(h2:b=true):(a&&b)=true:=by rw[h1,h2];rfl
theorem zXn:joinedFacts prog 3 Tryz.f3 Rows.sumsSpec Rows.sumsRow=true:=by unfold joinedFacts;exact (zae (zae (zae (zae (zae (zae (zae (zae (zae (zae (zae (zae (zae (zae (zae (zae (zae (zae (zae (zae (zae (zae (zae (zae (zae (zae (zae (zae (zae (zae (zae js0 Tryz.laidOut) Tryz.mapsR) js3) js4) js5) js6) js7) js8) js9) zYo) zYk) zYt) zYz) zYj) zYC) zYA) zYu) zYF) zYs) zYm) zYD) zYy) zYG) Tryz.heard) Tryz.enter) zYE) zYl) zYw) zYq) zYB) zYp)
theorem zXs:Tryz.f3.isInstance prog Rows.sumsRow.origin Rows.sumsRow.targs:=of_decide_eq_true (by kernel_rfl)
theorem zXo:Tryz.f3.isWrapper prog Rows.sumsRow.wrapper Rows.sumsRow.mainSum:=by unfold Func.isWrapper;first|(rw[zM2 (by decide +kernel)];kernel_rfl)|(rw[zM1 (by decide +kernel)];exact⟨rfl,rfl⟩)
theorem zW5:prog.funcNamed "cadence/cadencekeep.Sums"=some 3:=by kernel_rfl
theorem zXx:Rows.SumsSaid :=
 OpenClaim.holds_of_wide (p:=Tryz.pinned) (s:=Rows.sumsSpec) (c:=Rows.sumsRow) 3 Tryz.f3 rfl rfl rfl rfl rfl rfl rfl ⟨rfl,rfl,rfl,rfl,rfl⟩ rfl rfl rfl rfl rfl zW5 func3 zXn zXs zXo
  (λos started H enc _=>zXf os started H enc)
theorem zXM:Rows.sumsRow.wfByText (OpenSpec.ofChange Rows.sumsSpec)=true:=by kernel_rfl
theorem Tryz.main:prog.mainIs=some (true,"a9ca6f49861db040a0809e29b53f94b1ac8b43e3fde291b33bab66633f5402b1".toList):=by kernel_rfl
theorem Tryz.looked:true=prog.looks []:=by kernel_rfl
theorem Tryz.noStandI:prog.wantsStandIn 2=false:=by kernel_rfl
theorem Tryz.noStand:prog.wantsStandIn 22=false:=by kernel_rfl
theorem zXu:false=Rows.sumsRow.goesBy prog:=by kernel_rfl
theorem sums_holds:Rows.SumsCardSaid :=
 Claim7.holds_tied_plain_at .later [] [.data,.data,.data,.data,.handle,.sentinel,.sentinel,.sentinel,.sentinel,.sentinel,.sentinel,.sentinel,.sentinel,.sentinel,.sentinel,.sentinel,.sentinel,.sentinel,.data,.data] true (true,"a9ca6f49861db040a0809e29b53f94b1ac8b43e3fde291b33bab66633f5402b1") true
  zXx (λ_ h=>by cases h) zXM (λ_ h=>by cases h) sums_row_tie rfl ⟨rfl,rfl⟩ Tryz.main rfl
  (λf fn hf hfn=>by
    obtain rfl:f=3:=Option.some.inj (zW5.symm.trans hf) |>.symm;obtain rfl:fn=Tryz.f3:=(Option.some.inj (func3.symm.trans hfn)).symm;exact⟨Tryz.looked,λj t ht=>by
     rw[params3] at ht;rcases j with _|_|_|j
     . obtain rfl:2=t:=by simpa using ht
       exact Tryz.noStandI
     . obtain rfl:22=t:=by simpa using ht
       exact Tryz.noStand
     . obtain rfl:22=t:=by simpa using ht
       exact Tryz.noStand
     simp at ht⟩)
  zXu
end
end Go.Proofs.YtenadialhccdiaaGreatDoor
