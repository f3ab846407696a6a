/- Checks holds: for every input the law returns true, and what was handed in reads behind the call as it read before; the package-level variables hold at the beginning what the program's own text lays into them (the card ties that). -/
import Derived.Deep.Slices
import Derived.JoinedOf
import Derived.LaidMore
import Derived.SevenTiedAt
import Derived.Stop.Joined
import Derived.Test.YtmfkofhgdjechaaGreatDoorCards
import Derived.Test.YtmfkofhgdjechaaGreatDoorTie
import Derived.Test.YtmfkofhgdjechaaGreatDoorK33
set_option maxRecDepth 100000
set_option maxHeartbeats 8000000
namespace Go.Proofs.YtmfkofhgdjechaaGreatDoor
open Go.Proofs.Tryz
section
open Go.ChangeShapes Go.WideShapes Go.ChangeAt Go.RowKit
variable {W:Xw}
def sl:List (String×DataW Unit):=[("cadence/tree.words",Rows.laid_cadence_tree_words),("math/bits.deBruijn32tab",Rows.laid_math_bits_deBruijn32tab),("math/bits.deBruijn64tab",Rows.laid_math_bits_deBruijn64tab),("internal/strconv.uint64pow10",Rows.laid_internal_strconv_uint64pow10),("strconv.ErrRange",Rows.laid_strconv_ErrRange),("strconv.ErrSyntax",Rows.laid_strconv_ErrSyntax),("cadence/fault.Long",Rows.laid_cadence_fault_Long),("cadence/fault.Syntax",Rows.laid_cadence_fault_Syntax),("cadence/fault.Deep",Rows.laid_cadence_fault_Deep),("cadence/fault.Name",Rows.laid_cadence_fault_Name),("cadence/fault.Type",Rows.laid_cadence_fault_Type),("cadence/fault.Clock",Rows.laid_cadence_fault_Clock),("cadence/fault.Define",Rows.laid_cadence_fault_Define),("cadence/fault.Cause",Rows.laid_cadence_fault_Cause),("cadence/fault.Limit",Rows.laid_cadence_fault_Limit),("cadence/fault.Image",Rows.laid_cadence_fault_Image),("cadence/fault.Input",Rows.laid_cadence_fault_Input),("cadence/code.shapes",Rows.laid_cadence_code_shapes),("cadence/compile.operators",Rows.laid_cadence_compile_operators)]
theorem pD (h:laidMetH prog Rows.printsRow.laid W):laidMet prog sl W:=by have a:laidMet prog sl W/\handlesMet prog [("errors.errorType",Rows.laid_errors_errorType)] W:=h;exact a.1
theorem Tryz.sY:prog.globalNamed "cadence/fault.Long"=some 0:=by kernel_rfl
theorem Tryz.tM:(prog.globals[0]?).map (·.type)=some 42:=by kernel_rfl
theorem Tryz.s0:prog.globalNamed "cadence/fault.Syntax"=some 8:=by kernel_rfl
theorem Tryz.tO:(prog.globals[8]?).map (·.type)=some 42:=by kernel_rfl
theorem Tryz.sT:prog.globalNamed "cadence/fault.Deep"=some 9:=by kernel_rfl
theorem Tryz.tH:(prog.globals[9]?).map (·.type)=some 42:=by kernel_rfl
theorem Tryz.sZ:prog.globalNamed "cadence/fault.Name"=some 1:=by kernel_rfl
theorem Tryz.tN:(prog.globals[1]?).map (·.type)=some 42:=by kernel_rfl
theorem Tryz.s3:prog.globalNamed "cadence/fault.Type"=some 2:=by kernel_rfl
theorem Tryz.tP:(prog.globals[2]?).map (·.type)=some 42:=by kernel_rfl
theorem Tryz.sS:prog.globalNamed "cadence/fault.Clock"=some 3:=by kernel_rfl
theorem Tryz.tG:(prog.globals[3]?).map (·.type)=some 42:=by kernel_rfl
theorem Tryz.sU:prog.globalNamed "cadence/fault.Define"=some 4:=by kernel_rfl
theorem Tryz.tI:(prog.globals[4]?).map (·.type)=some 42:=by kernel_rfl
theorem Tryz.sR:prog.globalNamed "cadence/fault.Cause"=some 5:=by kernel_rfl
theorem Tryz.tF:(prog.globals[5]?).map (·.type)=some 42:=by kernel_rfl
theorem Tryz.sX:prog.globalNamed "cadence/fault.Limit"=some 6:=by kernel_rfl
theorem Tryz.tL:(prog.globals[6]?).map (·.type)=some 42:=by kernel_rfl
theorem Tryz.sV:prog.globalNamed "cadence/fault.Image"=some 10:=by kernel_rfl
theorem Tryz.tJ:(prog.globals[10]?).map (·.type)=some 42:=by kernel_rfl
theorem Tryz.sW:prog.globalNamed "cadence/fault.Input"=some 12:=by kernel_rfl
theorem Tryz.tK:(prog.globals[12]?).map (·.type)=some 42:=by kernel_rfl
theorem Tryz.AA:prog.globalNamed "strconv.ErrRange"=some 16:=by kernel_rfl
theorem Tryz.BF:(prog.globals[16]?).map (·.type)=some 42:=by kernel_rfl
theorem Tryz.AC:prog.globalNamed "cadence/tree.words"=some 13:=by kernel_rfl
theorem Tryz.BI:(prog.globals[13]?).map (·.type)=some 377:=by kernel_rfl
theorem Tryz.Al:prog.cellsOf 377=24:=by kernel_rfl
theorem IE:∀(i:Nat) (s:Xb),gJ[i]?=some s->(match (Rows.laid_cadence_tree_words:DataW Unit) with|.agg ds=>ds[i]?=(some (DataW.lit (.string s.data.toList)):Option (DataW Unit))|_=>False):=by
 intro i s h;have b:=(aB.1 h).1;have:gJ.length=24:=rfl;have a:i<24:=by omega
 have:i=0∨i=1∨i=2∨i=3∨i=4∨i=5∨i=6∨i=7∨i=8∨i=9∨i=10∨i=11∨i=12∨i=13∨i=14∨i=15∨i=16∨i=17∨i=18∨i=19∨i=20∨i=21∨i=22∨i=23:=by omega
 rcases this with rfl|rfl|rfl|rfl|rfl|rfl|rfl|rfl|rfl|rfl|rfl|rfl|rfl|rfl|rfl|rfl|rfl|rfl|rfl|rfl|rfl|rfl|rfl|rfl <;> (cases h;rfl)
theorem D5 (K:laidMetH prog Rows.printsRow.laid W)(O:21<=W.heap.size):∃S,Gl S W:=by
 have h:=pD K;obtain⟨p,B⟩:=ic h (k:=6) rfl Tryz.sY Tryz.tM;obtain⟨q,C⟩:=ic h (k:=7) rfl Tryz.s0 Tryz.tO;obtain⟨r,D⟩:=ic h (k:=8) rfl Tryz.sT Tryz.tH;obtain⟨t,E⟩:=ic h (k:=9) rfl Tryz.sZ Tryz.tN;obtain⟨u,F⟩:=ic h (k:=10) rfl Tryz.s3 Tryz.tP;obtain⟨w,G⟩:=ic h (k:=11) rfl Tryz.sS Tryz.tG;obtain⟨y,H⟩:=ic h (k:=12) rfl Tryz.sU Tryz.tI;obtain⟨z,I⟩:=ic h (k:=13) rfl Tryz.sR Tryz.tF;obtain⟨A,J⟩:=ic h (k:=14) rfl Tryz.sX Tryz.tL;obtain⟨a,d⟩:=ic h (k:=15) rfl Tryz.sV Tryz.tJ;obtain⟨b,g⟩:=ic h (k:=16) rfl Tryz.sW Tryz.tK;obtain⟨c,j⟩:=ic h (k:=4) rfl Tryz.AA Tryz.BF;have N:=x4 h (k:=0) rfl Tryz.AC Tryz.BI underlying377 Tryz.p6 Tryz.Al;refine⟨λk=>match k with|1=>p|2=>q|3=>r|4=>t|5=>u|6=>w|7=>y|8=>z|9=>A|10=>a|11=>b|_=>c,B,C,D,E,F,G,H,I,J,d,g,j,λi s o=>?_,O⟩;have l:i<24:=by have:=(aB.1 o).1;have e:gJ.length=24:=rfl;omega
 obtain⟨v,f,x,P,Q,R⟩:=N i l;obtain⟨m,T,rfl,_⟩:=DataW.trod_string underlying9 Q;cases T;refine P.trans ?_;have L:=IE i s o;have M:(some (DataW.lit (.string m.data.toList)):Option (DataW Unit))=some (.lit (.string s.data.toList)):=R.symm.trans L;have n:m.data.toList=s.data.toList:=by
  have:=Option.some.inj M;injection this with this
  injection this
 obtain⟨⟨d1⟩⟩:=m;obtain⟨⟨d2⟩⟩:=s;simp only at n;rw[n]
end
section
open Go.ChangeShapes Go.WideShapes Go.ChangeAt Go.RowKit
theorem Tryz.own:ownKnob prog.godebug=none:=by kernel_rfl
theorem Tryz.laidOut:laidOutB prog=true:=by kernel_rfl
theorem Jl (b:Go.Os)(a:Xa):laidMetH prog Rows.printsRow.laid ((World.doorLaid prog 314 b).forCall (λ_ _=>0) ⟨#[],a,[]⟩).memory :=
 laidMetH_of_parts (laidMet_of_run' 8 (by kernel_rfl) (by kernel_rfl)) (by kernel_rfl)
theorem Tryz.AB:prog.globalNamed "math/bits.deBruijn64tab"=some 20:=by kernel_rfl
theorem Tryz.BH:(prog.globals[20]?).map (·.type)=some 417:=by kernel_rfl
theorem Tryz.Aj:prog.cellsOf 417=64:=by kernel_rfl
theorem Tryz.Ap:prog.cellsOf 5=1:=by kernel_rfl
theorem J7 {W:Xw}(a:laidMetH prog Rows.printsRow.laid W):21<=W.heap.size:=by obtain⟨v,_,_,b,_⟩:=x4 (pD a) (k:=2) rfl Tryz.AB Tryz.BH underlying417 Tryz.Ap Tryz.Aj 0 (by decide);exact World.block_lt_of_cell? W (xD 20 0) b
end
section
theorem Tryz.Be:(mapsRowed prog)=true:=by kernel_rfl
theorem Tryz.heard:(prog.stopsHeard)=true:=by kernel_rfl
theorem Tryz.enter:(prog.mayEnter)=true:=by kernel_rfl
abbrev dM:=Rows.checksRow
abbrev jO:=Rows.checksSpec
theorem Gz:((dM.lifted==prog.liftsFinal))=true:=by kernel_rfl
theorem Gh:((prog.make==some dM.make))=true:=by kernel_rfl
theorem GD:((dM.plainKeys==prog.plainKeys))=true:=by kernel_rfl
theorem A4:((dM.inPlace==prog.inPlace 3))=true:=by kernel_rfl
theorem Gc:((dM.unfollowed==prog.unfollowed 3))=true:=by kernel_rfl
theorem Gd:((dM.recurses==prog.recurses 3))=true:=by kernel_rfl
theorem GL:((dM.named==prog.varsNamed 3))=true:=by kernel_rfl
theorem AX:(dM.wf (OpenSpec.ofChange jO))=true:=by kernel_rfl
theorem AY:(Tryz.f3.params.all (prog.readableRec ·))=true:=by kernel_rfl
theorem AZ:(namedTie prog dM.named jO.vars)=true:=by kernel_rfl
theorem A0:((dM.stops==[]))=true:=by kernel_rfl
theorem A1:((prog.stops==[]))=true:=by kernel_rfl
theorem A2:((dM.knobs==[]))=true:=by kernel_rfl
theorem A3:((prog.stopKnobs==[]))=true:=by kernel_rfl
theorem GH:((dM.maps==(Tryz.f3.params.toList++jO.plain.varTypes prog).any (prog.mapsRec ·)))=true:=by kernel_rfl
theorem GC:((dM.ifaces==(Tryz.f3.params.toList++jO.plain.varTypes prog).any (prog.ifacesRec ·)))=true:=by kernel_rfl
theorem GG:((dM.mapsOut==prog.mapsAmong Tryz.f3.resultTypes.toList))=true:=by kernel_rfl
theorem GJ:((dM.loops==(Tryz.f3.params.toList++jO.plain.varTypes prog).any (prog.loopsFrom ·)))=true:=by kernel_rfl
theorem F9:((dM.wideKeys==(Tryz.f3.params.toList++jO.plain.varTypes prog++Tryz.f3.resultTypes.toList).any (prog.wideKeysFrom ·)))=true:=by kernel_rfl
theorem GB:(jO.vars.all (prog.varReadable ·))=true:=by kernel_rfl
theorem Ge:(Tryz.f3.resultTypes.all (λt=>prog.readableRec t&&decide (t<prog.types.size)))=true:=by kernel_rfl
theorem Gb:((dM.ifacesOut==Tryz.f3.resultTypes.toList.any (prog.ifacesRec ·)))=true:=by kernel_rfl
theorem Ga:((dM.loopsOut==Tryz.f3.resultTypes.toList.any (prog.loopsFrom ·)))=true:=by kernel_rfl
theorem GF:(dM.shortTexts.isNone)=true:=by kernel_rfl
theorem Gf:((dM.kinds==(if dM.domain.isEmpty then [] else Tryz.f3.params.toList.map λt=>match prog.underlying t with|some (.int k)=>some k|_=>none)))=true:=by kernel_rfl
theorem GK:((dM.pinned==dM.pinnedBy))=true:=by kernel_rfl
theorem GA:((dM.veiled==(Tryz.f3.params.toList++jO.plain.varTypes prog++Tryz.f3.resultTypes.toList).any (prog.veiledRec ·)))=true:=by kernel_rfl
theorem Gg:(dM.veiledFits prog Tryz.f3.params.toList (Tryz.f3.params.toList++jO.plain.varTypes prog++Tryz.f3.resultTypes.toList))=true:=by kernel_rfl
end
section
open Go.ChangeShapes Go.WideShapes Go.ChangeAt Go.RowKit
variable {f:Bool} {g:Xh}
theorem Tryz.An:prog.cellsOf 38=4:=by kernel_rfl
theorem vy {α:Type}{l:List α}(h:l.length=4):∃a b c d,l=[a,b,c,d]:=by
 rcases l with _|⟨a,_|⟨b,_|⟨c,_|⟨d,_|⟨e,l⟩⟩⟩⟩⟩
 . cases h
 . cases h
 . cases h
 . cases h
 . exact⟨a,b,c,d,rfl⟩
 simp only[bJ] at h;omega
theorem vu {G:Type}{d:TypeId×Value->G}{P:Program}{w:Xw}{b n:Nat}{e:Xy}{f0 f1 f2 f3:Field}{a:Addr}{cs:Xm}{y:DataW G×List MemPlace}(J:P.underlying e=some (.struct #[f0,f1,f2,f3]))
 (L:f0.offset=0) (M:f1.offset=1) (N:f2.offset=2) (O:f3.offset=3) (B:P.cellsOf f0.type=1) (C:P.cellsOf f1.type=1) (D:P.cellsOf f2.type=1) (E:P.cellsOf f3.type=1)
 (F:w.cells? b a 4=some cs) (H:DataW.trod d P w b g f n e cs=some y) :
 ∃j l m o q r s t k,w.cell? a=some j/\w.cell? (a.add 1)=some l/\w.cell? (a.add 2)=some m/\w.cell? (a.add 3)=some o/\DataW.trod d P w b g f k f0.type [j]=some q/\DataW.trod d P w b g f k f1.type [l]=some r/\DataW.trod d P w b g f k f2.type [m]=some s/\DataW.trod d P w b g f k f3.type [o]=some t:=by
 obtain⟨_,h,c⟩:=World.cells?_some F;obtain⟨Q,k,R,K,_,p,i⟩:=DataW.trod_struct J H;obtain⟨j,l,m,o,rfl⟩:=vy h;obtain⟨q,r,s,t,rfl⟩:=vy (show Q.length=4 from p);have v:=i 0 f0 rfl;have x:=i 1 f1 rfl;have z:=i 2 f2 rfl;have A:=i 3 f3 rfl;rw[L,B] at v;rw[M,C] at x;rw[N,D] at z;rw[O,E] at A;have I:a.add 0=a:=by simp[Addr.add]
 have u:=c 0 (by omega);rw[I] at u;exact⟨j,l,m,o,q,r,s,t,k,u,c 1 (by omega),c 2 (by omega),c 3 (by omega),v,x,z,A⟩
theorem vA {α:Type}{p:Nat->α->Prop}:∀n:Nat,(∀i,i<n->∃x,p i x)->∃l:List α,l.length=n/\∀i x,l[i]?=some x->p i x
 | 0,_=>⟨[],rfl,λi x h=>by simp at h⟩
 | n+1,h=>by
   obtain⟨l,d,e⟩:=vA n (λi b=>h i (by omega));obtain⟨x,j⟩:=h n (by omega);refine⟨l++[x],by simp[d],λi y a=>?_⟩;by_cases b:i<l.length
   . rw[e9 b] at a;exact e i y a
   rw[e8 (by omega)] at a;have c:i-l.length=0:=(by have:=(aB.1 a).1;simp at this;omega);rw[c] at a;cases a;have:i=n:=(by omega);rw[this];exact j
theorem C9 {H:Type}{G:TypeId×Value->H}{W:Xw}{a:Xp}{e q t:Nat}{x:DataW H×List MemPlace}(ak:DataW.trod G prog W 0 g f t 22 (Value.slice a e q).cells.toList=some x)(M:∀p∈x.2,p.block<W.heap.size):∃l,lT W W.heap.size (.slice a e q) l:=by
 rcases Go.Deep.open_slice underlying22 ak with ⟨d,P⟩|⟨X,S,R,m,n,D,Pl,d,_,be,hm,N,P,r⟩
 . simp[Value.cells] at d;obtain⟨rfl,rfl,rfl⟩:=d;exact⟨[],none,0,rfl,by decide,λh=>absurd rfl h⟩
 simp[Value.cells] at d;obtain⟨rfl,rfl,rfl⟩:=d;have a0:maxLen<=9223372036854775807:=by decide
 have ar:e<=m:=by rw[N];split <;> omega
 rw[Tryz.An] at r P;obtain⟨b,off,o⟩:=X;have w:∀i,i<e->∃y:mM,o=none/\W.cell? (xD b (off+i*4))=some (xI y.kd)/\W.cell? (xD b (off+i*4+1))=some (xI y.n)/\W.cell? (xD b (off+i*4+2))=some (.string y.s)/\W.cell? (xD b (off+i*4+3))=some (.slice y.a y.len y.cap):=by
  intro i a9;obtain⟨cs,h1,h2⟩:=r i (by omega);obtain⟨v0,bk,v2,v3,bl,bp,bs,bt,k,B,C,E,F,g0,g1,g2,g3⟩:=vu underlying38 rfl rfl rfl rfl (by kernel_rfl) (by kernel_rfl) (by kernel_rfl) (by kernel_rfl) h1 h2;have I:=r 0 (by omega);obtain⟨Z,J,K⟩:=I;obtain⟨u0,_,_,_,_,_,_,_,_,f0,_⟩:=vu underlying38 rfl rfl rfl rfl (by kernel_rfl) (by kernel_rfl) (by kernel_rfl) (by kernel_rfl) J K;have c:o=none:=by simpa [Addr.add] using World.cell?_spot f0
  subst c;rw[add_plain] at B;rw[add_plain,add_plain] at C E F;obtain⟨T,a3,_,_⟩:=DataW.trod_int underlying3 g0;obtain⟨U,a4,_,_⟩:=DataW.trod_int underlying3 g1;obtain⟨V,a5,_,_⟩:=DataW.trod_string underlying9 g2;cases a3;cases a4;cases a5;rcases DataW.trod_slice underlying36 g3 with ⟨Q,_⟩|⟨Y,A,s,_,_,_,_,Q,_⟩
  . cases Q;exact⟨⟨T,U,V,none,0,0⟩,rfl,B,C,E,F⟩
  cases Q;exact⟨⟨T,U,V,some Y,A,s⟩,rfl,B,C,E,F⟩
 obtain⟨l,u,v⟩:=vA e w;refine⟨l,some ⟨b,off,o⟩,q,by rw[u],by rw[u];omega,λO=>?_⟩;have L:0<l.length:=by rcases l with _|⟨z,l⟩;exact absurd rfl O;simp
 obtain⟨z,a2⟩:∃z,l[0]?=some z:=⟨_,av L⟩;have c:=(v 0 z a2).1;subst c;refine⟨b,off,rfl,M (.cell b off) ?_,λj y al=>(v j y al).2⟩;rw[P];exact List.mem_append_left _ (MemPlace.mem_row.2 ⟨0,by omega,by simp⟩)
end
section
open Go.ChangeShapes Go.WideShapes Go.ChangeAt Go.RowKit
variable {W:Xw}
def n6:Nat->List UInt8
 | 1=>[109,111,114,101,32,98,121,116,101,115,32,116,104,97,110,32,97,32,112,114,111,103,114,97,109,32,109,97,121,32,104,97,118,101]
 | 2=>[110,111,32,112,114,111,103,114,97,109]
 | 3=>[109,111,114,101,32,116,104,105,110,103,115,32,111,112,101,110,32,105,110,32,111,110,101,32,97,110,111,116,104,101,114,32,116,104,97,110,32,109,97,121,32,98,101]
 | 4=>[97,32,110,97,109,101,32,116,104,97,116,32,109,101,97,110,115,32,110,111,116,104,105,110,103,32,104,101,114,101,44,32,111,114,32,116,111,111,32,109,117,99,104]
 | 5=>[97,110,32,111,112,101,114,97,110,100,32,111,102,32,97,110,111,116,104,101,114,32,116,121,112,101,32,116,104,97,110,32,105,116,32,109,117,115,116,32,104,97,118,101]
 | 6=>[115,111,109,101,116,104,105,110,103,32,116,104,97,116,32,105,115,32,110,111,116,32,116,104,101,114,101,32,119,104,101,110,32,105,116,32,105,115,32,110,101,101,100,101,100]
 | 7=>[97,32,118,97,114,105,97,98,108,101,32,116,104,97,116,32,105,115,32,110,111,116,32,100,101,102,105,110,101,100,32,106,117,115,116,32,111,110,99,101]
 | 8=>[97,32,118,97,114,105,97,98,108,101,32,116,104,97,116,32,104,97,110,103,115,32,111,110,32,105,116,115,101,108,102]
 | 9=>[109,111,114,101,32,109,101,109,111,114,121,32,116,104,97,110,32,116,104,101,114,101,32,109,97,121,32,98,101]
 | 10=>[110,111,32,105,109,97,103,101]
 | _=>[110,111,32,105,110,112,117,116,32,111,102,32,116,104,105,115,32,109,97,99,104,105,110,101]
theorem LV:((List.range 12).all λi=>(List.range 12).all λj=>i==0||j==0||i==j||n6 i != n6 j)=true:=by decide +kernel
theorem LJ {P:Program}{w:Xw}:∀{l:List (String×DataW Unit)} {f:List MemPlace},DataW.LaidVars P w l f->∀{k:Nat} {n:String} {d:DataW Unit},l[k]?=some (n,d)->∃g t cs a p,P.globalNamed n=some g/\(P.globals[g]?).map (·.type)=some t/\w.var? P n=some cs/\DataW.trod (λ_=>()) P w 0 (λ_=>true) false a t cs.toList=some (d,p)/\(∀x∈MemPlace.row (xD g 0) cs.size,x∈f)/\∀x∈p,x∈f:=by
 intro l;induction l with
 | nil=>intro f _ k n d e;simp at e
 | cons x l D =>
   obtain⟨G,d0⟩:=x;rintro f ⟨g,t,cs,a,p,q,y,z,A,B,C,h⟩ k n d e;cases k with
   | zero => simp at e;obtain⟨rfl,rfl⟩:=e;exact⟨g,t,cs,a,p,y,z,A,B,λx c=>by rw[h];simp[c],λx c=>by rw[h];simp[c]⟩
   | succ k => obtain⟨v,F,i,b,E,j,m,o,r,s,u⟩:=D C (k:=k) (by simpa using e);exact⟨v,F,i,b,E,j,m,o,r,λx c=>by rw[h];simp[s x c],λx c=>by rw[h];simp[u x c]⟩
theorem iQ {l:List (String×DataW Unit)}(h:laidMet prog l W){k g:Nat}{n:String}{d:Xu}(A:l[k]?=some (n,.iface "*errors.errorString" (.ptr (.agg [.lit (.string d)]))))(z:prog.globalNamed n=some g)(D:(prog.globals[g]?).map (·.type)=some 42) :
 ∃a s c t,W.cell? (xD g 0)=some (.iface 399 (.pointer (some a)))/\W.cell? a=some (.string s)/\s.data.toList=d/\W.heap[a.block]?=some (.cells c t (0,0)):=by
 obtain⟨H,w,_,b⟩:=h;obtain⟨G,t,cs,j,p,f,m,i,o,q,r⟩:=LJ w A;obtain rfl:=Option.some.inj (z.symm.trans f);obtain rfl:=Option.some.inj (D.symm.trans m);obtain⟨E⟩:=cs;have F:∀u v,E=[.iface u v]->Value.okWide prog W .any 0 u v:=λu v e=>by subst e;exact (b g 0 (q _ (by simp[MemPlace.row]))).2 u v (by simpa using World.var?_cell f i 0)
 obtain⟨a,s,rfl,y,C,_,B⟩:=errorString_of_trod underlying42 Tryz.tw underlying399 underlying401 rfl rfl underlying9 Tryz.sI Tryz.p6 o F;obtain⟨c,t,x⟩:=(b a.block a.off (r _ (by simp[MemPlace.row,B]))).1;exact⟨a,s,c,t,by simpa using World.var?_cell f i 0,y,C,x⟩
theorem Tryz.Bw:((List.range prog.types.size).all λu=>!prog.rowNamed u [101,114,114,111,114]||u==42)=true:=by decide +kernel
theorem LZ (j:laidMetH prog Rows.printsRow.laid W):fw W:=by
 have i:laidMet prog sl W/\handlesMet prog [("errors.errorType",Rows.laid_errors_errorType)] W:=j;have k:=i.2 _ (cu.2 rfl);have l:∃a u b,(Rows.laid_errors_errorType:DataW Unit).handleName?=some a/\(prog.cutTypes.find? (·.1== "internal/reflectlite.rtype")).map (·.2)=some u/\b<prog.types.size/\prog.rowNamed b a=true/\W.var? prog "errors.errorType"=some #[.iface u (.agg #[typeHandle prog b])]:=k;obtain⟨a,u,b,e,f,g,h,c⟩:=l;obtain rfl:[101,114,114,111,114]=a:=Option.some.inj (show some [101,114,114,111,114]=some a from e);obtain rfl:241=u:=Option.some.inj (show some 241=some u from Eq.trans (by kernel_rfl) f);have d:=List.all_eq_true.1 Tryz.Bw b (List.mem_range.2 g);rw[h] at d;obtain rfl:b=42:=by simpa using d
 have m:typeHandle prog 42=.pointer (some ⟨21,42,none⟩):=by kernel_rfl
 rw[m] at c;have n:prog.globalNamed "errors.errorType"=some 7:=by kernel_rfl
 have:=World.var?_cell n c 0;simpa [fw] using this
theorem LY {S:Xs}(d:Gl S W)(v:laidMetH prog Rows.printsRow.laid W):p2 S W W.heap.size:=by
 have h:=pD v;have m:∀i,1<=i->i<=11->∃s c t,W.cell? (S i)=some (.string s)/\s.data.toList=n6 i/\W.heap[(S i).block]?=some (.cells c t (0,0)):=by
  have b:∀{g i:Nat} {f:Xu},W.cell? (xD g 0)=some (aW S i)->(∃a s c t,W.cell? (xD g 0)=some (.iface 399 (.pointer (some a)))/\W.cell? a=some (.string s)/\s.data.toList=f/\W.heap[a.block]?=some (.cells c t (0,0)))->∃s c t,W.cell? (S i)=some (.string s)/\s.data.toList=f/\W.heap[(S i).block]?=some (.cells c t (0,0)):=by
   rintro g i f e ⟨a,s,c,t,x,h1,y,z⟩;have:aW S i=.iface 399 (.pointer (some a)):=Option.some.inj (e.symm.trans x);unfold aW at this;injection this with _ this
   injection this with this
   injection this with this
   subst this;exact⟨s,c,t,h1,y,z⟩
  intro i n o;have:i=1∨i=2∨i=3∨i=4∨i=5∨i=6∨i=7∨i=8∨i=9∨i=10∨i=11:=by omega
  rcases this with rfl|rfl|rfl|rfl|rfl|rfl|rfl|rfl|rfl|rfl|rfl
  . exact b d.ou (iQ h (k:=6) rfl Tryz.sY Tryz.tM)
  . exact b d.e6 (iQ h (k:=7) rfl Tryz.s0 Tryz.tO)
  . exact b d.deep (iQ h (k:=8) rfl Tryz.sT Tryz.tH)
  . exact b d.name (iQ h (k:=9) rfl Tryz.sZ Tryz.tN)
  . exact b d.type (iQ h (k:=10) rfl Tryz.s3 Tryz.tP)
  . exact b d.clock (iQ h (k:=11) rfl Tryz.sS Tryz.tG)
  . exact b d.define (iQ h (k:=12) rfl Tryz.sU Tryz.tI)
  . exact b d.kn (iQ h (k:=13) rfl Tryz.sR Tryz.tF)
  . exact b d.k3 (iQ h (k:=14) rfl Tryz.sX Tryz.tL)
  . exact b d.mS (iQ h (k:=15) rfl Tryz.sV Tryz.tJ)
  exact b d.input (iQ h (k:=16) rfl Tryz.sW Tryz.tK)
 have A:∀i j,1<=i->i<=11->1<=j->j<=11->i≠j->n6 i≠n6 j:=by
  intro i j n o q r l e;have h1:=List.all_eq_true.1 (List.all_eq_true.1 LV i (List.mem_range.2 (by omega))) j (List.mem_range.2 (by omega));simp only[Bool.or_eq_true,beq_iff_eq,bne_iff_ne,ne_eq] at h1;rcases h1 with ((h1|h1)|h1)|h1
  . omega
  . omega
  . exact l h1
  exact h1 e
 refine⟨d.size,λi n o=>?_,λi j n o q r l e=>?_,LZ v⟩
 . obtain⟨s,c,t,p,w,u⟩:=m i n o;exact⟨c,t,u,ze u⟩
 obtain⟨D,F,t1,p,w,u⟩:=m i n o;obtain⟨E,G,t2,B,C,H⟩:=m j q r;rw[e,B] at p;have:E=D:=by injection p with p;injection p
 subst this;exact A i j n o q r l (w.symm.trans C)
end
section
open Go.ChangeShapes Go.WideShapes Go.ChangeAt Go.RowKit
theorem Tryz.BG:(prog.globals[18]?).map (·.type)=some 406:=by kernel_rfl
theorem Tryz.Ai:prog.cellsOf 406=20:=by kernel_rfl
theorem Tryz.Ao:prog.cellsOf 368=1:=by kernel_rfl
theorem LX:(Rows.laid_internal_strconv_uint64pow10:DataW Unit)=Lib.tabData .u64 Lib.pow10Tab:=by unfold Rows.laid_internal_strconv_uint64pow10 Lib.tabData Lib.pow10Tab;rfl
theorem LR {S:Xs}{W:Xw}(h:Gl S W)(g:laidMetH prog Rows.printsRow.laid W):Kn S W:=by refine⟨h,?_⟩;obtain⟨m,i,_,_⟩:=pD g;obtain⟨l,t,cs,a,p,b,c,e,f,j⟩:=r0 i (k:=3) (d:=Lib.tabData .u64 Lib.pow10Tab) (n:= "internal/strconv.uint64pow10") (by rw[<- LX];rfl);obtain rfl:=Option.some.inj (Tryz.ot.symm.trans b);obtain rfl:=Option.some.inj (Tryz.BG.symm.trans c);unfold Lib.TabIs;rw[e,<- Lib.cells_of_tab underlying406 underlying368 Tryz.Ao Tryz.Ai f]
theorem EG (m:Go.Os)(f:m.Started)(H:Type)(c:TypeId×Value->H) :
 ReturnsInHanded {} Tryz.checked m 3 .any (λw a=>(Rows.checksSpec.pre c prog Tryz.f3 [] false w a/\laidMetH prog Rows.checksRow.laid w)/\sizedMet c prog Tryz.f3 (OpenSpec.ofChange Rows.checksSpec) false w a)
  (Rows.checksSpec.post c prog Tryz.f3 false true false false):=by
 refine returnsInHanded_of_change_and (C:=Tryz.checked) (X:=λw _=>laidMetH prog Rows.checksRow.laid w) (λ_ _ _ O h=>h.of_heap O) Tryz.own f (by kernel_rfl) func3
  (ChangeSpec.witness_shaped (enc:=c) (C:=Tryz.checked) (os:=m) (X:=λw _=>laidMetH prog Rows.checksRow.laid w) false (World.doorLaid prog 314 m) #[.slice none 0 0] 8 rfl (World.shaped_of_RefB (by kernel_rfl) (by kernel_rfl)) (by kernel_rfl) (by kernel_rfl) (by kernel_rfl) (Jl m _)) ?_
 intro W n a L U B d J _ _ D _;have k:∀(j:Nat) t v,Tryz.f3.params[j]?=some t->a[j]?=some v->Value.okWide prog W .any n t v:=d;have l:=J;obtain⟨p,q,g,M,rfl,_,_⟩:=J;have G:DataW.TrodAll c prog W 0 (λ_=>true) true Tryz.f3.params.toList a.toList L p:=g;rw[params3] at G k;obtain⟨T,d0,rfl,rfl,F⟩:=trodAll_one G;obtain⟨rfl,rfl⟩:=trodVars_none M;obtain⟨K,z,o,rfl⟩:=okWide_slice underlying22 (k 0 22 T rfl rfl);clear g d;simp only[List.append_nil] at l;have r:∀x∈p,x.block<W.heap.size:=λx y=>by simpa using l.lt x (by simpa using y)
 have i:∀(A:Xw),xB W A->DataW.Trod c prog A 0 (λb=>decide (b<W.heap.size)) true 22 (.slice K z o) d0 p :=
  λA P=>Below.trod Tryz.laidOut (by kernel_rfl) (of_decide_eq_true (by kernel_rfl)) F P (λx y=>r x y)
 obtain⟨f0,E⟩:=F;obtain⟨R,g⟩:=C9 E (λx y=>r x y);have Q:21<=W.heap.size:=J7 D;obtain⟨S,I⟩:=D5 D Q;have u:=LY I D;refine (EB S W (LR I D) u.sn u.Ay _ R g).mono λe A ⟨N,s⟩=>?_;subst N;refine⟨_,rfl,_,_,_,[],p,[],l,?_,?_,rfl,s.frame _,λh=>by cases h⟩
 . exact trodAll_mk1 (shut_bool underlying4 true)
 exact trodAll_mk1 (i _ s)
theorem cV {a b:Bool}(c:a=true)(d:b=true):(a&&b)=true:=by rw[c,d];rfl
theorem nz:joinedFacts prog 3 Tryz.f3 Rows.checksSpec Rows.checksRow=true:=by unfold joinedFacts;exact (cV (cV (cV (cV (cV (cV (cV (cV (cV (cV (cV (cV (cV (cV (cV (cV (cV (cV (cV (cV (cV (cV (cV (cV (cV (cV (cV (cV (cV (cV (cV AX Tryz.laidOut) Tryz.Be) AY) AZ) A0) A1) A2) A3) A4) Gc) Gd) GL) GH) GC) GG) GJ) F9) GB) Ge) Gb) Ga) GD) GF) Tryz.heard) Tryz.enter) Gz) Gh) Gf) GK) GA) Gg)
theorem ED:Tryz.f3.isInstance prog Rows.checksRow.origin Rows.checksRow.targs:=of_decide_eq_true (by kernel_rfl)
theorem Ez:Tryz.f3.isWrapper prog Rows.checksRow.wrapper Rows.checksRow.mainSum:=by unfold Func.isWrapper;first|(rw[ag (by decide +kernel)];kernel_rfl)|(rw[ae (by decide +kernel)];exact⟨rfl,rfl⟩)
theorem vK:prog.funcNamed "cadence/cadencelaw.Checks"=some 3:=by kernel_rfl
theorem EU:Rows.ChecksSaid :=
 OpenClaim.holds_of_wide (p:=Tryz.pinned) (s:=Rows.checksSpec) (c:=Rows.checksRow) 3 Tryz.f3 rfl rfl rfl rfl rfl rfl rfl ⟨rfl,rfl,rfl,rfl,rfl⟩ rfl rfl rfl rfl rfl vK func3 nz ED Ez
  (λd a H b _=>EG d a H b)
theorem wz:Rows.checksRow.wfByText (OpenSpec.ofChange Rows.checksSpec)=true:=by kernel_rfl
theorem Tryz.main:prog.mainIs=some (true,"3baf10e29c05bfc998b679f4b4d3351ac191fc5a52c64653dab5a8c2e0ea024f".toList):=by kernel_rfl
theorem Tryz.Bc:true=prog.looks []:=by kernel_rfl
theorem Tryz.Bp:prog.wantsStandIn 22=false:=by kernel_rfl
theorem EE:false=Rows.checksRow.goesBy prog:=by kernel_rfl
theorem checks_holds:Rows.ChecksCardSaid :=
 Claim7.holds_tied_plain_at .later [] [.data,.data,.data,.data,.handle,.sentinel,.sentinel,.sentinel,.sentinel,.sentinel,.sentinel,.sentinel,.sentinel,.sentinel,.sentinel,.sentinel,.sentinel,.sentinel,.data,.data] true (true,"3baf10e29c05bfc998b679f4b4d3351ac191fc5a52c64653dab5a8c2e0ea024f") true
  EU (λ_ h=>by cases h) wz (λ_ h=>by cases h) checks_row_tie rfl ⟨rfl,rfl⟩ Tryz.main rfl
  (λf fn c a=>by
    obtain rfl:f=3:=Option.some.inj (vK.symm.trans c) |>.symm;obtain rfl:fn=Tryz.f3:=(Option.some.inj (func3.symm.trans a)).symm;exact⟨Tryz.Bc,λj t b=>by
     rw[params3] at b;rcases j with _|j
     . obtain rfl:22=t:=by simpa using b
       exact Tryz.Bp
     simp at b⟩)
  EE
end
end Go.Proofs.YtmfkofhgdjechaaGreatDoor
