/- Part 40 of the proof: GlD GlE GlG ErrA ErrB ErrC. -/
import Derived.Deep.MidRow
import Derived.LaidEql
import Derived.RowKitTokens
import Derived.Stop.Asserts
import Derived.Test.YtbicmofihhjgbaaGreatDoorK38
set_option maxRecDepth 100000
set_option maxHeartbeats 8000000
namespace Go.Proofs.YtbicmofihhjgbaaGreatDoor
open Go.Proofs.Tryz
section
open Go.RowKit
structure zlL (src:ByteArray) (c:Cd):Prop where
 ex:∃pre n fu gas f K,zlK src (pre++[n])/\zl2 fu gas f pre n K/\zcR (zcw (zcx K))=some c
 ok:zlx c
 fit:zd9 c.slots c.cells.length 0 c.row=some 0
theorem znW (l:List Nat)(h:∀x∈l,x<256):∀x∈zcw l,x<256:=by
 intro x hx;rcases List.mem_append.1 hx with hx|hx
 . exact h x hx
 . exact zgs _ x hx
theorem zkS (S:Nat->Addr)(src:ByteArray)(c:Cd)(h:zlL src c)(w:World)(hG:Gl S w)(hop:zbt w)(hS:zbW w) :
 xK 14 #[.string src] w (λe w'=>∃(m:Ma) (sv:Value),e=.returned (xP m.M)/\MM w' m sv c c.cells (List.replicate c.slots 0)/\w.heap.size<=m.N/\xB w w'):=by
 obtain⟨pre,n,fu,gas,f,K,hF,hC,hU⟩:=h.ex;have HCo:=za (zlg S src pre n hF fu gas f K hC w hG hop hS);have hlt:=znW _ (zjc K hC.ops);have hlen:(zcw (zcx K)).length=(zcx K).length+8:=by unfold zcw;rw[List.length_append,zgR]
 obtain⟨l,hl⟩:∃l,l=zcw (zcx K):=⟨_,rfl⟩;rw[<- hl] at HCo hU hlt hlen;have hne:l≠[]:=by intro e;rw[e] at hlen;simp at hlen
 have HLo:=za (λW (HB1:xB w W) v B (hR:BR B W v l)=>(by
  obtain⟨g,hy⟩:=hR.by hlt;obtain⟨x,cp,e,_⟩:=hy.ex;subst e
  exact zpJ S x cp g l c h.ok hU W (hG.of (T:=λ_=>False) (Fr.of_below HB1) (λ_ e=>e.elim)) (hS.old (zm HB1 (Nat.le_refl _)) hG.size) hy (hy.lt' hne) :
   xK 25 #[v] W (λe w'=>∃(m:Ma) (sv:Value),e=.returned (.tuple #[xP m.M,xI 0])/\MM w' m sv c c.cells (List.replicate c.slots 0)/\W.heap.size<=m.N/\xB W w')))
 go_enter func14,ntmps14
 go_wp2_with (first
  | (go_at_call 25;revert HR1;intro HR1;refine (HLo.o w1 HB1 _ _ HR1.o).mono ?_;rintro e w2 ⟨m,sv,rfl,HM,hN,hB2⟩;have HB2:=za (HB1.trans (hB2.mono hz1)))
  | (go_at_call 13;refine HCo.o.mono ?_;rintro e w1 ⟨v1,B,rfl,hR,hB0,HB1⟩;have hz1:=HB1.size;have HR1:=za hR))
 go_ret;exact⟨m,sv,rfl,HM,by omega,HB2.o⟩
def odd (x:Int):Bool:=x.tmod 2 != 0
theorem zjr (x:Int)(_hx:-9223372036854775808<=x/\x<=9223372036854775807)(w:World):xK 16 #[xI x] w (λe w'=>e=.returned (.bool (odd x))/\w=w'):=by go_enter func16,ntmps16;go_wp2_with fail;go_ret;exact⟨rfl,rfl⟩
def zbV (b:Bool):Int:=if b then 1 else 0
theorem zcm (b:Bool)(w:World):xK 18 #[.bool b] w (λe w'=>e=.returned (xI (zbV b))/\w=w'):=by
 cases b
 all_goals
  go_enter func18,ntmps18;go_wp2_with fail;go_ret;exact⟨rfl,rfl⟩
theorem zpN {fu gas f:Nat}{src:ByteArray}{K c:Cd}(hg:gas<=1000000)(hf:17*f<=100000)(h:zju fu gas f src=some K)(hu:zcR (zcw (zcx K))=some c)(ok:zlx c)(fit:zd9 c.slots c.cells.length 0 c.row=some 0):zlL src c:=by
 refine⟨?_,ok,fit⟩;unfold zju at h;simp only at h;split at h
 . rename_i hc
   split at h
   . cases h
   . rename_i ns hns
     unfold zo5 at h;split at h
     . cases h
     . rename_i n hn
       simp only at h;split at h
       . rename_i hb
         cases h;simp only[Bool.and_eq_true,decide_eq_true_eq,List.all_eq_true] at hb;obtain⟨⟨⟨⟨⟨⟨⟨b1,b2⟩,b3⟩,b4⟩,b5⟩,b6⟩,b7⟩,b8⟩:=hb;have hne:ns.dropLast++[n]=ns:=(by have hne':ns≠[]:=(by intro e;subst e;cases hn);have:=List.dropLast_concat_getLast hne';rw[List.getLast?_eq_some_getLast hne'] at hn;rw[<- Option.some.inj hn];exact this);refine⟨ns.dropLast,n,fu,gas,f,_,?_,⟨rfl,hg,hf,zqW b4,b7,b6,b5,b8⟩,hu⟩;rw[hne];exact⟨hc.1,hc.2.1,hc.2.2,hns,λn hn=>zhT (b1 n hn),b2,b3⟩
       . cases h
 . cases h
theorem zug (S:Nat->Addr)(m:Ma)(sv:Value)(c:Cd)(cells slots:List Int)(w:World)(v:Value)(g:Nat)(l:List Int)(hG:Gl S w)(H:MM w m sv c cells slots)(hl:Nm w v g l)(hg2:l≠[]->g≠m.b2)(hr:zdE c.bools l=none)(hfit:zd9 c.slots c.cells.length 0 c.row=some 0) :
 xK 21 #[xP m.M,v] w (λe w'=>∃ob sv',e=.returned (.tuple #[xS ob c.outs c.outs,xI 0])/\w.heap.size<=ob/\w'.heap[ob]?=some (.cells (zK (zcX c (zbm c cells l))).toArray 2 (0,0))/\MM w' m sv' c (zbm c cells l).cells (zbm c cells l).slots/\MFr m.mb m.b1 m.b2 w sv w' sv'):=by
 have HSt:=za (zjy S m.N m.mb m.cb m.b1 m.b2 m.bv m.cv m.rv sv c cells slots w v g l hG H.mc hl hg2 hr hfit);obtain⟨a0,af,az⟩:=zu H.blk;go_enter func21,ntmps21
 go_wp2_with (first
  | (go_at_call 27;refine (zmA _).mono ?_;rintro e w3 ⟨rfl,rfl⟩)
  | (go_at_call 33;refine HSt.o.mono ?_;rintro e w1 ⟨ob,sv',rfl,H1,H2,h3,H4,H5⟩))
 refine bodyPost_ret (v:=.tuple #[xS ob c.outs c.outs,xI 0]) (by simp[results,results21,go_sem]) rfl ⟨ob,sv',rfl,H1,H2,⟨?_,H4,H.m0,H.m1,H.m2,?_⟩,?_⟩
 . refine (H5.fr.block _ az ?_).trans H.blk;rintro (e|e|e|e)
   . exact H.m0 e
   . exact H.m1 e
   . exact H.m2 e
   . exact H.ms e
 . intro e;rcases H5.new _ e with e|e
   . exact H.ms e
   . omega
 . exact H5
theorem zul (S:Nat->Addr)(m:Ma)(sv:Value)(c:Cd)(cells slots:List Int)(w:World)(v:Value)(g:Nat)(l:List Int)(y:Int)(hG:Gl S w)(h:MM w m sv c cells slots)(hl:Nm w v g l)(hg2:l≠[]->g≠m.b2)(hr:zdE c.bools l=none)(hfit:zd9 c.slots c.cells.length 0 c.row=some 0)(h1:c.outs=1)(hy:zcX c (zbm c cells l)=[y]) :
 xK 17 #[xP m.M,v] w (λe w'=>∃sv',e=.returned (.tuple #[xI y,.bool true])/\MM w' m sv' c (zbm c cells l).cells (zbm c cells l).slots/\MFr m.mb m.b1 m.b2 w sv w' sv'):=by
 have HSt:=za (zug S m sv c cells slots w v g l hG h hl hg2 hr hfit);rw[h1,hy] at HSt;generalize zbm c cells l=R at *;go_enter func17,ntmps17;go_wp2_with (go_at_call 21;refine HSt.o.mono ?_;rintro e w1 ⟨ob,sv',rfl,q1,q2,Q3,Q4⟩;have q5:xH w1 ob #[xI y] 2:=q2;obtain⟨o0,of,oz⟩:=zu q5);refine bodyPost_ret (v:=.tuple #[xI y,.bool true]) (by simp[results,results17,go_sem]) rfl ⟨sv',rfl,Q3,Q4⟩
theorem zvB (m:Ma)(sv:Value)(c:Cd)(cells slots:List Int)(w:World)(h:MM w m sv c cells slots) :
 xK 20 #[xP m.M] w (λe w'=>e=.returned (xI c.bools.length)/\w=w'):=by
 have HI:=za (zec m.mb m.cb m.N _ _ _ m.bv m.cv m.rv c w h.mc.mem.blk h.mc.code);obtain⟨a0,af,az⟩:=zu h.blk;go_enter func20,ntmps20;go_wp2_with (go_at_call 32;refine HI.o.mono ?_;rintro e w1 ⟨rfl,rfl⟩);go_ret;exact⟨rfl,rfl⟩
theorem zwa (m:Ma)(sv:Value)(c:Cd)(cells slots:List Int)(w:World)(h:MM w m sv c cells slots) :
 xK 24 #[xP m.M] w (λe w'=>e=.returned (xI c.outs)/\w=w'):=by
 have HI:=za (zjL m.mb m.cb m.N _ _ _ m.bv m.cv m.rv c w h.mc.mem.blk h.mc.code);obtain⟨a0,af,az⟩:=zu h.blk;go_enter func24,ntmps24;go_wp2_with (go_at_call 35;refine HI.o.mono ?_;rintro e w1 ⟨rfl,rfl⟩);go_ret;exact⟨rfl,rfl⟩
theorem zw1 (m:Ma)(sv:Value)(c:Cd)(cells slots:List Int)(w:World)(H:MM w m sv c cells slots) :
 xK 22 #[xP m.M] w (λe w'=>e=.returned (.tuple #[])/\MM w' m sv c c.cells slots/\Fr (·=m.b1) w w'):=by
 have HI:=za (zm3 m.N m.mb m.cb m.b1 m.b2 m.bv m.cv m.rv sv c cells slots [] w H.mc);obtain⟨a0,af,az⟩:=zu H.blk;go_enter func22,ntmps22;go_wp2_with (go_at_call 34;refine HI.o.mono ?_;rintro e w1 ⟨rfl,H1,H2⟩);first|go_end0|refine bodyPost_ret (results_none rfl _ _ _) rfl ?_
 exact⟨rfl,⟨(H2.block _ az H.m1).trans H.blk,H1,H.m0,H.m1,H.m2,H.ms⟩,H2⟩
end
section
open Go.RowKit Go.Extern.Stop Go.Stop Go.Extern
theorem Tryz.isTypeOf (v:Value)(w:World):(Extern.ReflectliteType.typeOf #[.iface 324 v]).run prog w=.ok (.iface 245 (.agg #[.pointer (some (xD 21 324))])) w:=by kernel_rfl
def zxB:Array Value->Sem Value:=Extern.ReflectliteType.method λt=>do Extern.Rtype.noPackHeld "Comparable" t;pure (.bool (<- typeInfo t).comparable)
theorem Tryz.isMethodComparable (v:Value)(w:World):(Go.method 465 245 v "Comparable").run prog w=.ok (278,v) w:=by kernel_rfl
theorem Tryz.isMethodUnwrapP (v:Value)(w:World):(Go.method 465 169 v "Unwrap").run prog w=.ok (275,v) w:=by kernel_rfl
theorem Tryz.isMethodUnwrapF (v:Value)(w:World):(Go.method 465 71 v "Unwrap").run prog w=.ok (269,v) w:=by kernel_rfl
theorem Tryz.callCmp (args:Array Value)(w:World):(callFunc 278 args).run prog w=((zxB args).run prog w).andThen λv w'=>.ok (.value v) w':=run_callFunc_extern func278 (by kernel_rfl) (by kernel_rfl) (by kernel_rfl) (by kernel_rfl) args w
theorem Tryz.callTypeOf (args:Array Value)(w:World):(callFunc 141 args).run prog w=((Extern.ReflectliteType.typeOf args).run prog w).andThen λv w'=>.ok (.value v) w':=run_callFunc_extern func141 (by kernel_rfl) (by kernel_rfl) (by kernel_rfl) (by kernel_rfl) args w
theorem Tryz.isComparable (w:World):(zxB #[.agg #[.pointer (some (xD 21 324))]]).run prog w=.ok (.bool true) w:=by kernel_rfl
theorem Tryz.isComp:(prog.info? 324).map (·.comparable)=some true:=by kernel_rfl
theorem Tryz.isSize:(prog.info? 326).map (·.size)=some 1:=by kernel_rfl
theorem Tryz.noIsE (v:Value)(xT:TypeId)(w:World):(Instr.typeAssert (.iface 324 v) xT 285 true).run prog w=.ok (.tuple #[.nilIface,.bool false]) w:=run_typeAssert_lacksB underlying285 (by kernel_rfl) (by kernel_rfl) v xT w
theorem Tryz.noUnwrapE (v:Value)(xT:TypeId)(w:World):(Instr.typeAssert (.iface 324 v) xT 253 true).run prog w=.ok (.tuple #[.nilIface,.bool false]) w:=run_typeAssert_lacksB underlying253 (by kernel_rfl) (by kernel_rfl) v xT w
theorem Tryz.noUnwrapsE (v:Value)(xT:TypeId)(w:World):(Instr.typeAssert (.iface 324 v) xT 255 true).run prog w=.ok (.tuple #[.nilIface,.bool false]) w:=run_typeAssert_lacksB underlying255 (by kernel_rfl) (by kernel_rfl) v xT w
theorem Tryz.noIsP (v:Value)(xT:TypeId)(w:World):(Instr.typeAssert (.iface 169 v) xT 285 true).run prog w=.ok (.tuple #[.nilIface,.bool false]) w:=run_typeAssert_lacksB underlying285 (by kernel_rfl) (by kernel_rfl) v xT w
theorem Tryz.hasUnwrapP (v:Value)(xT:TypeId)(w:World):(Instr.typeAssert (.iface 169 v) xT 253 true).run prog w=.ok (.tuple #[.iface 169 v,.bool true]) w:=run_typeAssert_hasB underlying253 (by kernel_rfl) v xT w
theorem Tryz.noIsF (v:Value)(xT:TypeId)(w:World):(Instr.typeAssert (.iface 71 v) xT 285 true).run prog w=.ok (.tuple #[.nilIface,.bool false]) w:=run_typeAssert_lacksB underlying285 (by kernel_rfl) (by kernel_rfl) v xT w
theorem Tryz.hasUnwrapF (v:Value)(xT:TypeId)(w:World):(Instr.typeAssert (.iface 71 v) xT 253 true).run prog w=.ok (.tuple #[.iface 71 v,.bool true]) w:=run_typeAssert_hasB underlying253 (by kernel_rfl) v xT w
theorem zvv (p:ByteArray)(e:Value)(w:World):xK 275 #[.agg #[.string p,e]] w λr w'=>r=.returned e/\xB w w':=by go_enter func275,ntmps275;go_wp2;go_ret;refine⟨rfl,?_⟩;first|exact Below.refl _ _|exact zq w _
theorem zv2 (k e:Value)(w:World):xK 269 #[.agg #[k,e]] w λr w'=>r=.returned k/\xB w w':=by go_enter func269,ntmps269;go_wp2;go_ret;refine⟨rfl,?_⟩;first|exact Below.refl _ _|exact zq w _
theorem zxv (p:ByteArray)(a b:Addr)(at':Int)(r:Bool)(w:World)(HEq:∀W,xB w W->(binOp .eql 53 (.iface 324 (.pointer (some a))) (.iface 324 (.pointer (some b)))).run prog W=.ok (.bool r) W) :
 xK 77 #[zeQ p (.iface 71 (.agg #[.iface 324 (.pointer (some a)),xI at'])),.iface 324 (.pointer (some b))] w λe w'=>e=.returned (.bool r)/\xB w w':=by
 have h8:=Tryz.callTypeOf;have h32:=Tryz.callCmp;have mR:=Tryz.isMethodComparable;have mP:=Tryz.isMethodUnwrapP;have mF:=Tryz.isMethodUnwrapF;have tT:=Tryz.isTypeOf;have cT:=Tryz.isComparable;have nP:=Tryz.noIsP;have uP:=Tryz.hasUnwrapP;have nF:=Tryz.noIsF;have uF:=Tryz.hasUnwrapF;have nE:=Tryz.noIsE;have uE:=Tryz.noUnwrapE;have vE:=Tryz.noUnwrapsE;have eP:=λv v' W=>run_eql_iface_types (P:=prog) 169 324 v v' underlying53 (by decide) W;have eF:=λv v' W=>run_eql_iface_types (P:=prog) 71 324 v v' underlying53 (by decide) W;unfold zeQ;go_enter func77,ntmps77;go_wp2;refine wp_loop_rounds 3 ?_;rw[rounds_succ];go_wp2_with (go_at_call 275;refine (zvv _ _ _).mono ?_;rintro e w1 ⟨rfl,HB1⟩);rw[rounds_succ];go_wp2_with (go_at_call 269;refine (zv2 _ _ _).mono ?_;rintro e w2 ⟨rfl,HB2⟩);have HB3:=za (HB1.trans (HB2.mono HB1.size));have he:=HEq w2 HB3.o;rw[rounds_succ];cases r with
 | true => go_wp2;go_ret;exact⟨rfl,HB3.o⟩
 | false => go_wp2;go_ret;exact⟨rfl,HB3.o⟩
theorem Tryz.valueOfP (t:Addr)(w:World):(ReflectliteValue.unpack (.iface 73 (.pointer (some t)))).run prog w
 = .ok (.agg #[.pointer (some (xD 21 73)),xP w.heap.size,.int .u64 150]) (w.alloc (.cells #[.pointer (some t)] 73)):=by kernel_rfl
theorem Tryz.typeP (a:Addr)(w:World):(ReflectliteValue.methodAny (ReflectliteValue.valueError "reflectlite.Value.Type" 0) (λt _ _ _=>ReflectliteType.toType t) #[.agg #[.pointer (some (xD 21 73)),.pointer (some a),.int .u64 150]]).run prog w
 = .ok (.iface 245 (.agg #[.pointer (some (xD 21 73))])) w:=by kernel_rfl
theorem Tryz.methodKind (h:Value)(w:World):(Go.method 465 245 (.agg #[h]) "Kind").run prog w=.ok (265,h) w:=by kernel_rfl
theorem Tryz.methodElem (h:Value)(w:World):(Go.method 465 245 (.agg #[h]) "Elem").run prog w=.ok (279,.agg #[h]) w:=by kernel_rfl
theorem Tryz.methodImplements (h:Value)(w:World):(Go.method 465 245 (.agg #[h]) "Implements").run prog w=.ok (280,.agg #[h]) w:=by kernel_rfl
theorem Tryz.methodAssignableTo (h:Value)(w:World):(Go.method 465 245 (.agg #[h]) "AssignableTo").run prog w=.ok (277,.agg #[h]) w:=by kernel_rfl
theorem Tryz.kindP (w:World):((ReflectliteType.abiMethod λt=>(λa:Nat=>Value.int IntKind.u8 (a:Int)) <$> Rtype.kind t) #[.pointer (some (xD 21 73))]).run prog w=.ok (.int .u8 22) w:=by kernel_rfl
theorem Tryz.kindF (w:World):((ReflectliteType.abiMethod λt=>(λa:Nat=>Value.int IntKind.u8 (a:Int)) <$> Rtype.kind t) #[.pointer (some (xD 21 71))]).run prog w=.ok (.int .u8 25) w:=by kernel_rfl
theorem Tryz.elemP (w:World):(ReflectliteType.method ReflectliteType.elem #[.agg #[.pointer (some (xD 21 73))]]).run prog w=.ok (.iface 245 (.agg #[.pointer (some (xD 21 71))])) w:=by kernel_rfl
theorem Tryz.implementsF (w:World):(ReflectliteType.relation "Implements" ReflectliteType.implements_ #[.agg #[.pointer (some (xD 21 71))],.iface 245 (.agg #[.pointer (some (xD 21 53))])]).run prog w=.ok (.bool true) w:=by kernel_rfl
theorem Tryz.typeOfF (v:Value)(w:World):(ReflectliteType.typeOf #[.iface 71 v]).run prog w=.ok (.iface 245 (.agg #[.pointer (some (xD 21 71))])) w:=by kernel_rfl
theorem Tryz.typeOfPs (v:Value)(w:World):(ReflectliteType.typeOf #[.iface 169 v]).run prog w=.ok (.iface 245 (.agg #[.pointer (some (xD 21 169))])) w:=by kernel_rfl
theorem Tryz.assignableF (w:World):(ReflectliteType.relation "AssignableTo" ReflectliteType.assignableTo #[.agg #[.pointer (some (xD 21 71))],.iface 245 (.agg #[.pointer (some (xD 21 71))])]).run prog w=.ok (.bool true) w:=by kernel_rfl
theorem Tryz.assignableP (w:World):(ReflectliteType.relation "AssignableTo" ReflectliteType.assignableTo #[.agg #[.pointer (some (xD 21 169))],.iface 245 (.agg #[.pointer (some (xD 21 71))])]).run prog w=.ok (.bool false) w:=by kernel_rfl
theorem Tryz.valueOfF (k e:Value)(w:World):(ReflectliteValue.unpack (.iface 71 (.agg #[k,e]))).run prog w
 = .ok (.agg #[.pointer (some (xD 21 71)),xP w.heap.size,.int .u64 153]) (w.alloc (.cells #[k,e] 71)):=by kernel_rfl
theorem Tryz.noAsP (v:Value)(xT:TypeId)(w:World):(Instr.typeAssert (.iface 169 v) xT 250 true).run prog w=.ok (.tuple #[.nilIface,.bool false]) w:=run_typeAssert_lacksB underlying250 (by kernel_rfl) (by kernel_rfl) v xT w
theorem rlm (z:Sem Value)(f:TypeId->Addr->Nat->Nat->Sem Value)(v:Value) :
 ReflectliteValue.method z f #[v]=(do match <- ReflectliteValue.parts v with|none=>z|some (t,a,fl)=>f t a fl (fl % 32)):=rfl
theorem Tryz.partsP (a:Addr)(w:World):(ReflectliteValue.parts (.agg #[.pointer (some (xD 21 73)),.pointer (some a),.int .u64 150])).run prog w=.ok (some (73,a,150)) w:=by kernel_rfl
theorem Tryz.isNilP (a p:Addr)(W:World)(ha:W.cell? a=some (.pointer (some p))) :
 (ReflectliteValue.method (ReflectliteValue.valueError "reflectlite.Value.IsNil" 0) ReflectliteValue.isNil #[.agg #[.pointer (some (xD 21 73)),.pointer (some a),.int .u64 150]]).run prog W=.ok (.bool false) W:=by
 rw[rlm];simp only[Sem.run_bind,Tryz.partsP,Result.andThen];simp[ReflectliteValue.isNil,loadVar,isAgg,underlying,underlying73,ha,Result.andThen]
theorem Tryz.elemOfP (w:World):(Rtype.elem? 73).run prog w=.ok (some 71) w:=by kernel_rfl
theorem Tryz.mkF (p:Addr)(w:World):(ReflectliteValue.mk 71 p ReflectliteValue.flagAddr).run prog w=.ok (.agg #[.pointer (some (xD 21 71)),.pointer (some p),.int .u64 409]) w:=by kernel_rfl
theorem Tryz.elemVP (a p:Addr)(W:World)(ha:W.cell? a=some (.pointer (some p))) :
 (ReflectliteValue.method (ReflectliteValue.valueError "reflectlite.Value.Elem" 0) ReflectliteValue.elem #[.agg #[.pointer (some (xD 21 73)),.pointer (some a),.int .u64 150]]).run prog W
   = .ok (.agg #[.pointer (some (xD 21 71)),.pointer (some p),.int .u64 409]) W:=by
 rw[rlm];simp only[Sem.run_bind,Tryz.partsP,Result.andThen];simp[ReflectliteValue.elem,loadVar,isAgg,underlying,underlying73,ha,Result.andThen,Tryz.elemOfP,Tryz.mkF]
theorem rls (v x:Value):ReflectliteValue.set #[v,x]=(do
 let (some (dst,a,fl),some (src,b,_)):=(<- ReflectliteValue.parts v,<- ReflectliteValue.parts x)
  | unsupported (.noEntry "extern/(internal/reflectlite.Value).Set.zeroValue")
 if fl / ReflectliteValue.flagAddr % 2==0 then unsupported (.noEntry "extern/(internal/reflectlite.Value).Set.unaddressable")
 let val <- loadVar src b
 if <- Rtype.directlyAssignable dst src then storeVar dst a val
 else if <- Rtype.implements dst src then
  if (<- Rtype.kind src)==20 then
   match val with
   | .nilIface=>unsupported (.noEntry "extern/reflectlite: a nil value of one interface type handed on as a value of another")
   | _=>storeVar dst a val
  else storeVar dst a (.iface src val)
 else panicString ("reflectlite.Set: value of type "++(<- Rtype.spelt src)++ " is not assignable to type "++(<- Rtype.spelt dst))
 pure (.tuple #[])):=rfl
theorem Tryz.partsFa (a:Addr)(w:World):(ReflectliteValue.parts (.agg #[.pointer (some (xD 21 71)),.pointer (some a),.int .u64 409])).run prog w=.ok (some (71,a,409)) w:=by kernel_rfl
theorem Tryz.partsF (a:Addr)(w:World):(ReflectliteValue.parts (.agg #[.pointer (some (xD 21 71)),.pointer (some a),.int .u64 153])).run prog w=.ok (some (71,a,153)) w:=by kernel_rfl
theorem Tryz.directF (w:World):(Rtype.directlyAssignable 71 71).run prog w=.ok true w:=by kernel_rfl
theorem Tryz.aggF (w:World):(isAgg 71).run prog w=.ok true w:=by kernel_rfl
theorem Tryz.sizeF (w:World):(sizeOf 71).run prog w=.ok 2 w:=by kernel_rfl
theorem Tryz.setF (ta b:Nat)(k e o1 o2:Value)(W:World)(hk:k.oneCell'=true)(he:e.oneCell'=true)(hb:xH W b #[k,e] 71)(ht:xH W ta #[o1,o2] 71) :
 (ReflectliteValue.set #[.agg #[.pointer (some (xD 21 71)),xP ta,.int .u64 409],.agg #[.pointer (some (xD 21 71)),xP b,.int .u64 153]]).run prog W
   = .ok (.tuple #[]) ((W.setCell (xD ta 0) k).setCell (xD ta 1) e):=by
 have hl:(loadVar 71 (xD b 0)).run prog W=.ok (.agg #[k,e]) W:=by
  have h0:=run_loadCells_list (P:=prog) W (xD b 0) [k,e] (λj v hj=>by
   obtain⟨c0,c1,_,_⟩:=zp hb;rcases j with _|_|j
   . simp at hj;subst hj;exact c0
   . simp at hj;subst hj;exact c1
   . simp at hj)
  have h1:(loadCells (xD b 0) 2).run prog W=.ok #[k,e] W:=h0;unfold loadVar;simp only[Sem.run_bind,Tryz.aggF,Tryz.sizeF,Result.andThen,if_true,h1];rfl
 have hs:(storeVar 71 (xD ta 0) (.agg #[k,e])).run prog W=.ok () ((W.setCell (xD ta 0) k).setCell (xD ta 1) e):=by
  refine run_storeVar_mid (P:=prog) W ta 0 71 #[k,e] (λj hj=>?_) (by kernel_rfl) (by simp[hk,he]);obtain⟨c0,c1,cf,_⟩:=zp ht;have hj2:j<2:=hj;rcases j with _|_|j
  . exact⟨by rw[Nat.zero_add,c0];rfl,cf _⟩
  . exact⟨by rw[Nat.zero_add,c1];rfl,cf _⟩
  . omega
 rw[rls];simp only[Sem.run_bind,Tryz.partsFa,Tryz.partsF,Result.andThen];simp[ReflectliteValue.flagAddr,hl,Tryz.directF,hs]
def ErT (w:World):Prop:=w.cell? (xD 7 0)=some (.iface 245 (.agg #[.pointer (some (xD 21 53))]))
theorem zxw (p:ByteArray)(k:Value)(at':Int)(hk:k.oneCell'=true)(tb:Nat)(o1 o2:Value)(w:World)(hT:ErT w)(ht:w.heap[tb]?=some (.cells #[o1,o2] 71 (0,0))) :
 xK 39 #[zeQ p (.iface 71 (.agg #[k,xI at'])),.iface 73 (xP tb)] w λe w'=>e=.returned (.bool true)/\w'.heap[tb]?=some (.cells #[k,xI at'] 71 (0,0))/\Fr (λj=>j=tb) w w':=by
 have htb:=ze ht;have h50:∀args w,(callFunc 73 args).run prog w=(((λargs=>ReflectliteValue.unpack (args.getD 0 (.tuple #[]))) args).run prog w).andThen λv w'=>.ok (.value v) w':=run_callFunc_extern func73 (by kernel_rfl) (by kernel_rfl) (by kernel_rfl) (by kernel_rfl);have h51:=@run_callFunc_extern prog 74 _ (ReflectliteValue.methodAny (ReflectliteValue.valueError "reflectlite.Value.Type" 0) (λt _ _ _=>ReflectliteType.toType t)) func74 (by kernel_rfl) (by kernel_rfl) (by kernel_rfl) (by kernel_rfl);have h52:=@run_callFunc_extern prog 75 _ (ReflectliteValue.method (ReflectliteValue.valueError "reflectlite.Value.IsNil" 0) ReflectliteValue.isNil) func75 (by kernel_rfl) (by kernel_rfl) (by kernel_rfl) (by kernel_rfl);have hKd:=@run_callFunc_extern prog 265 _ (ReflectliteType.abiMethod λt=>do pure (.int .u8 (<- Rtype.kind t))) func265 (by kernel_rfl) (by kernel_rfl) (by kernel_rfl) (by kernel_rfl);have hEl:=@run_callFunc_extern prog 279 _ (ReflectliteType.method ReflectliteType.elem) func279 (by kernel_rfl) (by kernel_rfl) (by kernel_rfl) (by kernel_rfl);have hIm:=@run_callFunc_extern prog 280 _ (ReflectliteType.relation "Implements" ReflectliteType.implements_) func280 (by kernel_rfl) (by kernel_rfl) (by kernel_rfl) (by kernel_rfl);have hTo:=Tryz.callTypeOf;have hAs:=@run_callFunc_extern prog 277 _ (ReflectliteType.relation "AssignableTo" ReflectliteType.assignableTo) func277 (by kernel_rfl) (by kernel_rfl) (by kernel_rfl) (by kernel_rfl);have hVe:=@run_callFunc_extern prog 142 _ (ReflectliteValue.method (ReflectliteValue.valueError "reflectlite.Value.Elem" 0) ReflectliteValue.elem) func142 (by kernel_rfl) (by kernel_rfl) (by kernel_rfl) (by kernel_rfl);have hSe:=@run_callFunc_extern prog 143 _ ReflectliteValue.set func143 (by kernel_rfl) (by kernel_rfl) (by kernel_rfl) (by kernel_rfl);have mP:=Tryz.isMethodUnwrapP;have tF:=Tryz.typeOfF;have tP:=Tryz.typeOfPs;have mA:=Tryz.methodAssignableTo;have aF:=Tryz.assignableF;have aP:=Tryz.assignableP;have vF:=Tryz.valueOfF;have vP:=Tryz.valueOfP;have yP:=Tryz.typeP;have mK:=Tryz.methodKind;have mE:=Tryz.methodElem;have mI:=Tryz.methodImplements;have kP:=Tryz.kindP;have kF:=Tryz.kindF;have eP:=Tryz.elemP;have iF:=Tryz.implementsF;have nP:=Tryz.noAsP;have uP:=Tryz.hasUnwrapP;have h1:7<w.heap.size:=World.block_lt_of_cell? w (xD 7 0) hT;have hNi:=Tryz.isNilP (xD w.heap.size 0) (xD tb 0) ((w.alloc (.cells #[xP tb] 73)).alloc (.cells #[.pointer (some (xD 21 73)),xP w.heap.size,.int .u64 150] 158)) (by simp);have hg2:((w.alloc (.cells #[xP tb] 73)).alloc (.cells #[.pointer (some (xD 21 73)),xP w.heap.size,.int .u64 150] 158)).cell? (xD 7 0)=some (.iface 245 (.agg #[.pointer (some (xD 21 53))])):=zj _ (zj _ hT);unfold zeQ;go_enter func39,ntmps39;go_wp2;refine zn (λW=>(xB w W)/\w.heap.size+3<=W.heap.size/\W.heap[w.heap.size]?=some (.cells #[xP tb] 73 (0,0))/\W.heap[w.heap.size+2]?=some (.cells #[.pointer (some (xD 21 73)),xP w.heap.size,.int .u64 150] 158 (0,0))) ⟨zaU (zaU (zq w _) (Nat.le_refl _) _) (Nat.le_refl _) _,by simp,?_,?_⟩ ?_
 . rw[Below.heap_alloc _ _ _ (by simp;omega),Below.heap_alloc _ _ _ (by simp)];exact zc w _
 . have h9:=zc ((w.alloc (.cells #[xP tb] 73)).alloc (.cells #[.pointer (some (xD 21 73)),xP w.heap.size,.int .u64 150] 158)) (.cells #[.pointer (some (xD 21 73)),xP w.heap.size,.int .u64 150] 158);rw[zsb,zsb] at h9;exact h9
 rintro W0 ⟨HB0,hz0,HA0,HV0⟩;clear hNi hg2;obtain⟨v0,v1,v2,vf,vz⟩:=zL HV0;refine wp_loop_rounds 2 ?_;rw[rounds_succ];go_wp2_with (go_at_call 275;refine (zvv _ _ _).mono ?_;rintro e w1 ⟨rfl,HB1⟩);have hz1:=HB1.size;have hA1:=(HB1.block w.heap.size (by omega)).trans HA0;obtain⟨y0,y1,y2,yf,yz⟩:=zL ((HB1.block (w.heap.size+2) (by omega)).trans HV0);have Ht1:=(HB1.block tb (by have:=HB0.size;omega)).trans ((HB0.block tb htb).trans ht);have hE1:=Tryz.elemVP (xD w.heap.size 0) (xD tb 0) w1 (zu hA1).1;have hS1:=Tryz.setF tb w1.heap.size k (xI at') o1 o2 (w1.alloc (.cells #[k,xI at'] 71)) hk rfl (zc w1 _) ((Below.heap_alloc _ _ _ (ze Ht1)).trans Ht1);have hzt:=ze Ht1;clear v0 v1 v2 hA1;rw[rounds_succ];go_wp2;go_ret;refine⟨rfl,?_,?_⟩
 . exact (Below.heap_alloc _ _ _ (by simpa [World.setCell] using hzt)).trans (zdR Ht1 k (xI at'))
 . exact (((((Fr.of_below HB0).trans' (Fr.of_below (S:=λj=>j=tb) HB1) (λ_ _ e=>e)).setCell (Or.inl rfl) k).setCell (Or.inl rfl) _).alloc _)
end
end Go.Proofs.YtbicmofihhjgbaaGreatDoor
