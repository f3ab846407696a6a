/- Part 4 of the proof: App AppW CodV MdlN MdlN2 CofA. -/
import Derived.Deep.CutBlock
import Derived.Deep.DeepCutAuto
import Derived.Deep.LoopGhost
import Derived.Deep.RegionLaw
import Derived.Test.YtbicmofihhjgbaaGreatDoorK02
set_option maxRecDepth 100000
set_option maxHeartbeats 8000000
namespace Go.Proofs.YtbicmofihhjgbaaGreatDoor
open Go.Proofs.Tryz
section
open Go.RowKit
variable {a:Act} {K:Act->World->Prop} {Q:Exit->Act->World->Prop} {xs:List Value} {base n size:Nat} {o:Oper} {e:TypeId} {v:Value} {w:World}
theorem zR {base':Nat}(h:w.ownsRow base e size v n xs)(hb:base'<=base):w.ownsRow base' e size v n xs:=by
 obtain⟨h1,h2⟩:=h;refine⟨h1,?_⟩;rcases h2 with h2|⟨g,cap,cur,hv,hg,r⟩
 . exact Or.inl h2
 . exact Or.inr ⟨g,cap,cur,hv,Nat.le_trans hb hg,r⟩
theorem zi {w':World}(h:w.ownsRow base e size v n xs)(hk:∀k,base<=k->k<w.heap.size->v.ownBlock=some k->w'.heap[k]?=w.heap[k]?):w'.ownsRow base e size v n xs:=by
 obtain⟨h1,h2⟩:=h;refine⟨h1,?_⟩;rcases h2 with h2|⟨g,cap,cur,hv,hg,hh,r⟩
 . exact Or.inl h2
 . refine Or.inr ⟨g,cap,cur,hv,hg,?_,r⟩;have hlt:g<w.heap.size:=by
    rcases Nat.lt_or_ge g w.heap.size with h|h
    . exact h
    . rw[Array.getElem?_eq_none h] at hh;cases hh
   rw[hk g hg hlt (by rw[hv];rfl),hh]
theorem zN {W:World}{b:Nat}{c:Array Value}{f:Nat×Nat}{news:List Value}(h:W.heap[b]?=some (.cells c e f))(hc:c.toList=news):∀(j:Nat) (u:Value),news[j]?=some u->W.cell? (((xD b 0):Addr).add j)=some u:=by
 intro j u hj;subst hc;have e0:((xD b 0):Addr).add j=⟨b,j,none⟩:=by cases j <;> simp[Addr.add]
 rw[e0];simp[World.cell?,h];simpa using hj
theorem zM (h:w.ownsRow base e size v n xs)(hn:0<n):∃g cap,v=xS g n cap/\base<=g:=by
 rcases h.2 with ⟨_,h⟩|⟨g,cap,_,h,hb,_⟩
 . omega
 . exact⟨g,cap,h,hb⟩
theorem zD {e:Nat}(h:w.ownsRow base e size v n xs)(o:Obj):(w.alloc o).ownsRow base e size v n xs:=zi h (λk _ hk _=>Below.heap_alloc w o k hk)
section
variable {P:Program} (w:World)
theorem zha (base:Nat)(t ty e:TypeId)(i:TypeInfo)(z:Value)(size bytes:Nat)(ht:P.underlying t=some (.slice e))(hi:P.info? e=some i)(hz:i.zero=some z)
 (hsize:i.size=size) (hby:i.bytes=bytes) (hzs:z.cells.size=size) (hsz:0<size)
 (v:Value) (n:Nat) (xs:List Value) (hown:w.ownsRow base e size v n xs)
 (a:Addr) (m c:Nat) (news:List Value) (hl:news.length=m*size) (hnews:∀j u,news[j]?=some u->w.cell? (a.add j)=some u) (h1:∀u∈news,u.oneCell'=true)
 (h63:n+m<=maxLen) (hbytes:(n+m)*bytes<=140737488355328) (hbase:base<=w.heap.size) :
 ∃v' w',(Builtin.append_ #[t,t] ty #[v,.slice (some a) m c]).run P w=.ok v' w'/\w'.ownsRow base e size v' (n+m) (xs++news)/\w.grownBy w' v.ownBlock /\
  ∀k,v'.ownBlock=some k->v.ownBlock=some k∨w.heap.size<=k:=by
 rcases hown.2 with ⟨rfl,rfl⟩|⟨g,cap,cur,rfl,hbg,hg,hnc,hcm,hcs,htake⟩
 . have hx:xs=[]:=List.eq_nil_of_length_eq_zero (by simpa using hown.1);subst hx;obtain⟨v',w',hr,h2,h3,_⟩:=run_append_own (P:=P) w w.heap.size t ty e i z size bytes ht hi hz hsize hby hzs hsz _ 0 [] (World.ownsRow_nil w _ e size) a m c news hl hnews h1 h63 hbytes (Nat.le_refl _);exact⟨v',w',hr,zR h2 hbase,h3,λk hk=>Or.inr (h2.lt k hk).1⟩
 . by_cases hroom:n+m<=cap
   . obtain⟨w',hr,h2,h3⟩:=run_append_fits (P:=P) w base t ty e i size ht hi hsize g n cap xs hown a m c news hl hnews h1 hroom;exact⟨_,w',hr,h2,h3,λk hk=>Or.inl hk⟩
   . obtain⟨v',w',hr,h2,h3⟩:=run_append_arg_grows (P:=P) w t ty e i z size bytes ht hi hz hsize hby hzs hsz (xD g 0) n cap xs hown.1 (hown.cells (g:=g) rfl) a m c news hl hnews (by omega) h63 hbytes;exact⟨v',w',hr,zR h2 hbase,⟨h3.os,h3.tape,h3.output,h3.size,λk hk _=>h3.block k hk (by simp)⟩,λk hk=>Or.inr (h2.lt k hk).1⟩
theorem zfG (s x:Operand)(t:TypeId)
 (ho:o.op=.call { callee:=.builtin .append,args:=#[s,x],argTypes:=#[t,t] })
 (base:Nat) (e:TypeId) (i:TypeInfo) (z:Value) (size bytes:Nat) (ht:P.underlying t=some (.slice e)) (hi:P.info? e=some i) (hz:i.zero=some z)
 (hsize:i.size=size) (hby:i.bytes=bytes) (hzs:z.cells.size=size) (hsz:0<size)
 (v:Value) (n:Nat) (xs:List Value) (hs:a.eval s=v) (hown:w.ownsRow base e size v n xs)
 (ad:Addr) (m c:Nat) (news:List Value) (hx:a.eval x=.slice (some ad) m c) (hl:news.length=m*size) (hnews:∀j u,news[j]?=some u->w.cell? (ad.add j)=some u) (h1:∀u∈news,u.oneCell'=true)
 (h63:n+m<=maxLen) (hbytes:(n+m)*bytes<=140737488355328) (hbase:base<=w.heap.size)
 (h:∀v' w',w'.ownsRow base e size v' (n+m) (xs++news)->w.grownBy w' v.ownBlock->(∀k,v'.ownBlock=some k->v.ownBlock=some k∨w.heap.size<=k)->K (a.put o.dst v') w'):o.wp P a w K Q:=by
 obtain⟨v',w',hr,h2,h3,h4⟩:=zha (P:=P) w base t o.type e i z size bytes ht hi hz hsize hby hzs hsz v n xs hown ad m c news hl hnews h1 h63 hbytes hbase;unfold Oper.wp execOp;simp only[ho,resolve,invoke,builtin,Sem.run_bind,Sem.run_pure,Result.andThen_ok,List.map_toArray,List.map_cons,List.map_nil,hs,hx,hr];exact h v' w' h2 h3 h4
theorem zJ {ops:Array Oper}{E:Prop}
 (hg:o.guard=none) (s x:Operand) (t:TypeId) (ho:o.op=.call { callee:=.builtin .append,args:=#[s,x],argTypes:=#[t,t] })
 (base:Nat) (e:TypeId) (i:TypeInfo) (z:Value) (size bytes:Nat) (ht:P.underlying t=some (.slice e)) (hi:P.info? e=some i) (hz:i.zero=some z)
 (hsize:i.size=size) (hby:i.bytes=bytes) (hzs:z.cells.size=size) (hsz:0<size)
 (v:Value) (n:Nat) (xs:List Value) (hs:a.eval s=v) (hown:w.ownsRow base e size v n xs)
 (ad:Addr) (m c:Nat) (news:List Value) (hx:a.eval x=.slice (some ad) m c) (hl:news.length=m*size) (hnews:∀j u,news[j]?=some u->w.cell? (ad.add j)=some u) (h1:∀u∈news,u.oneCell'=true)
 (h63:n+m<=maxLen) (hbytes:(n+m)*bytes<=140737488355328) (hbase:base<=w.heap.size)
 (h:∀v' w',w'.ownsRow base e size v' (n+m) (xs++news)->w.grownBy w' v.ownBlock->(∀k,v'.ownBlock=some k->v.ownBlock=some k∨w.heap.size<=k)->K (a.put o.dst v') w') :
 if Region.wanted o (yielded ops a.tmps)=true then Oper.wp P o a w K Q else E:=by
 have hw:Region.wanted o (yielded ops a.tmps)=true:=by simp[Region.wanted,hg]
 rw[if_pos hw];exact zfG w s x t ho base e i z size bytes ht hi hz hsize hby hzs hsz v n xs hs hown ad m c news hx hl hnews h1 h63 hbytes hbase h
end
end
section
open Go.RowKit
variable {a:Act} {K:Act->World->Prop} {ops:Array Oper} {Q:Exit->Act->World->Prop} {o:Oper} {P:Program} {E:Prop} {w w':World}
theorem zbz (w:World){rest:List Oper}(hgd:o.guard=none)(s x:Operand)(t:TypeId)
 (ho:o.op=.call { callee:=.builtin .append,args:=#[s,x],argTypes:=#[t,t] })
 (base:Nat) (e:TypeId) (i:TypeInfo) (z:Value) (size bytes:Nat) (ht:P.underlying t=some (.slice e)) (hi:P.info? e=some i) (hz:i.zero=some z)
 (hsize:i.size=size) (hby:i.bytes=bytes) (hzs:z.cells.size=size) (hsz:0<size)
 (v:Value) (n:Nat) (xs:List Value) (hs:a.eval s=v) (hown:w.ownsRow base e size v n xs)
 (ad:Addr) (m c:Nat) (news:List Value) (hx:a.eval x=.slice (some ad) m c) (hl:news.length=m*size) (hnews:∀j u,news[j]?=some u->w.cell? (ad.add j)=some u) (h1:∀u∈news,u.oneCell'=true)
 (h63:n+m<=maxLen) (hbytes:(n+m)*bytes<=140737488355328) (hbase:base<=w.heap.size)
 (h:∀v' w',w'.ownsRow base e size v' (n+m) (xs++news)->w.grownBy w' v.ownBlock->(∀k,v'.ownBlock=some k->v.ownBlock=some k∨w.heap.size<=k)->wpList P ops Q rest (a.put o.dst v') w'):wpList P ops Q (o::rest) a w :=
 wpList_plain hgd λ_ hK=>zfG w s x t ho base e i z size bytes ht hi hz hsize hby hzs hsz v n xs hs hown ad m c news hx hl hnews h1 h63 hbytes hbase λv' w' h2 h3 h4=>hK _ _ (h v' w' h2 h3 h4)
theorem Fr.of_grown {row:Option Nat}(h:w.grownBy w' row):Fr (λk=>row=some k) w w':=⟨h.os,h.tape,h.output,h.size,λk hk hn=>h.block k hk (λe=>hn e.symm)⟩
theorem zbP {B n:Nat}{e:TypeId}{vs:Value}{xs:List Value}(h:w.ownsRow B e 1 vs n xs):∃x cp,vs=.slice x n cp:=by
 rcases h.2 with ⟨h1,h2⟩|⟨g,cap,cur,h1,_⟩
 . exact⟨none,0,by rw[h1,h2]⟩
 . exact⟨_,cap,h1⟩
theorem zf8 
 (hg:o.guard=none) (f:FuncId) (xs:Array Operand) (ats:Array TypeId) (ho:o.op=.call { callee:=.value (.func f),args:=xs,argTypes:=ats })
 (hcf:∀(args:Array Value) (w:World),(callFunc f args).run P w=.ok (.enter f args) w) (args:Array Value) (ha:#[]++xs.map a.eval++#[]=args) {R:Ending->World->Prop} (h:Calls P f args w R)
 (hR:∀e w',R e w'->∃v,e=.returned v/\K (a.put o.dst v) w'):if Region.wanted o (yielded ops a.tmps)=true then Oper.wp P o a w K Q else E:=by
 have hw:Region.wanted o (yielded ops a.tmps)=true:=by simp[Region.wanted,hg]
 rw[if_pos hw];obtain⟨dst,op,ty,pos,after,guard⟩:=o;simp only at ho hg;subst ho hg;unfold Oper.wp;rw[execOp_call_go,ha,hcf,Oper.upon_enter];refine h.mono ?_;intro e w' hr;obtain⟨v,rfl,hk⟩:=hR e w' hr;exact hk
theorem zbL 
 (hg:o.guard=none) (f:FuncId) (x:Operand) (t:TypeId) (ho:o.op=.call { callee:=.value (.func f),args:=#[x],argTypes:=#[t] })
 (hcf:∀(args:Array Value) (w:World),(callFunc f args).run P w=.ok (.enter f args) w) (v:Value) (hx:a.eval x=v) {R:Ending->World->Prop} (h:Calls P f #[v] w R)
 (hR:∀e w',R e w'->∃v,e=.returned v/\K (a.put o.dst v) w'):if Region.wanted o (yielded ops a.tmps)=true then Oper.wp P o a w K Q else E :=
 zf8 hg f #[x] #[t] ho hcf #[v] (by simp[hx]) h hR
theorem zde 
 (hg:o.guard=none) (f:FuncId) (x y:Operand) (t u:TypeId) (ho:o.op=.call { callee:=.value (.func f),args:=#[x,y],argTypes:=#[t,u] })
 (hcf:∀(args:Array Value) (w:World),(callFunc f args).run P w=.ok (.enter f args) w) (v v':Value) (hx:a.eval x=v) (hy:a.eval y=v') {R:Ending->World->Prop} (h:Calls P f #[v,v'] w R)
 (hR:∀e w',R e w'->∃v,e=.returned v/\K (a.put o.dst v) w'):if Region.wanted o (yielded ops a.tmps)=true then Oper.wp P o a w K Q else E :=
 zf8 hg f #[x,y] #[t,u] ho hcf #[v,v'] (by simp[hx,hy]) h hR
theorem zkN 
 (hg:o.guard=none) (f:FuncId) (x y z:Operand) (t u s:TypeId) (ho:o.op=.call { callee:=.value (.func f),args:=#[x,y,z],argTypes:=#[t,u,s] })
 (hcf:∀(args:Array Value) (w:World),(callFunc f args).run P w=.ok (.enter f args) w) (v v' v'':Value) (hx:a.eval x=v) (hy:a.eval y=v') (hz:a.eval z=v'') {R:Ending->World->Prop} (h:Calls P f #[v,v',v''] w R)
 (hR:∀e w',R e w'->∃v,e=.returned v/\K (a.put o.dst v) w'):if Region.wanted o (yielded ops a.tmps)=true then Oper.wp P o a w K Q else E :=
 zf8 hg f #[x,y,z] #[t,u,s] ho hcf #[v,v',v''] (by simp[hx,hy,hz]) h hR
def zH (f:FuncId):Prop:=∀(args:Array Value) (w:World),(callFunc f args).run prog w=.ok (.enter f args) w
theorem Fr.undrew {T:Nat->Prop}(h:Fr T w.drew w'):Fr T w w':=⟨h.os,h.tape,h.output,h.size,h.block⟩
end
section
open Go.RowKit
variable {L:List Ex} {B x:Nat} {v:Value} {w w':World}
def zag (l:List UInt8)(n:Nat):Nat :=
 if l=[110,117,109,98,101,114] then 0 else if l=[98,111,111,108] then (if n=1 then 1 else 2) else if l=[118,97,114] then 3 else if l=[99,97,108,108] then 4
 else if l=[105,102] then 5 else if l=[109,101,114,103,101] then 6 else if l=[119,104,101,110] then 7 else if l=[119,104,101,110,111,116] then 8 else if l=[102,98,121] then 9
 else if l=[110,101,103] then 10 else if l=[110,111,116] then 11 else if l=[97,110,100] then 12 else if l=[111,114] then 13 else if l=[120,111,114] then 14
 else if l=[61] then 15 else if l=[60,62] then 16 else if l=[60] then 17 else if l=[60,61] then 18 else if l=[43] then 19 else if l=[45] then 20 else if l=[42] then 21 else if l=[47] then 22 else 23
def zbF (l:List UInt8)(n:Nat):Nat:=if l=[110,117,109,98,101,114] then n else 0
theorem zbK (l:List UInt8):zbF l 0=0:=by unfold zbF;split <;> rfl
inductive TR (w:World) (B:Nat) (L:List Ex):Nat->Value->Prop
 | mk (x:Nat) (ex:Ex) (b:Nat) (args:Value) (vs:List Value) (hx:L[x]?=some ex) (hB:B<=b)
    (hb:xH w b #[xI (zag ex.op.toList ex.n:Nat),xI ex.a,.string ex.s,xI ex.nm,xI (zbF ex.op.toList ex.n:Nat),args] 226)
    (ha:w.ownsRow B 182 1 args vs.length vs) (hl:vs.length=ex.ins.length)
    (hr:∀(i y:Nat) (v:Value),ex.ins[i]?=some y->vs[i]?=some v->TR w B L y v):TR w B L x (xP b)
theorem TR.kept (h:TR w B L x v)(hk:∀k,B<=k->k<w.heap.size->w'.heap[k]?=w.heap[k]?):TR w' B L x v:=by
 induction h with
 | mk x ex b args vs hx hB hb ha hl _ ih => exact TR.mk x ex b args vs hx hB ((hk b hB (ze hb)).trans hb) (zi ha (λk a c _=>hk k a c)) hl ih
theorem TR.fr (h:TR w B L x v){T:Nat->Prop}(hf:Fr T w w')(hT:∀k,B<=k->k<w.heap.size->¬T k):TR w' B L x v :=
 h.kept (λk a b=>hf.block k b (hT k a b))
theorem TR.more (h:TR w B L x v)(E:List Ex):TR w B (L++E) x v:=by
 induction h with
 | mk x ex b args vs hx hB hb ha hl _ ih =>
   refine TR.mk x ex b args vs ?_ hB hb ha hl ih;rw[List.getElem?_append_left]
   . exact hx
   . exact (List.getElem?_eq_some_iff.1 hx).1
theorem TR.down (h:TR w B L x v){B':Nat}(hB':B'<=B):TR w B' L x v:=by
 induction h with
 | mk x ex b args vs hx hB hb ha hl _ ih => exact TR.mk x ex b args vs hx (Nat.le_trans hB' hB) hb (zR ha hB') hl ih
def zaW (S:Nat->Addr)(pb B:Nat)(w:World)(st':St)(r:Nat)(e:Ending)(w':World):Prop :=
 ∃a:Option Addr,e=.returned (.pointer a)/\PL S w' pb st'/\Hid (st'.er=0->TR w' B st'.L r (.pointer a))/\Fr (·=pb) w w'
def zX (d:Nat)(f:FuncId)(M:Fn):Prop:=∀(S:Nat->Addr) (pb:Nat) (st:St) (p:Nat) (w:World),Inv p st->18<=st.op+d->PL S w pb st ->
 xK f #[xP pb] w (zaW S pb w.heap.size w (M st).1 (M st).2)
theorem PL.put {S:Nat->Addr}{pb:Nat}{st:St}(h:PL S w pb st)(e:Ex):PL S w pb (st.put e).1:=⟨h.tx,h.heap,h.gl,h.pb⟩
theorem TR.two {ex:Ex}{b g y z:Nat}{u:Value}(hB:B<=b)(hg:B<=g)
 (hb:xH w b #[xI (zag ex.op.toList ex.n:Nat),xI ex.a,.string ex.s,xI ex.nm,xI (zbF ex.op.toList ex.n:Nat),xS g 2 2] 226)
 (hgg:xH w g #[u,v] 182) (hi:ex.ins=[y,z]) (hu:TR w B L y u) (hv:TR w B L z v):TR w B (L++[ex]) L.length (xP b):=by
 refine TR.mk L.length ex b _ [u,v] (by simp) hB hb ⟨by simp,Or.inr ⟨g,2,#[u,v],rfl,hg,hgg,by simp,by decide,by simp,by simp⟩⟩ (by simp[hi]) ?_;intro i s t hs ht;rw[hi] at hs
 match i with
 | 0=>simp at hs ht;subst hs ht;exact hu.more _
 | 1=>simp at hs ht;subst hs ht;exact hv.more _
 | i+2=>simp at hs
end
section
variable {p:Nat} {st:St}
structure Vr where
 nm:ByteArray
 a:Nat
 bl:Bool
 inn:Bool
 out:Bool
 on:Nat
 ck:ByteArray
 ca:Nat
 nt:Bool
 tm:Bool
def zbq:List UInt8:=[98,111,111,108]
def zlc:List UInt8:=[105,110,116]
def kOn:List UInt8:=[111,110]
def zet:List UInt8:=[110,111,116]
def z9 (st:St):St:=if st.is 5 zbq=true then st.step else st.must 5 zlc
def za3 (st:St):St:=if st.is 5 zet=true then st.step else st
def zx (i o:Bool)(st:St)(vars:List Vr):St×List Vr :=
 if 16<=vars.length then (st.fail 2 st.t.a,vars)
 else
  let s2:=st.name.must 4 [58]
  let s3:=z9 s2
  if (s3.is 5 kOn&&!i&&!o)=true then
   let s5:=za3 s3.step
   (s5.name,vars++[⟨st.t.s,st.t.a,s2.is 5 zbq,i,o,s3.t.a,s5.t.s,s5.t.a,s3.step.is 5 zet,true⟩])
  else (s3,vars++[⟨st.t.s,st.t.a,s2.is 5 zbq,i,o,0,sE,0,false,false⟩])
theorem Fwd.type (h:Inv p st):Fwd p st (z9 st):=by
 unfold z9;split
 . exact Fwd.step h
 . exact Fwd.must h _ _
theorem Fwd.nott (h:Inv p st):Fwd p st (za3 st):=by
 unfold za3;split
 . exact Fwd.step h
 . exact Fwd.refl h
theorem znk (st:St):(z9 st).op=st.op:=by unfold z9;split;exact st.step_op;exact st.must_op _ _
theorem zpp (st:St):(za3 st).op=st.op:=by unfold za3;split;exact st.step_op;rfl
theorem zqh (st:St):(z9 st).L=st.L:=by unfold z9;split;exact st.step_L;exact st.must_L _ _
theorem zqZ (st:St):(za3 st).L=st.L:=by unfold za3;split;exact st.step_L;rfl
theorem zbI {i o:Bool}{vars:List Vr}(hI:Inv p st):Fwd p st (zx i o st vars).1/\(zx i o st vars).1.op=st.op/\(zx i o st vars).1.L=st.L:=by
 unfold zx;split
 . exact⟨Fwd.fail hI (by omega) (by omega) hI.ok.ta_le,St.fail_op _ _ _,St.fail_L _ _ _⟩
 . have h1:=Fwd.name hI;have h2:=Fwd.must h1.inv 4 [58];have h3:=Fwd.type h2.inv;have o3:(z9 (st.name.must 4 [58])).op=st.op:=by rw[znk,St.must_op,St.name_op]
   have l3:(z9 (st.name.must 4 [58])).L=st.L:=(by rw[zqh,St.must_L,St.name_L]);simp only;split
   . have h4:=Fwd.step h3.inv;have h5:=Fwd.nott h4.inv;have h6:=Fwd.name h5.inv;exact⟨((((h1.trans h2).trans h3).trans h4).trans h5).trans h6,by rw[St.name_op,zpp,St.step_op,o3],by rw[St.name_L,zqZ,St.step_L,l3]⟩
   . exact⟨(h1.trans h2).trans h3,o3,l3⟩
end
section
variable {vars:List Vr} {p:Nat} {st:St}
def zaG (i:Bool):Nat->St×List Vr->St×List Vr
 | 0,x=>x
 | f+1,x=>if x.1.er=0/\x.1.is 4 [44]=true then zaG i f (zx i (!i) x.1.step x.2) else x
def zab (i:Bool)(st:St)(vars:List Vr):St×List Vr :=
 let y:=zaG i 1300 (zx i (!i) (st.must 4 [40]) vars)
 (y.1.must 4 [41],y.2)
def zaR (st:St)(vars:List Vr):St×List Vr :=
 let x:=zx false false st vars
 (x.1.must 4 [59],x.2)
theorem zjd (i:Bool):∀(f p:Nat) (x:St×List Vr),Inv p x.1->Fwd p x.1 (zaG i f x).1/\(zaG i f x).1.op=x.1.op/\(zaG i f x).1.L=x.1.L:=by
 intro f;induction f with
 | zero=>intro p x hI;exact⟨Fwd.refl hI,rfl,rfl⟩
 | succ f ih =>
   intro p x hI
   show Fwd p x.1 (if _ then _ else x).1/\(if _ then _ else x).1.op=x.1.op/\(if _ then _ else x).1.L=x.1.L;by_cases hc:x.1.er=0/\x.1.is 4 [44]=true
   . rw[if_pos hc];have h1:=Fwd.step hI;have h2:=zbI (i:=i) (o:=!i) (vars:=x.2) h1.inv;have h3:=ih p _ h2.1.inv;exact⟨(h1.trans h2.1).trans h3.1,h3.2.1.trans (h2.2.1.trans (St.step_op _)),h3.2.2.trans (h2.2.2.trans (St.step_L _))⟩
   . rw[if_neg hc];exact⟨Fwd.refl hI,rfl,rfl⟩
theorem zbx {i:Bool}(hI:Inv p st):Fwd p st (zab i st vars).1/\(zab i st vars).1.op=st.op/\(zab i st vars).1.L=st.L:=by
 have h1:=Fwd.must hI 4 [40];have h2:=zbI (i:=i) (o:=!i) (vars:=vars) h1.inv;have h3:=zjd i 1300 p _ h2.1.inv;have h4:=Fwd.must h3.1.inv 4 [41];refine⟨((h1.trans h2.1).trans h3.1).trans h4,?_,?_⟩
 . unfold zab;simp only;rw[St.must_op,h3.2.1,h2.2.1,St.must_op]
 . unfold zab;simp only;rw[St.must_L,h3.2.2,h2.2.2,St.must_L]
theorem zej (hI:Inv p st):Fwd p st (zaR st vars).1/\(zaR st vars).1.op=st.op/\(zaR st vars).1.L=st.L:=by
 have h2:=zbI (i:=false) (o:=false) (vars:=vars) hI;have h4:=Fwd.must h2.1.inv 4 [59];refine⟨h2.1.trans h4,?_,?_⟩
 . unfold zaR;simp only;rw[St.must_op,h2.2.1]
 . unfold zaR;simp only;rw[St.must_L,h2.2.2]
end
section
open Go.RowKit
variable {l:List UInt8} {a b e k:Nat} {w:World}
theorem znQ:(⟨#[58]⟩:ByteArray).toList=[58]:=by decide +kernel
theorem zl1:(⟨#[59]⟩:ByteArray).toList=[59]:=by decide +kernel
theorem zjg:(⟨#[98,111,111,108]⟩:ByteArray).toList=zbq:=by decide +kernel
theorem zo1:(⟨#[105,110,116]⟩:ByteArray).toList=zlc:=by decide +kernel
theorem zo7:(⟨#[110,111,116]⟩:ByteArray).toList=zet:=by decide +kernel
theorem zq9:(⟨#[111,110]⟩:ByteArray).toList=kOn:=by decide +kernel
theorem zfm (w:World):xK 156 #[xI 1] w λe w'=>e=.returned (.string ⟨#[98,111,111,108]⟩)/\w=w':=by go_enter func156,ntmps156;go_wp2;go_ret;exact⟨rfl,rfl⟩
theorem zhC (w:World):xK 156 #[xI 0] w λe w'=>e=.returned (.string ⟨#[105,110,116]⟩)/\w=w':=by go_enter func156,ntmps156;go_wp2;go_ret;exact⟨rfl,rfl⟩
theorem zbw (st:St):∃(ns:ByteArray) (na:Nat),zcc st=.agg #[.string ns,xI na]/\(st.t.k=2->ns=st.t.s/\na=st.t.a):=by
 by_cases h:st.t.k=2
 . exact⟨st.t.s,st.t.a,by unfold zcc;rw[if_pos h],λ_=>⟨rfl,rfl⟩⟩
 . exact⟨⟨#[]⟩,0,by unfold zcc;rw[if_neg h];rfl,λh2=>absurd h2 h⟩
theorem St.fail_fail' (s:St){e' a':Nat}(he:e≠0):(s.fail e a).fail e' a'=s.fail e a:=by unfold St.fail;by_cases h:s.er=0 <;> simp[h,he]
theorem St.fail_is (s:St)(hk:k≠1):(s.fail e a).is k l=false:=by
 unfold St.is;have:(s.fail e a).t.k=1:=by unfold St.fail;split <;> rfl
 rw[this];have h1:((1:Nat)==k)=false:=by simp;omega
 rw[h1];rfl
theorem St.fail_must' (s:St)(he:e≠0)(hk:k≠1):(s.fail e a).must k l=s.fail e a:=by unfold St.must;rw[St.fail_is s hk];exact St.fail_fail' s he
theorem St.fail_name' (s:St)(he:e≠0):(s.fail e a).name=s.fail e a:=by
 unfold St.name;have:(s.fail e a).t.k=1:=by unfold St.fail;split <;> rfl
 rw[if_neg (by omega)];exact St.fail_fail' s he
def St.decl0 (st:St)(n:Nat):St:=if n=16 then st.fail 2 st.t.a else st
def zlG (ns:ByteArray)(na ty sg pl:Nat)(os:ByteArray)(oa:Nat):Value:=.agg #[.string ns,xI na,xI ty,xI sg,xI pl,.string os,xI oa]
theorem zev {fn:Func}{p:Tmp}(h:fn.results=#[.cell p 134]){tmps:Array Value}(hp:tmps[p]?.getD undef=xP b){v0 v1 v2 v3 v4 v5 v6:Value}(hh:xH w b #[v0,v1,v2,v3,v4,v5,v6] 134):(results fn tmps).run prog w=.ok (.agg #[v0,v1,v2,v3,v4,v5,v6]) w:=by obtain⟨c0,c1,c2,c3,c4,c5,c6,_⟩:=zbZ hh;simp[results,h,hp,go_sem,c0,c1,c2,c3,c4,c5,c6]
theorem zfV {e:TypeId}{u0 u1 u2 u3 u4 u5 u6:Value}(h:xH w b #[u0,u1,u2,u3,u4,u5,u6] e)(v0 v1 v2 v3 v4 v5 v6:Value):(((((((w.setCell (xD b 0) v0).setCell (xD b 1) v1).setCell (xD b 2) v2).setCell (xD b 3) v3).setCell (xD b 4) v4).setCell (xD b 5) v5).setCell (xD b 6) v6).heap[b]?=some (.cells #[v0,v1,v2,v3,v4,v5,v6] e (0,0)):=by have h0:xH (w.setCell (xD b 0) v0) b #[v0,u1,u2,u3,u4,u5,u6] e:=zh _ _ _ _ h;have h1:((w.setCell (xD b 0) v0).setCell (xD b 1) v1).heap[b]?=some (.cells #[v0,v1,u2,u3,u4,u5,u6] e (0,0)):=zh _ _ _ _ h0;have h2:(((w.setCell (xD b 0) v0).setCell (xD b 1) v1).setCell (xD b 2) v2).heap[b]?=some (.cells #[v0,v1,v2,u3,u4,u5,u6] e (0,0)):=zh _ _ _ _ h1;have h3:((((w.setCell (xD b 0) v0).setCell (xD b 1) v1).setCell (xD b 2) v2).setCell (xD b 3) v3).heap[b]?=some (.cells #[v0,v1,v2,v3,u4,u5,u6] e (0,0)):=zh _ _ _ _ h2;have h4:(((((w.setCell (xD b 0) v0).setCell (xD b 1) v1).setCell (xD b 2) v2).setCell (xD b 3) v3).setCell (xD b 4) v4).heap[b]?=some (.cells #[v0,v1,v2,v3,v4,u5,u6] e (0,0)):=zh _ _ _ _ h3;have h5:((((((w.setCell (xD b 0) v0).setCell (xD b 1) v1).setCell (xD b 2) v2).setCell (xD b 3) v3).setCell (xD b 4) v4).setCell (xD b 5) v5).heap[b]?=some (.cells #[v0,v1,v2,v3,v4,v5,u6] e (0,0)):=zh _ _ _ _ h4;have h6:(((((((w.setCell (xD b 0) v0).setCell (xD b 1) v1).setCell (xD b 2) v2).setCell (xD b 3) v3).setCell (xD b 4) v4).setCell (xD b 5) v5).setCell (xD b 6) v6).heap[b]?=some (.cells #[v0,v1,v2,v3,v4,v5,v6] e (0,0)):=zh _ _ _ _ h5;exact h6
theorem zjk (S:Nat->Addr)(pb:Nat)(st:St)(w:World)(nb:Nat)(x:Option Addr)(n c:Nat)(HB:Bad st)(_hn:n<=100)(hnb:nb<w.heap.size)(hc:xC w nb 2 (.slice x n c))(HR:PL S w pb st) :
 xK 187 #[xP pb,xP nb] w λe w'=>∃ns na,e=.returned (zlG ns na (if ((st.decl0 n).name.must 4 [58]).is 5 zbq=true then 1 else 0) 0 0 ⟨#[]⟩ 0)/\((st.decl0 n).t.k=2->ns=(st.decl0 n).t.s/\na=(st.decl0 n).t.a)/\PL S w' pb (z9 ((st.decl0 n).name.must 4 [58]))/\Fr (·=pb) w w':=by
 have hlt:=HR.lt;have hsyn:xC w 8 0 (.iface 324 (.pointer (some (S 2)))):=HR.gl.syn;have hg8:8<w.heap.size:=Nat.lt_of_lt_of_le (by decide) HR.gl.size;have Hz0:w.heap.size<(w.alloc (.cells #[.string ⟨#[]⟩,xI 0,xI 0,xI 0,xI 0,.string ⟨#[]⟩,xI 0] 134)).heap.size:=by simp
 have Hh0:=zc w (.cells #[.string ⟨#[]⟩,xI 0,xI 0,xI 0,xI 0,.string ⟨#[]⟩,xI 0] 134);by_cases h16:n=16
 . have hE:st.decl0 n=st.fail 2 st.t.a:=by unfold St.decl0;rw[if_pos h16]
   rw[hE];have h16':((n:Int)==16)=true:=beq_iff_eq.2 (by omega);have HBf:=za (HB.fail (e:=2) (by omega));obtain⟨s2,Hs2⟩:∃s2,(st.fail 2 st.t.a).name.must 4 [58]=s2:=⟨_,rfl⟩;have hs3:s2=st.fail 2 st.t.a:=(by rw[<- Hs2,St.fail_name' _ (by decide)];exact St.fail_must' _ (by decide) (by decide));have Hb:s2.is 5 zbq=false:=(by rw[hs3];exact St.fail_is _ (by decide));rw[Hs2];have hty:z9 s2=s2.must 5 zlc:=(by unfold z9;rw[if_neg (by rw[Hb];simp)]);rw[hty,Hb];clear hs3 hty hE h16;go_enter func187,ntmps187;go_wp2_with (go_at_call 87;refine (zc5 S pb st 2 (by decide) _ (HR.alloc _)).mono ?_;rintro e w9 ⟨rfl,HL9,HF9⟩;have hlt9:=HL9.lt);have Hz9:=(HF9.block w.heap.size Hz0 (by omega)).trans Hh0;obtain⟨ns,na,hnv,HNk⟩:=zbw (st.fail 2 st.t.a);have HN:=za (zaZ S pb (st.fail 2 st.t.a) w9 HBf.o HL9);rw[hnv] at HN;refine HN.o.mono ?_;rintro e w1 ⟨rfl,HL1,hF1⟩;have hne:¬w.heap.size=pb:=(by omega);have Hh1:=(hF1.block w.heap.size (ze Hz9) hne).trans Hz9;have hz1:=ze Hh1;have HF1:Hid (Fr (·=pb) w w1):=Fr.trans (((Fr.refl _ w).alloc _).trans HF9) hF1;have hlt1:=HL1.lt;have HB1:=za HBf.o.name;have HEx:=za (zP S pb (st.fail 2 st.t.a).name ⟨#[58]⟩ _ znQ (w1.alloc (.cells #[.string ns,xI na,xI 0,xI 0,xI 0,.string ⟨#[]⟩,xI 0] 134)) HB1.o (HL1.alloc _));rw[zan HL1.tx (by decide),Hs2] at HEx;have HB2:Hid (Bad s2):=(by unfold Hid;rw[<- Hs2];exact HB1.o.must 4 [58]);clear hF1 hnv HN;go_wp2_with fail;refine HEx.o.mono ?_;rintro e w2 ⟨rfl,HL2,hF2⟩;have hne1:¬w1.heap.size=pb:=(by omega);have Hh2:=(hF2.block w.heap.size (by simp;omega) hne).trans ((Below.heap_alloc _ _ _ hz1).trans Hh1);have Hv2:=(hF2.block w1.heap.size (by simp) hne1).trans (zc w1 _);have HF2:Hid (Fr (·=pb) w w2):=(HF1.o.alloc _).trans hF2;have hlt2:=HL2.lt;have HSk:=za (zbg S pb s2 ⟨#[98,111,111,108]⟩ _ zjg w2 HB2.o HL2);rw[zar HL2.tx (by decide),Hb] at HSk;have hsk:s2.skipM zbq=s2:=(by unfold St.skipM;rw[zar HL2.tx (by decide),Hb];rfl);rw[hsk] at HSk;clear hF2 hsk;have HEx2:=za (λw1 h=>zP S pb s2 ⟨#[105,110,116]⟩ _ zo1 w1 HB2.o h);have htx:=HL2.tx;rw[ze6 htx (by decide)] at HEx2;clear htx;go_wp2_with (first|(go_at_call 156;first|(with_reducible refine (zfm _).mono ?_;rintro e w' ⟨rfl,rfl⟩)|(with_reducible refine (zhC _).mono ?_;rintro e w' ⟨rfl,rfl⟩))|(go_at_call 153;refine HSk.o.mono ?_;rintro e w3 ⟨rfl,HL3,HF3⟩;have Hh3:=(HF3.block w.heap.size (ze Hh2) hne).trans Hh2;have Hv3:=(HF3.block w1.heap.size (ze Hv2) hne1).trans Hv2;obtain⟨a0,a1,a2,a3,a4,a5,a6,af,az⟩:=zbZ Hh3;obtain⟨b0,b1,b2,b3,b4,b5,b6,bf,bz⟩:=zbZ Hv3;have hlt3:=HL3.lt));refine (HEx2.o _ HL3).mono ?_;rintro e w4 ⟨rfl,HL4,HF4⟩;have Hh4:=(HF4.block w.heap.size (ze Hh3) hne).trans Hh3;have hv4:=(HF4.block w1.heap.size (ze Hv3) hne1).trans Hv3;clear a0 a1 a2 a3 a4 a5 a6 af az b0 b1 b2 b3 b4 b5 b6 bf bz;obtain⟨a0,a1,a2,a3,a4,a5,a6,af,az⟩:=zbZ Hh4;obtain⟨b0,b1,b2,b3,b4,b5,b6,bf,bz⟩:=zbZ hv4;clear hv4;go_wp2_with fail;refine bodyPost_ret (v:=zlG ns na 0 0 0 ⟨#[]⟩ 0) (zev rfl rfl (zfV Hh4 _ _ _ _ _ _ _)) rfl ⟨ns,na,by first|rfl|(rw[Hb];rfl),HNk,?_,?_⟩
   . (repeat (with_reducible refine PL.setOther ?_ hlt _ _));exact HL4
   . (repeat (with_reducible refine Fr.setNew ?_ (Nat.le_refl _) _ _));exact (HF2.o.trans HF3).trans HF4
 . have hE:st.decl0 n=st:=by unfold St.decl0;rw[if_neg h16]
   rw[hE];have h16':((n:Int)==16)=false:=beq_eq_false_iff_ne.2 (by omega);obtain⟨s2,Hs2⟩:∃s2,st.name.must 4 [58]=s2:=⟨_,rfl⟩;rw[Hs2];clear h16 hE;cases Hb:s2.is 5 zbq with
   | true =>
     have hty:z9 s2=s2.step:=(by unfold z9;rw[if_pos Hb]);rw[hty];clear hty;go_enter func187,ntmps187;go_wp2_with fail;obtain⟨ns,na,hnv,HNk⟩:=zbw st;have HN:=za (zaZ S pb st (w.alloc (.cells #[.string ⟨#[]⟩,xI 0,xI 0,xI 0,xI 0,.string ⟨#[]⟩,xI 0] 134)) HB (HR.alloc _));rw[hnv] at HN;refine HN.o.mono ?_;rintro e w1 ⟨rfl,HL1,hF1⟩;have hne:¬w.heap.size=pb:=(by omega);have Hh1:=(hF1.block w.heap.size Hz0 hne).trans Hh0;have hz1:=ze Hh1;have HF1:Hid (Fr (·=pb) w w1):=Fr.trans ((Fr.refl _ w).alloc _) hF1;have hlt1:=HL1.lt;have HB1:=za HB.name;have HEx:=za (zP S pb st.name ⟨#[58]⟩ _ znQ (w1.alloc (.cells #[.string ns,xI na,xI 0,xI 0,xI 0,.string ⟨#[]⟩,xI 0] 134)) HB1.o (HL1.alloc _));rw[zan HL1.tx (by decide),Hs2] at HEx;have HB2:Hid (Bad s2):=(by unfold Hid;rw[<- Hs2];exact HB1.o.must 4 [58]);clear hF1 hnv HN;go_wp2_with fail;refine HEx.o.mono ?_;rintro e w2 ⟨rfl,HL2,hF2⟩;have hne1:¬w1.heap.size=pb:=(by omega);have Hh2:=(hF2.block w.heap.size (by simp;omega) hne).trans ((Below.heap_alloc _ _ _ hz1).trans Hh1);have Hv2:=(hF2.block w1.heap.size (by simp) hne1).trans (zc w1 _);have HF2:Hid (Fr (·=pb) w w2):=(HF1.o.alloc _).trans hF2;have hlt2:=HL2.lt;have HSk:=za (zbg S pb s2 ⟨#[98,111,111,108]⟩ _ zjg w2 HB2.o HL2);rw[zar HL2.tx (by decide),Hb] at HSk;have hsk:s2.skipM zbq=s2.step:=(by unfold St.skipM;rw[zar HL2.tx (by decide),Hb];rfl);rw[hsk] at HSk;clear hF2 hsk;go_wp2_with (first|(go_at_call 156;refine (zfm _).mono ?_;rintro e w' ⟨rfl,rfl⟩)|(go_at_call 153;refine HSk.o.mono ?_;rintro e w3 ⟨rfl,HL3,HF3⟩;have Hh3:=(HF3.block w.heap.size (ze Hh2) hne).trans Hh2;have Hv3:=(HF3.block w1.heap.size (ze Hv2) hne1).trans Hv2;obtain⟨a0,a1,a2,a3,a4,a5,a6,af,az⟩:=zbZ Hh3;obtain⟨b0,b1,b2,b3,b4,b5,b6,bf,bz⟩:=zbZ Hv3;have hlt3:=HL3.lt));refine bodyPost_ret (v:=zlG ns na 1 0 0 ⟨#[]⟩ 0) (zev rfl rfl (zfV (zr (by omega) Hh3) _ _ _ _ _ _ _)) rfl ⟨ns,na,by first|rfl|(rw[Hb];rfl),HNk,?_,?_⟩
     . (repeat (with_reducible refine PL.setOther ?_ hlt _ _));exact HL3.setOther hlt1 _ _
     . (repeat (with_reducible refine Fr.setNew ?_ (Nat.le_refl _) _ _));exact (HF2.o.trans HF3).setNew (by omega) _ _
   | false =>
     have hty:z9 s2=s2.must 5 zlc:=(by unfold z9;rw[if_neg (by rw[Hb];simp)]);rw[hty];clear hty;go_enter func187,ntmps187;go_wp2_with fail;obtain⟨ns,na,hnv,HNk⟩:=zbw st;have HN:=za (zaZ S pb st (w.alloc (.cells #[.string ⟨#[]⟩,xI 0,xI 0,xI 0,xI 0,.string ⟨#[]⟩,xI 0] 134)) HB (HR.alloc _));rw[hnv] at HN;refine HN.o.mono ?_;rintro e w1 ⟨rfl,HL1,hF1⟩;have hne:¬w.heap.size=pb:=(by omega);have Hh1:=(hF1.block w.heap.size Hz0 hne).trans Hh0;have hz1:=ze Hh1;have HF1:Hid (Fr (·=pb) w w1):=Fr.trans ((Fr.refl _ w).alloc _) hF1;have hlt1:=HL1.lt;have HB1:=za HB.name;have HEx:=za (zP S pb st.name ⟨#[58]⟩ _ znQ (w1.alloc (.cells #[.string ns,xI na,xI 0,xI 0,xI 0,.string ⟨#[]⟩,xI 0] 134)) HB1.o (HL1.alloc _));rw[zan HL1.tx (by decide),Hs2] at HEx;have HB2:Hid (Bad s2):=(by unfold Hid;rw[<- Hs2];exact HB1.o.must 4 [58]);clear hF1 hnv HN;go_wp2_with fail;refine HEx.o.mono ?_;rintro e w2 ⟨rfl,HL2,hF2⟩;have hne1:¬w1.heap.size=pb:=(by omega);have Hh2:=(hF2.block w.heap.size (by simp;omega) hne).trans ((Below.heap_alloc _ _ _ hz1).trans Hh1);have Hv2:=(hF2.block w1.heap.size (by simp) hne1).trans (zc w1 _);have HF2:Hid (Fr (·=pb) w w2):=(HF1.o.alloc _).trans hF2;have hlt2:=HL2.lt;have HSk:=za (zbg S pb s2 ⟨#[98,111,111,108]⟩ _ zjg w2 HB2.o HL2);rw[zar HL2.tx (by decide),Hb] at HSk;have hsk:s2.skipM zbq=s2:=(by unfold St.skipM;rw[zar HL2.tx (by decide),Hb];rfl);rw[hsk] at HSk;clear hF2 hsk;have HEx2:=za (λw1 h=>zP S pb s2 ⟨#[105,110,116]⟩ _ zo1 w1 HB2.o h);have htx:=HL2.tx;rw[ze6 htx (by decide)] at HEx2;clear htx;go_wp2_with (first|(go_at_call 156;first|(with_reducible refine (zfm _).mono ?_;rintro e w' ⟨rfl,rfl⟩)|(with_reducible refine (zhC _).mono ?_;rintro e w' ⟨rfl,rfl⟩))|(go_at_call 153;refine HSk.o.mono ?_;rintro e w3 ⟨rfl,HL3,HF3⟩;have Hh3:=(HF3.block w.heap.size (ze Hh2) hne).trans Hh2;have Hv3:=(HF3.block w1.heap.size (ze Hv2) hne1).trans Hv2;obtain⟨a0,a1,a2,a3,a4,a5,a6,af,az⟩:=zbZ Hh3;obtain⟨b0,b1,b2,b3,b4,b5,b6,bf,bz⟩:=zbZ Hv3;have hlt3:=HL3.lt));refine (HEx2.o _ HL3).mono ?_;rintro e w4 ⟨rfl,HL4,HF4⟩;have Hh4:=(HF4.block w.heap.size (ze Hh3) hne).trans Hh3;have hv4:=(HF4.block w1.heap.size (ze Hv3) hne1).trans Hv3;clear a0 a1 a2 a3 a4 a5 a6 af az b0 b1 b2 b3 b4 b5 b6 bf bz;obtain⟨a0,a1,a2,a3,a4,a5,a6,af,az⟩:=zbZ Hh4;obtain⟨b0,b1,b2,b3,b4,b5,b6,bf,bz⟩:=zbZ hv4;clear hv4;go_wp2_with fail;refine bodyPost_ret (v:=zlG ns na 0 0 0 ⟨#[]⟩ 0) (zev rfl rfl (zfV Hh4 _ _ _ _ _ _ _)) rfl ⟨ns,na,by first|rfl|(rw[Hb];rfl),HNk,?_,?_⟩
     . (repeat (with_reducible refine PL.setOther ?_ hlt _ _));exact HL4
     . (repeat (with_reducible refine Fr.setNew ?_ (Nat.le_refl _) _ _));exact (HF2.o.trans HF3).trans HF4
end
end Go.Proofs.YtbicmofihhjgbaaGreatDoor
