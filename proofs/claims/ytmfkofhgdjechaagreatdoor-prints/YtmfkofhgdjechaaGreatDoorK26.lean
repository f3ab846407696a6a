/- Part 27 of the proof: MdlK CanM MdlJ MdlJ2 MdlW. -/
import Derived.Test.YtmfkofhgdjechaaGreatDoorK25
set_option maxRecDepth 100000
set_option maxHeartbeats 8000000
namespace Go.Proofs.YtmfkofhgdjechaaGreatDoor
open Go.Proofs.Tryz
section
variable {t:Tm}
mutual
def szT:Tm->Nat
 | .mk _ _ _ _ _ ts=>szL ts+1
def szL:List Tm->Nat
 | []=>0
 | t::l=>szT t+szL l
end
theorem zkw {l:List Tm}(h:t∈l):szT t<=szL l:=by
 induction l with
 | nil=>simp at h
 | cons x l ih =>
   rcases List.mem_cons.1 h with rfl|h
   . simp[szL]
   . have:=ih h;simp[szL];omega
theorem Tm.ind {P:Tm->Prop}(h:∀k a s nm n ts,(∀t∈ts,P t)->P (.mk k a s nm n ts)):∀t,P t
 | .mk k a s nm n ts=>h k a s nm n ts (λt _=>Tm.ind h t)
termination_by t=>szT t
decreasing_by simp only[szT];have:=zkw ‹_›;omega
def arB (k n:Nat):Bool :=
 if k<=3 then n==0 else if k=4 then decide (1<=n) else if k=5 then n==3 else if k=6 then n==2 else if k<=8 then n==1 else if k=9 then n==2 else if k<=11 then n==1 else if k<=23 then n==2 else false
inductive Wf:Tm->Prop
 | mk (k a:Nat) (s:ByteArray) (nm n:Nat) (ts:List Tm) (h:arB k ts.length=true) (hr:∀t∈ts,Wf t):Wf (.mk k a s nm n ts)
theorem Wf.sub {u:Tm}(h:Wf t)(hu:u∈t.ts):Wf u:=by
 cases h with
 | mk k a s nm n ts h hr=>exact hr u hu
theorem Wf.ar (h:Wf t):arB t.k t.ts.length=true:=by
 cases h with
 | mk k a s nm n ts h hr=>exact h
mutual
def zaV (g:Tm->Bool):Tm->List Tm
 | .mk k a s nm n ts=>.mk k a s nm n ts::(if g (.mk k a s nm n ts)=true then zdk g ts else [])
def zdk (g:Tm->Bool):List Tm->List Tm
 | []=>[]
 | t::l=>zaV g t++zdk g l
end
def za5 (_:Tm):Bool:=true
def zak (t:Tm):Bool:=t.k != 9
def Sc.has (c:Sc)(s:ByteArray):Bool:=(c.nd.find s).isSome
def zaJ (k:Nat):Bool:=k==3||k==7||k==8||k==6
def zda (q:Qn)(t:Tm):Nat:=if szT t=szT q.r then q.ns.length else 1
def Sc.fits (c:Sc)(t:Tm)(u:Nat):Bool :=
 match c.called t.s with
 | none=>false
 | some d=>d.nd.ins==t.ts.length&&d.nd.outs==u
def zat (c:Sc):List Vr->Nat->List Nat
 | [],_=>[]
 | v::l,i=>(if (c.nd.find v.nm).getD 0<i then [v.a] else [])++(if (zaA v != 0&&!c.has v.ck)=true then [v.ca] else [])++zat c l (i+1)
def z7 (c:Sc):List ByteArray->List Nat->List Nat
 | s::ns,p::ps=>(if (!c.has s||decide (c.idx s<c.nd.ins))=true then [p] else [])++z7 c ns ps
 | _,_=>[]
def zaL (c:Sc)(q:Qn)(t:Tm):List Nat :=
 (if (zaJ t.k&&!c.has t.s)=true then [t.nm] else [])++(if (t.k==4&&!c.fits t (zda q t))=true then [t.nm] else [])
def Sc.namesL (c:Sc):List Nat :=
 (if (c.called c.nd.nm).isSome=true then [c.nd.a] else [])++zat c c.nd.vars 0++(c.nd.eqs.flatMap λq=>z7 c q.ns q.ps)++(c.nd.eqs.flatMap λq=>(zaV za5 q.r).flatMap (zaL c q))
def tyV (v:Vr):Nat:=if v.bl=true then 1 else 0
def Sc.decl (c:Sc)(s:ByteArray):Nat:=((c.nd.vars[c.idx s]?).map tyV).getD 0
def Nod.results (n:Nod):List Vr:=(n.vars.drop n.ins).take n.outs
def Sc.callTy (c:Sc)(s:ByteArray):Nat :=
 match c.called s with
 | none=>0
 | some d=>((d.nd.results[0]?).map tyV).getD 0
mutual
def zaj (c:Sc):Tm->Nat
 | .mk k _ s _ _ ts =>
   if k=3 then c.decl s else if k=4 then c.callTy s else if k=7∨k=8∨k=6 then zbh c ts 0 else if k=5∨k=9 then zbh c ts 1
   else if k=0∨k=10∨(19<=k/\k<=23) then 0 else 1
def zbh (c:Sc):List Tm->Nat->Nat
 | [],_=>0
 | t::_,0=>zaj c t
 | _::l,n+1=>zbh c l n
end
def zcv (c:Sc)(ty:Nat)(l:List Tm):Bool:=l.all λt=>zaj c t==ty
def zc9 (c:Sc)(l:List Tm):Bool:=zbh c l 0==zbh c l 1
def zcG (t:Tm):Bool :=
 if t.k=0∨t.k=1∨t.k=2 then true else if t.k=10 then (match t.ts with|[]=>false|u::_=>u.k==0) else false
def zaQ (c:Sc):List Tm->List Vr->Bool
 | t::l,v::vs=>if (zaj c t != tyV v)=true then false else zaQ c l vs
 | [],_=>true
 | _::_,[]=>true
def Sc.operands (c:Sc)(t:Tm):Bool :=
 if t.k=10∨t.k=17∨t.k=18∨(19<=t.k/\t.k<=23) then zcv c 0 t.ts
 else if t.k=11∨t.k=12∨t.k=13∨t.k=14 then zcv c 1 t.ts
 else if t.k=15∨t.k=16∨t.k=6 then zc9 c t.ts
 else if t.k=5 then zcv c 1 (t.ts.take 1)&&zc9 c (t.ts.drop 1)
 else if t.k=9 then (match t.ts with|[]=>false|u::_=>zcG u)&&zc9 c t.ts
 else if t.k=4 then (match c.called t.s with|none=>true|some d=>zaQ c t.ts d.nd.vars)
 else true
def zaE (c:Sc):List ByteArray->List Vr->Bool
 | s::ns,r::rs=>if (c.decl s != tyV r)=true then false else zaE c ns rs
 | _,_=>true
def Sc.holds (c:Sc)(q:Qn):Bool :=
 match q.ns with
 | [s]=>c.decl s==zaj c q.r
 | ns=>match c.called q.r.s with
   | none=>true
   | some d=>zaE c ns d.nd.results
def zau (c:Sc):List Vr->List Nat
 | []=>[]
 | v::l=>(if (zaA v != 0&&c.decl v.ck != 1)=true then [v.on] else [])++zau c l
def zbQ (c:Sc)(t:Tm):List Nat :=
 (if (zaJ t.k&&t.k != 3&&c.decl t.s != 1)=true then [t.nm] else [])++(if c.operands t=true then [] else [t.a])
def Sc.typesL (c:Sc):List Nat :=
 zau c c.nd.vars++(c.nd.eqs.flatMap λq=>if c.holds q=true then [] else [q.a])++(c.nd.eqs.flatMap λq=>(zaV za5 q.r).flatMap (zbQ c))
def Sc.own (c:Sc)(v:Vr):Nat×Nat:=if zaA v=0 then (0,0) else (c.idx v.ck,zaA v)
def Sc.of (c:Sc)(i:Nat):Nat×Nat:=match c.nd.vars[i]? with|none=>(0,0)|some v=>c.own v
def Sc.up (c:Sc)(k:Nat×Nat):Nat×Nat:=if k.2=1∨k.2=2 then c.of k.1 else (0,0)
def zhr (c:Sc)(i:Nat):Nat->Nat×Nat->Bool
 | 0,_=>false
 | f+1,k=>if k=(0,0) then false else if k.1=i then true else zhr c i f (c.up k)
def Sc.comesBack (c:Sc)(i:Nat):Bool:=zhr c i (2*c.nd.vars.length) (c.of i)
def zbv (c:Sc):List Vr->Nat->List Nat
 | [],_=>[]
 | v::l,i=>(if c.comesBack i=true then [v.a] else [])++zbv c l (i+1)
def zbl (c:Sc)(k:Nat×Nat):List ByteArray->List Nat->List Nat
 | s::ns,p::ps=>(if c.of (c.idx s)=k then [] else [p])++zbl c k ns ps
 | _,_=>[]
def Sc.operand (c:Sc)(t:Tm)(i:Nat)(k:Nat×Nat):Nat×Nat :=
 if t.k=7∨t.k=8 then c.of (c.idx t.s) else if t.k=6 then (c.idx t.s,if 0<i then 2 else 1) else k
def zi8 (k:Nat):Nat:=if k=8 then 2 else 1
def Sc.isOn (c:Sc)(t:Tm)(k:Nat×Nat):List Nat×Bool :=
 if t.k=3∨t.k=6 then (if c.of (c.idx t.s)=k then [] else [t.nm],true)
 else if t.k=7∨t.k=8 then (if k=(c.idx t.s,zi8 t.k) then ([],true) else ([t.a],false))
 else ([],true)
mutual
def onT (c:Sc):Tm->Nat×Nat->List Nat
 | .mk x a s nm n ts,k=>(c.isOn (.mk x a s nm n ts) k).1++(if (c.isOn (.mk x a s nm n ts) k).2=true then onL c (.mk x a s nm n ts) k ts 0 else [])
def onL (c:Sc)(t:Tm)(k:Nat×Nat):List Tm->Nat->List Nat
 | [],_=>[]
 | u::l,i=>onT c u (c.operand t i k)++onL c t k l (i+1)
end
def zer (c:Sc)(q:Qn):List Nat :=
 let k:=c.of (c.idx (q.ns.headD ⟨#[]⟩))
 zbl c k q.ns.tail q.ps.tail++onT c q.r k
def Sc.clocksL (c:Sc):List Nat:=zbv c c.nd.vars 0++c.nd.eqs.flatMap (zer c)
def zaC (c:Sc):List ByteArray->List Nat->List Bool->List Nat×List Bool
 | s::ns,p::ps,d =>
   let r:=zaC c ns ps (d.set (c.idx s) true)
   ((if d.getD (c.idx s) false=true then [p] else [])++r.1,r.2)
 | _,_,d=>([],d)
def zcN (c:Sc):List Qn->List Bool->List Nat×List Bool
 | [],d=>([],d)
 | q::l,d =>
   let r:=zaC c q.ns q.ps d
   let r':=zcN c l r.2
   (r.1++r'.1,r'.2)
def zb1 (ins:Nat)(d:List Bool):List Vr->Nat->List Nat
 | [],_=>[]
 | v::l,i=>(if (decide (ins<=i)&&!d.getD i false)=true then [v.a] else [])++zb1 ins d l (i+1)
def Sc.definesL (c:Sc):List Nat :=
 let r:=zcN c c.nd.eqs (List.replicate c.nd.vars.length false)
 r.1++zb1 c.nd.ins r.2 c.nd.vars 0
def zcO (c:Sc)(i:Nat)(t:Tm):List (Nat×Nat):=if zaJ t.k=true then [(i,c.idx t.s)] else []
def zaO (c:Sc)(q:Qn)(s:ByteArray):List (Nat×Nat) :=
 let i:=c.idx s
 (if (c.of i).2=0 then [] else [(i,(c.of i).1)])++(zaV zak q.r).flatMap (zcO c i)
def Sc.linksL (c:Sc):List (Nat×Nat):=c.nd.eqs.flatMap λq=>q.ns.flatMap (zaO c q)
def zcA (by' fr n:Nat):Nat->List (Nat×Nat)->List (Nat×Nat)
 | 0,L=>L
 | m+1,L=>zcA by' fr n m (if (fr,by')∈L/\(by',n-(m+1))∈L then L++[(fr,n-(m+1))] else L)
def zbJ (by' n:Nat):Nat->List (Nat×Nat)->List (Nat×Nat)
 | 0,L=>L
 | m+1,L=>zbJ by' n m (zcA by' (n-(m+1)) n n L)
def zeD (n:Nat):Nat->List (Nat×Nat)->List (Nat×Nat)
 | 0,L=>L
 | m+1,L=>zeD n m (zbJ (n-(m+1)) n n L)
def zdT (n:Nat)(L:List (Nat×Nat)):List (Nat×Nat):=zeD n n L
def zht (a:Nat)(L:List (Nat×Nat))(n:Nat):Nat->List Nat
 | 0=>[]
 | m+1=>(if (n-(m+1),n-(m+1))∈L then [a] else [])++zht a L n m
def Sc.causesL (c:Sc):List Nat:=zht c.nd.a (zdT c.nd.vars.length c.linksL) c.nd.vars.length c.nd.vars.length
def zbi (s:ByteArray):List (ByteArray×Nat)->Nat
 | []=>0
 | p::l=>if p.1=s then p.2 else zbi s l
def za9 (m:List (ByteArray×Nat))(t:Tm):Nat:=if t.k=9 then 1 else if t.k=4 then 1+zbi t.s m else 0
def zed (l:List Nat):Nat:=l.foldl (·+·) 0
def zcg (n:Nod)(m:List (ByteArray×Nat)):Nat:=min (zed ((n.eqs.flatMap λq=>zaV za5 q.r).map (za9 m))) 61
def zfW:List Nod->List (ByteArray×Nat)->Nat->Nat
 | [],_,last=>last
 | n::l,m,_=>zfW l ((n.nm,zcg n m)::m) (zcg n m)
def zeZ (ns:List Nod):List Nat:=if 60<zfW ns [] 0 then [0] else []
def scs (ns:List Nod):List Sc:=(List.range ns.length).filterMap λi=>(ns[i]?).map λn=>⟨ns.take i,n⟩
def rep:Option Nat->Nat->Option Nat
 | none,p=>some p
 | some b,p=>if p<b then some p else some b
def zO (l:List Nat):Option Nat:=l.foldl rep none
def zbc (ns:List Nod):Option (Nat×Nat) :=
 match zO ((scs ns).flatMap Sc.namesL) with
 | some p=>some (4,p)
 | none=>match zO ((scs ns).flatMap Sc.typesL) with
   | some p=>some (5,p)
   | none=>match zO ((scs ns).flatMap Sc.clocksL) with
     | some p=>some (6,p)
     | none=>match zO ((scs ns).flatMap Sc.definesL) with
       | some p=>some (7,p)
       | none=>match zO ((scs ns).flatMap Sc.causesL) with
         | some p=>some (8,p)
         | none=>match zO (zeZ ns) with
           | some p=>some (9,p)
           | none=>none
theorem zlT {l:List Nat}(h:zO l=none):l=[]:=by
 have:∀(l:List Nat) (s:Option Nat),s.isSome=true->(l.foldl rep s).isSome=true:=by
  intro l;induction l with
  | nil=>intro s h;exact h
  | cons p l ih =>
    intro s h;refine ih _ ?_;cases s with
    | none=>rfl
    | some b=>show (if p<b then some p else some b).isSome=true;split <;> rfl
 cases l with
 | nil=>rfl
 | cons p l => have h2:=this l (rep none p) rfl;unfold zO at h;rw[List.foldl_cons] at h;rw[h] at h2;cases h2
end
section
def lpW:ByteArray:=⟨#[40]⟩
def rpW:ByteArray:=⟨#[41]⟩
def coW:ByteArray:=⟨#[44]⟩
def zu6:Bool->List (List ByteArray)->List ByteArray
 | _,[]=>[]
 | b,x::l=>(if b then [coW] else [])++(x++zu6 true l)
def zu5 (l:List (List ByteArray)):List ByteArray:=[lpW]++(zu6 false l++[rpW])
def zvi (k:Nat)(l:List ByteArray):List ByteArray:=if k=4 then [lpW]++(l++[rpW]) else l
def opW (k:Nat)(s:ByteArray)(ks:List Nat)(l:List (List ByteArray)):List ByteArray :=
 if k=5 then [⟨#[105,102]⟩]++(l.getD 0 []++([⟨#[116,104,101,110]⟩]++(l.getD 1 []++([⟨#[101,108,115,101]⟩]++l.getD 2 []))))
 else if k=6 then [⟨#[109,101,114,103,101]⟩,s]++(zvi (ks.getD 0 0) (l.getD 0 [])++zvi (ks.getD 1 0) (l.getD 1 []))
 else if k=7∨k=8 then l.getD 0 []++[wd k,s]
 else if k=10∨k=11 then [wd k]++l.getD 0 []
 else l.getD 0 []++([wd k]++l.getD 1 [])
def zwd (n:Nat):ByteArray:=⟨(Lib.itoa (n:Int)).toArray⟩
def exW (k:Nat)(s:ByteArray)(n:Nat)(ks:List Nat)(l:List (List ByteArray)):List ByteArray :=
 if k=0 then [zwd n]
 else if k=1∨k=2 then [wd k]
 else if k=3 then [s]
 else if k=4 then [s]++zu5 l
 else [lpW]++(opW k s ks l++[rpW])
mutual
def exT:Tm->List ByteArray
 | .mk k _ s _ n ts=>exW k s n (ts.map Tm.k) (exL ts)
def exL:List Tm->List (List ByteArray)
 | []=>[]
 | t::l=>exT t::exL l
end
theorem zvt:∀ts:List Tm,exL ts=ts.map exT
 | []=>rfl
 | t::l=>by rw[exL,zvt l];rfl
theorem zv4 (ts:List Tm):(exL ts).length=ts.length:=by rw[zvt,List.length_map]
theorem zwx {l:List (List ByteArray)}{k:Nat}{x:List ByteArray}(h:l[k]?=some x)(b:Bool):zu6 b (l.take (k+1))=zu6 b (l.take k)++((if b=true∨0<k then [coW] else [])++x):=by
 induction l generalizing k b with
 | nil=>simp at h
 | cons y l ih =>
   cases k with
   | zero=>simp at h;subst h;simp[zu6]
   | succ k => simp at h;rw[List.take_succ_cons,List.take_succ_cons,zu6,zu6,ih h true];simp[List.append_assoc]
def zu7 (v:Vr):List ByteArray:=[v.nm,⟨#[58]⟩,if v.bl then ⟨#[98,111,111,108]⟩ else ⟨#[105,110,116]⟩]
def onW (v:Vr):List ByteArray:=if zaA v=1 then [⟨#[111,110]⟩,v.ck] else if zaA v=2 then [⟨#[111,110]⟩,⟨#[110,111,116]⟩,v.ck] else []
def zu9 (v:Vr):List ByteArray:=zu7 v++(onW v++[⟨#[59]⟩])
def zvd (q:Qn):List ByteArray:=(if q.ns.length=1 then q.ns else zu5 (q.ns.map (λs=>[s])))++([⟨#[61]⟩]++(exT q.r++[⟨#[59]⟩]))
def zu4 (n:Nod):List ByteArray :=
 [⟨#[110,111,100,101]⟩,n.nm]++(zu5 ((n.vars.take n.ins).map zu7)++([⟨#[45,62]⟩]++(zu5 (((n.vars.drop n.ins).take n.outs).map zu7)++((if 0<(n.vars.drop (n.ins+n.outs)).length then [⟨#[118,97,114]⟩] else [])++((n.vars.drop (n.ins+n.outs)).flatMap zu9++([⟨#[123]⟩]++(n.eqs.flatMap zvd++[⟨#[125]⟩])))))))
def zvg (n:Nod):List UInt8:=([32]:List UInt8).intercalate ((zu4 n).map (·.data.toList))++[10]
def zu3 (ns:List Nod):List UInt8:=ns.flatMap zvg
def jn (l:List ByteArray):List UInt8:=([32]:List UInt8).intercalate (l.map (·.data.toList))
def J (l:List ByteArray):ByteArray:=⟨(jn l).toArray⟩
theorem zEs (x:ByteArray):jn [x]=x.data.toList:=by simp[jn,List.intercalate]
theorem zAG (x y:ByteArray)(l:List ByteArray):jn (x::y::l)=x.data.toList++32::jn (y::l):=by simp[jn,List.intercalate]
theorem zEb:∀{a b:List ByteArray},a≠[]->b≠[]->jn (a++b)=jn a++32::jn b
 | [],_,h,_=>absurd rfl h
 | [x],[],_,h=>absurd rfl h
 | [x],y::l,_,_=>by rw[List.singleton_append,zAG,zEs]
 | x::y::l,b,_,hb=>by rw[List.cons_append,List.cons_append,zAG,zAG,<- List.cons_append,zEb (List.cons_ne_nil _ _) hb];simp
theorem zz3 (a b:List UInt8):(⟨a.toArray⟩:ByteArray)++⟨b.toArray⟩=⟨(a++b).toArray⟩:=by apply ByteArray.ext;rw[ByteArray.data_append];simp
theorem zyo (x:ByteArray):J [x]=x:=by unfold J;rw[zEs]
theorem zyt {a b:List ByteArray}(ha:a≠[])(hb:b≠[]):J (a++b)=J a++⟨#[32]⟩++J b:=by unfold J;rw[zEb ha hb,show (⟨#[32]⟩:ByteArray)=⟨([32]:List UInt8).toArray⟩ from rfl,zz3,zz3];simp
theorem zyi (a b c:ByteArray):a++b++c=a++(b++c):=by apply ByteArray.ext;simp[ByteArray.data_append,Array.append_assoc]
theorem zFE:(⟨#[32]⟩:ByteArray)++(⟨#[44]⟩++⟨#[32]⟩)=⟨#[32,44,32]⟩:=by decide +kernel
theorem zFK:∀(l:List (List ByteArray)) (x:List ByteArray),x≠[]->(∀y∈l,y≠[])->J (x++zu6 true l)=zyf ⟨#[32,44,32]⟩ (J x::l.map J)
 | [],x,_,_=>by rw[zu6,List.append_nil];rfl
 | y::l,x,hx,h=>by
   have hy:=h y (List.mem_cons_self ..);have hc:zu6 true (y::l)=[coW]++(y++zu6 true l):=(by rw[zu6];rfl);have ih:=zFK l y hy (λz hz=>h z (List.mem_cons_of_mem _ hz));rw[hc,zyt hx (by simp),zyt (by simp) (by simp[hy]),ih,zyo,List.map_cons]
   show _=J x++⟨#[32,44,32]⟩++zyf ⟨#[32,44,32]⟩ (J y::l.map J);rw[<- zFE];simp only[zyi,coW]
theorem zBi {l:List (List ByteArray)}(h0:l≠[])(h:∀y∈l,y≠[]):J (zu5 l)=⟨#[40,32]⟩++(zyf ⟨#[32,44,32]⟩ (l.map J)++⟨#[32,41]⟩):=by
 cases l with
 | nil=>exact absurd rfl h0
 | cons x l => have hx:=h x (List.mem_cons_self ..);have e:zu5 (x::l)=[lpW]++((x++zu6 true l)++[rpW]):=(by unfold zu5;rw[zu6];rfl);rw[e,zyt (by simp) (by simp),zyt (by simp[hx]) (by simp),zFK l x hx (λz hz=>h z (List.mem_cons_of_mem _ hz)),zyo,zyo,List.map_cons];rw[show (⟨#[40,32]⟩:ByteArray)=lpW++⟨#[32]⟩ by decide +kernel,show (⟨#[32,41]⟩:ByteArray)=⟨#[32]⟩++rpW by decide +kernel];simp only[zyi]
theorem zAb (l:List (List ByteArray)):zu5 l≠[]:=by unfold zu5;simp
theorem zC5 {l:List ByteArray}(h:l≠[]):J ([lpW]++(l++[rpW]))=⟨#[40,32]⟩++(J l++⟨#[32,41]⟩):=by rw[zyt (by simp) (by simp),zyt h (by simp),zyo,zyo];rw[show (⟨#[40,32]⟩:ByteArray)=lpW++⟨#[32]⟩ by decide +kernel,show (⟨#[32,41]⟩:ByteArray)=⟨#[32]⟩++rpW by decide +kernel];simp only[zyi]
theorem zGP (k:Nat)(s:ByteArray)(n:Nat)(ks:List Nat)(l:List (List ByteArray)):exW k s n ks l≠[]:=by
 unfold exW
 repeat' split
 all_goals simp
theorem zyX (t:Tm):exT t≠[]:=by
 cases t with
 | mk k a s nm n ts=>rw[exT];exact zGP _ _ _ _ _
end
section
variable {l:List Tm} {k:Nat}
theorem zBr (h:l.length=1):∃a,l=[a]:=by
 match l,h with
 | [a],_=>exact⟨a,rfl⟩
theorem zyR (h:l.length=2):∃a b,l=[a,b]:=by
 match l,h with
 | [a,b],_=>exact⟨a,b,rfl⟩
theorem zFt (h:l.length=3):∃a b c,l=[a,b,c]:=by
 match l,h with
 | [a,b,c],_=>exact⟨a,b,c,rfl⟩
theorem zGV (k:Nat)(s:ByteArray)(ks:List Nat)(l:List (List ByteArray)):opW k s ks l≠[]:=by
 unfold opW
 repeat' split
 all_goals simp
theorem zBc (hk:5<=k)(s:ByteArray)(n:Nat)(ks:List Nat)(l:List (List ByteArray)):J (exW k s n ks l)=⟨#[40,32]⟩++(J (opW k s ks l)++⟨#[32,41]⟩):=by unfold exW;rw[if_neg (by omega),if_neg (by omega),if_neg (by omega),if_neg (by omega)];exact zC5 (zGV _ _ _ _)
theorem zzf (hk:k=9∨12<=k)(s:ByteArray)(n:Nat)(ks:List Nat)(a b:Tm):J (exW k s n ks (exL [a,b]))=⟨#[40,32]⟩++J (exT a)++⟨#[32]⟩++wd k++⟨#[32]⟩++J (exT b)++⟨#[32,41]⟩:=by
 rw[zBc (by omega)];unfold opW;rw[if_neg (by omega),if_neg (by omega),if_neg (by omega),if_neg (by omega)]
 show _++(J (exT a++([wd k]++exT b))++_)=_;rw[zyt (zyX a) (by simp),zyt (by simp) (zyX b),zyo];simp only[zyi]
theorem zDW (t:Tm):J (zvi t.k (exT t))=if decide (t.k=4)=true then ⟨#[40,32]⟩++J (exT t)++⟨#[32,41]⟩ else J (exT t):=by
 unfold zvi;by_cases h:t.k=4
 . rw[if_pos h,if_pos (decide_eq_true h),zC5 (zyX t),zyi]
 . rw[if_neg h,if_neg (by simp[h])]
theorem zBF (t:Tm):zvi t.k (exT t)≠[]:=by
 unfold zvi;split
 . simp
 . exact zyX t
theorem wd7:wd 7=⟨#[119,104,101,110]⟩:=by decide +kernel
theorem wd8:wd 8=⟨#[119,104,101,110,111,116]⟩:=by decide +kernel
theorem zG2:wd 10=⟨#[45]⟩:=by decide +kernel
theorem zHg:wd 11=⟨#[110,111,116]⟩:=by decide +kernel
theorem zFT (ex:Ex)(hS:exS ex)(ts:List Tm)(hA:arB (zag ex.op.toList ex.n) ts.length=true) :
 zyn ex.op ex.s ex.n (ts.map (λt=>decide (t.k=4))) (ts.map (λt=>J (exT t)))=J (exW (zag ex.op.toList ex.n) ex.s (zbF ex.op.toList ex.n) (ts.map Tm.k) (exL ts)):=by
 obtain⟨_,_,ho,_⟩:=hS;obtain⟨op,ea,enm,eins,s,n⟩:=ex;simp only at ho hA ⊢;simp only[zy0,List.mem_cons,List.not_mem_nil,or_false] at ho;rcases ho with h|h|h|h|h|h|h|h|h|h|h|h|h|h|h|h|h|h|h|h|h|h|h
 . unfold zyn;rw[h,if_pos rfl]
   show zwd n=J [zwd n];rw[zyo]
 . unfold zyn;rw[h,if_neg (by decide),if_pos rfl];by_cases h1:n=1
   . subst h1;rfl
   . rw[if_neg h1]
     show _=J (exW (if n=1 then 1 else 2) _ _ _ _);rw[if_neg h1];rfl
 . unfold zyn;rw[h,if_neg (by decide),if_neg (by decide),if_pos rfl]
   show s=J [s];rw[zyo]
 . rw[h] at hA;have hl:ts≠[]:=by rintro rfl;exact absurd (show arB 4 0=true from hA) (by decide)
   unfold zyn;rw[h,if_neg (by decide),if_neg (by decide),if_neg (by decide),if_pos rfl]
   show _=J ([s]++zu5 (exL ts));rw[zyt (by simp) (zAb _),zyo,zBi (by rw[zvt];simpa using hl) (by rw[zvt];intro y hy;obtain⟨t,_,rfl⟩:=List.mem_map.1 hy;exact zyX t),zvt,List.map_map,show (⟨#[32,40,32]⟩:ByteArray)=⟨#[32]⟩++⟨#[40,32]⟩ by decide +kernel];simp only[zyi];rfl
 . rw[h] at hA ⊢;obtain⟨a,b,c,rfl⟩:=zFt (show ts.length=3 from eq_of_beq hA);unfold zyn;rw[h]
   show ⟨#[40,32,105,102,32]⟩++J (exT a)++⟨#[32,116,104,101,110,32]⟩++J (exT b)++⟨#[32,101,108,115,101,32]⟩++J (exT c)++⟨#[32,41]⟩=J (exW 5 s _ _ (exL [a,b,c]));rw[zBc (by decide)]
   show _=_++(J ([⟨#[105,102]⟩]++(exT a++([⟨#[116,104,101,110]⟩]++(exT b++([⟨#[101,108,115,101]⟩]++exT c)))))++_);rw[zyt (by simp) (by simp),zyt (zyX a) (by simp),zyt (by simp) (by simp),zyt (zyX b) (by simp),zyt (by simp) (zyX c),zyo,zyo,zyo];rw[show (⟨#[40,32,105,102,32]⟩:ByteArray)=⟨#[40,32]⟩++(⟨#[105,102]⟩++⟨#[32]⟩) by decide +kernel,show (⟨#[32,116,104,101,110,32]⟩:ByteArray)=⟨#[32]⟩++(⟨#[116,104,101,110]⟩++⟨#[32]⟩) by decide +kernel,show (⟨#[32,101,108,115,101,32]⟩:ByteArray)=⟨#[32]⟩++(⟨#[101,108,115,101]⟩++⟨#[32]⟩) by decide +kernel];simp only[zyi]
 . rw[h] at hA ⊢;obtain⟨a,b,rfl⟩:=zyR (show ts.length=2 from eq_of_beq hA);unfold zyn;rw[h]
   show ⟨#[40,32,109,101,114,103,101,32]⟩++s++⟨#[32]⟩++(if decide (a.k=4)=true then ⟨#[40,32]⟩++J (exT a)++⟨#[32,41]⟩ else J (exT a))++⟨#[32]⟩++(if decide (b.k=4)=true then ⟨#[40,32]⟩++J (exT b)++⟨#[32,41]⟩ else J (exT b))++⟨#[32,41]⟩=J (exW 6 s _ _ (exL [a,b]));rw[<- zDW,<- zDW,zBc (by decide)]
   show _=_++(J ([⟨#[109,101,114,103,101]⟩,s]++(zvi a.k (exT a)++zvi b.k (exT b)))++_);rw[zyt (by simp) (by simp[zBF a]),zyt (zBF a) (zBF b),show ([⟨#[109,101,114,103,101]⟩,s]:List ByteArray)=[⟨#[109,101,114,103,101]⟩]++[s] from rfl,zyt (by simp) (by simp),zyo,zyo];rw[show (⟨#[40,32,109,101,114,103,101,32]⟩:ByteArray)=⟨#[40,32]⟩++(⟨#[109,101,114,103,101]⟩++⟨#[32]⟩) by decide +kernel];simp only[zyi]
 . rw[h] at hA ⊢;obtain⟨a,rfl⟩:=zBr (show ts.length=1 from eq_of_beq hA);unfold zyn;rw[h]
   show ⟨#[40,32]⟩++J (exT a)++⟨#[32]⟩++op++⟨#[32]⟩++s++⟨#[32,41]⟩=J (exW 7 s _ _ (exL [a]));rw[zBc (by decide)]
   show _=_++(J (exT a++[wd 7,s])++_);rw[zyt (zyX a) (by simp),show ([wd 7,s]:List ByteArray)=[wd 7]++[s] from rfl,zyt (by simp) (by simp),zyo,zyo,wd7,show op=⟨#[119,104,101,110]⟩ from zi9 (by rw[h];decide +kernel)];simp only[zyi]
 . rw[h] at hA ⊢;obtain⟨a,rfl⟩:=zBr (show ts.length=1 from eq_of_beq hA);unfold zyn;rw[h]
   show ⟨#[40,32]⟩++J (exT a)++⟨#[32]⟩++op++⟨#[32]⟩++s++⟨#[32,41]⟩=J (exW 8 s _ _ (exL [a]));rw[zBc (by decide)]
   show _=_++(J (exT a++[wd 8,s])++_);rw[zyt (zyX a) (by simp),show ([wd 8,s]:List ByteArray)=[wd 8]++[s] from rfl,zyt (by simp) (by simp),zyo,zyo,wd8,show op=⟨#[119,104,101,110,111,116]⟩ from zi9 (by rw[h];decide +kernel)];simp only[zyi]
 . rw[h] at hA ⊢;obtain⟨a,b,rfl⟩:=zyR (show ts.length=2 from eq_of_beq hA);unfold zyn;rw[h]
   show ⟨#[40,32]⟩++J (exT a)++⟨#[32]⟩++op++⟨#[32]⟩++J (exT b)++⟨#[32,41]⟩=J (exW 9 s _ _ (exL [a,b]));rw[zzf (by decide),show op=wd 9 from zi9 (by rw[h];decide +kernel)]
 . rw[h] at hA ⊢;obtain⟨a,rfl⟩:=zBr (show ts.length=1 from eq_of_beq hA);unfold zyn;rw[h]
   show ⟨#[40,32,45,32]⟩++J (exT a)++⟨#[32,41]⟩=J (exW 10 s _ _ (exL [a]));rw[zBc (by decide)]
   show _=_++(J ([wd 10]++exT a)++_);rw[zyt (by simp) (zyX a),zyo,zG2,show (⟨#[40,32,45,32]⟩:ByteArray)=⟨#[40,32]⟩++(⟨#[45]⟩++⟨#[32]⟩) by decide +kernel];simp only[zyi]
 . rw[h] at hA ⊢;obtain⟨a,rfl⟩:=zBr (show ts.length=1 from eq_of_beq hA);unfold zyn;rw[h]
   show ⟨#[40,32,110,111,116,32]⟩++J (exT a)++⟨#[32,41]⟩=J (exW 11 s _ _ (exL [a]));rw[zBc (by decide)]
   show _=_++(J ([wd 11]++exT a)++_);rw[zyt (by simp) (zyX a),zyo,zHg,show (⟨#[40,32,110,111,116,32]⟩:ByteArray)=⟨#[40,32]⟩++(⟨#[110,111,116]⟩++⟨#[32]⟩) by decide +kernel];simp only[zyi]
 . rw[h] at hA ⊢;obtain⟨a,b,rfl⟩:=zyR (show ts.length=2 from eq_of_beq hA);unfold zyn;rw[h]
   show ⟨#[40,32]⟩++J (exT a)++⟨#[32]⟩++op++⟨#[32]⟩++J (exT b)++⟨#[32,41]⟩=J (exW 12 s _ _ (exL [a,b]));rw[zzf (by decide),show op=wd 12 from zi9 (by rw[h];decide +kernel)]
 . rw[h] at hA ⊢;obtain⟨a,b,rfl⟩:=zyR (show ts.length=2 from eq_of_beq hA);unfold zyn;rw[h]
   show ⟨#[40,32]⟩++J (exT a)++⟨#[32]⟩++op++⟨#[32]⟩++J (exT b)++⟨#[32,41]⟩=J (exW 13 s _ _ (exL [a,b]));rw[zzf (by decide),show op=wd 13 from zi9 (by rw[h];decide +kernel)]
 . rw[h] at hA ⊢;obtain⟨a,b,rfl⟩:=zyR (show ts.length=2 from eq_of_beq hA);unfold zyn;rw[h]
   show ⟨#[40,32]⟩++J (exT a)++⟨#[32]⟩++op++⟨#[32]⟩++J (exT b)++⟨#[32,41]⟩=J (exW 14 s _ _ (exL [a,b]));rw[zzf (by decide),show op=wd 14 from zi9 (by rw[h];decide +kernel)]
 . rw[h] at hA ⊢;obtain⟨a,b,rfl⟩:=zyR (show ts.length=2 from eq_of_beq hA);unfold zyn;rw[h]
   show ⟨#[40,32]⟩++J (exT a)++⟨#[32]⟩++op++⟨#[32]⟩++J (exT b)++⟨#[32,41]⟩=J (exW 15 s _ _ (exL [a,b]));rw[zzf (by decide),show op=wd 15 from zi9 (by rw[h];decide +kernel)]
 . rw[h] at hA ⊢;obtain⟨a,b,rfl⟩:=zyR (show ts.length=2 from eq_of_beq hA);unfold zyn;rw[h]
   show ⟨#[40,32]⟩++J (exT a)++⟨#[32]⟩++op++⟨#[32]⟩++J (exT b)++⟨#[32,41]⟩=J (exW 16 s _ _ (exL [a,b]));rw[zzf (by decide),show op=wd 16 from zi9 (by rw[h];decide +kernel)]
 . rw[h] at hA ⊢;obtain⟨a,b,rfl⟩:=zyR (show ts.length=2 from eq_of_beq hA);unfold zyn;rw[h]
   show ⟨#[40,32]⟩++J (exT a)++⟨#[32]⟩++op++⟨#[32]⟩++J (exT b)++⟨#[32,41]⟩=J (exW 17 s _ _ (exL [a,b]));rw[zzf (by decide),show op=wd 17 from zi9 (by rw[h];decide +kernel)]
 . rw[h] at hA ⊢;obtain⟨a,b,rfl⟩:=zyR (show ts.length=2 from eq_of_beq hA);unfold zyn;rw[h]
   show ⟨#[40,32]⟩++J (exT a)++⟨#[32]⟩++op++⟨#[32]⟩++J (exT b)++⟨#[32,41]⟩=J (exW 18 s _ _ (exL [a,b]));rw[zzf (by decide),show op=wd 18 from zi9 (by rw[h];decide +kernel)]
 . rw[h] at hA ⊢;obtain⟨a,b,rfl⟩:=zyR (show ts.length=2 from eq_of_beq hA);unfold zyn;rw[h]
   show ⟨#[40,32]⟩++J (exT a)++⟨#[32]⟩++op++⟨#[32]⟩++J (exT b)++⟨#[32,41]⟩=J (exW 19 s _ _ (exL [a,b]));rw[zzf (by decide),show op=wd 19 from zi9 (by rw[h];decide +kernel)]
 . rw[h] at hA ⊢;obtain⟨a,b,rfl⟩:=zyR (show ts.length=2 from eq_of_beq hA);unfold zyn;rw[h]
   show ⟨#[40,32]⟩++J (exT a)++⟨#[32]⟩++op++⟨#[32]⟩++J (exT b)++⟨#[32,41]⟩=J (exW 20 s _ _ (exL [a,b]));rw[zzf (by decide),show op=wd 20 from zi9 (by rw[h];decide +kernel)]
 . rw[h] at hA ⊢;obtain⟨a,b,rfl⟩:=zyR (show ts.length=2 from eq_of_beq hA);unfold zyn;rw[h]
   show ⟨#[40,32]⟩++J (exT a)++⟨#[32]⟩++op++⟨#[32]⟩++J (exT b)++⟨#[32,41]⟩=J (exW 21 s _ _ (exL [a,b]));rw[zzf (by decide),show op=wd 21 from zi9 (by rw[h];decide +kernel)]
 . rw[h] at hA ⊢;obtain⟨a,b,rfl⟩:=zyR (show ts.length=2 from eq_of_beq hA);unfold zyn;rw[h]
   show ⟨#[40,32]⟩++J (exT a)++⟨#[32]⟩++op++⟨#[32]⟩++J (exT b)++⟨#[32,41]⟩=J (exW 22 s _ _ (exL [a,b]));rw[zzf (by decide),show op=wd 22 from zi9 (by rw[h];decide +kernel)]
 . rw[h] at hA ⊢;obtain⟨a,b,rfl⟩:=zyR (show ts.length=2 from eq_of_beq hA);unfold zyn;rw[h]
   show ⟨#[40,32]⟩++J (exT a)++⟨#[32]⟩++op++⟨#[32]⟩++J (exT b)++⟨#[32,41]⟩=J (exW 23 s _ _ (exL [a,b]));rw[zzf (by decide),show op=wd 23 from zi9 (by rw[h];decide +kernel)]
end
section
variable {e:Ex} {atm part rx:Fn} {lv n:Nat} {st:St} {t:Tk}
def arE (e:Ex):Bool:=arB (zag e.op.toList e.n) e.ins.length
def ArL (L:List Ex):Prop:=∀e∈L,arE e=true
def ArK (M:Fn):Prop:=∀st,ArL st.L->ArL (M st).1.L
theorem ArL.add {L:List Ex}(h:ArL L)(he:arE e=true):ArL (L++[e]):=by
 intro x hx;rcases List.mem_append.1 hx with hx|hx
 . exact h x hx
 . rw[List.mem_singleton.1 hx];exact he
theorem St.add_L (st:St)(e:Ex):(st.add e).L=st.L++[e]∨(st.add e).L=st.L:=by unfold St.add;first|exact Or.inl rfl|(split <;> first|exact Or.inl rfl|exact Or.inr rfl)
theorem St.leave_L (st:St):st.leave.L=st.L:=by unfold St.leave;first|rfl|(split <;> rfl)
theorem ArL.put (h:ArL st.L)(he:arE e=true):ArL (st.put e).1.L:=by
 show ArL (st.add e).L;rcases st.add_L e with h1|h1
 . rw[h1];exact h.add he
 . rw[h1];exact h
theorem zGU:zag zlo.toList 0=10:=by decide +kernel
theorem zGM:zag zk5.toList 0=11:=by decide +kernel
theorem zEI:zag zef.toList 0=4:=by decide +kernel
theorem zGZ:zag sIf.toList 0=5:=by decide +kernel
theorem zF6:zag zep.toList 0=6:=by decide +kernel
theorem zGS:zag zgW.toList 0=9:=by decide +kernel
theorem zGT:zag zfR.toList 0=3:=by decide +kernel
theorem zGe:zag zcb.toList 1=1:=by decide +kernel
theorem zGf:zag zcb.toList 0=2:=by decide +kernel
theorem zGL (n:Nat):zag zcq.toList n=0:=by unfold zag;rw[if_pos (by decide +kernel)]
theorem zyF {k:Nat}{op:ByteArray}{l:Nat}(hk:zag op.toList n=k)(h:arB k l=true){a b:Nat}{ins:List Nat}{s:ByteArray}(hl:ins.length=l):arE ⟨op,a,b,ins,s,n⟩=true:=by unfold arE;simp only[hk,hl];exact h
theorem zER (h:zco t n=true)(a b:Nat):arE ⟨t.s,t.a,0,[a,b],sE,0⟩=true:=by
 unfold zco at h;split at h
 . cases h
 . split at h
   . rename_i h1;unfold arE;rcases h1 with h1|h1 <;> (simp only[h1];rfl)
   . split at h
     . rename_i h1;unfold arE;simp only[h1];rfl
     . split at h
       . rename_i h1;unfold arE;rcases h1 with h1|h1 <;> (simp only[h1];rfl)
       . split at h
         . rename_i h1;unfold arE;rcases h1 with h1|h1|h1 <;> (simp only[h1];rfl)
         . cases h
theorem zCt (hp:ArK part):∀(f:Nat) (x:St×Nat),ArL x.1.L->ArL (zdq lv part f x).1.L
 | 0,_,h=>h
 | f+1,x,h=>by
   unfold zdq;split
   . rename_i hc
     refine zCt hp f _ (ArL.put (hp _ (by rw[St.step_L];exact h)) (zER hc.2 _ _))
   . exact h
theorem zAJ (hp:ArK part):ArK (zcT lv part):=λst h=>zCt hp 1300 _ (hp st h)
theorem zGb (h:zcn t=true)(a b:Nat):arE ⟨t.s,t.a,0,[a,b],sE,0⟩=true:=by unfold zcn at h;simp only[Bool.and_eq_true,Bool.or_eq_true,beq_iff_eq] at h;unfold arE;rcases h.2 with ((h1|h1)|h1)|h1 <;> (simp only[h1];rfl)
theorem zEO {sum:Fn}(hs:ArK sum):ArK (zdJ sum):=by
 intro st h;unfold zdJ;simp only;split
 . rename_i hc
   exact ArL.put (hs _ (by rw[St.step_L];exact hs st h)) (zGb hc.2 _ _)
 . exact hs st h
theorem zEg {ru smp:Fn}(hr:ArK ru)(hs:ArK smp):ArK (zdn ru smp):=by
 intro st h;unfold zdn;split
 . refine ArL.put (by rw[St.leave_L];exact hr _ (by rw[St.enter_L];exact h)) ?_;split
   . exact zyF zGU (l:=1) rfl rfl
   . exact zyF zGM (l:=1) rfl rfl
 . exact hs st h
theorem zGk (h:zdi st=true)(a b x:Nat)(s:ByteArray):arE ⟨st.t.s,a,b,[x],s,0⟩=true:=by unfold zdi St.is at h;simp only[Bool.or_eq_true,Bool.and_eq_true,beq_iff_eq] at h;unfold arE;rcases h with h1|h1 <;> (simp only[h1.2];rfl)
theorem zAp:∀(f:Nat) (x:St×Nat),ArL x.1.L->ArL (zaY f x).1.L
 | 0,_,h=>h
 | f+1,x,h=>by
   unfold zaY;split
   . rename_i hc
     refine zAp f _ (ArL.put (by rw[St.name_L,St.step_L];exact h) (zGk hc.2 _ _ _ _))
   . exact h
theorem zCY (ha:ArK atm):ArK (zfu atm):=λst h=>zAp 1300 _ (ha st h)
theorem zBV (hr:ArK rx):∀(f:Nat) (x:St×List Nat),ArL x.1.L->1<=x.2.length->ArL (zc1 rx f x).1.L/\1<=(zc1 rx f x).2.length
 | 0,_,h,h1=>⟨h,h1⟩
 | f+1,x,h,h1=>by
   unfold zc1;split
   . exact zBV hr f _ (hr _ (by rw[St.step_L];exact h)) (by simp)
   . exact⟨h,h1⟩
theorem zCB (hr:ArK rx)(t:Tk):ArK (zao rx t):=by
 intro st h;unfold zao;split
 . simp only;have:=zBV hr 1300 ((rx st.enter).1,[(rx st.enter).2]) (hr _ (by rw[St.enter_L];exact h)) (by simp);refine ArL.put (by rw[St.leave_L,St.must_L];exact this.1) ?_;exact zyF zEI (by show decide (1<=_)=true;exact decide_eq_true this.2) rfl
 . show ArL (st.fail 2 st.t.a).L;rw[St.fail_L];exact h
theorem zDL (hr:ArK rx):ArK (zdx rx):=by intro st h;unfold zdx;simp only;refine ArL.put ?_ (zyF zGZ (l:=3) rfl rfl);rw[St.leave_L];exact hr _ (by rw[St.must_L];exact hr _ (by rw[St.must_L];exact hr _ (by rw[St.enter_L];exact h)))
theorem zDk:ArK zjx:=λst h=>ArL.put (by rw[St.step_L];exact h) (zyF zGT (l:=0) rfl rfl)
theorem zCw (ha:ArK atm):ArK (zch atm):=by
 intro st h;unfold zch;split
 . exact ha st h
 . exact zDk st h
theorem zEE (ha:ArK atm):ArK (zeE atm):=by intro st h;unfold zeE;simp only;refine ArL.put ?_ (zyF zF6 (l:=2) rfl rfl);rw[St.leave_L];exact zCw ha _ (zCw ha _ (by rw[St.name_L,St.enter_L];exact h))
theorem zD7 (hr:ArK rx):ArK (zfQ rx):=by
 intro st h
 show ArL (((rx st.enter).1.must 4 [41]).leave).L;rw[St.leave_L,St.must_L];exact hr _ (by rw[St.enter_L];exact h)
theorem zAx (op:ByteArray)(n:Nat)(h0:∀a:Nat,arE ⟨op,a,0,[],sE,n⟩=true):ArK (zdP op n):=λst h=>ArL.put (by rw[St.step_L];exact h) (h0 _)
theorem zES {ra:Fn}(hr:ArK rx)(ha:ArK ra):ArK (zap rx ra):=by
 intro st h;unfold zap;split
 . exact h
 . split
   . exact zAx zcq _ (λ_=>zyF (zGL _) (l:=0) rfl rfl) st h
   . split
     . split
       . exact zCB hr _ _ (by rw[St.step_L];exact h)
       . exact zDk st h
     . split
       . exact zD7 hr st h
       . split
         . exact zAx zcb 1 (λ_=>zyF zGe (l:=0) rfl rfl) st h
         . split
           . exact zAx zcb 0 (λ_=>zyF zGf (l:=0) rfl rfl) st h
           . split
             . exact zDL hr st h
             . split
               . exact zEE ha st h
               . show ArL (st.fail 2 st.t.a).L;rw[St.fail_L];exact h
theorem zFk {eith:Fn}(hr:ArK rx)(he:ArK eith):ArK (zgk rx eith):=by
 intro st h;unfold zgk;simp only;split
 . refine ArL.put ?_ (zyF zGS (l:=2) rfl rfl);rw[St.leave_L];exact hr _ (by rw[St.enter_L];exact he st h)
 . exact he st h
theorem zDb:∀d:Nat,ArK (lev d).ex/\ArK (lev d).un/\ArK (lev d).at'
 | 0=>⟨λ_ h=>h,λ_ h=>h,λ_ h=>h⟩
 | d+1=>by obtain⟨h1,h2,h3⟩:=zDb d;have ha:ArK (zap (lev d).ex (lev d).at'):=zES h1 h3;have hu:ArK (zdn (lev d).un (zfu (zap (lev d).ex (lev d).at'))):=zEg h2 (zCY ha);exact⟨zFk h1 (zAJ (zAJ (zEO (zAJ (zAJ hu))))),hu,ha⟩
end
end Go.Proofs.YtmfkofhgdjechaaGreatDoor
