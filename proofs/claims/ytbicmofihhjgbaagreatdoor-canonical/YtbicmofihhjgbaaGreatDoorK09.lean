/- Part 10 of the proof. -/
import Derived.Lib.ItoaNum
import Derived.Test.YtbicmofihhjgbaaGreatDoorK08
set_option maxRecDepth 100000
set_option maxHeartbeats 8000000
namespace Go.Proofs.YtbicmofihhjgbaaGreatDoor
open Go.Proofs.Tryz
section
variable {t:Tm}
mutual
def szT:Tm->Nat
 | .mk _ _ _ _ _ ts=>szL ts+1
def szL:List Tm->Nat
 | []=>0
 | t::l=>szT t+szL l
end
theorem zkw {l:List Tm}(h:t∈l):szT t<=szL l:=by
 induction l with
 | nil=>simp at h
 | cons x l ih =>
   rcases zNa.1 h with rfl|h
   . simp[szL]
   have:=ih h;simp[szL];omega
theorem Tm.ind {P:Tm->Prop}(h:∀k a s nm n ts,(∀t∈ts,P t)->P (.mk k a s nm n ts)):∀t,P t
 | .mk k a s nm n ts=>h k a s nm n ts (λt _=>Tm.ind h t)
termination_by t=>szT t
decreasing_by simp only[szT];have:=zkw ‹_›;omega
def arB (k n:Nat):Bool :=
 if k<=3 then n==0 else if k=4 then decide (1<=n) else if k=5 then n==3 else if k=6 then n==2 else if k<=8 then n==1 else if k=9 then n==2 else if k<=11 then n==1 else if k<=23 then n==2 else false
inductive Wf:Tm->Prop
 | mk (k a:Nat) (s:Xb) (nm n:Nat) (ts:List Tm) (h:arB k ts.length=true) (hr:∀t∈ts,Wf t):Wf (.mk k a s nm n ts)
theorem Wf.sub {u:Tm}(h:Wf t)(hu:u∈t.ts):Wf u:=by
 cases h with
 | mk k a s nm n ts h hr=>exact hr u hu
theorem Wf.ar (h:Wf t):arB t.k t.ts.length=true:=by
 cases h with
 | mk k a s nm n ts h hr=>exact h
mutual
def zaV (g:Tm->Bool):Tm->List Tm
 | .mk k a s nm n ts=>.mk k a s nm n ts::(if g (.mk k a s nm n ts)=true then zdk g ts else [])
def zdk (g:Tm->Bool):List Tm->List Tm
 | []=>[]
 | t::l=>zaV g t++zdk g l
end
def za5 (_:Tm):Bool:=true
def zak (t:Tm):Bool:=t.k != 9
def Sc.has (c:Sc)(s:Xb):Bool:=(c.nd.find s).isSome
def zaJ (k:Nat):Bool:=k==3||k==7||k==8||k==6
def zda (q:Qn)(t:Tm):Nat:=if szT t=szT q.r then q.ns.length else 1
def Sc.fits (c:Sc)(t:Tm)(u:Nat):Bool :=
 match c.called t.s with
 | none=>false
 | some d=>d.nd.ins==t.ts.length&&d.nd.outs==u
def zat (c:Sc):List Vr->Nat->List Nat
 | [],_=>[]
 | v::l,i=>(if (c.nd.find v.nm).getD 0<i then [v.a] else [])++(if (zaA v != 0&&!c.has v.ck)=true then [v.ca] else [])++zat c l (i+1)
def z7 (c:Sc):List ByteArray->List Nat->List Nat
 | s::ns,p::ps=>(if (!c.has s||decide (c.idx s<c.nd.ins))=true then [p] else [])++z7 c ns ps
 | _,_=>[]
def zaL (c:Sc)(q:Qn)(t:Tm):List Nat :=
 (if (zaJ t.k&&!c.has t.s)=true then [t.nm] else [])++(if (t.k==4&&!c.fits t (zda q t))=true then [t.nm] else [])
def Sc.namesL (c:Sc):List Nat :=
 (if (c.called c.nd.nm).isSome=true then [c.nd.a] else [])++zat c c.nd.vars 0++(c.nd.eqs.flatMap λq=>z7 c q.ns q.ps)++(c.nd.eqs.flatMap λq=>(zaV za5 q.r).flatMap (zaL c q))
def tyV (v:Vr):Nat:=if v.bl=true then 1 else 0
def Sc.decl (c:Sc)(s:Xb):Nat:=((c.nd.vars[c.idx s]?).map tyV).getD 0
def Nod.results (n:Nod):List Vr:=(n.vars.drop n.ins).take n.outs
def Sc.callTy (c:Sc)(s:Xb):Nat :=
 match c.called s with
 | none=>0
 | some d=>((d.nd.results[0]?).map tyV).getD 0
mutual
def zaj (c:Sc):Tm->Nat
 | .mk k _ s _ _ ts =>
   if k=3 then c.decl s else if k=4 then c.callTy s else if k=7∨k=8∨k=6 then zbh c ts 0 else if k=5∨k=9 then zbh c ts 1
   else if k=0∨k=10∨(19<=k/\k<=23) then 0 else 1
def zbh (c:Sc):List Tm->Nat->Nat
 | [],_=>0
 | t::_,0=>zaj c t
 | _::l,n+1=>zbh c l n
end
def zcv (c:Sc)(ty:Nat)(l:List Tm):Bool:=l.all λt=>zaj c t==ty
def zc9 (c:Sc)(l:List Tm):Bool:=zbh c l 0==zbh c l 1
def zcG (t:Tm):Bool :=
 if t.k=0∨t.k=1∨t.k=2 then true else if t.k=10 then (match t.ts with|[]=>false|u::_=>u.k==0) else false
def zaQ (c:Sc):List Tm->List Vr->Bool
 | t::l,v::vs=>if (zaj c t != tyV v)=true then false else zaQ c l vs
 | [],_=>true
 | _::_,[]=>true
def Sc.operands (c:Sc)(t:Tm):Bool :=
 if t.k=10∨t.k=17∨t.k=18∨(19<=t.k/\t.k<=23) then zcv c 0 t.ts
 else if t.k=11∨t.k=12∨t.k=13∨t.k=14 then zcv c 1 t.ts
 else if t.k=15∨t.k=16∨t.k=6 then zc9 c t.ts
 else if t.k=5 then zcv c 1 (t.ts.take 1)&&zc9 c (t.ts.drop 1)
 else if t.k=9 then (match t.ts with|[]=>false|u::_=>zcG u)&&zc9 c t.ts
 else if t.k=4 then (match c.called t.s with|none=>true|some d=>zaQ c t.ts d.nd.vars)
 else true
def zaE (c:Sc):List ByteArray->List Vr->Bool
 | s::ns,r::rs=>if (c.decl s != tyV r)=true then false else zaE c ns rs
 | _,_=>true
def Sc.holds (c:Sc)(q:Qn):Bool :=
 match q.ns with
 | [s]=>c.decl s==zaj c q.r
 | ns=>match c.called q.r.s with
   | none=>true
   | some d=>zaE c ns d.nd.results
def zau (c:Sc):List Vr->List Nat
 | []=>[]
 | v::l=>(if (zaA v != 0&&c.decl v.ck != 1)=true then [v.on] else [])++zau c l
def zbQ (c:Sc)(t:Tm):List Nat :=
 (if (zaJ t.k&&t.k != 3&&c.decl t.s != 1)=true then [t.nm] else [])++(if c.operands t=true then [] else [t.a])
def Sc.typesL (c:Sc):List Nat :=
 zau c c.nd.vars++(c.nd.eqs.flatMap λq=>if c.holds q=true then [] else [q.a])++(c.nd.eqs.flatMap λq=>(zaV za5 q.r).flatMap (zbQ c))
def Sc.own (c:Sc)(v:Vr):Nat×Nat:=if zaA v=0 then (0,0) else (c.idx v.ck,zaA v)
def Sc.of (c:Sc)(i:Nat):Nat×Nat:=match c.nd.vars[i]? with|none=>(0,0)|some v=>c.own v
def Sc.up (c:Sc)(k:Nat×Nat):Nat×Nat:=if k.2=1∨k.2=2 then c.of k.1 else (0,0)
def zhr (c:Sc)(i:Nat):Nat->Nat×Nat->Bool
 | 0,_=>false
 | f+1,k=>if k=(0,0) then false else if k.1=i then true else zhr c i f (c.up k)
def Sc.comesBack (c:Sc)(i:Nat):Bool:=zhr c i (2*c.nd.vars.length) (c.of i)
def zbv (c:Sc):List Vr->Nat->List Nat
 | [],_=>[]
 | v::l,i=>(if c.comesBack i=true then [v.a] else [])++zbv c l (i+1)
def zbl (c:Sc)(k:Nat×Nat):List ByteArray->List Nat->List Nat
 | s::ns,p::ps=>(if c.of (c.idx s)=k then [] else [p])++zbl c k ns ps
 | _,_=>[]
def Sc.operand (c:Sc)(t:Tm)(i:Nat)(k:Nat×Nat):Nat×Nat :=
 if t.k=7∨t.k=8 then c.of (c.idx t.s) else if t.k=6 then (c.idx t.s,if 0<i then 2 else 1) else k
def zi8 (k:Nat):Nat:=if k=8 then 2 else 1
def Sc.isOn (c:Sc)(t:Tm)(k:Nat×Nat):List Nat×Bool :=
 if t.k=3∨t.k=6 then (if c.of (c.idx t.s)=k then [] else [t.nm],true)
 else if t.k=7∨t.k=8 then (if k=(c.idx t.s,zi8 t.k) then ([],true) else ([t.a],false))
 else ([],true)
mutual
def onT (c:Sc):Tm->Nat×Nat->List Nat
 | .mk x a s nm n ts,k=>(c.isOn (.mk x a s nm n ts) k).1++(if (c.isOn (.mk x a s nm n ts) k).2=true then onL c (.mk x a s nm n ts) k ts 0 else [])
def onL (c:Sc)(t:Tm)(k:Nat×Nat):List Tm->Nat->List Nat
 | [],_=>[]
 | u::l,i=>onT c u (c.operand t i k)++onL c t k l (i+1)
end
def zer (c:Sc)(q:Qn):List Nat :=
 let k:=c.of (c.idx (q.ns.headD ⟨#[]⟩))
 zbl c k q.ns.tail q.ps.tail++onT c q.r k
def Sc.clocksL (c:Sc):List Nat:=zbv c c.nd.vars 0++c.nd.eqs.flatMap (zer c)
def zaC (c:Sc):List ByteArray->List Nat->List Bool->List Nat×List Bool
 | s::ns,p::ps,d =>
   let r:=zaC c ns ps (d.set (c.idx s) true)
   ((if d.getD (c.idx s) false=true then [p] else [])++r.1,r.2)
 | _,_,d=>([],d)
def zcN (c:Sc):List Qn->List Bool->List Nat×List Bool
 | [],d=>([],d)
 | q::l,d =>
   let r:=zaC c q.ns q.ps d
   let r':=zcN c l r.2
   (r.1++r'.1,r'.2)
def zb1 (ins:Nat)(d:Xk):List Vr->Nat->List Nat
 | [],_=>[]
 | v::l,i=>(if (decide (ins<=i)&&!d.getD i false)=true then [v.a] else [])++zb1 ins d l (i+1)
def Sc.definesL (c:Sc):List Nat :=
 let r:=zcN c c.nd.eqs (List.replicate c.nd.vars.length false)
 r.1++zb1 c.nd.ins r.2 c.nd.vars 0
def zcO (c:Sc)(i:Nat)(t:Tm):List (Nat×Nat):=if zaJ t.k=true then [(i,c.idx t.s)] else []
def zaO (c:Sc)(q:Qn)(s:Xb):List (Nat×Nat) :=
 let i:=c.idx s
 (if (c.of i).2=0 then [] else [(i,(c.of i).1)])++(zaV zak q.r).flatMap (zcO c i)
def Sc.linksL (c:Sc):List (Nat×Nat):=c.nd.eqs.flatMap λq=>q.ns.flatMap (zaO c q)
def zcA (by' fr n:Nat):Nat->List (Nat×Nat)->List (Nat×Nat)
 | 0,L=>L
 | m+1,L=>zcA by' fr n m (if (fr,by')∈L/\(by',n-(m+1))∈L then L++[(fr,n-(m+1))] else L)
def zbJ (by' n:Nat):Nat->List (Nat×Nat)->List (Nat×Nat)
 | 0,L=>L
 | m+1,L=>zbJ by' n m (zcA by' (n-(m+1)) n n L)
def zeD (n:Nat):Nat->List (Nat×Nat)->List (Nat×Nat)
 | 0,L=>L
 | m+1,L=>zeD n m (zbJ (n-(m+1)) n n L)
def zdT (n:Nat)(L:List (Nat×Nat)):List (Nat×Nat):=zeD n n L
def zht (a:Nat)(L:List (Nat×Nat))(n:Nat):Nat->List Nat
 | 0=>[]
 | m+1=>(if (n-(m+1),n-(m+1))∈L then [a] else [])++zht a L n m
def Sc.causesL (c:Sc):List Nat:=zht c.nd.a (zdT c.nd.vars.length c.linksL) c.nd.vars.length c.nd.vars.length
def zbi (s:Xb):List (ByteArray×Nat)->Nat
 | []=>0
 | p::l=>if p.1=s then p.2 else zbi s l
def za9 (m:List (ByteArray×Nat))(t:Tm):Nat:=if t.k=9 then 1 else if t.k=4 then 1+zbi t.s m else 0
def zed (l:Xn):Nat:=l.foldl (·+·) 0
def zcg (n:Nod)(m:List (ByteArray×Nat)):Nat:=min (zed ((n.eqs.flatMap λq=>zaV za5 q.r).map (za9 m))) 61
def zfW:List Nod->List (ByteArray×Nat)->Nat->Nat
 | [],_,last=>last
 | n::l,m,_=>zfW l ((n.nm,zcg n m)::m) (zcg n m)
def zeZ (ns:List Nod):List Nat:=if 60<zfW ns [] 0 then [0] else []
def scs (ns:List Nod):List Sc:=(List.range ns.length).filterMap λi=>(ns[i]?).map λn=>⟨ns.take i,n⟩
def rep:Option Nat->Nat->Option Nat
 | none,p=>some p
 | some b,p=>if p<b then some p else some b
def zO (l:Xn):Option Nat:=l.foldl rep none
def zbc (ns:List Nod):Option (Nat×Nat) :=
 match zO ((scs ns).flatMap Sc.namesL) with
 | some p=>some (4,p)
 | none=>match zO ((scs ns).flatMap Sc.typesL) with
   | some p=>some (5,p)
   | none=>match zO ((scs ns).flatMap Sc.clocksL) with
     | some p=>some (6,p)
     | none=>match zO ((scs ns).flatMap Sc.definesL) with
       | some p=>some (7,p)
       | none=>match zO ((scs ns).flatMap Sc.causesL) with
         | some p=>some (8,p)
         | none=>match zO (zeZ ns) with
           | some p=>some (9,p)
           | none=>none
theorem zlT {l:Xn}(h:zO l=none):l=[]:=by
 have:∀(l:Xn) (s:Xo),s.isSome=true->(l.foldl rep s).isSome=true:=by
  intro l;induction l with
  | nil=>intro s h;exact h
  | cons p l ih =>
    intro s h;refine ih _ ?_;cases s with
    | none=>rfl
    | some b=>show (if p<b then some p else some b).isSome=true;split <;> rfl
 cases l with
 | nil=>rfl
 | cons p l => have h2:=this l (rep none p) rfl;unfold zO at h;rw[List.foldl_cons] at h;rw[h] at h2;cases h2
end
section
def lpW:ByteArray:=⟨#[40]⟩
def rpW:ByteArray:=⟨#[41]⟩
def coW:ByteArray:=⟨#[44]⟩
def zu6:Bool->List (List ByteArray)->List ByteArray
 | _,[]=>[]
 | b,x::l=>(if b then [coW] else [])++(x++zu6 true l)
def zu5 (l:List (List ByteArray)):List ByteArray:=[lpW]++(zu6 false l++[rpW])
def zvi (k:Nat)(l:Xl):List ByteArray:=if k=4 then [lpW]++(l++[rpW]) else l
def opW (k:Nat)(s:Xb)(ks:Xn)(l:List (List ByteArray)):List ByteArray :=
 if k=5 then [⟨#[105,102]⟩]++(l.getD 0 []++([⟨#[116,104,101,110]⟩]++(l.getD 1 []++([⟨#[101,108,115,101]⟩]++l.getD 2 []))))
 else if k=6 then [⟨#[109,101,114,103,101]⟩,s]++(zvi (ks.getD 0 0) (l.getD 0 [])++zvi (ks.getD 1 0) (l.getD 1 []))
 else if k=7∨k=8 then l.getD 0 []++[wd k,s]
 else if k=10∨k=11 then [wd k]++l.getD 0 []
 else l.getD 0 []++([wd k]++l.getD 1 [])
def zwd (n:Nat):ByteArray:=⟨(Lib.itoa (n:Int)).toArray⟩
def exW (k:Nat)(s:Xb)(n:Nat)(ks:Xn)(l:List (List ByteArray)):List ByteArray :=
 if k=0 then [zwd n]
 else if k=1∨k=2 then [wd k]
 else if k=3 then [s]
 else if k=4 then [s]++zu5 l
 else [lpW]++(opW k s ks l++[rpW])
mutual
def exT:Tm->List ByteArray
 | .mk k _ s _ n ts=>exW k s n (ts.map Tm.k) (exL ts)
def exL:List Tm->List (List ByteArray)
 | []=>[]
 | t::l=>exT t::exL l
end
theorem zvt:∀ts:List Tm,exL ts=ts.map exT
 | []=>rfl
 | t::l=>by rw[exL,zvt l];rfl
theorem zv4 (ts:List Tm):(exL ts).length=ts.length:=by rw[zvt,List.length_map]
theorem zwx {l:List (List ByteArray)}{k:Nat}{x:Xl}(h:l[k]?=some x)(b:Bool):zu6 b (l.take (k+1))=zu6 b (l.take k)++((if b=true∨0<k then [coW] else [])++x):=by
 induction l generalizing k b with
 | nil=>simp at h
 | cons y l ih =>
   cases k with
   | zero=>simp at h;subst h;simp[zu6]
   | succ k => simp at h;rw[zMW,zMW,zu6,zu6,ih h true];simp
def zu7 (v:Vr):List ByteArray:=[v.nm,⟨#[58]⟩,if v.bl then ⟨#[98,111,111,108]⟩ else ⟨#[105,110,116]⟩]
def onW (v:Vr):List ByteArray:=if zaA v=1 then [⟨#[111,110]⟩,v.ck] else if zaA v=2 then [⟨#[111,110]⟩,⟨#[110,111,116]⟩,v.ck] else []
def zu9 (v:Vr):List ByteArray:=zu7 v++(onW v++[⟨#[59]⟩])
def zvd (q:Qn):List ByteArray:=(if q.ns.length=1 then q.ns else zu5 (q.ns.map (λs=>[s])))++([⟨#[61]⟩]++(exT q.r++[⟨#[59]⟩]))
def zu4 (n:Nod):List ByteArray :=
 [⟨#[110,111,100,101]⟩,n.nm]++(zu5 ((n.vars.take n.ins).map zu7)++([⟨#[45,62]⟩]++(zu5 (((n.vars.drop n.ins).take n.outs).map zu7)++((if 0<(n.vars.drop (n.ins+n.outs)).length then [⟨#[118,97,114]⟩] else [])++((n.vars.drop (n.ins+n.outs)).flatMap zu9++([⟨#[123]⟩]++(n.eqs.flatMap zvd++[⟨#[125]⟩])))))))
def zvg (n:Nod):List UInt8:=([32]:Xu).intercalate ((zu4 n).map (·.data.toList))++[10]
def zu3 (ns:List Nod):List UInt8:=ns.flatMap zvg
end
section
variable {s x y:Xb} {a:Nat} {P:Xh}
def Rst (s:Xb):Nat->List ByteArray->Prop
 | p,[]=>zQ zbY s p=s.size
 | p,x::l=>zQ zbY s p+x.size<s.size/\(∀i,i<x.size->bt s (zQ zbY s p+i)=bt x i)/\zbY (bt s (zQ zbY s p+x.size))=true/\Rst s (zQ zbY s p+x.size) l
def sp1:ByteArray:=⟨#[32]⟩
def tkB (x:Xb):Tk:=zZ (x++sp1) 0
def zQM (x:Xb):Prop:=1<=x.size/\∀i,i<x.size->zbY (bt x i)=false
theorem zN0 {i:Nat}(h:i<x.size):bt (x++y) i=bt x i:=by unfold bt;rw[dif_pos h,dif_pos (by rw[ByteArray.size_append];omega),ByteArray.getElem_append_left h]
theorem zPu (x:Xb):bt (x++sp1) x.size=32:=by unfold bt;rw[dif_pos (by rw[ByteArray.size_append];show x.size<x.size+1;omega),ByteArray.getElem_append_right (zMK _)];simp[sp1];rfl
theorem zNA (x:Xb):(x++sp1).size=x.size+1:=by rw[ByteArray.size_append];rfl
theorem zOZ (hP:∀c,zbY c=true->P c=false)(h1:a+x.size<s.size)(h2:∀i,i<x.size->bt s (a+i)=bt x i)(h3:zbY (bt s (a+x.size))=true):∀(n j:Nat),j+n=x.size->zQ P s (a+j)=a+zQ P (x++sp1) j
 | 0,j,h=>by rw[Nat.add_zero] at h;subst h;rw[zif (hP _ h3),zif (hP _ (by rw[zPu];rfl))]
 | n+1,j,h=>by
   have hb:bt s (a+j)=bt (x++sp1) j:=(by rw[h2 j (by omega),zN0 (by omega)]);cases hp:P (bt (x++sp1) j) with
   | true => rw[zd1 (by omega) (by rw[hb];exact hp),zd1 (by rw[zNA];omega) hp];exact zOZ hP h1 h2 h3 n (j+1) (by omega)
   | false=>rw[zif (by rw[hb];exact hp),zif hp]
theorem zRp (hP:∀c,zbY c=true->P c=false)(x:Xb):zQ P (x++sp1) 0<=x.size:=by
 have:∀(n j:Nat),j+n=x.size->zQ P (x++sp1) j<=x.size:=by
  intro n;induction n with
  | zero=>intro j h;rw[Nat.add_zero] at h;subst h;rw[zif (hP _ (by rw[zPu];rfl))];exact zMK _
  | succ n ih =>
    intro j h;cases hp:P (bt (x++sp1) j) with
    | true=>rw[zd1 (by rw[zNA];omega) hp];exact ih (j+1) (by omega)
    | false=>rw[zif hp];omega
 exact this x.size 0 (by omega)
theorem zNO {m:Nat}(h1:a+m<=s.size)(h2:m<=y.size)(h:∀i,i<m->bt s (a+i)=bt y i):s.extract a (a+m)=y.extract 0 m:=by
 apply ByteArray.ext;apply Array.ext
 . have e1:(s.extract a (a+m)).data.size=(s.extract a (a+m)).size:=rfl;have e2:(y.extract 0 m).data.size=(y.extract 0 m).size:=rfl;rw[e1,e2,ByteArray.size_extract,ByteArray.size_extract];omega
 intro i h3 h4;have e1:(s.extract a (a+m)).data.size=(s.extract a (a+m)).size:=rfl;have hi:i<m:=by rw[e1,ByteArray.size_extract] at h3;omega
 have:=h i hi;unfold bt at this;rw[dif_pos (by omega),dif_pos (by omega)] at this;have g1:(s.extract a (a+m)).data[i]=s[a+i]'(by omega):=by show (s.extract a (a+m))[i]=_;rw[ByteArray.getElem_extract]
 have g2:(y.extract 0 m).data[i]=y[i]'(by omega):=by show (y.extract 0 m)[i]=_;rw[ByteArray.getElem_extract];simp
 rw[g1,g2];exact UInt8.toNat_inj.1 this
theorem zPJ (c:Nat)(h:zbY c=true):inW c=false:=by unfold zbY at h;simp only[Bool.or_eq_true,beq_iff_eq] at h;rcases h with rfl|rfl <;> rfl
theorem zRm (c:Nat)(h:zbY c=true):zT c=false:=by unfold zbY at h;simp only[Bool.or_eq_true,beq_iff_eq] at h;rcases h with rfl|rfl <;> rfl
theorem zRg (h:a+2<=s.size):(s.extract a (a+2)).toList=[UInt8.ofNat (bt s a),UInt8.ofNat (bt s (a+1))]:=by rw[ByteArray.toList_eq];have e:=zga s a (a+2) (by omega) h;have e':=zga s (a+1) (a+2) (by omega) h;unfold zcS at e e';rw[e,e'];have:((s.extract (a+1+1) (a+2)).data.toList)=[]:=zfX s (a+2);rw[this];unfold bt;rw[dif_pos (by omega),dif_pos (by omega)];simp
theorem lex {l:Xl}{p:Nat}(h:Rst s p (x::l))(hc:zQM x):zZ s p=⟨(tkB x).k,zQ zbY s p,zQ zbY s p+(tkB x).t,(tkB x).s,(tkB x).n⟩/\(tkB x).a=0:=by
 obtain⟨h1,h2,h3,_⟩:=h;obtain⟨c1,c2⟩:=hc;obtain⟨a,ha⟩:∃a,zQ zbY s p=a:=⟨_,rfl⟩;rw[ha] at h1 h2 h3 ⊢;have hb:∀i,i<x.size->bt s (a+i)=bt (x++sp1) i:=λi hi=>by rw[h2 i hi,zN0 hi]
 have s0:zQ zbY (x++sp1) 0=0:=zif (by rw[zN0 (by omega)];exact c2 0 (by omega));have b0:bt (x++sp1) 0=bt s a:=(hb 0 (by omega)).symm;have zx:=zNA x;have tb:tkB x=if zeM (bt s a)=true then zfg (x++sp1) 0 else if zT (bt s a)=true then zgc (x++sp1) 0 else zfh (x++sp1) 0:=by unfold tkB zZ;simp only;rw[s0,zM1 (by omega),b0]
 have ts:zZ s p=if zeM (bt s a)=true then zfg s a else if zT (bt s a)=true then zgc s a else zfh s a:=by unfold zZ;simp only;rw[ha,zM1 (by omega)]
 rw[ts];by_cases hl:zeM (bt s a)=true
 . rw[zM2 hl] at tb ⊢;rw[tb];have e1:=zOZ zPJ h1 h2 h3 x.size 0 (by omega);have e2:=zRp zPJ x;rw[Nat.add_zero] at e1;unfold zfg;simp only;rw[e1,Nat.sub_zero,show a+zQ inW (x++sp1) 0-a=zQ inW (x++sp1) 0 by omega,zNO (y:=x++sp1) (by omega) (by omega) (λi hi=>hb i (by omega))];exact⟨rfl,trivial⟩
 rw[zM1 hl] at tb ⊢;by_cases hd:zT (bt s a)=true
 . rw[zM2 hd] at tb ⊢;rw[tb];have e1:=zOZ zRm h1 h2 h3 x.size 0 (by omega);have e2:=zRp zRm x;rw[Nat.add_zero] at e1;unfold zgc;simp only;rw[(zms s _ a _ rfl).1,(zms (x++sp1) _ 0 _ rfl).1,e1];unfold zcS;rw[zNO (y:=x++sp1) (by omega) (by omega) (λi hi=>hb i (by omega))];exact⟨rfl,trivial⟩
 rw[zM1 hd] at tb ⊢;rw[tb];have key:((s.extract a (a+2)).toList==[45,62]||(s.extract a (a+2)).toList==[60,62]||(s.extract a (a+2)).toList==[60,61])=(((x++sp1).extract 0 (0+2)).toList==[45,62]||((x++sp1).extract 0 (0+2)).toList==[60,62]||((x++sp1).extract 0 (0+2)).toList==[60,61])/\(2<=x.size∨(((x++sp1).extract 0 (0+2)).toList==[45,62]||((x++sp1).extract 0 (0+2)).toList==[60,62]||((x++sp1).extract 0 (0+2)).toList==[60,61])=false):=by
  by_cases h2x:2<=x.size
  . rw[zNO (y:=x++sp1) (by omega) (by omega) (λi hi=>hb i (by omega)),Nat.zero_add];exact⟨rfl,zM3 h2x⟩
  have hx1:x.size=1:=by omega
  rw[zRg (by omega),zRg (s:=x++sp1) (by omega)];have e1:bt (x++sp1) (0+1)=32:=by have:=zPu x;rw[hx1] at this;exact this
  rw[e1];rw[hx1] at h3;unfold zbY at h3;simp only[Bool.or_eq_true,beq_iff_eq] at h3;rcases h3 with e|e <;> rw[e] <;> simp
 obtain⟨k1,k2⟩:=key;obtain⟨B,hB⟩:∃B,(((x++sp1).extract 0 (0+2)).toList==[45,62]||((x++sp1).extract 0 (0+2)).toList==[60,62]||((x++sp1).extract 0 (0+2)).toList==[60,61])=B:=⟨_,rfl⟩;rw[hB] at k1 k2;have g1:zfh s a=if B=true then ⟨4,a,a+2,s.extract a (a+2),0⟩ else if zfe (bt s a)=true then ⟨4,a,a+1,s.extract a (a+1),0⟩ else ⟨1,a,a,⟨#[]⟩,0⟩:=by
  unfold zfh;rw[k1];cases B
  . rw[zM1 (λh=>by cases h.2)];rfl
  rw[zM2 ⟨by omega,rfl⟩,zM2 rfl]
 have g2:zfh (x++sp1) 0=if B=true then ⟨4,0,2,(x++sp1).extract 0 2,0⟩ else if zfe (bt s a)=true then ⟨4,0,1,(x++sp1).extract 0 1,0⟩ else ⟨1,0,0,⟨#[]⟩,0⟩:=by
  unfold zfh;rw[hB,b0];cases B
  . rw[zM1 (λh=>by cases h.2)];rfl
  rw[zM2 ⟨by omega,rfl⟩,zM2 rfl]
 rw[g1,g2];cases B with
 | true => have h2x:2<=x.size:=(by rcases k2 with h|h;exact h;cases h);rw[zM2 rfl,zM2 rfl,zNO (y:=x++sp1) (by omega) (by omega) (λi hi=>hb i (by omega))];exact⟨rfl,rfl⟩
 | false =>
   rw[zM1 (show ¬false=true by simp),zM1 (show ¬false=true by simp)];by_cases hs:zfe (bt s a)=true
   . rw[zM2 hs,zM2 hs,zNO (m:=1) (y:=x++sp1) (by omega) (by omega) (λi hi=>hb i (by omega))];exact⟨rfl,rfl⟩
   rw[zM1 hs,zM1 hs];exact⟨rfl,rfl⟩
end
section
variable {s x:Xb} {l:Xl} {i k p:Nat} {P:Xh} {st:St}
structure zNf (x:Xb):Prop where
 cl:zQM x
 tt:(tkB x).t=x.size
 sz:x.size<=40
structure zNi (x:Xb):Prop where
 ok:zNf x
 k:(tkB x).k=2
 s:(tkB x).s=x
def At (st:St):List ByteArray->Prop
 | []=>st.er=0/\st.t.k=0
 | x::l=>st.er=0/\(st.t.k=(tkB x).k/\st.t.s=(tkB x).s/\st.t.n=(tkB x).n)/\Rst st.src st.t.t l
theorem At.er (h:At st l):st.er=0:=by cases l <;> exact h.1
theorem zQk (h:Rst s p l)(hl:∀x∈l,zNf x)(st:St)(hs:st.src=s)(he:st.er=0)(ht:st.t=zZ s p):At st l:=by
 cases l with
 | nil => refine⟨he,?_⟩;rw[ht];unfold zZ;simp only;rw[zM2 (show zQ zbY s p=s.size from h)]
 | cons x l => have hx:=hl x (zMS ..);have e:=(lex h hx.cl).1;rw[hx.tt] at e;refine⟨he,by rw[ht,e];exact⟨rfl,rfl,rfl⟩,?_⟩;rw[hs,ht,e];exact h.2.2.2
theorem At.step (h:At st (x::l))(hl:∀y∈l,zNf y):At st.step l:=by
 obtain⟨h1,_,h3⟩:=h;have e:st.step={ st with t:=zZ st.src st.t.t }:=by unfold St.step;rw[zM2 h1]
 rw[e];exact zQk h3 hl _ rfl h1 rfl
theorem At.is (h:At st (x::l))(k:Nat)(b:Xu):st.is k b=((tkB x).k==k&&(tkB x).s.toList==b):=by unfold St.is;rw[h.2.1.1,h.2.1.2.1]
def zQG (x:Xb)(k:Nat):Bool:=decide (1<=x.size)&&(List.range x.size).all (λi=>!zbY (bt x i))&&(tkB x).t==x.size&&(tkB x).k==k&&(tkB x).s.toList==x.toList&&decide (x.size<=40)
theorem zNh (h:zQG x k=true):zNf x/\(tkB x).k=k/\(tkB x).s.toList=x.toList:=by unfold zQG at h;simp only[Bool.and_eq_true,decide_eq_true_eq,beq_iff_eq,List.all_eq_true,List.mem_range,Bool.not_eq_true'] at h;exact⟨⟨⟨h.1.1.1.1.1,h.1.1.1.1.2⟩,h.1.1.1.2,h.2⟩,h.1.1.2,h.1.2⟩
theorem zPI:∀(l:Xu) (c:UInt8) (x:Bool×Nat),zdm (l++[c]) x=if (zdm l x).2 > (9223372036854775807-(c.toNat-48)) / 10 then (false,(zdm l x).2) else ((zdm l x).1,(zdm l x).2*10+(c.toNat-48))
 | [],c,x=>rfl
 | d::l,c,x=>by show zdm (l++[c]) _=_;rw[zPI l c];rfl
theorem zRV (h:k<10):(UInt8.ofNat (48+k)).toNat=48+k:=by rw[UInt8.toNat_ofNat'];omega
theorem zSj:∀n:Nat,zfi (Lib.decDigits n)/\1<=(Lib.decDigits n).length/\(n<=9223372036854775807->zdm (Lib.decDigits n) (true,0)=(true,n)):=by
 intro n;induction n using Nat.strongRecOn with
 | ind n ih =>
   rw[Lib.decDigits];by_cases h:n<10
   . rw[dif_pos h];have e:=zRV h;refine⟨λc hc=>?_,zMK _,λ_=>?_⟩
     . rw[zMZ.1 hc,e];omega
     show (if 0 > (9223372036854775807-((UInt8.ofNat (48+n)).toNat-48)) / 10 then (false,0) else (true,0*10+((UInt8.ofNat (48+n)).toNat-48)))=_;rw[e,zM1 (by omega)];exact congrArg (Prod.mk true) (by omega)
   rw[dif_neg h];obtain⟨h1,h2,h3⟩:=ih (n / 10) (by omega);have e:=zRV (show n % 10<10 by omega);refine⟨λc hc=>?_,by rw[zMM];omega,λhn=>?_⟩
   . rcases zMY.1 hc with hc|hc
     . exact h1 c hc
     rw[zMZ.1 hc,e];omega
   rw[zPI,h3 (by omega),e];simp only;rw[zM1 (by omega)];exact congrArg (Prod.mk true) (by omega)
theorem zNz {l:Xu}(h:i<l.length):bt (⟨l.toArray⟩:Xb) i=(l[i]).toNat:=by
 unfold bt;have hi:i<(⟨l.toArray⟩:Xb).size:=by show i<l.toArray.size;simpa using h
 rw[dif_pos hi];rfl
theorem zPe (hP:P 32=false)(h:∀i,i<x.size->P (bt x i)=true):zQ P (x++sp1) 0=x.size:=by
 have:∀(n j:Nat),j+n=x.size->zQ P (x++sp1) j=x.size:=by
  intro n;induction n with
  | zero=>intro j hj;rw[Nat.add_zero] at hj;subst hj;exact zif (by rw[zPu];exact hP)
  | succ n ih=>intro j hj;rw[zd1 (by rw[zNA];omega) (by rw[zN0 (by omega)];exact h j (by omega))];exact ih (j+1) (by omega)
 exact this x.size 0 (by omega)
theorem zPV (x:Xb):(x++sp1).extract 0 x.size=x:=by have:=zNO (s:=x++sp1) (y:=x) (a:=0) (m:=x.size) (by rw[zNA];omega) (zMK _) (λi hi=>by rw[Nat.zero_add,zN0 hi]);rw[Nat.zero_add] at this;rw[this];apply ByteArray.ext;simp
theorem zP7:∀(f n:Nat),n<10 ^ (f+1)->(Lib.decDigits n).length<=f+1
 | 0,n,h=>by rw[Lib.decDigits,dif_pos (by omega)];exact zMK _
 | f+1,n,h=>by
   rw[Lib.decDigits];split
   . simp
   have:=zP7 f (n / 10) (by rw[Nat.pow_succ] at h;omega);rw[zMM];simp;omega
theorem zOn {n:Nat}(hn:n<=9223372036854775807):zNf (zwd n)/\(tkB (zwd n)).k=3/\(tkB (zwd n)).n=n:=by
 obtain⟨h1,h2,h3⟩:=zSj n;have e:zwd n=⟨(Lib.decDigits n).toArray⟩:=by unfold zwd Lib.itoa;rw[zM1 (by omega)];rfl
 have h4:=zP7 18 n (by omega);obtain⟨D,hD⟩:∃D,Lib.decDigits n=D:=⟨_,rfl⟩;rw[hD] at h1 h2 h3 h4 e;rw[e];have hz:(⟨D.toArray⟩:Xb).size=D.length:=by show D.toArray.size=_;simp
 have hb:∀i,i<(⟨D.toArray⟩:Xb).size->48<=bt ⟨D.toArray⟩ i/\bt ⟨D.toArray⟩ i<=57:=λi hi=>by rw[hz] at hi;rw[zNz hi];exact h1 _ (List.getElem_mem hi)
 have hd:∀i,i<(⟨D.toArray⟩:Xb).size->zT (bt ⟨D.toArray⟩ i)=true:=λi hi=>by have:=hb i hi;unfold zT;rw[decide_eq_true this.1,decide_eq_true this.2];rfl
 have hs:∀i,i<(⟨D.toArray⟩:Xb).size->zbY (bt ⟨D.toArray⟩ i)=false:=λi hi=>by have:=hb i hi;unfold zbY;simp only[Bool.or_eq_false_iff,zM0];omega
 have s0:zQ zbY (⟨D.toArray⟩++sp1) 0=0:=zif (by rw[zN0 (by omega)];exact hs 0 (by omega));have b0:bt (⟨D.toArray⟩++sp1) 0=bt ⟨D.toArray⟩ 0:=zN0 (by omega);have l0:zeM (bt ⟨D.toArray⟩ 0)=false:=by have:=hb 0 (by omega);unfold zeM;rw[decide_eq_false (by omega)];rfl
 have sd:=zPe (P:=zT) (x:=⟨D.toArray⟩) rfl hd;have tb:tkB ⟨D.toArray⟩=zgc (⟨D.toArray⟩++sp1) 0:=by unfold tkB zZ;simp only;rw[s0,zM1 (by rw[zNA];omega),b0,l0,hd 0 (by omega)];rfl
 have nb:zdt (⟨D.toArray⟩++sp1) ((⟨D.toArray⟩++sp1:Xb).size-0) 0 (true,0)=(true,n):=by rw[(zms _ _ 0 _ rfl).1,sd];unfold zcS;rw[zPV];exact h3 hn
 unfold zgc at tb;simp only at tb;rw[nb,sd] at tb;refine⟨⟨⟨by omega,hs⟩,by rw[tb],by omega⟩,by rw[tb];rfl,by rw[tb]⟩
theorem zQo:∀(f a:Nat) (i:Nat),a<=i->i<zc0 P s f a->P (bt s i)=true
 | 0,a,i,h1,h2=>by have:i<a:=h2;omega
 | f+1,a,i,h1,h2=>by
   unfold zc0 at h2;split at h2
   . rename_i hc
     by_cases e:i=a
     . rw[e];exact hc.2
     exact zQo f (a+1) i (by omega) h2
   omega
theorem zRd {a b:Nat}(hb:b<=s.size)(hi:a+i<b):bt (s.extract a b) i=bt s (a+i):=by unfold bt;rw[dif_pos (by rw[ByteArray.size_extract];omega),dif_pos (by omega),ByteArray.getElem_extract]
theorem zPE (hp:p<=s.size)(h:(zZ s p).k=2):zNi (zZ s p).s:=by
 have hs0:=zcr zbY s p hp;unfold zZ at h ⊢;simp only at h ⊢;generalize zQ zbY s p=a at *;by_cases h0:a=s.size
 . rw[zM2 h0] at h;cases h
 rw[zM1 h0] at h ⊢;by_cases hl:zeM (bt s a)=true
 . rw[zM2 hl] at h ⊢;unfold zfg at h ⊢;simp only at h ⊢;have hz:=zcr inW s a hs0;have h1:a+1<=zQ inW s a:=by rw[zd1 (by omega) (by unfold inW;rw[hl];rfl)];exact zdB _ _ _
   have hin:∀i,a<=i->i<zQ inW s a->inW (bt s i)=true:=λi=>zQo _ a i;generalize zQ inW s a=z at *;have hx:(s.extract a z).size=z-a:=(by rw[ByteArray.size_extract];omega);have hw:∀i,i<(s.extract a z).size->inW (bt (s.extract a z) i)=true:=λi hi=>by rw[zRd hz (by omega)];exact hin _ (by omega) (by omega)
   have hsp:∀i,i<(s.extract a z).size->zbY (bt (s.extract a z) i)=false:=λi hi=>by
    cases e:zbY (bt (s.extract a z) i) with
    | false=>rfl
    | true=>have:=zPJ _ e;rw[hw i hi] at this;cases this
   have hl0:zeM (bt (s.extract a z) 0)=true:=(by rw[zRd hz (by omega),Nat.add_zero];exact hl);have h12:zcW (s.extract a z)=false/\z-a<=12:=by
    cases e:zcW (s.extract a z) with
    | true=>rw[e] at h;simp at h
    | false =>
      rw[e] at h;refine⟨rfl,?_⟩;by_cases e2:z-a > 12
      . rw[zM1 (by simp),zM2 e2] at h;cases h
      omega
   generalize s.extract a z=x at *;have s0:zQ zbY (x++sp1) 0=0:=zif (by rw[zN0 (by omega)];exact hsp 0 (by omega));have sw:=zPe (P:=inW) (x:=x) rfl hw;have tb:tkB x=⟨2,0,x.size,x,0⟩:=(by unfold tkB zZ;simp only;rw[s0,zM1 (by rw[zNA];omega),zN0 (by omega),zM2 hl0];unfold zfg;simp only;rw[sw,zPV,h12.1,Nat.sub_zero,zM1 (show ¬false=true by simp),zM1 (by omega)]);exact⟨⟨⟨by omega,hsp⟩,by rw[tb],by omega⟩,by rw[tb],by rw[tb]⟩
 rw[zM1 hl] at h;split at h
 . unfold zgc at h;simp only at h;split at h <;> cases h
 unfold zfh at h;split at h
 . cases h
 split at h <;> cases h
end
end Go.Proofs.YtbicmofihhjgbaaGreatDoor
