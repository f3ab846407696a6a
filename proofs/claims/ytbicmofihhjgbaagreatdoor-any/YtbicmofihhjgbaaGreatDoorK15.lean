/- Part 16 of the proof: MdlK TreW TreX RunG. -/
import Derived.Test.YtbicmofihhjgbaaGreatDoorK14
set_option maxRecDepth 100000
set_option maxHeartbeats 8000000
namespace Go.Proofs.YtbicmofihhjgbaaGreatDoor
open Go.Proofs.Tryz
section
variable {t:Tm}
mutual
def szT:Tm->Nat
 | .mk _ _ _ _ _ ts=>szL ts+1
def szL:List Tm->Nat
 | []=>0
 | t::l=>szT t+szL l
end
theorem zkw {l:List Tm}(h:t∈l):szT t<=szL l:=by
 induction l with
 | nil=>simp at h
 | cons x l ih =>
   rcases List.mem_cons.1 h with rfl|h
   . simp[szL]
   . have:=ih h;simp[szL];omega
theorem Tm.ind {P:Tm->Prop}(h:∀k a s nm n ts,(∀t∈ts,P t)->P (.mk k a s nm n ts)):∀t,P t
 | .mk k a s nm n ts=>h k a s nm n ts (λt _=>Tm.ind h t)
termination_by t=>szT t
decreasing_by simp only[szT];have:=zkw ‹_›;omega
def arB (k n:Nat):Bool :=
 if k<=3 then n==0 else if k=4 then decide (1<=n) else if k=5 then n==3 else if k=6 then n==2 else if k<=8 then n==1 else if k=9 then n==2 else if k<=11 then n==1 else if k<=23 then n==2 else false
inductive Wf:Tm->Prop
 | mk (k a:Nat) (s:ByteArray) (nm n:Nat) (ts:List Tm) (h:arB k ts.length=true) (hr:∀t∈ts,Wf t):Wf (.mk k a s nm n ts)
theorem Wf.sub {u:Tm}(h:Wf t)(hu:u∈t.ts):Wf u:=by
 cases h with
 | mk k a s nm n ts h hr=>exact hr u hu
theorem Wf.ar (h:Wf t):arB t.k t.ts.length=true:=by
 cases h with
 | mk k a s nm n ts h hr=>exact h
mutual
def zaV (g:Tm->Bool):Tm->List Tm
 | .mk k a s nm n ts=>.mk k a s nm n ts::(if g (.mk k a s nm n ts)=true then zdk g ts else [])
def zdk (g:Tm->Bool):List Tm->List Tm
 | []=>[]
 | t::l=>zaV g t++zdk g l
end
def za5 (_:Tm):Bool:=true
def zak (t:Tm):Bool:=t.k != 9
def Sc.has (c:Sc)(s:ByteArray):Bool:=(c.nd.find s).isSome
def zaJ (k:Nat):Bool:=k==3||k==7||k==8||k==6
def zda (q:Qn)(t:Tm):Nat:=if szT t=szT q.r then q.ns.length else 1
def Sc.fits (c:Sc)(t:Tm)(u:Nat):Bool :=
 match c.called t.s with
 | none=>false
 | some d=>d.nd.ins==t.ts.length&&d.nd.outs==u
def zat (c:Sc):List Vr->Nat->List Nat
 | [],_=>[]
 | v::l,i=>(if (c.nd.find v.nm).getD 0<i then [v.a] else [])++(if (zaA v != 0&&!c.has v.ck)=true then [v.ca] else [])++zat c l (i+1)
def z7 (c:Sc):List ByteArray->List Nat->List Nat
 | s::ns,p::ps=>(if (!c.has s||decide (c.idx s<c.nd.ins))=true then [p] else [])++z7 c ns ps
 | _,_=>[]
def zaL (c:Sc)(q:Qn)(t:Tm):List Nat :=
 (if (zaJ t.k&&!c.has t.s)=true then [t.nm] else [])++(if (t.k==4&&!c.fits t (zda q t))=true then [t.nm] else [])
def Sc.namesL (c:Sc):List Nat :=
 (if (c.called c.nd.nm).isSome=true then [c.nd.a] else [])++zat c c.nd.vars 0++(c.nd.eqs.flatMap λq=>z7 c q.ns q.ps)++(c.nd.eqs.flatMap λq=>(zaV za5 q.r).flatMap (zaL c q))
def tyV (v:Vr):Nat:=if v.bl=true then 1 else 0
def Sc.decl (c:Sc)(s:ByteArray):Nat:=((c.nd.vars[c.idx s]?).map tyV).getD 0
def Nod.results (n:Nod):List Vr:=(n.vars.drop n.ins).take n.outs
def Sc.callTy (c:Sc)(s:ByteArray):Nat :=
 match c.called s with
 | none=>0
 | some d=>((d.nd.results[0]?).map tyV).getD 0
mutual
def zaj (c:Sc):Tm->Nat
 | .mk k _ s _ _ ts =>
   if k=3 then c.decl s else if k=4 then c.callTy s else if k=7∨k=8∨k=6 then zbh c ts 0 else if k=5∨k=9 then zbh c ts 1
   else if k=0∨k=10∨(19<=k/\k<=23) then 0 else 1
def zbh (c:Sc):List Tm->Nat->Nat
 | [],_=>0
 | t::_,0=>zaj c t
 | _::l,n+1=>zbh c l n
end
def zcv (c:Sc)(ty:Nat)(l:List Tm):Bool:=l.all λt=>zaj c t==ty
def zc9 (c:Sc)(l:List Tm):Bool:=zbh c l 0==zbh c l 1
def zcG (t:Tm):Bool :=
 if t.k=0∨t.k=1∨t.k=2 then true else if t.k=10 then (match t.ts with|[]=>false|u::_=>u.k==0) else false
def zaQ (c:Sc):List Tm->List Vr->Bool
 | t::l,v::vs=>if (zaj c t != tyV v)=true then false else zaQ c l vs
 | [],_=>true
 | _::_,[]=>true
def Sc.operands (c:Sc)(t:Tm):Bool :=
 if t.k=10∨t.k=17∨t.k=18∨(19<=t.k/\t.k<=23) then zcv c 0 t.ts
 else if t.k=11∨t.k=12∨t.k=13∨t.k=14 then zcv c 1 t.ts
 else if t.k=15∨t.k=16∨t.k=6 then zc9 c t.ts
 else if t.k=5 then zcv c 1 (t.ts.take 1)&&zc9 c (t.ts.drop 1)
 else if t.k=9 then (match t.ts with|[]=>false|u::_=>zcG u)&&zc9 c t.ts
 else if t.k=4 then (match c.called t.s with|none=>true|some d=>zaQ c t.ts d.nd.vars)
 else true
def zaE (c:Sc):List ByteArray->List Vr->Bool
 | s::ns,r::rs=>if (c.decl s != tyV r)=true then false else zaE c ns rs
 | _,_=>true
def Sc.holds (c:Sc)(q:Qn):Bool :=
 match q.ns with
 | [s]=>c.decl s==zaj c q.r
 | ns=>match c.called q.r.s with
   | none=>true
   | some d=>zaE c ns d.nd.results
def zau (c:Sc):List Vr->List Nat
 | []=>[]
 | v::l=>(if (zaA v != 0&&c.decl v.ck != 1)=true then [v.on] else [])++zau c l
def zbQ (c:Sc)(t:Tm):List Nat :=
 (if (zaJ t.k&&t.k != 3&&c.decl t.s != 1)=true then [t.nm] else [])++(if c.operands t=true then [] else [t.a])
def Sc.typesL (c:Sc):List Nat :=
 zau c c.nd.vars++(c.nd.eqs.flatMap λq=>if c.holds q=true then [] else [q.a])++(c.nd.eqs.flatMap λq=>(zaV za5 q.r).flatMap (zbQ c))
def Sc.own (c:Sc)(v:Vr):Nat×Nat:=if zaA v=0 then (0,0) else (c.idx v.ck,zaA v)
def Sc.of (c:Sc)(i:Nat):Nat×Nat:=match c.nd.vars[i]? with|none=>(0,0)|some v=>c.own v
def Sc.up (c:Sc)(k:Nat×Nat):Nat×Nat:=if k.2=1∨k.2=2 then c.of k.1 else (0,0)
def zhr (c:Sc)(i:Nat):Nat->Nat×Nat->Bool
 | 0,_=>false
 | f+1,k=>if k=(0,0) then false else if k.1=i then true else zhr c i f (c.up k)
def Sc.comesBack (c:Sc)(i:Nat):Bool:=zhr c i (2*c.nd.vars.length) (c.of i)
def zbv (c:Sc):List Vr->Nat->List Nat
 | [],_=>[]
 | v::l,i=>(if c.comesBack i=true then [v.a] else [])++zbv c l (i+1)
def zbl (c:Sc)(k:Nat×Nat):List ByteArray->List Nat->List Nat
 | s::ns,p::ps=>(if c.of (c.idx s)=k then [] else [p])++zbl c k ns ps
 | _,_=>[]
def Sc.operand (c:Sc)(t:Tm)(i:Nat)(k:Nat×Nat):Nat×Nat :=
 if t.k=7∨t.k=8 then c.of (c.idx t.s) else if t.k=6 then (c.idx t.s,if 0<i then 2 else 1) else k
def zi8 (k:Nat):Nat:=if k=8 then 2 else 1
def Sc.isOn (c:Sc)(t:Tm)(k:Nat×Nat):List Nat×Bool :=
 if t.k=3∨t.k=6 then (if c.of (c.idx t.s)=k then [] else [t.nm],true)
 else if t.k=7∨t.k=8 then (if k=(c.idx t.s,zi8 t.k) then ([],true) else ([t.a],false))
 else ([],true)
mutual
def onT (c:Sc):Tm->Nat×Nat->List Nat
 | .mk x a s nm n ts,k=>(c.isOn (.mk x a s nm n ts) k).1++(if (c.isOn (.mk x a s nm n ts) k).2=true then onL c (.mk x a s nm n ts) k ts 0 else [])
def onL (c:Sc)(t:Tm)(k:Nat×Nat):List Tm->Nat->List Nat
 | [],_=>[]
 | u::l,i=>onT c u (c.operand t i k)++onL c t k l (i+1)
end
def zer (c:Sc)(q:Qn):List Nat :=
 let k:=c.of (c.idx (q.ns.headD ⟨#[]⟩))
 zbl c k q.ns.tail q.ps.tail++onT c q.r k
def Sc.clocksL (c:Sc):List Nat:=zbv c c.nd.vars 0++c.nd.eqs.flatMap (zer c)
def zaC (c:Sc):List ByteArray->List Nat->List Bool->List Nat×List Bool
 | s::ns,p::ps,d =>
   let r:=zaC c ns ps (d.set (c.idx s) true)
   ((if d.getD (c.idx s) false=true then [p] else [])++r.1,r.2)
 | _,_,d=>([],d)
def zcN (c:Sc):List Qn->List Bool->List Nat×List Bool
 | [],d=>([],d)
 | q::l,d =>
   let r:=zaC c q.ns q.ps d
   let r':=zcN c l r.2
   (r.1++r'.1,r'.2)
def zb1 (ins:Nat)(d:List Bool):List Vr->Nat->List Nat
 | [],_=>[]
 | v::l,i=>(if (decide (ins<=i)&&!d.getD i false)=true then [v.a] else [])++zb1 ins d l (i+1)
def Sc.definesL (c:Sc):List Nat :=
 let r:=zcN c c.nd.eqs (List.replicate c.nd.vars.length false)
 r.1++zb1 c.nd.ins r.2 c.nd.vars 0
def zcO (c:Sc)(i:Nat)(t:Tm):List (Nat×Nat):=if zaJ t.k=true then [(i,c.idx t.s)] else []
def zaO (c:Sc)(q:Qn)(s:ByteArray):List (Nat×Nat) :=
 let i:=c.idx s
 (if (c.of i).2=0 then [] else [(i,(c.of i).1)])++(zaV zak q.r).flatMap (zcO c i)
def Sc.linksL (c:Sc):List (Nat×Nat):=c.nd.eqs.flatMap λq=>q.ns.flatMap (zaO c q)
def zcA (by' fr n:Nat):Nat->List (Nat×Nat)->List (Nat×Nat)
 | 0,L=>L
 | m+1,L=>zcA by' fr n m (if (fr,by')∈L/\(by',n-(m+1))∈L then L++[(fr,n-(m+1))] else L)
def zbJ (by' n:Nat):Nat->List (Nat×Nat)->List (Nat×Nat)
 | 0,L=>L
 | m+1,L=>zbJ by' n m (zcA by' (n-(m+1)) n n L)
def zeD (n:Nat):Nat->List (Nat×Nat)->List (Nat×Nat)
 | 0,L=>L
 | m+1,L=>zeD n m (zbJ (n-(m+1)) n n L)
def zdT (n:Nat)(L:List (Nat×Nat)):List (Nat×Nat):=zeD n n L
def zht (a:Nat)(L:List (Nat×Nat))(n:Nat):Nat->List Nat
 | 0=>[]
 | m+1=>(if (n-(m+1),n-(m+1))∈L then [a] else [])++zht a L n m
def Sc.causesL (c:Sc):List Nat:=zht c.nd.a (zdT c.nd.vars.length c.linksL) c.nd.vars.length c.nd.vars.length
def zbi (s:ByteArray):List (ByteArray×Nat)->Nat
 | []=>0
 | p::l=>if p.1=s then p.2 else zbi s l
def za9 (m:List (ByteArray×Nat))(t:Tm):Nat:=if t.k=9 then 1 else if t.k=4 then 1+zbi t.s m else 0
def zed (l:List Nat):Nat:=l.foldl (·+·) 0
def zcg (n:Nod)(m:List (ByteArray×Nat)):Nat:=min (zed ((n.eqs.flatMap λq=>zaV za5 q.r).map (za9 m))) 61
def zfW:List Nod->List (ByteArray×Nat)->Nat->Nat
 | [],_,last=>last
 | n::l,m,_=>zfW l ((n.nm,zcg n m)::m) (zcg n m)
def zeZ (ns:List Nod):List Nat:=if 60<zfW ns [] 0 then [0] else []
def scs (ns:List Nod):List Sc:=(List.range ns.length).filterMap λi=>(ns[i]?).map λn=>⟨ns.take i,n⟩
def rep:Option Nat->Nat->Option Nat
 | none,p=>some p
 | some b,p=>if p<b then some p else some b
def zO (l:List Nat):Option Nat:=l.foldl rep none
def zbc (ns:List Nod):Option (Nat×Nat) :=
 match zO ((scs ns).flatMap Sc.namesL) with
 | some p=>some (4,p)
 | none=>match zO ((scs ns).flatMap Sc.typesL) with
   | some p=>some (5,p)
   | none=>match zO ((scs ns).flatMap Sc.clocksL) with
     | some p=>some (6,p)
     | none=>match zO ((scs ns).flatMap Sc.definesL) with
       | some p=>some (7,p)
       | none=>match zO ((scs ns).flatMap Sc.causesL) with
         | some p=>some (8,p)
         | none=>match zO (zeZ ns) with
           | some p=>some (9,p)
           | none=>none
theorem zlT {l:List Nat}(h:zO l=none):l=[]:=by
 have:∀(l:List Nat) (s:Option Nat),s.isSome=true->(l.foldl rep s).isSome=true:=by
  intro l;induction l with
  | nil=>intro s h;exact h
  | cons p l ih =>
    intro s h;refine ih _ ?_;cases s with
    | none=>rfl
    | some b=>show (if p<b then some p else some b).isSome=true;split <;> rfl
 cases l with
 | nil=>rfl
 | cons p l => have h2:=this l (rep none p) rfl;unfold zO at h;rw[List.foldl_cons] at h;rw[h] at h2;cases h2
end
section
open Go.RowKit
variable {N:Nat} {t:Tm} {g:Tm->Bool} {v:Value} {w:World}
attribute [local go_sem ↓] Go.wp_at_zero Go.wp_at_succ
theorem zmZ {ts:List Tm}{k:Nat}(h:ts[k]?=some t):zdk g (ts.take (k+1))=zdk g (ts.take k)++zaV g t:=by
 induction ts generalizing k with
 | nil=>simp at h
 | cons x ts ih =>
   cases k with
   | zero=>simp at h;subst h;simp[zdk]
   | succ k => simp at h;rw[List.take_succ_cons,List.take_succ_cons,zdk,zdk,ih h,List.append_assoc]
structure Vis {σ:Type} (N:Nat) (T:Nat->Prop) (F:FuncId) (caps:Array Value) (Pt:Tm->Value->Prop) (g:Tm->Bool) (step:σ->Tm->σ) (I:σ->World->Prop):Prop where
 enters:zH F
 hT:∀k,T k->N<=k
 keep:∀s w w',I s w->xB w w'->I s w'
 sub:∀t v u x,Pt t v->u∈t.ts->Pt u x
 call:∀t v s w,TT w N t v->N<=w.heap.size->I s w->Pt t v->xK F (#[v]++caps) w (λe w'=>e=.returned (.bool (g t))/\I (step s t) w'/\Fr T w w')
theorem TT.ptr (h:TT w N t v):∃b args vs,v=xP b/\b<N/\xH w b #[xI t.k,xI t.a,.string t.s,xI t.nm,xI t.n,args] 226/\w.ownsRow 0 182 1 args vs.length vs/\vs.length=t.ts.length/\(∀(i:Nat) (u:Tm) (x:Value),t.ts[i]?=some u->vs[i]?=some x->TT w N u x)/\(∀g,args.ownBlock=some g->g<N):=by
 cases h with
 | mk k a s nm n ts b args vs hN hb ha hg hl hr=>exact⟨b,args,vs,rfl,hN,hb,ha,hl,hr,hg⟩
theorem ziV {σ:Type}{T:Nat->Prop}{F:FuncId}{caps:Array Value}{Pt:Tm->Value->Prop}{step:σ->Tm->σ}{I:σ->World->Prop}(hV:Vis N T F caps Pt g step I) :
 ∀(t:Tm) (v:Value) (s:σ) (w:World),TT w N t v->N<=w.heap.size->I s w->Pt t v->xK 169 #[v,.func (.func F) #[] caps] w (λe w'=>e=.returned (.tuple #[])/\I ((zaV g t).foldl step s) w'/\Fr T w w'):=by
 intro t;induction t using Tm.ind with
 | h kk a nm n p ts ih =>
   intro v s w h hN hI hP;obtain⟨b,args,vs,rfl,hb,hblk,hown,hlen,hsub,hgs⟩:=h.ptr;have HC:=za (hV.call _ _ s w h hN hI hP);have hcf:∀(args:Array Value) (w:World),(callFunc F args).run prog w=.ok (.enter F args) w:=hV.enters;have HV:=za hV;have HP:=za hP;have Hsub:=za hsub;have Hown:=za hown;have HT:=za h;have Hih:=za ih;have Hblk:=za hblk;have Hgs:=za hgs;obtain⟨h0,h1,h2,h3,h4,h5,hf,hz⟩:=zt hblk;have hw6:w.ownsRow 0 182 1 args vs.length vs:=hown;obtain⟨x,cp,rfl⟩:=zB hown;have hlen':vs.length=ts.length:=hlen;rw[hlen'] at h5 Hown Hblk Hgs;cases hg:g (.mk kk a nm n p ts) with
   | false =>
     rw[hg] at HC;have e:zaV g (.mk kk a nm n p ts)=[.mk kk a nm n p ts]:=(by unfold zaV;rw[hg];simp);rw[e];go_enter func169,ntmps169;go_wp2_with fail;with_reducible refine HC.o.mono ?_
     rintro e w1 ⟨rfl,hI1,hF1⟩;have HI1:=za hI1;have HF1:=za hF1;go_wp2_with fail;first|go_end0|refine bodyPost_ret (results_none rfl _ _ _) rfl ?_
     exact⟨rfl,HI1.o,HF1.o⟩
   | true =>
     rw[hg] at HC;have e:zaV g (.mk kk a nm n p ts)=.mk kk a nm n p ts::zdk g ts:=(by unfold zaV;rw[if_pos hg]);rw[e];go_enter func169,ntmps169;go_wp2_with fail;with_reducible refine HC.o.mono ?_
     rintro e w1 ⟨rfl,hI1,hF1⟩;have hO1:Old N w w1:=hF1.old hN HV.o.hT;have hz1:=hF1.size;obtain⟨p0,p1,p2,p3,p4,p5,pf,pz⟩:=zt ((hO1 b hb).trans Hblk.o);have HO1:=za hO1;have HI1:=za hI1;have HF1:=za hF1;go_wp2_with fail;have h16:ts.length<=9223372036854775807:=by
      have:=Hown.o;rcases this.2 with ⟨_,h⟩|⟨g,cap,cur,hv,_,_,h3,h4,_⟩
      . omega
      . unfold maxLen at h4;omega
     go_loopg [15] (ts.length+1) (λj i wr=>∃k:Nat,k+j=ts.length+1/\k<=ts.length/\i=xI k/\Hid (I ((zdk g (ts.take k)).foldl step (step s (.mk kk a nm n p ts))) wr)/\Hid (Fr T w wr));case atStart=>exact⟨0,by omega,Nat.zero_le _,rfl,HI1.o,HF1.o⟩
     case round =>
      obtain⟨k,hkj,hk,rfl,HIk,HFk⟩:=hrel;have hOk:Old N w wr:=HFk.o.old hN HV.o.hT;have hzk:=HFk.o.size;by_cases hlt:k<ts.length
      . obtain⟨t,ht⟩:∃t,ts[k]?=some t:=⟨_,zsc hlt⟩;obtain⟨u,hu⟩:∃u,vs[k]?=some u:=⟨_,zsc (by omega)⟩;have hown':wr.ownsRow 0 182 1 (.slice x ts.length cp) ts.length vs:=zi Hown.o (λj _ _ e=>hOk j (Hgs.o j e));obtain⟨g',rfl,hcell⟩:=zbE hown' hu;have hTu:=(Hsub.o k t u ht hu).old hOk;obtain⟨bu,_,_,rfl,_⟩:=hTu.ptr;have hPu:=HV.o.sub _ _ t (xP bu) HP.o (List.mem_of_getElem? ht);have HW:=za (Hih.o t (List.mem_of_getElem? ht) _ _ wr hTu (by omega) HIk.o hPu);have HS:=za (zmZ (g:=g) ht);go_wp2_with (go_at_call 169;refine HW.o.mono ?_;rintro e w2 ⟨rfl,hI2,hF2⟩;have HI2:=za hI2;have HF2:=za (HFk.o.trans hF2));go_roundg (gk-1);case measure=>omega
        refine⟨k+1,by omega,by omega,by go_num,?_,HF2.o⟩;rw[HS.o,List.foldl_append];exact HI2.o
      . have ek:k=ts.length:=(by omega);subst ek;rw[List.take_length] at HIk;go_wp2_with fail;first|go_end0|refine bodyPost_ret (results_none rfl _ _ _) rfl ?_
        exact⟨rfl,HIk.o,HFk.o⟩
theorem TT.det (h:TT w N t v):∀{t':Tm},TT w N t' v->t=t':=by
 induction h with
 | mk k a s nm n ts b args vs hN hb ha hg hl _ ih =>
   intro t' h';cases h' with
   | mk k' a' s' nm' n' ts' b args' vs' hN' hb' ha' hg' hl' hr' =>
     have e:=Obj.cells.inj (Option.some.inj (hb.symm.trans hb'));have e1:=e.1;simp only[Array.mk.injEq,List.cons.injEq,Value.int.injEq,Value.string.injEq,true_and,and_true,Int.ofNat_inj] at e1;obtain⟨ek,ea,es,enm,en,eargs⟩:=e1;subst ek ea es enm en eargs;have hvs:vs=vs':=by
      rcases ha.2 with ⟨h1,h2⟩|⟨g,cap,cur,h1,_,h3,h4,h5,h6,h7⟩
      . rcases ha'.2 with ⟨k1,k2⟩|⟨g',cap',cur',k1,_⟩
        . have:vs.length=0:=h2;have:vs'.length=0:=k2;rw[List.eq_nil_of_length_eq_zero ‹vs.length=0›,List.eq_nil_of_length_eq_zero ‹vs'.length=0›]
        . rw[h1] at k1;cases k1
      . rcases ha'.2 with ⟨k1,k2⟩|⟨g',cap',cur',k1,_,k3,k4,k5,k6,k7⟩
        . rw[h1] at k1;cases k1
        . rw[h1] at k1;simp only[Value.slice.injEq,Option.some.injEq,Addr.mk.injEq,and_true] at k1;obtain⟨rfl,hl2,rfl⟩:=k1;rw[h3] at k3;have e4:=(Obj.cells.inj (Option.some.inj k3)).1;subst e4;rw[<- h7,<- k7,hl2]
     subst hvs;have:ts=ts':=by
      apply List.ext_getElem?;intro i;rcases Nat.lt_or_ge i ts.length with hi|hi
      . have e1:ts[i]?=some ts[i]:=zsc hi;have hi':i<ts'.length:=(by omega);have e2:ts'[i]?=some ts'[i]:=zsc hi';have hiv:i<vs.length:=(by omega);have e3:vs[i]?=some vs[i]:=zsc hiv;rw[e1,e2];congr 1;exact ih i _ _ e1 e3 (hr' i _ _ e2 e3)
      . rw[List.getElem?_eq_none hi,List.getElem?_eq_none (by omega)]
     rw[this]
end
section
open Go.RowKit
variable {caps:Array Value} {F:FuncId} {N:Nat} {T:Nat->Prop} {n:Nod} {q:Qn} {Pt:Tm->Prop} {rv:Value} {w:World}
attribute [local go_sem ↓] Go.wp_at_zero Go.wp_at_succ
structure EqV (w:World) (N:Nat) (q:Qn) (lv rv:Value):Prop where
 own:w.ownsRow 0 117 2 lv q.ns.length (nmC q.ns q.ps)
 lo:∀g,lv.ownBlock=some g->g<N
 tt:TT w N q.r rv
theorem EqV.old {w':World}{lv:Value}(h:EqV w N q lv rv)(ho:Old N w w'):EqV w' N q lv rv :=
 ⟨zi h.own (λg _ _ e=>ho g (h.lo g e)),h.lo,h.tt.old ho⟩
theorem zcU.at:∀{qs:List Qn} {xs:List Value},zcU w N qs xs->∀{k:Nat} {q:Qn},qs[k]?=some q->∃lv rv,xs[k*3]?=some lv/\xs[k*3+1]?=some (xI q.a)/\xs[k*3+2]?=some rv/\EqV w N q lv rv:=by
 intro qs;induction qs with
 | nil=>intro xs _ k q h;simp at h
 | cons q0 qs ih =>
   rintro xs ⟨lv,v,ys,rfl,h2,h3,h4,h5⟩ k q hq;cases k with
   | zero=>simp at hq;subst hq;exact⟨lv,v,rfl,rfl,rfl,h2,h3,h4⟩
   | succ k =>
     obtain⟨lv',rv',e1,e2,e3,e4⟩:=ih h5 (by simpa using hq);refine⟨lv',rv',?_,?_,?_,e4⟩
     . rw[show (k+1)*3=k*3+1+1+1 by omega];simpa using e1
     . rw[show (k+1)*3+1=k*3+1+1+1+1 by omega];simpa using e2
     . rw[show (k+1)*3+2=k*3+2+1+1+1 by omega];simpa using e3
theorem zcd {n cp:Nat}{a:Option Addr}{qs:List Qn}{xs:List Value}(h:w.ownsRow 0 184 3 (.slice a n cp) n xs)(hE:zcU w N qs xs){k:Nat}(hk:qs[k]?=some q)(hn:n=qs.length) :
 ∃g lv rv,a=some (xD g 0)/\w.cell? (xD g (k*3))=some lv/\w.cell? (xD g (k*3+1))=some (xI q.a)/\w.cell? (xD g (k*3+2))=some rv/\EqV w N q lv rv:=by
 have hk':=(List.getElem?_eq_some_iff.1 hk).1;obtain⟨g,cap,hv,_⟩:=zM h (by omega);cases hv;obtain⟨lv,rv,e1,e2,e3,e4⟩:=hE.at hk;have hc:=h.cells (g:=g) rfl;have e0:∀j,((xD g 0):Addr).add j=⟨g,j,none⟩:=λj=>by cases j <;> simp[Addr.add]
 refine⟨g,lv,rv,rfl,?_,?_,?_,e4⟩
 . have:=hc _ _ e1;rwa [e0] at this
 . have:=hc _ _ e2;rwa [e0] at this
 . have:=hc _ _ e3;rwa [e0] at this
def zfa (q:Qn)(rv:Value)(t:Tm)(v:Value):Prop:=(t=q.r/\v=rv)∨szT t<szT q.r
theorem zfa.sub {t:Tm}{v:Value}(h:zfa q rv t v){u:Tm}(x:Value)(hu:u∈t.ts):zfa q rv u x:=by
 have h1:szT u<szT t:=by
  cases t with
  | mk k a s nm n ts=>have:=zkw hu;simp only[szT];simp only[Tm.ts] at this;omega
 right;rcases h with ⟨rfl,_⟩|h
 . exact h1
 . omega
structure zjB {σ:Type} (N:Nat) (T:Nat->Prop) (F:FuncId) (caps:Array Value) (Pt:Tm->Prop) (n:Nod) (step:σ->Qn->Tm->σ) (I:σ->World->Prop):Prop where
 enters:zH F
 hT:∀k,T k->N<=k
 keep:∀s w w',I s w->xB w w'->I s w'
 sub:∀t u,Pt t->u∈t.ts->Pt u
 root:∀q∈n.eqs,Pt q.r
 call:∀q lv rv t v s w,q∈n.eqs->EqV w N q lv rv->TT w N t v->zfa q rv t v->N<=w.heap.size->I s w->Pt t->xK F (#[.agg #[lv,xI q.a,rv],v]++caps) w (λe w'=>e=.returned (.bool true)/\I (step s q t) w'/\Fr T w w')
theorem zox:zH 170:=λ_ _=>by kernel_rfl
theorem zmv {σ:Type}{step:σ->Qn->Tm->σ}{I:σ->World->Prop}(HV:zjB N T F caps Pt n step I)(q:Qn)(hq:q∈n.eqs)(lv rv:Value)(b1 b2:Nat)(hb1:¬T b1)(hb2:¬T b2)(hMN:N<=b1) :
 Vis N T 170 #[xP b1,xP b2] (λt v=>Pt t/\zfa q rv t v) za5 (λs t=>step s q t) (λs w=>I s w/\xH w b1 #[.func (.func F) #[] caps] 229/\xH w b2 #[lv,xI q.a,rv] 184/\EqV w N q lv rv) where
 enters:=zox
 hT:=HV.hT
 keep:=λs w w' h hB=>⟨HV.keep s w w' h.1 hB,(hB.block _ (ze h.2.1)).trans h.2.1,(hB.block _ (ze h.2.2.1)).trans h.2.2.1,h.2.2.2.old (zm hB (by have:=ze h.2.1;omega))⟩
 sub:=λt v u x h hu=>⟨HV.sub t u h.1 hu,h.2.sub x hu⟩
 call:=by
  intro t v s w hT hN hI hP;obtain⟨hI0,HX1,HX2,HE⟩:=hI;obtain⟨p0,pf,pz⟩:=zu HX1;obtain⟨q0,q1,q2,qf,qz⟩:=zL HX2;have HC:=HV.call q lv rv t v s w hq HE hT hP.2 hN hI0 hP.1;have hcf:∀(args:Array Value) (w:World),(callFunc F args).run prog w=.ok (.enter F args) w:=HV.enters;have h21:=pz;clear hI0 hP hT
  show Calls prog _ #[v,xP b1,xP b2] w _;go_enter func170,ntmps170;go_wp2_with fail;with_reducible refine HC.mono ?_
  rintro e w1 ⟨rfl,HI1,HF1⟩;go_wp2_with fail;go_ret;exact⟨rfl,⟨HI1,(HF1.block _ pz hb1).trans HX1,(HF1.block _ qz hb2).trans HX2,HE.old (HF1.old hN HV.hT)⟩,HF1⟩
theorem zfN {σ:Type}{step:σ->Qn->Tm->σ}{I:σ->World->Prop}(HV:zjB N T F caps Pt n step I)(nb:Nat)(vs ev:Value)(xs:List Value)(s:σ)(w:World)(HN:NT w N n nb vs ev xs)(hN:N<=w.heap.size)(HTw:∀k,T k->k<w.heap.size)(hI:I s w) :
 xK 122 #[xP nb,.func (.func F) #[] caps] w (λe w'=>e=.returned (.tuple #[])/\I (n.eqs.foldl (λs q=>(zaV za5 q.r).foldl (λs t=>step s q t) s) s) w'/\Fr T w w'):=by
 obtain⟨h0,h1,h2,h3,h4,h5,hf,hz⟩:=zt HN.blk;obtain⟨x,cp,rfl⟩:=zB HN.own;have HI1:=HV.keep s w (w.alloc (.cells #[.func (.func F) #[] caps] 229)) hI (zq w _);have h16:n.eqs.length<=9223372036854775807:=by
  rcases HN.own.2 with ⟨_,HN⟩|⟨g,cap,cur,hv,_,_,h3,h4,_⟩
  . omega
  . unfold maxLen at h4;omega
 have hnz:=HN.lo;clear hI;go_enter func122,ntmps122;go_wp2_with fail;go_loopg [11] (n.eqs.length+1) (λj i wr=>∃k:Nat,k+j=n.eqs.length+1/\k<=n.eqs.length/\i=xI k/\(I ((n.eqs.take k).foldl (λs q=>(zaV za5 q.r).foldl (λs t=>step s q t) s) s) wr)/\(xH wr w.heap.size #[.func (.func F) #[] caps] 229)/\(Fr T w wr));case atStart=>exact⟨0,by omega,Nat.zero_le _,rfl,HI1,zc w _,(Fr.refl T w).alloc _⟩
 case round =>
  obtain⟨k,hkj,hk,rfl,HIk,HBk,HFk⟩:=hrel;have hOk:Old N w wr:=HFk.old hN HV.hT;have hzk:=HFk.size;have hzk2:=ze HBk;by_cases hlt:k<n.eqs.length
  . obtain⟨q,HQ⟩:∃q,n.eqs[k]?=some q:=⟨_,zsc hlt⟩;have hN2:=HN.old hOk;obtain⟨g,lv,rv,rfl,c0,c1,c2,hE⟩:=zcd hN2.own hN2.eqs HQ rfl;obtain⟨bb,_,_,rfl,_⟩:=hE.tt.ptr;obtain⟨xl,cl,rfl⟩:=zB hE.own;have hVis:=zmv HV q (List.mem_of_getElem? HQ) (.slice xl q.ns.length cl) (xP bb) w.heap.size wr.heap.size (λe=>by have:=HTw _ e;omega) (λe=>by have:=HTw _ e;omega) (by omega);have hold1:Old N wr (wr.alloc (.cells #[.slice xl q.ns.length cl,xI q.a,xP bb] 184)):=λk hk=>Below.heap_alloc _ _ _ (by omega);have HW:=ziV hVis q.r (xP bb) _ (wr.alloc (.cells #[.slice xl q.ns.length cl,xI q.a,xP bb] 184)) (hE.tt.old hold1) (by rw[zsb];omega) ⟨HV.keep _ _ _ HIk (zq wr _),(Below.heap_alloc _ _ _ hzk2).trans HBk,zc wr _,hE.old hold1⟩ ⟨HV.root q (List.mem_of_getElem? HQ),Or.inl ⟨rfl,rfl⟩⟩;clear hN2 hE hVis hold1 hOk;go_wp2_with (go_at_call 169;refine HW.mono ?_;rintro e w2 ⟨rfl,HI2,hF2⟩;have HF2:=(((HFk.alloc _).trans hF2));clear hF2);go_roundg (gk-1);case measure=>omega
    refine⟨k+1,by omega,by omega,by go_num,?_,HI2.2.1,HF2⟩;obtain⟨e1,e2⟩:=List.getElem?_eq_some_iff.1 HQ;rw[List.take_succ_eq_append_getElem e1,e2,List.foldl_append];exact HI2.1
  . have ek:k=n.eqs.length:=by omega
    subst ek;rw[List.take_length] at HIk;go_wp2_with fail;first|go_end0|refine bodyPost_ret (results_none rfl _ _ _) rfl ?_
    exact⟨rfl,HIk,HFk⟩
end
section
open Go.RowKit
attribute [local go_sem ↓] Go.wp_at_zero Go.wp_at_succ
def zbX (n:Nat):Array Value:=(zK (List.replicate n 0)).toArray
theorem zhd (n c:Nat)(h:n<=c)(hc:c<=3145728)(w:World):(Instr.makeSlice 32 (xI (n:Int)) (xI (c:Int))).run prog w=.ok (xS w.heap.size n c) (w.alloc (.cells (zbX c) 2)):=by
 obtain⟨i0,hi,hi0,hi1,hi2⟩:=info_parts Tryz.infoI64;have:=run_make (P:=prog) w 32 2 i0 _ underlying32 hi hi0 .i64 .i64 (n:Int) (c:Int) (by omega) (by omega) (by rw[hi2];omega) (by omega);refine this.trans ?_;clear this;rw[hi1];simp only[Int.toNat_natCast,Nat.mul_one];refine congrArg (λx=>Result.ok (xS w.heap.size n c) (w.alloc (.cells x 2))) ?_;unfold zbX madeCells;apply Array.ext
 . simp[zK]
 . intro j h1 h2;simp[zK,Value.cells,Nat.mod_one]
theorem al4 (w:World)(o1 o2 o3 o4:Obj):((((w.alloc o1).alloc o2).alloc o3).alloc o4).drew.heap[w.heap.size]?=some o1/\((((w.alloc o1).alloc o2).alloc o3).alloc o4).drew.heap[w.heap.size+1]?=some o2/\((((w.alloc o1).alloc o2).alloc o3).alloc o4).drew.heap[w.heap.size+1+1]?=some o3/\((((w.alloc o1).alloc o2).alloc o3).alloc o4).drew.heap[w.heap.size+1+1+1]?=some o4/\Below w.heap.size w ((((w.alloc o1).alloc o2).alloc o3).alloc o4).drew:=by
 have h (w:World) (o:Obj) (k:Nat):(w.alloc o).heap[k]?=if k=w.heap.size then some o else w.heap[k]?:=by show (w.heap.push o)[k]?=_;rw[Array.getElem?_push]
 have e (W:World) (k:Nat):W.drew.heap[k]?=W.heap[k]?:=rfl;refine⟨?_,?_,?_,?_,⟨rfl,rfl,rfl,by simp[World.drew];omega,λk hk=>?_⟩⟩
 all_goals
  rw[e];simp only[h,zsb]
 . rw[if_neg (by omega),if_neg (by omega),if_neg (by omega),if_pos trivial]
 . rw[if_neg (by omega),if_neg (by omega),if_pos trivial]
 . rw[if_neg (by omega),if_pos trivial]
 . rw[if_pos trivial]
 . rw[if_neg (by omega),if_neg (by omega),if_neg (by omega),if_neg (by omega)]
theorem zqs {w W:World}{N cb mb b1 b2 g n1 n2 n3:Nat}{bv cv rv:Value}{c:Cd}(h:CB w N cb bv cv rv c)(hN:N<=w.heap.size)(hB:xB w W)(e1:n1=c.cells.length)(e2:n2=c.slots)
 (hm:xH W mb #[xP cb,xS b1 n1 n1,xS b2 n2 n2,xS g 0 n3] 138)
 (h1:xH W b1 (zbX n1) 2) (h2:xH W b2 (zbX n2) 2) (h3:xH W g (zbX n3) 2) (hn3:n3<=3145728)
 (l0:w.heap.size<=mb) (l1:w.heap.size<=b1) (l2:w.heap.size<=b2) (l3:w.heap.size<=g) (d1:mb≠b1) (d2:mb≠b2) (d3:b1≠b2) (d4:g≠mb) (d5:g≠b1) (d6:g≠b2) :
 Mc W w.heap.size mb cb b1 b2 bv cv rv (xS g 0 n3) c (List.replicate n1 0) (List.replicate n2 0) []:=by
 subst e1 e2;have hc:CB W w.heap.size cb bv cv rv c:=by have:=h.old (zm hB hN);exact⟨this.blk,this.bown,this.cown,this.rown,Nat.lt_of_lt_of_le this.h0 hN,λk e=>Nat.lt_of_lt_of_le (this.h1 k e) hN,λk e=>Nat.lt_of_lt_of_le (this.h2 k e) hN,λk e=>Nat.lt_of_lt_of_le (this.h3 k e) hN,this.outsB,this.slotsB,this.cellsB,this.depthB,this.rowB⟩
 refine⟨hc,⟨?_,?_,?_,?_,d1,d2,d3,?_,?_,?_,hB.size⟩,l0,l1,l2,by simp,by simp⟩
 . simpa using hm
 . exact h1
 . exact h2
 . refine⟨rfl,Or.inr ⟨g,n3,zbX n3,rfl,l3,h3,by simp,by unfold maxLen;omega,by simp[zbX,zK],by simp[zK]⟩⟩
 . intro e;cases e;exact d4 rfl
 . intro e;cases e;exact d5 rfl
 . intro e;cases e;exact d6 rfl
theorem zpK (N cb:Nat)(bv cv rv:Value)(c:Cd)(w:World)(H:CB w N cb bv cv rv c)(hN:N<=w.heap.size) :
 xK 37 #[xP cb] w (λe w'=>∃mb b1 b2 sv,e=.returned (xP mb)/\Mc w' w.heap.size mb cb b1 b2 bv cv rv sv c c.cells (List.replicate c.slots 0) []/\xB w w'):=by
 obtain⟨k0,k1,k2,k3,k4,k5,kf,kz⟩:=zt H.blk;obtain⟨x,cp,rfl⟩:=zB H.cown;have a1:=H.slotsB;have a2:=H.cellsB;have a3:=H.depthB;have b1:(0:Int)<=(c.cells.length:Int):=by omega
 have b2:(0:Int)<=(c.slots:Int):=by omega
 have b3:(0:Int)<=(c.depth:Int):=by omega
 have m1:=zhd c.cells.length c.cells.length (by omega) (by omega);have m2:=zhd c.slots c.slots (by omega) (by omega);have m3:∀w,(Instr.makeSlice 32 (xI 0) (xI (c.depth:Int))).run prog w=_:=zhd 0 c.depth (by omega) (by omega);go_enter func37,ntmps37;go_upto_region 1 with fail;go_region_held3 (λw'=>w'.cell? (xD cb 3)=some (.slice x c.cells.length cp)/\w'.cell? (xD cb 2)=some (xI c.slots)/\w'.cell? (xD cb 4)=some (xI c.depth)) (first|(refine⟨?_,?_,?_⟩ <;> repeat (first|with_reducible exact k2|with_reducible exact k3|with_reducible exact k4|with_reducible refine zg ?_|with_reducible refine zj _ ?_))|go_keep) (fail)
 all_goals
  go_wp2_with (go_at_call 34;obtain⟨e1,e2,e3,e4,e5⟩:=al4 w _ _ _ _;refine (zm3 w.heap.size _ cb _ _ bv _ rv _ c _ _ [] _ (zqs H hN e5 rfl rfl e4 (by first|exact e1|exact e2|exact e3) (by first|exact e1|exact e2|exact e3) (by first|exact e1|exact e2|exact e3) a3 (by omega) (by omega) (by omega) (by omega) (by omega) (by omega) (by omega) (by omega) (by omega) (by omega))).mono ?_;rintro e w1 ⟨rfl,HM1,hF1⟩;have HB1:Hid (xB w w1):=e5.trans (hF1.below e5.size (by omega));clear hF1 e1 e2 e3 e4 e5)
 all_goals go_ret
 all_goals exact⟨_,_,_,_,rfl,HM1,HB1.o⟩
end
end Go.Proofs.YtbicmofihhjgbaaGreatDoor
