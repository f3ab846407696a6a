/- Part 19 of the proof: FacB MdlK TreW. -/
import Derived.Test.YtedmpgjebafcjaaGreatDoorK17
set_option maxRecDepth 100000
set_option maxHeartbeats 8000000
namespace Go.Proofs.YtedmpgjebafcjaaGreatDoor
section
open Go.RowKit
attribute [local go_sem ↓] Go.wp_at_zero Go.wp_at_succ
def NE (w:World) (N:Nat) (er:List Nod) (v:Value):Prop :=
 ∃a cp,v=.slice a er.length cp/\er.length<=cp/\cp<=9223372036854775807/\(er≠[]->∃g,a=some ⟨g,0,none⟩/\g<N/\∀i n,er[i]?=some n->∃u,w.cell? ⟨g,i,none⟩=some u/\NP w N n u)
theorem NE.old {w w':World} {N:Nat} {er:List Nod} {v:Value} (h:NE w N er v) (ho:Old N w w'):NE w' N er v:=by
 obtain ⟨a,cp,h1,h2,h3,h4⟩:=h
 refine ⟨a,cp,h1,h2,h3,λhne=>?_⟩
 obtain ⟨g,h5,h6,h7⟩:=h4 hne
 refine ⟨g,h5,h6,λi n hi=>?_⟩
 obtain ⟨u,h8,h9⟩:=h7 i n hi
 exact ⟨u,(World.cell?_of_block (w:=w) (ho g h6)).trans h8,h9.old ho⟩
structure ScV (w:World) (N:Nat) (c:Sc) (ev nv:Value):Prop where
 er:NE w N c.er ev
 nd:NP w N c.nd nv
theorem ScV.old {w w':World} {N:Nat} {c:Sc} {ev nv:Value} (h:ScV w N c ev nv) (ho:Old N w w'):ScV w' N c ev nv:=⟨h.er.old ho,h.nd.old ho⟩
theorem zaU {w:World} {B:Nat} {w':World} (h:Below B w w') (hB:B<=w.heap.size) (o:Obj):Below B w (w'.alloc o):=h.alloc (Nat.le_trans hB h.size) o
theorem zaz {N:Nat} {c:Sc} {ev nv:Value} (s:ByteArray) (a:Int) (w:World) (h:ScV w N c ev nv) (hN:N<=w.heap.size) :
 Calls Tryz.prog 72 #[.agg #[ev,nv],.agg #[.string s,.int .i64 a]] w (λe w'=>e=.returned (.int .i64 (c.idx s:Nat))/\Below w.heap.size w w'):=by
 obtain ⟨nb,vs,qv,xs,rfl,hn⟩:=h.nd
 have HF:=za (λo1 o2=>zgF s ((w.alloc o1).alloc o2) (hn.old (zfr hN o1 o2)))
 clear h hn
 go_enter Tryz.func72,Tryz.ntmps72
 go_wp2_with (go_at_call 97;refine (HF.out _ _).mono ?_;rintro e w1 ⟨rfl,hB⟩;have HB:=za hB;clear hB;unfold zk6)
 go_ret
 exact ⟨rfl,zhh HB.out⟩
theorem zgt {N:Nat} {c:Sc} {ev nv:Value} (s:ByteArray) (a:Int) (w:World) (h:ScV w N c ev nv) (hN:N<=w.heap.size) :
 Calls Tryz.prog 98 #[.agg #[ev,nv],.agg #[.string s,.int .i64 a]] w (λe w'=>e=.returned (.bool (c.nd.find s).isSome)/\Below w.heap.size w w'):=by
 obtain ⟨nb,vs,qv,xs,rfl,hn⟩:=h.nd
 have HF:=za (λo1 o2=>zgF s ((w.alloc o1).alloc o2) (hn.old (zfr hN o1 o2)))
 clear h hn
 go_enter Tryz.func98,Tryz.ntmps98
 go_wp2_with (go_at_call 97;refine (HF.out _ _).mono ?_;rintro e w1 ⟨rfl,hB⟩;have HB:=za hB;clear hB;unfold zk6)
 go_ret
 exact ⟨rfl,zhh HB.out⟩
def zdW (N:Nat) (c:Sc) (s:ByteArray) (w':World) (e:Ending):Prop :=
 match c.called s with
 | none=>e=.returned (.tuple #[.agg #[.slice none 0 0,.pointer none],.bool false])
 | some c'=>∃ev' nv',e=.returned (.tuple #[.agg #[ev',nv'],.bool true])/\ScV w' N c' ev' nv'
theorem NE.take {w:World} {N:Nat} {er:List Nod} {a:Option Addr} {n cp k:Nat} (h:NE w N er (.slice a n cp)) (hk:k<er.length):NE w N (er.take k) (.slice a k cp):=by
 obtain ⟨a',cp',h1,h2,h3,h4⟩:=h
 cases h1
 have hl:(er.take k).length=k:=by simp;omega
 refine ⟨a,cp,by rw [hl],by omega,h3,λ_=>?_⟩
 obtain ⟨g,h5,h6,h7⟩:=h4 (by intro e;subst e;simp at hk)
 refine ⟨g,h5,h6,λi n hi=>h7 i n ?_⟩
 rw [List.getElem?_take] at hi
 split at hi
 · exact hi
 · cases hi
theorem al3 (w:World) (o1 o2 o3:Obj):(((w.alloc o1).alloc o2).alloc o3).heap[w.heap.size]?=some o1/\(((w.alloc o1).alloc o2).alloc o3).heap[w.heap.size+1]?=some o2/\(((w.alloc o1).alloc o2).alloc o3).heap[w.heap.size+1+1]?=some o3:=by
 have h (w:World) (o:Obj) (k:Nat):(w.alloc o).heap[k]?=if k=w.heap.size then some o else w.heap[k]?:=by
  show (w.heap.push o)[k]?=_
  rw [Array.getElem?_push]
 refine ⟨?_,?_,?_⟩
 all_goals simp only [h,zsb]
 · rw [if_neg (by omega),if_neg (by omega),if_pos trivial]
 · rw [if_neg (by omega),if_pos trivial]
 · rw [if_pos trivial]
theorem zhA {N:Nat} {c:Sc} {ev nv:Value} (s:ByteArray) (a:Int) (w:World) (h:ScV w N c ev nv) (hN:N<=w.heap.size) (h6:c.er.length<=6) :
 Calls Tryz.prog 96 #[.agg #[ev,nv],.agg #[.string s,.int .i64 a]] w (λe w'=>zdW N c s w' e/\Below w.heap.size w w'):=by
 have hE:=h.er
 obtain ⟨x,cp,rfl,hcp,hmx,hin⟩:=h.er
 have HE:=za hE
 have Hin:=za hin
 clear h hE hin
 go_enter Tryz.func96,Tryz.ntmps96
 go_wp2_with fail
 go_loopg [11] (c.er.length+1) (λj i wr=>∃k:Nat,k+j=c.er.length+1/\k<=c.er.length/\i=.int .i64 k/\Hid (zgg s (c.er.drop k) k=zgg s c.er 0)/\Hid (wr.heap[w.heap.size]?=some (.cells #[.slice x c.er.length cp,nv] 88 (0,0))/\wr.heap[w.heap.size+1]?=some (.cells #[.string s,.int .i64 a] 93 (0,0))/\wr.heap[w.heap.size+1+1]?=some (.cells #[.slice none 0 0,.pointer none] 88 (0,0)))/\Hid (Below w.heap.size w wr))
 case atStart=>exact ⟨0,by omega,Nat.zero_le _,rfl,rfl,al3 w _ _ _,zcz w _ _ _⟩
 case round =>
  obtain ⟨k,hkj,hk,rfl,HS,HX,HB⟩:=hrel
  obtain ⟨hx0,hx1,hx2⟩:=HX.out
  obtain ⟨p0,p1,pf,pz⟩:=zp hx0
  obtain ⟨q0,q1,qf,qz⟩:=zp hx1
  obtain ⟨r0,r1,rf,rz⟩:=zp hx2
  clear hx0 hx1 hx2
  by_cases hlt:k<c.er.length
  · obtain ⟨n,hn⟩:∃n,c.er[k]?=some n:=⟨_,zsc hlt⟩
    have hE2:=HE.out.old (zm HB.out hN)
    have HE2:=za (hE2.take hlt)
    obtain ⟨x',cp',e1,_,_,hin2⟩:=hE2
    cases e1
    obtain ⟨g,rfl,hgN,hat⟩:=hin2 (by intro e;rw [e] at hlt;simp at hlt)
    obtain ⟨u,hu,hnp⟩:=hat k n hn
    have HNP:=za hnp
    obtain ⟨nb,vs,qv,xs,rfl,hnt⟩:=hnp
    obtain ⟨n0,n1,n2,n3,n4,n5,nf,nz⟩:=zt hnt.blk
    have hD:=zla (s:=s) hn
    rw [HS.out] at hD
    have Hn:=za hn
    have i1:(k:Int)<=(cp:Int):=by omega
    clear HS hn hat hin2 hnt n1 n2 n3 n4 n5 Hin HE
    by_cases hq:n.nm=s
    · rw [if_pos hq] at hD
      have hcal:c.called s=some ⟨c.er.take k,n⟩:=by unfold Sc.called;rw [hD];simp only [Hn.out]
      have HD:=za hcal
      have hq':=zmz hq
      clear hD hq hcal
      go_wp2_with fail
      go_region_held3 (λw'=>w'.cell? ⟨nb,0,none⟩=some (.string n.nm)/\w'.cell? ⟨w.heap.size+1,0,none⟩=some (.string s)) (go_keep) (fail)
      go_wp2_with fail
      have hBn:=zo (zC (i:=1) (zC (b:=w.heap.size+1+1) (i:=0) HB.out (by omega) (.slice (some ⟨g,0,none⟩) k cp)) (b:=w.heap.size+1+1) (by omega) (.pointer (some ⟨nb,0,none⟩)))
      refine bodyPost_ret (v:=.tuple #[.agg #[.slice (some ⟨g,0,none⟩) k cp,.pointer (some ⟨nb,0,none⟩)],.bool true]) (by simp [results,Tryz.results96,go_sem,r0,r1]) rfl ⟨?_,hBn⟩
      have hOn:Old N wr _:=λk hk=>(hBn.block k (by omega)).trans (HB.out.block k (by omega)).symm
      unfold zdW
      rw [HD.out]
      exact ⟨_,_,rfl,HE2.out.old hOn,HNP.out.old hOn⟩
    · rw [if_neg hq] at hD
      have HD:=za hD
      have hq':=zmx hq
      clear hD hq
      go_wp2_with fail
      go_region_held3 (λw'=>w'.cell? ⟨nb,0,none⟩=some (.string n.nm)/\w'.cell? ⟨w.heap.size+1,0,none⟩=some (.string s)) (go_keep) (fail)
      go_wp2_with fail
      go_roundg (gk-1)
      case measure=>omega
      exact ⟨k+1,by omega,by omega,by go_num,HD.out.symm,HX.out,⟨HB.out.os,HB.out.tape,HB.out.output,HB.out.size,HB.out.block⟩⟩
  · have hO:c.called s=none:=by
     unfold Sc.called
     rw [<- HS.out,List.drop_of_length_le (by omega)];rfl
    have HO:=za hO
    clear HS hO
    go_wp2_with fail
    refine bodyPost_ret (v:=.tuple #[.agg #[.slice none 0 0,.pointer none],.bool false]) (by simp [results,Tryz.results96,go_sem,r0,r1]) rfl ⟨?_,zC (zC HB.out (by omega) _) (by omega) _⟩
    unfold zdW
    rw [HO.out]
theorem zc4 {N:Nat} {c:Sc} {ev nv:Value} (s:ByteArray) (a:Int) (w:World) (h:ScV w N c ev nv) (hN:N<=w.heap.size) (h6:c.er.length<=6) (hc:c.called s=none) :
 Calls Tryz.prog 96 #[.agg #[ev,nv],.agg #[.string s,.int .i64 a]] w (λe w'=>e=.returned (.tuple #[.agg #[.slice none 0 0,.pointer none],.bool false])/\Below w.heap.size w w'):=by
 refine (zhA s a w h hN h6).mono ?_
 rintro e w' ⟨h1,h2⟩
 unfold zdW at h1
 rw [hc] at h1
 exact ⟨h1,h2⟩
theorem ScV.shape {w:World} {N:Nat} {c:Sc} {ev nv:Value} (h:ScV w N c ev nv):∃x cp nb,ev=.slice x c.er.length cp/\nv=.pointer (some ⟨nb,0,none⟩)/\nb<N:=by
 obtain ⟨x,cp,h1,_⟩:=h.er
 obtain ⟨nb,_,_,_,h2,h3⟩:=h.nd
 exact ⟨x,cp,nb,h1,h2,h3.lo⟩
theorem zah {N:Nat} {c d:Sc} {ev nv:Value} (s:ByteArray) (a:Int) (w:World) (h:ScV w N c ev nv) (hN:N<=w.heap.size) (h6:c.er.length<=6) (hc:c.called s=some d) :
 Calls Tryz.prog 96 #[.agg #[ev,nv],.agg #[.string s,.int .i64 a]] w (λe w'=>∃x cp nb,e=.returned (.tuple #[.agg #[.slice x d.er.length cp,.pointer (some ⟨nb,0,none⟩)],.bool true])/\ScV w' N d (.slice x d.er.length cp) (.pointer (some ⟨nb,0,none⟩))/\Below w.heap.size w w'):=by
 refine (zhA s a w h hN h6).mono ?_
 rintro e w' ⟨h1,h2⟩
 unfold zdW at h1
 rw [hc] at h1
 obtain ⟨ev',nv',h3,h4⟩:=h1
 obtain ⟨x,cp,nb,rfl,rfl,_⟩:=h4.shape
 exact ⟨x,cp,nb,h3,h4,h2⟩
end
section
mutual
def szT:Tm->Nat
 | .mk _ _ _ _ _ ts=>szL ts+1
def szL:List Tm->Nat
 | []=>0
 | t::l=>szT t+szL l
end
theorem zkw {t:Tm} {l:List Tm} (h:t∈l):szT t<=szL l:=by
 induction l with
 | nil=>simp at h
 | cons x l ih =>
   rcases List.mem_cons.1 h with rfl|h
   · simp [szL]
   · have:=ih h;simp [szL];omega
theorem Tm.ind {P:Tm->Prop} (h:∀k a s nm n ts,(∀t∈ts,P t)->P (.mk k a s nm n ts)):∀t,P t
 | .mk k a s nm n ts=>h k a s nm n ts (λt _=>Tm.ind h t)
termination_by t=>szT t
decreasing_by simp only [szT];have:=zkw ‹_›;omega
def arB (k n:Nat):Bool :=
 if k<=3 then n==0 else if k=4 then decide (1<=n) else if k=5 then n==3 else if k=6 then n==2 else if k<=8 then n==1 else if k=9 then n==2 else if k<=11 then n==1 else if k<=23 then n==2 else false
inductive Wf:Tm->Prop
 | mk (k a:Nat) (s:ByteArray) (nm n:Nat) (ts:List Tm) (h:arB k ts.length=true) (hr:∀t∈ts,Wf t):Wf (.mk k a s nm n ts)
theorem Wf.sub {t u:Tm} (h:Wf t) (hu:u∈t.ts):Wf u:=by
 cases h with
 | mk k a s nm n ts h hr=>exact hr u hu
theorem Wf.ar {t:Tm} (h:Wf t):arB t.k t.ts.length=true:=by
 cases h with
 | mk k a s nm n ts h hr=>exact h
mutual
def zaV (g:Tm->Bool):Tm->List Tm
 | .mk k a s nm n ts=>.mk k a s nm n ts::(if g (.mk k a s nm n ts)=true then zdk g ts else [])
def zdk (g:Tm->Bool):List Tm->List Tm
 | []=>[]
 | t::l=>zaV g t++zdk g l
end
def za5 (_:Tm):Bool:=true
def zak (t:Tm):Bool:=t.k != 9
def Sc.has (c:Sc) (s:ByteArray):Bool:=(c.nd.find s).isSome
def zaJ (k:Nat):Bool:=k==3||k==7||k==8||k==6
def zda (q:Qn) (t:Tm):Nat:=if szT t=szT q.r then q.ns.length else 1
def Sc.fits (c:Sc) (t:Tm) (u:Nat):Bool :=
 match c.called t.s with
 | none=>false
 | some d=>d.nd.ins==t.ts.length&&d.nd.outs==u
def zat (c:Sc):List Vr->Nat->List Nat
 | [],_=>[]
 | v::l,i=>(if (c.nd.find v.nm).getD 0<i then [v.a] else [])++(if (zaA v != 0&&!c.has v.ck)=true then [v.ca] else [])++zat c l (i+1)
def z7 (c:Sc):List ByteArray->List Nat->List Nat
 | s::ns,p::ps=>(if (!c.has s||decide (c.idx s<c.nd.ins))=true then [p] else [])++z7 c ns ps
 | _,_=>[]
def zaL (c:Sc) (q:Qn) (t:Tm):List Nat :=
 (if (zaJ t.k&&!c.has t.s)=true then [t.nm] else [])++(if (t.k==4&&!c.fits t (zda q t))=true then [t.nm] else [])
def Sc.namesL (c:Sc):List Nat :=
 (if (c.called c.nd.nm).isSome=true then [c.nd.a] else [])++zat c c.nd.vars 0++(c.nd.eqs.flatMap λq=>z7 c q.ns q.ps)++(c.nd.eqs.flatMap λq=>(zaV za5 q.r).flatMap (zaL c q))
def tyV (v:Vr):Nat:=if v.bl=true then 1 else 0
def Sc.decl (c:Sc) (s:ByteArray):Nat:=((c.nd.vars[c.idx s]?).map tyV).getD 0
def Nod.results (n:Nod):List Vr:=(n.vars.drop n.ins).take n.outs
def Sc.callTy (c:Sc) (s:ByteArray):Nat :=
 match c.called s with
 | none=>0
 | some d=>((d.nd.results[0]?).map tyV).getD 0
mutual
def zaj (c:Sc):Tm->Nat
 | .mk k _ s _ _ ts =>
   if k=3 then c.decl s else if k=4 then c.callTy s else if k=7∨k=8∨k=6 then zbh c ts 0 else if k=5∨k=9 then zbh c ts 1
   else if k=0∨k=10∨(19<=k/\k<=23) then 0 else 1
def zbh (c:Sc):List Tm->Nat->Nat
 | [],_=>0
 | t::_,0=>zaj c t
 | _::l,n+1=>zbh c l n
end
def zcv (c:Sc) (ty:Nat) (l:List Tm):Bool:=l.all λt=>zaj c t==ty
def zc9 (c:Sc) (l:List Tm):Bool:=zbh c l 0==zbh c l 1
def zcG (t:Tm):Bool :=
 if t.k=0∨t.k=1∨t.k=2 then true else if t.k=10 then (match t.ts with|[]=>false|u::_=>u.k==0) else false
def zaQ (c:Sc):List Tm->List Vr->Bool
 | t::l,v::vs=>if (zaj c t != tyV v)=true then false else zaQ c l vs
 | [],_=>true
 | _::_,[]=>true
def Sc.operands (c:Sc) (t:Tm):Bool :=
 if t.k=10∨t.k=17∨t.k=18∨(19<=t.k/\t.k<=23) then zcv c 0 t.ts
 else if t.k=11∨t.k=12∨t.k=13∨t.k=14 then zcv c 1 t.ts
 else if t.k=15∨t.k=16∨t.k=6 then zc9 c t.ts
 else if t.k=5 then zcv c 1 (t.ts.take 1)&&zc9 c (t.ts.drop 1)
 else if t.k=9 then (match t.ts with|[]=>false|u::_=>zcG u)&&zc9 c t.ts
 else if t.k=4 then (match c.called t.s with|none=>true|some d=>zaQ c t.ts d.nd.vars)
 else true
def zaE (c:Sc):List ByteArray->List Vr->Bool
 | s::ns,r::rs=>if (c.decl s != tyV r)=true then false else zaE c ns rs
 | _,_=>true
def Sc.holds (c:Sc) (q:Qn):Bool :=
 match q.ns with
 | [s]=>c.decl s==zaj c q.r
 | ns=>match c.called q.r.s with
   | none=>true
   | some d=>zaE c ns d.nd.results
def zau (c:Sc):List Vr->List Nat
 | []=>[]
 | v::l=>(if (zaA v != 0&&c.decl v.ck != 1)=true then [v.on] else [])++zau c l
def zbQ (c:Sc) (t:Tm):List Nat :=
 (if (zaJ t.k&&t.k != 3&&c.decl t.s != 1)=true then [t.nm] else [])++(if c.operands t=true then [] else [t.a])
def Sc.typesL (c:Sc):List Nat :=
 zau c c.nd.vars++(c.nd.eqs.flatMap λq=>if c.holds q=true then [] else [q.a])++(c.nd.eqs.flatMap λq=>(zaV za5 q.r).flatMap (zbQ c))
def Sc.own (c:Sc) (v:Vr):Nat×Nat:=if zaA v=0 then (0,0) else (c.idx v.ck,zaA v)
def Sc.of (c:Sc) (i:Nat):Nat×Nat:=match c.nd.vars[i]? with|none=>(0,0)|some v=>c.own v
def Sc.up (c:Sc) (k:Nat×Nat):Nat×Nat:=if k.2=1∨k.2=2 then c.of k.1 else (0,0)
def zhr (c:Sc) (i:Nat):Nat->Nat×Nat->Bool
 | 0,_=>false
 | f+1,k=>if k=(0,0) then false else if k.1=i then true else zhr c i f (c.up k)
def Sc.comesBack (c:Sc) (i:Nat):Bool:=zhr c i (2*c.nd.vars.length) (c.of i)
def zbv (c:Sc):List Vr->Nat->List Nat
 | [],_=>[]
 | v::l,i=>(if c.comesBack i=true then [v.a] else [])++zbv c l (i+1)
def zbl (c:Sc) (k:Nat×Nat):List ByteArray->List Nat->List Nat
 | s::ns,p::ps=>(if c.of (c.idx s)=k then [] else [p])++zbl c k ns ps
 | _,_=>[]
def Sc.operand (c:Sc) (t:Tm) (i:Nat) (k:Nat×Nat):Nat×Nat :=
 if t.k=7∨t.k=8 then c.of (c.idx t.s) else if t.k=6 then (c.idx t.s,if 0<i then 2 else 1) else k
def zi8 (k:Nat):Nat:=if k=8 then 2 else 1
def Sc.isOn (c:Sc) (t:Tm) (k:Nat×Nat):List Nat×Bool :=
 if t.k=3∨t.k=6 then (if c.of (c.idx t.s)=k then [] else [t.nm],true)
 else if t.k=7∨t.k=8 then (if k=(c.idx t.s,zi8 t.k) then ([],true) else ([t.a],false))
 else ([],true)
mutual
def onT (c:Sc):Tm->Nat×Nat->List Nat
 | .mk x a s nm n ts,k=>(c.isOn (.mk x a s nm n ts) k).1++(if (c.isOn (.mk x a s nm n ts) k).2=true then onL c (.mk x a s nm n ts) k ts 0 else [])
def onL (c:Sc) (t:Tm) (k:Nat×Nat):List Tm->Nat->List Nat
 | [],_=>[]
 | u::l,i=>onT c u (c.operand t i k)++onL c t k l (i+1)
end
def zer (c:Sc) (q:Qn):List Nat :=
 let k:=c.of (c.idx (q.ns.headD ⟨#[]⟩))
 zbl c k q.ns.tail q.ps.tail++onT c q.r k
def Sc.clocksL (c:Sc):List Nat:=zbv c c.nd.vars 0++c.nd.eqs.flatMap (zer c)
def zaC (c:Sc):List ByteArray->List Nat->List Bool->List Nat×List Bool
 | s::ns,p::ps,d =>
   let r:=zaC c ns ps (d.set (c.idx s) true)
   ((if d.getD (c.idx s) false=true then [p] else [])++r.1,r.2)
 | _,_,d=>([],d)
def zcN (c:Sc):List Qn->List Bool->List Nat×List Bool
 | [],d=>([],d)
 | q::l,d =>
   let r:=zaC c q.ns q.ps d
   let r':=zcN c l r.2
   (r.1++r'.1,r'.2)
def zb1 (ins:Nat) (d:List Bool):List Vr->Nat->List Nat
 | [],_=>[]
 | v::l,i=>(if (decide (ins<=i)&&!d.getD i false)=true then [v.a] else [])++zb1 ins d l (i+1)
def Sc.definesL (c:Sc):List Nat :=
 let r:=zcN c c.nd.eqs (List.replicate c.nd.vars.length false)
 r.1++zb1 c.nd.ins r.2 c.nd.vars 0
def zcO (c:Sc) (i:Nat) (t:Tm):List (Nat×Nat):=if zaJ t.k=true then [(i,c.idx t.s)] else []
def zaO (c:Sc) (q:Qn) (s:ByteArray):List (Nat×Nat) :=
 let i:=c.idx s
 (if (c.of i).2=0 then [] else [(i,(c.of i).1)])++(zaV zak q.r).flatMap (zcO c i)
def Sc.linksL (c:Sc):List (Nat×Nat):=c.nd.eqs.flatMap λq=>q.ns.flatMap (zaO c q)
def zcA (by' fr n:Nat):Nat->List (Nat×Nat)->List (Nat×Nat)
 | 0,L=>L
 | m+1,L=>zcA by' fr n m (if (fr,by')∈L/\(by',n-(m+1))∈L then L++[(fr,n-(m+1))] else L)
def zbJ (by' n:Nat):Nat->List (Nat×Nat)->List (Nat×Nat)
 | 0,L=>L
 | m+1,L=>zbJ by' n m (zcA by' (n-(m+1)) n n L)
def zeD (n:Nat):Nat->List (Nat×Nat)->List (Nat×Nat)
 | 0,L=>L
 | m+1,L=>zeD n m (zbJ (n-(m+1)) n n L)
def zdT (n:Nat) (L:List (Nat×Nat)):List (Nat×Nat):=zeD n n L
def zht (a:Nat) (L:List (Nat×Nat)) (n:Nat):Nat->List Nat
 | 0=>[]
 | m+1=>(if (n-(m+1),n-(m+1))∈L then [a] else [])++zht a L n m
def Sc.causesL (c:Sc):List Nat:=zht c.nd.a (zdT c.nd.vars.length c.linksL) c.nd.vars.length c.nd.vars.length
def zbi (s:ByteArray):List (ByteArray×Nat)->Nat
 | []=>0
 | p::l=>if p.1=s then p.2 else zbi s l
def za9 (m:List (ByteArray×Nat)) (t:Tm):Nat:=if t.k=9 then 1 else if t.k=4 then 1+zbi t.s m else 0
def zed (l:List Nat):Nat:=l.foldl (·+·) 0
def zcg (n:Nod) (m:List (ByteArray×Nat)):Nat:=min (zed ((n.eqs.flatMap λq=>zaV za5 q.r).map (za9 m))) 61
def zfW:List Nod->List (ByteArray×Nat)->Nat->Nat
 | [],_,last=>last
 | n::l,m,_=>zfW l ((n.nm,zcg n m)::m) (zcg n m)
def zeZ (ns:List Nod):List Nat:=if 60<zfW ns [] 0 then [0] else []
def scs (ns:List Nod):List Sc:=(List.range ns.length).filterMap λi=>(ns[i]?).map λn=>⟨ns.take i,n⟩
def rep:Option Nat->Nat->Option Nat
 | none,p=>some p
 | some b,p=>if p<b then some p else some b
def zO (l:List Nat):Option Nat:=l.foldl rep none
def zbc (ns:List Nod):Option (Nat×Nat) :=
 match zO ((scs ns).flatMap Sc.namesL) with
 | some p=>some (4,p)
 | none=>match zO ((scs ns).flatMap Sc.typesL) with
   | some p=>some (5,p)
   | none=>match zO ((scs ns).flatMap Sc.clocksL) with
     | some p=>some (6,p)
     | none=>match zO ((scs ns).flatMap Sc.definesL) with
       | some p=>some (7,p)
       | none=>match zO ((scs ns).flatMap Sc.causesL) with
         | some p=>some (8,p)
         | none=>match zO (zeZ ns) with
           | some p=>some (9,p)
           | none=>none
theorem zlT {l:List Nat} (h:zO l=none):l=[]:=by
 have:∀(l:List Nat) (s:Option Nat),s.isSome=true->(l.foldl rep s).isSome=true:=by
  intro l
  induction l with
  | nil=>intro s h;exact h
  | cons p l ih =>
    intro s h
    refine ih _ ?_
    cases s with
    | none=>rfl
    | some b=>show (if p<b then some p else some b).isSome=true;split <;> rfl
 cases l with
 | nil=>rfl
 | cons p l =>
   have h2:=this l (rep none p) rfl
   unfold zO at h
   rw [List.foldl_cons] at h
   rw [h] at h2
   cases h2
end
section
open Go.RowKit
attribute [local go_sem ↓] Go.wp_at_zero Go.wp_at_succ
theorem zmZ {g:Tm->Bool} {ts:List Tm} {k:Nat} {t:Tm} (h:ts[k]?=some t):zdk g (ts.take (k+1))=zdk g (ts.take k)++zaV g t:=by
 induction ts generalizing k with
 | nil=>simp at h
 | cons x ts ih =>
   cases k with
   | zero=>simp at h;subst h;simp [zdk]
   | succ k =>
     simp at h
     rw [List.take_succ_cons,List.take_succ_cons,zdk,zdk,ih h,List.append_assoc]
structure Vis {σ:Type} (N:Nat) (T:Nat->Prop) (F:FuncId) (caps:Array Value) (Pt:Tm->Value->Prop) (g:Tm->Bool) (step:σ->Tm->σ) (I:σ->World->Prop):Prop where
 enters:zH F
 hT:∀k,T k->N<=k
 keep:∀s w w',I s w->Below w.heap.size w w'->I s w'
 sub:∀t v u x,Pt t v->u∈t.ts->Pt u x
 call:∀t v s w,TT w N t v->N<=w.heap.size->I s w->Pt t v->Calls Tryz.prog F (#[v]++caps) w (λe w'=>e=.returned (.bool (g t))/\I (step s t) w'/\Fr T w w')
theorem TT.ptr {w:World} {N:Nat} {t:Tm} {v:Value} (h:TT w N t v):∃b args vs,v=.pointer (some ⟨b,0,none⟩)/\b<N/\w.heap[b]?=some (.cells #[.int .i64 t.k,.int .i64 t.a,.string t.s,.int .i64 t.nm,.int .i64 t.n,args] 216 (0,0))/\w.ownsRow 0 164 1 args vs.length vs/\vs.length=t.ts.length/\(∀(i:Nat) (u:Tm) (x:Value),t.ts[i]?=some u->vs[i]?=some x->TT w N u x)/\(∀g,args.ownBlock=some g->g<N):=by
 cases h with
 | mk k a s nm n ts b args vs hN hb ha hg hl hr=>exact ⟨b,args,vs,rfl,hN,hb,ha,hl,hr,hg⟩
theorem ziV {σ:Type} {N:Nat} {T:Nat->Prop} {F:FuncId} {caps:Array Value} {Pt:Tm->Value->Prop} {g:Tm->Bool} {step:σ->Tm->σ} {I:σ->World->Prop} (hV:Vis N T F caps Pt g step I) :
 ∀(t:Tm) (v:Value) (s:σ) (w:World),TT w N t v->N<=w.heap.size->I s w->Pt t v->Calls Tryz.prog 136 #[v,.func (.func F) #[] caps] w (λe w'=>e=.returned (.tuple #[])/\I ((zaV g t).foldl step s) w'/\Fr T w w'):=by
 intro t
 induction t using Tm.ind with
 | h kk a nm n p ts ih =>
   intro v s w h hN hI hP
   obtain ⟨b,args,vs,rfl,hb,hblk,hown,hlen,hsub,hgs⟩:=h.ptr
   have HC:=za (hV.call _ _ s w h hN hI hP)
   have hcf:∀(args:Array Value) (w:World),(callFunc F args).run Tryz.prog w=.ok (.enter F args) w:=hV.enters
   have HV:=za hV
   have HP:=za hP
   have Hsub:=za hsub
   have Hown:=za hown
   have HT:=za h
   have Hih:=za ih
   have Hblk:=za hblk
   have Hgs:=za hgs
   obtain ⟨h0,h1,h2,h3,h4,h5,hf,hz⟩:=zt hblk
   have hw6:w.ownsRow 0 164 1 args vs.length vs:=hown
   obtain ⟨x,cp,rfl⟩:=zB hown
   have hlen':vs.length=ts.length:=hlen
   rw [hlen'] at h5 Hown Hblk Hgs
   clear hlen
   clear hV hI h hsub hown hP ih hw6 hblk hgs
   cases hg:g (.mk kk a nm n p ts) with
   | false =>
     rw [hg] at HC
     have e:zaV g (.mk kk a nm n p ts)=[.mk kk a nm n p ts]:=by unfold zaV;rw [hg];simp
     rw [e]
     clear hg e
     go_enter Tryz.func136,Tryz.ntmps136
     go_wp2_with fail
     with_reducible refine HC.out.mono ?_
     rintro e w1 ⟨rfl,hI1,hF1⟩
     have HI1:=za hI1
     have HF1:=za hF1
     clear hI1 hF1
     go_wp2_with fail
     first|go_end0|refine bodyPost_ret (results_none rfl _ _ _) rfl ?_
     exact ⟨rfl,HI1.out,HF1.out⟩
   | true =>
     rw [hg] at HC
     have e:zaV g (.mk kk a nm n p ts)=.mk kk a nm n p ts::zdk g ts:=by unfold zaV;rw [if_pos hg]
     rw [e]
     clear hg e
     go_enter Tryz.func136,Tryz.ntmps136
     go_wp2_with fail
     with_reducible refine HC.out.mono ?_
     rintro e w1 ⟨rfl,hI1,hF1⟩
     have hO1:Old N w w1:=hF1.old hN HV.out.hT
     have hz1:=hF1.size
     obtain ⟨p0,p1,p2,p3,p4,p5,pf,pz⟩:=zt ((hO1 b hb).trans Hblk.out)
     have HO1:=za hO1
     have HI1:=za hI1
     have HF1:=za hF1
     clear hI1 hF1 hO1
     go_wp2_with fail
     have h16:ts.length<=9223372036854775807:=by
      have:=Hown.out
      rcases this.2 with ⟨_,h⟩|⟨g,cap,cur,hv,_,_,h3,h4,_⟩
      · omega
      · unfold maxLen at h4;omega
     go_loopg [15] (ts.length+1) (λj i wr=>∃k:Nat,k+j=ts.length+1/\k<=ts.length/\i=.int .i64 k/\Hid (I ((zdk g (ts.take k)).foldl step (step s (.mk kk a nm n p ts))) wr)/\Hid (Fr T w wr))
     case atStart=>exact ⟨0,by omega,Nat.zero_le _,rfl,HI1.out,HF1.out⟩
     case round =>
      obtain ⟨k,hkj,hk,rfl,HIk,HFk⟩:=hrel
      have hOk:Old N w wr:=HFk.out.old hN HV.out.hT
      have hzk:=HFk.out.size
      by_cases hlt:k<ts.length
      · obtain ⟨t,ht⟩:∃t,ts[k]?=some t:=⟨_,zsc hlt⟩
        obtain ⟨u,hu⟩:∃u,vs[k]?=some u:=⟨_,zsc (by omega)⟩
        have hown':wr.ownsRow 0 164 1 (.slice x ts.length cp) ts.length vs:=zi Hown.out (λj _ _ e=>hOk j (Hgs.out j e))
        obtain ⟨g',rfl,hcell⟩:=zbE hown' hu
        have hTu:=(Hsub.out k t u ht hu).old hOk
        obtain ⟨bu,_,_,rfl,_⟩:=hTu.ptr
        have hPu:=HV.out.sub _ _ t (.pointer (some ⟨bu,0,none⟩)) HP.out (List.mem_of_getElem? ht)
        have HW:=za (Hih.out t (List.mem_of_getElem? ht) _ _ wr hTu (by omega) HIk.out hPu)
        have HS:=za (zmZ (g:=g) ht)
        clear ht hu hown' hTu hPu hOk
        go_wp2_with (go_at_call 136;refine HW.out.mono ?_;rintro e w2 ⟨rfl,hI2,hF2⟩;have HI2:=za hI2;have HF2:=za (HFk.out.trans hF2);clear hI2 hF2)
        go_roundg (gk-1)
        case measure=>omega
        refine ⟨k+1,by omega,by omega,by go_num,?_,HF2.out⟩
        rw [HS.out,List.foldl_append]
        exact HI2.out
      · have ek:k=ts.length:=by omega
        subst ek
        rw [List.take_length] at HIk
        go_wp2_with fail
        first|go_end0|refine bodyPost_ret (results_none rfl _ _ _) rfl ?_
        exact ⟨rfl,HIk.out,HFk.out⟩
theorem TT.det {w:World} {N:Nat} {t:Tm} {v:Value} (h:TT w N t v):∀{t':Tm},TT w N t' v->t=t':=by
 induction h with
 | mk k a s nm n ts b args vs hN hb ha hg hl _ ih =>
   intro t' h'
   cases h' with
   | mk k' a' s' nm' n' ts' b args' vs' hN' hb' ha' hg' hl' hr' =>
     rw [hb] at hb'
     have e:=Obj.cells.inj (Option.some.inj hb')
     have e1:=e.1
     simp only [Array.mk.injEq,List.cons.injEq,Value.int.injEq,Value.string.injEq,true_and,and_true,Int.ofNat_inj] at e1
     obtain ⟨ek,ea,es,enm,en,eargs⟩:=e1
     subst ek ea es enm en eargs
     have hvs:vs=vs':=by
      rcases ha.2 with ⟨h1,h2⟩|⟨g,cap,cur,h1,_,h3,h4,h5,h6,h7⟩
      · rcases ha'.2 with ⟨k1,k2⟩|⟨g',cap',cur',k1,_⟩
        · have:vs.length=0:=h2
          have:vs'.length=0:=k2
          rw [List.eq_nil_of_length_eq_zero ‹vs.length=0›,List.eq_nil_of_length_eq_zero ‹vs'.length=0›]
        · rw [h1] at k1;cases k1
      · rcases ha'.2 with ⟨k1,k2⟩|⟨g',cap',cur',k1,_,k3,k4,k5,k6,k7⟩
        · rw [h1] at k1;cases k1
        · rw [h1] at k1
          simp only [Value.slice.injEq,Option.some.injEq,Addr.mk.injEq,and_true] at k1
          obtain ⟨rfl,hl2,rfl⟩:=k1
          rw [h3] at k3
          have e4:=(Obj.cells.inj (Option.some.inj k3)).1
          subst e4
          rw [<- h7,<- k7,hl2]
     subst hvs
     have:ts=ts':=by
      apply List.ext_getElem?
      intro i
      rcases Nat.lt_or_ge i ts.length with hi|hi
      · have e1:ts[i]?=some ts[i]:=zsc hi
        have hi':i<ts'.length:=by omega
        have e2:ts'[i]?=some ts'[i]:=zsc hi'
        have hiv:i<vs.length:=by omega
        have e3:vs[i]?=some vs[i]:=zsc hiv
        rw [e1,e2]
        congr 1
        exact ih i _ _ e1 e3 (hr' i _ _ e2 e3)
      · rw [List.getElem?_eq_none hi,List.getElem?_eq_none (by omega)]
     rw [this]
end
end Go.Proofs.YtedmpgjebafcjaaGreatDoor
