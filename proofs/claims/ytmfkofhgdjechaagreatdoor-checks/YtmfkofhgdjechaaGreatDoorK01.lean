/- Part 2 of the proof. -/
import Derived.Test.YtmfkofhgdjechaaGreatDoorK00
set_option maxRecDepth 100000
set_option maxHeartbeats 8000000
namespace Go.Proofs.YtmfkofhgdjechaaGreatDoor
open Go.Proofs.Tryz
section
open Go.RowKit
variable {F:Fx} {p n rb q:Nat} {r:Xo} {x d y z:Rw} {f:St} {e:Xy} {o v j:Xv} {a b c w m:Xw}
def jr (e:Ex)(v:Xv):List Value:=[.string e.op,xI e.a,xI e.nm,v,.string e.s,xI e.n]
def jw:List Ex->List Value->List Value
 | e::L,v::g=>jr e v++jw L g
 | _,_=>[]
theorem BV:∀(L:List Ex) (g:Xm) (e:Ex) (v:Xv),L.length=g.length->jw (L++[e]) (g++[v])=jw L g++jr e v:=by
 intro L;induction L with
 | nil=>intro g e v h;cases g with
   | nil=>simp[jw]
   | cons _ _=>simp at h
 | cons k L i=>intro g e v h;cases g with
   | nil=>simp at h
   | cons l g=>simp only[List.cons_append,jw,i g e v (by simpa using h),bw]
def bK (l:Xn):List Value:=l.map λ(n:Nat)=>(xI (n:Int))
def aV (w:Xw)(p:Nat)(d:Rw)(L:List Ex):Prop :=
 L.length=d.ah.length/\w.ownsRow p 190 6 d.v L.length (jw L d.ah) /\
  ∀(i:Nat) (e:Ex) (v:Xv),L[i]?=some e->d.ah[i]?=some v->w.ownsRow p 3 1 v e.ah.length (bK e.ah)
theorem aV.kept {L:List Ex}(h:aV w p d L)(g:∀k,p<=k->k<w.heap.size->m.heap[k]?=w.heap[k]?):aV m p d L:=by obtain⟨l,s,t⟩:=h;exact⟨l,zi s (λk a b _=>g k a b),λi e v u A=>zi (t i e v u A) (λk a b _=>g k a b)⟩
def ir (rb:Nat)(d g:Rw)(w m:Xw):Prop :=
 Fr (λk=>k=rb∨d.v.ownBlock=some k) w m/\∀k,g.v.ownBlock=some k->d.v.ownBlock=some k∨w.heap.size<=k
def Ev (rb:Nat)(d g:Rw)(w m:Xw):Prop :=
 ir rb d g w m/\∃E,g.ah=d.ah++E/\∀v,v∈E->∀k,v.ownBlock=some k->w.heap.size<=k
theorem ir.bA (h:Fr (·=rb) w m):ir rb d d w m:=⟨h.mono (λ_ _ h=>ao h),λ_ h=>ao h⟩
theorem Ev.bA (h:Fr (·=rb) w m):Ev rb d d w m:=⟨ir.bA h,[],by simp,λ_ h=>by cases h⟩
theorem Ev.refl (rb:Nat)(d:Rw)(w:Xw):Ev rb d d w w:=Ev.bA (Fr.refl _ _)
theorem ir.trans (h:ir rb x y a b)(k:ir rb y z b c):ir rb x z a c:=by
 refine⟨h.1.dr k.1 ?_,?_⟩
 . intro i g hs;rcases hs with hs|hs
   . exact ao hs
   rcases h.2 i hs with h2|h2
   . exact ap h2
   omega
 intro i g;have l:=h.1.size;rcases k.2 i g with h2|h2
 . exact h.2 i h2
 exact ap (by omega)
theorem Ev.trans (h:Ev rb x y a b)(k:Ev rb y z b c):Ev rb x z a c:=by
 obtain⟨g,E,t,u⟩:=h;obtain⟨A,s,B,C⟩:=k;refine⟨g.trans A,E++s,by rw[B,t,bw],?_⟩;intro v hv i l;have D:=g.1.size;rcases bj.1 hv with hv|hv
 . exact u v hv i l
 have:=C v hv i l;omega
theorem ux (w:Xw)(A B:Obj):((w.alloc A).alloc B).drew.heap[w.heap.size+1]?=some B:=by have h:=zc (w.alloc A) B;rw[show (w.alloc A).heap.size=w.heap.size+1 by simp] at h;exact h
theorem eW {d:Xm}(h:w.ownsRow p e q v n d)(i:rb<p):v.ownBlock≠some rb:=by intro g;have:=(h.lt rb g).1;omega
theorem zs.grown (h:zs w rb F d f)(g:w.grownBy m r)(i:r≠some rb):zs m rb F d f:=h.kept (g.block rb h.lt (λe=>i e.symm))
theorem vl (h:rb<w.heap.size)(A B:Obj):rb+1<=((w.alloc A).alloc B).drew.heap.size:=by
 have g:((w.alloc A).alloc B).drew.heap.size=w.heap.size+2:=by show ((w.heap.push A).push B).size=_;simp
 omega
theorem oA {d:Xm}(h:w.ownsRow p e q v n d)(A B:Obj):((w.alloc A).alloc B).drew.ownsRow p e q v n d :=
 zi h (λk _ g _=>(Below.heap_alloc (w.alloc A) B k (by simp;omega)).trans (Below.heap_alloc w A k g))
theorem DX {e:Ex}(h:o.oneCell'=true):∀u∈jr e o,u.oneCell'=true:=by intro u g;simp only[jr,cC,List.not_mem_nil,or_false] at g;rcases g with rfl|rfl|rfl|rfl|rfl|rfl;all_goals first|exact h|rfl
theorem kT {e:Nat}{d:Xm}{l G t R:Nat}{C:Xm}(h:w.ownsRow p e q v n d)(N:w.ownsRow l G t j R C)(Q:e≠G){k:Nat}(A:v.ownBlock=some k):j.ownBlock≠some k:=by
 intro i;rcases h.2 with ⟨B,_⟩|⟨g,I,J,B,_,H,_⟩
 . rw[B] at A;cases A
 rcases N.2 with ⟨s,_⟩|⟨M,D,E,s,_,u,_⟩
 . rw[s] at i;cases i
 rw[B] at A;rw[s] at i;have K:g=k:=by simpa [Value.ownBlock] using A
 have L:M=k:=by simpa [Value.ownBlock] using i
 rw[K] at H;rw[L,H] at u;injection u with O
 injection O with S P
 exact Q P
theorem mF {e:Nat}{d:Xm}(h:w.ownsRow p e q v n d)(g:w.grownBy m r)(l:∀k,v.ownBlock=some k->r≠some k):m.ownsRow p e q v n d :=
 zi h (λk _ i s=>g.block k i (λe=>l k s e.symm))
theorem Co {t:Xw}{e:Ex}{A B:Obj}
 (Q:aV w (rb+1) d f.L) (H:rb<w.heap.size)
 (M:w.ownsRow (rb+1) 3 1 o e.ah.length (bK e.ah))
 (E:t.ownsRow (rb+1) 190 6 j (f.L.length+1) (jw f.L d.ah++jr e o))
 (C:((w.alloc A).alloc B).drew.grownBy t d.v.ownBlock) (D:∀k,j.ownBlock=some k->d.v.ownBlock=some k∨((w.alloc A).alloc B).drew.heap.size<=k) (J:zs t rb F d f) :
 zs (t.setCell (xD rb 13) j) rb F ⟨j,d.ah++[o]⟩ (f.add e)/\aV (t.setCell (xD rb 13) j) (rb+1) ⟨j,d.ah++[o]⟩ (f.add e).L/\ir rb d ⟨j,d.ah++[o]⟩ w (t.setCell (xD rb 13) j):=by
 obtain⟨I,K,L⟩:=Q;have g:∀{v:Xv} {l:Xn},w.ownsRow (rb+1) 3 1 v l.length (bK l)->(t.setCell (xD rb 13) j).ownsRow (rb+1) 3 1 v l.length (bK l):=by intro v l h;refine ownsRow_setCell_below ?_ (cf rb) j;exact mF (oA h A B) C (λk G=>kT (oA h A B) (oA K A B) (by decide) G)
 refine⟨J.tC j _,⟨by simp[St.add,I],?_,?_⟩,?_,?_⟩
 . have h:=ownsRow_setCell_below E (a:=(xD rb 13)) (cf rb) j;rw[<- BV _ _ _ _ I] at h;simpa [St.add] using h
 . intro i N v s u;simp only[St.add] at s;simp only at u;rcases Nat.lt_or_ge i f.L.length with H|hge
   . rw[e9 H] at s;rw[e9 (by omega)] at u;exact g (L i N v s u)
   rw[e8 hge] at s;rw[e8 (by omega)] at u;have:i-f.L.length=0:=by have:=(aB.1 s).1;simp at this;omega
   rw[this] at s;rw[<- I,this] at u;simp at s u;subst s u;exact g M
 . have O:Fr (λk=>k=rb∨d.v.ownBlock=some k) w ((w.alloc A).alloc B).drew:=(((Fr.refl _ w).alloc _).alloc _).drew;have P:Fr (λk=>k=rb∨d.v.ownBlock=some k) ((w.alloc A).alloc B).drew t:=⟨C.os,C.tape,C.output,C.size,λk G R=>C.block k G (λe=>R (ap e.symm))⟩;exact (O.trans P).setCell (ao (ao rfl)) j
 intro k G;rcases D k G with h|h
 . exact ao h
 have:=vl (rb:=w.heap.size-1) (w:=w) (by omega) A B;exact ap (by omega)
theorem Tryz.AG:(prog.info? 190).map (λi=>(i.zero,i.size,i.bytes))=some (some (.agg #[.string ⟨#[]⟩,xI 0,xI 0,.slice none 0 0,.string ⟨#[]⟩,xI 0]),6,80):=by kernel_rfl
theorem Ec (rb:Nat)(F:Fx)(d:Rw)(f:St)(e:Ex)(o:Xv)(w:Xw)(M:f.L.length<=100000)(u:zs w rb F d f)(E:aV w (rb+1) d f.L)(L:w.ownsRow (rb+1) 3 1 o e.ah.length (bK e.ah))(D:o.oneCell'=true) :
 xK 283 #[xP rb,.agg #[.string e.op,xI e.a,xI e.nm,o,.string e.s,xI e.n]] w λS m=>∃j,S=.returned (xI f.L.length)/\zs m rb F ⟨j,d.ah++[o]⟩ (f.add e)/\aV m (rb+1) ⟨j,d.ah++[o]⟩ (f.add e).L/\ir rb d ⟨j,d.ah++[o]⟩ w m:=by
 have a4:=u.frozen;have A:=u.lt;obtain⟨h0,h1,h2,h3,h4,h5,h6,h7,h8,h9,T,U,V,W,X⟩:=u.cells;have K:=E.2.1;have Q:=za E;have P:=za u;have J:=za K;have O:=za L;obtain⟨Z,Y,G,H,I⟩:=info_parts Tryz.AG;clear u K E L;have ak:f.L.length+1<=maxLen:=by unfold maxLen;omega
 have C:(f.L.length+1)*80<=140737488355328:=by omega
 go_enter func283,ntmps283;go_wp2_with fail
 go_region_law (
  refine zJ _ rfl (.tmp 10) (.tmp 12) 100 rfl (rb+1) 190 Z _ 6 80 underlying100 Y G H I rfl (by decide) d.v f.L.length (jw f.L d.ah) rfl (oA J.o _ _) (xD (w.heap.size+1) 0) 1 1 (jr e o) rfl rfl (zN (ux w _ _) rfl) (DX D) ak C (vl A _ _) ?_;intro j b0 i h l;have t:=za i;have s:=za l;have N:=za h;have k:=((P.o.alloc _).alloc _).drew.grown h (eW J.o (cf _));obtain⟨a5,a9,be,bk,bl,bp,bs,bt,bx,bE,al,ar,a0,a2,a3⟩:=k.cells;have bL:=k.frozen;have B:=za k;obtain⟨g,R,rfl,hg⟩:=zM i (by omega);clear i h k l)
 all_goals go_wp2_with fail
 all_goals go_ret
 all_goals exact⟨_,rfl,Co Q.o A O.o t.o N.o s.o B.o⟩
end
section
abbrev Fn:=St->St×Nat
def sE:ByteArray:=⟨#[]⟩
def St.put (a:St)(e:Ex):St×Nat:=(a.add e,a.L.length)
def et (t:Tk)(n:Nat):Bool :=
 if t.k≠4/\t.k≠5 then false
 else if t.s.toList=[111,114]∨t.s.toList=[120,111,114] then n==0
 else if t.s.toList=[97,110,100] then n==1
 else if t.s.toList=[43]∨t.s.toList=[45] then n==2
 else if t.s.toList=[42]∨t.s.toList=[47]∨t.s.toList=[37] then n==3
 else false
def dx (a6:Nat)(part:Fn):Nat->St×Nat->St×Nat
 | 0,x=>x
 | f+1,x=>if x.1.er=0/\et x.1.t a6=true then
    dx a6 part f ((part x.1.ad).1.put ⟨x.1.t.s,x.1.t.a,0,[x.2,(part x.1.ad).2],sE,0⟩) else x
def eo (a6:Nat)(part:Fn):Fn:=λa=>dx a6 part 1300 (part a)
def eh (t:Tk):Bool:=t.k==4&&(t.s.toList==[61]||t.s.toList==[60,62]||t.s.toList==[60]||t.s.toList==[60,61])
def ei (sum:Fn):Fn:=λa =>
 let x:=sum a
 if x.1.er=0/\eh x.1.t=true then (sum x.1.ad).1.put ⟨x.1.t.s,x.1.t.a,0,[x.2,(sum x.1.ad).2],sE,0⟩ else x
def kS:ByteArray:=⟨#[110,101,103]⟩
def kR:ByteArray:=⟨#[110,111,116]⟩
def dG (a co:Fn):Fn:=λst =>
 if st.er=0/\(st.is 4 [45]||st.is 5 [110,111,116])=true then
  (a st.enter).1.aI.put ⟨if st.is 4 [45]=true then kS else kR,st.t.a,0,[(a st.enter).2],sE,0⟩
 else co st
def eu (st:St):Bool:=st.is 5 [119,104,101,110]||st.is 5 [119,104,101,110,111,116]
def dk:Nat->St×Nat->St×Nat
 | 0,x=>x
 | f+1,x=>if x.1.er=0/\eu x.1=true then
    dk f (x.1.ad.name.put ⟨x.1.t.s,x.1.t.a,x.1.ad.t.a,[x.2],x.1.ad.t.s,0⟩) else x
def gR (a:Fn):Fn:=λb=>dk 1300 (a b)
def fK (b:Xb)(n:Nat):Fn:=λa=>a.ad.put ⟨b,a.t.a,0,[],sE,n⟩
def gQ:ByteArray:=⟨#[118,97,114]⟩
def fL:ByteArray:=⟨#[99,97,108,108]⟩
def fJ:ByteArray:=⟨#[110,117,109,98,101,114]⟩
def dl:ByteArray:=⟨#[98,111,111,108]⟩
def iz:ByteArray:=⟨#[105,102]⟩
def iL:ByteArray:=⟨#[109,101,114,103,101]⟩
def iO:ByteArray:=⟨#[102,98,121]⟩
def cY (a:Fn):Nat->St×List Nat->St×List Nat
 | 0,x=>x
 | f+1,x=>if x.1.er=0/\x.1.is 4 [44]=true then cY a f ((a x.1.ad).1,x.2++[(a x.1.ad).2]) else x
def cL (a:Fn)(b:St):St×List Nat:=cY a 1300 ((a b).1,[(a b).2])
def a1 (b:Fn)(t:Tk):Fn:=λa =>
 if a.is 4 [40]=true then
  let x:=cL b a.enter
  (x.1.ac 4 [41]).aI.put ⟨fL,t.a,t.a,x.2,t.s,0⟩
 else (a.fail 2 a.t.a,0)
def fp (d:Fn):Fn:=λe =>
 let c:=d e.enter
 let a:=d (c.1.ac 5 [116,104,101,110])
 let b:=d (a.1.ac 5 [101,108,115,101])
 b.1.aI.put ⟨iz,e.t.a,0,[c.2,a.2,b.2],sE,0⟩
def kc:Fn:=λa=>a.ad.put ⟨gQ,a.t.a,a.t.a,[],a.t.s,0⟩
def bF (b:Fn):Fn:=λa=>if a.er≠0∨a.t.k≠2 then b a else kc a
def fs (d:Fn):Fn:=λe =>
 let c:=e.enter.t
 let a:=bF d e.enter.name
 let b:=bF d a.1
 b.1.aI.put ⟨iL,e.t.a,c.a,[a.2,b.2],c.s,0⟩
def iM (a:Fn):Fn:=λb=>(((a b.enter).1.ac 4 [41]).aI,(a b.enter).2)
def aN (b c:Fn):Fn:=λa =>
 if a.er≠0 then (a,0)
 else if a.t.k=3 then fK fJ a.t.n a
 else if a.t.k=2 then (if a.ad.is 4 [40]=true then a1 b a.t a.ad else kc a)
 else if a.is 4 [40]=true then iM b a
 else if a.is 5 [116,114,117,101]=true then fK dl 1 a
 else if a.is 5 [102,97,108,115,101]=true then fK dl 0 a
 else if a.is 5 [105,102]=true then fp b a
 else if a.is 5 [109,101,114,103,101]=true then fs c a
 else (a.fail 2 a.t.a,0)
def fe (b a:Fn):Fn:=λc =>
 let x:=a c
 if x.1.er=0/\x.1.is 5 [102,98,121]=true then
  (b x.1.enter).1.aI.put ⟨iO,x.1.t.a,0,[x.2,(b x.1.enter).2],sE,0⟩
 else x
structure z1 where
 ex:Fn
 un:Fn
 at':Fn
def a6:Nat->z1
 | 0=>⟨λb=>(b,0),λb=>(b,0),λb=>(b,0)⟩
 | d+1 =>
   let a:=aN (a6 d).ex (a6 d).at'
   let u:=dG (a6 d).un (gR a)
   ⟨fe (a6 d).ex (eo 0 (eo 1 (ei (eo 2 (eo 3 u))))),u,a⟩
structure Inv (p:Nat) (st:St):Prop where
 ok:st.Ok
 jN:st.L.length+p<=st.t.a+(if st.er=0 then 0 else 1)
 dq:st.op<=17
 kq:st.er=0->st.op<=16
 bad:st.er≠0->st.t.k=1
 tok:2<=st.t.k->st.t.a<st.t.t
structure cU (M:Fn) (st:St) (p:Nat):Prop where
 af:Inv p (M st).1
 op:(M st).1.op=st.op
 src:(M st).1.src=st.src
 ta:st.t.a<=(M st).1.t.a
 L:∃E,(M st).1.L=st.L++E
 er:st.er≠0->M st=(st,(M st).2)
 num:(M st).1.er=0->(M st).2<(M st).1.L.length
theorem St.bu (a:St):a.ad.L=a.L:=by unfold St.ad;split <;> rfl
theorem St.gd (b:St)(e a:Nat):(b.fail e a).L=b.L:=by unfold St.fail;split <;> rfl
theorem St.bi (a:St)(k:Nat)(l:Xu):(a.ac k l).L=a.L:=by unfold St.ac;split;exact a.bu;exact a.gd _ _
theorem St.c8 (a:St):a.name.L=a.L:=by unfold St.name;split;exact a.bu;exact a.gd _ _
theorem St.dA (a:St):a.enter.L=a.L:=by unfold St.enter;split;exact St.gd _ _ _;exact St.bu _
end
section
variable {M part:Fn} {l:Xu} {a d e k lv p:Nat} {g:St} {t:Tk}
def zv (d:Nat)(M:Fn):Prop:=∀(g:St) (p:Nat),Inv p g->18<=g.op+d->cU M g p
theorem Inv.gf (h:Inv p g)(f:k≠1)(c:g.is k l=true):g.er=0:=by
 by_cases b:g.er=0
 . exact b
 have:=h.bad b;simp[St.is,this] at c;omega
theorem Inv.bP (b:g.is k l=true):g.t.k=k:=by simp[St.is] at b;exact b.1
theorem St.bN:g.enter.op=g.op+1:=by
 unfold St.enter;split
 . unfold St.fail;split <;> rfl
 unfold St.ad;split <;> rfl
theorem St.jH (g:St)(e a:Nat):(g.fail e a).op=g.op:=by unfold St.fail;split <;> rfl
theorem St.sQ (g:St)(e a:Nat):(g.fail e a).src=g.src:=by unfold St.fail;split <;> rfl
theorem St.oq (g:St)(e a:Nat):(g.fail e a).t.a=g.t.a:=by unfold St.fail;split <;> rfl
theorem St.cy (g:St)(b:e≠0):(g.fail e a).er≠0:=by unfold St.fail;split <;> simp[*]
theorem St.bQ (g:St):g.ad.op=g.op:=by unfold St.ad;split <;> rfl
theorem St.ja (g:St):g.ad.er=g.er:=by unfold St.ad;split <;> rfl
theorem St.tE (h:g.er≠0):g.ad=g:=by unfold St.ad;rw[ae h]
theorem St.dZ (h:g.er=0):g.ad={ g with t:=zZ g.src g.t.t }:=by unfold St.ad;rw[ag h]
structure ai (p:Nat) (g st':St):Prop where
 af:Inv p st'
 src:st'.src=g.src
 ta:g.t.a<=st'.t.a
 L:∃E,st'.L=g.L++E
 er:g.er≠0->st'.er≠0
theorem ai.refl (h:Inv p g):ai p g g:=⟨h,rfl,an _,⟨[],by simp⟩,λh=>h⟩
theorem ai.trans {q:Nat}{a b c:St}(h:ai p a b)(k:ai q b c):ai q a c:=by obtain⟨E,j⟩:=h.L;obtain⟨i,f⟩:=k.L;exact⟨k.af,k.src.trans h.src,aJ h.ta k.ta,⟨E++i,by rw[f,j,bw]⟩,λe=>k.er (h.er e)⟩
theorem ai.gj (h:Inv p g)(c:g.er=0)(j:2<=g.t.k):ai (p+1) g g.ad:=by
 have i:=zV g.src g.t.t h.ok.tt;have f:=h.jN;have m:=h.tok j;rw[ag c] at f;have b:=h.ok.ad;rw[St.dZ c] at b ⊢;refine⟨⟨b,?_,h.dq,h.kq,λh=>absurd c h,i.2.2.2.2.2⟩,rfl,?_,⟨[],by simp⟩,λh=>h⟩
 . simp only[c,ag];omega
 simp only;omega
theorem ai.ad (h:Inv p g):ai p g g.ad:=by
 by_cases b:g.er=0
 . have i:=zV g.src g.t.t h.ok.tt;have f:=h.jN;have j:=h.ok.ta;rw[ag b] at f;have c:=h.ok.ad;rw[St.dZ b] at c ⊢;refine⟨⟨c,?_,h.dq,h.kq,λh=>absurd b h,i.2.2.2.2.2⟩,rfl,?_,⟨[],by simp⟩,λh=>h⟩
   . simp only[b,ag];omega
   simp only;omega
 rw[St.tE b];exact ai.refl h
theorem ai.fail (h:Inv p g)(c:e≠0)(j:e<=11)(i:a<=1200):ai p g (g.fail e a):=by
 have f:=h.jN;refine⟨⟨h.ok.fail j i,?_,by rw[St.jH];exact h.dq,λb=>absurd b (St.cy g c),?_,?_⟩,St.sQ _ _ _,by rw[St.oq];exact an _,⟨[],by rw[St.gd];simp⟩,λ_=>St.cy g c⟩
 . rw[St.gd,St.oq,ae (St.cy g c)];split at f <;> omega
 . intro _;unfold St.fail;split <;> rfl
 intro b;exfalso;unfold St.fail at b;split at b <;> simp at b
theorem ai.ac (h:Inv p g)(k:Nat)(l:Xu):ai p g (g.ac k l):=by
 unfold St.ac;split
 . exact ai.ad h
 exact ai.fail h (by omega) (by omega) h.ok.bR
theorem ai.name (h:Inv p g):ai p g g.name:=by
 unfold St.name;split
 . exact ai.ad h
 exact ai.fail h (by omega) (by omega) h.ok.bR
theorem St.a8 (g:St)(k:Nat)(l:Xu):(g.ac k l).op=g.op:=by unfold St.ac;split;exact g.bQ;exact g.jH _ _
theorem St.dB (g:St):g.name.op=g.op:=by unfold St.name;split;exact g.bQ;exact g.jH _ _
theorem ai.enter (h:Inv p g)(c:g.er=0)(m:2<=g.t.k):ai (p+1) g g.enter:=by
 have i:=h.jN;have n:=h.kq c;have o:=h.tok m;have q:=h.dq;rw[ag c] at i;have b:=h.ok.enter (by omega);have j:=zV g.src g.t.t h.ok.tt;unfold St.enter at b ⊢;split at b
 . rename_i f
   rw[ag f];refine⟨⟨b,?_,?_,λh=>absurd h (St.cy _ (by omega)),λ_=>?_,λh=>?_⟩,St.sQ _ _ _,by rw[St.oq];exact an _,⟨[],by rw[St.gd];simp⟩,λ_=>St.cy _ (by omega)⟩
   . rw[St.gd,St.oq,ae (St.cy _ (by omega))];simp only;omega
   . rw[St.jH];simp only;omega
   . unfold St.fail;split <;> rfl
   exfalso;unfold St.fail at h;split at h <;> simp at h
 rename_i f
 rw[ae f];rw[St.dZ (show ({ g with op:=g.op+1 }:St).er=0 from c)] at b ⊢;refine⟨⟨b,?_,?_,λ_=>?_,λh=>absurd c h,j.2.2.2.2.2⟩,rfl,?_,⟨[],by simp⟩,λh=>h⟩
 . simp only[c,ag];omega
 . simp only;omega
 . simp only;omega
 simp only;omega
theorem ai.aI (h:Inv p g):ai p g g.aI:=by
 refine⟨⟨h.ok.aI,h.jN,?_,?_,h.bad,h.tok⟩,rfl,an _,⟨[],by simp[St.aI]⟩,λh=>h⟩
 . have:=h.dq;unfold St.aI;simp only;omega
 intro b;have:=h.kq b;unfold St.aI;simp only;omega
theorem ai.put (h:Inv (p+1) g)(e:Ex):ai p g (g.put e).1:=by refine⟨⟨h.ok.add e,?_,h.dq,h.kq,h.bad,h.tok⟩,rfl,an _,⟨[e],rfl⟩,λh=>h⟩;have:=h.jN;simp only[St.put,St.add,aP,bJ,cw];split at this <;> simp_all <;> omega
theorem cU.dj (h:cU M g p):ai p g (M g).1:=⟨h.af,h.src,h.ta,h.L,λe=>by rw[h.er e];exact e⟩
theorem cU.lP (b:g.er=0)(h:ai p g (M g).1)(f:(M g).1.op=g.op)(c:(M g).1.er=0->(M g).2<(M g).1.L.length):cU M g p :=
 ⟨h.af,f,h.src,h.ta,h.L,λe=>absurd b e,c⟩
theorem lw (g:St)(e:Ex):(g.put e).2<(g.put e).1.L.length:=by simp[St.put,St.add]
theorem nS {n:Nat}(h:et t n=true):2<=t.k:=by
 unfold et at h;split at h
 . cases h
 omega
theorem Ig (r:zv d part):∀(f p:Nat) (x:St×Nat),Inv p x.1->18<=x.1.op+d->(x.1.er=0->x.2<x.1.L.length) ->
 ai p x.1 (dx lv part f x).1/\(dx lv part f x).1.op=x.1.op/\((dx lv part f x).1.er=0->(dx lv part f x).2<(dx lv part f x).1.L.length)/\(x.1.er≠0->dx lv part f x=x):=by
 intro f;induction f with
 | zero=>intro p x h _ m;exact⟨ai.refl h,rfl,m,λ_=>rfl⟩
 | succ f s =>
   intro p x h q m
   show ai p x.1 (if _ then _ else x).1/\(if _ then _ else x).1.op=x.1.op/\((if _ then _ else x).1.er=0->(if _ then _ else x).2<(if _ then _ else x).1.L.length)/\(x.1.er≠0->(if _ then _ else x)=x);by_cases b:x.1.er=0/\et x.1.t lv=true
   . rw[ag b];have n:=ai.gj h b.1 (nS b.2);have i:=r x.1.ad (p+1) n.af (by rw[St.bQ];exact q);have o:=ai.put i.af ⟨x.1.t.s,x.1.t.a,0,[x.2,(part x.1.ad).2],sE,0⟩;have c:(((part x.1.ad).1.put ⟨x.1.t.s,x.1.t.a,0,[x.2,(part x.1.ad).2],sE,0⟩).1).op=x.1.op:=i.op.trans (St.bQ _);have j:=s p _ o.af (by rw[c];exact q) (λ_=>lw _ _);exact⟨((n.trans i.dj).trans o).trans j.1,j.2.1.trans c,j.2.2.1,λe=>absurd b.1 e⟩
   rw[ae b];exact⟨ai.refl h,rfl,m,λ_=>rfl⟩
theorem ib (h:zv d part):zv d (eo lv part):=by
 intro g p j i;have b:=h g p j i;have c:=Ig (lv:=lv) h 1300 p (part g) b.af (by rw[b.op];exact i) b.num;refine⟨c.1.af,c.2.1.trans b.op,c.1.src.trans b.src,aJ b.ta c.1.ta,(b.dj.trans c.1).L,λe=>?_,c.2.2.1⟩;have f:=b.er e
 show dx lv part 1300 (part g)=(g,_);rw[c.2.2.2 (by rw[f];exact e)];exact Prod.ext (by rw[f]) (by show _=(dx lv part 1300 (part g)).2;rw[c.2.2.2 (by rw[f];exact e)])
theorem yD (h:eh t=true):2<=t.k:=by simp[eh] at h;omega
theorem rS {sum:Fn}(j:zv d sum):zv d (ei sum):=by
 intro g p o m;have b:=j g p o m;by_cases c:(sum g).1.er=0/\eh (sum g).1.t=true
 . have e:ei sum g=(sum (sum g).1.ad).1.put ⟨(sum g).1.t.s,(sum g).1.t.a,0,[(sum g).2,(sum (sum g).1.ad).2],sE,0⟩:=by unfold ei;simp only;rw[ag c]
   have i:=ai.gj b.af c.1 (yD c.2);have h:=j _ (p+1) i.af (by rw[St.bQ,b.op];exact m);have n:=ai.put h.af ⟨(sum g).1.t.s,(sum g).1.t.a,0,[(sum g).2,(sum (sum g).1.ad).2],sE,0⟩;have f:g.er=0:=by
    by_cases f:g.er=0
    . exact f
    exact absurd c.1 (b.dj.er f)
   refine cU.lP f ?_ ?_ ?_
   . rw[e];exact ((b.dj.trans i).trans h.dj).trans n
   . rw[e];exact (h.op.trans (St.bQ _)).trans b.op
   rw[e];exact λ_=>lw _ _
 have e:ei sum g=sum g:=by unfold ei;simp only;rw[ae c]
 exact⟨by rw[e];exact b.af,by rw[e];exact b.op,by rw[e];exact b.src,by rw[e];exact b.ta,by rw[e];exact b.L,by rw[e];exact b.er,by rw[e];exact b.num⟩
end
section
variable {M b a:Fn} {d p:Nat} {st:St}
theorem cU.same {N:Fn}(h:cU N st p)(e:M st=N st):cU M st p :=
 ⟨by rw[e];exact h.af,by rw[e];exact h.op,by rw[e];exact h.src,by rw[e];exact h.ta,by rw[e];exact h.L,by rw[e];exact h.er,by rw[e];exact h.num⟩
theorem cU.k5 {f:St}{e:Ex}(g:st.er=0)(c:M st=f.put e)(h:ai (p+1) st f)(i:f.op=st.op):cU M st p:=by
 refine cU.lP g ?_ ?_ ?_
 . rw[c];exact h.trans (ai.put h.af e)
 . rw[c];exact i
 rw[c];exact λ_=>lw _ _
theorem rH (g:Xb)(n:Nat)(e:Inv p st)(c:st.er=0)(f:2<=st.t.k):cU (fK g n) st p :=
 cU.k5 c rfl (ai.gj e c f) (St.bQ _)
theorem xZ (e:Inv p st)(c:st.er=0)(f:2<=st.t.k):cU kc st p :=
 cU.k5 c rfl (ai.gj e c f) (St.bQ _)
theorem St.iw (st:St):st.aI.op=st.op-1:=rfl
theorem r4 {i co:Fn}(l:zv d i)(k:zv (d+1) co):zv (d+1) (dG i co):=by
 intro st p g n;by_cases c:st.er=0/\(st.is 4 [45]||st.is 5 [110,111,116])=true
 . have m:2<=st.t.k:=by
    rcases Bool.or_eq_true_iff.1 c.2 with h|h
    . have:=Inv.bP h;omega
    have:=Inv.bP h;omega
   have f:=ai.enter g c.1 m;have e:=l st.enter (p+1) f.af (by rw[St.bN];omega);have j:=ai.aI e.af;refine cU.k5 c.1 (by unfold dG;rw[ag c]) ((f.trans e.dj).trans j) ?_;rw[St.iw,e.op,St.bN];rfl
 exact (k st p g n).same (by unfold dG;rw[ae c])
theorem n5 (h:eu st=true):2<=st.t.k:=by
 rcases Bool.or_eq_true_iff.1 h with h|h
 . have:=Inv.bP h;omega
 have:=Inv.bP h;omega
theorem Hc:∀(f p:Nat) (x:St×Nat),Inv p x.1->(x.1.er=0->x.2<x.1.L.length) ->
 ai p x.1 (dk f x).1/\(dk f x).1.op=x.1.op/\((dk f x).1.er=0->(dk f x).2<(dk f x).1.L.length)/\(x.1.er≠0->dk f x=x):=by
 intro f;induction f with
 | zero=>intro p x g i;exact⟨ai.refl g,rfl,i,λ_=>rfl⟩
 | succ f n =>
   intro p x g i
   show ai p x.1 (if _ then _ else x).1/\(if _ then _ else x).1.op=x.1.op/\((if _ then _ else x).1.er=0->(if _ then _ else x).2<(if _ then _ else x).1.L.length)/\(x.1.er≠0->(if _ then _ else x)=x);by_cases c:x.1.er=0/\eu x.1=true
   . rw[ag c];have k:=ai.gj g c.1 (n5 c.2);have l:=ai.name k.af;have m:=ai.put l.af ⟨x.1.t.s,x.1.t.a,x.1.ad.t.a,[x.2],x.1.ad.t.s,0⟩;have j:((x.1.ad.name.put ⟨x.1.t.s,x.1.t.a,x.1.ad.t.a,[x.2],x.1.ad.t.s,0⟩).1).op=x.1.op:=(St.dB _).trans (St.bQ _);have h:=n p _ m.af (λ_=>lw _ _);exact⟨((k.trans l).trans m).trans h.1,h.2.1.trans j,h.2.2.1,λe=>absurd c.1 e⟩
   rw[ae c];exact⟨ai.refl g,rfl,i,λ_=>rfl⟩
theorem rG (i:zv d b):zv d (gR b):=by
 intro st p h j;have f:=i st p h j;have c:=Hc 1300 p (b st) f.af f.num;refine⟨c.1.af,c.2.1.trans f.op,c.1.src.trans f.src,aJ f.ta c.1.ta,(f.dj.trans c.1).L,λe=>?_,c.2.2.1⟩;have g:=f.er e
 show dk 1300 (b st)=(st,_);rw[c.2.2.2 (by rw[g];exact e)];exact Prod.ext (by rw[g]) (by show _=(dk 1300 (b st)).2;rw[c.2.2.2 (by rw[g];exact e)])
theorem IA (l:zv d a):∀(f p:Nat) (x:St×List Nat),Inv p x.1->18<=x.1.op+d->x.2.length<=x.1.t.a ->
 ai p x.1 (cY a f x).1/\(cY a f x).1.op=x.1.op/\(cY a f x).2.length<=(cY a f x).1.t.a:=by
 intro f;induction f with
 | zero=>intro p x c _ i;exact⟨ai.refl c,rfl,i⟩
 | succ f n =>
   intro p x c k i
   show ai p x.1 (if _ then _ else x).1/\(if _ then _ else x).1.op=x.1.op/\(if _ then _ else x).2.length<=(if _ then _ else x).1.t.a;by_cases g:x.1.er=0/\x.1.is 4 [44]=true
   . rw[ag g];have r:=Inv.bP g.2;have o:=ai.gj c g.1 (by omega);have m:x.1.t.a+1<=x.1.ad.t.a:=(by have:=c.tok (by omega);rw[St.dZ g.1];have q:=zV x.1.src x.1.t.t c.ok.tt;simp only;omega);have j:=ai.ad c;have e:=l x.1.ad p j.af (by rw[St.bQ];exact k);have h:=n p ((a x.1.ad).1,x.2++[(a x.1.ad).2]) e.af (by rw[e.op,St.bQ];exact k) (by have:=e.ta;simp only[aP,bJ,cw];omega);exact⟨(j.trans e.dj).trans h.1,h.2.1.trans (e.op.trans (St.bQ _)),h.2.2⟩
   rw[ae g];exact⟨ai.refl c,rfl,i⟩
theorem xQ (f:zv d a)(h:Inv p st)(g:18<=st.op+d)(i:1<=st.t.a):ai p st (cL a st).1/\(cL a st).1.op=st.op/\(cL a st).2.length<=(cL a st).1.t.a:=by have c:=f st p h g;have e:=IA f 1300 p ((a st).1,[(a st).2]) c.af (by rw[c.op];exact g) (by have:=c.ta;simp only[bJ,cw];omega);exact⟨c.dj.trans e.1,e.2.1.trans c.op,e.2.2⟩
theorem xY (m:zv d a)(t:Tk)(g:Inv p st)(j:st.er=0)(q:18<=st.op+(d+1))(n:1<=st.t.a):cU (a1 a t) st p:=by
 by_cases i:st.is 4 [40]=true
 . have o:=Inv.bP i;have c:=ai.enter g j (by omega);have f:=xQ m c.af (by rw[St.bN];omega) (aJ n c.ta);have k:=ai.ac f.1.af 4 [41];have l:=ai.aI k.af;refine cU.k5 j (by unfold a1;rw[ag i]) (((c.trans f.1).trans k).trans l) ?_;rw[St.iw,St.a8,f.2.1,St.bN];rfl
 have e:a1 a t st=(st.fail 2 st.t.a,0):=by unfold a1;rw[ae i]
 refine cU.lP j ?_ ?_ ?_
 . rw[e];exact ai.fail g (by omega) (by omega) g.ok.bR
 . rw[e];exact St.jH _ _ _
 rw[e];exact λh=>absurd h (St.cy st (by omega))
theorem Hw (g:zv d a)(q:Inv p st)(k:st.er=0)(r:2<=st.t.k)(s:18<=st.op+(d+1)):cU (fp a) st p:=by
 have h:=ai.enter q k r;have l:st.enter.op=st.op+1:=St.bN;have c:=g st.enter (p+1) h.af (by rw[l];omega);have i:=ai.ac c.af 5 [116,104,101,110];have m:((a st.enter).1.ac 5 [116,104,101,110]).op=st.op+1:=by rw[St.a8,c.op,l]
 have e:=g _ (p+1) i.af (by rw[m];omega);have j:=ai.ac e.af 5 [101,108,115,101];have n:((a ((a st.enter).1.ac 5 [116,104,101,110])).1.ac 5 [101,108,115,101]).op=st.op+1:=by rw[St.a8,e.op,m]
 have f:=g _ (p+1) j.af (by rw[n];omega);have o:=ai.aI f.af;refine cU.k5 k rfl ((((((h.trans c.dj).trans i).trans e.dj).trans j).trans f.dj).trans o) ?_;rw[St.iw,f.op,n];rfl
theorem pf (f:zv d b):zv d (bF b):=by
 intro st p c g;by_cases e:st.er≠0∨st.t.k≠2
 . exact (f st p c g).same (by unfold bF;rw[ag e])
 exact (xZ c (by omega) (by omega)).same (by unfold bF;rw[ae e])
theorem Is (i:zv d b)(l:Inv p st)(j:st.er=0)(m:2<=st.t.k)(n:18<=st.op+(d+1)):cU (fs b) st p:=by have g:=ai.enter l j m;have h:=ai.name g.af;have f:st.enter.name.op=st.op+1:=(St.dB _).trans St.bN;have c:=pf i st.enter.name (p+1) h.af (by rw[f];omega);have e:=pf i _ (p+1) c.af (by rw[c.op,f];omega);have k:=ai.aI e.af;refine cU.k5 j rfl ((((g.trans h).trans c.dj).trans e.dj).trans k) ?_;rw[St.iw,e.op,c.op,f];rfl
theorem IB (n:zv d a)(m:Inv p st)(k:st.er=0)(o:2<=st.t.k)(r:18<=st.op+(d+1)):cU (iM a) st p:=by
 have j:=ai.enter m k o;have e:=n st.enter (p+1) j.af (by rw[St.bN];omega);have f:=ai.ac e.af 4 [41];have l:=ai.aI f.af;have c:=((j.trans e.dj).trans f).trans l;refine cU.lP k ⟨⟨c.af.ok,?_,c.af.dq,c.af.kq,c.af.bad,c.af.tok⟩,c.src,c.ta,c.L,c.er⟩ ?_ ?_
 . exact aJ (Nat.add_le_add_left (Nat.le_succ p) _) c.af.jN
 . show ((a st.enter).1.ac 4 [41]).aI.op=_;rw[St.iw,St.a8,e.op,St.bN];rfl
 intro q;have g:((a st.enter).1.ac 4 [41]).er=0:=q;have i:(a st.enter).1.er=0:=by
  by_cases h:(a st.enter).1.er=0
  . exact h
  exact absurd g (f.er h)
 have:=e.num i
 show (a st.enter).2<((a st.enter).1.ac 4 [41]).aI.L.length
 show (a st.enter).2<((a st.enter).1.ac 4 [41]).L.length;rw[St.bi];exact this
theorem rT {q:Fn}(t:zv d a)(y:zv d q):zv (d+1) (aN a q):=by
 intro st p c B;by_cases f:st.er=0
 . have i:¬st.er≠0:=by omega
   have l:cU (λst=>(st.fail 2 st.t.a,0)) st p:=(by refine cU.lP f (ai.fail c (by omega) (by omega) c.ok.bR) (St.jH _ _ _) (λh=>absurd h (St.cy st (by omega))));by_cases g:st.t.k=3
   . exact (rH fJ st.t.n c f (by omega)).same (by unfold aN;rw[ae i,ag g])
   by_cases j:st.t.k=2
   . by_cases w:st.ad.is 4 [40]=true
     . have s:aN a q st=a1 a st.t st.ad:=(by unfold aN;rw[ae i,ae g,ag j,ag w]);have x:=ai.ad c;have v:1<=st.ad.t.a:=(by have:=c.tok (by omega);rw[St.dZ f];have A:=zV st.src st.t.t c.ok.tt;simp only;omega);have u:=xY t st.t x.af (by rw[St.ja];exact f) (by rw[St.bQ];omega) v;have z:=x.trans u.dj;refine cU.lP f ?_ ?_ ?_
       . rw[s];exact z
       . rw[s];exact u.op.trans (St.bQ _)
       rw[s];exact u.num
     exact (xZ c f (by omega)).same (by unfold aN;rw[ae i,ae g,ag j,ae w])
   by_cases k:st.is 4 [40]=true
   . exact (IB t c f (by have:=Inv.bP k;omega) (by omega)).same (by unfold aN;rw[ae i,ae g,ae j,ag k])
   by_cases m:st.is 5 [116,114,117,101]=true
   . exact (rH dl 1 c f (by have:=Inv.bP m;omega)).same (by unfold aN;rw[ae i,ae g,ae j,ae k,ag m])
   by_cases n:st.is 5 [102,97,108,115,101]=true
   . exact (rH dl 0 c f (by have:=Inv.bP n;omega)).same (by unfold aN;rw[ae i,ae g,ae j,ae k,ae m,ag n])
   by_cases o:st.is 5 [105,102]=true
   . exact (Hw t c f (by have:=Inv.bP o;omega) (by omega)).same (by unfold aN;rw[ae i,ae g,ae j,ae k,ae m,ae n,ag o])
   by_cases r:st.is 5 [109,101,114,103,101]=true
   . exact (Is y c f (by have:=Inv.bP r;omega) (by omega)).same (by unfold aN;rw[ae i,ae g,ae j,ae k,ae m,ae n,ae o,ag r])
   exact l.same (by unfold aN;rw[ae i,ae g,ae j,ae k,ae m,ae n,ae o,ae r])
 have e:aN a q st=(st,0):=by unfold aN;rw[ag f]
 exact⟨by rw[e];exact c,by rw[e],by rw[e],by rw[e];exact an _,⟨[],by rw[e];simp⟩,λ_=>by rw[e],λh=>by rw[e] at h;exact absurd h f⟩
theorem I0 {c:Fn}(m:zv d a)(k:zv (d+1) c):zv (d+1) (fe a c):=by
 intro st p l n;have e:=k st p l n;by_cases f:(c st).1.er=0/\(c st).1.is 5 [102,98,121]=true
 . have i:=ai.enter e.af f.1 (by have:=Inv.bP f.2;omega);have h:=m _ (p+1) i.af (by rw[St.bN,e.op];omega);have j:=ai.aI h.af;have g:st.er=0:=by
    by_cases g:st.er=0
    . exact g
    exact absurd f.1 (e.dj.er g)
   refine cU.k5 g (by unfold fe;simp only;rw[ag f]) (((e.dj.trans i).trans h.dj).trans j) ?_;rw[St.iw,h.op,St.bN,e.op];rfl
 exact e.same (by unfold fe;simp only;rw[ae f])
theorem pm:∀d,zv d (a6 d).ex/\zv d (a6 d).un/\zv d (a6 d).at':=by
 intro d;induction d with
 | zero =>
   have h:∀M:Fn,zv 0 M:=λM st p g i=>by have:=g.dq;omega
   exact⟨h _,h _,h _⟩
 | succ d c => have e:=rT c.1 c.2.2;have f:=r4 c.2.1 (rG e);exact⟨I0 c.1 (ib (ib (rS (ib (ib f))))),f,e⟩
end
section
variable {n:Nat} {t:Tk}
theorem Inv.len {p:Nat}{a:St}(h:Inv p a):a.L.length<=100000:=by have b:=h.jN;have c:=h.ok.bR;split at b <;> omega
def rem (a:St):Nat:=if a.er=0 then 1201-a.t.a else 0
def iH (x:Xu)(n:Nat):Bool:=if x=[111,114]∨x=[120,111,114] then n==0 else if x=[97,110,100] then n==1 else if x=[43]∨x=[45] then n==2 else if x=[42]∨x=[47]∨x=[37] then n==3 else false
theorem mi (a:t.k≠4/\t.k≠5):et t n=false:=by unfold et;rw[ag a]
theorem nJ (a:t.k=4∨t.k=5):et t n=iH t.s.toList n:=by unfold et;rw[ae (by omega)];rfl
end
section
open Go.RowKit
variable {L:List Ex} {b m a:Nat} {d l:Rw} {w j:Xw}
def dV (a:Nat)(F:Fx)(d:Rw)(w:Xw)(c:St)(r:Nat)(e:Ending)(j:Xw):Prop :=
 ∃l,e=.returned (xI r)/\zs j a F l c/\aV j (a+1) l c.L/\Ev a d l w j
theorem aV.fr (h:aV w (a+1) d L)(hF:Fr (·=a) w j):aV j (a+1) d L :=
 h.kept (λk e c=>hF.block k c (by omega))
theorem aV.alloc (h:aV w m d L)(o:Obj):aV (w.alloc o) m d L:=h.kept (λk _ c=>Below.heap_alloc w o k c)
theorem aV.ox (h:aV w (a+1) d L)(i:Nat)(v:Xv):aV (w.setCell (xD a i) v) (a+1) d L:=h.kept (λk c _=>Below.heap_setCell _ _ _ _ (by show k≠a;omega))
theorem aV.apart (h:aV w m d L){c:Xa}{e:Xy}{f:Nat×Nat}(u:w.heap[b]?=some (.cells c e f))(v:e≠190):d.v.ownBlock≠some b:=by
 obtain⟨_,r,_⟩:=h;intro i;rcases r.2 with ⟨k,_⟩|⟨g,o,p,k,_,n,_⟩
 . rw[k] at i;cases i
 rw[k] at i;have q:g=b:=by simpa [Value.ownBlock] using i
 rw[q,u] at n;injection n with s
 injection s with _ t
 exact v t
theorem Ev.alloc (o:Obj)(h:Ev a d l (w.alloc o) j):Ev a d l w j:=by
 obtain⟨h,E,e,f⟩:=h;refine⟨⟨⟨h.1.os,h.1.tape,h.1.output,?_,?_⟩,?_⟩,E,e,?_⟩
 . have:=h.1.size;simp at this;omega
 . intro k c g;exact (h.1.block k (by simp;omega) g).trans (Below.heap_alloc w o k c)
 . intro k c;rcases h.2 k c with h2|h2
   . exact ao h2
   simp at h2;exact ap (by omega)
 intro v i k c;have:=f v i k c;simp at this;omega
theorem Ev.jE (h:Ev a d l w j)(o:Obj):Ev a d l w (j.alloc o):=⟨⟨h.1.1.alloc o,h.1.2⟩,h.2⟩
theorem Ev.fr {c e:Xw}(h:Ev a d l w c)(k:Fr (·=a) c e):Ev a d l w e:=h.trans (Ev.bA k)
theorem Ev.cell (h:Ev a d l w j)(f:b<w.heap.size)(c:b≠a)(e:d.v.ownBlock≠some b):j.heap[b]?=w.heap[b]? :=
 h.1.1.block b f (λg=>g.elim c e)
def qA (a:Nat)(F:Fx)(d:Rw)(w:Xw)(c:St)(r:Nat)(f:Xv)(e:Ending)(j:Xw):Prop :=
 ∃g,e=.returned (xI r)/\zs j a F ⟨g,d.ah++[f]⟩ c/\aV j (a+1) ⟨g,d.ah++[f]⟩ c.L/\ir a d ⟨g,d.ah++[f]⟩ w j
theorem qA.post {F:Fx}{f:Rw}{n:Xw}{c:St}{r:Nat}{i:Xv}{e:Ending}(h:qA a F d w c r i e j)(z:Ev a f d n w)(g:∀k,i.ownBlock=some k->n.heap.size<=k):dV a F f n c r e j:=by
 obtain⟨A,t,u,x,y⟩:=h;obtain⟨p,E,q,s⟩:=z;refine⟨_,t,u,x,p.trans y,E++[i],by simp[q],?_⟩;intro v hv k o;rcases bj.1 hv with hv|hv
 . exact s v hv k o
 simp at hv;subst hv;exact g k o
theorem lE (a:Nat)(F:Fx)(d:Rw)(c:St)(e:Ex)(g:Xv)(w:Xw)(i:Xb)(n h:Int)(p:Xb)(o:Int)
 (q:i=e.op) (r:n=e.a) (s:h=e.nm) (t:p=e.s) (u:o=e.n)
 (f:c.L.length<=100000) (x:zs w a F d c) (y:aV w (a+1) d c.L) (v:w.ownsRow (a+1) 3 1 g e.ah.length (bK e.ah)) (k:g.oneCell'=true) :
 xK 283 #[xP a,.agg #[.string i,xI n,xI h,g,.string p,xI o]] w (qA a F d w (c.put e).1 (c.put e).2 g):=by
 subst q r s t u;exact Ec a F d c e g w f x y v k
theorem qx (a:Nat)(F:Fx)(d:Rw)(c:St)(p:Nat)(i:Xb)(v:Int)(n:Nat)(u:v=n)(w:Xw)(s:Inv p c)(q:zs w a F d c)(t:aV w (a+1) d c.L) :
 xK 314 #[xP a,.string i,xI v] w (dV a F d w (fK i n c).1 (fK i n c).2):=by
 obtain⟨M,N,O,P,Q,R,S,T,U,V,A,B,C,D,E⟩:=q.cells;have y:=za q;have z:=za t;have r:=za s;have x:=za u;clear q t s u;go_enter func314,ntmps314;go_wp2_with (go_at_call 147;refine (dH a F d c _ r.o.ok y.o).mono ?_;rintro e W ⟨rfl,h,g⟩;have o:=za h;have f:=za g;clear h g);refine (lE a F d c.ad ⟨i,c.t.a,0,[],sE,n⟩ _ _ _ _ _ _ _ rfl rfl rfl rfl x.o (by rw[St.bu];exact r.o.len) o.o (by rw[St.bu];exact z.o.fr f.o) (World.ownsRow_nil _ _ _ _) rfl).mono ?_;intro e X H;obtain⟨l,rfl,I,J,K⟩:=H.post (Ev.bA f.o) (λk G=>by cases G);go_wp2_with fail;go_ret;exact⟨l,rfl,I,J,K⟩
theorem L4 (n k:Nat):((n:Int)==(k:Int))=(n==k):=by rw[Bool.eq_iff_iff];simp;omega
theorem Ca (x:Xu):x=[111,114]∨x=[120,111,114]∨x=[97,110,100]∨x=[43]∨x=[45]∨x=[42]∨x=[47]∨x=[37]∨(x≠[111,114]/\x≠[120,111,114]/\x≠[97,110,100]/\x≠[43]/\x≠[45]/\x≠[42]/\x≠[47]/\x≠[37]):=by by_cases c:x=[111,114];simp[c];by_cases e:x=[120,111,114];simp[e];by_cases f:x=[97,110,100];simp[f];by_cases g:x=[43];simp[g];by_cases h:x=[45];simp[h];by_cases i:x=[42];simp[i];by_cases k:x=[47];simp[k];by_cases n:x=[37];simp[n];simp[*]
theorem ul (t:Tk)(n:Nat)(w:Xw):xK 303 #[.agg #[xI t.k,xI t.a,xI t.t,.string t.s,xI t.n],xI n] w λe j=>e=.returned (.bool (et t n))/\xB w j:=by
 by_cases hk:t.k≠4/\t.k≠5
 . have x:((t.k:Int) != 4)=true:=by simp;omega
   have y:((t.k:Int) != 5)=true:=(by simp;omega);have f:=za (mi (n:=n) hk);clear hk;go_enter func303,ntmps303;go_wp2;go_ret;exact⟨by rw[f.o];rfl,(Below.refl _ _).alloc (an _) _⟩
 have c:t.k=4∨t.k=5:=by omega
 have f:=za (nJ (n:=n) c);clear hk;have h:((t.k:Int) != 4)=false∨(((t.k:Int) != 4)=true/\((t.k:Int) != 5)=false):=by
  rcases c with hk|hk
  . left;simp;omega
  right;simp;omega
 clear c;have i:=Ca t.s.toList;rcases h with x|⟨x,y⟩
 all_goals
  rcases i with hx|hx|hx|hx|hx|hx|hx|hx|⟨k,o,p,q,r,s,u,v⟩
  all_goals first
   | (rw[hx] at f
      go_enter func303,ntmps303;go_wp2;go_ret;exact⟨by rw[f.o];simp[iH];try exact L4 n _,(Below.refl _ _).alloc (an _) _⟩)
   | (have g:aa (et t n=false):=by (rw[f.o];unfold iH;rw[ae (by simp[k,o]),ae p,ae (by simp[q,r]),ae (by simp[s,u,v])];rfl)
      have z:(t.s.toList==[111,114])=false:=bf.2 k;have A:(t.s.toList==[120,111,114])=false:=bf.2 o;have B:(t.s.toList==[97,110,100])=false:=bf.2 p;have C:(t.s.toList==[43])=false:=bf.2 q;have D:(t.s.toList==[45])=false:=bf.2 r;have E:(t.s.toList==[42])=false:=bf.2 s;have F:(t.s.toList==[47])=false:=bf.2 u;have G:(t.s.toList==[37])=false:=bf.2 v;clear k o p q r s u v f;go_enter func303,ntmps303;go_wp2;go_ret;exact⟨by rw[g.o];rfl,(Below.refl _ _).alloc (an _) _⟩)
end
section
open Go.RowKit
variable {F:Fx} {a:Nat} {c g:Rw} {s st:St} {w j:Xw}
def bY (d:Nat)(f:FuncId)(M:Fn):Prop:=∀(a:Nat) (F:Fx) (c:Rw) (st:St) (p:Nat) (w:Xw),Inv p st->18<=st.op+d->zs w a F c st->aV w (a+1) c st.L ->
 xK f #[xP a] w (dV a F c w (M st).1 (M st).2)
theorem uK {d b:Nat}(i:b=w.heap.size)(f:d<=b)(l:Xn)(k:l.length<=100000):(w.alloc (.cells (bK l).toArray 3)).ownsRow d 3 1 (xS b l.length l.length) l.length (bK l):=by subst i;have h:=World.ownsRow_lit w (base:=d) (e:=3) (size:=1) (bK l).toArray l.length f (by unfold maxLen;omega) (by simp[bK]);simpa using h
theorem zs.aI (h:zs w a F c st)(d:1<=st.op):zs (w.setCell (xD a 7) (xI ((st.op:Int)-1))) a F c st.aI:=by
 have b:=h.mU (st.op-1);have e:((st.op-1:Nat):Int)=(st.op:Int)-1:=by omega
 rw[e] at b;exact b
theorem cb (a:Nat)(F:Fx)(c:Rw)(st:St)(b:Int)(k:Nat)(f:b=k)(s:Xb)(l:Xu)(i:s.toList=l)(w:Xw)(d:zs w a F c st):xK 210 #[xP a,xI b,.string s] w λe m=>e=.returned (.bool (st.is k l))/\w=m :=
 (vk a F c st b k f s l i w d).mono (λ_ _ h=>⟨h.1,h.2.symm⟩)
theorem zs.Bd (h:zs w a F c st)(i:Nat)(v:Xv):a+1<=w.heap.size/\w.heap.size=(w.setCell (xD a i) v).heap.size:=⟨h.lt,by simp[World.setCell]⟩
theorem oa (e:Ex)(f:Xa)(n:Nat)(h:f=(bK e.ah).toArray)(C:n=e.ah.length)(l:n<=100000)(d:Xb)(m b:Int)(p:Xb)(o:Int)
 (t:d=e.op) (u:m=e.a) (v:b=e.nm) (x:p=e.s) (y:o=e.n) (D:1<=s.op) (i:s.L.length<=100000)
 (r:zs w a F c s) (A:aV w (a+1) c s.L) (q:Ev a g c j w) :
 xK 283 #[xP a,.agg #[.string d,xI m,xI b,xS w.heap.size n n,.string p,xI o]] ((w.setCell (xD a 7) (xI ((s.op:Int)-1))).alloc (.cells f 3)) (dV a F g j (s.aI.put e).1 (s.aI.put e).2):=by
 obtain⟨G,H⟩:=r.Bd 7 (xI ((s.op:Int)-1));subst h C;refine (lE a F c s.aI e _ _ d m b p o t u v x y i ((r.aI D).alloc _) ((A.ox _ _).alloc _) (uK H G e.ah l) rfl).mono ?_;intro I K E;have z:Fr (·=a) w ((w.setCell (xD a 7) (xI ((s.op:Int)-1))).alloc (.cells (bK e.ah).toArray 3)):=((Fr.refl _ w).aY _ _).alloc _;have J:=q.1.1.size;exact E.post (q.fr z) (λk B=>by simp[Value.ownBlock] at B;omega)
theorem qq (e:Ex)(f:Xa)(n:Nat)(h:f=(bK e.ah).toArray)(B:n=e.ah.length)(l:n<=100000)(d:Xb)(m b:Int)(p:Xb)(o:Int)
 (t:d=e.op) (u:m=e.a) (v:b=e.nm) (x:p=e.s) (y:o=e.n) (i:s.L.length<=100000)
 (r:zs w a F c s) (z:aV w (a+1) c s.L) (q:Ev a g c j w) :
 xK 283 #[xP a,.agg #[.string d,xI m,xI b,xS w.heap.size n n,.string p,xI o]] (w.alloc (.cells f 3)) (dV a F g j (s.put e).1 (s.put e).2):=by
 subst h B;refine (lE a F c s e _ _ d m b p o t u v x y i (r.alloc _) (z.alloc _) (uK rfl r.lt e.ah l) rfl).mono ?_;intro D G C;have E:=q.1.1.size;exact C.post (q.jE _) (λk A=>by simp[Value.ownBlock] at A;omega)
theorem CB {d:Nat}{o co:Fn}(S:bY d 307 o)(Q:zv d o)(R:bY (d+1) 309 co):bY (d+1) 307 (dG o co):=by
 intro a F c st p w D bL E O;have u:=cb a F c st 4 4 rfl ⟨#[45]⟩ [45] (by decide +kernel) w E;have v:=cb a F c st 5 5 rfl ⟨#[110,111,116]⟩ [110,111,116] (by decide +kernel) w E;obtain⟨h0,h1,h2,h3,h4,h5,h6,h7,h8,h9,be,bk,bl,bp,bs⟩:=E.cells;by_cases H:(st.is 4 [45]||st.is 5 [110,111,116])=true
 . have V:st.er=0:=by
    rcases Bool.or_eq_true_iff.1 H with h|h
    . exact D.gf (by omega) h
    exact D.gf (by omega) h
   have bE:2<=st.t.k:=by
    rcases Bool.or_eq_true_iff.1 H with h|h
    . have:=Inv.bP h;omega
    have:=Inv.bP h;omega
   have P:=ai.enter D V bE;have N:=Q st.enter (p+1) P.af (by rw[St.bN];omega);have G:dG o co st=(o st.enter).1.aI.put ⟨if st.is 4 [45]=true then kS else kR,st.t.a,0,[(o st.enter).2],sE,0⟩:=(by unfold dG;rw[ag ⟨V,H⟩]);rw[G];have y:1<=(o st.enter).1.op:=(by rw[N.op,St.bN];omega);have n:(o st.enter).1.L.length<=100000:=N.af.len;have a4:(o st.enter).1.op<=17:=N.af.dq;have bx:((st.er:Int) != 0)=false:=(by simp;omega);have M:=za D;have r:=za u;have t:=za v;have a0:=za E;have a3:=za O;have ar:=za P;have a2:=za (S a F c st.enter (p+1));clear G V u v E O N P D Q S R;generalize o st.enter=x at *;cases hm:st.is 4 [45] with
   | true => go_enter func307,ntmps307;go_wp2_with fail;refine r.o.mono ?_;rintro e L ⟨rfl,rfl⟩;go_wp2_with fail;refine t.o.mono ?_;rintro e L ⟨rfl,rfl⟩;go_wp2_with fail;refine (lA a F c st _ M.o.ok (by have:=M.o.dq;omega) a0.o).mono ?_;rintro e c0 ⟨rfl,l,k⟩;have A:=za l;have f:=za k;clear l k;go_wp2_with fail;refine (a2.o _ ar.o.af (by rw[St.bN];omega) A.o (by rw[St.dA];exact a3.o.fr f.o)).mono ?_;rintro e c1 ⟨al,rfl,b,m,i⟩;obtain⟨b0,b1,b2,b3,b4,ca,ck,cm,cn,cs,W,X,Y,Z,ak⟩:=b.cells;have cv:=b.frozen;have B:=za b;have C:=za m;have z:=za i;clear b m i;go_wp2_with fail;refine (oa ⟨kS,st.t.a,0,[x.2],sE,0⟩ _ _ rfl rfl (by simp) _ _ _ _ _ rfl rfl rfl rfl rfl y n B.o C.o ((Ev.bA f.o).trans z.o)).mono ?_;rintro e a5 ⟨q,rfl,I,J,K⟩;go_wp2_with fail;go_ret;exact⟨q,rfl,I,J,K⟩
   | false => have c2:st.is 5 [110,111,116]=true:=(by simpa [hm] using H);go_enter func307,ntmps307;go_wp2_with fail;refine r.o.mono ?_;rintro e L ⟨rfl,rfl⟩;go_wp2_with fail;refine t.o.mono ?_;rintro e L ⟨rfl,rfl⟩;go_wp2_with fail;refine (lA a F c st _ M.o.ok (by have:=M.o.dq;omega) a0.o).mono ?_;rintro e c0 ⟨rfl,l,k⟩;have A:=za l;have f:=za k;clear l k;go_wp2_with fail;refine (a2.o _ ar.o.af (by rw[St.bN];omega) A.o (by rw[St.dA];exact a3.o.fr f.o)).mono ?_;rintro e c1 ⟨al,rfl,b,m,i⟩;obtain⟨b0,b1,b2,b3,b4,ca,ck,cm,cn,cs,W,X,Y,Z,ak⟩:=b.cells;have cv:=b.frozen;have B:=za b;have C:=za m;have z:=za i;clear b m i;go_wp2_with fail;refine (oa ⟨kR,st.t.a,0,[x.2],sE,0⟩ _ _ rfl rfl (by simp) _ _ _ _ _ rfl rfl rfl rfl rfl y n B.o C.o ((Ev.bA f.o).trans z.o)).mono ?_;rintro e a5 ⟨q,rfl,I,J,K⟩;go_wp2_with fail;go_ret;exact⟨q,rfl,I,J,K⟩
 have bt:st.is 4 [45]=false/\st.is 5 [110,111,116]=false:=by cases h1:st.is 4 [45] <;> cases h2:st.is 5 [110,111,116] <;> simp_all
 obtain⟨T,U⟩:=bt;have G:dG o co st=co st:=by unfold dG;rw[ae (by rw[T,U];simp)]
 rw[G];have r:=za u;have t:=za v;have a9:=za (R a F c st p w D bL E O);clear G u v E O D Q S R H;go_enter func307,ntmps307;go_wp2_with fail;refine r.o.mono ?_;rintro e L ⟨rfl,rfl⟩;go_wp2_with fail;refine t.o.mono ?_;rintro e L ⟨rfl,rfl⟩;go_wp2_with fail;refine a9.o.mono ?_;rintro e a5 ⟨q,rfl,I,J,K⟩;go_wp2_with fail;go_ret;exact⟨q,rfl,I,J,K⟩
end
section
open Go.RowKit
variable {a:Fn} {d:Nat}
theorem C1 {b:Fn}(B:bY d 260 a)(R:zv d a)(Z:bY (d+1) 284 b)(Y:zv (d+1) b):bY (d+1) 260 (fe a b):=by
 intro E F xs c p w ak a0 hR al;have q:=Y c p ak a0;have s:=za (Z E F xs c p w ak a0 hR al);clear hR al Z Y;by_cases r:(b c).1.er=0/\(b c).1.is 5 [102,98,121]=true
 . obtain⟨T,ar⟩:=r;have Q:=ai.enter q.af T (by have:=Inv.bP ar;omega);have G:=R (b c).1.enter (p+1) Q.af (by rw[St.bN,q.op];omega);have z:fe a b c=(a (b c).1.enter).1.aI.put ⟨iO,(b c).1.t.a,0,[(b c).2,(a (b c).1.enter).2],sE,0⟩:=by unfold fe;simp only;rw[ag ⟨T,ar⟩]
   rw[z];have D:1<=(a (b c).1.enter).1.op:=(by rw[G.op,St.bN];omega);have a2:(a (b c).1.enter).1.op<=17:=G.af.dq;have o:(a (b c).1.enter).1.L.length<=100000:=G.af.len;have V:18<=(b c).1.enter.op+d:=(by rw[St.bN,q.op];omega);have U:(((b c).1.er:Int) != 0)=false:=(by simp;omega);have X:=za q.af;have a4:=za Q;clear z T q Q G R;generalize b c=x at *;generalize a3:a x.1.enter=y at *;have a5:=za a3;clear a3;go_enter func260,ntmps260;go_wp2_with fail;refine s.o.mono ?_;rintro e cn ⟨g,rfl,f,k,j⟩;obtain⟨a9,be,bk,bl,bp,bs,bt,bx,bE,bL,L,M,N,O,P⟩:=f.cells;have i:=za f;have n:=za k;have m:=za j;clear f k j;go_wp2_with fail;refine (cb E F g x.1 5 5 rfl ⟨#[102,98,121]⟩ [102,98,121] (by decide +kernel) _ i.o).mono ?_;rintro e w' ⟨rfl,rfl⟩;go_wp2_with fail;refine (lA E F g x.1 _ X.o.ok (by have:=X.o.dq;omega) i.o).mono ?_;rintro e em ⟨rfl,v,u⟩;have H:=za v;have t:=za u;clear v u;go_wp2_with fail;refine (B E F g x.1.enter (p+1) _ a4.o.af V H.o (by rw[St.dA];exact n.o.fr t.o)).mono ?_;rw[a5.o];rintro e eq ⟨cs,rfl,l,C,A⟩;obtain⟨cv,c0,c1,c2,c3,c4,c5,c9,dn,ds,b3,b4,ca,ck,cm⟩:=l.cells;have eb:=l.frozen;have I:=za l;have K:=za C;have J:=za A;clear l C A;go_wp2_with fail;refine (oa ⟨iO,x.1.t.a,0,[x.2,y.2],sE,0⟩ _ _ rfl rfl (by simp) _ _ _ _ _ rfl rfl rfl rfl rfl D o I.o K.o ((m.o.fr t.o).trans J.o)).mono ?_;rintro e er ⟨W,rfl,b0,b1,b2⟩;go_wp2_with fail;go_ret;exact⟨W,rfl,b0,b1,b2⟩
 have z:fe a b c=b c:=by unfold fe;simp only;rw[ae r]
 rw[z];have S:(b c).1.is 5 [102,98,121]=false∨((b c).1.is 5 [102,98,121]=true/\(((b c).1.er:Int) != 0)=true):=by
  cases h:(b c).1.is 5 [102,98,121] with
  | false=>exact ao rfl
  | true=>exact ap ⟨rfl,by have:¬(b c).1.er=0:=λh2=>r ⟨h2,h⟩;simp;omega⟩
 clear z r q R B;generalize b c=x at *;rcases S with r|⟨r,U⟩
 all_goals
  go_enter func260,ntmps260;go_wp2_with fail;refine s.o.mono ?_;rintro e cn ⟨g,rfl,f,k,j⟩;obtain⟨a9,be,bk,bl,bp,bs,bt,bx,bE,bL,L,M,N,O,P⟩:=f.cells;have i:=za f;have n:=za k;have m:=za j;clear f k j;go_wp2_with fail;refine (cb E F g x.1 5 5 rfl ⟨#[102,98,121]⟩ [102,98,121] (by decide +kernel) _ i.o).mono ?_;rintro e w' ⟨rfl,rfl⟩;go_wp2_with fail;go_ret;exact⟨g,rfl,i.o,n.o,m.o⟩
theorem Ct (g:bY d 260 a)(M:zv d a)(c:Nat)(F:Fx)(G:Rw)(b:St)(p:Nat)(w:Xw)(a3:Inv p b)(he:b.er=0)(c3:2<=b.t.k)(es:18<=b.op+(d+1))(hR:zs w c F G b)(bx:aV w (c+1) G b.L) :
 xK 315 #[xP c] w (dV c F G w (fp a b).1 (fp a b).2):=by
 have ar:=ai.enter a3 he c3;have a4:b.enter.op=b.op+1:=St.bN;have J:=M b.enter (p+1) ar.af (by rw[a4];omega);have a0:=ai.ac J.af 5 [116,104,101,110];have a5:((a b.enter).1.ac 5 [116,104,101,110]).op=b.op+1:=by rw[St.a8,J.op,a4]
 have K:=M _ (p+1) a0.af (by rw[a5];omega);have a2:=ai.ac K.af 5 [101,108,115,101];have a9:((a ((a b.enter).1.ac 5 [116,104,101,110])).1.ac 5 [101,108,115,101]).op=b.op+1:=by rw[St.a8,K.op,a5]
 have L:=M _ (p+1) a2.af (by rw[a9];omega);have bt:fp a b=(a ((a ((a b.enter).1.ac 5 [116,104,101,110])).1.ac 5 [101,108,115,101])).1.aI.put ⟨iz,b.t.a,0,[(a b.enter).2,(a ((a b.enter).1.ac 5 [116,104,101,110])).2,(a ((a ((a b.enter).1.ac 5 [116,104,101,110])).1.ac 5 [101,108,115,101])).2],sE,0⟩:=rfl;rw[bt];obtain⟨h0,h1,h2,h3,h4,h5,h6,h7,h8,h9,cs,cv,c0,c1,c2⟩:=hR.cells;have cm:=za hR;have cn:=za bx;have bs:=za a3;have b2:=za ar;have ca:=za J.af;have b3:=za a0;have ck:=za K.af;have b4:=za a2;clear hR bx a3 bt he ar J a0 K a2 M;have E:1<=(a ((a ((a b.enter).1.ac 5 [116,104,101,110])).1.ac 5 [101,108,115,101])).1.op:=by rw[L.op,a9];omega
 have bE:(a ((a ((a b.enter).1.ac 5 [116,104,101,110])).1.ac 5 [101,108,115,101])).1.op<=17:=L.af.dq;have h:(a ((a ((a b.enter).1.ac 5 [116,104,101,110])).1.ac 5 [101,108,115,101])).1.L.length<=100000:=L.af.len;have be:18<=b.enter.op+d:=by omega
 have bk:18<=((a b.enter).1.ac 5 [116,104,101,110]).op+d:=by omega
 have bl:18<=((a ((a b.enter).1.ac 5 [116,104,101,110])).1.ac 5 [101,108,115,101]).op+d:=by omega
 clear a4 a5 a9 L;generalize bL:a b.enter=x at *;generalize b0:a (x.1.ac 5 [116,104,101,110])=y at *;generalize b1:a (y.1.ac 5 [101,108,115,101])=z at *;have Z:=za bL;have ak:=za b0;have al:=za b1;clear bL b0 b1;go_enter func315,ntmps315;go_wp2_with fail;refine (lA c F G b _ bs.o.ok (by have:=bs.o.dq;omega) cm.o).mono ?_;rintro e go ⟨rfl,o,l⟩;have N:=za o;have i:=za l;clear o l;go_wp2_with fail;refine (g c F G b.enter (p+1) _ b2.o.af be N.o (by rw[St.dA];exact cn.o.fr i.o)).mono ?_;rw[Z.o];rintro e gs ⟨H,rfl,q,B,u⟩;have O:=za q;have W:=za B;have T:=za u;clear q B u;go_wp2_with fail;refine (cO c F H x.1 5 5 rfl ⟨#[116,104,101,110]⟩ [116,104,101,110] (by decide +kernel) _ ca.o.ok O.o).mono ?_;rintro e gt ⟨rfl,r,m⟩;have P:=za r;have j:=za m;clear r m;go_wp2_with fail;refine (g c F H _ (p+1) _ b3.o.af bk P.o (by rw[St.bi];exact W.o.fr j.o)).mono ?_;rw[ak.o];rintro e g0 ⟨I,rfl,s,C,v⟩;have Q:=za s;have X:=za C;have U:=za v;clear s C v;go_wp2_with fail;refine (cO c F I y.1 5 5 rfl ⟨#[101,108,115,101]⟩ [101,108,115,101] (by decide +kernel) _ ck.o.ok Q.o).mono ?_;rintro e g1 ⟨rfl,t,n⟩;have R:=za t;have k:=za n;clear t n;go_wp2_with fail;refine (g c F I _ (p+1) _ b4.o.af bl R.o (by rw[St.bi];exact X.o.fr k.o)).mono ?_;rw[al.o];rintro e g2 ⟨er,rfl,f,D,A⟩;obtain⟨ev,ex,fd,fq,fr,fv,fx,fV,gc,ge,dn,ds,eb,em,eq⟩:=f.cells;have gl:=f.frozen;have S:=za f;have Y:=za D;have V:=za A;clear f D A;go_wp2_with fail;refine (oa ⟨iz,b.t.a,0,[x.2,y.2,z.2],sE,0⟩ _ _ rfl rfl (by simp) _ _ _ _ _ rfl rfl rfl rfl rfl E h S.o Y.o ((((Ev.bA i.o).trans (T.o.fr j.o)).trans (U.o.fr k.o)).trans V.o)).mono ?_;rintro e g3 ⟨bp,rfl,c4,c5,c9⟩;go_wp2_with fail;go_ret;exact⟨bp,rfl,c4,c5,c9⟩
end
section
open Go.RowKit
variable {a:Fn} {b d:Nat} {t:Tk} {w:Xw}
def z8 (t:Tk):Obj:=.cells #[xI t.k,xI t.a,xI t.t,.string t.s,xI t.n] 270 (0,0)
theorem eY (h:w.heap[b]?=some (z8 t)):w.cell? (xD b 0)=some (xI t.k)/\w.cell? (xD b 1)=some (xI t.a)/\w.cell? (xD b 2)=some (xI t.t)/\w.cell? (xD b 3)=some (.string t.s)/\w.cell? (xD b 4)=some (xI t.n):=by simp[World.cell?,h,z8]
theorem pS (h:w.heap[b]?=some (z8 t))(i:Nat):w.frozen? (xD b i)=false:=by simp[World.frozen?,h,z8]
theorem Ev.box {f:Nat}{j g:Rw}{W i:Xw}(h:Ev f j g W i)(c:W.heap[b]?=some (z8 t))(l:b≠f){L:List Ex}(k:aV W (f+1) j L):i.heap[b]?=some (z8 t):=by
 have e:b<W.heap.size:=by
  rcases Nat.lt_or_ge b W.heap.size with h|h
  . exact h
  rw[Array.getElem?_eq_none h] at c;cases c
 rw[h.cell e l (k.apart c (by decide)),c]
theorem DQ (N:bY d 312 a):bY d 319 (bF a):=by
 intro u F G c p w r P i s;obtain⟨Y,Z,h2,h3,h4,h5,h6,h7,h8,h9,I,J,K,L,M⟩:=i.cells;have O:=i.lt;have R:¬w.heap.size=u:=by omega
 by_cases n:c.er≠0∨c.t.k≠2
 . have m:bF a c=a c:=by unfold bF;rw[ag n]
   rw[m];have z:((c.er:Int) != 0)=true∨(((c.er:Int) != 0)=false/\((c.t.k:Int) != 2)=true):=by
    by_cases H:c.er=0
    . right;refine⟨by simp;omega,?_⟩;have:c.t.k≠2:=by rcases n with h|h;omega;exact h
      simp;omega
    left;simp;omega
   have x:=za i;have y:=za s;have q:=za r;clear i s r m n;rcases z with o|⟨o,B⟩
   all_goals
    go_enter func319,ntmps319;go_wp2_with fail;refine (N u F G c p _ q.o P (x.o.alloc _) (y.o.alloc _)).mono ?_;rintro e S ⟨g,rfl,C,D,E⟩;go_wp2_with fail;go_ret;exact⟨g,rfl,C,D,E.alloc _⟩
 have H:c.er=0:=by omega
 have A:c.t.k=2:=by omega
 have m:bF a c=c.ad.put ⟨gQ,c.t.a,c.t.a,[],c.t.s,0⟩:=by unfold bF;rw[ae n];rfl
 rw[m];have o:((c.er:Int) != 0)=false:=by simp;omega
 have B:((c.t.k:Int) != 2)=false:=by simp;omega
 have x:=za i;have y:=za s;have q:=za r;have al:w.heap.size<w.heap.size+1:=by omega
 clear i s r m n H A;go_enter func319,ntmps319;go_wp2_with fail;refine (dH u F G c _ q.o.ok (x.o.alloc _)).mono ?_;rintro e ak ⟨rfl,l,f⟩;obtain⟨T,U,V,W,X⟩:=eY (t:=c.t) ((f.block w.heap.size (by simp) R).trans (zc w _));have v:=za l;have j:=za f;clear l f;go_wp2_with fail;refine (lE u F G c.ad ⟨gQ,c.t.a,c.t.a,[],c.t.s,0⟩ _ _ _ _ _ _ _ rfl rfl rfl rfl rfl (by rw[St.bu];exact q.o.len) v.o (by rw[St.bu];exact (y.o.alloc _).fr j.o) (World.ownsRow_nil _ _ _ _) rfl).mono ?_;intro e S Q;obtain⟨g,rfl,C,D,E⟩:=Q.post (Ev.bA j.o) (λk A=>by cases A);go_wp2_with fail;go_ret;exact⟨g,rfl,C,D,E.alloc _⟩
theorem CV (a4:bY d 319 (bF a))(V:zv d (bF a))(f:Nat)(F:Fx)(l:Rw)(c:St)(p:Nat)(w:Xw)(W:Inv p c)(he:c.er=0)(b4:2<=c.t.k)(ds:18<=c.op+(d+1))(X:zs w f F l c)(a5:aV w (f+1) l c.L) :
 xK 316 #[xP f] w (dV f F l w (fs a c).1 (fs a c).2):=by
 have T:=ai.enter W he b4;have U:=ai.name T.af;have Y:c.enter.name.op=c.op+1:=(St.dB _).trans St.bN;have H:=V c.enter.name (p+1) U.af (by rw[Y];omega);have Z:(bF a c.enter.name).1.op=c.op+1:=H.op.trans Y;have I:=V (bF a c.enter.name).1 (p+1) H.af (by rw[Z];omega);have a3:fs a c=(bF a (bF a c.enter.name).1).1.aI.put ⟨iL,c.t.a,c.enter.t.a,[(bF a c.enter.name).2,(bF a (bF a c.enter.name).1).2],c.enter.t.s,0⟩:=rfl;rw[a3];obtain⟨h0,h1,h2,h3,h4,h5,h6,h7,h8,h9,bL,b0,b1,b2,b3⟩:=X.cells;have E:1<=(bF a (bF a c.enter.name).1).1.op:=by rw[I.op,Z];omega
 have be:(bF a (bF a c.enter.name).1).1.op<=17:=I.af.dq;have k:(bF a (bF a c.enter.name).1).1.L.length<=100000:=I.af.len;have ak:18<=c.enter.name.op+d:=by omega
 have al:18<=(bF a c.enter.name).1.op+d:=by omega
 have bx:=za X;have bE:=za a5;have a2:=za W;have bp:=za T;have bs:=za U;have bt:=za H.af;clear X a5 W a3 he T U H I V Y Z;generalize bk:bF a c.enter.name=x at *;generalize bl:bF a x.1=y at *;have R:=za bk;have S:=za bl;clear bk bl;go_enter func316,ntmps316;go_wp2_with fail;refine (lA f F l c _ a2.o.ok (by have:=a2.o.dq;omega) bx.o).mono ?_;rintro e fx ⟨rfl,z,u⟩;have K:=za z;have m:=za u;clear z u;go_wp2_with fail;refine (e0 f F l c.enter _ bp.o.af.ok K.o).mono ?_;rintro e G ⟨rfl,h,v⟩;have a9:=h.lt;have n2:¬G.heap.size=f:=by omega
 have n3:¬f=G.heap.size:=by omega
 have L:=za h;have n:=za v;clear h v;go_wp2_with fail;have B:aV (G.alloc (z8 c.enter.t)) (f+1) l c.enter.name.L:=by rw[St.c8,St.dA];exact ((bE.o.fr m.o).fr n.o).alloc _
 have o:=za B;clear B;refine (a4 f F l c.enter.name (p+1) (G.alloc (z8 c.enter.t)) bs.o.af ak (L.o.alloc _) o.o).mono ?_;rw[R.o];rintro e fV ⟨ar,rfl,A,C,i⟩;have r:=i.box (zc G _) n2 o.o;have J:=za r;clear r;have M:=za A;have q:=za C;have O:=za i;clear A C i;go_wp2_with fail;refine (a4 f F ar x.1 (p+1) _ bt.o al M.o q.o).mono ?_;rw[S.o];rintro e gc ⟨c2,rfl,g,D,j⟩;have s:=j.box J.o n2 q.o;obtain⟨c3,c4,c5,c9,dn⟩:=eY s;obtain⟨eb,em,eq,er,es,ev,ex,fd,fq,fr,cn,cs,cv,c0,c1⟩:=g.cells;have fv:=g.frozen;clear s;have N:=za g;have Q:=za D;have P:=za j;clear g D j;go_wp2_with fail;refine (oa ⟨iL,c.t.a,c.enter.t.a,[x.2,y.2],c.enter.t.s,0⟩ _ _ rfl rfl (by simp) _ _ _ _ _ rfl rfl rfl rfl rfl E k N.o Q.o ((((Ev.bA m.o).fr n.o).trans (O.o.alloc _)).trans P.o)).mono ?_;rintro e ge ⟨a0,rfl,ca,ck,cm⟩;go_wp2_with fail;go_ret;exact⟨a0,rfl,ca,ck,cm⟩
end
end Go.Proofs.YtmfkofhgdjechaaGreatDoor
