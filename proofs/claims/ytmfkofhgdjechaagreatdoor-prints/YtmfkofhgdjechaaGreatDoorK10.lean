/- Part 11 of the proof: RefZ RefZ1 MdlD2 RefZ2. -/
import Derived.Deep.DeepCutAuto
import Derived.Test.YtmfkofhgdjechaaGreatDoorK09
set_option maxRecDepth 100000
set_option maxHeartbeats 8000000
namespace Go.Proofs.YtmfkofhgdjechaaGreatDoor
open Go.Proofs.Tryz
section
open Go.RowKit
variable {nm:ByteArray} {e:Ending} {eqs:List Eqn} {vars:List Vr} {N na rb:Nat} {q:Qw} {xs:Rw} {st st2:St} {nodes vs:Value} {w w' w2 wr:World}
structure zzn (rb N:Nat) (w w':World):Prop where
 os:w'.os=w.os
 tape:w'.tape=w.tape
 output:w'.output=w.output
 size:w.heap.size<=w'.heap.size
 block:∀k,k<N->k≠rb->w'.heap[k]?=w.heap[k]?
def zDA (N:Nat)(v:Value):Prop:=∀k,v.ownBlock=some k->N<=k
theorem zzn.trans {a b c:World}(h:zzn rb N a b)(k:zzn rb N b c):zzn rb N a c :=
 ⟨k.os.trans h.os,k.tape.trans h.tape,k.output.trans h.output,Nat.le_trans h.size k.size,λi hi hn=>(k.block i hi hn).trans (h.block i hi hn)⟩
theorem zzn.of_fr {S:Nat->Prop}(h:Fr S w w')(hN:N<=w.heap.size)(hS:∀k,k<N->S k->k=rb):zzn rb N w w' :=
 ⟨h.os,h.tape,h.output,h.size,λk hk hn=>h.block k (by omega) (λhs=>hn (hS k hk hs))⟩
theorem zym {base e size n:Nat}{v:Value}{l:List Value}(h:w.ownsRow base e size v n l)(hk:∀(k:Nat) (c:Array Value),base<=k->xH w k c e->w'.heap[k]?=w.heap[k]?):w'.ownsRow base e size v n l:=by
 refine zi h (λk hb _ hv=>?_);rcases h.2 with ⟨g1,_⟩|⟨g,cap,cur,g1,_,g2,_⟩
 . rw[g1] at hv;cases hv
 . rw[g1] at hv;have e1:g=k:=by simpa [Value.ownBlock] using hv
   rw[e1] at g2;exact hk k cur hb g2
structure NI (rb:Nat) (w:World) (nodes:Value) (wr:World) (st:St) (nm:ByteArray) (na:Nat) (vs:Value) (vars:List Vr) (xs:Rw) (q:Qw) (eqs:List Eqn):Prop where
 lies:zs wr rb ⟨nodes,nm,na,vs,q.v⟩ xs st
 vsr:zyh wr rb vs vars
 xsr:zx8 wr (rb+1) xs st.L
 qsr:zyH wr rb q eqs
 old:zzn rb w.heap.size w wr
 fv:zDA w.heap.size vs
 fx:zDA w.heap.size xs.v
 fq:zDA w.heap.size q.v
theorem NI.fr (h:NI rb w nodes wr st nm na vs vars xs q eqs)(hF:Fr (·=rb) wr w2)(hL:zs w2 rb ⟨nodes,nm,na,vs,q.v⟩ xs st2)(hx:st2.L=st.L):NI rb w nodes w2 st2 nm na vs vars xs q eqs :=
 ⟨hL,h.vsr.fr hF,by rw[hx];exact h.xsr.fr hF,h.qsr.kept (λk c e hb hc _=>hF.block k (zA hc) (by omega)),h.old.trans (zzn.of_fr hF h.old.size (λ_ _ h=>h)),h.fv,h.fx,h.fq⟩
theorem NI.postV {vars2:List Vr}(h:NI rb w nodes wr st nm na vs vars xs q eqs)(hP:zzp rb ⟨nodes,nm,na,vs,q.v⟩ xs wr st2 vars2 e w2)(hx:st2.L=st.L):e=.returned (.tuple #[])/\∃vs2,NI rb w nodes w2 st2 nm na vs2 vars2 xs q eqs:=by
 obtain⟨vs2,he,hL,hV,hF,hN⟩:=hP;have hne:∀{k:Nat} {c:Array Value} {e:TypeId},wr.heap[k]?=some (.cells c e (0,0))->181≠e->rb+1<=k->w2.heap[k]?=wr.heap[k]?:=by
  intro k c e hc h1 hb;refine hF.block k (zA hc) (λhs=>?_);rcases hs with hs|hs
  . omega
  . exact zyL h.vsr hc h1 hs
 have hz:=h.old.size;refine⟨he,vs2,hL,hV,?_,?_,?_,?_,h.fx,h.fq⟩
 . rw[hx];exact⟨h.xsr.1,zym h.xsr.2.1 (λk c hb hc=>hne hc (by decide) hb),λi e u hi hu=>zym (h.xsr.2.2 i e u hi hu) (λk c hb hc=>hne hc (by decide) hb)⟩
 . refine⟨h.qsr.1,zym h.qsr.2.1 (λk c hb hc=>hne hc (by decide) hb),λi e u hi hu=>⟨zym (h.qsr.2.2 i e u hi hu).1 (λk c hb hc=>hne hc (by decide) hb),zym (h.qsr.2.2 i e u hi hu).2 (λk c hb hc=>hne hc (by decide) hb)⟩⟩
 . refine h.old.trans (zzn.of_fr hF hz (λk hk hs=>?_));rcases hs with hs|hs
   . exact hs
   . have:=h.fv k hs;omega
 . intro k hk;rcases hN k hk with h1|h1
   . exact h.fv k h1
   . omega
theorem NI.postQ {eqs2:List Eqn}(h:NI rb w nodes wr st nm na vs vars xs q eqs)(hP:zCb rb ⟨nodes,nm,na,vs,q.v⟩ xs q wr st2 eqs2 e w2):e=.returned (.tuple #[])/\∃xs2 q2,NI rb w nodes w2 st2 nm na vs vars xs2 q2 eqs2:=by
 obtain⟨xs2,q2,he,hL,hX,hQ,hF,hN1,hN2⟩:=hP;have hz:=h.old.size;refine⟨he,xs2,q2,hL,?_,hX,hQ,?_,h.fv,?_,?_⟩
 . refine zym h.vsr (λk c hb hc=>hF.block k (zA hc) (λhs=>?_));rcases hs with hs|hs|hs
   . omega
   . exact h.xsr.apart hc (by decide) hs
   . exact zyL h.qsr.2.1 hc (by decide) hs
 . refine h.old.trans (zzn.of_fr hF hz (λk hk hs=>?_));rcases hs with hs|hs|hs
   . exact hs
   . have:=h.fx k hs;omega
   . have:=h.fq k hs;omega
 . intro k hk;rcases hN1 k hk with h1|h1
   . exact h.fx k h1
   . omega
 . intro k hk;rcases hN2 k hk with h1|h1
   . exact h.fq k h1
   . omega
end
section
open Go.RowKit
variable {nm:ByteArray} {eqs:List Eqn} {L:List Nd} {vars:List Vr} {na rb:Nat} {q:Qw} {xs:Rw} {st:St} {nodes vs:Value} {w w' wr:World}
structure Sub where
 vs:Value
 xs:Rw
 q:Qw
structure Nw where
 v:Value
 subs:List Sub
def zza (n:Nd)(s:Sub):List Value:=[.string n.nm,xI n.a,s.vs,s.xs.v,s.q.v]
def zyY:List Nd->List Sub->List Value
 | n::l,s::ss=>zza n s++zyY l ss
 | _,_=>[]
theorem zCC:∀(L:List Nd) (ss:List Sub) (n:Nd) (s:Sub),L.length=ss.length->zyY (L++[n]) (ss++[s])=zyY L ss++zza n s:=by
 intro L;induction L with
 | nil=>intro ss n s h;cases ss with
   | nil=>simp[zyY]
   | cons _ _=>simp at h
 | cons e0 L ih=>intro ss n s h;cases ss with
   | nil=>simp at h
   | cons p0 ss=>simp only[List.cons_append,zyY,ih ss n s (by simpa using h),List.append_assoc]
def zyT (w:World)(rb:Nat)(n:Nw)(L:List Nd):Prop :=
 L.length=n.subs.length/\w.ownsRow (rb+1) 103 5 n.v L.length (zyY L n.subs) /\
  ∀(i:Nat) (d:Nd) (s:Sub),L[i]?=some d->n.subs[i]?=some s->zyh w rb s.vs d.vars/\zx8 w (rb+1) s.xs d.exs/\zyH w rb s.q d.eqs
theorem zx8.kept' {L:List Ex}(h:zx8 w (rb+1) xs L)(hk:∀k,rb+1<=k->k<w.heap.size->w'.heap[k]?=w.heap[k]?):zx8 w' (rb+1) xs L:=h.kept hk
theorem zyT.old {n:Nw}(h:zyT w rb n L)(hO:zzn rb w.heap.size w w'):zyT w' rb n L:=by have hk:∀k,rb+1<=k->k<w.heap.size->w'.heap[k]?=w.heap[k]?:=λk h1 h2=>hO.block k h2 (by omega);refine⟨h.1,zi h.2.1 (λk h1 h2 _=>hk k h1 h2),λi d s hd hs=>?_⟩;obtain⟨g1,g2,g3⟩:=h.2.2 i d s hd hs;exact⟨zi g1 (λk h1 h2 _=>hk k h1 h2),g2.kept' hk,g3.kept (λk c e hb hc _=>hk k hb (zA hc))⟩
theorem NI.alloc (h:NI rb w nodes wr st nm na vs vars xs q eqs)(o:Obj):NI rb w nodes (wr.alloc o) st nm na vs vars xs q eqs :=
 h.fr ((Fr.refl _ _).alloc o) (h.lies.alloc o) rfl
theorem NI.setName (h:NI rb w nodes wr st nm na vs vars xs q eqs)(nm':ByteArray):NI rb w nodes (wr.setCell (xD rb 10) (.string nm')) st nm' na vs vars xs q eqs:=by have hF:Fr (·=rb) wr (wr.setCell (xD rb 10) (.string nm')):=(Fr.refl _ _).set1 _ _;exact⟨h.lies.setNm nm',h.vsr.fr hF,h.xsr.fr hF,h.qsr.kept (λk c e hb hc _=>hF.block k (zA hc) (by omega)),h.old.trans (zzn.of_fr hF h.old.size (λ_ _ h=>h)),h.fv,h.fx,h.fq⟩
theorem NI.setAt (h:NI rb w nodes wr st nm na vs vars xs q eqs)(na':Nat):NI rb w nodes (wr.setCell (xD rb 11) (xI na')) st nm na' vs vars xs q eqs:=by have hF:Fr (·=rb) wr (wr.setCell (xD rb 11) (xI na')):=(Fr.refl _ _).set1 _ _;exact⟨h.lies.setNat na',h.vsr.fr hF,h.xsr.fr hF,h.qsr.kept (λk c e hb hc _=>hF.block k (zA hc) (by omega)),h.old.trans (zzn.of_fr hF h.old.size (λ_ _ h=>h)),h.fv,h.fx,h.fq⟩
theorem NI.start {F:Fx}(h:zs w rb F xs st):NI rb w F.nodes (((((w.setCell (xD rb 10) (.string ⟨#[]⟩)).setCell (xD rb 11) (xI 0)).setCell (xD rb 12) (.slice none 0 0)).setCell (xD rb 13) (.slice none 0 0)).setCell (xD rb 14) (.slice none 0 0)) st.fresh ⟨#[]⟩ 0 (.slice none 0 0) [] ⟨.slice none 0 0,[]⟩ ⟨.slice none 0 0,[]⟩ []:=by have hF:Fr (·=rb) w (((((w.setCell (xD rb 10) (.string ⟨#[]⟩)).setCell (xD rb 11) (xI 0)).setCell (xD rb 12) (.slice none 0 0)).setCell (xD rb 13) (.slice none 0 0)).setCell (xD rb 14) (.slice none 0 0)):=(((((Fr.refl _ w).set1 _ _).set1 _ _).set1 _ _).set1 _ _).set1 _ _;refine⟨((((h.setNm ⟨#[]⟩).setNat 0).setVs (.slice none 0 0)).setXs (.slice none 0 0) []).setQs (.slice none 0 0),World.ownsRow_nil _ _ _ _,⟨rfl,World.ownsRow_nil _ _ _ _,λi e v hi=>by simp[St.fresh] at hi⟩,⟨rfl,World.ownsRow_nil _ _ _ _,λi e v hi=>by simp at hi⟩,zzn.of_fr hF (Nat.le_refl _) (λ_ _ h=>h),(λk hk=>by cases hk),(λk hk=>by cases hk),(λk hk=>by cases hk)⟩
def zDy (rb:Nat)(n:Nw)(w:World)(st':St)(L':List Nd)(e:Ending)(w':World):Prop :=
 ∃(F':Fx) (xs':Rw) (n':Nw),e=.returned (.tuple #[])/\F'.nodes=n'.v/\zs w' rb F' xs' st'/\zyT w' rb n' L'/\Fr (λk=>k=rb∨n.v.ownBlock=some k) w w'/\∀k,n'.v.ownBlock=some k->n.v.ownBlock=some k∨w.heap.size<=k
theorem Tryz.infoNd:(prog.info? 103).map (λi=>(i.zero,i.size,i.bytes))=some (some (.agg #[.string ⟨#[]⟩,xI 0,.slice none 0 0,.slice none 0 0,.slice none 0 0]),5,96):=by kernel_rfl
theorem zD0 {r17 r18:Fn}(f:Nat)(rb:Nat)(F:Fx)(xs:Rw)(n:Nw)(st:St)(nodes:List Nd)(p:Nat)(w:World)(_hI:Inv p st)(hfn:F.nodes=n.v)(hR:zs w rb F xs st)(hN:zyT w rb n nodes)(hl:6<=nodes.length) :
 xK 148 #[xP rb] w (zDy rb n w (zei r17 r18 f st nodes).1 (zei r17 r18 f st nodes).2):=by
 have hM:zei r17 r18 f st nodes=(st.fresh.fail 2 st.t.a,nodes):=by unfold zei;rw[if_pos hl]
 rw[hM];have HNI:=za (NI.start hR);obtain⟨h0,h1,h2,h3,h4,h5,h6,h7,h8,h9,h10,h11,h12,h13,h14⟩:=hR.cells;have hf:=hR.frozen;rcases hN.2.1.2 with ⟨_,h0'⟩|⟨g,cap,cur,hvs,hg,hh,hcap,hmx,_⟩
 . omega
 . rw[hfn,hvs] at h0;have hl':(6:Int)<=(nodes.length:Int):=by omega
   have HN:=za hN;have HFN:=za hfn;clear hR hN _hI hM hvs hh hcap hmx hl hfn;go_enter func148,ntmps148;go_wp2_with fail;refine (zzb rb _ _ st.fresh _ 2 st.t.a rfl _ HNI.o.lies).mono ?_;rintro e w1 ⟨rfl,hL1,hF1⟩;have hNI1:=HNI.o.fr hF1 hL1 (St.fail_L _ _ _);have hFr:Fr (·=rb) w w1:=((((((Fr.refl _ w).set1 _ _).set1 _ _).set1 _ _).set1 _ _).set1 _ _).trans hF1;have HNI1:=za hNI1;have HFr:=za hFr;clear hL1 hF1 hNI1 hFr;go_wp2_with fail;exact bodyPost_ret (results_none rfl _ _ _) rfl ⟨⟨F.nodes,⟨#[]⟩,0,.slice none 0 0,.slice none 0 0⟩,⟨.slice none 0 0,[]⟩,n,rfl,HFN.o,HNI1.o.lies,HN.o.old HNI1.o.old,HFr.o.mono (λ_ _ h=>Or.inl h),λ_ h=>Or.inl h⟩
theorem zC9 {n:Nw}{w9 w1:World}{nv:Value}{st':St}{v':Value}{B:Obj}
 (hK:NI rb w nv w9 st' nm na vs vars xs q eqs) (hN:zyT w9 rb n L) (hL:zs w1 rb ⟨nv,nm,na,vs,q.v⟩ xs st')
 (HOWN:w1.ownsRow (rb+1) 103 5 v' (L.length+1) (zyY L n.subs++zza ⟨nm,na,vars,st'.L,eqs⟩ ⟨vs,xs,q⟩)) (HG:(w9.alloc B).drew.grownBy w1 n.v.ownBlock) (HNEW:∀k,v'.ownBlock=some k->n.v.ownBlock=some k∨(w9.alloc B).drew.heap.size<=k) (_hlt:rb<w.heap.size) :
 ∃(F':Fx) (xs':Rw) (n':Nw),F'.nodes=n'.v/\zs (w1.setCell (xD rb 0) v') rb F' xs' st'/\zyT (w1.setCell (xD rb 0) v') rb n' (L++[⟨nm,na,vars,st'.L,eqs⟩])/\Fr (λk=>k=rb∨n.v.ownBlock=some k) w (w1.setCell (xD rb 0) v')/\∀k,n'.v.ownBlock=some k->n.v.ownBlock=some k∨w.heap.size<=k:=by
 have hz:=hK.old.size;have hne:∀{k:Nat} {c:Array Value} {e:TypeId},w9.heap[k]?=some (.cells c e (0,0))->103≠e->rb+1<=k->(w1.setCell (xD rb 0) v').heap[k]?=w9.heap[k]?:=by intro k c e hc h1 hb;rw[Below.heap_setCell _ _ _ _ (show k≠rb by omega)];have hc2:(w9.alloc B).drew.heap[k]?=w9.heap[k]?:=Below.heap_alloc w9 B k (zA hc);rw[HG.block k (zA (hc2.trans hc)) (λe2=>zyL (zyb hN.2.1 B) (hc2.trans hc) h1 e2.symm),hc2]
 have hV:∀{u:Value} {l:List Vr},zyh w9 rb u l->zyh (w1.setCell (xD rb 0) v') rb u l:=λh=>zym h (λk c hb hc=>hne hc (by decide) hb);have hXX:∀{u:Rw} {l:List Ex},zx8 w9 (rb+1) u l->zx8 (w1.setCell (xD rb 0) v') (rb+1) u l:=λh=>⟨h.1,zym h.2.1 (λk c hb hc=>hne hc (by decide) hb),λi e u hi hu=>zym (h.2.2 i e u hi hu) (λk c hb hc=>hne hc (by decide) hb)⟩;have hQQ:∀{u:Qw} {l:List Eqn},zyH w9 rb u l->zyH (w1.setCell (xD rb 0) v') rb u l:=λh=>⟨h.1,zym h.2.1 (λk c hb hc=>hne hc (by decide) hb),λi e u hi hu=>⟨zym (h.2.2 i e u hi hu).1 (λk c hb hc=>hne hc (by decide) hb),zym (h.2.2 i e u hi hu).2 (λk c hb hc=>hne hc (by decide) hb)⟩⟩;refine⟨⟨v',nm,na,vs,q.v⟩,xs,⟨v',n.subs++[⟨vs,xs,q⟩]⟩,rfl,hL.setNodes v',⟨by simp[hN.1],?_,?_⟩,?_,?_⟩
 . have h:=ownsRow_setCell_below HOWN (a:=(xD rb 0)) (Nat.lt_succ_self rb) v';rw[<- zCC _ _ _ _ hN.1] at h;simpa using h
 . intro i d s hi hs;simp only at hs;rcases Nat.lt_or_ge i L.length with hlt2|hge
   . rw[List.getElem?_append_left hlt2] at hi;rw[List.getElem?_append_left (by have:=hN.1;omega)] at hs;obtain⟨g1,g2,g3⟩:=hN.2.2 i d s hi hs;exact⟨hV g1,hXX g2,hQQ g3⟩
   . rw[List.getElem?_append_right hge] at hi;rw[List.getElem?_append_right (by have:=hN.1;omega)] at hs;have h0:i-L.length=0:=(by have:=(List.getElem?_eq_some_iff.1 hi).1;simp at this;omega);rw[h0] at hi;rw[<- hN.1,h0] at hs;simp at hi hs;subst hi hs;exact⟨hV hK.vsr,hXX hK.xsr,hQQ hK.qsr⟩
 . have h1:Fr (λk=>k=rb∨n.v.ownBlock=some k) w (w9.alloc B).drew:=((⟨hK.old.os,hK.old.tape,hK.old.output,hz,λk hk hn=>hK.old.block k hk (λe=>hn (Or.inl e))⟩:Fr (λk=>k=rb∨n.v.ownBlock=some k) w w9).alloc _).drew;have h2:Fr (λk=>k=rb∨n.v.ownBlock=some k) (w9.alloc B).drew w1:=⟨HG.os,HG.tape,HG.output,HG.size,λk hk hn=>HG.block k hk (λe=>hn (Or.inr e.symm))⟩;exact (h1.trans h2).setCell (Or.inl (Or.inl rfl)) v'
 . intro k hk;rcases HNEW k hk with h|h
   . exact Or.inl h
   . have h1:(w9.alloc B).drew.heap.size=w9.heap.size+1:=(by show (w9.heap.push B).size=_;simp);exact Or.inr (by omega)
end
section
variable {r17 r18:Fn} {f:Nat} {st:St} {R x8:St×List Eqn} {x3 x5 x6:St×List Vr}
structure zo4 (r17 r18:Fn) (f:Nat) (st:St) (x3 x5 x6:St×List Vr) (x8 R:St×List Eqn):Prop where
 h3:zab true (st.fresh.must 5 zW).name []=x3
 h5:zab false (x3.1.must 4 [45,62]) x3.2=x5
 h6:zaS f x5.1 x5.2=x6
 h8:zF r17 r18 (x6.1.must 4 [123]) []=x8
 hR:zd6 r17 r18 f x8=R
theorem zF5 {nodes:List Nd}(h:zo4 r17 r18 f st x3 x5 x6 x8 R)(hl:¬6<=nodes.length) :
 zei r17 r18 f st nodes=(R.1.must 4 [125],nodes++[⟨(st.fresh.must 5 zW).t.s,(st.fresh.must 5 zW).t.a,x6.2,(R.1.must 4 [125]).L,R.2⟩]):=by
 have e5:zaI st.fresh=x5:=by unfold zaI;simp only;rw[h.h3,h.h5]
 unfold zei zeO;rw[if_neg hl];simp only;rw[e5,h.h6,h.h8,h.hR]
structure zlN (st:St) (x3 x5 x6:St×List Vr) (x8 R:St×List Eqn):Prop where
 i0:Inv 0 st.fresh
 i1:Inv 0 (st.fresh.must 5 zW)
 i2:Inv 0 (st.fresh.must 5 zW).name
 i3:Inv 0 x3.1
 i4:Inv 0 (x3.1.must 4 [45,62])
 i5:Inv 0 x5.1
 i6:Inv 0 x6.1
 i7:Inv 0 (x6.1.must 4 [123])
 i8:Inv 0 x8.1
 iR:Inv 0 R.1
 o7:(x6.1.must 4 [123]).op=0
 o8:x8.1.op=0
 l3:x3.1.L=(st.fresh.must 5 zW).name.L
 l5:x5.1.L=(x3.1.must 4 [45,62]).L
 l6:x6.1.L=x5.1.L
theorem zkO (g17:zv 17 r17)(g18:zv 18 r18){p:Nat}(hI:Inv p st)(ho:st.op=0)(h:zo4 r17 r18 f st x3 x5 x6 x8 R):zlN st x3 x5 x6 x8 R:=by
 have i0:=Fwd.fresh hI;have i1:=(Fwd.must i0 5 zW).inv;have i2:=(Fwd.name i1).inv;have g3:=zbx (i:=true) (vars:=[]) i2;rw[h.h3] at g3;have i4:=(Fwd.must g3.1.inv 4 [45,62]).inv;have g5:=zbx (i:=false) (vars:=x3.2) i4;rw[h.h5] at g5;have g6:=zeP (f:=f) (vars:=x5.2) g5.1.inv;rw[h.h6] at g6;have i7:=(Fwd.must g6.1.inv 4 [123]).inv;have o7:(x6.1.must 4 [123]).op=0:=by rw[St.must_op,g6.2.1,g5.2.1,St.must_op,g3.2.1,St.name_op,St.must_op];exact ho
 have g8:=za1 g17 g18 (eqs:=[]) i7 o7;rw[h.h8] at g8;have o8:x8.1.op=0:=by rw[g8.2,o7]
 have gR:=zh4 g17 g18 f 0 x8 g8.1.inv o8;rw[h.hR] at gR;exact⟨i0,i1,i2,g3.1.inv,i4,g5.1.inv,g6.1.inv,i7,g8.1.inv,gR.1.inv,o7,o8,g3.2.2,g5.2.2,g6.2.2⟩
end
section
open Go.RowKit
theorem zFO {d:Nd}{s:Sub}(h1:s.vs.oneCell'=true)(h2:s.xs.v.oneCell'=true)(h3:s.q.v.oneCell'=true):∀u∈zza d s,u.oneCell'=true:=by
 intro u hu;simp only[zza,List.mem_cons,List.not_mem_nil,or_false] at hu;rcases hu with rfl|rfl|rfl|rfl|rfl
 . rfl
 . rfl
 . exact h1
 . exact h2
 . exact h3
theorem zFo {r17 r18:Fn}(h17:zyq 17 260 r17)(g17:zv 17 r17)(h18:zyq 18 260 r18)(g18:zv 18 r18)(f:Nat)(hf:f=1300)(rb:Nat)(F:Fx)(xs:Rw)(n:Nw)(st:St)(nodes:List Nd)(p:Nat)(w:World)(hI:Inv p st)(ho:st.op=0)(hfn:F.nodes=n.v)(hR:zs w rb F xs st)(hN:zyT w rb n nodes)(hl:¬6<=nodes.length)
 (x3 x5 x6:St×List Vr) (x8 R:St×List Eqn) (hS:zo4 r17 r18 f st x3 x5 x6 x8 R) :
 xK 148 #[xP rb] w (zDy rb n w (zei r17 r18 f st nodes).1 (zei r17 r18 f st nodes).2):=by
 rw[zF5 hS hl];have nf:=zkO g17 g18 hI ho hS;have HNI:=za (NI.start hR);obtain⟨h0,h1,h2,h3,h4,h5,h6,h7,h8,h9,h10,h11,h12,h13,h14⟩:=hR.cells;have hff:=hR.frozen;have hlt:=hR.lt;have hlen:∃ao cap,n.v=.slice ao nodes.length cap:=by
  rcases hN.2.1.2 with ⟨g1,g2⟩|⟨g,cap,cur,hvs,_⟩
  . exact⟨none,0,by rw[g1,g2]⟩
  . exact⟨_,cap,hvs⟩
 obtain⟨ao,vcap,hvs⟩:=hlen;rw[hfn,hvs] at h0;have hl':(nodes.length:Int)<6:=by omega
 have mxN:nodes.length+1<=maxLen:=by unfold maxLen;omega
 have byN:(nodes.length+1)*96<=140737488355328:=by omega
 obtain⟨iN,hiN,hzN0,hzN1,hzN2⟩:=info_parts Tryz.infoNd;have I0:=za nf.i0;have I1:=za nf.i1;have I2:=za nf.i2;have I3:=za nf.i3;have I4:=za nf.i4;have I5:=za nf.i5;have I6:=za nf.i6;have I7:=za nf.i7;have I8:=za nf.i8;have IR:=za nf.iR;have O7:=za nf.o7;have O8:=za nf.o8;have L3:=za nf.l3;have L5:=za nf.l5;have L6:=za nf.l6;have H3:=za hS.h3;have H5:=za hS.h5;have H6:=za hS.h6;have H8:=za hS.h8;have HR8:=za hS.hR;have LX8:Hid (x8.2.length=1):=by unfold Hid;rw[<- hS.h8];unfold zF;simp
 have HN:=za hN;have HFN:=za hfn;have HFF:=za hf;clear hR hN hI hvs hl hfn nf hS hf;go_enter func148,ntmps148;go_wp2_with fail;refine (zyc rb _ _ st.fresh 5 5 rfl ⟨#[110,111,100,101]⟩ zW (by decide +kernel) _ I0.o.ok HNI.o.lies).mono ?_;rintro e w1 ⟨rfl,hL1,hF1⟩;have HV1:=za (HNI.o.fr hF1 hL1 (St.must_L _ _ _));clear hL1 hF1;go_wp2_with fail;refine (zyr rb _ _ (st.fresh.must 5 zW) _ I1.o.ok HV1.o.lies).mono ?_;rintro e w2 ⟨rfl,hL2,hF2⟩;have HV2:=za ((((HV1.o.fr hF2 hL2 (St.name_L _)).setName (st.fresh.must 5 zW).t.s).setAt (st.fresh.must 5 zW).t.a).alloc (z8 (st.fresh.must 5 zW).t));obtain⟨b0,b1,b2,b3,b4,b5,b6,b7,b8,b9,b10,b11,b12,b13,b14⟩:=hL2.cells;have bf:=hL2.frozen;have hlt2:=hL2.lt;clear hL2 hF2;go_wp2_with fail;refine (zBs rb _ _ (st.fresh.must 5 zW).name [] 0 _ I2.o HV2.o.lies HV2.o.vsr true).mono ?_;rw[H3.o];intro e w3 hP3;obtain⟨rfl,vs3,hV3⟩:=HV2.o.postV hP3 L3.o;have HV3:=za hV3;clear hV3 hP3 b0 b1 b2 b3 b4 b5 b6 b7 b8 b9 b10 b11 b12 b13 b14 bf;go_wp2_with fail;refine (zyc rb _ _ x3.1 4 4 rfl ⟨#[45,62]⟩ [45,62] (by decide +kernel) _ I3.o.ok HV3.o.lies).mono ?_;rintro e w4 ⟨rfl,hL4,hF4⟩;have HV4:=za (HV3.o.fr hF4 hL4 (St.must_L _ _ _));clear hL4 hF4;go_wp2_with fail;refine (zBs rb _ _ (x3.1.must 4 [45,62]) x3.2 0 _ I4.o HV4.o.lies HV4.o.vsr false).mono ?_;rw[H5.o];intro e w5 hP5;obtain⟨rfl,vs5,hV5⟩:=HV4.o.postV hP5 L5.o;have HV5:=za hV5;clear hV5 hP5;go_wp2_with fail;refine (zya rb _ _ x5.1 5 5 rfl ⟨#[118,97,114]⟩ zi2 (by decide +kernel) _ HV5.o.lies).mono ?_;rintro e w' ⟨rfl,rfl⟩;go_upto_if 45 with fail;go_cut [3] (λ_ wy=>∃vs6,Hid (NI rb w F.nodes wy x6.1 (st.fresh.must 5 zW).t.s (st.fresh.must 5 zW).t.a vs6 x6.2 ⟨.slice none 0 0,[]⟩ ⟨.slice none 0 0,[]⟩ []));case first =>
  cases hvar:x5.1.is 5 zi2 with
  | false => have h6:x6=x5:=(by have h:=H6.o;unfold zaS at h;rw[if_neg (by rw[hvar];simp)] at h;exact h.symm);subst h6;go_wp2_with fail;go_meet;exact⟨vs5,HV5⟩
  | true =>
    have H6':Hid (zbA f (zaR x5.1.step x5.2)=x6):=(by have h:=H6.o;unfold zaS at h;rw[if_pos hvar] at h;exact h);have I5s:=za (Fwd.step I5.o).inv;go_wp2_with fail;refine (zyg rb _ _ x5.1 _ I5.o.ok HV5.o.lies).mono ?_;rintro e w5s ⟨rfl,hLs,hFs⟩;have HV5s:=za (HV5.o.fr hFs hLs (St.step_L _));clear hLs hFs;go_wp2_with fail;refine (zBX rb _ _ x5.1.step x5.2 0 _ I5s.o HV5s.o.lies HV5s.o.vsr).mono ?_;have g5:=zej (vars:=x5.2) I5s.o;have L5t:=za g5.2.2;have I5t:=za g5.1.inv;clear g5;generalize zaR x5.1.step x5.2=y5 at *;intro e w5t hPt;obtain⟨rfl,vs5t,hV5t⟩:=HV5s.o.postV hPt L5t.o;have HV5t:=za hV5t;clear hV5t hPt;go_wp2_with fail;go_loopg [63] f (λk _ wr=>∃(x:St×List Vr) (vs':Value),Hid (zbA k x=x6)/\rem x.1<k/\Hid (Inv 0 x.1)/\Hid (NI rb w F.nodes wr x.1 (st.fresh.must 5 zW).t.s (st.fresh.must 5 zW).t.a vs' x.2 ⟨.slice none 0 0,[]⟩ ⟨.slice none 0 0,[]⟩ []));case atStart => have hf:=HFF.o;refine⟨y5,vs5t,H6',?_,I5t,HV5t⟩;unfold rem;split <;> omega
    case round =>
     obtain⟨x,vs3v,HF,hrem,HI3,HV3v⟩:=hrel;obtain⟨a0,a1,a2,a3,a4,a5,a6,a7,a8,a9,a10,a11,a12,a13,a14⟩:=HV3v.o.lies.cells;obtain⟨f',rfl⟩:∃f',gk=f'+1:=⟨gk-1,by omega⟩;by_cases hc:x.1.er=0/\x.1.t.k=2
     . have he':((x.1.er:Int)==0)=true:=beq_iff_eq.2 (by omega);have hk':((x.1.t.k:Int)==2)=true:=beq_iff_eq.2 (by omega);have g4:=zej (vars:=x.2) HI3.o;have HF2:Hid (zbA f' (zaR x.1 x.2)=x6):=by
        have h:=HF.o;unfold Hid;rw[<- h]
        show _=(if x.1.er=0/\x.1.t.k=2 then _ else x);rw[if_pos hc]
       have hrem':Hid (rem (zaR x.1 x.2).1<f'):=by
        unfold Hid rem;have h1:rem x.1=1201-x.1.t.a:=(by unfold rem;rw[if_pos hc.1]);have h4:=g4.1.inv.ok.ta_le;have h5:=HI3.o.ok.ta_le;split
        . rename_i hz
          have h2:=zlj HI3.o hc.1 hz;omega
        . omega
       have HL4:=za g4.2.2;have HI4:=za g4.1.inv;have HQ4:=za (zBX rb _ _ x.1 x.2 0 wr HI3.o HV3v.o.lies HV3v.o.vsr);clear hc g4 HF;generalize zaR x.1 x.2=y at *;go_wp2_with fail;refine HQ4.o.mono ?_;intro e w5 hP5;obtain⟨rfl,vs5,hV5⟩:=HV3v.o.postV hP5 HL4.o;have HV5:=za hV5;clear hV5 hP5;go_wp2_with fail;go_roundg f';case measure=>omega
       case rel=>exact⟨y,vs5,HF2,hrem'.out,HI4,HV5⟩
     . have HF2:x=x6:=by
        have h:=HF.o;rw[<- h]
        show x=(if x.1.er=0/\x.1.t.k=2 then _ else x);rw[if_neg hc]
       subst HF2;have hcc:((x.1.er:Int)==0)=false∨(((x.1.er:Int)==0)=true/\((x.1.t.k:Int)==2)=false):=by
        by_cases he:x.1.er=0
        . exact Or.inr ⟨beq_iff_eq.2 (by omega),beq_eq_false_iff_ne.2 (λh=>hc ⟨he,by omega⟩)⟩
        . exact Or.inl (beq_eq_false_iff_ne.2 (by omega))
       clear hc HF;rcases hcc with hcc|⟨hcc,hck⟩;all_goals go_wp2_with fail
       all_goals go_meet
       all_goals exact⟨vs3v,HV3v⟩
 case rest =>
  obtain⟨vs6,HV6⟩:=hcut;go_wp2_with fail;refine (zyc rb _ _ x6.1 4 4 rfl ⟨#[123]⟩ [123] (by decide +kernel) _ I6.o.ok HV6.o.lies).mono ?_;rintro e w7 ⟨rfl,hL7,hF7⟩;have HV7:=za (HV6.o.fr hF7 hL7 (St.must_L _ _ _));clear hL7 hF7;go_wp2_with fail;refine (zAo h17 g17 h18 g18 rb _ _ ⟨.slice none 0 0,[]⟩ (x6.1.must 4 [123]) [] 0 _ I7.o O7.o (by simp) rfl HV7.o.lies HV7.o.xsr HV7.o.qsr).mono ?_;rw[H8.o];intro e w8 hP8;obtain⟨rfl,xs8,q8,hV8⟩:=HV7.o.postQ hP8;have HV8:=za hV8;clear hV8 hP8;go_wp2_with fail;go_loopg [79] f (λk _ wr=>∃(x:St×List Eqn) (xs':Rw) (q':Qw),Hid (zd6 r17 r18 k x=R)/\rem x.1<k/\x.2.length+k<=2000+1300/\Hid (Inv 0 x.1)/\Hid (x.1.op=0)/\Hid (NI rb w F.nodes wr x.1 (st.fresh.must 5 zW).t.s (st.fresh.must 5 zW).t.a vs6 x6.2 xs' q' x.2));case atStart =>
   have hf:=HFF.o;refine⟨x8,xs8,q8,HR8.o,?_,?_,I8.o,O8.o,HV8.o⟩
   . unfold rem;split <;> omega
   . have h:=LX8.o;omega
  case round =>
   obtain⟨x,xs3,q3,HF,hrem,hlen3,HI3,HO3,HV3⟩:=hrel;obtain⟨a0,a1,a2,a3,a4,a5,a6,a7,a8,a9,a10,a11,a12,a13,a14⟩:=HV3.o.lies.cells;obtain⟨f',rfl⟩:∃f',gk=f'+1:=⟨gk-1,by omega⟩;by_cases he:x.1.er=0
   . have he':((x.1.er:Int)==0)=true:=beq_iff_eq.2 (by omega);cases hcm:x.1.is 4 [125] with
     | false =>
       have g4:=za1 g17 g18 (eqs:=x.2) HI3.o HO3.o;have HF2:Hid (zd6 r17 r18 f' (zF r17 r18 x.1 x.2)=R):=by
        have h:=HF.o;unfold Hid;rw[<- h]
        show _=(if x.1.er=0/\x.1.is 4 [125]=false then _ else x);rw[if_pos ⟨he,hcm⟩]
       have hrem':Hid (rem (zF r17 r18 x.1 x.2).1<f'):=by
        unfold Hid rem;have h1:rem x.1=1201-x.1.t.a:=(by unfold rem;rw[if_pos he]);have h4:=g4.1.inv.ok.ta_le;have h5:=HI3.o.ok.ta_le;split
        . rename_i hz
          have h2:=ziF g17 g18 HI3.o HO3.o he hz;omega
        . omega
       have HL4:Hid ((zF r17 r18 x.1 x.2).2.length=x.2.length+1):=(by unfold Hid zF;simp);have HI4:=za g4.1.inv;have HO4:Hid ((zF r17 r18 x.1 x.2).1.op=0):=g4.2.trans HO3.o;have HQ4:=za (zAo h17 g17 h18 g18 rb _ _ q3 x.1 x.2 0 wr HI3.o HO3.o (by omega) rfl HV3.o.lies HV3.o.xsr HV3.o.qsr);clear he g4 HF;generalize zF r17 r18 x.1 x.2=y at *;go_wp2_with fail;refine (zya rb _ _ x.1 4 4 rfl ⟨#[125]⟩ [125] (by decide +kernel) _ HV3.o.lies).mono ?_;rintro e w' ⟨rfl,rfl⟩;go_wp2_with fail;refine HQ4.o.mono ?_;intro e w5 hP5;obtain⟨rfl,xs5,q5,hV5⟩:=HV3.o.postQ hP5;have HV5:=za hV5;clear hV5 hP5;go_wp2_with fail;go_roundg f';case measure=>omega
       case rel=>exact⟨y,xs5,q5,HF2.o,hrem'.out,by rw[HL4.o];omega,HI4,HO4,HV5⟩
     | true =>
       have HF2:Hid (R=x):=by
        have h:=HF.o;unfold Hid;rw[<- h]
        show (if x.1.er=0/\x.1.is 4 [125]=false then _ else x)=x;rw[if_neg (by rw[hcm];simp)]
       clear he HF;have hRx:=HF2.o;subst hRx;go_wp2_with fail;refine (zya rb _ _ R.1 4 4 rfl ⟨#[125]⟩ [125] (by decide +kernel) _ HV3.o.lies).mono ?_;rintro e w' ⟨rfl,rfl⟩;go_wp2_with fail;refine (zyc rb _ _ R.1 4 4 rfl ⟨#[125]⟩ [125] (by decide +kernel) _ IR.o.ok HV3.o.lies).mono ?_;rintro e w6 ⟨rfl,hL6,hF6⟩;have HV6z:=za (HV3.o.fr hF6 hL6 (St.must_L _ _ _));clear hL6 hF6;go_wp2_with fail;refine zn (λw9=>NI rb w F.nodes w9 (R.1.must 4 [125]) (st.fresh.must 5 zW).t.s (st.fresh.must 5 zW).t.a vs6 x6.2 xs3 q3 R.2/\zyT w9 rb n nodes) ⟨HV6z.o,HN.o.old HV6z.o.old⟩ ?_;rintro w9 ⟨hK9,hN9⟩;obtain⟨r0,r1,r2,r3,r4,r5,r6,r7,r8,r9,r10,r11,r12,r13,r14⟩:=hK9.lies.cells;rw[HFN.o] at r0;have rf:=hK9.lies.frozen;have hlt9:=hK9.lies.lt;have o1:=zyI hK9.vsr;have o2:=zyI hK9.xsr.2.1;have o3:=zyI hK9.qsr.2.1;have HK9:=za hK9;have HN9:=za hN9;clear hK9 hN9
       go_region_law (
        refine zJ _ rfl (.tmp 87) (.tmp 92) 104 rfl (rb+1) 103 iN _ 5 96 underlying104 hiN hzN0 hzN1 hzN2 rfl (by decide) n.v nodes.length (zyY nodes n.subs) rfl (zyb HN9.o.2.1 _) (xD w9.heap.size 0) 1 1 (zza ⟨(st.fresh.must 5 zW).t.s,(st.fresh.must 5 zW).t.a,x6.2,(R.1.must 4 [125]).L,R.2⟩ ⟨vs6,xs3,q3⟩) rfl rfl (zN (zyy w9 _) rfl) (zFO o1 o2 o3) mxN byN (zyM hlt9 _) ?_;intro v' w10 hown hgrow hnew;have HOWN:=za hown;have HNEW:=za hnew;have HG:=za hgrow;have hL10:=(HK9.o.lies.alloc _).drew.grown hgrow (zyB HN9.o.2.1 (Nat.lt_succ_self _));obtain⟨q0,q1,q2,q3,q4,q5,q6,q7,q8,q9,q10,q11,q12,q13,q14⟩:=hL10.cells;have qf:=hL10.frozen;have HL10:=za hL10;obtain⟨g,cap,rfl,hg⟩:=zM hown (by omega);clear hown hgrow hL10 hnew)
       all_goals go_wp2_with fail
       all_goals go_end0
       all_goals (obtain⟨F2,xs2,n2,z1,z2,z3,z4,z5⟩:=zC9 HK9.o HN9.o HL10.o HOWN.o HG.o HNEW.o hlt;exact⟨F2,xs2,n2,rfl,z1,z2,z3,z4,z5⟩)
   . have he':((x.1.er:Int)==0)=false:=beq_eq_false_iff_ne.2 (by omega);have HF2:Hid (R=x):=by
      have h:=HF.o;unfold Hid;rw[<- h]
      show (if x.1.er=0/\x.1.is 4 [125]=false then _ else x)=x;rw[if_neg (by simp[he])]
     clear he HF;have hRx:=HF2.o;subst hRx;go_wp2_with fail;refine (zyc rb _ _ R.1 4 4 rfl ⟨#[125]⟩ [125] (by decide +kernel) _ IR.o.ok HV3.o.lies).mono ?_;rintro e w6 ⟨rfl,hL6,hF6⟩;have HV6z:=za (HV3.o.fr hF6 hL6 (St.must_L _ _ _));clear hL6 hF6;go_wp2_with fail;refine zn (λw9=>NI rb w F.nodes w9 (R.1.must 4 [125]) (st.fresh.must 5 zW).t.s (st.fresh.must 5 zW).t.a vs6 x6.2 xs3 q3 R.2/\zyT w9 rb n nodes) ⟨HV6z.o,HN.o.old HV6z.o.old⟩ ?_;rintro w9 ⟨hK9,hN9⟩;obtain⟨r0,r1,r2,r3,r4,r5,r6,r7,r8,r9,r10,r11,r12,r13,r14⟩:=hK9.lies.cells;rw[HFN.o] at r0;have rf:=hK9.lies.frozen;have hlt9:=hK9.lies.lt;have o1:=zyI hK9.vsr;have o2:=zyI hK9.xsr.2.1;have o3:=zyI hK9.qsr.2.1;have HK9:=za hK9;have HN9:=za hN9;clear hK9 hN9
     go_region_law (
      refine zJ _ rfl (.tmp 87) (.tmp 92) 104 rfl (rb+1) 103 iN _ 5 96 underlying104 hiN hzN0 hzN1 hzN2 rfl (by decide) n.v nodes.length (zyY nodes n.subs) rfl (zyb HN9.o.2.1 _) (xD w9.heap.size 0) 1 1 (zza ⟨(st.fresh.must 5 zW).t.s,(st.fresh.must 5 zW).t.a,x6.2,(R.1.must 4 [125]).L,R.2⟩ ⟨vs6,xs3,q3⟩) rfl rfl (zN (zyy w9 _) rfl) (zFO o1 o2 o3) mxN byN (zyM hlt9 _) ?_;intro v' w10 hown hgrow hnew;have HOWN:=za hown;have HNEW:=za hnew;have HG:=za hgrow;have hL10:=(HK9.o.lies.alloc _).drew.grown hgrow (zyB HN9.o.2.1 (Nat.lt_succ_self _));obtain⟨q0,q1,q2,q3,q4,q5,q6,q7,q8,q9,q10,q11,q12,q13,q14⟩:=hL10.cells;have qf:=hL10.frozen;have HL10:=za hL10;obtain⟨g,cap,rfl,hg⟩:=zM hown (by omega);clear hown hgrow hL10 hnew)
     all_goals go_wp2_with fail
     all_goals go_end0
     all_goals (obtain⟨F2,xs2,n2,z1,z2,z3,z4,z5⟩:=zC9 HK9.o HN9.o HL10.o HOWN.o HG.o HNEW.o hlt;exact⟨F2,xs2,n2,rfl,z1,z2,z3,z4,z5⟩)
end
end Go.Proofs.YtmfkofhgdjechaaGreatDoor
