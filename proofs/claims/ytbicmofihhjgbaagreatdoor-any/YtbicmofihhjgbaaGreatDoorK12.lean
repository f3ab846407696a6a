/- Part 13 of the proof: TreA MdlF RunA RunB RunC. -/
import Derived.Test.YtbicmofihhjgbaaGreatDoorK11
set_option maxRecDepth 100000
set_option maxHeartbeats 8000000
namespace Go.Proofs.YtbicmofihhjgbaaGreatDoor
open Go.Proofs.Tryz
section
open Go.RowKit
variable {L:List Ex} {xs:List Value} {B N:Nat} {v:Value} {w w':World}
inductive Tm where
 | mk (k a:Nat) (s:ByteArray) (nm n:Nat) (as':List Tm)
def Tm.k:Tm->Nat|.mk k _ _ _ _ _=>k
def Tm.a:Tm->Nat|.mk _ a _ _ _ _=>a
def Tm.s:Tm->ByteArray|.mk _ _ s _ _ _=>s
def Tm.nm:Tm->Nat|.mk _ _ _ nm _ _=>nm
def Tm.n:Tm->Nat|.mk _ _ _ _ n _=>n
def Tm.ts:Tm->List Tm|.mk _ _ _ _ _ l=>l
inductive zeA (L:List Ex):Nat->Tm->Prop
 | mk (x:Nat) (ex:Ex) (ts:List Tm) (hx:L[x]?=some ex) (hl:ts.length=ex.ins.length) (hr:∀(i y:Nat) (t:Tm),ex.ins[i]?=some y->ts[i]?=some t->zeA L y t) :
    zeA L x (.mk (zag ex.op.toList ex.n) ex.a ex.s ex.nm (zbF ex.op.toList ex.n) ts)
inductive TT (w:World) (N:Nat):Tm->Value->Prop
 | mk (k a:Nat) (s:ByteArray) (nm n:Nat) (ts:List Tm) (b:Nat) (args:Value) (vs:List Value) (hN:b<N)
    (hb:xH w b #[xI k,xI a,.string s,xI nm,xI n,args] 226)
    (ha:w.ownsRow 0 182 1 args vs.length vs) (hg:∀g,args.ownBlock=some g->g<N) (hl:vs.length=ts.length)
    (hr:∀(i:Nat) (t:Tm) (v:Value),ts[i]?=some t->vs[i]?=some v->TT w N t v):TT w N (.mk k a s nm n ts) (xP b)
theorem TT.old {t:Tm}(h:TT w N t v)(ho:Old N w w'):TT w' N t v:=by
 induction h with
 | mk k a s nm n ts b args vs hN hb ha hg hl _ ih => exact TT.mk k a s nm n ts b args vs hN ((ho b hN).trans hb) (zi ha (λg _ _ e=>ho g (hg g e))) hg hl ih
theorem zjR {P:Nat->Tm->Value->Prop}:∀(ins:List Nat) (vs:List Value),vs.length=ins.length->(∀(i y:Nat) (v:Value),ins[i]?=some y->vs[i]?=some v->∃t,P y t v)->∃ts:List Tm,ts.length=ins.length/\∀(i y:Nat) (t:Tm) (v:Value),ins[i]?=some y->ts[i]?=some t->vs[i]?=some v->P y t v:=by
 intro ins;induction ins with
 | nil=>intro vs _ _;exact⟨[],rfl,λi y t v h=>by simp at h⟩
 | cons y ins ih =>
   intro vs hl h;cases vs with
   | nil=>simp at hl
   | cons v vs =>
     obtain⟨t,ht⟩:=h 0 y v rfl rfl;obtain⟨ts,h1,h2⟩:=ih vs (by simpa using hl) (λi y v hy hv=>h (i+1) y v (by simpa using hy) (by simpa using hv));refine⟨t::ts,by simp[h1],λi y' t' v' hy ht' hv=>?_⟩;cases i with
     | zero=>simp at hy ht' hv;subst hy ht' hv;exact ht
     | succ i=>exact h2 i y' t' v' (by simpa using hy) (by simpa using ht') (by simpa using hv)
theorem TR.tree {x:Nat}(h:TR w B L x v):∃t,zeA L x t/\TT w w.heap.size t v:=by
 induction h with
 | mk x ex b args vs hx hB hb ha hl _ ih =>
   obtain⟨ts,h1,h2⟩:=zjR (P:=λy t v=>zeA L y t/\TT w w.heap.size t v) ex.ins vs hl ih;have hv:∀i t,ts[i]?=some t->∃y v,ex.ins[i]?=some y/\vs[i]?=some v:=λi t ht=>by have hi:=(List.getElem?_eq_some_iff.1 ht).1;exact⟨_,_,zsc (by omega),zsc (by omega)⟩
   refine⟨.mk (zag ex.op.toList ex.n) ex.a ex.s ex.nm (zbF ex.op.toList ex.n) ts,zeA.mk x ex ts hx h1 (λi y t hy ht=>?_),TT.mk _ _ _ _ _ ts b args vs (ze hb) hb (zR ha (Nat.zero_le _)) (λg e=>(ha.lt g e).2) (by omega) (λi t v ht hv'=>?_)⟩
   . obtain⟨y',v,e1,e2⟩:=hv i t ht;exact (h2 i y t v hy ht e2).1
   . obtain⟨y',v',e1,e2⟩:=hv i t ht;exact (h2 i y' t v e1 ht hv').2
structure Qn where
 ns:List ByteArray
 ps:List Nat
 a:Nat
 r:Tm
structure Nod where
 nm:ByteArray
 a:Nat
 vars:List Vr
 ins:Nat
 outs:Nat
 eqs:List Qn
def zcU (w:World)(N:Nat):List Qn->List Value->Prop
 | [],xs=>xs=[]
 | q::qs,xs=>∃lv v ys,xs=lv::(xI q.a)::v::ys/\w.ownsRow 0 117 2 lv q.ns.length (nmC q.ns q.ps)/\(∀g,lv.ownBlock=some g->g<N)/\TT w N q.r v/\zcU w N qs ys
theorem zcU.old (ho:Old N w w'):∀{qs:List Qn} {xs:List Value},zcU w N qs xs->zcU w' N qs xs:=by
 intro qs;induction qs with
 | nil=>intro xs h;exact h
 | cons q qs ih => rintro xs ⟨lv,v,ys,h1,h2,h3,h4,h5⟩;exact⟨lv,v,ys,h1,zi h2 (λg _ _ e=>ho g (h3 g e)),h3,h4.old ho,ih h5⟩
structure NT (w:World) (N:Nat) (n:Nod) (nb:Nat) (vs ev:Value) (xs:List Value):Prop where
 blk:xH w nb #[.string n.nm,xI n.a,vs,xI n.ins,xI n.outs,ev] 121
 lo:nb<N
 vown:w.ownsRow 0 134 7 vs n.vars.length (zb0 n.vars)
 vlo:∀g,vs.ownBlock=some g->g<N
 own:w.ownsRow 0 184 3 ev n.eqs.length xs
 elo:∀g,ev.ownBlock=some g->g<N
 eqs:zcU w N n.eqs xs
 few:n.vars.length<=16
theorem NT.old {n:Nod}{nb:Nat}{vs ev:Value}(h:NT w N n nb vs ev xs)(ho:Old N w w'):NT w' N n nb vs ev xs :=
 ⟨(ho _ h.lo).trans h.blk,h.lo,zi h.vown (λg _ _ e=>ho g (h.vlo g e)),h.vlo,zi h.own (λg _ _ e=>ho g (h.elo g e)),h.elo,h.eqs.old ho,h.few⟩
def NP (w:World)(N:Nat)(n:Nod)(v:Value):Prop:=∃nb vs ev xs,v=xP nb/\NT w N n nb vs ev xs
theorem NP.old {n:Nod}(h:NP w N n v)(ho:Old N w w'):NP w' N n v:=by obtain⟨nb,vs,ev,xs,h0,h⟩:=h;exact⟨nb,vs,ev,xs,h0,h.old ho⟩
structure NL (w:World) (N:Nat) (ns:List Nod) (gv:Value) (xs:List Value):Prop where
 own:w.ownsRow 0 90 1 gv ns.length xs
 lo:∀g,gv.ownBlock=some g->g<N
 at':∀(i:Nat) (n:Nod),ns[i]?=some n->∃v,xs[i]?=some v/\NP w N n v
 few:ns.length<=6
theorem NL.old {ns:List Nod}{gv:Value}(h:NL w N ns gv xs)(ho:Old N w w'):NL w' N ns gv xs :=
 ⟨zi h.own (λg _ _ e=>ho g (h.lo g e)),h.lo,λi n hi=>by obtain⟨v,h1,h2⟩:=h.at' i n hi;exact⟨v,h1,h2.old ho⟩,h.few⟩
def PT (w:World)(N:Nat)(ns:List Nod)(v:Value):Prop:=∃gb gv xs,v=xP gb/\gb<N/\w.heap[gb]?=some (.cells #[gv] 89 (0,0))/\NL w N ns gv xs
theorem PT.old {ns:List Nod}(h:PT w N ns v)(ho:Old N w w'):PT w' N ns v:=by obtain⟨gb,gv,xs,h0,h1,h2,h3⟩:=h;exact⟨gb,gv,xs,h0,h1,(ho _ h1).trans h2,h3.old ho⟩
structure zrJ (L:List Ex) (q:Eqn) (q':Qn):Prop where
 ns:q'.ns=q.ns
 ps:q'.ps=q.ps
 a:q'.a=q.a
 r:zeA L q.ex q'.r
def zge (L:List Ex):List Eqn->List Qn->Prop
 | [],qs=>qs=[]
 | q::l,qs=>∃q' l',qs=q'::l'/\zrJ L q q'/\zge L l l'
theorem zge.len:∀{l:List Eqn} {qs:List Qn},zge L l qs->qs.length=l.length:=by
 intro l;induction l with
 | nil=>rintro qs rfl;rfl
 | cons q l ih=>rintro qs ⟨q',l',rfl,_,h⟩;simp[ih h]
structure zo6 (nd:Nd) (n:Nod):Prop where
 nm:n.nm=nd.nm
 a:n.a=nd.a
 vars:n.vars=nd.vars
 ins:n.ins=nd.ins
 outs:n.outs=nd.outs
 eqs:zge nd.exs nd.eqs n.eqs
def ze5:List Nd->List Nod->Prop
 | [],ns=>ns=[]
 | d::l,ns=>∃n l',ns=n::l'/\zo6 d n/\ze5 l l'
theorem ze5.len:∀{l:List Nd} {ns:List Nod},ze5 l ns->ns.length=l.length:=by
 intro l;induction l with
 | nil=>rintro ns rfl;rfl
 | cons q l ih=>rintro ns ⟨q',l',rfl,_,h⟩;simp[ih h]
theorem zno:∀{qs:List Eqn} {xs:List Value},ze0 L w B qs xs->∃qs',zge L qs qs'/\zcU w w.heap.size qs' xs:=by
 intro qs;induction qs with
 | nil=>intro xs h;exact⟨[],rfl,h⟩
 | cons q qs ih => rintro xs ⟨lv,a,ys,h1,h2,h3⟩;obtain⟨l',h4,h5⟩:=ih h3;obtain⟨t,h6,h7⟩:=h2.tr.tree;exact⟨⟨q.ns,q.ps,q.a,t⟩::l',⟨_,_,rfl,⟨rfl,rfl,rfl,h6⟩,h4⟩,lv,_,ys,h1,zR h2.own (Nat.zero_le _),λg e=>(h2.own.lt g e).2,h7,h5⟩
theorem zpW {nd:Nd}(h:ND nd v w B):∃n,zo6 nd n/\NP w w.heap.size n v:=by obtain⟨nb,vs,ev,xs,h0,h⟩:=h;obtain⟨qs,h1,h2⟩:=zno h.eqs;refine⟨⟨nd.nm,nd.a,nd.vars,nd.ins,nd.outs,qs⟩,⟨rfl,rfl,rfl,rfl,rfl,h1⟩,nb,vs,ev,xs,h0,⟨h.blk,ze h.blk,zR h.vown (Nat.zero_le _),λg e=>(h.vown.lt g e).2,?_,λg e=>(h.own.lt g e).2,h2,h.few⟩⟩;rw[show (qs.length)=nd.eqs.length from h1.len];exact zR h.own (Nat.zero_le _)
theorem zoA:∀{nds:List Nd} {xs:List Value},zgE w B nds xs->∃ns,ze5 nds ns/\∀(i:Nat) (n:Nod),ns[i]?=some n->∃v,xs[i]?=some v/\NP w w.heap.size n v:=by
 intro nds;induction nds with
 | nil=>intro xs _;exact⟨[],rfl,λi n h=>by simp at h⟩
 | cons d nds ih =>
   rintro xs ⟨v,ys,rfl,h2,h3⟩;obtain⟨ns,h4,h5⟩:=ih h3;obtain⟨n,h6,h7⟩:=zpW h2;refine⟨n::ns,⟨n,ns,rfl,h6,h4⟩,λi m hi=>?_⟩;cases i with
   | zero=>simp at hi;subst hi;exact⟨v,rfl,h7⟩
   | succ i=>simpa using h5 i m (by simpa using hi)
theorem zpt {nds:List Nd}(h:PG nds v w B)(h6:nds.length<=6):∃ns,ze5 nds ns/\PT w w.heap.size ns v:=by obtain⟨gb,gv,xs,h0,h1,h2,h3,h4⟩:=h;obtain⟨ns,h5,h7⟩:=zoA h4;refine⟨ns,h5,gb,gv,xs,h0,ze h2,h2,?_,λg e=>(h3.lt g e).2,h7,by rw[h5.len];exact h6⟩;rw[h5.len];exact zR h3 (Nat.zero_le _)
end
section
variable {s:ByteArray} {k:Nat}
structure Sc where
 er:List Nod
 nd:Nod
def zfj (s:ByteArray):List Vr->Nat->Option Nat
 | [],_=>none
 | v::l,i=>if v.nm=s then some i else zfj s l (i+1)
def Nod.find (n:Nod)(s:ByteArray):Option Nat:=zfj s n.vars 0
def Sc.idx (c:Sc)(s:ByteArray):Nat:=(c.nd.find s).getD 0
def zgg (s:ByteArray):List Nod->Nat->Option Nat
 | [],_=>none
 | n::l,i=>if n.nm=s then some i else zgg s l (i+1)
def Sc.called (c:Sc)(s:ByteArray):Option Sc :=
 match zgg s c.er 0 with
 | none=>none
 | some i=>match c.er[i]? with
   | none=>none
   | some n=>some ⟨c.er.take i,n⟩
theorem zld {l:List Vr}{v:Vr}(h:l[k]?=some v):zfj s (l.drop k) k=if v.nm=s then some k else zfj s (l.drop (k+1)) (k+1):=by obtain⟨h1,h2⟩:=List.getElem?_eq_some_iff.1 h;rw[List.drop_eq_getElem_cons h1,h2];rfl
theorem zla {l:List Nod}{v:Nod}(h:l[k]?=some v):zgg s (l.drop k) k=if v.nm=s then some k else zgg s (l.drop (k+1)) (k+1):=by obtain⟨h1,h2⟩:=List.getElem?_eq_some_iff.1 h;rw[List.drop_eq_getElem_cons h1,h2];rfl
theorem zgO:∀{l:List Vr} {i j:Nat},zfj s l i=some j->i<=j/\j<i+l.length/\∃v,l[j-i]?=some v/\v.nm=s:=by
 intro l;induction l with
 | nil=>intro i j h;cases h
 | cons v l ih =>
   intro i j h;unfold zfj at h;split at h
   . rename_i hv;cases h;exact⟨Nat.le_refl _,by simp,v,by simp,hv⟩
   . obtain⟨h1,h2,u,h3,h4⟩:=ih h;refine⟨by omega,by simp only[List.length_cons];omega,u,?_,h4⟩;rw[show j-i=(j-(i+1))+1 by omega];simpa using h3
abbrev xE (x:Option Addr) (c:Sc) (p:Nat):Value:=.slice x c.er.length p
end
section
open Go.RowKit
variable {cells slots st st':List Int} {xs:List Value} {B b1 b2 cap cb g mb n:Nat} {e:TypeId} {sv sv':Value} {w:World}
theorem Tryz.infoI64:(prog.info? 2).map (λi=>(i.zero,i.size,i.bytes))=some (some (xI 0),1,8):=by kernel_rfl
def zK (l:List Int):List Value:=l.map (.int .i64)
theorem zbS (l:List Int):(zK l).length=l.length:=by simp[zK]
structure MB (w:World) (mb cb b1 b2 B:Nat) (sv:Value) (cells slots st:List Int):Prop where
 blk:xH w mb #[xP cb,xS b1 cells.length cells.length,xS b2 slots.length slots.length,sv] 138
 ce:w.heap[b1]?=some (.cells (zK cells).toArray 2 (0,0))
 sl:w.heap[b2]?=some (.cells (zK slots).toArray 2 (0,0))
 own:w.ownsRow B 2 1 sv st.length (zK st.reverse)
 ne1:mb≠b1
 ne2:mb≠b2
 ne3:b1≠b2
 sm:¬sv.ownBlock=some mb
 s1:¬sv.ownBlock=some b1
 s2:¬sv.ownBlock=some b2
 hB:B<=w.heap.size
structure MFr (mb b1 b2:Nat) (w:World) (sv:Value) (w':World) (sv':Value):Prop where
 fr:Fr (λj=>j=mb∨j=b1∨j=b2∨sv.ownBlock=some j) w w'
 new:∀j,sv'.ownBlock=some j->sv.ownBlock=some j∨w.heap.size<=j
theorem MFr.refl (mb b1 b2:Nat)(w:World)(sv:Value):MFr mb b1 b2 w sv w sv:=⟨Fr.refl _ w,λ_ h=>Or.inl h⟩
theorem MFr.trans {w1 w2:World}{s1 s2:Value}(h:MFr mb b1 b2 w sv w1 s1)(k:MFr mb b1 b2 w1 s1 w2 s2):MFr mb b1 b2 w sv w2 s2:=by
 have hz:=h.fr.size;refine⟨h.fr.trans' k.fr (λi hi hs=>?_),λj hj=>?_⟩
 . rcases hs with hs|hs|hs|hs
   . exact Or.inl hs
   . exact Or.inr (Or.inl hs)
   . exact Or.inr (Or.inr (Or.inl hs))
   . rcases h.new i hs with h'|h'
     . exact Or.inr (Or.inr (Or.inr h'))
     . omega
 . rcases k.new j hj with h'|h'
   . exact h.new j h'
   . right;omega
theorem zhv (h:w.ownsRow B e 1 (xS g n cap) n xs){j:Nat}{u:Value}(hj:xs[j]?=some u):xC w g j u:=by
 have:=h.cells (g:=g) rfl j u hj;have e0:((xD g 0):Addr).add j=⟨g,j,none⟩:=by cases j <;> simp[Addr.add]
 rwa [e0] at this
theorem znx {v:Value}(h:w.ownsRow B e 1 (xS g (n+1) cap) (n+1) (xs++[v])):w.ownsRow B e 1 (xS g n cap) n xs:=by
 obtain⟨h1,h2⟩:=h;have hx:xs.length=n:=by simpa using h1
 refine⟨by simpa using hx,?_⟩;rcases h2 with ⟨h2,_⟩|⟨g',cap',cur,hv,hg,hh,h3,h4,h5,h6⟩
 . cases h2
 . cases hv;refine Or.inr ⟨g,cap,cur,rfl,hg,hh,by omega,h4,h5,?_⟩;have:=congrArg (List.take n) h6;rw[List.take_take,List.take_append_of_le_length (by omega),List.take_of_length_le (by omega:xs.length<=n)] at this;simpa [Nat.min_eq_left (by omega:n<=(n+1)*1)] using this
theorem zp8 (h:w.ownsRow B e 1 (xS g n cap) n xs):n<=cap/\cap<=9223372036854775807:=by
 rcases h.2 with ⟨h2,_⟩|⟨g',cap',cur,hv,hg,hh,h3,h4,h5,h6⟩
 . cases h2
 . cases hv;unfold maxLen at h4;exact⟨h3,by omega⟩
theorem MB.stack (h:MB w mb cb b1 b2 B sv cells slots st)(ho:w.ownsRow B 2 1 sv' st'.length (zK st'.reverse))(hn:∀j,sv'.ownBlock=some j->sv.ownBlock=some j∨(j≠mb/\j≠b1/\j≠b2)):MB (w.setCell (xD mb 3) sv') mb cb b1 b2 B sv' cells slots st':=by
 have hm:¬sv'.ownBlock=some mb:=λe=>by rcases hn _ e with e|e;exact h.sm e;exact e.1 rfl
 refine⟨zh _ _ _ _ h.blk,(zr (λe=>h.ne1 e.symm) rfl).trans h.ce,(zr (λe=>h.ne2 e.symm) rfl).trans h.sl,zi ho (λj _ _ e=>zr (λe'=>hm (e'▸e)) rfl),h.ne1,h.ne2,h.ne3,hm,λe=>?_,λe=>?_,by simpa [World.setCell] using h.hB⟩
 . rcases hn _ e with e|e
   . exact h.s1 e
   . exact e.2.1 rfl
 . rcases hn _ e with e|e
   . exact h.s2 e
   . exact e.2.2 rfl
theorem za6 (mb cb b1 b2 B:Nat)(sv:Value)(cells slots st:List Int)(v:Int)(w:World)(HM:MB w mb cb b1 b2 B sv cells slots (v::st))(hm:st.length+1<=9223372036854775807) :
 xK 110 #[xP mb] w (λe w'=>e=.returned (xI v)/\∃sv',MB w' mb cb b1 b2 B sv' cells slots st/\MFr mb b1 b2 w sv w' sv'):=by
 obtain⟨h0,h1,h2,h3,hf,hz⟩:=zU HM.blk;have HO:=HM.own;obtain⟨g,cap,hv,hg⟩:=zM HO (by simp);subst hv;simp only[List.length_cons,List.reverse_cons,zK,List.map_append,List.map_cons,List.map_nil] at HO;have hc:xC w g st.length (xI v):=zhv HO (by simp);rw[List.length_cons] at h3;have hcap:=(zp8 HO).1;go_enter func110,ntmps110;go_wp2_with fail;go_ret;refine⟨rfl,_,HM.stack (znx HO) (λj e=>Or.inl e),?_,λj e=>Or.inl e⟩;exact (Fr.refl _ w).setCell (Or.inl (Or.inl rfl)) _
theorem MB.fr {w':World}(h:MB w mb cb b1 b2 B sv cells slots st)(hk:∀k,k<w.heap.size->w'.heap[k]?=w.heap[k]?)(hz:w.heap.size<=w'.heap.size):MB w' mb cb b1 b2 B sv cells slots st :=
 ⟨(hk _ (ze h.blk)).trans h.blk,(hk _ (ze h.ce)).trans h.ce,(hk _ (ze h.sl)).trans h.sl,zi h.own (λk _ hk' _=>hk k hk'),h.ne1,h.ne2,h.ne3,h.sm,h.s1,h.s2,Nat.le_trans h.hB hz⟩
theorem MB.alloc (h:MB w mb cb b1 b2 B sv cells slots st)(o:Obj):MB (w.alloc o) mb cb b1 b2 B sv cells slots st :=
 h.fr (λk hk=>Below.heap_alloc _ _ _ hk) (by simp)
theorem zfs {l:List Int}:∀u∈zK l,u.oneCell'=true:=by intro u hu;obtain⟨s,_,rfl⟩:=List.mem_map.1 hu;rfl
theorem MB.grown {w9:World}(h:MB w mb cb b1 b2 B sv cells slots st)(hF:Fr (λk=>sv.ownBlock=some k) w w9)(ho:w9.ownsRow B 2 1 sv' st'.length (zK st'.reverse))(hn:∀j,sv'.ownBlock=some j->sv.ownBlock=some j∨w.heap.size<=j):MB (w9.setCell (xD mb 3) sv') mb cb b1 b2 B sv' cells slots st':=by
 have l0:=ze h.blk;have l1:=ze h.ce;have l2:=ze h.sl;have hm:¬sv'.ownBlock=some mb:=λe=>by rcases hn _ e with e|e;exact h.sm e;omega
 refine⟨zh _ _ _ _ ((hF.block mb l0 h.sm).trans h.blk),(zr (λe=>h.ne1 e.symm) rfl).trans ((hF.block b1 l1 h.s1).trans h.ce),(zr (λe=>h.ne2 e.symm) rfl).trans ((hF.block b2 l2 h.s2).trans h.sl),zi ho (λj _ _ e=>zr (λe'=>hm (e'▸e)) rfl),h.ne1,h.ne2,h.ne3,hm,λe=>?_,λe=>?_,by simpa [World.setCell] using Nat.le_trans h.hB hF.size⟩
 . rcases hn _ e with e|e
   . exact h.s1 e
   . omega
 . rcases hn _ e with e|e
   . exact h.s2 e
   . omega
theorem zcH (mb cb b1 b2 B:Nat)(sv:Value)(cells slots st:List Int)(v:Int)(w:World)(HM:MB w mb cb b1 b2 B sv cells slots st)(hm:st.length+1<=10000000) :
 xK 109 #[xP mb,xI v] w (λe w'=>e=.returned (.tuple #[])/\∃sv',MB w' mb cb b1 b2 B sv' cells slots (v::st)/\MFr mb b1 b2 w sv w' sv'):=by
 obtain⟨h0,h1,h2,h3,hf,hz⟩:=zU HM.blk;obtain⟨i0,hi,hi0,hi1,hi2⟩:=info_parts Tryz.infoI64;have mx:st.length+1<=maxLen:=by unfold maxLen;omega
 have by':(st.length+1)*8<=140737488355328:=by omega
 have HB:=HM.hB;go_enter func109,ntmps109;go_wp2_with (at_builtin;refine zbz _ rfl (.tmp 8) (.tmp 10) 32 rfl B 2 i0 _ 1 8 underlying32 hi hi0 hi1 hi2 rfl (by decide) sv st.length (zK st.reverse) rfl (HM.alloc _).own (xD w.heap.size 0) 1 1 (zK [v]) rfl rfl (zN (zc w _) rfl) zfs mx by' (by rw[zsb];exact Nat.le_succ_of_le HB) ?_;intro v' w9 Hown9 hgrow Hnew9;have HF9:=Fr.of_grown hgrow;have hb9:=(HF9.block mb (by rw[zsb];omega) (HM.sm)).trans (HM.alloc _).blk;obtain⟨m0,m1,m2,m3,mf,mz⟩:=zU hb9;obtain⟨x9,cp9,rfl⟩:=zbP Hown9;clear hgrow hb9);go_end0;refine⟨rfl,_,(HM.alloc _).grown HF9 (by simpa [zK] using Hown9) (λj e=>Hnew9 j e),?_,λj e=>?_⟩
 . refine Fr.setCell ?_ (Or.inl (Or.inl rfl)) _;exact ((Fr.refl _ w).alloc _).trans' HF9 (λi _ HM=>Or.inr (Or.inr (Or.inr HM)))
 . rcases Hnew9 j e with e|e
   . exact Or.inl e
   . right;rw[zsb] at e;omega
end
section
open Go.RowKit
def pk (a b c:Int):Int:=if a=0 then c else b
theorem zdy (a b c:Int)(w:World):xK 111 #[xI a,xI b,xI c] w (λe w'=>e=.returned (xI (pk a b c))/\w=w'):=by
 by_cases h:a=0
 . subst h;go_enter func111,ntmps111;go_wp2_with fail;go_ret;exact⟨rfl,rfl⟩
 . have h':(a==0)=false:=by simpa using h
   have h'':(a != 0)=true:=(by simpa using h);rw[show pk a b c=b from if_neg h];clear h;go_enter func111,ntmps111;go_wp2_with fail;go_ret;exact⟨rfl,rfl⟩
def tru (b:Bool):Int:=if b then 1 else 0
theorem zdV (b:Bool)(w:World):xK 112 #[.bool b] w (λe w'=>e=.returned (xI (tru b))/\w=w'):=by
 cases b
 all_goals
  go_enter func112,ntmps112;go_wp2_with fail;go_ret;exact⟨rfl,rfl⟩
def opR (op:Nat)(a b:Int):Int :=
 if op=9 then bits .and .i64 a b else if op=10 then bits .or .i64 a b else if op=11 then bits .xor .i64 a b
 else if op=12 then tru (a==b) else if op=13 then tru (a != b) else if op=14 then tru (decide (a<b)) else if op=15 then tru (decide (a<=b))
 else if op=16 then wrap64 (a+b) else if op=17 then wrap64 (a-b) else if op=18 then wrap64 (a*b)
 else if b=0 then 0 else if op=19 then wrap64 (a.tdiv b) else a.tmod b
theorem zg4 (op:Nat)(h:op=19∨op=20)(a b:Int)(w:World):xK 168 #[.int .u8 op,xI a,xI b] w (λe w'=>e=.returned (xI (opR op a b))/\w=w'):=by
 by_cases hb:b=0
 . subst hb;have he:opR op a 0=0:=by rcases h with rfl|rfl <;> simp[opR]
   rw[he];clear h he;go_enter func168,ntmps168;go_wp2_with fail;go_ret;exact⟨rfl,rfl⟩
 . have hb':(b==0)=false:=by simpa using hb
   rcases h with rfl|rfl
   . have HE:Hid (opR 19 a b=wrap64 (a.tdiv b)):=(by unfold Hid;simp[opR,hb]);go_enter func168,ntmps168;go_wp2_with fail;go_ret;exact⟨by rw[HE.o];rfl,rfl⟩
   . have HE:Hid (opR 20 a b=a.tmod b):=(by unfold Hid;simp[opR,hb]);go_enter func168,ntmps168;go_wp2_with fail;go_ret;exact⟨by rw[HE.o];rfl,rfl⟩
theorem zpO (a b:Int)(w:World):xK 113 #[.int .u8 9,xI a,xI b] w (λe w'=>e=.returned (xI (opR 9 a b))/\w=w'):=by go_enter func113,ntmps113;go_wp2_with fail;go_ret;exact⟨rfl,rfl⟩
theorem zns (a b:Int)(w:World):xK 113 #[.int .u8 10,xI a,xI b] w (λe w'=>e=.returned (xI (opR 10 a b))/\w=w'):=by go_enter func113,ntmps113;go_wp2_with fail;go_ret;exact⟨rfl,rfl⟩
theorem zn0 (a b:Int)(w:World):xK 113 #[.int .u8 11,xI a,xI b] w (λe w'=>e=.returned (xI (opR 11 a b))/\w=w'):=by go_enter func113,ntmps113;go_wp2_with fail;go_ret;exact⟨rfl,rfl⟩
theorem zoQ (a b:Int)(w:World):xK 113 #[.int .u8 12,xI a,xI b] w (λe w'=>e=.returned (xI (opR 12 a b))/\w=w'):=by go_enter func113,ntmps113;go_wp2_with (go_at_call 112;refine (zdV _ _).mono ?_;rintro e w1 ⟨rfl,rfl⟩);go_ret;exact⟨rfl,rfl⟩
theorem zoc (a b:Int)(w:World):xK 113 #[.int .u8 13,xI a,xI b] w (λe w'=>e=.returned (xI (opR 13 a b))/\w=w'):=by go_enter func113,ntmps113;go_wp2_with (go_at_call 112;refine (zdV _ _).mono ?_;rintro e w1 ⟨rfl,rfl⟩);go_ret;exact⟨rfl,rfl⟩
theorem znv (a b:Int)(w:World):xK 113 #[.int .u8 14,xI a,xI b] w (λe w'=>e=.returned (xI (opR 14 a b))/\w=w'):=by go_enter func113,ntmps113;go_wp2_with (go_at_call 112;refine (zdV _ _).mono ?_;rintro e w1 ⟨rfl,rfl⟩);go_ret;exact⟨rfl,rfl⟩
theorem znO (a b:Int)(w:World):xK 113 #[.int .u8 15,xI a,xI b] w (λe w'=>e=.returned (xI (opR 15 a b))/\w=w'):=by go_enter func113,ntmps113;go_wp2_with (go_at_call 112;refine (zdV _ _).mono ?_;rintro e w1 ⟨rfl,rfl⟩);go_ret;exact⟨rfl,rfl⟩
theorem zoL (a b:Int)(w:World):xK 113 #[.int .u8 16,xI a,xI b] w (λe w'=>e=.returned (xI (opR 16 a b))/\w=w'):=by go_enter func113,ntmps113;go_wp2_with fail;go_ret;exact⟨rfl,rfl⟩
theorem znJ (a b:Int)(w:World):xK 113 #[.int .u8 17,xI a,xI b] w (λe w'=>e=.returned (xI (opR 17 a b))/\w=w'):=by go_enter func113,ntmps113;go_wp2_with fail;go_ret;exact⟨rfl,rfl⟩
theorem zoB (a b:Int)(w:World):xK 113 #[.int .u8 18,xI a,xI b] w (λe w'=>e=.returned (xI (opR 18 a b))/\w=w'):=by go_enter func113,ntmps113;go_wp2_with fail;go_ret;exact⟨rfl,rfl⟩
theorem zob (a b:Int)(w:World):xK 113 #[.int .u8 19,xI a,xI b] w (λe w'=>e=.returned (xI (opR 19 a b))/\w=w'):=by go_enter func113,ntmps113;go_wp2_with (go_at_call 168;refine (zg4 19 (by decide) a b _).mono ?_;rintro e w1 ⟨rfl,rfl⟩);go_ret;exact⟨rfl,rfl⟩
theorem zoi (a b:Int)(w:World):xK 113 #[.int .u8 20,xI a,xI b] w (λe w'=>e=.returned (xI (opR 20 a b))/\w=w'):=by go_enter func113,ntmps113;go_wp2_with (go_at_call 168;refine (zg4 20 (by decide) a b _).mono ?_;rintro e w1 ⟨rfl,rfl⟩);go_ret;exact⟨rfl,rfl⟩
theorem zlh (op:Nat)(h1:9<=op)(h2:op<=20)(a b:Int)(w:World):xK 113 #[.int .u8 op,xI a,xI b] w (λe w'=>e=.returned (xI (opR op a b))/\w=w'):=by
 match op,h1,h2 with
 | 9,_,_=>exact zpO a b w
 | 10,_,_=>exact zns a b w
 | 11,_,_=>exact zn0 a b w
 | 12,_,_=>exact zoQ a b w
 | 13,_,_=>exact zoc a b w
 | 14,_,_=>exact znv a b w
 | 15,_,_=>exact znO a b w
 | 16,_,_=>exact zoL a b w
 | 17,_,_=>exact znJ a b w
 | 18,_,_=>exact zoB a b w
 | 19,_,_=>exact zob a b w
 | 20,_,_=>exact zoi a b w
 | n+21,_,h=>omega
end
section
open Go.RowKit
variable {cells slots st:List Int} {B b b1 b2 cb mb:Nat} {o:Obj} {e:TypeId} {sv sv':Value} {w w':World}
theorem zbT {l:List Int}(h:w.heap[b]?=some (.cells (zK l).toArray e (0,0))){k:Nat}{v:Int}(hk:l[k]?=some v):w.cell? (xD b k)=some (xI v):=by simp[World.cell?,h,zK,hk]
theorem zai {l:Array Value}(h:w.heap[b]?=some (.cells l e (0,0)))(k:Nat):w.frozen? (xD b k)=false:=by simp[World.frozen?,h]
def zcM (mb cb b1 b2 B:Nat)(w:World)(sv:Value)(cells slots st:List Int)(e:Ending)(w':World):Prop :=
 e=.returned (.tuple #[])/\∃sv',MB w' mb cb b1 b2 B sv' cells slots st/\MFr mb b1 b2 w sv w' sv'
theorem MFr.ofAlloc (h:MFr mb b1 b2 (w.alloc o) sv w' sv'):MFr mb b1 b2 w sv w' sv' :=
 MFr.trans (⟨(Fr.refl _ w).alloc o,λ_ h=>Or.inl h⟩:MFr mb b1 b2 w sv (w.alloc o) sv) h
theorem MFr.undrew (h:MFr mb b1 b2 w.drew sv w' sv'):MFr mb b1 b2 w sv w' sv':=⟨h.fr.undrew,h.new⟩
theorem MB.drew (h:MB w mb cb b1 b2 B sv cells slots st):MB w.drew mb cb b1 b2 B sv cells slots st:=h.fr (λ_ _=>rfl) (Nat.le_refl _)
theorem zi5 (l:List Int)(k:Nat)(v:Int):(zK l).toArray.setIfInBounds k (xI v)=(zK (l.set k v)).toArray:=by simp[zK]
theorem MB.slot (h:MB w mb cb b1 b2 B sv cells slots st)(k:Nat)(v:Int):MB (w.setCell (xD b2 k) (xI v)) mb cb b1 b2 B sv cells (slots.set k v) st:=by
 refine⟨?_,(zr h.ne3 rfl).trans h.ce,?_,zi h.own (λj _ _ e=>zr (λe'=>h.s2 (e'▸e)) rfl),h.ne1,h.ne2,h.ne3,h.sm,h.s1,h.s2,by simpa [World.setCell] using h.hB⟩
 . rw[List.length_set];exact (zr h.ne2 rfl).trans h.blk
 . rw[<- zi5];exact zh _ _ _ _ h.sl
theorem MB.cell (h:MB w mb cb b1 b2 B sv cells slots st)(k:Nat)(v:Int):MB (w.setCell (xD b1 k) (xI v)) mb cb b1 b2 B sv (cells.set k v) slots st:=by
 refine⟨?_,?_,(zr (λe=>h.ne3 e.symm) rfl).trans h.sl,zi h.own (λj _ _ e=>zr (λe'=>h.s1 (e'▸e)) rfl),h.ne1,h.ne2,h.ne3,h.sm,h.s1,h.s2,by simpa [World.setCell] using h.hB⟩
 . rw[List.length_set];exact (zr h.ne1 rfl).trans h.blk
 . rw[<- zi5];exact zh _ _ _ _ h.ce
theorem MFr.slot (h:MFr mb b1 b2 w sv w' sv')(k:Nat)(v:Value):MFr mb b1 b2 w sv (w'.setCell (xD b2 k) v) sv':=⟨h.fr.setCell (Or.inl (Or.inr (Or.inr (Or.inl rfl)))) v,h.new⟩
theorem MFr.cell (h:MFr mb b1 b2 w sv w' sv')(k:Nat)(v:Value):MFr mb b1 b2 w sv (w'.setCell (xD b1 k) v) sv':=⟨h.fr.setCell (Or.inl (Or.inr (Or.inl rfl))) v,h.new⟩
theorem MB.lt (h:MB w mb cb b1 b2 B sv cells slots st):mb<w.heap.size/\b1<w.heap.size/\b2<w.heap.size/\∀j,sv.ownBlock=some j->j<w.heap.size :=
 ⟨ze h.blk,ze h.ce,ze h.sl,λj e=>(h.own.lt j e).2⟩
theorem MB.box {w1:World}{sv1:Value}(h:MB w mb cb b1 b2 B sv cells slots st)(hF:MFr mb b1 b2 (w.alloc o) sv w1 sv1):w1.heap[w.heap.size]?=some o:=by
 obtain⟨l1,l2,l3,l4⟩:=h.lt;refine (hF.fr.block w.heap.size (by simp) (λe=>?_)).trans (zc w o);rcases e with e|e|e|e
 . omega
 . omega
 . omega
 . have:=l4 _ e;omega
theorem zq8:zH 110:=λ_ _=>by kernel_rfl
theorem zhZ:zH 109:=λ_ _=>by kernel_rfl
theorem zpc:zH 111:=λ_ _=>by kernel_rfl
theorem zqa (mb cb b1 b2 B:Nat)(sv:Value)(cells slots st:List Int)(x:Int)(w:World)(HM:MB w mb cb b1 b2 B sv cells slots st)(hm:st.length+1<=10000000) :
 xK 59 #[xP mb,.agg #[.int .u8 0,xI x]] w (zcM mb cb b1 b2 B w sv cells slots (x::st)):=by
 go_enter func59,ntmps59;go_wp2_with (go_at_call 109;refine (zcH mb cb b1 b2 B sv cells slots st x _ (HM.alloc _) hm).mono ?_;rintro e w1 ⟨rfl,sv1,HM1,HF1⟩);go_end0;exact⟨rfl,_,HM1,HF1.ofAlloc⟩
theorem zp5 (mb cb b1 b2 B:Nat)(sv:Value)(cells slots st:List Int)(k:Nat)(v:Int)(w:World)(HM:MB w mb cb b1 b2 B sv cells slots (v::st))(hk:k<slots.length)(hm:st.length+1<=10000000) :
 xK 59 #[xP mb,.agg #[.int .u8 2,xI k]] w (zcM mb cb b1 b2 B w sv cells (slots.set k v) st):=by
 obtain⟨h0,h1,h2,h3,hf,hz⟩:=zU HM.blk;go_enter func59,ntmps59;go_upto_region 9 with fail;have HMa:∀o,Hid (MB (w.alloc o).drew mb cb b1 b2 B sv cells slots (v::st)):=λo=>(HM.alloc o).drew;obtain⟨sk,Hsk⟩:∃sk,slots[k]?=some sk:=⟨_,zsc hk⟩;go_region_law (refine zbL rfl 110 (.tmp 50) 61 rfl zq8 (xP mb) rfl (za6 mb cb b1 b2 B sv cells slots st v _ (HMa _).out (by omega)) ?_;rintro e w1 ⟨rfl,sv1,HM1,HF1⟩;refine⟨_,rfl,?_⟩;obtain⟨q0,q1,q2,q3,qf,qz⟩:=zU HM1.blk;obtain⟨u0,u1,uf,uz⟩:=zp (HM.box HF1.undrew);have t0:=zai HM1.sl;have t1:=zbT HM1.sl Hsk);all_goals go_wp2_with fail
 all_goals go_end0
 all_goals exact⟨rfl,_,HM1.slot k v,(HF1.slot k _).undrew.ofAlloc⟩
end
end Go.Proofs.YtbicmofihhjgbaaGreatDoor
