/- Part 13 of the proof: MdlC MdlC2 CofJ. -/
import Derived.Test.YtedmpgjebafcjaaGreatDoorK11
set_option maxRecDepth 100000
set_option maxHeartbeats 8000000
namespace Go.Proofs.YtedmpgjebafcjaaGreatDoor
section
def zb5 (r17 r18:Fn):Nat->St×List Eqn->St×List Eqn
 | 0,x=>x
 | f+1,x=>if x.1.t.k=2∨x.1.is 4 [40]=true then zb5 r17 r18 f (zF r17 r18 x.1 x.2) else x
def zdr (r17 r18:Fn) (f:Nat) (st:St):St×List Eqn :=
 let x:=zb5 r17 r18 f (zF r17 r18 (st.must 4 [123]) [])
 (x.1.must 4 [125],x.2)
def zax (r17 r18:Fn) (f:Nat) (st:St):St×Nd :=
 let h:=zaI st.fresh
 let v:=zaS f h.1 h.2
 let b:=zdr r17 r18 f v.1
 (b.1,⟨(st.fresh.must 5 zW).t.s,(st.fresh.must 5 zW).t.a,v.2,b.1.L,b.2⟩)
def zdZ (r17 r18:Fn) (g:Nat):Nat->St×List Nd->St×List Nd
 | 0,x=>x
 | f+1,x=>if x.1.is 5 zW=true/\x.2.length<6 then zdZ r17 r18 g f ((zax r17 r18 g x.1).1,x.2++[(zax r17 r18 g x.1).2]) else x
def zbB (st:St):St:=if st.t.k=0 then st else st.fail 2 st.t.a
def zgo (r17 r18:Fn) (g:Nat) (s:ByteArray):St×List Nd :=
 let x0:St:=⟨s,zZ s 0,0,0,0,[]⟩
 let x:=zdZ r17 r18 g g ((zax r17 r18 g x0).1,[(zax r17 r18 g x0).2])
 (zbB x.1,x.2)
def zbu (a b:St):Prop:=a.er≠0->b.er=a.er/\b.at'=a.at'
theorem zbu.trans {a b c:St} (h:zbu a b) (k:zbu b c):zbu a c:=λe=>by
 obtain ⟨h1,h2⟩:=h e
 obtain ⟨k1,k2⟩:=k (by rw [h1];exact e)
 exact ⟨k1.trans h1,k2.trans h2⟩
theorem zbu.fail (st:St) (e a:Nat):zbu st (st.fail e a):=λh=>by unfold St.fail;rw [if_neg h];exact ⟨rfl,rfl⟩
theorem zbu.step (st:St):zbu st st.step:=λh=>by rw [St.step_bad h];exact ⟨rfl,rfl⟩
theorem zbu.must (st:St) (k:Nat) (l:List UInt8):zbu st (st.must k l):=by
 unfold St.must
 split
 · exact zbu.step st
 · exact zbu.fail st _ _
theorem zbu.name (st:St):zbu st st.name:=by
 unfold St.name
 split
 · exact zbu.step st
 · exact zbu.fail st _ _
theorem zkv {st:St} (h:st.er=0) {e a:Nat}:(st.fail e a).er=e/\(st.fail e a).at'=a:=by unfold St.fail;rw [if_pos h];exact ⟨rfl,rfl⟩
theorem zbu.right {r17 r18:Fn} (g18:zv 18 r18) {many:Bool} {st:St} {p:Nat} (hI:Inv p st) (ho:st.op=0):zbu st (zck r17 r18 many st).1:=by
 intro he
 unfold zck
 split
 · have h1:=Fwd.name hI
   have hn:st.name.er≠0:=h1.er he
   have hb:st.name.is 4 [40]=false:=by
    have:=h1.inv.bad hn
    simp [St.is,this]
   have e:zao r17 st.t st.name=(st.name.fail 2 st.name.t.a,0):=by unfold zao;rw [if_neg (by rw [hb];simp)]
   rw [e]
   exact ((zbu.name st).trans (zbu.fail _ _ _)) he
 · have h2:=(g18 st p hI (by omega)).er he
   rw [h2]
   exact ⟨rfl,rfl⟩
structure zeL (a b:St):Prop where
 er:a.er=b.er
 at':a.at'=b.at'
 eq:a.er=0->a=b
theorem zeL.refl (a:St):zeL a a:=⟨rfl,rfl,λ_=>rfl⟩
theorem zlf {st:St} (he:st.er≠0) (k:Nat) (l:List UInt8):(st.must k l).er=st.er/\(st.must k l).at'=st.at':=zbu.must st k l he
theorem zjT {r17 r18:Fn} (g18:zv 18 r18) {st:St} {p:Nat} (hI:Inv p st) (ho:st.op=0) (he:st.er=0) (hk:¬st.t.k=2) (hp:st.is 4 [40]=false) (eqs:List Eqn):(zF r17 r18 st eqs).1.er=2/\(zF r17 r18 st eqs).1.at'=st.t.a:=by
 have hl:(zaH st).st=st.fail 2 st.t.a:=by
  unfold zaH
  rw [if_neg (by rw [hp];simp)]
  unfold St.name
  rw [if_neg hk]
 have h1:=zfO hI
 have h2:=Fwd.must h1.1.inv 4 [61]
 have o2:((zaH st).st.must 4 [61]).op=0:=by rw [St.must_op,h1.2.1,ho]
 have hs:=((zbu.must (zaH st).st 4 [61]).trans (zbu.right (r17:=r17) (many:=st.is 4 [40]) g18 h2.inv o2)).trans (zbu.must _ 4 [59])
 have hf:=zkv he (e:=2) (a:=st.t.a)
 rw [<- hl] at hf
 have:=hs (by rw [hf.1];decide)
 exact ⟨this.1.trans hf.1,this.2.trans hf.2⟩
theorem zim {r17 r18:Fn} {f:Nat} {x:St×List Eqn} (he:x.1.er≠0):zd6 r17 r18 f x=x:=by
 cases f with
 | zero=>rfl
 | succ f=>show (if _ then _ else x)=x;rw [if_neg (λh=>he h.1)]
theorem zl3 {r17 r18:Fn} {f p:Nat} {x:St×List Eqn} (hI:Inv p x.1) (he:x.1.er≠0):zb5 r17 r18 f x=x:=by
 cases f with
 | zero=>rfl
 | succ f =>
   show (if _ then _ else x)=x
   have hb:=hI.bad he
   rw [if_neg]
   rintro (h|h)
   · rw [hb] at h;simp at h
   · simp [St.is,hb] at h
theorem zmm {r17 r18:Fn} (g17:zv 17 r17) (g18:zv 18 r18):∀(f p:Nat) (x:St×List Eqn),Inv p x.1->x.1.op=0 ->
 zeL ((zb5 r17 r18 f x).1.must 4 [125]) ((zd6 r17 r18 f x).1.must 4 [125])/\(((zb5 r17 r18 f x).1.must 4 [125]).er=0->(zb5 r17 r18 f x).2=(zd6 r17 r18 f x).2):=by
 intro f
 induction f with
 | zero=>intro p x _ _;exact ⟨zeL.refl _,λ_=>rfl⟩
 | succ f ih =>
   intro p x hI ho
   by_cases he:x.1.er=0
   · have hc:zb5 r17 r18 (f+1) x=if x.1.t.k=2∨x.1.is 4 [40]=true then zb5 r17 r18 f (zF r17 r18 x.1 x.2) else x:=rfl
     have hd:zd6 r17 r18 (f+1) x=if x.1.er=0/\x.1.is 4 [125]=false then zd6 r17 r18 f (zF r17 r18 x.1 x.2) else x:=rfl
     have g:=za1 g17 g18 (eqs:=x.2) hI ho
     by_cases h1:x.1.t.k=2∨x.1.is 4 [40]=true
     · have h2:x.1.is 4 [125]=false:=by
        rcases h1 with h1|h1
        · simp [St.is,h1]
        · cases h3:x.1.is 4 [125] with
          | false=>rfl
          | true =>
            simp only [St.is,Bool.and_eq_true,beq_iff_eq] at h1 h3
            have:=h1.2.symm.trans h3.2
            simp at this
       rw [hc,hd,if_pos h1,if_pos ⟨he,h2⟩]
       exact ih p _ g.1.inv (g.2.trans ho)
     · rw [hc,hd,if_neg h1]
       cases h2:x.1.is 4 [125] with
       | true=>rw [if_neg (λh=>by cases h.2)];exact ⟨zeL.refl _,λ_=>rfl⟩
       | false =>
         rw [if_pos ⟨he,rfl⟩]
         have hk:¬x.1.t.k=2:=λh=>h1 (.inl h)
         have hp:x.1.is 4 [40]=false:=by cases h:x.1.is 4 [40] with
          | false=>rfl
          | true=>exact absurd (.inr h) h1
         have hn:=zjT (r17:=r17) g18 hI ho he hk hp x.2
         have hne:(zF r17 r18 x.1 x.2).1.er≠0:=by rw [hn.1];decide
         rw [zim hne]
         have hm:=zlf hne 4 [125]
         have hl:x.1.must 4 [125]=x.1.fail 2 x.1.t.a:=by unfold St.must;rw [if_neg (by rw [h2];simp)]
         have hf:=zkv he (e:=2) (a:=x.1.t.a)
         rw [hl]
         refine ⟨⟨by rw [hf.1,hm.1,hn.1],by rw [hf.2,hm.2,hn.2],λh=>?_⟩,λh=>?_⟩
         · rw [hf.1] at h;cases h
         · rw [hf.1] at h;cases h
   · rw [zim he,zl3 hI he]
     exact ⟨zeL.refl _,λ_=>rfl⟩
theorem zip {f:Nat} (hf:f=1300) (i:Bool) (st:St) (vars:List Vr):zab i st vars=((zaG i f (zx i (!i) (st.must 4 [40]) vars)).1.must 4 [41],(zaG i f (zx i (!i) (st.must 4 [40]) vars)).2):=by
 subst hf;rfl
theorem zfZ {r17 r18:Fn} (g17:zv 17 r17) (g18:zv 18 r18):∀(f p:Nat) (x:St×List Eqn),Inv p x.1->x.1.op=0->Fwd p x.1 (zb5 r17 r18 f x).1/\(zb5 r17 r18 f x).1.op=0:=by
 intro f
 induction f with
 | zero=>intro p x hI ho;exact ⟨Fwd.refl hI,ho⟩
 | succ f ih =>
   intro p x hI ho
   show Fwd p x.1 (if _ then _ else x).1/\(if _ then _ else x).1.op=0
   by_cases hc:x.1.t.k=2∨x.1.is 4 [40]=true
   · rw [if_pos hc]
     have h2:=za1 g17 g18 (eqs:=x.2) hI ho
     have h3:=ih p _ h2.1.inv (h2.2.trans ho)
     exact ⟨h2.1.trans h3.1,h3.2⟩
   · rw [if_neg hc];exact ⟨Fwd.refl hI,ho⟩
theorem zkQ {r17 r18:Fn} (g17:zv 17 r17) (g18:zv 18 r18) {f p:Nat} {st:St} (hI:Inv p st) (ho:st.op=0) :
 zeL (zdr r17 r18 f st).1 (zeO r17 r18 f st).1/\((zdr r17 r18 f st).1.er=0->zdr r17 r18 f st=zeO r17 r18 f st)/\Fwd p st (zdr r17 r18 f st).1/\(zdr r17 r18 f st).1.op=0:=by
 have h1:=Fwd.must hI 4 [123]
 have h2:=za1 g17 g18 (eqs:=[]) h1.inv (by rw [St.must_op,ho])
 have o2:(zF r17 r18 (st.must 4 [123]) []).1.op=0:=by rw [h2.2,St.must_op,ho]
 have h3:=zmm g17 g18 f p _ h2.1.inv o2
 have h4:=zfZ g17 g18 f p _ h2.1.inv o2
 have h5:=Fwd.must h4.1.inv 4 [125]
 refine ⟨h3.1,λhe=>?_,((h1.trans h2.1).trans h4.1).trans h5,?_⟩
 · exact Prod.ext (h3.1.eq he) (h3.2 he)
 · show ((zb5 r17 r18 f (zF r17 r18 (st.must 4 [123]) [])).1.must 4 [125]).op=0
   rw [St.must_op,h4.2]
theorem zhx {r17 r18:Fn} (g17:zv 17 r17) (g18:zv 18 r18) {f p:Nat} {st:St} {nodes:List Nd} (hI:Inv p st) (ho:st.op=0) (hl:¬6<=nodes.length) :
 zeL (zax r17 r18 f st).1 (zei r17 r18 f st nodes).1/\((zax r17 r18 f st).1.er=0->zei r17 r18 f st nodes=((zax r17 r18 f st).1,nodes++[(zax r17 r18 f st).2]))/\Inv 0 (zax r17 r18 f st).1/\(zax r17 r18 f st).1.op=0/\(st.er=0->(zax r17 r18 f st).1.er=0->st.t.a+1<=(zax r17 r18 f st).1.t.a):=by
 have h0:=Fwd.fresh hI
 have hop:st.fresh.op=0:=ho
 have h1:=zit h0
 have h2:=zeP (f:=f) (vars:=(zaI st.fresh).2) h1.1.inv
 have h3:=zkQ g17 g18 (f:=f) h2.1.inv (by rw [h2.2.1,h1.2.1];exact hop)
 have hn:zei r17 r18 f st nodes=((zeO r17 r18 f (zaS f (zaI st.fresh).1 (zaI st.fresh).2).1).1,nodes++[⟨(st.fresh.must 5 zW).t.s,(st.fresh.must 5 zW).t.a,(zaS f (zaI st.fresh).1 (zaI st.fresh).2).2,(zeO r17 r18 f (zaS f (zaI st.fresh).1 (zaI st.fresh).2).1).1.L,(zeO r17 r18 f (zaS f (zaI st.fresh).1 (zaI st.fresh).2).1).2⟩]):=by
  unfold zei;rw [if_neg hl]
 have hc:zax r17 r18 f st=((zdr r17 r18 f (zaS f (zaI st.fresh).1 (zaI st.fresh).2).1).1,⟨(st.fresh.must 5 zW).t.s,(st.fresh.must 5 zW).t.a,(zaS f (zaI st.fresh).1 (zaI st.fresh).2).2,(zdr r17 r18 f (zaS f (zaI st.fresh).1 (zaI st.fresh).2).1).1.L,(zdr r17 r18 f (zaS f (zaI st.fresh).1 (zaI st.fresh).2).1).2⟩):=rfl
 generalize hv:zaS f (zaI st.fresh).1 (zaI st.fresh).2=v at *
 rw [hn,hc]
 refine ⟨h3.1,λhe=>?_,h3.2.2.1.inv,h3.2.2.2,λhe he'=>?_⟩
 · rw [h3.2.1 he]
 · have e1:=Fwd.must h0 5 zW
   have e2:=Fwd.name e1.inv
   have e3:=zbx (i:=true) (vars:=[]) e2.inv
   have e4:=Fwd.must e3.1.inv 4 [45,62]
   have e5:=zbx (i:=false) (vars:=(zab true (st.fresh.must 5 zW).name []).2) e4.inv
   have hw:Fwd 0 (st.fresh.must 5 zW) (zdr r17 r18 f v.1).1:=((((e2.trans e3.1).trans e4).trans e5.1).trans h2.1).trans h3.2.2.1
   have hb:=hw.back he'
   have hta:=hw.ta
   have hk:st.fresh.is 5 zW=true:=by
    cases h:st.fresh.is 5 zW with
    | true=>rfl
    | false =>
      have:st.fresh.must 5 zW=st.fresh.fail 2 st.fresh.t.a:=by unfold St.must;rw [if_neg (by rw [h];simp)]
      rw [this] at hb
      exact absurd hb (St.fail_er _ (by decide))
   have hst:st.fresh.must 5 zW=st.fresh.step:=by unfold St.must;rw [if_pos hk]
   have he0:st.fresh.er=0:=he
   have h6:=h0.tok (by rw [Inv.is_k hk];decide)
   have h7:=zV st.fresh.src st.fresh.t.t h0.ok.tt
   have h8:st.fresh.t.a+1<=st.fresh.step.t.a:=by rw [St.step_ok he0];simp only;omega
   rw [hst] at hta
   exact Nat.le_trans h8 hta
end
section
open Go.RowKit
def Was (B:Nat) (wr:World) (av:Value) (P:World->Nat->Prop):Prop :=
 ∃(wi:World) (Bi:Nat),B<=Bi/\P wi Bi/\(∀k,Bi<=k->k<wi.heap.size->wr.heap[k]?=wi.heap[k]?)/\(∀g,av.ownBlock=some g->g<Bi∨wi.heap.size<=g)/\wi.heap.size<=wr.heap.size
theorem Was.imp {B:Nat} {wr:World} {av:Value} {P Q:World->Nat->Prop} (h:Was B wr av P) (hi:∀w b,P w b->Q w b):Was B wr av Q:=by
 obtain ⟨wi,Bi,h1,h2,h3,h4,h5⟩:=h
 exact ⟨wi,Bi,h1,hi _ _ h2,h3,h4,h5⟩
theorem Was.next {B:Nat} {wr w':World} {av av':Value} {P:World->Nat->Prop} (h:Was B wr av P) {T:Nat->Prop} (hf:Fr T wr w') (hT:∀k,T k->k<B∨av.ownBlock=some k) (ha:∀k,av'.ownBlock=some k->av.ownBlock=some k∨wr.heap.size<=k):Was B w' av' P:=by
 obtain ⟨wi,Bi,h1,h2,h3,h4,h5⟩:=h
 refine ⟨wi,Bi,h1,h2,λk hk1 hk2=>?_,λg hg=>?_,Nat.le_trans h5 hf.size⟩
 · refine (hf.block k (Nat.lt_of_lt_of_le hk2 h5) (λht=>?_)).trans (h3 k hk1 hk2)
   rcases hT k ht with h|h
   · omega
   · rcases h4 k h with h|h <;> omega
 · rcases ha g hg with h|h
   · exact h4 g h
   · exact Or.inr (Nat.le_trans h5 h)
structure EQ (L:List Ex) (q:Eqn) (lv:Value) (a:Option Addr) (w:World) (B:Nat):Prop where
 own:w.ownsRow B 93 2 lv q.ns.length (nmC q.ns q.ps)
 tr:TR w B L q.ex (.pointer a)
theorem EQ.kept {L:List Ex} {q:Eqn} {lv:Value} {a:Option Addr} {w w':World} {B:Nat} (h:EQ L q lv a w B) (hk:∀k,B<=k->k<w.heap.size->w'.heap[k]?=w.heap[k]?):EQ L q lv a w' B :=
 ⟨zi h.own (λk h1 h2 _=>hk k h1 h2),h.tr.kept hk⟩
theorem EQ.down {L:List Ex} {q:Eqn} {lv:Value} {a:Option Addr} {w:World} {B B':Nat} (h:EQ L q lv a w B) (hb:B'<=B):EQ L q lv a w B':=⟨zR h.own hb,h.tr.down hb⟩
theorem EQ.more {L:List Ex} {q:Eqn} {lv:Value} {a:Option Addr} {w:World} {B:Nat} (h:EQ L q lv a w B) (E:List Ex):EQ (L++E) q lv a w B:=⟨h.own,h.tr.more E⟩
theorem zq4 {B:Nat} {wr:World} {av:Value} {L:List Ex} {q:Eqn} {lv:Value} {a:Option Addr} (h:Was B wr av (EQ L q lv a)):EQ L q lv a wr B:=by
 obtain ⟨wi,Bi,h1,h2,h3,_,_⟩:=h
 exact (h2.kept h3).down h1
def zcJ (B:Nat) (wr:World) (av:Value) (L:List Ex):List Eqn->List Value->Prop
 | [],xs=>xs=[]
 | q::qs,xs=>∃lv a ys,xs=lv::.int .i64 q.a::.pointer a::ys/\Was B wr av (EQ L q lv a)/\zcJ B wr av L qs ys
theorem zcJ.next {B:Nat} {wr w':World} {av av':Value} {L:List Ex} (E:List Ex) {T:Nat->Prop} (hf:Fr T wr w') (hT:∀k,T k->k<B∨av.ownBlock=some k) (ha:∀k,av'.ownBlock=some k->av.ownBlock=some k∨wr.heap.size<=k) :
 ∀(qs:List Eqn) (xs:List Value),zcJ B wr av L qs xs->zcJ B w' av' (L++E) qs xs:=by
 intro qs
 induction qs with
 | nil=>intro xs h;exact h
 | cons q qs ih =>
   rintro xs ⟨lv,a,ys,h1,h2,h3⟩
   exact ⟨lv,a,ys,h1,(h2.next hf hT ha).imp (λ_ _ h=>h.more E),ih ys h3⟩
theorem zcJ.snoc {B:Nat} {wr:World} {av:Value} {L:List Ex} {q:Eqn} {lv:Value} {a:Option Addr} (h2:Was B wr av (EQ L q lv a)):∀(qs:List Eqn) (xs:List Value),zcJ B wr av L qs xs->zcJ B wr av L (qs++[q]) (xs++[lv,.int .i64 q.a,.pointer a]):=by
 intro qs
 induction qs with
 | nil=>rintro xs rfl;exact ⟨lv,a,[],rfl,h2,rfl⟩
 | cons q' qs ih =>
   rintro xs ⟨lv',a',ys,rfl,h4,h3⟩
   exact ⟨lv',a',_,rfl,h4,ih ys h3⟩
structure EI (S:Nat->Addr) (pb nb B p:Nat) (w wr:World) (c0 c1 c2 c3 c4:Value) (nv:Nat) (vx:List Value) (s:St) (eqs:List Eqn) (ev:Value) (m:Nat) (xs:List Value):Prop where
 inv:Inv p s
 op:s.op=0
 pl:PL S wr pb s
 blk:wr.heap[nb]?=some (.cells #[c0,c1,c2,c3,c4,ev] 97 (0,0))
 vown:wr.ownsRow B 110 7 c2 nv vx
 vne:∀k,c2.ownBlock=some k->¬ev.ownBlock=some k
 own:wr.ownsRow B 166 3 ev m xs
 ok:s.er=0->m=eqs.length/\zcJ B wr ev s.L eqs xs
 fr:Fr (·=pb) w wr
theorem EI.goes {S:Nat->Addr} {pb nb B p:Nat} {w wr w':World} {c0 c1 c2 c3 c4:Value} {nv:Nat} {vx:List Value} {s s':St} {eqs:List Eqn} {ev:Value} {m:Nat} {xs:List Value} (h:EI S pb nb B p w wr c0 c1 c2 c3 c4 nv vx s eqs ev m xs) (hnp:pb<nb) (hBn:nb<B) (hI:Inv p s') (ho:s'.op=0) (hl:s'.L=s.L) (he:s'.er=0->s.er=0) (hL:PL S w' pb s') (hF:Fr (·=pb) wr w'):EI S pb nb B p w w' c0 c1 c2 c3 c4 nv vx s' eqs ev m xs:=by
 refine ⟨hI,ho,hL,(hF.block nb (ze h.blk) (by omega)).trans h.blk,zi h.vown (λk h1 h2 _=>hF.block k h2 (by omega)),h.vne,zi h.own (λk h1 h2 _=>hF.block k h2 (by omega)),λh'=>?_,h.fr.trans hF⟩
 obtain ⟨k1,k2⟩:=h.ok (he h')
 refine ⟨k1,?_⟩
 have:=zcJ.next (av':=ev) [] hF (λk hk=>Or.inl (by omega)) (λk hk=>Or.inl hk) _ _ k2
 rw [hl]
 simpa using this
theorem zph {S:Nat->Addr} {pb nb B p:Nat} {w wr w1 w9:World} {c0 c1 c2 c3 c4:Value} {nv:Nat} {vx:List Value} {s s':St} {eqs:List Eqn} {ev v':Value} {m:Nat} {xs:List Value} {q:Eqn} {lv:Value} {k1 pl:Nat} {ys:List Value} {a:Option Addr} {X:Obj}
 (h:EI S pb nb B p w wr c0 c1 c2 c3 c4 nv vx s eqs ev m xs) (hnp:pb<nb) (hBn:nb<B) (hwn:w.heap.size<=nb) (hBw:B<=wr.heap.size) (g:Fwd p s s') (ho:s'.op=0)
 (hF1:Fr (·=pb) wr w1) (hown1:w1.ownsRow wr.heap.size 93 2 lv k1 ys) (hok:s'.er=0->k1=q.ns.length/\ys=nmC q.ns q.ps/\pl=q.a/\TR w1 wr.heap.size s'.L q.ex (.pointer a))
 (hL9:PL S w9 pb s') (hF9:Fr (λk=>ev.ownBlock=some k) (w1.alloc X) w9) (hn9:w9.heap[nb]?=some (.cells #[c0,c1,c2,c3,c4,ev] 97 (0,0)))
 (hown:w9.ownsRow B 166 3 v' (m+1) (xs++[lv,.int .i64 pl,.pointer a])) (hnew:∀k,v'.ownBlock=some k->ev.ownBlock=some k∨(w1.alloc X).heap.size<=k) :
 EI S pb nb B p w (w9.setCell ⟨nb,5,none⟩ v') c0 c1 c2 c3 c4 nv vx s' (eqs++[q]) v' (m+1) (xs++[lv,.int .i64 pl,.pointer a]):=by
 have hev:∀k,ev.ownBlock=some k->B<=k/\k<wr.heap.size:=λk hk=>h.own.lt k hk
 have hvv:∀k,c2.ownBlock=some k->B<=k/\k<wr.heap.size:=λk hk=>h.vown.lt k hk
 have hz1:=hF1.size
 have hz9:=hF9.size
 have hzx:(w1.alloc X).heap.size=w1.heap.size+1:=by simp
 have hFa:Fr (λk=>k=pb∨k=nb∨ev.ownBlock=some k) wr (w9.setCell ⟨nb,5,none⟩ v'):=by
  have h1:Fr (λk=>k=pb∨k=nb∨ev.ownBlock=some k) wr (w1.alloc X):=(hF1.mono (λ_ _ h=>Or.inl h)).alloc X
  exact (h1.trans' hF9 (λ_ _ h=>Or.inr (Or.inr h))).setCell (Or.inl (Or.inr (Or.inl rfl))) _
 obtain ⟨E,hE⟩:=g.L
 refine ⟨g.inv,ho,hL9.setOther hnp _ _,zh _ _ _ _ hn9,?_,?_,zi hown (λk h1 _ _=>zr (by omega) rfl),?_,?_⟩
 · exact zi h.vown (λk h1 h2 h3=>hFa.block k h2 (λhk=>by
    rcases hk with hk|hk|hk
    · omega
    · omega
    · exact h.vne k h3 hk))
 · intro k hk hk'
   rcases hnew k hk' with h1|h1
   · exact h.vne k hk h1
   · have:=(hvv k hk).2;omega
 · intro he
   obtain ⟨e1,e2⟩:=h.ok (g.er0' he)
   obtain ⟨o1,o2,o3,o4⟩:=hok he
   subst o1 o2 o3
   refine ⟨by simp [e1],?_⟩
   have hE2:=zcJ.next (av':=v') E hFa (λk hk=>by
    rcases hk with hk|hk|hk
    · left;omega
    · left;omega
    · exact Or.inr hk) (λk hk=>by
    rcases hnew k hk with h1|h1
    · exact Or.inl h1
    · right;omega) _ _ e2
   rw [<- hE] at hE2
   refine zcJ.snoc ?_ _ _ hE2
   refine ⟨w1,wr.heap.size,hBw,⟨hown1,o4⟩,λk h1 h2=>?_,λg hg=>?_,?_⟩
   · exact zr (by omega) ((hF9.block k (by omega) (λh=>by have:=(hev k h).2;omega)).trans (Below.heap_alloc _ _ _ h2))
   · rcases hnew g hg with h|h
     · left;exact (hev g h).2
     · right;omega
   · simp [World.setCell];omega
 · have h1:Fr (·=pb) w (w1.alloc X):=(h.fr.trans hF1).alloc X
   exact (h1.trans' hF9 (λi hi hs=>by have:=(hev i hs).1;omega)).setNew hwn _ _
end
end Go.Proofs.YtedmpgjebafcjaaGreatDoor
