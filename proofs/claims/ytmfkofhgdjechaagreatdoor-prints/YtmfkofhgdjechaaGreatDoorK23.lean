/- Part 24 of the proof: MdlC2 CofJ. -/
import Derived.Test.YtmfkofhgdjechaaGreatDoorK22
set_option maxRecDepth 100000
set_option maxHeartbeats 8000000
namespace Go.Proofs.YtmfkofhgdjechaaGreatDoor
open Go.Proofs.Tryz
section
variable {r17 r18:Fn} {nodes:List Nd} {f g p:Nat} {st:St} {x:St×List Vr}
theorem zEj (st:St):zbu st (z9 st):=by
 unfold z9;split
 . exact zbu.step st
 . exact zbu.must st _ _
theorem zFA (st:St):zbu st (za3 st):=by
 unfold za3;split
 . exact zbu.step st
 . exact zbu.refl st
theorem zAi (i o:Bool)(st:St)(vars:List Vr):zbu st (zx i o st vars).1:=by
 unfold zx;split
 . exact zbu.fail st _ _
 . have h:=((zbu.name st).trans (zbu.must _ 4 [58])).trans (zEj _);simp only;split
   . exact ((h.trans (zbu.step _)).trans (zFA _)).trans (zbu.name _)
   . exact h
theorem zCP {i:Bool}(he:x.1.er≠0):zaG i f x=x:=by
 cases f with
 | zero=>rfl
 | succ f=>show (if _ then _ else x)=x;rw[if_neg (λh=>he h.1)]
theorem zzJ (i:Bool)(f:Nat)(x:St×List Vr):zbu x.1 (zaG i f x).1:=λhe=>by rw[zCP he];exact⟨rfl,rfl⟩
theorem zip (hf:f=1300)(i:Bool)(st:St)(vars:List Vr):zab i st vars=((zaG i f (zx i (!i) (st.must 4 [40]) vars)).1.must 4 [41],(zaG i f (zx i (!i) (st.must 4 [40]) vars)).2):=by subst hf;rfl
theorem zzV (i:Bool)(st:St)(vars:List Vr):zbu st (zab i st vars).1:=by obtain⟨f,hf⟩:∃f,f=1300:=⟨_,rfl⟩;rw[zip hf];exact (((zbu.must st 4 [40]).trans (zAi _ _ _ _)).trans (zzJ i f _)).trans (zbu.must _ 4 [41])
theorem zzY (he:x.1.er≠0):zbA f x=x:=by
 cases f with
 | zero=>rfl
 | succ f=>show (if _ then _ else x)=x;rw[if_neg (λh=>he h.1)]
theorem zBR (f:Nat)(st:St)(vars:List Vr):zbu st (zaS f st vars).1:=by
 unfold zaS;split
 . have h:zbu st (zaR st.step vars).1:=((zbu.step st).trans (zAi false false _ vars)).trans (zbu.must _ 4 [59]);exact h.trans (λhe=>by rw[zzY he];exact⟨rfl,rfl⟩)
 . exact zbu.refl st
theorem zfZ (g17:zv 17 r17)(g18:zv 18 r18):∀(f p:Nat) (x:St×List Eqn),Inv p x.1->x.1.op=0->Fwd p x.1 (zb5 r17 r18 f x).1/\(zb5 r17 r18 f x).1.op=0:=by
 intro f;induction f with
 | zero=>intro p x hI ho;exact⟨Fwd.refl hI,ho⟩
 | succ f ih =>
   intro p x hI ho
   show Fwd p x.1 (if _ then _ else x).1/\(if _ then _ else x).1.op=0;by_cases hc:x.1.t.k=2∨x.1.is 4 [40]=true
   . rw[if_pos hc];have h2:=za1 g17 g18 (eqs:=x.2) hI ho;have h3:=ih p _ h2.1.inv (h2.2.trans ho);exact⟨h2.1.trans h3.1,h3.2⟩
   . rw[if_neg hc];exact⟨Fwd.refl hI,ho⟩
theorem zkQ (g17:zv 17 r17)(g18:zv 18 r18)(hI:Inv p st)(ho:st.op=0) :
 zeL (zdr r17 r18 f st).1 (zeO r17 r18 f st).1/\((zdr r17 r18 f st).1.er=0->zdr r17 r18 f st=zeO r17 r18 f st)/\Fwd p st (zdr r17 r18 f st).1/\(zdr r17 r18 f st).1.op=0:=by
 have h1:=Fwd.must hI 4 [123];have h2:=za1 g17 g18 (eqs:=[]) h1.inv (by rw[St.must_op,ho]);have o2:(zF r17 r18 (st.must 4 [123]) []).1.op=0:=by rw[h2.2,St.must_op,ho]
 have h3:=zmm g17 g18 f p _ h2.1.inv o2;have h4:=zfZ g17 g18 f p _ h2.1.inv o2;have h5:=Fwd.must h4.1.inv 4 [125];refine⟨h3.1,λhe=>?_,((h1.trans h2.1).trans h4.1).trans h5,?_⟩
 . exact Prod.ext (h3.1.eq he) (h3.2 he)
 . show ((zb5 r17 r18 f (zF r17 r18 (st.must 4 [123]) [])).1.must 4 [125]).op=0;rw[St.must_op,h4.2]
theorem zhx (g17:zv 17 r17)(g18:zv 18 r18)(hI:Inv p st)(ho:st.op=0)(hl:¬6<=nodes.length) :
 zeL (zax r17 r18 f st).1 (zei r17 r18 f st nodes).1/\((zax r17 r18 f st).1.er=0->zei r17 r18 f st nodes=((zax r17 r18 f st).1,nodes++[(zax r17 r18 f st).2]))/\Inv 0 (zax r17 r18 f st).1/\(zax r17 r18 f st).1.op=0/\(st.er=0->(zax r17 r18 f st).1.er=0->st.t.a+1<=(zax r17 r18 f st).1.t.a):=by
 have h0:=Fwd.fresh hI;have hop:st.fresh.op=0:=ho;have h1:=zit h0;have h2:=zeP (f:=f) (vars:=(zaI st.fresh).2) h1.1.inv;have h3:=zkQ g17 g18 (f:=f) h2.1.inv (by rw[h2.2.1,h1.2.1];exact hop);have hn:zei r17 r18 f st nodes=((zeO r17 r18 f (zaS f (zaI st.fresh).1 (zaI st.fresh).2).1).1,nodes++[⟨(st.fresh.must 5 zW).t.s,(st.fresh.must 5 zW).t.a,(zaS f (zaI st.fresh).1 (zaI st.fresh).2).2,(zeO r17 r18 f (zaS f (zaI st.fresh).1 (zaI st.fresh).2).1).1.L,(zeO r17 r18 f (zaS f (zaI st.fresh).1 (zaI st.fresh).2).1).2⟩]):=by unfold zei;rw[if_neg hl]
 have hc:zax r17 r18 f st=((zdr r17 r18 f (zaS f (zaI st.fresh).1 (zaI st.fresh).2).1).1,⟨(st.fresh.must 5 zW).t.s,(st.fresh.must 5 zW).t.a,(zaS f (zaI st.fresh).1 (zaI st.fresh).2).2,(zdr r17 r18 f (zaS f (zaI st.fresh).1 (zaI st.fresh).2).1).1.L,(zdr r17 r18 f (zaS f (zaI st.fresh).1 (zaI st.fresh).2).1).2⟩):=rfl;generalize hv:zaS f (zaI st.fresh).1 (zaI st.fresh).2=v at *;rw[hn,hc];refine⟨h3.1,λhe=>?_,h3.2.2.1.inv,h3.2.2.2,λhe he'=>?_⟩
 . rw[h3.2.1 he]
 . have e1:=Fwd.must h0 5 zW;have e2:=Fwd.name e1.inv;have e3:=zbx (i:=true) (vars:=[]) e2.inv;have e4:=Fwd.must e3.1.inv 4 [45,62];have e5:=zbx (i:=false) (vars:=(zab true (st.fresh.must 5 zW).name []).2) e4.inv;have hw:Fwd 0 (st.fresh.must 5 zW) (zdr r17 r18 f v.1).1:=((((e2.trans e3.1).trans e4).trans e5.1).trans h2.1).trans h3.2.2.1;have hb:=hw.back he';have hta:=hw.ta;have hk:st.fresh.is 5 zW=true:=by
    cases h:st.fresh.is 5 zW with
    | true=>rfl
    | false =>
      have:st.fresh.must 5 zW=st.fresh.fail 2 st.fresh.t.a:=by unfold St.must;rw[if_neg (by rw[h];simp)]
      rw[this] at hb;exact absurd hb (St.fail_er _ (by decide))
   have hst:st.fresh.must 5 zW=st.fresh.step:=(by unfold St.must;rw[if_pos hk]);have he0:st.fresh.er=0:=he;have h6:=h0.tok (by rw[Inv.is_k hk];decide);have h7:=zV st.fresh.src st.fresh.t.t h0.ok.tt;have h8:st.fresh.t.a+1<=st.fresh.step.t.a:=(by rw[St.step_ok he0];simp only;omega);rw[hst] at hta;exact Nat.le_trans h8 hta
theorem zFS (g17:zv 17 r17)(g18:zv 18 r18)(hI:Inv p st)(ho:st.op=0)(he:st.er=0)(h:¬(st.is 5 zW=true/\nodes.length<6)):(zei r17 r18 f st nodes).1.er=2/\(zei r17 r18 f st nodes).1.at'=st.t.a:=by
 have he0:st.fresh.er=0:=he;by_cases hl:6<=nodes.length
 . unfold zei;rw[if_pos hl];exact zkv he0
 . have hk:st.fresh.is 5 zW=false:=by
    cases hh:st.fresh.is 5 zW with
    | false=>rfl
    | true=>exact absurd ⟨hh,by omega⟩ h
   have h0:=Fwd.fresh hI;have h1:=zit h0;have h2:=zeP (f:=f) (vars:=(zaI st.fresh).2) h1.1.inv;have h3:=zkQ g17 g18 (f:=f) h2.1.inv (by rw[h2.2.1,h1.2.1];exact ho);have hm:st.fresh.must 5 zW=st.fresh.fail 2 st.fresh.t.a:=(by unfold St.must;rw[if_neg (by rw[hk];simp)]);have hf:=zkv he0 (e:=2) (a:=st.fresh.t.a);rw[<- hm] at hf;have hs1:zbu (st.fresh.must 5 zW) (zaI st.fresh).1:=(((zbu.name _).trans (zzV true _ _)).trans (zbu.must _ 4 [45,62])).trans (zzV false _ _);have hs2:=hs1.trans (zBR f (zaI st.fresh).1 (zaI st.fresh).2);have hv:=hs2 (by rw[hf.1];decide);have hve:(zaS f (zaI st.fresh).1 (zaI st.fresh).2).1.er≠0:=(by rw[hv.1,hf.1];decide);have hb:zbu (zaS f (zaI st.fresh).1 (zaI st.fresh).2).1 (zeO r17 r18 f (zaS f (zaI st.fresh).1 (zaI st.fresh).2).1).1:=(by have i1:=Fwd.must h2.1.inv 4 [123];have o1:((zaS f (zaI st.fresh).1 (zaI st.fresh).2).1.must 4 [123]).op=0:=(by rw[St.must_op,h2.2.1,h1.2.1];exact ho);have s1:=(zbu.must (zaS f (zaI st.fresh).1 (zaI st.fresh).2).1 4 [123]).trans (zbu.equation (r17:=r17) g18 i1.inv o1 []);refine (s1.trans ?_).trans (zbu.must _ 4 [125]);intro he2;rw[zim he2];exact⟨rfl,rfl⟩);have hb2:=hb hve;have hn:(zei r17 r18 f st nodes).1=(zeO r17 r18 f (zaS f (zaI st.fresh).1 (zaI st.fresh).2).1).1:=(by unfold zei;rw[if_neg hl]);rw[hn];exact⟨(hb2.1.trans hv.1).trans hf.1,(hb2.2.trans hv.2).trans hf.2⟩
theorem zz7 {x:St×List Nd}(he:x.1.er≠0):zyS r17 r18 g f x=x:=by
 cases f with
 | zero=>rfl
 | succ f=>show (if _ then _ else x)=x;rw[if_neg (λh=>he h.1)]
theorem zze {x:St×List Nd}(hI:Inv p x.1)(he:x.1.er≠0):zdZ r17 r18 g f x=x:=by
 cases f with
 | zero=>rfl
 | succ f => show (if _ then _ else x)=x;have hb:=hI.bad he;rw[if_neg];rintro⟨h,_⟩;simp[St.is,hb] at h
theorem zzQ (st:St):zbu st (zbB st):=by
 unfold zbB;split
 . exact zbu.refl st
 . exact zbu.fail st _ _
theorem zCL (g17:zv 17 r17)(g18:zv 18 r18)(g:Nat):∀(f p:Nat) (x:St×List Nd),Inv p x.1->x.1.op=0->x.1.er=0->1201-x.1.t.a<f ->
 zeL (zbB (zdZ r17 r18 g f x).1) (zyS r17 r18 g f x).1/\((zbB (zdZ r17 r18 g f x).1).er=0->(zdZ r17 r18 g f x).2=(zyS r17 r18 g f x).2):=by
 intro f;induction f with
 | zero=>intro p x _ _ _ h;omega
 | succ f ih =>
   intro p x hI ho he hf;have hc:zdZ r17 r18 g (f+1) x=if x.1.is 5 zW=true/\x.2.length<6 then zdZ r17 r18 g f ((zax r17 r18 g x.1).1,x.2++[(zax r17 r18 g x.1).2]) else x:=rfl;have hd:zyS r17 r18 g (f+1) x=if x.1.er=0/\x.1.t.k≠0 then zyS r17 r18 g f (zei r17 r18 g x.1 x.2) else x:=rfl;by_cases h1:x.1.is 5 zW=true/\x.2.length<6
   . have hk:=Inv.is_k h1.1;rw[hc,hd,if_pos h1,if_pos ⟨he,by rw[hk];decide⟩];obtain⟨ha,hq,hi,hop,hmore⟩:=zhx g17 g18 (f:=g) (nodes:=x.2) hI ho (by omega);by_cases he1:(zax r17 r18 g x.1).1.er=0
     . rw[hq he1];have hm:=hmore he he1;have:=hI.ok.ta_le;have:=hi.ok.ta_le;exact ih 0 _ hi hop he1 (by simp only;omega)
     . have he2:(zei r17 r18 g x.1 x.2).1.er≠0:=(by rw[<- ha.er];exact he1);rw[zz7 he2,zze hi he1];have hs:=zzQ (zax r17 r18 g x.1).1 he1;simp only;refine⟨⟨by rw[hs.1,ha.er],by rw[hs.2,ha.at'],λh=>?_⟩,λh=>?_⟩
       . rw[hs.1] at h;exact absurd h he1
       . rw[hs.1] at h;exact absurd h he1
   . rw[hc,hd,if_neg h1];by_cases hk:x.1.t.k=0
     . rw[if_neg (λh=>h.2 hk)];have:zbB x.1=x.1:=by unfold zbB;rw[if_pos hk]
       rw[this];exact⟨zeL.refl _,λ_=>rfl⟩
     . rw[if_pos ⟨he,hk⟩];have hn:=zFS g17 g18 (f:=g) hI ho he h1;have hne:(zei r17 r18 g x.1 x.2).1.er≠0:=(by rw[hn.1];decide);rw[zz7 hne];have:zbB x.1=x.1.fail 2 x.1.t.a:=(by unfold zbB;rw[if_neg hk]);rw[this];have hf:=zkv he (e:=2) (a:=x.1.t.a);refine⟨⟨by rw[hf.1,hn.1],by rw[hf.2,hn.2],λh=>?_⟩,λh=>?_⟩
       . rw[hf.1] at h;cases h
       . rw[hf.1] at h;cases h
theorem zBj (g17:zv 17 r17)(g18:zv 18 r18)(g:Nat)(hg:1201<g)(s:ByteArray)(hI:Inv 0 (⟨s,zZ s 0,0,0,0,[]⟩:St)) :
 zeL (zgo r17 r18 g s).1 (zAP r17 r18 g s).1/\((zgo r17 r18 g s).1.er=0->(zgo r17 r18 g s).2=(zAP r17 r18 g s).2):=by
 unfold zgo zAP;simp only;obtain⟨ha,hq,hi,hop,hmore⟩:=zhx g17 g18 (f:=g) (nodes:=[]) hI rfl (by simp);by_cases he1:(zax r17 r18 g (⟨s,zZ s 0,0,0,0,[]⟩:St)).1.er=0
 . rw[hq he1];exact zCL g17 g18 g g 0 _ hi hop he1 (by simp only;omega)
 . have he2:(zei r17 r18 g (⟨s,zZ s 0,0,0,0,[]⟩:St) []).1.er≠0:=by rw[<- ha.er];exact he1
   rw[zz7 he2,zze hi he1];have hs:=zzQ (zax r17 r18 g (⟨s,zZ s 0,0,0,0,[]⟩:St)).1 he1;refine⟨⟨by rw[hs.1,ha.er],by rw[hs.2,ha.at'],λh=>?_⟩,λh=>?_⟩
   . rw[hs.1] at h;exact absurd h he1
   . rw[hs.1] at h;exact absurd h he1
end
section
open Go.RowKit
variable {q:Eqn} {eqs:List Eqn} {L:List Ex} {vx xs:List Value} {B m nb nv p pb:Nat} {S:Nat->Addr} {T:Nat->Prop} {a:Option Addr} {s s':St} {av av' c0 c1 c2 c3 c4 ev lv:Value} {w w' wr:World} {P:World->Nat->Prop}
def Was (B:Nat)(wr:World)(av:Value)(P:World->Nat->Prop):Prop :=
 ∃(wi:World) (Bi:Nat),B<=Bi/\P wi Bi/\(∀k,Bi<=k->k<wi.heap.size->wr.heap[k]?=wi.heap[k]?)/\(∀g,av.ownBlock=some g->g<Bi∨wi.heap.size<=g)/\wi.heap.size<=wr.heap.size
theorem Was.imp {Q:World->Nat->Prop}(h:Was B wr av P)(hi:∀w b,P w b->Q w b):Was B wr av Q:=by obtain⟨wi,Bi,h1,h2,h3,h4,h5⟩:=h;exact⟨wi,Bi,h1,hi _ _ h2,h3,h4,h5⟩
theorem Was.next (h:Was B wr av P)(hf:Fr T wr w')(hT:∀k,T k->k<B∨av.ownBlock=some k)(ha:∀k,av'.ownBlock=some k->av.ownBlock=some k∨wr.heap.size<=k):Was B w' av' P:=by
 obtain⟨wi,Bi,h1,h2,h3,h4,h5⟩:=h;refine⟨wi,Bi,h1,h2,λk hk1 hk2=>?_,λg hg=>?_,Nat.le_trans h5 hf.size⟩
 . refine (hf.block k (Nat.lt_of_lt_of_le hk2 h5) (λht=>?_)).trans (h3 k hk1 hk2);rcases hT k ht with h|h
   . omega
   . rcases h4 k h with h|h <;> omega
 . rcases ha g hg with h|h
   . exact h4 g h
   . exact Or.inr (Nat.le_trans h5 h)
structure EQ (L:List Ex) (q:Eqn) (lv:Value) (a:Option Addr) (w:World) (B:Nat):Prop where
 own:w.ownsRow B 144 2 lv q.ns.length (nmC q.ns q.ps)
 tr:TR w B L q.ex (.pointer a)
theorem EQ.kept (h:EQ L q lv a w B)(hk:∀k,B<=k->k<w.heap.size->w'.heap[k]?=w.heap[k]?):EQ L q lv a w' B :=
 ⟨zi h.own (λk h1 h2 _=>hk k h1 h2),h.tr.kept hk⟩
theorem EQ.down {B':Nat}(h:EQ L q lv a w B)(hb:B'<=B):EQ L q lv a w B':=⟨zR h.own hb,h.tr.down hb⟩
theorem EQ.more (h:EQ L q lv a w B)(E:List Ex):EQ (L++E) q lv a w B:=⟨h.own,h.tr.more E⟩
theorem zq4 (h:Was B wr av (EQ L q lv a)):EQ L q lv a wr B:=by obtain⟨wi,Bi,h1,h2,h3,_,_⟩:=h;exact (h2.kept h3).down h1
def zcJ (B:Nat)(wr:World)(av:Value)(L:List Ex):List Eqn->List Value->Prop
 | [],xs=>xs=[]
 | q::qs,xs=>∃lv a ys,xs=lv::(xI q.a)::.pointer a::ys/\Was B wr av (EQ L q lv a)/\zcJ B wr av L qs ys
theorem zcJ.next (E:List Ex)(hf:Fr T wr w')(hT:∀k,T k->k<B∨av.ownBlock=some k)(ha:∀k,av'.ownBlock=some k->av.ownBlock=some k∨wr.heap.size<=k) :
 ∀(qs:List Eqn) (xs:List Value),zcJ B wr av L qs xs->zcJ B w' av' (L++E) qs xs:=by
 intro qs;induction qs with
 | nil=>intro xs h;exact h
 | cons q qs ih => rintro xs ⟨lv,a,ys,h1,h2,h3⟩;exact⟨lv,a,ys,h1,(h2.next hf hT ha).imp (λ_ _ h=>h.more E),ih ys h3⟩
theorem zcJ.snoc (h2:Was B wr av (EQ L q lv a)):∀(qs:List Eqn) (xs:List Value),zcJ B wr av L qs xs->zcJ B wr av L (qs++[q]) (xs++[lv,xI q.a,.pointer a]):=by
 intro qs;induction qs with
 | nil=>rintro xs rfl;exact⟨lv,a,[],rfl,h2,rfl⟩
 | cons q' qs ih => rintro xs ⟨lv',a',ys,rfl,h4,h3⟩;exact⟨lv',a',_,rfl,h4,ih ys h3⟩
structure EI (S:Nat->Addr) (pb nb B p:Nat) (w wr:World) (c0 c1 c2 c3 c4:Value) (nv:Nat) (vx:List Value) (s:St) (eqs:List Eqn) (ev:Value) (m:Nat) (xs:List Value):Prop where
 inv:Inv p s
 op:s.op=0
 pl:PL S wr pb s
 blk:xH wr nb #[c0,c1,c2,c3,c4,ev] 147
 vown:wr.ownsRow B 156 7 c2 nv vx
 vne:∀k,c2.ownBlock=some k->¬ev.ownBlock=some k
 own:wr.ownsRow B 161 3 ev m xs
 ok:s.er=0->m=eqs.length/\zcJ B wr ev s.L eqs xs
 fr:Fr (·=pb) w wr
theorem EI.goes (h:EI S pb nb B p w wr c0 c1 c2 c3 c4 nv vx s eqs ev m xs)(hnp:pb<nb)(hBn:nb<B)(hI:Inv p s')(ho:s'.op=0)(hl:s'.L=s.L)(he:s'.er=0->s.er=0)(hL:PL S w' pb s')(hF:Fr (·=pb) wr w'):EI S pb nb B p w w' c0 c1 c2 c3 c4 nv vx s' eqs ev m xs:=by refine⟨hI,ho,hL,(hF.block nb (ze h.blk) (by omega)).trans h.blk,zi h.vown (λk h1 h2 _=>hF.block k h2 (by omega)),h.vne,zi h.own (λk h1 h2 _=>hF.block k h2 (by omega)),λh'=>?_,h.fr.trans hF⟩;obtain⟨k1,k2⟩:=h.ok (he h');refine⟨k1,?_⟩;have:=zcJ.next (av':=ev) [] hF (λk hk=>Or.inl (by omega)) (λk hk=>Or.inl hk) _ _ k2;rw[hl];simpa using this
theorem zph {w1 w9:World}{v':Value}{k1 pl:Nat}{ys:List Value}{X:Obj}
 (h:EI S pb nb B p w wr c0 c1 c2 c3 c4 nv vx s eqs ev m xs) (hnp:pb<nb) (hBn:nb<B) (hwn:w.heap.size<=nb) (hBw:B<=wr.heap.size) (g:Fwd p s s') (ho:s'.op=0)
 (hF1:Fr (·=pb) wr w1) (hown1:w1.ownsRow wr.heap.size 144 2 lv k1 ys) (hok:s'.er=0->k1=q.ns.length/\ys=nmC q.ns q.ps/\pl=q.a/\TR w1 wr.heap.size s'.L q.ex (.pointer a))
 (hL9:PL S w9 pb s') (hF9:Fr (λk=>ev.ownBlock=some k) (w1.alloc X) w9) (hn9:w9.heap[nb]?=some (.cells #[c0,c1,c2,c3,c4,ev] 147 (0,0)))
 (hown:w9.ownsRow B 161 3 v' (m+1) (xs++[lv,xI pl,.pointer a])) (hnew:∀k,v'.ownBlock=some k->ev.ownBlock=some k∨(w1.alloc X).heap.size<=k) :
 EI S pb nb B p w (w9.setCell (xD nb 5) v') c0 c1 c2 c3 c4 nv vx s' (eqs++[q]) v' (m+1) (xs++[lv,xI pl,.pointer a]):=by
 have hev:∀k,ev.ownBlock=some k->B<=k/\k<wr.heap.size:=λk hk=>h.own.lt k hk;have hvv:∀k,c2.ownBlock=some k->B<=k/\k<wr.heap.size:=λk hk=>h.vown.lt k hk;have hz1:=hF1.size;have hz9:=hF9.size;have hzx:(w1.alloc X).heap.size=w1.heap.size+1:=by simp
 have hFa:Fr (λk=>k=pb∨k=nb∨ev.ownBlock=some k) wr (w9.setCell (xD nb 5) v'):=by have h1:Fr (λk=>k=pb∨k=nb∨ev.ownBlock=some k) wr (w1.alloc X):=(hF1.mono (λ_ _ h=>Or.inl h)).alloc X;exact (h1.trans' hF9 (λ_ _ h=>Or.inr (Or.inr h))).setCell (Or.inl (Or.inr (Or.inl rfl))) _
 obtain⟨E,hE⟩:=g.L;refine⟨g.inv,ho,hL9.setOther hnp _ _,zh _ _ _ _ hn9,?_,?_,zi hown (λk h1 _ _=>zr (by omega) rfl),?_,?_⟩
 . exact zi h.vown (λk h1 h2 h3=>hFa.block k h2 (λhk=>by
    rcases hk with hk|hk|hk
    . omega
    . omega
    . exact h.vne k h3 hk))
 . intro k hk hk';rcases hnew k hk' with h1|h1
   . exact h.vne k hk h1
   . have:=(hvv k hk).2;omega
 . intro he;obtain⟨e1,e2⟩:=h.ok (g.er0' he);obtain⟨o1,o2,o3,o4⟩:=hok he;subst o1 o2 o3;refine⟨by simp[e1],?_⟩;have hE2:=zcJ.next (av':=v') E hFa (λk hk=>by
    rcases hk with hk|hk|hk
    . left;omega
    . left;omega
    . exact Or.inr hk) (λk hk=>by
    rcases hnew k hk with h1|h1
    . exact Or.inl h1
    . right;omega) _ _ e2
   rw[<- hE] at hE2;refine zcJ.snoc ?_ _ _ hE2;refine⟨w1,wr.heap.size,hBw,⟨hown1,o4⟩,λk h1 h2=>?_,λg hg=>?_,?_⟩
   . exact zr (by omega) ((hF9.block k (by omega) (λh=>by have:=(hev k h).2;omega)).trans (Below.heap_alloc _ _ _ h2))
   . rcases hnew g hg with h|h
     . left;exact (hev g h).2
     . right;omega
   . simp[World.setCell];omega
 . have h1:Fr (·=pb) w (w1.alloc X):=(h.fr.trans hF1).alloc X;exact (h1.trans' hF9 (λi hi hs=>by have:=(hev i hs).1;omega)).setNew hwn _ _
end
end Go.Proofs.YtmfkofhgdjechaaGreatDoor
