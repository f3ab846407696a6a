/- Part 12 of the proof: RefZ3 MdlC MdlY MdlO Blk. -/
import Derived.Lib.ItoaNum
import Derived.Test.YtmfkofhgdjechaaGreatDoorK10
set_option maxRecDepth 100000
set_option maxHeartbeats 8000000
namespace Go.Proofs.YtmfkofhgdjechaaGreatDoor
open Go.Proofs.Tryz
section
open Go.RowKit
variable {s:ByteArray} {r17 r18:Fn}
theorem zCe (h17:zyq 17 260 r17)(g17:zv 17 r17)(h18:zyq 18 260 r18)(g18:zv 18 r18)(f:Nat)(hf:f=1300)(rb:Nat)(F:Fx)(xs:Rw)(n:Nw)(st:St)(nodes:List Nd)(p:Nat)(w:World)(hI:Inv p st)(ho:st.op=0)(hfn:F.nodes=n.v)(hR:zs w rb F xs st)(hN:zyT w rb n nodes) :
 xK 148 #[xP rb] w (zDy rb n w (zei r17 r18 f st nodes).1 (zei r17 r18 f st nodes).2):=by
 by_cases hl:6<=nodes.length
 . exact zD0 f rb F xs n st nodes p w hI hfn hR hN hl
 . exact zFo h17 g17 h18 g18 f hf rb F xs n st nodes p w hI ho hfn hR hN hl _ _ _ _ _ ⟨rfl,rfl,rfl,rfl,rfl⟩
def St.zero (s:ByteArray):St:=⟨s,⟨0,0,0,⟨#[]⟩,0⟩,0,0,0,[]⟩
theorem zF9 (hs:s.size<=1200):(St.zero s).Ok:=⟨hs,Nat.zero_le _,Nat.le_refl _,Nat.zero_le _,Nat.zero_le _,Nat.zero_le _,Nat.zero_le _,Nat.zero_le _⟩
theorem zBQ (s:ByteArray):(St.zero s).step=⟨s,zZ s 0,0,0,0,[]⟩:=rfl
theorem zzo (hs:s.size<=1200):Inv 0 (⟨s,zZ s 0,0,0,0,[]⟩:St):=by have h:=zV s 0 (Nat.zero_le _);refine⟨⟨hs,h.2.2.1,h.2.1,h.2.2.2.1,Nat.zero_le _,Nat.zero_le _,Nat.zero_le _,h.2.2.2.2.1⟩,?_,Nat.zero_le _,λ_=>Nat.zero_le _,λh=>absurd rfl h,h.2.2.2.2.2⟩;simp
def zBE (x:St×List Nd):Nat:=if x.1.er=0 then 8-x.2.length else 0
theorem zFv (r17 r18:Fn)(f:Nat)(st:St)(nodes:List Nd)(he:(zei r17 r18 f st nodes).1.er=0)(_h0:st.er=0):(zei r17 r18 f st nodes).2.length=nodes.length+1/\nodes.length<6:=by
 unfold zei at he ⊢;split
 . rename_i hl
   rw[if_pos hl] at he;exact absurd he (St.fail_er st.fresh (by omega))
 . exact⟨by simp,by omega⟩
theorem zCi (r17 r18:Fn)(f:Nat)(st:St)(nodes:List Nd)(h:nodes.length<=6):(zei r17 r18 f st nodes).2.length<=6:=by
 unfold zei;split
 . exact h
 . simp;omega
def zGh (R:St×List Nd)(w:World)(e:Ending)(w':World):Prop :=
 ∃(rb:Nat) (n:Nw),w.heap.size<=rb/\e=.returned (.tuple #[if R.1.er=0 then n.v else .slice none 0 0,xI R.1.er,xI (if R.1.er=0 then 0 else R.1.at')])/\(R.1.er=0->zyT w' rb n R.2)/\xB w w'
theorem zFF (h17:zyq 17 260 r17)(g17:zv 17 r17)(h18:zyq 18 260 r18)(g18:zv 18 r18)(f:Nat)(hf:f=1300)(s:ByteArray)(w:World)(hs:s.size<=1200){R:St×List Nd}(hRR:zAP r17 r18 f s=R) :
 xK 87 #[.string s] w (zGh R w):=by
 have hls:¬(1200<(s.size:Int)):=by omega
 have HRR:Hid (zyS r17 r18 f f (zei r17 r18 f (St.zero s).step [])=R):=by unfold Hid;rw[zBQ];exact hRR
 have I1:Hid (Inv 0 (St.zero s).step):=by unfold Hid;rw[zBQ];exact zzo hs
 have Z0:=za (zF9 hs);have L0:zs (w.alloc (.cells #[.slice none 0 0,.string s,xI 0,xI 0,xI 0,.string ⟨#[]⟩,xI 0,xI 0,xI 0,xI 0,.string ⟨#[]⟩,xI 0,.slice none 0 0,.slice none 0 0,.slice none 0 0] 272)) w.heap.size ⟨.slice none 0 0,⟨#[]⟩,0,.slice none 0 0,.slice none 0 0⟩ ⟨.slice none 0 0,[]⟩ (St.zero s):=zc w _;have HL0:=za L0;have HF0:=za hf;clear L0 hRR hf hs;go_enter func87,ntmps87;go_wp2_with fail;refine (zyg w.heap.size _ _ (St.zero s) _ Z0.o HL0.o).mono ?_;rintro e w1 ⟨rfl,hL1,hF1⟩;have HL1:=za hL1;have hB1:xB w w1:=by have h1:Fr (λ_=>False) w (w.alloc (.cells #[.slice none 0 0,.string s,xI 0,xI 0,xI 0,.string ⟨#[]⟩,xI 0,xI 0,xI 0,xI 0,.string ⟨#[]⟩,xI 0,.slice none 0 0,.slice none 0 0,.slice none 0 0] 272)):=(Fr.refl _ w).alloc _;have h:=h1.trans' hF1 (λi hi h=>by omega);exact⟨h.os,h.tape,h.output,h.size,λk hk=>h.block k hk (λh=>h)⟩
 have HB1:=za hB1;have N1:Hid (zyT w1 w.heap.size ⟨.slice none 0 0,[]⟩ []):=⟨rfl,World.ownsRow_nil _ _ _ _,λi d s hd=>by simp at hd⟩;clear hL1 hF1 hB1;obtain⟨x0,hx0⟩:∃x,zei r17 r18 f (St.zero s).step []=x:=⟨_,rfl⟩;have G0:=zmW g17 g18 (f:=f) (nodes:=[]) I1.o rfl;have HN0:=za (zCe h17 g17 h18 g18 f HF0.o w.heap.size _ _ ⟨.slice none 0 0,[]⟩ (St.zero s).step [] 0 w1 I1.o rfl rfl HL1.o N1.o);have HL:=za (zCi r17 r18 f (St.zero s).step [] (by simp));rw[hx0] at G0 HN0 HRR HL;have HG0:=za G0;clear G0 hx0;go_wp2_with fail;refine HN0.o.mono ?_;rintro e w2 ⟨F2,xs2,n2,rfl,hn2,hL2,hN2,hF2,hW2⟩;have HB2:Hid (xB w w2):=by
  refine HB1.o.trans ⟨hF2.os,hF2.tape,hF2.output,hF2.size,λk hk=>hF2.block k (Nat.lt_of_lt_of_le hk HB1.o.size) (λh=>?_)⟩;rcases h with h|h
  . omega
  . cases h
 have HQ2:Hid (∃(F:Fx) (xs:Rw) (n:Nw),F.nodes=n.v/\zs w2 w.heap.size F xs x0.1/\zyT w2 w.heap.size n x0.2/\∀k,n.v.ownBlock=some k->w.heap.size<=k):=⟨F2,xs2,n2,hn2,hL2,hN2,λk hk=>by have:=(hN2.2.1.lt k hk).1;omega⟩;clear hn2 hL2 hN2 hF2 hW2 N1 HL1 HB1;go_wp2_with fail;go_loopg [29] f (λk _ wr=>∃(x:St×List Nd),Hid (zyS r17 r18 f k x=R)/\zBE x<k/\Hid (x.2.length<=6)/\Hid (Inv 0 x.1)/\Hid (x.1.op=0)/\Hid (xB w wr)/\Hid (∃(F:Fx) (xs:Rw) (n:Nw),F.nodes=n.v/\zs wr w.heap.size F xs x.1/\zyT wr w.heap.size n x.2/\∀k,n.v.ownBlock=some k->w.heap.size<=k));case atStart => have hf:=HF0.o;refine⟨x0,HRR,?_,HL.o,za HG0.o.1,za HG0.o.2.1,HB2,HQ2⟩;unfold zBE;split <;> omega
 case round =>
  obtain⟨x,HF,hrem,HL3,HI3,HO3,HB3,HQ3⟩:=hrel;obtain⟨F3,xs3,n3,hn3,hL3,hN3,hW3⟩:=HQ3.o;obtain⟨a0,a1,a2,a3,a4,a5,a6,a7,a8,a9,a10,a11,a12,a13,a14⟩:=hL3.cells;obtain⟨f',rfl⟩:∃f',gk=f'+1:=⟨gk-1,by omega⟩;by_cases hc:x.1.er=0/\x.1.t.k≠0
  . have he':((x.1.er:Int)==0)=true:=beq_iff_eq.2 (by omega);have hk':((x.1.t.k:Int) != 0)=true:=by rw[bne_iff_ne];omega
    have g4:=zmW g17 g18 (f:=f) (nodes:=x.2) HI3.o HO3.o;have HF2:Hid (zyS r17 r18 f f' (zei r17 r18 f x.1 x.2)=R):=by
     have h:=HF.o;unfold Hid;rw[<- h]
     show _=(if x.1.er=0/\x.1.t.k≠0 then _ else x);rw[if_pos hc]
    have hrem':Hid (zBE (zei r17 r18 f x.1 x.2)<f'):=by
     unfold Hid zBE;have h1:zBE x=8-x.2.length:=(by unfold zBE;rw[if_pos hc.1]);have h7:=HL3.o;split
     . rename_i hz
       have h2:=zFv r17 r18 f x.1 x.2 hz hc.1;omega
     . omega
    have HQ4:=za (zCe h17 g17 h18 g18 f HF0.o w.heap.size _ _ n3 x.1 x.2 0 wr HI3.o HO3.o hn3 hL3 hN3);have HG4:=za g4;have HL4:=za (zCi r17 r18 f x.1 x.2 HL3.o);have HW3:=za hW3;clear hc g4 HF hL3 hN3 hW3 hn3 HQ3;generalize zei r17 r18 f x.1 x.2=y at *;go_wp2_with fail;refine HQ4.o.mono ?_;rintro e w5 ⟨F5,xs5,n5,rfl,hn5,hL5,hN5,hF5,hW5⟩;have HB5:Hid (xB w w5):=by
     refine HB3.o.trans ⟨hF5.os,hF5.tape,hF5.output,hF5.size,λk hk=>hF5.block k (Nat.lt_of_lt_of_le hk HB3.o.size) (λh=>?_)⟩;rcases h with h|h
     . omega
     . have:=HW3.o k h;omega
    have HQ5:Hid (∃(F:Fx) (xs:Rw) (n:Nw),F.nodes=n.v/\zs w5 w.heap.size F xs y.1/\zyT w5 w.heap.size n y.2/\∀k,n.v.ownBlock=some k->w.heap.size<=k):=⟨F5,xs5,n5,hn5,hL5,hN5,λk hk=>by have:=(hN5.2.1.lt k hk).1;omega⟩;clear hn5 hL5 hN5 hF5 hW5;go_wp2_with fail;go_roundg f';case measure=>omega
    case rel=>exact⟨y,HF2,hrem'.out,HL4,za HG4.o.1,za HG4.o.2.1,HB5,HQ5⟩
  . have HF2:x=R:=by
     have h:=HF.o;rw[<- h]
     show x=(if x.1.er=0/\x.1.t.k≠0 then _ else x);rw[if_neg hc]
    subst HF2;have HN3:=za hN3;clear hL3 hN3 hW3 HQ3 HF;by_cases he:x.1.er=0
    . have he':((x.1.er:Int)==0)=true:=beq_iff_eq.2 (by omega);have hn':((x.1.er:Int) != 0)=false:=(by rw[bne_eq_false_iff_eq];omega);have hk':((x.1.t.k:Int) != 0)=false:=(by rw[bne_eq_false_iff_eq];by_cases hk:x.1.t.k=0;omega;exact absurd ⟨he,hk⟩ hc);have HE:=za he;rw[hn3] at a0;clear hc he;go_wp2_with fail;refine bodyPost_ret (v:=.tuple #[n3.v,xI 0,xI 0]) (by simp[results,results87,go_sem]) rfl ⟨w.heap.size,n3,Nat.le_refl _,?_,λ_=>HN3.o,HB3.o⟩;rw[HE.o];rfl
    . have he':((x.1.er:Int)==0)=false:=beq_eq_false_iff_ne.2 (by omega);have hn':((x.1.er:Int) != 0)=true:=(by rw[bne_iff_ne];omega);have HE:=za he;clear hc he;go_wp2_with fail;go_region;all_goals go_wp2_with fail
      all_goals (refine bodyPost_ret (v:=.tuple #[.slice none 0 0,xI x.1.er,xI x.1.at']) (by simp[results,results87,go_sem]) rfl ⟨w.heap.size,n3,Nat.le_refl _,?_,λh=>absurd h HE.o,HB3.o.drew⟩;rw[if_neg HE.o,if_neg HE.o])
theorem zB8 (s:ByteArray)(w:World)(hs:1200<s.size) :
 xK 87 #[.string s] w (λe w'=>e=.returned (.tuple #[.slice none 0 0,xI 1,xI 0])/\w=w'):=by
 have hls:1200<(s.size:Int):=by omega
 go_enter func87,ntmps87;go_wp2_with fail;exact bodyPost_ret (v:=.tuple #[.slice none 0 0,xI 1,xI 0]) (by simp[results,results87,go_sem]) rfl ⟨rfl,rfl⟩
end
section
variable {r17 r18:Fn} {f p:Nat} {st:St} {x:St×List Eqn}
def zb5 (r17 r18:Fn):Nat->St×List Eqn->St×List Eqn
 | 0,x=>x
 | f+1,x=>if x.1.t.k=2∨x.1.is 4 [40]=true then zb5 r17 r18 f (zF r17 r18 x.1 x.2) else x
def zdr (r17 r18:Fn)(f:Nat)(st:St):St×List Eqn :=
 let x:=zb5 r17 r18 f (zF r17 r18 (st.must 4 [123]) [])
 (x.1.must 4 [125],x.2)
def zax (r17 r18:Fn)(f:Nat)(st:St):St×Nd :=
 let h:=zaI st.fresh
 let v:=zaS f h.1 h.2
 let b:=zdr r17 r18 f v.1
 (b.1,⟨(st.fresh.must 5 zW).t.s,(st.fresh.must 5 zW).t.a,v.2,b.1.L,b.2⟩)
def zdZ (r17 r18:Fn)(g:Nat):Nat->St×List Nd->St×List Nd
 | 0,x=>x
 | f+1,x=>if x.1.is 5 zW=true/\x.2.length<6 then zdZ r17 r18 g f ((zax r17 r18 g x.1).1,x.2++[(zax r17 r18 g x.1).2]) else x
def zbB (st:St):St:=if st.t.k=0 then st else st.fail 2 st.t.a
def zgo (r17 r18:Fn)(g:Nat)(s:ByteArray):St×List Nd :=
 let x0:St:=⟨s,zZ s 0,0,0,0,[]⟩
 let x:=zdZ r17 r18 g g ((zax r17 r18 g x0).1,[(zax r17 r18 g x0).2])
 (zbB x.1,x.2)
def zbu (a b:St):Prop:=a.er≠0->b.er=a.er/\b.at'=a.at'
theorem zbu.refl (a:St):zbu a a:=λ_=>⟨rfl,rfl⟩
theorem zbu.trans {a b c:St}(h:zbu a b)(k:zbu b c):zbu a c:=λe=>by obtain⟨h1,h2⟩:=h e;obtain⟨k1,k2⟩:=k (by rw[h1];exact e);exact⟨k1.trans h1,k2.trans h2⟩
theorem zbu.fail (st:St)(e a:Nat):zbu st (st.fail e a):=λh=>by unfold St.fail;rw[if_neg h];exact⟨rfl,rfl⟩
theorem zbu.step (st:St):zbu st st.step:=λh=>by rw[St.step_bad h];exact⟨rfl,rfl⟩
theorem zbu.must (st:St)(k:Nat)(l:List UInt8):zbu st (st.must k l):=by
 unfold St.must;split
 . exact zbu.step st
 . exact zbu.fail st _ _
theorem zbu.name (st:St):zbu st st.name:=by
 unfold St.name;split
 . exact zbu.step st
 . exact zbu.fail st _ _
theorem zkv (h:st.er=0){e a:Nat}:(st.fail e a).er=e/\(st.fail e a).at'=a:=by unfold St.fail;rw[if_pos h];exact⟨rfl,rfl⟩
theorem zbu.right (g18:zv 18 r18){many:Bool}(hI:Inv p st)(ho:st.op=0):zbu st (zck r17 r18 many st).1:=by
 intro he;unfold zck;split
 . have h1:=Fwd.name hI;have hn:st.name.er≠0:=h1.er he;have hb:st.name.is 4 [40]=false:=by have:=h1.inv.bad hn;simp[St.is,this]
   have e:zao r17 st.t st.name=(st.name.fail 2 st.name.t.a,0):=(by unfold zao;rw[if_neg (by rw[hb];simp)]);rw[e];exact ((zbu.name st).trans (zbu.fail _ _ _)) he
 . have h2:=(g18 st p hI (by omega)).er he;rw[h2];exact⟨rfl,rfl⟩
theorem zx6:∀(f:Nat) (x:Nms),zbu x.st (zbO f x).st:=by
 intro f;induction f with
 | zero=>intro x;exact zbu.refl _
 | succ f _ => intro x he;rw[show zbO (f+1) x=if x.st.er=0/\x.st.is 4 [44]=true then zbO f x.more else x from rfl,if_neg (λh=>he h.1)];exact⟨rfl,rfl⟩
theorem zbu.left (st:St):zbu st (zaH st).st:=by
 unfold zaH;split
 . have h:=zx6 1300 (zeh st);have h0:zbu st (zeh st).st:=(((zbu.step st).trans (zbu.name _)).trans (zbu.must _ 4 [44])).trans (zbu.name _);rw[zko rfl rfl];exact h0.trans (h.trans (zbu.must _ 4 [41]))
 . exact zbu.name st
theorem zbu.equation (g18:zv 18 r18)(hI:Inv p st)(ho:st.op=0)(eqs:List Eqn):zbu st (zF r17 r18 st eqs).1:=by
 have h1:=zfO hI;have h2:=Fwd.must h1.1.inv 4 [61];have o2:((zaH st).st.must 4 [61]).op=0:=by rw[St.must_op,h1.2.1,ho]
 exact (((zbu.left st).trans (zbu.must _ 4 [61])).trans (zbu.right g18 h2.inv o2)).trans (zbu.must _ 4 [59])
structure zeL (a b:St):Prop where
 er:a.er=b.er
 at':a.at'=b.at'
 eq:a.er=0->a=b
theorem zeL.refl (a:St):zeL a a:=⟨rfl,rfl,λ_=>rfl⟩
theorem zlf (he:st.er≠0)(k:Nat)(l:List UInt8):(st.must k l).er=st.er/\(st.must k l).at'=st.at':=zbu.must st k l he
theorem zjT (g18:zv 18 r18)(hI:Inv p st)(ho:st.op=0)(he:st.er=0)(hk:¬st.t.k=2)(hp:st.is 4 [40]=false)(eqs:List Eqn):(zF r17 r18 st eqs).1.er=2/\(zF r17 r18 st eqs).1.at'=st.t.a:=by
 have hl:(zaH st).st=st.fail 2 st.t.a:=by unfold zaH;rw[if_neg (by rw[hp];simp)];unfold St.name;rw[if_neg hk]
 have h1:=zfO hI;have h2:=Fwd.must h1.1.inv 4 [61];have o2:((zaH st).st.must 4 [61]).op=0:=by rw[St.must_op,h1.2.1,ho]
 have hs:=((zbu.must (zaH st).st 4 [61]).trans (zbu.right (r17:=r17) (many:=st.is 4 [40]) g18 h2.inv o2)).trans (zbu.must _ 4 [59]);have hf:=zkv he (e:=2) (a:=st.t.a);rw[<- hl] at hf;have:=hs (by rw[hf.1];decide);exact⟨this.1.trans hf.1,this.2.trans hf.2⟩
theorem zim (he:x.1.er≠0):zd6 r17 r18 f x=x:=by
 cases f with
 | zero=>rfl
 | succ f=>show (if _ then _ else x)=x;rw[if_neg (λh=>he h.1)]
theorem zl3 (hI:Inv p x.1)(he:x.1.er≠0):zb5 r17 r18 f x=x:=by
 cases f with
 | zero=>rfl
 | succ f =>
   show (if _ then _ else x)=x;have hb:=hI.bad he;rw[if_neg];rintro (h|h)
   . rw[hb] at h;simp at h
   . simp[St.is,hb] at h
theorem zmm (g17:zv 17 r17)(g18:zv 18 r18):∀(f p:Nat) (x:St×List Eqn),Inv p x.1->x.1.op=0 ->
 zeL ((zb5 r17 r18 f x).1.must 4 [125]) ((zd6 r17 r18 f x).1.must 4 [125])/\(((zb5 r17 r18 f x).1.must 4 [125]).er=0->(zb5 r17 r18 f x).2=(zd6 r17 r18 f x).2):=by
 intro f;induction f with
 | zero=>intro p x _ _;exact⟨zeL.refl _,λ_=>rfl⟩
 | succ f ih =>
   intro p x hI ho;by_cases he:x.1.er=0
   . have hc:zb5 r17 r18 (f+1) x=if x.1.t.k=2∨x.1.is 4 [40]=true then zb5 r17 r18 f (zF r17 r18 x.1 x.2) else x:=rfl;have hd:zd6 r17 r18 (f+1) x=if x.1.er=0/\x.1.is 4 [125]=false then zd6 r17 r18 f (zF r17 r18 x.1 x.2) else x:=rfl;have g:=za1 g17 g18 (eqs:=x.2) hI ho;by_cases h1:x.1.t.k=2∨x.1.is 4 [40]=true
     . have h2:x.1.is 4 [125]=false:=by
        rcases h1 with h1|h1
        . simp[St.is,h1]
        . cases h3:x.1.is 4 [125] with
          | false=>rfl
          | true => simp only[St.is,Bool.and_eq_true,beq_iff_eq] at h1 h3;have:=h1.2.symm.trans h3.2;simp at this
       rw[hc,hd,if_pos h1,if_pos ⟨he,h2⟩];exact ih p _ g.1.inv (g.2.trans ho)
     . rw[hc,hd,if_neg h1];cases h2:x.1.is 4 [125] with
       | true=>rw[if_neg (λh=>by cases h.2)];exact⟨zeL.refl _,λ_=>rfl⟩
       | false =>
         rw[if_pos ⟨he,rfl⟩];have hk:¬x.1.t.k=2:=λh=>h1 (.inl h)
         have hp:x.1.is 4 [40]=false:=by cases h:x.1.is 4 [40] with
          | false=>rfl
          | true=>exact absurd (.inr h) h1
         have hn:=zjT (r17:=r17) g18 hI ho he hk hp x.2;have hne:(zF r17 r18 x.1 x.2).1.er≠0:=(by rw[hn.1];decide);rw[zim hne];have hm:=zlf hne 4 [125];have hl:x.1.must 4 [125]=x.1.fail 2 x.1.t.a:=(by unfold St.must;rw[if_neg (by rw[h2];simp)]);have hf:=zkv he (e:=2) (a:=x.1.t.a);rw[hl];refine⟨⟨by rw[hf.1,hm.1,hn.1],by rw[hf.2,hm.2,hn.2],λh=>?_⟩,λh=>?_⟩
         . rw[hf.1] at h;cases h
         . rw[hf.1] at h;cases h
   . rw[zim he,zl3 hI he];exact⟨zeL.refl _,λ_=>rfl⟩
end
section
variable {i:Bool} {s:ByteArray} {atm part r17 r18 rx:Fn} {vars:List Vr} {f g lv:Nat} {st:St} {t:Tk}
def zy0:List (List UInt8):=[[110,117,109,98,101,114],[98,111,111,108],[118,97,114],[99,97,108,108],[105,102],[109,101,114,103,101],[119,104,101,110],[119,104,101,110,111,116],[102,98,121],[110,101,103],[110,111,116],[97,110,100],[111,114],[120,111,114],[61],[60,62],[60],[60,61],[43],[45],[42],[47],[37]]
def exS (e:Ex):Prop:=e.n<=9223372036854775807/\e.s.size<=1200/\e.op.toList∈zy0/\e.ins.length<=1400
theorem zFc {n:Nat}(h:zco t n=true):t.s.toList∈zy0:=by
 unfold zco at h;split at h
 . cases h
 . split at h
   . rename_i h1;rcases h1 with h1|h1 <;> (rw[h1];decide)
   . split at h
     . rename_i h1;rw[h1];decide
     . split at h
       . rename_i h1;rcases h1 with h1|h1 <;> (rw[h1];decide)
       . split at h
         . rename_i h1;rcases h1 with h1|h1|h1 <;> (rw[h1];decide)
         . cases h
theorem zF7 (h:zcn t=true):t.s.toList∈zy0:=by unfold zcn at h;simp only[Bool.and_eq_true,Bool.or_eq_true,beq_iff_eq] at h;rcases h.2 with ((h1|h1)|h1)|h1 <;> (rw[h1];decide)
theorem zGj (h:zdi st=true):st.t.s.toList∈zy0:=by unfold zdi St.is at h;simp only[Bool.or_eq_true,Bool.and_eq_true,beq_iff_eq] at h;rcases h with h1|h1 <;> (rw[h1.2];decide)
theorem zGK:zlo.toList∈zy0:=by decide +kernel
theorem zGO:zk5.toList∈zy0:=by decide +kernel
theorem zGo:zef.toList∈zy0:=by decide +kernel
theorem zG9:sIf.toList∈zy0:=by decide +kernel
theorem zF3:zep.toList∈zy0:=by decide +kernel
theorem zGI:zgW.toList∈zy0:=by decide +kernel
theorem zGJ:zfR.toList∈zy0:=by decide +kernel
theorem zEK:zcb.toList∈zy0:=by decide +kernel
theorem zGQ:zcq.toList∈zy0:=by decide +kernel
structure Zs (st:St):Prop where
 src:st.src.size<=1200
 tt:st.t.t<=st.src.size
 tn:st.t.n<=9223372036854775807
 ts:st.t.s.size<=1200
 L:∀e∈st.L,exS e
def ZK (M:Fn):Prop:=∀st,Zs st->Zs (M st).1
theorem zCE (s:ByteArray)(p:Nat)(hs:s.size<=1200):(zZ s p).s.size<=1200:=by
 have hx:∀a b:Nat,(s.extract a b).size<=1200:=by intro a b;rw[ByteArray.size_extract];omega
 have h0:(⟨#[]⟩:ByteArray).size=0:=rfl;have h1:(⟨#[48]⟩:ByteArray).size=1:=rfl;unfold zZ zfg zgc zfh;simp only
 repeat' split
 all_goals first|exact hx _ _|(rw[h0];omega)|(rw[h1];omega)
theorem Zs.step (h:Zs st):Zs st.step:=by
 unfold St.step;split
 . have:=zV st.src st.t.t h.tt;exact⟨h.src,this.2.2.1,this.2.2.2.1,zCE _ _ h.src,h.L⟩
 . exact h
theorem Zs.fail (h:Zs st)(e a:Nat):Zs (st.fail e a):=by unfold St.fail;split <;> exact⟨h.src,h.tt,Nat.zero_le _,Nat.zero_le _,h.L⟩
theorem Zs.must (h:Zs st)(k:Nat)(l:List UInt8):Zs (st.must k l):=by unfold St.must;split;exact h.step;exact h.fail _ _
theorem Zs.name (h:Zs st):Zs st.name:=by unfold St.name;split;exact h.step;exact h.fail _ _
theorem Zs.enter (h:Zs st):Zs st.enter:=by have h1:Zs ({ st with op:=st.op+1 }:St):=⟨h.src,h.tt,h.tn,h.ts,h.L⟩;unfold St.enter;split;exact h1.fail _ _;exact h1.step
theorem Zs.leave (h:Zs st):Zs st.leave:=⟨h.src,h.tt,h.tn,h.ts,h.L⟩
theorem Zs.put (h:Zs st){e:Ex}(he:exS e):Zs (st.put e).1:=by
 refine⟨h.src,h.tt,h.tn,h.ts,λx hx=>?_⟩;rcases List.mem_append.1 (show x∈st.L++[e] from hx) with hx|hx
 . exact h.L x hx
 . rw[List.mem_singleton.1 hx];exact he
theorem zz8 {op:ByteArray}{a b:Nat}{l:List Nat}(ho:op.toList∈zy0)(h:s.size<=1200)(hl:l.length<=1400:=by simp):exS ⟨op,a,b,l,s,0⟩:=⟨Nat.zero_le _,h,ho,hl⟩
theorem zzj:sE.size<=1200:=Nat.zero_le _
theorem zDo (hp:ZK part):∀(f:Nat) (x:St×Nat),Zs x.1->Zs (zdq lv part f x).1
 | 0,_,h=>h
 | f+1,x,h=>by
   unfold zdq;split
   . rename_i hc
     exact zDo hp f _ ((hp _ h.step).put (zz8 (zFc hc.2) zzj))
   . exact h
theorem zBm (hp:ZK part):ZK (zcT lv part):=λst h=>zDo hp 1300 _ (hp st h)
theorem zGl {sum:Fn}(hs:ZK sum):ZK (zdJ sum):=by
 intro st h;unfold zdJ;simp only;split
 . rename_i hc
   exact (hs _ (hs st h).step).put (zz8 (zF7 hc.2) zzj)
 . exact hs st h
theorem zE9 {ru smp:Fn}(hr:ZK ru)(hs:ZK smp):ZK (zdn ru smp):=by
 intro st h;unfold zdn;split
 . refine (hr _ h.enter).leave.put (zz8 ?_ zzj);split
   . exact zGK
   . exact zGO
 . exact hs st h
theorem zAW:∀(f:Nat) (x:St×Nat),Zs x.1->Zs (zaY f x).1
 | 0,_,h=>h
 | f+1,x,h=>by
   unfold zaY;split
   . rename_i hc
     exact zAW f _ (h.step.name.put (zz8 (zGj hc.2) h.step.ts))
   . exact h
theorem zDr (ha:ZK atm):ZK (zfu atm):=λst h=>zAW 1300 _ (ha st h)
theorem zCj (hr:ZK rx):∀(f:Nat) (x:St×List Nat),Zs x.1->Zs (zc1 rx f x).1
 | 0,_,h=>h
 | f+1,x,h=>by
   unfold zc1;split
   . exact zCj hr f _ (hr _ h.step)
   . exact h
theorem zDh {ry:Fn}:∀(f:Nat) (x:St×List Nat),(zc1 ry f x).2.length<=x.2.length+f
 | 0,_=>Nat.le_refl _
 | f+1,x=>by
   unfold zc1;split
   . have:=zDh (ry:=ry) f ((ry x.1.step).1,x.2++[(ry x.1.step).2]);simp only[List.length_append,List.length_singleton] at this;omega
   . omega
theorem zDp (hr:ZK rx)(t:Tk)(ht:t.s.size<=1200):ZK (zao rx t):=by
 intro st h;unfold zao;split
 . exact ((zCj hr 1300 _ (hr _ h.enter)).must _ _).leave.put (zz8 zGo ht (Nat.le_trans (zDh 1300 _) (by simp)))
 . exact h.fail _ _
theorem zEf (hr:ZK rx):ZK (zdx rx):=λ_ h =>
 (hr _ ((hr _ ((hr _ h.enter).must _ _)).must _ _)).leave.put (zz8 zG9 zzj)
theorem zDV:ZK zjx:=λ_ h=>h.step.put (zz8 zGJ h.ts)
theorem zDa (ha:ZK atm):ZK (zch atm):=by
 intro st h;unfold zch;split
 . exact ha st h
 . exact zDV st h
theorem zFB (ha:ZK atm):ZK (zeE atm):=λ_ h =>
 (zDa ha _ (zDa ha _ h.enter.name)).leave.put (zz8 zF3 h.enter.ts)
theorem zFq (hr:ZK rx):ZK (zfQ rx):=λ_ h=>((hr _ h.enter).must _ _).leave
theorem zA5 (op:ByteArray)(n:Nat)(ho:op.toList∈zy0)(hn:n<=9223372036854775807):ZK (zdP op n):=λ_ h=>h.step.put ⟨hn,zzj,ho,Nat.zero_le _⟩
theorem zF8 {ra:Fn}(hr:ZK rx)(ha:ZK ra):ZK (zap rx ra):=by
 intro st h;unfold zap;split
 . exact h
 . split
   . exact zA5 _ _ zGQ h.tn st h
   . split
     . split
       . exact zDp hr _ h.ts _ h.step
       . exact zDV st h
     . split
       . exact zFq hr st h
       . split
         . exact zA5 _ _ zEK (by omega) st h
         . split
           . exact zA5 _ _ zEK (by omega) st h
           . split
             . exact zEf hr st h
             . split
               . exact zFB ha st h
               . exact h.fail _ _
theorem zFU {eith:Fn}(hr:ZK rx)(he:ZK eith):ZK (zgk rx eith):=by
 intro st h;unfold zgk;simp only;split
 . exact (hr _ (he st h).enter).leave.put (zz8 zGI zzj)
 . exact he st h
theorem zCG:∀d:Nat,ZK (lev d).ex/\ZK (lev d).un/\ZK (lev d).at'
 | 0=>⟨λ_ h=>h,λ_ h=>h,λ_ h=>h⟩
 | d+1=>by obtain⟨h1,h2,h3⟩:=zCG d;have ha:ZK (zap (lev d).ex (lev d).at'):=zF8 h1 h3;have hu:ZK (zdn (lev d).un (zfu (zap (lev d).ex (lev d).at'))):=zE9 h2 (zDr ha);exact⟨zFU h1 (zBm (zBm (zGl (zBm (zBm hu))))),hu,ha⟩
def VrS (v:Vr):Prop:=v.nm.size<=1200/\v.ck.size<=1200
structure NdS (d:Nd):Prop where
 nm:d.nm.size<=1200
 vars:∀v∈d.vars,VrS v
 exs:∀e∈d.exs,exS e
 eqs:∀q∈d.eqs,∀s∈q.ns,s.size<=1200
 ns:∀q∈d.eqs,q.ns.length<=1400
theorem zzv {α:Type}{l:List α}{a x:α}(h:x∈l++[a]):x∈l∨x=a:=by
 rcases List.mem_append.1 h with h|h
 . exact Or.inl h
 . exact Or.inr (List.mem_singleton.1 h)
theorem Zs.type (h:Zs st):Zs (z9 st):=by unfold z9;split;exact h.step;exact h.must _ _
theorem Zs.nott (h:Zs st):Zs (za3 st):=by unfold za3;split;exact h.step;exact h
def ZV (x:St×List Vr):Prop:=Zs x.1/\∀v∈x.2,VrS v
theorem zzy {o:Bool}(h:Zs st)(hv:∀v∈vars,VrS v):ZV (zx i o st vars):=by
 unfold zx;split
 . exact⟨h.fail _ _,hv⟩
 . have h3:=(h.name.must 4 [58]).type;simp only;split
   . refine⟨h3.step.nott.name,λv hm=>?_⟩;rcases zzv hm with hm|rfl
     . exact hv v hm
     . exact⟨h.ts,h3.step.nott.ts⟩
   . refine⟨h3,λv hm=>?_⟩;rcases zzv hm with hm|rfl
     . exact hv v hm
     . exact⟨h.ts,zzj⟩
theorem zBh:∀(f:Nat) (x:St×List Vr),ZV x->ZV (zaG i f x)
 | 0,_,h=>h
 | f+1,x,h=>by
   unfold zaG;split
   . exact zBh f _ (zzy h.1.step h.2)
   . exact h
theorem zBY (h:Zs st)(hv:∀v∈vars,VrS v):ZV (zab i st vars):=by have:=zBh (i:=i) 1300 _ (zzy (i:=i) (o:=!i) (h.must 4 [40]) hv);exact⟨this.1.must _ _,this.2⟩
theorem zCx (h:Zs st)(hv:∀v∈vars,VrS v):ZV (zaR st vars) :=
 ⟨(zzy h hv).1.must _ _,(zzy h hv).2⟩
theorem zBk:∀(f:Nat) (x:St×List Vr),ZV x->ZV (zbA f x)
 | 0,_,h=>h
 | f+1,x,h=>by
   unfold zbA;split
   . exact zBk f _ (zCx h.1 h.2)
   . exact h
theorem zGd (h:Zs st)(hv:∀v∈vars,VrS v):ZV (zaS f st vars):=by
 unfold zaS;split
 . exact zBk f _ (zCx h.step hv)
 . exact⟨h,hv⟩
theorem zFY (h:Zs st):ZV (zaI st):=by have h3:=zBY (i:=true) (vars:=[]) (h.must 5 zW).name (λv hv=>by cases hv);exact zBY (h3.1.must _ _) h3.2
def ZN (x:Nms):Prop:=Zs x.st/\∀s∈x.ns,s.size<=1200
theorem zBN:∀(f:Nat) (x:Nms),ZN x->ZN (zbO f x)
 | 0,_,h=>h
 | f+1,x,h=>by
   unfold zbO;split
   . refine zBN f _ ⟨h.1.step.name,λs hs=>?_⟩;rcases zzv hs with hs|rfl
     . exact h.2 s hs
     . exact h.1.step.ts
   . exact h
theorem zF2 (h:Zs st):ZN (zaH st):=by
 unfold zaH;split
 . have h3:=h.step.name.must 4 [44];have hy:=zBN 1300 ⟨(st.step.name.must 4 [44]).name,[st.step.t.s,(st.step.name.must 4 [44]).t.s],[st.step.t.a,(st.step.name.must 4 [44]).t.a]⟩ ⟨h3.name,λs hs=>by
    simp only[List.mem_cons,List.not_mem_nil,or_false] at hs;rcases hs with rfl|rfl
    . exact h.step.ts
    . exact h3.ts⟩
   exact⟨hy.1.must _ _,hy.2⟩
 . exact⟨h.name,λs hs=>by rw[List.mem_singleton.1 hs];exact h.ts⟩
theorem zDm:∀(f:Nat) (x:Nms),(zbO f x).ns.length<=x.ns.length+f
 | 0,_=>Nat.le_refl _
 | f+1,x=>by
   unfold zbO;split
   . have:=zDm f x.more;have h:x.more.ns.length=x.ns.length+1:=(by show (x.ns++[_]).length=_;simp);omega
   . omega
theorem zFV (st:St):(zaH st).ns.length<=1400:=by
 unfold zaH;split
 . have:=zDm 1300 ⟨(st.step.name.must 4 [44]).name,[st.step.t.s,(st.step.name.must 4 [44]).t.s],[st.step.t.a,(st.step.name.must 4 [44]).t.a]⟩;exact Nat.le_trans this (by simp)
 . simp
def EqS (q:Eqn):Prop:=(∀s∈q.ns,s.size<=1200)/\q.ns.length<=1400
def ZQ (x:St×List Eqn):Prop:=Zs x.1/\∀q∈x.2,EqS q
theorem zAU (z17:ZK r17)(z18:ZK r18){eqs:List Eqn}(h:Zs st)(hq:∀q∈eqs,EqS q):ZQ (zF r17 r18 st eqs):=by
 have hl:=zF2 h;have h2:=hl.1.must 4 [61];have hr:Zs (zck r17 r18 (st.is 4 [40]) ((zaH st).st.must 4 [61])).1:=by
  unfold zck;split
  . exact zDp z17 _ h2.ts _ h2.name
  . exact z18 _ h2
 refine⟨hr.must _ _,λq hm=>?_⟩;rcases zzv hm with hm|rfl
 . exact hq q hm
 . exact⟨hl.2,zFV st⟩
theorem zC8 (z17:ZK r17)(z18:ZK r18):∀(f:Nat) (x:St×List Eqn),ZQ x->ZQ (zb5 r17 r18 f x)
 | 0,_,h=>h
 | f+1,x,h=>by
   unfold zb5;split
   . exact zC8 z17 z18 f _ (zAU z17 z18 h.1 h.2)
   . exact h
theorem zCz (z17:ZK r17)(z18:ZK r18)(h:Zs st):Zs (zax r17 r18 f st).1/\NdS (zax r17 r18 f st).2:=by
 have h0:Zs st.fresh:=⟨h.src,h.tt,h.tn,h.ts,λe he=>by cases he⟩;have hh:=zFY h0;have hv:=zGd (f:=f) hh.1 hh.2;obtain⟨V,hV⟩:∃V,zaS f (zaI st.fresh).1 (zaI st.fresh).2=V:=⟨_,rfl⟩;rw[hV] at hv;have hb:=zC8 z17 z18 f _ (zAU z17 z18 (eqs:=[]) (hv.1.must 4 [123]) (λq hq=>by cases hq));have e:zax r17 r18 f st=((zdr r17 r18 f V.1).1,⟨(st.fresh.must 5 zW).t.s,(st.fresh.must 5 zW).t.a,V.2,(zdr r17 r18 f V.1).1.L,(zdr r17 r18 f V.1).2⟩):=by unfold zax;simp only;rw[hV]
 rw[e];exact⟨hb.1.must _ _,(h0.must 5 zW).ts,hv.2,(hb.1.must 4 [125]).L,λq hq=>(hb.2 q hq).1,λq hq=>(hb.2 q hq).2⟩
theorem zB1 (z17:ZK r17)(z18:ZK r18):∀(f:Nat) (x:St×List Nd),Zs x.1->(∀d∈x.2,NdS d)->∀d∈(zdZ r17 r18 g f x).2,NdS d
 | 0,_,_,h=>h
 | f+1,x,hz,h=>by
   unfold zdZ;split
   . have:=zCz z17 z18 (f:=g) hz;refine zB1 z17 z18 f _ this.1 (λd hd=>?_);rcases zzv hd with hd|rfl
     . exact h d hd
     . exact this.2
   . exact h
theorem zE2 (z17:ZK r17)(z18:ZK r18)(hs:s.size<=1200):∀d∈(zgo r17 r18 g s).2,NdS d:=by have h1:=zV s 0 (Nat.zero_le _);have h0:Zs (⟨s,zZ s 0,0,0,0,[]⟩:St):=⟨hs,h1.2.2.1,h1.2.2.2.1,zCE s 0 hs,λe he=>by cases he⟩;have:=zCz z17 z18 (f:=g) h0;exact zB1 z17 z18 g _ this.1 (λd hd=>by rw[List.mem_singleton.1 hd];exact this.2)
theorem zBg:∀(f:Nat) (x:St×List Nd),x.2.length<=6->(zdZ r17 r18 g f x).2.length<=6
 | 0,_,h=>h
 | f+1,x,h=>by
   unfold zdZ;split
   . rename_i hc
     exact zBg f _ (by simp;omega)
   . exact h
theorem zDZ (r17 r18:Fn)(g:Nat)(s:ByteArray):(zgo r17 r18 g s).2.length<=6:=zBg g _ (by simp)
end
section
def zzw (n:Nat):ByteArray:=⟨(Lib.itoa (n:Int)).toArray⟩
def zyf (b:ByteArray):List ByteArray->ByteArray
 | []=>⟨#[]⟩
 | [x]=>x
 | x::l=>x++b++zyf b l
def zyn (op s:ByteArray)(n:Nat)(cs:List Bool)(i:List ByteArray):ByteArray :=
 let g:=λk=>i.getD k ⟨#[]⟩
 let m:=λk=>if cs.getD k false=true then ⟨#[40,32]⟩++g k++⟨#[32,41]⟩ else g k
 if op.toList=[110,117,109,98,101,114] then zzw n
 else if op.toList=[98,111,111,108] then (if n=1 then ⟨#[116,114,117,101]⟩ else ⟨#[102,97,108,115,101]⟩)
 else if op.toList=[118,97,114] then s
 else if op.toList=[99,97,108,108] then s++⟨#[32,40,32]⟩++zyf ⟨#[32,44,32]⟩ i++⟨#[32,41]⟩
 else if op.toList=[110,101,103] then ⟨#[40,32,45,32]⟩++g 0++⟨#[32,41]⟩
 else if op.toList=[110,111,116] then ⟨#[40,32,110,111,116,32]⟩++g 0++⟨#[32,41]⟩
 else if op.toList=[105,102] then ⟨#[40,32,105,102,32]⟩++g 0++⟨#[32,116,104,101,110,32]⟩++g 1++⟨#[32,101,108,115,101,32]⟩++g 2++⟨#[32,41]⟩
 else if op.toList=[109,101,114,103,101] then ⟨#[40,32,109,101,114,103,101,32]⟩++s++⟨#[32]⟩++m 0++⟨#[32]⟩++m 1++⟨#[32,41]⟩
 else if op.toList=[119,104,101,110]∨op.toList=[119,104,101,110,111,116] then ⟨#[40,32]⟩++g 0++⟨#[32]⟩++op++⟨#[32]⟩++s++⟨#[32,41]⟩
 else ⟨#[40,32]⟩++g 0++⟨#[32]⟩++op++⟨#[32]⟩++g 1++⟨#[32,41]⟩
def zzW (v:Vr):ByteArray:=if v.bl=true then v.nm++⟨#[32,58,32,98,111,111,108]⟩ else v.nm++⟨#[32,58,32,105,110,116]⟩
def zyJ (v:Vr):ByteArray:=if v.tm=true then (if v.nt=true then zzW v++⟨#[32,111,110,32]⟩++⟨#[110,111,116,32]⟩++v.ck else zzW v++⟨#[32,111,110,32]⟩++v.ck) else zzW v
def zyw (ns:List ByteArray):ByteArray:=if 1<ns.length then ⟨#[40,32]⟩++zyf ⟨#[32,44,32]⟩ ns++⟨#[32,41]⟩ else zyf ⟨#[32,44,32]⟩ ns
def hdB (nm:ByteArray)(ins outs:List ByteArray):ByteArray:=⟨#[110,111,100,101,32]⟩++nm++⟨#[32,40,32]⟩++zyf ⟨#[32,44,32]⟩ ins++⟨#[32,41,32,45,62,32,40,32]⟩++zyf ⟨#[32,44,32]⟩ outs++⟨#[32,41,32]⟩
end
section
open Go.RowKit
variable {b:Nat} {e:TypeId} {v0 v1 v2 v3 v4 v5:Value} {w:World}
theorem ze {o:Obj}(h:w.heap[b]?=some o):b<w.heap.size:=by
 rcases Nat.lt_or_ge b w.heap.size with h1|h1
 . exact h1
 . rw[Array.getElem?_eq_none h1] at h;cases h
theorem zu (h:w.heap[b]?=some (.cells #[v0] e (0,0))):w.cell? (xD b 0)=some v0/\(∀i,w.frozen? (xD b i)=false)/\b<w.heap.size :=
 ⟨by simp[World.cell?,h],λi=>by simp[World.frozen?,h],ze h⟩
theorem zp (h:w.heap[b]?=some (.cells #[v0,v1] e (0,0))):w.cell? (xD b 0)=some v0/\w.cell? (xD b 1)=some v1/\(∀i,w.frozen? (xD b i)=false)/\b<w.heap.size :=
 ⟨by simp[World.cell?,h],by simp[World.cell?,h],λi=>by simp[World.frozen?,h],ze h⟩
theorem zL (h:w.heap[b]?=some (.cells #[v0,v1,v2] e (0,0))):w.cell? (xD b 0)=some v0/\w.cell? (xD b 1)=some v1/\w.cell? (xD b 2)=some v2/\(∀i,w.frozen? (xD b i)=false)/\b<w.heap.size :=
 ⟨by simp[World.cell?,h],by simp[World.cell?,h],by simp[World.cell?,h],λi=>by simp[World.frozen?,h],ze h⟩
theorem zU (h:w.heap[b]?=some (.cells #[v0,v1,v2,v3] e (0,0))):w.cell? (xD b 0)=some v0/\w.cell? (xD b 1)=some v1/\w.cell? (xD b 2)=some v2/\w.cell? (xD b 3)=some v3/\(∀i,w.frozen? (xD b i)=false)/\b<w.heap.size :=
 ⟨by simp[World.cell?,h],by simp[World.cell?,h],by simp[World.cell?,h],by simp[World.cell?,h],λi=>by simp[World.frozen?,h],ze h⟩
theorem zcf (h:w.heap[b]?=some (.cells #[v0,v1,v2,v3,v4] e (0,0))):w.cell? (xD b 0)=some v0/\w.cell? (xD b 1)=some v1/\w.cell? (xD b 2)=some v2/\w.cell? (xD b 3)=some v3/\w.cell? (xD b 4)=some v4/\(∀i,w.frozen? (xD b i)=false)/\b<w.heap.size :=
 ⟨by simp[World.cell?,h],by simp[World.cell?,h],by simp[World.cell?,h],by simp[World.cell?,h],by simp[World.cell?,h],λi=>by simp[World.frozen?,h],ze h⟩
theorem zt (h:w.heap[b]?=some (.cells #[v0,v1,v2,v3,v4,v5] e (0,0))):w.cell? (xD b 0)=some v0/\w.cell? (xD b 1)=some v1/\w.cell? (xD b 2)=some v2/\w.cell? (xD b 3)=some v3/\w.cell? (xD b 4)=some v4/\w.cell? (xD b 5)=some v5/\(∀i,w.frozen? (xD b i)=false)/\b<w.heap.size :=
 ⟨by simp[World.cell?,h],by simp[World.cell?,h],by simp[World.cell?,h],by simp[World.cell?,h],by simp[World.cell?,h],by simp[World.cell?,h],λi=>by simp[World.frozen?,h],ze h⟩
theorem zbZ {v6:Value}(h:w.heap[b]?=some (.cells #[v0,v1,v2,v3,v4,v5,v6] e (0,0))):w.cell? (xD b 0)=some v0/\w.cell? (xD b 1)=some v1/\w.cell? (xD b 2)=some v2/\w.cell? (xD b 3)=some v3/\w.cell? (xD b 4)=some v4/\w.cell? (xD b 5)=some v5/\w.cell? (xD b 6)=some v6/\(∀i,w.frozen? (xD b i)=false)/\b<w.heap.size :=
 ⟨by simp[World.cell?,h],by simp[World.cell?,h],by simp[World.cell?,h],by simp[World.cell?,h],by simp[World.cell?,h],by simp[World.cell?,h],by simp[World.cell?,h],λi=>by simp[World.frozen?,h],ze h⟩
end
end Go.Proofs.YtmfkofhgdjechaaGreatDoor
