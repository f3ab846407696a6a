/- Part 12 of the proof: CofL CofM CofN CofO CpyA. -/
import Derived.Laws.CopyOwn
import Derived.Lib.SliceRun
import Derived.Test.YtbicmofihhjgbaaGreatDoorK10
set_option maxRecDepth 100000
set_option maxHeartbeats 8000000
namespace Go.Proofs.YtbicmofihhjgbaaGreatDoor
open Go.Proofs.Tryz
open Go.RowKit
section
variable {r17 r18:Fn} {L:List Ex} {l:List Vr} {B B':Nat} {nd:Nd} {av v:Value} {p:Vr->Bool} {w w':World}
def ze0 (L:List Ex)(w:World)(B:Nat):List Eqn->List Value->Prop
 | [],xs=>xs=[]
 | q::qs,xs=>∃lv a ys,xs=lv::(xI q.a)::.pointer a::ys/\EQ L q lv a w B/\ze0 L w B qs ys
theorem zcJ.now:∀{qs:List Eqn} {xs:List Value},zcJ B w av L qs xs->ze0 L w B qs xs:=by
 intro qs;induction qs with
 | nil=>intro xs h;exact h
 | cons q qs ih => rintro xs ⟨lv,a,ys,h1,h2,h3⟩;exact⟨lv,a,ys,h1,zq4 h2,ih h3⟩
theorem ze0.kept (hk:∀k,B<=k->k<w.heap.size->w'.heap[k]?=w.heap[k]?):∀{qs:List Eqn} {xs:List Value},ze0 L w B qs xs->ze0 L w' B qs xs:=by
 intro qs;induction qs with
 | nil=>intro xs h;exact h
 | cons q qs ih => rintro xs ⟨lv,a,ys,h1,h2,h3⟩;exact⟨lv,a,ys,h1,h2.kept hk,ih h3⟩
theorem ze0.down (hb:B'<=B):∀{qs:List Eqn} {xs:List Value},ze0 L w B qs xs->ze0 L w B' qs xs:=by
 intro qs;induction qs with
 | nil=>intro xs h;exact h
 | cons q qs ih => rintro xs ⟨lv,a,ys,h1,h2,h3⟩;exact⟨lv,a,ys,h1,h2.down hb,ih h3⟩
def Nd.ins (nd:Nd):Nat:=(nd.vars.filter (·.inn)).length
def Nd.outs (nd:Nd):Nat:=(nd.vars.filter (·.out)).length
theorem zdK (i o:Bool)(st:St)(vars:List Vr):∃E,(zx i o st vars).2=vars++E/\∀v∈E,v.inn=i/\v.out=o:=by
 unfold zx;split
 . exact⟨[],by simp,by simp⟩
 . simp only;split
   . exact⟨_,rfl,by simp⟩
   . exact⟨_,rfl,by simp⟩
theorem zlI (i:Bool):∀(f:Nat) (x:St×List Vr),∃E,(zaG i f x).2=x.2++E/\∀v∈E,v.inn=i/\v.out=!i:=by
 intro f;induction f with
 | zero=>intro x;exact⟨[],by simp[zaG],by simp⟩
 | succ f ih =>
   intro x;rw[show zaG i (f+1) x=if x.1.er=0/\x.1.is 4 [44]=true then zaG i f (zx i (!i) x.1.step x.2) else x from rfl];split
   . obtain⟨E,h1,h2⟩:=zdK i (!i) x.1.step x.2;obtain⟨E',h3,h4⟩:=ih (zx i (!i) x.1.step x.2);refine⟨E++E',by rw[h3,h1,List.append_assoc],λv hv=>?_⟩;rcases List.mem_append.1 hv with h|h
     . exact h2 v h
     . exact h4 v h
   . exact⟨[],by simp,by simp⟩
theorem zin (i:Bool)(st:St)(vars:List Vr):∃E,(zab i st vars).2=vars++E/\∀v∈E,v.inn=i/\v.out=!i:=by
 obtain⟨f,hf⟩:∃f,f=1300:=⟨_,rfl⟩;rw[zip hf];obtain⟨E,h1,h2⟩:=zdK i (!i) (st.must 4 [40]) vars;obtain⟨E',h3,h4⟩:=zlI i f (zx i (!i) (st.must 4 [40]) vars);refine⟨E++E',by simp only;rw[h3,h1,List.append_assoc],λv hv=>?_⟩;rcases List.mem_append.1 hv with h|h
 . exact h2 v h
 . exact h4 v h
theorem zlE:∀(f:Nat) (x:St×List Vr),∃E,(zbA f x).2=x.2++E/\∀v∈E,v.inn=false/\v.out=false:=by
 intro f;induction f with
 | zero=>intro x;exact⟨[],by simp[zbA],by simp⟩
 | succ f ih =>
   intro x;rw[show zbA (f+1) x=if x.1.er=0/\x.1.t.k=2 then zbA f (zaR x.1 x.2) else x from rfl];split
   . obtain⟨E,h1,h2⟩:=zdK false false x.1 x.2;obtain⟨E',h3,h4⟩:=ih (zaR x.1 x.2);refine⟨E++E',by rw[h3,show (zaR x.1 x.2).2=(zx false false x.1 x.2).2 from rfl,h1,List.append_assoc],λv hv=>?_⟩;rcases List.mem_append.1 hv with h|h
     . exact h2 v h
     . exact h4 v h
   . exact⟨[],by simp,by simp⟩
theorem zpG (f:Nat)(st:St)(vars:List Vr):∃E,(zaS f st vars).2=vars++E/\∀v∈E,v.inn=false/\v.out=false:=by
 unfold zaS;split
 . obtain⟨E,h1,h2⟩:=zdK false false st.step vars;obtain⟨E',h3,h4⟩:=zlE f (zaR st.step vars);refine⟨E++E',by rw[h3,show (zaR st.step vars).2=(zx false false st.step vars).2 from rfl,h1,List.append_assoc],λv hv=>?_⟩;rcases List.mem_append.1 hv with h|h
   . exact h2 v h
   . exact h4 v h
 . exact⟨[],by simp,by simp⟩
theorem zg7 (h:∀v∈l,p v=true):(l.filter p).length=l.length:=by rw[List.filter_eq_self.2 h]
theorem zeT (h:∀v∈l,p v=false):(l.filter p).length=0:=by rw[List.filter_eq_nil_iff.2 (λv hv=>by rw[h v hv];simp)];rfl
theorem zm5 {f:Nat}{st:St}{x3 x5 x6:St×List Vr}{x8 R:St×List Eqn}(h:zgn r17 r18 f st x3 x5 x6 x8 R):(x6.2.filter (·.inn)).length=x3.2.length/\(x6.2.filter (·.out)).length=x5.2.length-x3.2.length:=by obtain⟨E3,a3,b3⟩:=zin true (st.fresh.must 5 zW).name [];obtain⟨E5,a5,b5⟩:=zin false (x3.1.must 4 [45,62]) x3.2;obtain⟨E6,a6,b6⟩:=zpG f x5.1 x5.2;rw[h.h3] at a3;rw[h.h5] at a5;rw[h.h6] at a6;simp only[List.nil_append] at a3;rw[a6,a5,a3];simp only[List.filter_append,List.length_append];rw[zg7 (λv hv=>(b3 v hv).1),zeT (λv hv=>(b5 v hv).1),zeT (λv hv=>(b6 v hv).1),zeT (λv hv=>(b3 v hv).2),zg7 (l:=E5) (λv hv=>(b5 v hv).2),zeT (λv hv=>(b6 v hv).2)];omega
structure NDc (nd:Nd) (w:World) (B nb:Nat) (vs ev:Value) (xs:List Value):Prop where
 blk:xH w nb #[.string nd.nm,xI nd.a,vs,xI nd.ins,xI nd.outs,ev] 121
 lo:B<=nb
 vown:w.ownsRow B 134 7 vs nd.vars.length (zb0 nd.vars)
 few:nd.vars.length<=16
 own:w.ownsRow B 184 3 ev nd.eqs.length xs
 eqs:ze0 nd.exs w B nd.eqs xs
def ND (nd:Nd)(v:Value)(w:World)(B:Nat):Prop:=∃nb vs ev xs,v=xP nb/\NDc nd w B nb vs ev xs
theorem ND.kept (h:ND nd v w B)(hk:∀k,B<=k->k<w.heap.size->w'.heap[k]?=w.heap[k]?):ND nd v w' B:=by obtain⟨nb,vs,ev,xs,h0,h⟩:=h;exact⟨nb,vs,ev,xs,h0,(hk nb h.lo (ze h.blk)).trans h.blk,h.lo,zi h.vown (λk h1 h2 _=>hk k h1 h2),h.few,zi h.own (λk h1 h2 _=>hk k h1 h2),h.eqs.kept hk⟩
theorem ND.down (h:ND nd v w B)(hb:B'<=B):ND nd v w B':=by obtain⟨nb,vs,ev,xs,h0,h⟩:=h;exact⟨nb,vs,ev,xs,h0,h.blk,Nat.le_trans hb h.lo,zR h.vown hb,h.few,zR h.own hb,h.eqs.down hb⟩
theorem zqU {wr:World}(h:Was B wr av (ND nd v)):ND nd v wr B:=by obtain⟨wi,Bi,h1,h2,h3,_,_⟩:=h;exact (h2.kept h3).down h1
theorem zmS (hX:zX 18 190 r18)(hK:zdI 18 r17)(g17:zv 17 r17)(g18:zv 18 r18)(S:Nat->Addr)(pb p f:Nat)(hf1:1202<f)(hf2:f<=5000)(st:St)(w:World)(hI:Inv p st)(ho:st.op=0)(hR:PL S w pb st) :
 xK 86 #[xP pb] w (λe w'=>∃a:Addr,e=.returned (.pointer (some a))/\PL S w' pb (zax r17 r18 f st).1/\Fr (·=pb) w w'/\Hid ((zax r17 r18 f st).1.er=0->ND (zax r17 r18 f st).2 (.pointer (some a)) w' w.heap.size)):=by
 obtain⟨x3,h3⟩:∃x3,zab true (st.fresh.must 5 zW).name []=x3:=⟨_,rfl⟩;obtain⟨x5,h5⟩:∃x5,zab false (x3.1.must 4 [45,62]) x3.2=x5:=⟨_,rfl⟩;obtain⟨x6,h6⟩:∃x6,zaS f x5.1 x5.2=x6:=⟨_,rfl⟩;obtain⟨x8,h8⟩:∃x8,zF r17 r18 (x6.1.must 4 [123]) []=x8:=⟨_,rfl⟩;obtain⟨R,hRR⟩:∃R,zb5 r17 r18 f x8=R:=⟨_,rfl⟩;have hN:zgn r17 r18 f st x3 x5 x6 x8 R:=⟨h3,h5,h6,h8,hRR⟩;clear h3 h5 h6 h8 hRR;have hi:=zm5 hN;rw[znI hN];refine (zop hX hK g17 g18 S pb p f hf1 hf2 st w hI ho hR hN).mono ?_;rintro e w' ⟨nb,rfl,h1,h2,h3,h4⟩;refine⟨(xD nb 0),rfl,h2,h3,λhe=>?_⟩;obtain⟨vs,ev,xs,k1,k2,k3,k4,k5⟩:=h4.out he;refine⟨nb,vs,ev,xs,rfl,?_,h1,k2,k3,k4,k5.now⟩;dsimp only[Nd.ins,Nd.outs];rw[hi.1,hi.2];exact k1
end
section
variable {r17 r18:Fn} {B:Nat} {q:Nd} {av:Value} {w wr:World}
def zd3 (B:Nat)(wr:World)(av:Value):List Nd->List Value->Prop
 | [],xs=>xs=[]
 | q::qs,xs=>∃v ys,xs=v::ys/\Was B wr av (ND q v)/\zd3 B wr av qs ys
theorem zd3.next {w':World}{av':Value}{T:Nat->Prop}(hf:Fr T wr w')(hT:∀k,T k->k<B∨av.ownBlock=some k)(ha:∀k,av'.ownBlock=some k->av.ownBlock=some k∨wr.heap.size<=k) :
 ∀(qs:List Nd) (xs:List Value),zd3 B wr av qs xs->zd3 B w' av' qs xs:=by
 intro qs;induction qs with
 | nil=>intro xs h;exact h
 | cons q qs ih => rintro xs ⟨v,ys,h1,h2,h3⟩;exact⟨v,ys,h1,h2.next hf hT ha,ih ys h3⟩
theorem zd3.snoc {v:Value}(h2:Was B wr av (ND q v)):∀(qs:List Nd) (xs:List Value),zd3 B wr av qs xs->zd3 B wr av (qs++[q]) (xs++[v]):=by
 intro qs;induction qs with
 | nil=>rintro xs rfl;exact⟨v,[],rfl,h2,rfl⟩
 | cons q' qs ih => rintro xs ⟨v',ys,rfl,h4,h3⟩;exact⟨v',_,rfl,h4,ih ys h3⟩
structure GI (S:Nat->Addr) (pb gb B:Nat) (w wr:World) (s:St) (nds:List Nd) (gv:Value) (m:Nat) (xs:List Value):Prop where
 inv:∃p,Inv p s
 op:s.op=0
 pl:PL S wr pb s
 blk:xH wr gb #[gv] 89
 own:wr.ownsRow B 90 1 gv m xs
 ok:s.er=0->m=nds.length/\zd3 B wr gv nds xs
 fr:Fr (·=pb) w wr
theorem zqg {S:Nat->Addr}{pb gb:Nat}{w1 w9:World}{s s':St}{nds:List Nd}{gv v':Value}{m:Nat}{xs:List Value}{a:Option Addr}{X:Obj}
 (h:GI S pb gb B w wr s nds gv m xs) (hnp:pb<gb) (hBn:gb<B) (hwn:w.heap.size<=gb) (hBw:B<=wr.heap.size) (hi:∃p,Inv p s') (her:s'.er=0->s.er=0) (ho:s'.op=0)
 (hF1:Fr (·=pb) wr w1) (hok:s'.er=0->ND q (.pointer a) w1 wr.heap.size)
 (hL9:PL S w9 pb s') (hF9:Fr (λk=>gv.ownBlock=some k) (w1.alloc X) w9) (hn9:w9.heap[gb]?=some (.cells #[gv] 89 (0,0)))
 (hown:w9.ownsRow B 90 1 v' (m+1) (xs++[.pointer a])) (hnew:∀k,v'.ownBlock=some k->gv.ownBlock=some k∨(w1.alloc X).heap.size<=k) :
 GI S pb gb B w (w9.setCell (xD gb 0) v') s' (nds++[q]) v' (m+1) (xs++[.pointer a]):=by
 have hev:∀k,gv.ownBlock=some k->B<=k/\k<wr.heap.size:=λk hk=>h.own.lt k hk;have hz1:=hF1.size;have hz9:=hF9.size;have hzx:(w1.alloc X).heap.size=w1.heap.size+1:=by simp
 have hFa:Fr (λk=>k=pb∨k=gb∨gv.ownBlock=some k) wr (w9.setCell (xD gb 0) v'):=by have h1:Fr (λk=>k=pb∨k=gb∨gv.ownBlock=some k) wr (w1.alloc X):=(hF1.mono (λ_ _ h=>Or.inl h)).alloc X;exact (h1.trans' hF9 (λ_ _ h=>Or.inr (Or.inr h))).setCell (Or.inl (Or.inr (Or.inl rfl))) _
 refine⟨hi,ho,hL9.setOther hnp _ _,zh _ _ _ _ hn9,zi hown (λk h1 _ _=>zr (by omega) rfl),?_,?_⟩
 . intro he;obtain⟨e1,e2⟩:=h.ok (her he);refine⟨by simp[e1],?_⟩;have hE2:=zd3.next (av':=v') hFa (λk hk=>by
    rcases hk with hk|hk|hk
    . left;omega
    . left;omega
    . exact Or.inr hk) (λk hk=>by
    rcases hnew k hk with h1|h1
    . exact Or.inl h1
    . right;omega) _ _ e2
   refine zd3.snoc ?_ _ _ hE2;refine⟨w1,wr.heap.size,hBw,hok he,λk h1 h2=>?_,λg hg=>?_,?_⟩
   . exact zr (by omega) ((hF9.block k (by omega) (λh=>by have:=(hev k h).2;omega)).trans (Below.heap_alloc _ _ _ h2))
   . rcases hnew g hg with h|h
     . left;exact (hev g h).2
     . right;omega
   . simp[World.setCell];omega
 . have h1:Fr (·=pb) w (w1.alloc X):=(h.fr.trans hF1).alloc X;exact (h1.trans' hF9 (λi hi hs=>by have:=(hev i hs).1;omega)).setNew hwn _ _
theorem zmC (t:Tk):(((ck t:Nat):Int) != 1)=!(t.k==0):=by
 by_cases h:t.k=0
 . simp[ck,h]
 . have:ck t≠1:=by unfold ck;(repeat' split) <;> first|decide|(exfalso;omega)
   have h2:(t.k==0)=false:=(by simp[h]);rw[h2];simp;omega
theorem zny (g17:zv 17 r17)(g18:zv 18 r18){f p:Nat}{st:St}(hI:Inv p st)(ho:st.op=0)(he:(zax r17 r18 f st).1.er=0):st.er=0:=by
 have h1:=(zhx g17 g18 (f:=f) (nodes:=[]) hI ho (by simp)).1.er;by_cases h:st.er=0
 . exact h
 . exact absurd (h1.symm.trans he) ((zmW g17 g18 (f:=f) (nodes:=[]) hI ho).2.2.2 h)
theorem zqd:zH 86:=λ_ _=>by kernel_rfl
theorem Tryz.infoNp:(prog.info? 90).map (λi=>(i.zero,i.size,i.bytes))=some (some (.pointer none),1,8):=by kernel_rfl
def zgE (w:World)(B:Nat):List Nd->List Value->Prop
 | [],xs=>xs=[]
 | q::qs,xs=>∃v ys,xs=v::ys/\ND q v w B/\zgE w B qs ys
theorem zd3.now:∀{qs:List Nd} {xs:List Value},zd3 B w av qs xs->zgE w B qs xs:=by
 intro qs;induction qs with
 | nil=>intro xs h;exact h
 | cons q qs ih => rintro xs ⟨v,ys,h1,h2,h3⟩;exact⟨v,ys,h1,zqU h2,ih h3⟩
theorem zgE.down {B':Nat}(hb:B'<=B):∀{qs:List Nd} {xs:List Value},zgE w B qs xs->zgE w B' qs xs:=by
 intro qs;induction qs with
 | nil=>intro xs h;exact h
 | cons q qs ih => rintro xs ⟨v,ys,h1,h2,h3⟩;exact⟨v,ys,h1,h2.down hb,ih h3⟩
def PG (nds:List Nd)(v:Value)(w:World)(B:Nat):Prop:=∃gb gv xs,v=xP gb/\B<=gb/\w.heap[gb]?=some (.cells #[gv] 89 (0,0))/\w.ownsRow B 90 1 gv nds.length xs/\zgE w B nds xs
theorem zke (HX:zX 18 190 r18)(HK:zdI 18 r17)(G17:zv 17 r17)(G18:zv 18 r18)(S:Nat->Addr)(pb p f:Nat)(hf1:1202<f)(hf2:f<=5000)(st:St)(w:World)(hI:Inv p st)(ho:st.op=0)(hR:PL S w pb st){R:St×List Nd}(hRR:zdZ r17 r18 f f ((zax r17 r18 f st).1,[]++[(zax r17 r18 f st).2])=R) :
 xK 44 #[xP pb] w (λe w'=>∃a:Addr,e=.returned (.pointer (some a))/\PL S w' pb (zbB R.1)/\Fr (·=pb) w w'/\Hid ((zbB R.1).er=0->PG R.2 (.pointer (some a)) w' w.heap.size)):=by
 have hlt:=hR.lt;have HRR:=za hRR
 have hG0:GI S pb w.heap.size (w.heap.size+1) w (w.alloc (.cells #[.slice none 0 0] 89)) st [] (.slice none 0 0) 0 [] :=
  ⟨⟨p,hI⟩,ho,hR.alloc _,zc w _,World.ownsRow_nil _ _ _ _,λ_=>⟨rfl,rfl⟩,(Fr.refl _ w).alloc _⟩
 have HG0:=za hG0;go_enter func44,ntmps44;go_wp2_with fail;go_loopg [4] f (λk mo wx=>∃(b:Bool) (s:St) (nds:List Nd) (gv:Value) (m:Nat) (xs:List Value),mo=.bool b/\Hid (GI S pb w.heap.size (w.heap.size+1) w wx s nds gv m xs)/\Hid (w.heap.size+1<=wx.heap.size)/\Hid (b=true->m<=5/\zdZ r17 r18 f k ((zax r17 r18 f s).1,nds++[(zax r17 r18 f s).2])=R/\1201-s.t.a<k)/\Hid (b=false->(s,nds)=R));case atStart=>exact⟨true,st,[],.slice none 0 0,0,[],rfl,HG0,by unfold Hid;simp,λ_=>⟨by omega,HRR.o,by omega⟩,λh=>by cases h⟩
 case round =>
  obtain⟨b,s,nds,gv,m,xs,rfl,HA,Hzw,HT,HFa⟩:=hrel;cases b with
  | false =>
    have HQ:=za (HFa.o rfl);have HA1:GI S pb w.heap.size (w.heap.size+1) w wr R.1 R.2 gv m xs:=(by rw[<- HQ.o];exact HA.o);obtain⟨h0,h1,h2,h3,h4,h5,h6⟩:=HA1.pl.cells;have hltr:=HA1.pl.lt;have hsyn:wr.cell? (xD 8 0)=some (.iface 324 (.pointer (some (S 2)))):=HA1.pl.gl.syn;have hck:=zmC R.1.t;cases hk:(R.1.t.k==0) with
    | true => rw[hk] at hck;go_wp2_with fail;go_ret;have he:zbB R.1=R.1:=(by unfold zbB;rw[if_pos (by simpa using hk)]);rw[he];refine⟨(xD w.heap.size 0),rfl,HA1.pl,HA1.fr,λhe'=>?_⟩;obtain⟨e1,e2⟩:=HA1.ok he';subst e1;exact⟨w.heap.size,gv,xs,rfl,Nat.le_refl _,HA1.blk,zR HA1.own (by omega),e2.now.down (by omega)⟩
    | false => rw[hk] at hck;go_wp2_with fail;refine (zc5 S pb R.1 2 (by decide) wr HA1.pl).mono ?_;rintro e w5 ⟨rfl,HL5,HF5⟩;go_wp2_with fail;go_ret;have he:zbB R.1=R.1.fail 2 R.1.t.a:=(by unfold zbB;rw[if_neg (by simpa using hk)]);rw[he];exact⟨(xD w.heap.size 0),rfl,HL5,HA1.fr.trans HF5,λhe'=>absurd he' (St.fail_er _ (by decide))⟩
  | true =>
    obtain⟨hm5,hR1,hrem⟩:=HT.o rfl;have hzr:=Hzw.o;have hltr:=HA.o.pl.lt;obtain⟨p1,HI1⟩:=HA.o.inv;have HQe:=za (λw1 h=>zmS HX HK G17 G18 S pb p1 f hf1 hf2 s w1 HI1 HA.o.op h);obtain⟨_,_,n3,n4,n5⟩:=zhx G17 G18 (f:=f) (nodes:=[]) HI1 HA.o.op (by simp);have HEr:=za (λhe=>zny G17 G18 (f:=f) HI1 HA.o.op he);obtain⟨y,hy⟩:∃y,zax r17 r18 f s=y:=⟨_,rfl⟩;rw[hy] at HQe n3 n4 n5 HEr hR1;have HR1:=za hR1;have Hrem:=za hrem;have Hn3:=za n3;have Hn4:=za n4;have Hn5:=za n5;obtain⟨q0,qf,qz⟩:=zu HA.o.blk;obtain⟨i0,hi,hi0,hi1,hi2⟩:=info_parts Tryz.infoNp;have mx:m+1<=maxLen:=(by unfold maxLen;omega);have by':(m+1)*8<=140737488355328:=(by omega);go_upto_block 1 with fail;go_cut [] (λwy=>∃gv' xs',Hid (GI S pb w.heap.size (w.heap.size+1) w wy y.1 (nds++[y.2]) gv' (m+1) xs')/\Hid (w.heap.size+1<=wy.heap.size));case first =>
     go_wp2_with fail;go_region_law (first|(refine zbL rfl 86 (.tmp 23) 172 rfl zqd (xP pb) rfl (HQe.o _ HA.o.pl.drew) ?_;rintro e w2 ⟨aq,rfl,HL2,hF2',hok2⟩;refine⟨_,rfl,?_⟩;have HF2:Fr (·=pb) wr w2:=hF2'.undrew;have hzc2:=HF2.size;have Hb2:=(HF2.block w.heap.size qz (by omega)).trans HA.o.blk;obtain⟨f0,ff,fz⟩:=zu Hb2;have Hown2:=za (zi HA.o.own (λk h1 h2 _=>HF2.block k h2 (by omega)));have Hok2:=za hok2.out;have hzw:w.heap.size+1<=w2.heap.size+1:=(by omega))|(refine zJ _ rfl (.tmp 22) (.tmp 25) 87 rfl (w.heap.size+1) 90 i0 _ 1 8 underlying87 hi hi0 hi1 hi2 rfl (by decide) gv m xs rfl (zD Hown2.o _) (xD w2.heap.size 0) 1 1 [.pointer (some aq)] rfl rfl (zN (zc w2 _) rfl) zku mx by' (by simpa using hzw) ?_;intro v' w9 Hown9 hgrow Hnew9;obtain⟨g9,cap9,rfl,hg9⟩:=zM Hown9 (by omega);have HF9:=Fr.of_grown hgrow;have hb9:w9.heap[w.heap.size]?=w2.heap[w.heap.size]?:=((HF9.block w.heap.size (by rw[zsb];omega) (λh=>by have:=(Hown2.o.lt _ h).1;omega)).trans (Below.heap_alloc _ _ _ fz));have Hn9:=za (hb9.trans Hb2);obtain⟨m0,mf,mz⟩:=zu Hn9.o;have HL9:=za (PL.fr (HL2.alloc _) HF9 (λk hk=>by have:=(Hown2.o.lt k hk).1;omega));have hzz9:=HF9.size;rw[zsb] at hzz9));all_goals go_wp2_with fail
     all_goals go_meet
     all_goals exact⟨_,_,zqg HA.o hlt (by omega) (by omega) (by omega) ⟨0,Hn3.o⟩ HEr.o Hn4.o HF2 Hok2.o HL9.o HF9 Hn9.o Hown9 Hnew9,(by unfold Hid;simp[World.setCell];omega)⟩
    case rest =>
     obtain⟨gv2,xs2,HA2,Hz2⟩:=hcut;have HBd2:=za Hn3.o.toBad;obtain⟨x2,cp2,hgv⟩:=zbP HA2.o.own;have Hb2:=HA2.o.blk;rw[hgv] at Hb2;obtain⟨m0,mf,mz⟩:=zu Hb2;obtain⟨g,rfl⟩:∃g,gk=g+1:=⟨gk-1,by have:=Hrem.o;omega⟩;have HAt:=za (zaP S pb y.1 ⟨#[110,111,100,101]⟩ _ zmU wc HBd2.o.ok.tk HA2.o.pl);rw[zar HA2.o.pl.tx (by decide)] at HAt;have hunf:zdZ r17 r18 f (g+1) (y.1,nds++[y.2])=if y.1.is 5 zW=true/\(nds++[y.2]).length<6 then zdZ r17 r18 f g ((zax r17 r18 f y.1).1,(nds++[y.2])++[(zax r17 r18 f y.1).2]) else (y.1,nds++[y.2]):=rfl;have hR1:=HR1.o;rw[hunf] at hR1;have HN1:Hid (y.1.is 5 zW=true->m+1<6->zdZ r17 r18 f g ((zax r17 r18 f y.1).1,(nds++[y.2])++[(zax r17 r18 f y.1).2])=R/\1201-y.1.t.a<g):=λhc hl=>by have he:y.1.er=0:=HBd2.o.er (by rw[Inv.is_k hc];decide);have k1:=(HA2.o.ok he).1;rw[if_pos ⟨hc,by omega⟩] at hR1;have k2:=Hn5.o (HEr.o he) he;have k3:=Hrem.o;have k4:=Hn3.o.ok.ta_le;have k5:=HI1.ok.ta_le;exact⟨hR1,by omega⟩
     have HN0:Hid (¬(y.1.is 5 zW=true/\m+1<6)->(y.1,nds++[y.2])=R):=λhc=>by
      rw[if_neg] at hR1
      . exact hR1
      . rintro⟨c1,c2⟩;have he:y.1.er=0:=HBd2.o.er (by rw[Inv.is_k c1];decide);have k1:=(HA2.o.ok he).1;exact hc ⟨c1,by omega⟩
     cases hc:y.1.is 5 zW with
     | false =>
       rw[hc] at HAt;go_wp2_with (go_at_call 85;refine HAt.o.mono ?_;rintro e w' ⟨rfl,rfl⟩);go_roundg g;case measure=>omega
       exact⟨false,y.1,nds++[y.2],gv2,m+1,xs2,rfl,HA2,Hz2,λh=>(by cases h),λ_=>HN0.o (λh=>by rw[hc] at h;cases h.1)⟩
     | true =>
       rw[hc] at HAt;go_wp2_with (go_at_call 85;refine HAt.o.mono ?_;rintro e w' ⟨rfl,rfl⟩);go_roundg g;case measure=>omega
       refine⟨decide (m+1<6),y.1,nds++[y.2],gv2,m+1,xs2,?_,HA2,Hz2,λh=>?_,λh=>?_⟩
       . congr 1;by_cases h6:m+1<6
         . rw[decide_eq_true h6];exact decide_eq_true (by omega)
         . rw[decide_eq_false h6];exact decide_eq_false (by omega)
       . have h6:m+1<6:=(by simpa using h);obtain⟨k1,k2⟩:=HN1.o hc h6;exact⟨by omega,k1,k2⟩
       . have h6:¬m+1<6:=(by simpa using h);exact HN0.o (λh'=>h6 h'.2)
end
section
def zeQ (p:ByteArray)(e:Value):Value:=.iface 169 (.agg #[.string p,e])
theorem zdo (p:ByteArray)(t:TypeId)(v:Value)(w:World):xK 41 #[.string p,.iface t v] w λe w'=>e=.returned (zeQ p (.iface t v))/\w=w':=by go_enter func41,ntmps41;go_wp2_with fail;go_ret;exact⟨rfl,rfl⟩
def St.first (s:ByteArray):St:=⟨s,zZ s 0,0,0,0,[]⟩
theorem zmc {s:ByteArray}(hs:s.size<=1200):Inv 0 (St.first s):=by have h:=zV s 0 (Nat.zero_le _);refine⟨⟨hs,h.2.2.1,h.2.1,h.2.2.2.1,by simp[St.first],by simp[St.first],by simp[St.first],h.2.2.2.2.1⟩,?_,?_,?_,?_,?_⟩;all_goals first|exact h.2.2.2.2.2|simp[St.first]
def zfv:ByteArray:=⟨#[114,101,97,100,105,110,103]⟩
def znP (S:Nat->Addr)(w:World)(r:St×List Nd)(e:Ending)(w':World):Prop :=
 (r.1.er≠0->e=.returned (.tuple #[.pointer none,zeQ zfv (za2 S r.1.er r.1.at')])) /\
 (r.1.er=0->∃a:Addr,e=.returned (.tuple #[.pointer (some a),.nilIface])/\PG r.2 (.pointer (some a)) w' w.heap.size)/\xB w w'
theorem zni {r17 r18:Fn}(hX:zX 18 190 r18)(hK:zdI 18 r17)(g17:zv 17 r17)(g18:zv 18 r18)(S:Nat->Addr)(f:Nat)(hf1:1202<f)(hf2:f<=5000)(s:ByteArray)(w:World)(HG:Gl S w)(hs:s.size<=1200){R:St×List Nd}(hRR:zgo r17 r18 f s=R) :
 xK 28 #[.string s] w (znP S w R):=by
 have hsz:=HG.size;have HSc:=za (zi0 S s 0 w hs (Nat.zero_le _) HG);obtain⟨Q,hQ⟩:∃Q,zdZ r17 r18 f f ((zax r17 r18 f (St.first s)).1,[]++[(zax r17 r18 f (St.first s)).2])=Q:=⟨_,rfl⟩;have HRQ:R=(zbB Q.1,Q.2):=by rw[<- hRR,<- hQ];rfl
 have HPr:=za (λpb w1 h=>zke hX hK g17 g18 S pb 0 f hf1 hf2 (St.first s) w1 (zmc hs) rfl h hQ);have hls:¬(1200<(s.size:Int)):=by omega
 go_enter func28,ntmps28;go_wp2_with fail;refine HSc.o.mono ?_;rintro e w1 ⟨rfl,HB1⟩;have hz1:=HB1.size;have hL1:PL S (w1.alloc (zgL S (St.first s))) w1.heap.size (St.first s):=⟨zkH s 0,zc w1 _,HG.of (T:=λ_=>False) (Fr.alloc (Fr.of_below HB1) _) (λ_ h=>h.elim),by omega⟩;have HL1:=za hL1;unfold Tk.cval;have hpo:zgL S (St.first s)=.cells #[.string s,xI (ck (zZ s 0)),.string (cs s (zZ s 0)),.int .i64 (zZ s 0).a,xI (cn (zZ s 0)),xI 0,.nilIface] 82:=by simp[zgL,St.first,za2]
 rw[hpo] at HL1;go_wp2_with fail;refine (HPr.o _ _ HL1.o).mono ?_;rintro e w2 ⟨a,rfl,hL2,hF2,hP2⟩;have hz2:=hF2.size;rw[zsb] at hz2;have HB2:Hid (xB w w2):=by have h1:Fr (λ_=>False) w w1:=Fr.of_below HB1;have h:=(h1.alloc (.cells #[.string s,xI (ck (zZ s 0)),.string (cs s (zZ s 0)),.int .i64 (zZ s 0).a,xI (cn (zZ s 0)),xI 0,.nilIface] 82)).trans' hF2 (λi hi h=>by omega);exact⟨h.os,h.tape,h.output,h.size,λk hk=>h.block k hk (λh=>h)⟩
 obtain⟨h0,h1,h2,h3,h4,h5,h6⟩:=hL2.cells;have hlt2:=hL2.lt;have HP2:=za hP2.out;by_cases He:(zbB Q.1).er=0
 . rw[show za2 S (zbB Q.1).er (zbB Q.1).at'=.nilIface by simp[za2,He]] at h6;go_wp2_with fail;refine bodyPost_ret (v:=.tuple #[.pointer (some a),.nilIface]) (by simp[results,results28,go_sem]) rfl ?_;rw[HRQ];refine⟨λh=>absurd He h,λ_=>⟨a,rfl,?_⟩,HB2.o⟩;have hp:=HP2.o He;obtain⟨gb,gv,xs,k0,k1,k2,k3,k4⟩:=hp;rw[zsb] at k1 k3 k4;exact⟨gb,gv,xs,k0,by omega,k2,zR k3 (by omega),k4.down (by omega)⟩
 . rw[show za2 S (zbB Q.1).er (zbB Q.1).at'=.iface 71 (.agg #[sen S (zbB Q.1).er,.int .i64 (zbB Q.1).at']) by simp[za2,He]] at h6;go_wp2_with (go_at_call 41;refine (zdo _ _ _ _).mono ?_;rintro e w3 ⟨rfl,rfl⟩);refine bodyPost_ret (v:=.tuple #[.pointer none,zeQ zfv (.iface 71 (.agg #[sen S (zbB Q.1).er,.int .i64 (zbB Q.1).at']))]) (by simp[results,results28,go_sem,zfv]) rfl ?_;rw[HRQ];refine⟨λ_=>?_,λh=>absurd h He,HB2.o⟩
   show _=Ending.returned (.tuple #[.pointer none,zeQ zfv (za2 S (zbB Q.1).er (zbB Q.1).at')]);rw[show za2 S (zbB Q.1).er (zbB Q.1).at'=.iface 71 (.agg #[sen S (zbB Q.1).er,.int .i64 (zbB Q.1).at']) by simp[za2,He]]
theorem zk1:∃r17 r18:Fn,r17=(lev 17).ex/\r18=(lev 18).ex/\zX 18 190 r18/\zdI 18 r17/\zv 17 r17/\zv 18 r18:=by obtain⟨c1,_,_,c4⟩:=znu 18;refine⟨_,_,rfl,rfl,c1,?_,(zgP 17).1,(zgP 18).1⟩;rw[if_neg (by decide)] at c4;exact c4
end
section
variable {a:Addr} {B N b i j:Nat} {o1 o2:Obj} {P:Program} {u v:Value} {W w w' w1:World}
theorem zna (w:World)(g:Nat)(cs:Array Value):Fr (·=g) w (w.setRow g cs) :=
 ⟨rfl,rfl,rfl,by simp[World.setRow],λk _ hn=>setRow_other w g k cs hn⟩
theorem zew (w:World)(dT sT ty elem:TypeId)(g dLen dCap:Nat)(sp:Option Addr)(sLen sCap:Nat)(cur:List Value)(t:TypeId)(cs:List Value)
 (hu:P.underlying dT=some (.slice elem)) (hs:(P.info? elem).map (·.size)=some 1)
 (hg:xH w g cur.toArray t) (hn:cs.length=Nat.min sLen dLen)
 (hsrc:0<cs.length->∃ad,sp=some ad/\∀j v,cs[j]?=some v->w.cell? (ad.add j)=some v) (hfit:cs.length<=cur.length) (h1:∀v∈cs,v.oneCell'=true) :
 ∃w',(Builtin.copy_ #[dT,sT] ty #[xS g dLen dCap,.slice sp sLen sCap]).run P w=.ok (goInt cs.length) w'/\w'.heap[g]?=some (.cells (cs++cur.drop cs.length).toArray t (0,0))/\Fr (·=g) w w':=by
 by_cases h0:cs.length=0
 . obtain rfl:cs=[]:=List.eq_nil_of_length_eq_zero h0;exact⟨w,run_copy_none (P:=P) w dT sT ty elem _ sp dLen dCap sLen sCap hu hs (by simpa using hn.symm),by simpa using hg,Fr.refl _ w⟩
 . obtain⟨ad,rfl,hsr⟩:=hsrc (by omega);refine⟨_,run_copy_row (P:=P) w dT sT ty elem g 0 dLen dCap ad sLen sCap cur.toArray t cs hu hs hg hn hsr (by simpa using hfit) h1,?_,zna _ _ _⟩;have:=setRow_heap w g cur.toArray (cur.take 0++cs++cur.drop (0+cs.length)).toArray t _ hg;simpa using this
theorem zmi {ops:Array Oper}{o:Oper}{a:Act}{K:Act->World->Prop}{Q:Exit->Act->World->Prop}{E:Prop}(hgd:o.guard=none)(d s:Operand)(dT sT:TypeId)
 (ho:o.op=.call { callee:=.builtin .copy,args:=#[d,s],argTypes:=#[dT,sT] }) (elem:TypeId) (hu:P.underlying dT=some (.slice elem)) (hsz:(P.info? elem).map (·.size)=some 1)
 (g dLen dCap:Nat) (sp:Option Addr) (sLen sCap:Nat) (hd:a.eval d=xS g dLen dCap) (hs:a.eval s=.slice sp sLen sCap)
 (cur:List Value) (t:TypeId) (hg:xH w g cur.toArray t) (cs:List Value) (hn:cs.length=Nat.min sLen dLen)
 (hsrc:0<cs.length->∃ad,sp=some ad/\∀j v,cs[j]?=some v->w.cell? (ad.add j)=some v) (hfit:cs.length<=cur.length) (h1:∀v∈cs,v.oneCell'=true)
 (h:∀w',w'.heap[g]?=some (.cells (cs++cur.drop cs.length).toArray t (0,0))->Fr (·=g) w w'->K (a.put o.dst (goInt cs.length)) w') :
 if Region.wanted o (yielded ops a.tmps)=true then Oper.wp P o a w K Q else E:=by
 have hw:Region.wanted o (yielded ops a.tmps)=true:=by simp[Region.wanted,hgd]
 rw[if_pos hw];obtain⟨w',hrun,h2,h3⟩:=zew (P:=P) w dT sT o.type elem g dLen dCap sp sLen sCap cur t cs hu hsz hg hn hsrc hfit h1;unfold Oper.wp;simp[execOp,ho,resolve,invoke,builtin,hd,hs,hrun,Result.andThen];exact h w' h2 h3
theorem zjb (b:Nat)(t:TypeId):∀(vs:List Value) (o:Nat) (w:World) (cur:List Value),w.heap[b]?=some (.cells cur.toArray t (0,0))->o+vs.length<=cur.length->(w.setCells b o vs).heap[b]?=some (.cells (cur.take o++vs++cur.drop (o+vs.length)).toArray t (0,0))/\Fr (·=b) w (w.setCells b o vs):=by
 intro vs;induction vs with
 | nil=>intro o w cur h _;exact⟨by simpa [World.setCells] using h,Fr.refl _ w⟩
 | cons v vs ih =>
   intro o w cur h hl;simp only[List.length_cons] at hl;have h1:=zh w b o v h;have h2:cur.toArray.setIfInBounds o v=(cur.set o v).toArray:=(by simp);rw[h2] at h1;obtain⟨k1,k2⟩:=ih (o+1) (w.setCell (xD b o) v) (cur.set o v) h1 (by simp;omega);refine⟨?_,((Fr.refl (·=b) w).set1 o v).trans k2⟩
   show (World.setCells (w.setCell (xD b o) v) b (o+1) vs).heap[b]?=_;rw[k1];congr 3;have e1:(cur.set o v).take (o+1)=cur.take o++[v]:=(by rw[List.take_set,List.take_succ_eq_append_getElem (by omega:o<cur.length),List.set_append_right _ _ (by simp;omega)];simp[Nat.min_eq_left (by omega:o<=cur.length)]);have e2:(cur.set o v).drop (o+1+vs.length)=cur.drop (o+(vs.length+1)):=(by rw[List.drop_set_of_lt (by omega)];congr 1;omega);rw[e1,e2];simp
theorem ziG (w:World)(t e ty:TypeId)(z:Value)(ht:P.underlying t=some (.slice e))(hv:∀w,(zeroValue e).run P w=.ok z w)(hz:z.cells=#[z])(h1:z.oneCell'=true)(b c:Nat)(cur:List Value)(te:TypeId)
 (hg:w.heap[b]?=some (.cells cur.toArray te (0,0))) :
 ∃w',(Builtin.clear_ #[t] ty #[xS b cur.length c]).run P w=.ok (.tuple #[]) w'/\w'.heap[b]?=some (.cells (List.replicate cur.length z).toArray te (0,0))/\Fr (·=b) w w':=by
 by_cases h0:cur.length=0
 . obtain rfl:cur=[]:=List.eq_nil_of_length_eq_zero h0;refine⟨w,?_,by simpa using hg,Fr.refl _ w⟩;simp[Builtin.clear_,run_underlying ht]
 . refine⟨_,Lib.run_clear_slice (P:=P) w t e ty z ht hv hz h1 b 0 cur.length c (by omega) (λj hj=>?_) (λj hj=>?_),?_⟩
   . simp[World.cell?,hg,hj]
   . simp[World.frozen?,hg]
   . have:=zjb b te (List.replicate cur.length z) 0 w cur hg (by simp);simpa using this
theorem zg (h:W.cell? a=some v):W.drew.cell? a=some v:=h
theorem zj (o:Obj)(h:W.cell? a=some v):(W.alloc o).cell? a=some v:=Lib.cell?_alloc_some o h
theorem zk {k:Nat}(hk:¬k=b)(h:W.cell? (xD k i)=some v):(W.setCell (xD b j) u).cell? (xD k i)=some v :=
 (World.cell?_of_block (w:=W) (Below.heap_setCell W _ u k hk)).trans h
theorem za0 (h:∃v,W.cell? (xD b i)=some v):(W.setCell (xD b i) u).cell? (xD b i)=some u:=by
 obtain⟨v,hv⟩:=h;unfold World.cell? at hv ⊢;simp only[World.setCell,Array.getElem?_modify] at hv ⊢;cases ho:W.heap[b]? with
 | none=>simp[ho] at hv
 | some o =>
   cases o with
   | cells c e f =>
     simp only[ho] at hv;have hi:i<c.size:=by
      rcases Nat.lt_or_ge i c.size with h|h
      . exact h
      . simp[Array.getElem?_eq_none h] at hv
     simp[hi]
   | _=>simp[ho] at hv
theorem zce (h:W.cell? (xD b i)=some v):∃v,(W.setCell (xD b j) u).cell? (xD b i)=some v:=by
 unfold World.cell? at h ⊢;simp only[World.setCell,Array.getElem?_modify] at h ⊢;cases ho:W.heap[b]? with
 | none=>simp[ho] at h
 | some o =>
   cases o with
   | cells c e f =>
     simp only[ho] at h;have hi:i<c.size:=by
      rcases Nat.lt_or_ge i c.size with h'|h'
      . exact h'
      . simp[Array.getElem?_eq_none h'] at h
     simp[hi]
   | _=>simp[ho] at h
theorem zd (h:Below B w W)(hc:w.cell? (xD b i)=some v)(hb:b<B):W.cell? (xD b i)=some v:=(World.cell?_of_block (w:=w) (h.block b hb)).trans hc
theorem zE (h:Below (w.alloc o1).heap.size (w.alloc o1) w1):xB w w1 :=
 ((Below.refl w.heap.size w).alloc (Nat.le_refl _) o1).trans (h.mono (by simp))
theorem zhh (h:Below ((w.alloc o1).alloc o2).heap.size ((w.alloc o1).alloc o2) w1):xB w w1:=zE (zE h)
theorem zg2 {o3:Obj}(h:Below (((w.alloc o1).alloc o2).alloc o3).heap.size (((w.alloc o1).alloc o2).alloc o3) w1):xB w w1:=zE (zhh h)
theorem zeW (hN:N<=w.heap.size)(o1:Obj):∀k,k<N->(w.alloc o1).heap[k]?=w.heap[k]?:=λk hk=>Below.heap_alloc _ _ _ (by omega)
theorem zfr (hN:N<=w.heap.size)(o1 o2:Obj):∀k,k<N->((w.alloc o1).alloc o2).heap[k]?=w.heap[k]?:=λk hk=>(Below.heap_alloc _ _ _ (by simp;omega)).trans (Below.heap_alloc _ _ _ (by omega))
theorem zot (hN:N<=w.heap.size)(o1 o2 o3:Obj):∀k,k<N->(((w.alloc o1).alloc o2).alloc o3).heap[k]?=w.heap[k]?:=λk hk=>(Below.heap_alloc _ _ _ (by simp;omega)).trans (zfr hN o1 o2 k hk)
theorem zq (w:World)(o1:Obj):xB w (w.alloc o1):=(Below.refl w.heap.size w).alloc (Nat.le_refl _) o1
theorem zaD (w:World)(o1 o2:Obj):xB w ((w.alloc o1).alloc o2):=zE (zq _ _)
theorem zcz (w:World)(o1 o2 o3:Obj):xB w (((w.alloc o1).alloc o2).alloc o3):=zE (zaD _ _ _)
theorem zo (h:Below B w W):Below B w W.drew:=⟨h.os,h.tape,h.output,h.size,h.block⟩
theorem zC (h:Below B w W)(hb:B<=b)(u:Value):Below B w (W.setCell (xD b i) u):=h.setCell hb u
def Old (N:Nat)(w w':World):Prop:=∀k,k<N->w'.heap[k]?=w.heap[k]?
theorem Old.refl (N:Nat)(w:World):Old N w w:=λ_ _=>rfl
theorem Old.trans {a b c:World}(h:Old N a b)(k:Old N b c):Old N a c:=λi hi=>(k i hi).trans (h i hi)
theorem Fr.old {S:Nat->Prop}(h:Fr S w w')(hN:N<=w.heap.size)(hS:∀k,S k->N<=k):Old N w w':=λk hk=>h.block k (by omega) (λhs=>by have:=hS k hs;omega)
theorem zm (h:Below B w w')(hN:N<=B):Old N w w':=λk hk=>h.block k (by omega)
theorem Old.mono {N':Nat}(h:Old N w w')(hN:N'<=N):Old N' w w':=λk hk=>h k (by omega)
end
end Go.Proofs.YtbicmofihhjgbaaGreatDoor
