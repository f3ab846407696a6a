/- Part 26 of the proof: CofM CofN CofO TreA MdlF. -/
import Derived.Test.YtmfkofhgdjechaaGreatDoorK24
set_option maxRecDepth 100000
set_option maxHeartbeats 8000000
namespace Go.Proofs.YtmfkofhgdjechaaGreatDoor
open Go.Proofs.Tryz
section
open Go.RowKit
variable {r17 r18:Fn} {B:Nat} {q:Nd} {av:Value} {w wr:World}
def zd3 (B:Nat)(wr:World)(av:Value):List Nd->List Value->Prop
 | [],xs=>xs=[]
 | q::qs,xs=>∃v ys,xs=v::ys/\Was B wr av (ND q v)/\zd3 B wr av qs ys
theorem zd3.next {w':World}{av':Value}{T:Nat->Prop}(hf:Fr T wr w')(hT:∀k,T k->k<B∨av.ownBlock=some k)(ha:∀k,av'.ownBlock=some k->av.ownBlock=some k∨wr.heap.size<=k) :
 ∀(qs:List Nd) (xs:List Value),zd3 B wr av qs xs->zd3 B w' av' qs xs:=by
 intro qs;induction qs with
 | nil=>intro xs h;exact h
 | cons q qs ih => rintro xs ⟨v,ys,h1,h2,h3⟩;exact⟨v,ys,h1,h2.next hf hT ha,ih ys h3⟩
theorem zd3.snoc {v:Value}(h2:Was B wr av (ND q v)):∀(qs:List Nd) (xs:List Value),zd3 B wr av qs xs->zd3 B wr av (qs++[q]) (xs++[v]):=by
 intro qs;induction qs with
 | nil=>rintro xs rfl;exact⟨v,[],rfl,h2,rfl⟩
 | cons q' qs ih => rintro xs ⟨v',ys,rfl,h4,h3⟩;exact⟨v',_,rfl,h4,ih ys h3⟩
structure GI (S:Nat->Addr) (pb gb B:Nat) (w wr:World) (s:St) (nds:List Nd) (gv:Value) (m:Nat) (xs:List Value):Prop where
 inv:∃p,Inv p s
 op:s.op=0
 pl:PL S wr pb s
 blk:xH wr gb #[gv] 77
 own:wr.ownsRow B 78 1 gv m xs
 ok:s.er=0->m=nds.length/\zd3 B wr gv nds xs
 fr:Fr (·=pb) w wr
theorem zqg {S:Nat->Addr}{pb gb:Nat}{w1 w9:World}{s s':St}{nds:List Nd}{gv v':Value}{m:Nat}{xs:List Value}{a:Option Addr}{X:Obj}
 (h:GI S pb gb B w wr s nds gv m xs) (hnp:pb<gb) (hBn:gb<B) (hwn:w.heap.size<=gb) (hBw:B<=wr.heap.size) (hi:∃p,Inv p s') (her:s'.er=0->s.er=0) (ho:s'.op=0)
 (hF1:Fr (·=pb) wr w1) (hok:s'.er=0->ND q (.pointer a) w1 wr.heap.size)
 (hL9:PL S w9 pb s') (hF9:Fr (λk=>gv.ownBlock=some k) (w1.alloc X) w9) (hn9:w9.heap[gb]?=some (.cells #[gv] 77 (0,0)))
 (hown:w9.ownsRow B 78 1 v' (m+1) (xs++[.pointer a])) (hnew:∀k,v'.ownBlock=some k->gv.ownBlock=some k∨(w1.alloc X).heap.size<=k) :
 GI S pb gb B w (w9.setCell (xD gb 0) v') s' (nds++[q]) v' (m+1) (xs++[.pointer a]):=by
 have hev:∀k,gv.ownBlock=some k->B<=k/\k<wr.heap.size:=λk hk=>h.own.lt k hk;have hz1:=hF1.size;have hz9:=hF9.size;have hzx:(w1.alloc X).heap.size=w1.heap.size+1:=by simp
 have hFa:Fr (λk=>k=pb∨k=gb∨gv.ownBlock=some k) wr (w9.setCell (xD gb 0) v'):=by have h1:Fr (λk=>k=pb∨k=gb∨gv.ownBlock=some k) wr (w1.alloc X):=(hF1.mono (λ_ _ h=>Or.inl h)).alloc X;exact (h1.trans' hF9 (λ_ _ h=>Or.inr (Or.inr h))).setCell (Or.inl (Or.inr (Or.inl rfl))) _
 refine⟨hi,ho,hL9.setOther hnp _ _,zh _ _ _ _ hn9,zi hown (λk h1 _ _=>zr (by omega) rfl),?_,?_⟩
 . intro he;obtain⟨e1,e2⟩:=h.ok (her he);refine⟨by simp[e1],?_⟩;have hE2:=zd3.next (av':=v') hFa (λk hk=>by
    rcases hk with hk|hk|hk
    . left;omega
    . left;omega
    . exact Or.inr hk) (λk hk=>by
    rcases hnew k hk with h1|h1
    . exact Or.inl h1
    . right;omega) _ _ e2
   refine zd3.snoc ?_ _ _ hE2;refine⟨w1,wr.heap.size,hBw,hok he,λk h1 h2=>?_,λg hg=>?_,?_⟩
   . exact zr (by omega) ((hF9.block k (by omega) (λh=>by have:=(hev k h).2;omega)).trans (Below.heap_alloc _ _ _ h2))
   . rcases hnew g hg with h|h
     . left;exact (hev g h).2
     . right;omega
   . simp[World.setCell];omega
 . have h1:Fr (·=pb) w (w1.alloc X):=(h.fr.trans hF1).alloc X;exact (h1.trans' hF9 (λi hi hs=>by have:=(hev i hs).1;omega)).setNew hwn _ _
theorem zmC (t:Tk):(((ck t:Nat):Int) != 1)=!(t.k==0):=by
 by_cases h:t.k=0
 . simp[ck,h]
 . have:ck t≠1:=by unfold ck;(repeat' split) <;> first|decide|(exfalso;omega)
   have h2:(t.k==0)=false:=(by simp[h]);rw[h2];simp;omega
theorem zny (g17:zv 17 r17)(g18:zv 18 r18){f p:Nat}{st:St}(hI:Inv p st)(ho:st.op=0)(he:(zax r17 r18 f st).1.er=0):st.er=0:=by
 have h1:=(zhx g17 g18 (f:=f) (nodes:=[]) hI ho (by simp)).1.er;by_cases h:st.er=0
 . exact h
 . exact absurd (h1.symm.trans he) ((zmW g17 g18 (f:=f) (nodes:=[]) hI ho).2.2.2 h)
theorem zqd:zH 74:=λ_ _=>by kernel_rfl
theorem Tryz.infoNp:(prog.info? 78).map (λi=>(i.zero,i.size,i.bytes))=some (some (.pointer none),1,8):=by kernel_rfl
def zgE (w:World)(B:Nat):List Nd->List Value->Prop
 | [],xs=>xs=[]
 | q::qs,xs=>∃v ys,xs=v::ys/\ND q v w B/\zgE w B qs ys
theorem zd3.now:∀{qs:List Nd} {xs:List Value},zd3 B w av qs xs->zgE w B qs xs:=by
 intro qs;induction qs with
 | nil=>intro xs h;exact h
 | cons q qs ih => rintro xs ⟨v,ys,h1,h2,h3⟩;exact⟨v,ys,h1,zqU h2,ih h3⟩
theorem zgE.down {B':Nat}(hb:B'<=B):∀{qs:List Nd} {xs:List Value},zgE w B qs xs->zgE w B' qs xs:=by
 intro qs;induction qs with
 | nil=>intro xs h;exact h
 | cons q qs ih => rintro xs ⟨v,ys,h1,h2,h3⟩;exact⟨v,ys,h1,h2.down hb,ih h3⟩
def PG (nds:List Nd)(v:Value)(w:World)(B:Nat):Prop:=∃gb gv xs,v=xP gb/\B<=gb/\w.heap[gb]?=some (.cells #[gv] 77 (0,0))/\w.ownsRow B 78 1 gv nds.length xs/\zgE w B nds xs
theorem zke (HX:zX 18 194 r18)(HK:zdI 18 r17)(G17:zv 17 r17)(G18:zv 18 r18)(S:Nat->Addr)(pb p f:Nat)(hf1:1202<f)(hf2:f<=5000)(st:St)(w:World)(hI:Inv p st)(ho:st.op=0)(hR:PL S w pb st){R:St×List Nd}(hRR:zdZ r17 r18 f f ((zax r17 r18 f st).1,[]++[(zax r17 r18 f st).2])=R) :
 xK 33 #[xP pb] w (λe w'=>∃a:Addr,e=.returned (.pointer (some a))/\PL S w' pb (zbB R.1)/\Fr (·=pb) w w'/\Hid ((zbB R.1).er=0->PG R.2 (.pointer (some a)) w' w.heap.size)):=by
 have hlt:=hR.lt;have HRR:=za hRR
 have hG0:GI S pb w.heap.size (w.heap.size+1) w (w.alloc (.cells #[.slice none 0 0] 77)) st [] (.slice none 0 0) 0 [] :=
  ⟨⟨p,hI⟩,ho,hR.alloc _,zc w _,World.ownsRow_nil _ _ _ _,λ_=>⟨rfl,rfl⟩,(Fr.refl _ w).alloc _⟩
 have HG0:=za hG0;go_enter func33,ntmps33;go_wp2_with fail;go_loopg [4] f (λk mo wx=>∃(b:Bool) (s:St) (nds:List Nd) (gv:Value) (m:Nat) (xs:List Value),mo=.bool b/\Hid (GI S pb w.heap.size (w.heap.size+1) w wx s nds gv m xs)/\Hid (w.heap.size+1<=wx.heap.size)/\Hid (b=true->m<=5/\zdZ r17 r18 f k ((zax r17 r18 f s).1,nds++[(zax r17 r18 f s).2])=R/\1201-s.t.a<k)/\Hid (b=false->(s,nds)=R));case atStart=>exact⟨true,st,[],.slice none 0 0,0,[],rfl,HG0,by unfold Hid;simp,λ_=>⟨by omega,HRR.o,by omega⟩,λh=>by cases h⟩
 case round =>
  obtain⟨b,s,nds,gv,m,xs,rfl,HA,Hzw,HT,HFa⟩:=hrel;cases b with
  | false =>
    have HQ:=za (HFa.o rfl);have HA1:GI S pb w.heap.size (w.heap.size+1) w wr R.1 R.2 gv m xs:=(by rw[<- HQ.o];exact HA.o);obtain⟨h0,h1,h2,h3,h4,h5,h6⟩:=HA1.pl.cells;have hltr:=HA1.pl.lt;have hsyn:wr.cell? (xD 8 0)=some (.iface 399 (.pointer (some (S 2)))):=HA1.pl.gl.syn;have hck:=zmC R.1.t;cases hk:(R.1.t.k==0) with
    | true => rw[hk] at hck;go_wp2_with fail;go_ret;have he:zbB R.1=R.1:=(by unfold zbB;rw[if_pos (by simpa using hk)]);rw[he];refine⟨(xD w.heap.size 0),rfl,HA1.pl,HA1.fr,λhe'=>?_⟩;obtain⟨e1,e2⟩:=HA1.ok he';subst e1;exact⟨w.heap.size,gv,xs,rfl,Nat.le_refl _,HA1.blk,zR HA1.own (by omega),e2.now.down (by omega)⟩
    | false => rw[hk] at hck;go_wp2_with fail;refine (zc5 S pb R.1 2 (by decide) wr HA1.pl).mono ?_;rintro e w5 ⟨rfl,HL5,HF5⟩;go_wp2_with fail;go_ret;have he:zbB R.1=R.1.fail 2 R.1.t.a:=(by unfold zbB;rw[if_neg (by simpa using hk)]);rw[he];exact⟨(xD w.heap.size 0),rfl,HL5,HA1.fr.trans HF5,λhe'=>absurd he' (St.fail_er _ (by decide))⟩
  | true =>
    obtain⟨hm5,hR1,hrem⟩:=HT.o rfl;have hzr:=Hzw.o;have hltr:=HA.o.pl.lt;obtain⟨p1,HI1⟩:=HA.o.inv;have HQe:=za (λw1 h=>zmS HX HK G17 G18 S pb p1 f hf1 hf2 s w1 HI1 HA.o.op h);obtain⟨_,_,n3,n4,n5⟩:=zhx G17 G18 (f:=f) (nodes:=[]) HI1 HA.o.op (by simp);have HEr:=za (λhe=>zny G17 G18 (f:=f) HI1 HA.o.op he);obtain⟨y,hy⟩:∃y,zax r17 r18 f s=y:=⟨_,rfl⟩;rw[hy] at HQe n3 n4 n5 HEr hR1;have HR1:=za hR1;have Hrem:=za hrem;have Hn3:=za n3;have Hn4:=za n4;have Hn5:=za n5;obtain⟨q0,qf,qz⟩:=zu HA.o.blk;obtain⟨i0,hi,hi0,hi1,hi2⟩:=info_parts Tryz.infoNp;have mx:m+1<=maxLen:=(by unfold maxLen;omega);have by':(m+1)*8<=140737488355328:=(by omega);go_upto_block 1 with fail;go_cut [] (λwy=>∃gv' xs',Hid (GI S pb w.heap.size (w.heap.size+1) w wy y.1 (nds++[y.2]) gv' (m+1) xs')/\Hid (w.heap.size+1<=wy.heap.size));case first =>
     go_wp2_with fail;go_region_law (first|(refine zbL rfl 74 (.tmp 23) 136 rfl zqd (xP pb) rfl (HQe.o _ HA.o.pl.drew) ?_;rintro e w2 ⟨aq,rfl,HL2,hF2',hok2⟩;refine⟨_,rfl,?_⟩;have HF2:Fr (·=pb) wr w2:=hF2'.undrew;have hzc2:=HF2.size;have Hb2:=(HF2.block w.heap.size qz (by omega)).trans HA.o.blk;obtain⟨f0,ff,fz⟩:=zu Hb2;have Hown2:=za (zi HA.o.own (λk h1 h2 _=>HF2.block k h2 (by omega)));have Hok2:=za hok2.out;have hzw:w.heap.size+1<=w2.heap.size+1:=(by omega))|(refine zJ _ rfl (.tmp 22) (.tmp 25) 75 rfl (w.heap.size+1) 78 i0 _ 1 8 underlying75 hi hi0 hi1 hi2 rfl (by decide) gv m xs rfl (zD Hown2.o _) (xD w2.heap.size 0) 1 1 [.pointer (some aq)] rfl rfl (zN (zc w2 _) rfl) zku mx by' (by simpa using hzw) ?_;intro v' w9 Hown9 hgrow Hnew9;obtain⟨g9,cap9,rfl,hg9⟩:=zM Hown9 (by omega);have HF9:=Fr.of_grown hgrow;have hb9:w9.heap[w.heap.size]?=w2.heap[w.heap.size]?:=((HF9.block w.heap.size (by rw[zsb];omega) (λh=>by have:=(Hown2.o.lt _ h).1;omega)).trans (Below.heap_alloc _ _ _ fz));have Hn9:=za (hb9.trans Hb2);obtain⟨m0,mf,mz⟩:=zu Hn9.o;have HL9:=za (PL.fr (HL2.alloc _) HF9 (λk hk=>by have:=(Hown2.o.lt k hk).1;omega));have hzz9:=HF9.size;rw[zsb] at hzz9));all_goals go_wp2_with fail
     all_goals go_meet
     all_goals exact⟨_,_,zqg HA.o hlt (by omega) (by omega) (by omega) ⟨0,Hn3.o⟩ HEr.o Hn4.o HF2 Hok2.o HL9.o HF9 Hn9.o Hown9 Hnew9,(by unfold Hid;simp[World.setCell];omega)⟩
    case rest =>
     obtain⟨gv2,xs2,HA2,Hz2⟩:=hcut;have HBd2:=za Hn3.o.toBad;obtain⟨x2,cp2,hgv⟩:=zbP HA2.o.own;have Hb2:=HA2.o.blk;rw[hgv] at Hb2;obtain⟨m0,mf,mz⟩:=zu Hb2;obtain⟨g,rfl⟩:∃g,gk=g+1:=⟨gk-1,by have:=Hrem.o;omega⟩;have HAt:=za (zaP S pb y.1 ⟨#[110,111,100,101]⟩ _ zmU wc HBd2.o.ok.tk HA2.o.pl);rw[zar HA2.o.pl.tx (by decide)] at HAt;have hunf:zdZ r17 r18 f (g+1) (y.1,nds++[y.2])=if y.1.is 5 zW=true/\(nds++[y.2]).length<6 then zdZ r17 r18 f g ((zax r17 r18 f y.1).1,(nds++[y.2])++[(zax r17 r18 f y.1).2]) else (y.1,nds++[y.2]):=rfl;have hR1:=HR1.o;rw[hunf] at hR1;have HN1:Hid (y.1.is 5 zW=true->m+1<6->zdZ r17 r18 f g ((zax r17 r18 f y.1).1,(nds++[y.2])++[(zax r17 r18 f y.1).2])=R/\1201-y.1.t.a<g):=λhc hl=>by have he:y.1.er=0:=HBd2.o.er (by rw[Inv.is_k hc];decide);have k1:=(HA2.o.ok he).1;rw[if_pos ⟨hc,by omega⟩] at hR1;have k2:=Hn5.o (HEr.o he) he;have k3:=Hrem.o;have k4:=Hn3.o.ok.ta_le;have k5:=HI1.ok.ta_le;exact⟨hR1,by omega⟩
     have HN0:Hid (¬(y.1.is 5 zW=true/\m+1<6)->(y.1,nds++[y.2])=R):=λhc=>by
      rw[if_neg] at hR1
      . exact hR1
      . rintro⟨c1,c2⟩;have he:y.1.er=0:=HBd2.o.er (by rw[Inv.is_k c1];decide);have k1:=(HA2.o.ok he).1;exact hc ⟨c1,by omega⟩
     cases hc:y.1.is 5 zW with
     | false =>
       rw[hc] at HAt;go_wp2_with (go_at_call 73;refine HAt.o.mono ?_;rintro e w' ⟨rfl,rfl⟩);go_roundg g;case measure=>omega
       exact⟨false,y.1,nds++[y.2],gv2,m+1,xs2,rfl,HA2,Hz2,λh=>(by cases h),λ_=>HN0.o (λh=>by rw[hc] at h;cases h.1)⟩
     | true =>
       rw[hc] at HAt;go_wp2_with (go_at_call 73;refine HAt.o.mono ?_;rintro e w' ⟨rfl,rfl⟩);go_roundg g;case measure=>omega
       refine⟨decide (m+1<6),y.1,nds++[y.2],gv2,m+1,xs2,?_,HA2,Hz2,λh=>?_,λh=>?_⟩
       . congr 1;by_cases h6:m+1<6
         . rw[decide_eq_true h6];exact decide_eq_true (by omega)
         . rw[decide_eq_false h6];exact decide_eq_false (by omega)
       . have h6:m+1<6:=(by simpa using h);obtain⟨k1,k2⟩:=HN1.o hc h6;exact⟨by omega,k1,k2⟩
       . have h6:¬m+1<6:=(by simpa using h);exact HN0.o (λh'=>h6 h'.2)
end
section
open Go.RowKit
def zeQ (p:ByteArray)(e:Value):Value:=.iface 133 (.agg #[.string p,e])
theorem zdo (p:ByteArray)(t:TypeId)(v:Value)(w:World):xK 30 #[.string p,.iface t v] w λe w'=>e=.returned (zeQ p (.iface t v))/\w=w':=by go_enter func30,ntmps30;go_wp2_with fail;go_ret;exact⟨rfl,rfl⟩
def St.first (s:ByteArray):St:=⟨s,zZ s 0,0,0,0,[]⟩
theorem zmc {s:ByteArray}(hs:s.size<=1200):Inv 0 (St.first s):=by have h:=zV s 0 (Nat.zero_le _);refine⟨⟨hs,h.2.2.1,h.2.1,h.2.2.2.1,by simp[St.first],by simp[St.first],by simp[St.first],h.2.2.2.2.1⟩,?_,?_,?_,?_,?_⟩;all_goals first|exact h.2.2.2.2.2|simp[St.first]
def zfv:ByteArray:=⟨#[114,101,97,100,105,110,103]⟩
def znP (S:Nat->Addr)(w:World)(r:St×List Nd)(e:Ending)(w':World):Prop :=
 (r.1.er≠0->e=.returned (.tuple #[.pointer none,zeQ zfv (za2 S r.1.er r.1.at')])) /\
 (r.1.er=0->∃a:Addr,e=.returned (.tuple #[.pointer (some a),.nilIface])/\PG r.2 (.pointer (some a)) w' w.heap.size)/\xB w w'
theorem zni {r17 r18:Fn}(hX:zX 18 194 r18)(hK:zdI 18 r17)(g17:zv 17 r17)(g18:zv 18 r18)(S:Nat->Addr)(f:Nat)(hf1:1202<f)(hf2:f<=5000)(s:ByteArray)(w:World)(HG:Gl S w)(hs:s.size<=1200){R:St×List Nd}(hRR:zgo r17 r18 f s=R) :
 xK 13 #[.string s] w (znP S w R):=by
 have hsz:=HG.size;have HSc:=za (zi0 S s 0 w hs (Nat.zero_le _) HG);obtain⟨Q,hQ⟩:∃Q,zdZ r17 r18 f f ((zax r17 r18 f (St.first s)).1,[]++[(zax r17 r18 f (St.first s)).2])=Q:=⟨_,rfl⟩;have HRQ:R=(zbB Q.1,Q.2):=by rw[<- hRR,<- hQ];rfl
 have HPr:=za (λpb w1 h=>zke hX hK g17 g18 S pb 0 f hf1 hf2 (St.first s) w1 (zmc hs) rfl h hQ);have hls:¬(1200<(s.size:Int)):=by omega
 go_enter func13,ntmps13;go_wp2_with fail;refine HSc.o.mono ?_;rintro e w1 ⟨rfl,HB1⟩;have hz1:=HB1.size;have hL1:PL S (w1.alloc (zgL S (St.first s))) w1.heap.size (St.first s):=⟨zkH s 0,zc w1 _,HG.of (T:=λ_=>False) (Fr.alloc (Fr.of_below HB1) _) (λ_ h=>h.elim),by omega⟩;have HL1:=za hL1;unfold Tk.cval;have hpo:zgL S (St.first s)=.cells #[.string s,xI (ck (zZ s 0)),.string (cs s (zZ s 0)),.int .i64 (zZ s 0).a,xI (cn (zZ s 0)),xI 0,.nilIface] 69:=by simp[zgL,St.first,za2]
 rw[hpo] at HL1;go_wp2_with fail;refine (HPr.o _ _ HL1.o).mono ?_;rintro e w2 ⟨a,rfl,hL2,hF2,hP2⟩;have hz2:=hF2.size;rw[zsb] at hz2;have HB2:Hid (xB w w2):=by have h1:Fr (λ_=>False) w w1:=Fr.of_below HB1;have h:=(h1.alloc (.cells #[.string s,xI (ck (zZ s 0)),.string (cs s (zZ s 0)),.int .i64 (zZ s 0).a,xI (cn (zZ s 0)),xI 0,.nilIface] 69)).trans' hF2 (λi hi h=>by omega);exact⟨h.os,h.tape,h.output,h.size,λk hk=>h.block k hk (λh=>h)⟩
 obtain⟨h0,h1,h2,h3,h4,h5,h6⟩:=hL2.cells;have hlt2:=hL2.lt;have HP2:=za hP2.out;by_cases He:(zbB Q.1).er=0
 . rw[show za2 S (zbB Q.1).er (zbB Q.1).at'=.nilIface by simp[za2,He]] at h6;go_wp2_with fail;refine bodyPost_ret (v:=.tuple #[.pointer (some a),.nilIface]) (by simp[results,results13,go_sem]) rfl ?_;rw[HRQ];refine⟨λh=>absurd He h,λ_=>⟨a,rfl,?_⟩,HB2.o⟩;have hp:=HP2.o He;obtain⟨gb,gv,xs,k0,k1,k2,k3,k4⟩:=hp;rw[zsb] at k1 k3 k4;exact⟨gb,gv,xs,k0,by omega,k2,zR k3 (by omega),k4.down (by omega)⟩
 . rw[show za2 S (zbB Q.1).er (zbB Q.1).at'=.iface 58 (.agg #[sen S (zbB Q.1).er,.int .i64 (zbB Q.1).at']) by simp[za2,He]] at h6;go_wp2_with (go_at_call 30;refine (zdo _ _ _ _).mono ?_;rintro e w3 ⟨rfl,rfl⟩);refine bodyPost_ret (v:=.tuple #[.pointer none,zeQ zfv (.iface 58 (.agg #[sen S (zbB Q.1).er,.int .i64 (zbB Q.1).at']))]) (by simp[results,results13,go_sem,zfv]) rfl ?_;rw[HRQ];refine⟨λ_=>?_,λh=>absurd h He,HB2.o⟩
   show _=Ending.returned (.tuple #[.pointer none,zeQ zfv (za2 S (zbB Q.1).er (zbB Q.1).at')]);rw[show za2 S (zbB Q.1).er (zbB Q.1).at'=.iface 58 (.agg #[sen S (zbB Q.1).er,.int .i64 (zbB Q.1).at']) by simp[za2,He]]
theorem zB3 (S:Nat->Addr)(s:ByteArray)(w:World)(hG:Gl S w)(hs:1200<s.size) :
 xK 13 #[.string s] w (λe w'=>e=.returned (.tuple #[.pointer none,zeQ zfv (za2 S 1 0)])/\xB w w'):=by
 have hsz:=hG.size;have hlong:=hG.long;have hls:1200<(s.size:Int):=by omega
 unfold sen at hlong;go_enter func13,ntmps13;go_wp2_with (first|(go_at_call 31;refine (zi3 S 1 0 _).mono ?_;rintro e1 w1 ⟨rfl,Hb1⟩;have hz1:=Hb1.size)|(go_at_call 30;refine (zdo _ _ _ _).mono ?_;rintro e w3 ⟨rfl,rfl⟩));refine bodyPost_ret (v:=.tuple #[.pointer none,zeQ zfv (za2 S 1 0)]) (by simp[results,results13,go_sem,zfv,za2,sen]) rfl ⟨rfl,Hb1⟩
theorem zk1:∃r17 r18:Fn,r17=(lev 17).ex/\r18=(lev 18).ex/\zX 18 194 r18/\zdI 18 r17/\zv 17 r17/\zv 18 r18:=by obtain⟨c1,_,_,c4⟩:=znu 18;refine⟨_,_,rfl,rfl,c1,?_,(zgP 17).1,(zgP 18).1⟩;rw[if_neg (by decide)] at c4;exact c4
end
section
open Go.RowKit
variable {L:List Ex} {xs:List Value} {B N:Nat} {v:Value} {w w':World}
inductive Tm where
 | mk (k a:Nat) (s:ByteArray) (nm n:Nat) (as':List Tm)
def Tm.k:Tm->Nat|.mk k _ _ _ _ _=>k
def Tm.a:Tm->Nat|.mk _ a _ _ _ _=>a
def Tm.s:Tm->ByteArray|.mk _ _ s _ _ _=>s
def Tm.nm:Tm->Nat|.mk _ _ _ nm _ _=>nm
def Tm.n:Tm->Nat|.mk _ _ _ _ n _=>n
def Tm.ts:Tm->List Tm|.mk _ _ _ _ _ l=>l
inductive zeA (L:List Ex):Nat->Tm->Prop
 | mk (x:Nat) (ex:Ex) (ts:List Tm) (hx:L[x]?=some ex) (hl:ts.length=ex.ins.length) (hr:∀(i y:Nat) (t:Tm),ex.ins[i]?=some y->ts[i]?=some t->zeA L y t) :
    zeA L x (.mk (zag ex.op.toList ex.n) ex.a ex.s ex.nm (zbF ex.op.toList ex.n) ts)
inductive TT (w:World) (N:Nat):Tm->Value->Prop
 | mk (k a:Nat) (s:ByteArray) (nm n:Nat) (ts:List Tm) (b:Nat) (args:Value) (vs:List Value) (hN:b<N)
    (hb:xH w b #[xI k,xI a,.string s,xI nm,xI n,args] 216)
    (ha:w.ownsRow 0 159 1 args vs.length vs) (hg:∀g,args.ownBlock=some g->g<N) (hl:vs.length=ts.length)
    (hr:∀(i:Nat) (t:Tm) (v:Value),ts[i]?=some t->vs[i]?=some v->TT w N t v):TT w N (.mk k a s nm n ts) (xP b)
theorem TT.old {t:Tm}(h:TT w N t v)(ho:Old N w w'):TT w' N t v:=by
 induction h with
 | mk k a s nm n ts b args vs hN hb ha hg hl _ ih => exact TT.mk k a s nm n ts b args vs hN ((ho b hN).trans hb) (zi ha (λg _ _ e=>ho g (hg g e))) hg hl ih
theorem zjR {P:Nat->Tm->Value->Prop}:∀(ins:List Nat) (vs:List Value),vs.length=ins.length->(∀(i y:Nat) (v:Value),ins[i]?=some y->vs[i]?=some v->∃t,P y t v)->∃ts:List Tm,ts.length=ins.length/\∀(i y:Nat) (t:Tm) (v:Value),ins[i]?=some y->ts[i]?=some t->vs[i]?=some v->P y t v:=by
 intro ins;induction ins with
 | nil=>intro vs _ _;exact⟨[],rfl,λi y t v h=>by simp at h⟩
 | cons y ins ih =>
   intro vs hl h;cases vs with
   | nil=>simp at hl
   | cons v vs =>
     obtain⟨t,ht⟩:=h 0 y v rfl rfl;obtain⟨ts,h1,h2⟩:=ih vs (by simpa using hl) (λi y v hy hv=>h (i+1) y v (by simpa using hy) (by simpa using hv));refine⟨t::ts,by simp[h1],λi y' t' v' hy ht' hv=>?_⟩;cases i with
     | zero=>simp at hy ht' hv;subst hy ht' hv;exact ht
     | succ i=>exact h2 i y' t' v' (by simpa using hy) (by simpa using ht') (by simpa using hv)
theorem TR.tree {x:Nat}(h:TR w B L x v):∃t,zeA L x t/\TT w w.heap.size t v:=by
 induction h with
 | mk x ex b args vs hx hB hb ha hl _ ih =>
   obtain⟨ts,h1,h2⟩:=zjR (P:=λy t v=>zeA L y t/\TT w w.heap.size t v) ex.ins vs hl ih;have hv:∀i t,ts[i]?=some t->∃y v,ex.ins[i]?=some y/\vs[i]?=some v:=λi t ht=>by have hi:=(List.getElem?_eq_some_iff.1 ht).1;exact⟨_,_,zsc (by omega),zsc (by omega)⟩
   refine⟨.mk (zag ex.op.toList ex.n) ex.a ex.s ex.nm (zbF ex.op.toList ex.n) ts,zeA.mk x ex ts hx h1 (λi y t hy ht=>?_),TT.mk _ _ _ _ _ ts b args vs (ze hb) hb (zR ha (Nat.zero_le _)) (λg e=>(ha.lt g e).2) (by omega) (λi t v ht hv'=>?_)⟩
   . obtain⟨y',v,e1,e2⟩:=hv i t ht;exact (h2 i y t v hy ht e2).1
   . obtain⟨y',v',e1,e2⟩:=hv i t ht;exact (h2 i y' t v e1 ht hv').2
structure Qn where
 ns:List ByteArray
 ps:List Nat
 a:Nat
 r:Tm
structure Nod where
 nm:ByteArray
 a:Nat
 vars:List Vr
 ins:Nat
 outs:Nat
 eqs:List Qn
def zcU (w:World)(N:Nat):List Qn->List Value->Prop
 | [],xs=>xs=[]
 | q::qs,xs=>∃lv v ys,xs=lv::(xI q.a)::v::ys/\w.ownsRow 0 144 2 lv q.ns.length (nmC q.ns q.ps)/\(∀g,lv.ownBlock=some g->g<N)/\TT w N q.r v/\zcU w N qs ys
theorem zcU.old (ho:Old N w w'):∀{qs:List Qn} {xs:List Value},zcU w N qs xs->zcU w' N qs xs:=by
 intro qs;induction qs with
 | nil=>intro xs h;exact h
 | cons q qs ih => rintro xs ⟨lv,v,ys,h1,h2,h3,h4,h5⟩;exact⟨lv,v,ys,h1,zi h2 (λg _ _ e=>ho g (h3 g e)),h3,h4.old ho,ih h5⟩
structure NT (w:World) (N:Nat) (n:Nod) (nb:Nat) (vs ev:Value) (xs:List Value):Prop where
 blk:xH w nb #[.string n.nm,xI n.a,vs,xI n.ins,xI n.outs,ev] 147
 lo:nb<N
 vown:w.ownsRow 0 156 7 vs n.vars.length (zb0 n.vars)
 vlo:∀g,vs.ownBlock=some g->g<N
 own:w.ownsRow 0 161 3 ev n.eqs.length xs
 elo:∀g,ev.ownBlock=some g->g<N
 eqs:zcU w N n.eqs xs
 few:n.vars.length<=16
theorem NT.old {n:Nod}{nb:Nat}{vs ev:Value}(h:NT w N n nb vs ev xs)(ho:Old N w w'):NT w' N n nb vs ev xs :=
 ⟨(ho _ h.lo).trans h.blk,h.lo,zi h.vown (λg _ _ e=>ho g (h.vlo g e)),h.vlo,zi h.own (λg _ _ e=>ho g (h.elo g e)),h.elo,h.eqs.old ho,h.few⟩
def NP (w:World)(N:Nat)(n:Nod)(v:Value):Prop:=∃nb vs ev xs,v=xP nb/\NT w N n nb vs ev xs
theorem NP.old {n:Nod}(h:NP w N n v)(ho:Old N w w'):NP w' N n v:=by obtain⟨nb,vs,ev,xs,h0,h⟩:=h;exact⟨nb,vs,ev,xs,h0,h.old ho⟩
structure NL (w:World) (N:Nat) (ns:List Nod) (gv:Value) (xs:List Value):Prop where
 own:w.ownsRow 0 78 1 gv ns.length xs
 lo:∀g,gv.ownBlock=some g->g<N
 at':∀(i:Nat) (n:Nod),ns[i]?=some n->∃v,xs[i]?=some v/\NP w N n v
 few:ns.length<=6
theorem NL.old {ns:List Nod}{gv:Value}(h:NL w N ns gv xs)(ho:Old N w w'):NL w' N ns gv xs :=
 ⟨zi h.own (λg _ _ e=>ho g (h.lo g e)),h.lo,λi n hi=>by obtain⟨v,h1,h2⟩:=h.at' i n hi;exact⟨v,h1,h2.old ho⟩,h.few⟩
def PT (w:World)(N:Nat)(ns:List Nod)(v:Value):Prop:=∃gb gv xs,v=xP gb/\gb<N/\w.heap[gb]?=some (.cells #[gv] 77 (0,0))/\NL w N ns gv xs
theorem PT.old {ns:List Nod}(h:PT w N ns v)(ho:Old N w w'):PT w' N ns v:=by obtain⟨gb,gv,xs,h0,h1,h2,h3⟩:=h;exact⟨gb,gv,xs,h0,h1,(ho _ h1).trans h2,h3.old ho⟩
structure zrJ (L:List Ex) (q:Eqn) (q':Qn):Prop where
 ns:q'.ns=q.ns
 ps:q'.ps=q.ps
 a:q'.a=q.a
 r:zeA L q.ex q'.r
def zge (L:List Ex):List Eqn->List Qn->Prop
 | [],qs=>qs=[]
 | q::l,qs=>∃q' l',qs=q'::l'/\zrJ L q q'/\zge L l l'
theorem zge.len:∀{l:List Eqn} {qs:List Qn},zge L l qs->qs.length=l.length:=by
 intro l;induction l with
 | nil=>rintro qs rfl;rfl
 | cons q l ih=>rintro qs ⟨q',l',rfl,_,h⟩;simp[ih h]
structure zo6 (nd:Nd) (n:Nod):Prop where
 nm:n.nm=nd.nm
 a:n.a=nd.a
 vars:n.vars=nd.vars
 ins:n.ins=nd.ins
 outs:n.outs=nd.outs
 eqs:zge nd.exs nd.eqs n.eqs
def ze5:List Nd->List Nod->Prop
 | [],ns=>ns=[]
 | d::l,ns=>∃n l',ns=n::l'/\zo6 d n/\ze5 l l'
theorem ze5.len:∀{l:List Nd} {ns:List Nod},ze5 l ns->ns.length=l.length:=by
 intro l;induction l with
 | nil=>rintro ns rfl;rfl
 | cons q l ih=>rintro ns ⟨q',l',rfl,_,h⟩;simp[ih h]
theorem zno:∀{qs:List Eqn} {xs:List Value},ze0 L w B qs xs->∃qs',zge L qs qs'/\zcU w w.heap.size qs' xs:=by
 intro qs;induction qs with
 | nil=>intro xs h;exact⟨[],rfl,h⟩
 | cons q qs ih => rintro xs ⟨lv,a,ys,h1,h2,h3⟩;obtain⟨l',h4,h5⟩:=ih h3;obtain⟨t,h6,h7⟩:=h2.tr.tree;exact⟨⟨q.ns,q.ps,q.a,t⟩::l',⟨_,_,rfl,⟨rfl,rfl,rfl,h6⟩,h4⟩,lv,_,ys,h1,zR h2.own (Nat.zero_le _),λg e=>(h2.own.lt g e).2,h7,h5⟩
theorem zpW {nd:Nd}(h:ND nd v w B):∃n,zo6 nd n/\NP w w.heap.size n v:=by obtain⟨nb,vs,ev,xs,h0,h⟩:=h;obtain⟨qs,h1,h2⟩:=zno h.eqs;refine⟨⟨nd.nm,nd.a,nd.vars,nd.ins,nd.outs,qs⟩,⟨rfl,rfl,rfl,rfl,rfl,h1⟩,nb,vs,ev,xs,h0,⟨h.blk,ze h.blk,zR h.vown (Nat.zero_le _),λg e=>(h.vown.lt g e).2,?_,λg e=>(h.own.lt g e).2,h2,h.few⟩⟩;rw[show (qs.length)=nd.eqs.length from h1.len];exact zR h.own (Nat.zero_le _)
theorem zoA:∀{nds:List Nd} {xs:List Value},zgE w B nds xs->∃ns,ze5 nds ns/\∀(i:Nat) (n:Nod),ns[i]?=some n->∃v,xs[i]?=some v/\NP w w.heap.size n v:=by
 intro nds;induction nds with
 | nil=>intro xs _;exact⟨[],rfl,λi n h=>by simp at h⟩
 | cons d nds ih =>
   rintro xs ⟨v,ys,rfl,h2,h3⟩;obtain⟨ns,h4,h5⟩:=ih h3;obtain⟨n,h6,h7⟩:=zpW h2;refine⟨n::ns,⟨n,ns,rfl,h6,h4⟩,λi m hi=>?_⟩;cases i with
   | zero=>simp at hi;subst hi;exact⟨v,rfl,h7⟩
   | succ i=>simpa using h5 i m (by simpa using hi)
theorem zpt {nds:List Nd}(h:PG nds v w B)(h6:nds.length<=6):∃ns,ze5 nds ns/\PT w w.heap.size ns v:=by obtain⟨gb,gv,xs,h0,h1,h2,h3,h4⟩:=h;obtain⟨ns,h5,h7⟩:=zoA h4;refine⟨ns,h5,gb,gv,xs,h0,ze h2,h2,?_,λg e=>(h3.lt g e).2,h7,by rw[h5.len];exact h6⟩;rw[h5.len];exact zR h3 (Nat.zero_le _)
end
section
variable {s:ByteArray} {k:Nat}
structure Sc where
 er:List Nod
 nd:Nod
def zfj (s:ByteArray):List Vr->Nat->Option Nat
 | [],_=>none
 | v::l,i=>if v.nm=s then some i else zfj s l (i+1)
def Nod.find (n:Nod)(s:ByteArray):Option Nat:=zfj s n.vars 0
def Sc.idx (c:Sc)(s:ByteArray):Nat:=(c.nd.find s).getD 0
def zgg (s:ByteArray):List Nod->Nat->Option Nat
 | [],_=>none
 | n::l,i=>if n.nm=s then some i else zgg s l (i+1)
def Sc.called (c:Sc)(s:ByteArray):Option Sc :=
 match zgg s c.er 0 with
 | none=>none
 | some i=>match c.er[i]? with
   | none=>none
   | some n=>some ⟨c.er.take i,n⟩
theorem zld {l:List Vr}{v:Vr}(h:l[k]?=some v):zfj s (l.drop k) k=if v.nm=s then some k else zfj s (l.drop (k+1)) (k+1):=by obtain⟨h1,h2⟩:=List.getElem?_eq_some_iff.1 h;rw[List.drop_eq_getElem_cons h1,h2];rfl
theorem zla {l:List Nod}{v:Nod}(h:l[k]?=some v):zgg s (l.drop k) k=if v.nm=s then some k else zgg s (l.drop (k+1)) (k+1):=by obtain⟨h1,h2⟩:=List.getElem?_eq_some_iff.1 h;rw[List.drop_eq_getElem_cons h1,h2];rfl
theorem zgO:∀{l:List Vr} {i j:Nat},zfj s l i=some j->i<=j/\j<i+l.length/\∃v,l[j-i]?=some v/\v.nm=s:=by
 intro l;induction l with
 | nil=>intro i j h;cases h
 | cons v l ih =>
   intro i j h;unfold zfj at h;split at h
   . rename_i hv;cases h;exact⟨Nat.le_refl _,by simp,v,by simp,hv⟩
   . obtain⟨h1,h2,u,h3,h4⟩:=ih h;refine⟨by omega,by simp only[List.length_cons];omega,u,?_,h4⟩;rw[show j-i=(j-(i+1))+1 by omega];simpa using h3
abbrev xE (x:Option Addr) (c:Sc) (p:Nat):Value:=.slice x c.er.length p
end
end Go.Proofs.YtmfkofhgdjechaaGreatDoor
