/- Part 15. -/
import Derived.LoopIn
import Derived.LoopNIn
import Derived.OwnWalkIn
import Derived.RangeFuncBound
import Derived.RangeFuncCalls
import Derived.RangeFuncLeaves
import Derived.RangeFuncNested
import Derived.Shelf.Abstract
import Derived.Shelf.RegionOpen
import Derived.TacticsInMore
import Derived.Test.YtenadialhccdiaaGreatDoorK13
set_option maxRecDepth 100000
set_option maxHeartbeats 8000000
namespace Go.Proofs.YtenadialhccdiaaGreatDoor
open Go.Proofs.Tryz
section
open Go.RowKit
variable {N:Nat} {c:Sc} {ev nv:Xv}
attribute [local go_sem ↓] Go.wp_at_zero Go.wp_at_succ
def zcC (c:Sc)(L:List (Nat×Nat))(q o:Qn):Bool:=o.ns.any λs=>decide ((c.idx (q.ns.headD ⟨#[]⟩),c.idx s)∈L)
theorem zoK {α:Type}{f:α->Bool}{l:List α}{k:Nat}{x:α}(h:l[k]?=some x):(l.drop k).any f=(f x||(l.drop (k+1)).any f):=by obtain⟨h1,h2⟩:=zMJ.1 h;rw[zMT h1,List.any_cons,h2]
theorem zm6 {mb:Nat}{L:List (Nat×Nat)}(q o:Qn)(lq rq lo ro:Xv)(hq1:1<=q.ns.length)(hql:q.ns.length=q.ps.length)(hol:o.ns.length=o.ps.length)(w:Xw)(h:ScV w N c ev nv)(hN:N<=w.heap.size)(hL:za8 w mb L)(hq:EqV w N q lq rq)(ho:EqV w N o lo ro) :
 xK 117 #[.agg #[ev,nv],.map (some mb),.agg #[lq,xI q.a,rq],.agg #[lo,xI o.a,ro]] w (λe w'=>e=.returned (.bool (zcC c L q o))/\xB w w'):=by
 obtain⟨xe,cpe,nb,rfl,rfl,hnb⟩:=h.shape;obtain⟨xq,cq,rfl⟩:=zB hq.own;obtain⟨xo,co,rfl⟩:=zB ho.own;obtain⟨rb,_,_,rfl,_⟩:=hq.tt.ptr;obtain⟨rc,_,_,rfl,_⟩:=ho.tt.ptr;obtain⟨s,ss,hss⟩:∃s ss,q.ns=s::ss:=by
  cases hx:q.ns with
  | nil=>rw[hx] at hq1;simp at hq1
  | cons s ss=>exact⟨s,ss,rfl⟩
 obtain⟨p,pp,hpp⟩:∃p pp,q.ps=p::pp:=by
  cases hx:q.ps with
  | nil=>rw[hx] at hql;simp at hql;rw[hql] at hq1;simp at hq1
  | cons s ss=>exact⟨s,ss,rfl⟩
 obtain⟨gq,rfl,a0,a1⟩:=zbe hq.own (k:=0) (s:=s) (p:=p) (by rw[hss];rfl) (by rw[hpp];rfl) rfl;have hgq:=hq.lo gq rfl;have h17:o.ns.length<=9223372036854775807:=by
  rcases ho.own.2 with ⟨_,h⟩|⟨g,cap,cur,hv,_,_,h3,h4,_⟩
  . omega
  unfold maxLen at h4;omega
 have hM:zcC c L q o=(o.ns.drop 0).any λs'=>decide ((c.idx s,c.idx s')∈L):=by unfold zcC;rw[hss];rfl
 have hlen0:(0:Int)<(q.ns.length:Int):=by omega
 have hlenN:0<q.ns.length:=hq1;have hlenE:¬q.ns=[]:=by rw[hss];simp
 have HM:=za hM;have HSc:=za h;have HL:=za hL;have HO:=za ho;have Hol:=za hol;have Ha0:=za a0;have Ha1:=za a1;clear h hL hq ho hM hss hpp hql hol a0 a1 hq1;go_enter func117,ntmps117;go_upto_region 1 with fail;refine zn (λW=>(xB w W)/\xH W w.heap.size #[xE xe c cpe,xP nb] 79/\xH W (w.heap.size+1) #[xS gq q.ns.length cq,xI q.a,xP rb] 158/\xH W (w.heap.size+1+1) #[.slice xo o.ns.length co,xI o.a,xP rc] 158) ⟨zcz w _ _ _,(al3 w _ _ _).1,(al3 w _ _ _).2.1,(al3 w _ _ _).2.2⟩ ?_;rintro W ⟨hB,hX,hY,hZ⟩;obtain⟨z0,z1,z2,zf,zz⟩:=zL hZ;have HB:=za hB;have HX:=za hX;have HY:=za hY;clear hB hX hY hZ;go_wp2_with fail;go_loopg [14] (o.ns.length+1) (λj i wr=>∃k:Nat,k+j=o.ns.length+1/\k<=o.ns.length/\i=xI k/\Hid (xB w wr)/\Hid (xB W wr)/\Hid (zcC c L q o=(o.ns.drop k).any λs'=>decide ((c.idx s,c.idx s')∈L)));case atStart=>exact⟨0,by omega,zMN _,rfl,HB.o,zWQ _ _,HM.o⟩
 case round =>
  clear z0 z1 z2 zf HB HM;obtain⟨k,hkj,hk,rfl,HB,HBW,HM⟩:=hrel;by_cases hlt:k<o.ns.length
  . obtain⟨s',hs'⟩:∃s,o.ns[k]?=some s:=⟨_,zsc hlt⟩;obtain⟨p',hp'⟩:∃p,o.ps[k]?=some p:=⟨_,zsc (by have:=Hol.o;omega)⟩;have hO:=zm HB.o hN;obtain⟨gl,rfl,c0,c1⟩:=zbe (HO.o.old hO).own hs' hp' rfl;have hglN:=HO.o.lo gl rfl;have hzr:=HB.o.size;have HT:=za HM.o;rw[zoK hs'] at HT;clear HM hs' hp' hO;go_upto_region 4 with fail;refine zn (λV=>(xB wr V)/\xH V wr.heap.size #[.string s',xI p'] 84) ⟨zq wr _,zc wr _⟩ ?_;rintro V ⟨hV,hNV⟩;have hWr:=HBW.o.size;have hVr:=hV.size;have hBV:=HBW.o.trans (hV.mono hWr);have hwV:=HB.o.trans (hV.mono hzr);obtain⟨x0,x1,xf,xz⟩:=zp ((hBV.block _ (ze HX.o)).trans HX.o);obtain⟨y0,y1,y2,yf,yz⟩:=zL ((hBV.block _ (ze HY.o)).trans HY.o);obtain⟨n0,n1,nf,nz⟩:=zp hNV;have b0:=zd hwV Ha0.o (by omega);have b1:=zd hwV Ha1.o (by omega);have hgV:gq<V.heap.size:=by omega
    have hSV:=HSc.o.old (zm hwV hN);have hNV':N<=V.heap.size:=(by omega);have HI1:=za (zaz s (p:Int) V.drew (hSV.old (λ_ _=>rfl)) hNV');have HI2:=za (λV1 (hB1:xB V V1)=>zaz s' (p':Int) V1 (hSV.old (zm hB1 hNV')) (zMO hNV' hB1.size));have HHas:=za (λV2 (hB2:xB V V2)=>ze9 (c.idx s) (c.idx s') V2 ((HL.o.keep hwV).keep hB2));have HwV:=za hwV;have HBV:=za hBV;clear hV hNV hBV hwV hSV c0 c1;cases hd:decide ((c.idx s,c.idx s')∈L) with
    | true =>
      rw[hd] at HHas HT;clear hd
      go_region_held3 (λw'=>w'.cell? (xD w.heap.size 0)=some (xE xe c cpe)/\w'.cell? (xD w.heap.size 1)=some (xP nb)/\w'.cell? (xD (w.heap.size+1) 0)=some (xS gq q.ns.length cq)/\w'.cell? (xD gq 0)=some (.string s)/\w'.cell? (xD gq 1)=some (xI p)/\w'.cell? (xD wr.heap.size 0)=some (.string s')/\w'.cell? (xD wr.heap.size 1)=some (xI p'))
       (first|(with_reducible (refine⟨?_,?_,?_,?_,?_,?_,?_⟩ <;> repeat (first|assumption|refine zg ?_|refine zj _ ?_|refine zk (by omega) ?_|refine zd HB3.o ?_ (by first|omega|(rw[zsb];omega))|refine zd HB2.o ?_ (by first|omega|(rw[zsb];omega))|refine zd HB1.o ?_ (by first|omega|(rw[zsb];omega)))))|go_keep)
       (first
         | (go_at_call 108;refine (HHas.o _ HB2.o).mono ?_;rintro e w3 ⟨rfl,hB3⟩;have HB3:=za (HB2.o.trans (hB3.mono HB2.o.size));clear hB3)
         | (go_at_call 65;refine (HI2.o _ HB1.o).mono ?_;rintro e w2 ⟨rfl,hB2⟩;have HB2:=za (HB1.o.trans (hB2.mono HB1.o.size));clear hB2)
         | (go_at_call 65;refine HI1.o.mono ?_;rintro e w1 ⟨rfl,hB1⟩;have HB1:=za (zw hB1);clear hB1))
      go_wp2_with fail;go_ret;rw[HT.o];exact⟨rfl,HwV.o.trans (HB3.o.mono (by omega))⟩
    | false =>
      rw[hd] at HHas HT;clear hd
      go_region_held3 (λw'=>w'.cell? (xD w.heap.size 0)=some (xE xe c cpe)/\w'.cell? (xD w.heap.size 1)=some (xP nb)/\w'.cell? (xD (w.heap.size+1) 0)=some (xS gq q.ns.length cq)/\w'.cell? (xD gq 0)=some (.string s)/\w'.cell? (xD gq 1)=some (xI p)/\w'.cell? (xD wr.heap.size 0)=some (.string s')/\w'.cell? (xD wr.heap.size 1)=some (xI p'))
       (first|(with_reducible (refine⟨?_,?_,?_,?_,?_,?_,?_⟩ <;> repeat (first|assumption|refine zg ?_|refine zj _ ?_|refine zk (by omega) ?_|refine zd HB3.o ?_ (by first|omega|(rw[zsb];omega))|refine zd HB2.o ?_ (by first|omega|(rw[zsb];omega))|refine zd HB1.o ?_ (by first|omega|(rw[zsb];omega)))))|go_keep)
       (first
         | (go_at_call 108;refine (HHas.o _ HB2.o).mono ?_;rintro e w3 ⟨rfl,hB3⟩;have HB3:=za (HB2.o.trans (hB3.mono HB2.o.size));clear hB3)
         | (go_at_call 65;refine (HI2.o _ HB1.o).mono ?_;rintro e w2 ⟨rfl,hB2⟩;have HB2:=za (HB1.o.trans (hB2.mono HB1.o.size));clear hB2)
         | (go_at_call 65;refine HI1.o.mono ?_;rintro e w1 ⟨rfl,hB1⟩;have HB1:=za (zw hB1);clear hB1))
      go_wp2_with fail;go_roundg (gk-1);case measure=>omega
      exact⟨k+1,by omega,by omega,by go_num,HwV.o.trans (HB3.o.mono (by omega)),HBV.o.trans (HB3.o.mono (by omega)),by unfold Hid;rw[HT.o,Bool.false_or]⟩
  have ek:k=o.ns.length:=by omega
  subst ek;rw[List.drop_length,List.any_nil] at HM;go_wp2_with fail;go_ret;rw[HM.o];exact⟨rfl,HB.o⟩
theorem zgA (base:Nat)(w:Xw)(HSc:ScV w N c ev nv)(hN:N<=w.heap.size) :
 xK 27 #[.agg #[ev,nv],xI (base:Int)] w (λe w'=>∃qb cb,e=.returned (xP qb)/\w.heap.size<=qb/\w.heap.size<=cb/\¬qb=cb/\CqI N qb cb base c ev nv (.slice none 0 0) w'/\xB w w'):=by
 obtain⟨xe,cpe,nb,rfl,rfl,hnb⟩:=HSc.shape;go_enter func27,ntmps27;go_upto_region 1 with fail;refine zn (λW=>(xB w W)/\xH W w.heap.size #[xE xe c cpe,xP nb] 79) ⟨zq w _,zc w _⟩ ?_;rintro W ⟨HB,hX⟩;obtain⟨x0,x1,xf,xz⟩:=zp hX;have hWz:=HB.size;have HC:=za (zeC W.drew ((HSc.old (zm HB hN)).old (λ_ _=>rfl)) (by show N<=W.heap.size;omega))
 go_region_held3 (λw'=>w'.cell? (xD w.heap.size 0)=some (xE xe c cpe)/\w'.cell? (xD w.heap.size 1)=some (xP nb))
  (first|(with_reducible (refine⟨?_,?_⟩ <;> repeat (first|assumption|refine zg ?_|refine zj _ ?_|refine zk (by omega) ?_|refine zd HB1.o ?_ (by first|omega|(rw[zsb];omega)))))|go_keep)
  (first|(go_at_call 59;refine HC.o.mono ?_;rintro e w1 ⟨cb,rfl,hcz,HCk,hB1⟩;have HB1:=za (zw hB1);have hcz':W.heap.size<=cb:=hcz))
 all_goals go_wp2_with fail
 all_goals go_ret
 all_goals have hz1:=HCk.lt
 all_goals have hs1:=HB1.o.size
 all_goals exact⟨_,_,rfl,by omega,by omega,by omega,⟨zc w1 _,HSc.old (zm (zaU (HB.trans (HB1.o.mono hWz)) (zMK _) _) hN),HCk.keep (zq w1 _),by rw[zsb];omega⟩,zaU (HB.trans (HB1.o.mono hWz)) (zMK _) _⟩
end
section
open Go.RowKit
variable {L:List (Nat×Nat)} {B N fb hb mb ob pbx pr zb:Nat} {c:Sc} {ev nv ov:Xv} {w w':Xw}
attribute [local go_sem ↓] Go.wp_at_zero Go.wp_at_succ
abbrev Os:=List Bool×List Qn
def zba (pf:Nat->Os->Os)(c:Sc)(L:List (Nat×Nat))(q:Qn):List Qn->Nat->Os->Os
 | [],_,s=>s
 | o::l,j,s=>zba pf c L q l (j+1) (if zcC c L q o=true then pf j s else s)
def zaq (c:Sc)(L:List (Nat×Nat))(eqs:List Qn):Nat->Nat->Os->Os
 | 0,_,s=>s
 | f+1,i,s =>
   match eqs[i]? with
   | none=>s
   | some q=>if s.1.getD i false=true then s else ((zba (zaq c L eqs f) c L q eqs 0 (s.1.set i true,s.2)).1,(zba (zaq c L eqs f) c L q eqs 0 (s.1.set i true,s.2)).2++[q])
def zeG (pf:Nat->Os->Os)(n:Nat):Nat->Os->Os
 | 0,s=>s
 | m+1,s=>zeG pf n m (pf (n-(m+1)) s)
def zac (c:Sc):List Qn:=(zeG (zaq c c.linksL c.nd.eqs c.nd.eqs.length) c.nd.eqs.length c.nd.eqs.length (List.replicate c.nd.eqs.length false,[])).2
theorem zgf:∀(l:Xk) (i:Nat),l[i]?=some false->(l.set i true).count false+1=l.count false:=by
 intro l;induction l with
 | nil=>intro i h;simp at h
 | cons b l ih =>
   intro i h;cases i with
   | zero=>simp at h;subst h;simp
   | succ i => simp at h;have:=ih i h;rw[zr9,List.count_cons,List.count_cons];omega
theorem zhB (c:Sc)(L:List (Nat×Nat))(eqs:List Qn):∀(f i:Nat) (s:Os),(zaq c L eqs f i s).1.length=s.1.length/\(s.1.length=eqs.length->(zaq c L eqs f i s).1.count false<=s.1.count false):=by
 intro f;induction f with
 | zero=>intro i s;exact⟨rfl,λ_=>zMK _⟩
 | succ f ih =>
   have hl:∀(q:Qn) (l:List Qn) (j:Nat) (s:Os),(zba (zaq c L eqs f) c L q l j s).1.length=s.1.length/\(s.1.length=eqs.length->(zba (zaq c L eqs f) c L q l j s).1.count false<=s.1.count false):=by
    intro q l;induction l with
    | nil=>intro j s;exact⟨rfl,λ_=>zMK _⟩
    | cons o l ihl =>
      intro j s;rw[zba];obtain⟨h1,h2⟩:=ihl (j+1) (if zcC c L q o=true then zaq c L eqs f j s else s);by_cases hn:zcC c L q o=true
      . rw[zM2 hn] at h1 h2 ⊢;obtain⟨h3,h4⟩:=ih j s;exact⟨h1.trans h3,λh=>zMO (h2 (h3.trans h)) (h4 h)⟩
      rw[zM1 hn] at h1 h2 ⊢;exact⟨h1,h2⟩
   intro i s;rw[zaq];split
   . exact⟨rfl,λ_=>zMK _⟩
   rename_i q hq
   split
   . exact⟨rfl,λ_=>zMK _⟩
   rename_i hp
   obtain⟨h1,h2⟩:=hl q eqs 0 (s.1.set i true,s.2);refine⟨by rw[h1];simp,λh=>zMO (h2 (by simpa using h)) ?_⟩;have hi:=(zMJ.1 hq).1;have:s.1[i]?=some false:=(by rw[List.getD_eq_getElem?_getD] at hp;rw[zsc (by omega)] at hp ⊢;simp at hp;rw[hp]);have:=zgf s.1 i this
   show (s.1.set i true).count false<=_;omega
theorem zcU.snoc {q:Qn}{lv rv:Xv}(hq:EqV w N q lv rv):∀{qs:List Qn} {xs:Xm},zcU w N qs xs->zcU w N (qs++[q]) (xs++[lv,xI q.a,rv]):=by
 intro qs;induction qs with
 | nil=>intro xs h;cases h;exact⟨lv,rv,[],rfl,hq.own,hq.lo,hq.tt,rfl⟩
 | cons q' qs ih => rintro xs ⟨lv',v',ys,rfl,h2,h3,h4,h5⟩;exact⟨lv',v',_,rfl,h2,h3,h4,ih h5⟩
def OT (pr ob:Nat)(w:Xw)(k:Nat):Prop:=k=pr∨k=ob∨zgV w ob 0 k
def plV (pbx zb hb fb ob:Nat):Value:=.func (.func 116) #[] #[xP pbx,xP zb,xP hb,xP fb,xP ob]
structure OD (N B mb zb hb pbx fb ob pr:Nat):Prop where
 a1:¬zb=pr/\¬zb=ob
 a2:¬hb=pr/\¬hb=ob
 a3:¬pbx=pr/\¬pbx=ob
 a4:¬fb=pr/\¬fb=ob
 a5:¬mb=pr/\¬mb=ob
 a6:¬pr=ob
 b:zb<B/\hb<B/\pbx<B/\fb<B/\ob<B/\pr<B/\mb<B
 n:N<=pr/\N<=ob
structure OI (N B:Nat) (c:Sc) (ev nv:Xv) (L:List (Nat×Nat)) (mb zb hb pbx fb ob pr:Nat) (ov:Xv) (s:Os) (w:Xw):Prop where
 x1:w.heap[pbx]?=some (.cells #[xS pr c.nd.eqs.length c.nd.eqs.length] 63 (0,0))
 xr:w.heap[pr]?=some (.cells (zdC s.1).toArray 4 (0,0))
 x2:w.heap[zb]?=some (.cells #[ev,nv] 79 (0,0))
 x3:w.heap[hb]?=some (.cells #[.map (some mb)] 211 (0,0))
 x4:w.heap[fb]?=some (.cells #[plV pbx zb hb fb ob] 185 (0,0))
 x5:w.heap[ob]?=some (.cells #[ov] 86 (0,0))
 own:∃xs,w.ownsRow B 158 3 ov s.2.length xs/\zcU w N s.2 xs
 lk:za8 w mb L
 sc:ScV w N c ev nv
 len:s.1.length=c.nd.eqs.length
 hB:B<=w.heap.size
 hNB:N<=B
theorem OI.ot {s:Os}(h:OI N B c ev nv L mb zb hb pbx fb ob pr ov s w)(k:Nat):OT pr ob w k↔k=pr∨k=ob∨ov.ownBlock=some k:=by
 obtain⟨m0,mf,mz⟩:=zu h.x5;unfold OT zgV;rw[m0];constructor
 . rintro (e|e|⟨v,e1,e2⟩)
   . exact zM3 e
   . exact zM4 (zM3 e)
   cases e1;exact zM4 (zM4 e2)
 rintro (e|e|e)
 . exact zM3 e
 . exact zM4 (zM3 e)
 exact zM4 (zM4 ⟨_,rfl,e⟩)
theorem OI.keep {s:Os}(h:OI N B c ev nv L mb zb hb pbx fb ob pr ov s w)(hB:xB w w'):OI N B c ev nv L mb zb hb pbx fb ob pr ov s w':=by obtain⟨xs,h1,h2⟩:=h.own;exact⟨(hB.block _ (ze h.x1)).trans h.x1,(hB.block _ (ze h.xr)).trans h.xr,(hB.block _ (ze h.x2)).trans h.x2,(hB.block _ (ze h.x3)).trans h.x3,(hB.block _ (ze h.x4)).trans h.x4,(hB.block _ (ze h.x5)).trans h.x5,⟨xs,zi h1 (λk _ hk _=>hB.block k hk),h2.old (zm hB (zMO h.hNB h.hB))⟩,h.lk.keep hB,h.sc.old (zm hB (zMO h.hNB h.hB)),h.len,zMO h.hB hB.size,h.hNB⟩
theorem OI.tk {s:Os}(h:OI N B c ev nv L mb zb hb pbx fb ob pr ov s w)(hB:xB w w'):∀k,OT pr ob w' k->OT pr ob w k:=λk e=>(h.ot k).2 (((h.keep hB).ot k).1 e)
theorem OI.lt {s:Os}(h:OI N B c ev nv L mb zb hb pbx fb ob pr ov s w)(hD:OD N B mb zb hb pbx fb ob pr):∀k,OT pr ob w k->N<=k/\k<w.heap.size:=by
 intro k e;obtain⟨xs,h1,_⟩:=h.own;have:=h.hNB;rcases (h.ot k).1 e with e|e|e
 . subst e;exact⟨hD.n.1,ze h.xr⟩
 . subst e;exact⟨hD.n.2,ze h.x5⟩
 have:=h1.lt k e;exact⟨by omega,this.2⟩
theorem OI.mark {s:Os}(h:OI N B c ev nv L mb zb hb pbx fb ob pr ov s w)(hD:OD N B mb zb hb pbx fb ob pr)(i:Nat) :
 OI N B c ev nv L mb zb hb pbx fb ob pr ov (s.1.set i true,s.2) (w.setCell (xD pr i) (.bool true))/\FT (OT pr ob) w (w.setCell (xD pr i) (.bool true)):=by
 obtain⟨xs,h1,h2⟩:=h.own;have hbb:=hD.b;have hn:=hD.n;have hk:∀k,¬k=pr->(w.setCell (xD pr i) (.bool true)).heap[k]?=w.heap[k]?:=λk hk=>zr hk rfl;have hs:(w.setCell (xD pr i) (.bool true)).heap.size=w.heap.size:=by simp
 have hO:Old N w (w.setCell (xD pr i) (.bool true)):=λk hk'=>hk k (by omega);have hI:OI N B c ev nv L mb zb hb pbx fb ob pr ov (s.1.set i true,s.2) (w.setCell (xD pr i) (.bool true)):=by refine⟨(hk _ hD.a3.1).trans h.x1,?_,(hk _ hD.a1.1).trans h.x2,(hk _ hD.a2.1).trans h.x3,(hk _ hD.a4.1).trans h.x4,(hk _ (λe=>hD.a6 e.symm)).trans h.x5,⟨xs,zi h1 (λk h3 _ _=>hk k (by omega)),h2.old hO⟩,h.lk.of' (hk _ hD.a5.1),h.sc.old hO,by simpa using h.len,by rw[hs];exact h.hB,h.hNB⟩;rw[zh _ _ _ _ h.xr,zjw]
 refine⟨hI,⟨rfl,rfl,rfl,by rw[hs];exact zMK _,λk _ hn=>hk k (λe=>hn ((h.ot k).2 (zM3 e)))⟩,λk e=>zM3 ((h.ot k).2 ((hI.ot k).1 e))⟩
theorem OI.app {ov':Xv}{s:Os}{w9:Xw}{X:Obj}(h:OI N B c ev nv L mb zb hb pbx fb ob pr ov s w)(hD:OD N B mb zb hb pbx fb ob pr)(q:Qn)(lv rv:Xv)(hq:EqV w N q lv rv)(hF:Fr (λk=>ov.ownBlock=some k) (w.alloc X) w9)(xs:Xm)(hxs:zcU w N s.2 xs)
 (hown:w9.ownsRow B 158 3 ov' (s.2.length+1) (xs++[lv,xI q.a,rv])) (hnew:∀k,ov'.ownBlock=some k->ov.ownBlock=some k∨w.heap.size+1<=k) :
 OI N B c ev nv L mb zb hb pbx fb ob pr ov' (s.1,s.2++[q]) (w9.setCell (xD ob 0) ov')/\FT (OT pr ob) w (w9.setCell (xD ob 0) ov'):=by
 obtain⟨_,h1,_⟩:=h.own;have hbb:=hD.b;have hn:=hD.n;have hB:=h.hB;have hNB:=h.hNB;have hs0:(w.alloc X).heap.size=w.heap.size+1:=by simp
 have hs:(w9.setCell (xD ob 0) ov').heap.size=w9.heap.size:=by simp
 have hz9:=hF.size;have hb9:∀k,k<w.heap.size->¬ov.ownBlock=some k->w9.heap[k]?=w.heap[k]?:=λk hk hn=>(hF.block k (by omega) hn).trans (zWP _ _ _ hk);have hlo:∀k,k<B->¬ov.ownBlock=some k:=λk hk e=>by have:=(h1.lt k e).1;omega
 have hk:∀k,k<w.heap.size->¬k=ob->¬ov.ownBlock=some k->(w9.setCell (xD ob 0) ov').heap[k]?=w.heap[k]?:=λk h1 h2 h3=>zr h2 (hb9 k h1 h3);have hkB:∀k,k<B->¬k=ob->(w9.setCell (xD ob 0) ov').heap[k]?=w.heap[k]?:=λk h1 h2=>hk k (by omega) h2 (hlo k h1);have hO:Old N w (w9.setCell (xD ob 0) ov'):=λk hk'=>hkB k (by omega) (by omega);have hI:OI N B c ev nv L mb zb hb pbx fb ob pr ov' (s.1,s.2++[q]) (w9.setCell (xD ob 0) ov'):=by
  refine⟨(hkB _ hbb.2.2.1 hD.a3.2).trans h.x1,(hkB _ hbb.2.2.2.2.2.1 hD.a6).trans h.xr,(hkB _ hbb.1 hD.a1.2).trans h.x2,(hkB _ hbb.2.1 hD.a2.2).trans h.x3,(hkB _ hbb.2.2.2.1 hD.a4.2).trans h.x4,?_,⟨xs++[lv,xI q.a,rv],?_,(zcU.snoc hq hxs).old hO⟩,h.lk.of' (hkB _ hbb.2.2.2.2.2.2 hD.a5.2),h.sc.old hO,h.len,by omega,hNB⟩
  . exact zh _ _ _ _ ((hb9 ob (by omega) (hlo ob hbb.2.2.2.2.1)).trans h.x5)
  show World.ownsRow _ B _ 3 ov' (s.2++[q]).length _;rw[zMM];exact zi hown (λk h3 _ _=>zr (by omega) rfl)
 refine⟨hI,⟨hF.os,hF.tape,hF.output,by omega,λk hk' hn=>hk k hk' (λe=>hn ((h.ot k).2 (zM4 (zM3 e)))) (λe=>hn ((h.ot k).2 (zM4 (zM4 e))))⟩,λk e=>?_⟩;rcases (hI.ot k).1 e with e|e|e
 . exact zM3 ((h.ot k).2 (zM3 e))
 . exact zM3 ((h.ot k).2 (zM4 (zM3 e)))
 rcases hnew k e with e2|e2
 . exact zM3 ((h.ot k).2 (zM4 (zM4 e2)))
 exact zM4 (by omega)
end
section
open Go.RowKit
attribute [local go_sem ↓] Go.wp_at_zero Go.wp_at_succ
theorem zhs (c:Sc)(L:List (Nat×Nat))(eqs:List Qn):∀(f i:Nat) (s:Os),s.1.length=eqs.length->(zaq c L eqs f i s).2.length+(zaq c L eqs f i s).1.count false<=s.2.length+s.1.count false:=by
 intro f;induction f with
 | zero=>intro i s _;exact zMK _
 | succ f ih =>
   have hl:∀(q:Qn) (l:List Qn) (j:Nat) (s:Os),s.1.length=eqs.length->(zba (zaq c L eqs f) c L q l j s).2.length+(zba (zaq c L eqs f) c L q l j s).1.count false<=s.2.length+s.1.count false:=by
    intro q l;induction l with
    | nil=>intro j s _;exact zMK _
    | cons o l ihl =>
      intro j s hs;rw[zba];by_cases hn:zcC c L q o=true
      . rw[zM2 hn];exact zMO (ihl _ _ ((zhB c L eqs f j s).1.trans hs)) (ih j s hs)
      rw[zM1 hn];exact ihl _ _ hs
   intro i s hs;rw[zaq];split
   . exact zMK _
   rename_i q hq
   split
   . exact zMK _
   rename_i hp
   have h1:=hl q eqs 0 (s.1.set i true,s.2) (by simpa using hs);have hi:=(zMJ.1 hq).1;have h2:s.1[i]?=some false:=(by rw[List.getD_eq_getElem?_getD] at hp;rw[zsc (by omega)] at hp ⊢;simp at hp;rw[hp]);have h3:=zgf s.1 i h2;simp only[zMM,List.length_singleton] at h1 ⊢;omega
theorem zkd (pf:Nat->Os->Os)(c:Sc)(L:List (Nat×Nat))(q:Qn){l:List Qn}{k:Nat}{o:Qn}(h:l[k]?=some o)(s:Os):zba pf c L q (l.drop k) k s=zba pf c L q (l.drop (k+1)) (k+1) (if zcC c L q o=true then pf k s else s):=by obtain⟨h1,h2⟩:=zMJ.1 h;rw[zMT h1,zba,h2]
theorem zrf {a b:Xp}{n c:Nat}{x:Int}:∀u∈[Value.slice a n c,xI x,.pointer b],u.oneCell'=true:=by simp[Value.oneCell']
theorem zl5 {N B:Nat}{c:Sc}(hc:zbr c){xe:Xp}{cpe nb:Nat}{L:List (Nat×Nat)}{mb zb hb pbx fb ob pr:Nat}(hD:OD N B mb zb hb pbx fb ob pr)(hn:c.nd.eqs.length<=1000000) :
 ∀(f i:Nat) (s:Os) (ov:Xv) (w:Xw),i<c.nd.eqs.length->s.1.count false<=f->s.2.length+s.1.count false<=c.nd.eqs.length->OI N B c (xE xe c cpe) (xP nb) L mb zb hb pbx fb ob pr ov s w ->
  xK 116 #[xI (i:Int),xP pbx,xP zb,xP hb,xP fb,xP ob] w (λe w'=>e=.returned (.tuple #[])/\(∃ov',OI N B c (xE xe c cpe) (xP nb) L mb zb hb pbx fb ob pr ov' (zaq c L c.nd.eqs f i s) w')/\FT (OT pr ob) w w'):=by
 intro f;induction f with
 | zero =>
   intro i s ov w hi hcn hsm h;have hpi:s.1[i]?=some true:=by
    have hl:=h.len;cases hb:s.1[i]? with
    | none=>rw[List.getElem?_eq_none_iff] at hb;omega
    | some b =>
      cases b with
      | true=>rfl
      | false=>have:=zgf s.1 i hb;omega
   obtain⟨a0,af,az⟩:=zu h.x1;have b0:=zdF h.xr hpi;have bz:=ze h.xr;have HI:=za h;have i0:(0:Int)<=(i:Int):=(by omega);have i1:(i:Int)<(c.nd.eqs.length:Int):=(by omega);clear h hpi;go_enter func116,ntmps116;go_wp2_with fail;first|go_end0|refine zWR (results_none rfl _ _ _) rfl ?_
   exact⟨rfl,⟨ov,HI.o⟩,FT.below (zWQ _ _) (λ_ e=>e)⟩
 | succ f Hih =>
   intro i s ov w hi hcn hsm h;obtain⟨a0,af,az⟩:=zu h.x1;have bz:=ze h.xr;have i0:(0:Int)<=(i:Int):=(by omega);have i1:(i:Int)<(c.nd.eqs.length:Int):=(by omega);obtain⟨q,hq⟩:∃q,c.nd.eqs[i]?=some q:=⟨_,zsc hi⟩;obtain⟨b,hb'⟩:∃b,s.1[i]?=some b:=⟨_,zsc (by have:=h.len;omega)⟩;have b0:=zdF h.xr hb';cases b with
   | true =>
     have HP:Hid (zaq c L c.nd.eqs (f+1) i s=s):=(by unfold Hid;rw[zaq];simp only[hq];rw[zM2 (by rw[List.getD_eq_getElem?_getD,hb'];rfl)]);have HI:=za h;clear h hb' hq;go_enter func116,ntmps116;go_wp2_with fail;first|go_end0|refine zWR (results_none rfl _ _ _) rfl ?_
     rw[HP.o];exact⟨rfl,⟨ov,HI.o⟩,FT.below (zWQ _ _) (λ_ e=>e)⟩
   | false =>
     obtain⟨s2,Hs2⟩:∃s2,zba (zaq c L c.nd.eqs f) c L q c.nd.eqs 0 (s.1.set i true,s.2)=s2:=⟨_,rfl⟩;have HP:Hid (zaq c L c.nd.eqs (f+1) i s=(s2.1,s2.2++[q])):=(by unfold Hid;rw[zaq];simp only[hq];rw[zM1 (by rw[List.getD_eq_getElem?_getD,hb'];simp),Hs2]);have hcs:=zgf s.1 i hb';obtain⟨hM,hMF⟩:=h.mark hD i;have bf:=zai h.xr i;have hNw:N<=w.heap.size:=zMO h.hNB h.hB;obtain⟨nb',vs,qv,xs,e9,HNt⟩:=h.sc.nd;cases e9;obtain⟨xv,cpv,rfl⟩:=zB HNt.vown;obtain⟨xq,cpq,rfl⟩:=zB HNt.own;obtain⟨g,lv,rv,rfl,c0,c1,c2,HE⟩:=zcd HNt.own HNt.eqs hq rfl;obtain⟨rb,_,_,rfl,_⟩:=HE.tt.ptr;obtain⟨xl,cl,rfl⟩:=zB HE.own;have hgN:=HNt.elo g rfl;obtain⟨n0,n1,n2,n3,n4,n5,nf,nz⟩:=zt HNt.blk;have hnbN:=HNt.lo;obtain⟨z0,z1,zf,zz⟩:=zp h.x2;have hpN:=hD.n.1;have hgp:¬g=pr:=(by omega);have hnp:¬nb=pr:=(by omega);have hzp:=hD.a1.1;have hap:=hD.a3.1;have HX0:=za hM;have HF0:=za hMF;have H:=za h;have hn16:c.nd.eqs.length<=9223372036854775807:=(by omega);have hqm:=zML hq;have Hw:=za (hc.nd.eqs q hqm);have HWf:=za (λo ho=>hc.nd.eqs o ho);clear h hM hMF hb' hq n0 n1 n2 n3 n4;go_enter func116,ntmps116;go_upto_region 3 with fail;refine zn (λW=>OI N B c (xE xe c cpe) (xP nb) L mb zb hb pbx fb ob pr ov (s.1.set i true,s.2) W/\FT (OT pr ob) w W/\W.heap[w.heap.size]?=some (.cells #[.slice xl q.ns.length cl,xI q.a,xP rb] 158 (0,0))/\¬OT pr ob W w.heap.size) ?_ ?_
     . have hsz:(w.setCell (xD pr i) (.bool true)).heap.size=w.heap.size:=(by simp);refine⟨HX0.o.keep (zq _ _),HF0.o.trans (FT.below (zq _ _) (HX0.o.tk (zq _ _))),?_,λe=>?_⟩
       . have:=zc (w.setCell (xD pr i) (.bool true)) (.cells #[.slice xl q.ns.length cl,xI q.a,xP rb] 158);rw[hsz] at this;exact this
       exact absurd (Nat.lt_of_lt_of_eq (HX0.o.lt hD _ (HX0.o.tk (zq _ _) _ e)).2 hsz) (Nat.lt_irrefl _)
     rintro W ⟨hX,hF,hQ,hnQ⟩;have hO:Old N w W:=hF.old hNw (λk e=>(H.o.lt hD k e).1);obtain⟨u0,u1,uf,uz⟩:=zp hX.x2;obtain⟨n0,n1,n2,n3,n4,n6,nf',nz'⟩:=zt ((hO nb hnbN).trans HNt.blk);have HX:=za hX;have HF:=za hF;have HQ:=za hQ;clear hX hF hQ hO n0 n1 n2 n3 n4 HX0 HF0 z0 z1 zf zz a0 af az b0 bf bz c0 c1 c2 n5 nf nz;go_wp2_with fail;go_loopg [31] (c.nd.eqs.length+1) (λj x wr=>∃(k:Nat) (st:Os) (ov':Xv),k+j=c.nd.eqs.length+1/\k<=c.nd.eqs.length/\x=xI k/\st.1.count false<=f/\st.2.length+st.1.count false+1<=c.nd.eqs.length/\Hid (OI N B c (xE xe c cpe) (xP nb) L mb zb hb pbx fb ob pr ov' st wr)/\Hid (zba (zaq c L c.nd.eqs f) c L q (c.nd.eqs.drop k) k st=s2)/\Hid (FT (OT pr ob) w wr)/\Hid (xH wr w.heap.size #[.slice xl q.ns.length cl,xI q.a,xP rb] 158/\¬OT pr ob wr w.heap.size));case atStart=>exact⟨0,(s.1.set i true,s.2),ov,by omega,zMN _,rfl,by show (s.1.set i true).count false<=f;omega,by show s.2.length+(s.1.set i true).count false+1<=_;omega,HX.o,Hs2,HF.o,⟨HQ.o,hnQ⟩⟩
     case round =>
      clear HX HF HQ hnQ u0 u1 uf uz n6 nf' nz';obtain⟨k,st,ov',hkj,hk,rfl,hst,hsum,HI,HD,HF,HQ⟩:=hrel;have hO:Old N w wr:=HF.o.old hNw (λk e=>(H.o.lt hD k e).1);by_cases hlt:k<c.nd.eqs.length
      . obtain⟨o,ho⟩:∃o,c.nd.eqs[k]?=some o:=⟨_,zsc hlt⟩;have hN2:=HNt.old hO;obtain⟨g',lo,ro,eg,d0,d1,d2,hEo⟩:=zcd hN2.own hN2.eqs ho rfl;cases eg;obtain⟨ro',_,_,rfl,_⟩:=hEo.tt.ptr;obtain⟨xo,co,rfl⟩:=zB hEo.own;obtain⟨y0,yf,yz⟩:=zu HI.o.x3;obtain⟨u0,u1,uf,uz⟩:=zp HI.o.x2;obtain⟨q0,q1,q2,qf,qz⟩:=zL HQ.o.1;have hHd:=HD.o;rw[zkd _ _ _ _ ho] at hHd;have HDn:=za hHd;have hwo:=HWf.o o (zML ho);have hNr:N<=wr.heap.size:=zMO HI.o.hNB HI.o.hB;have HNe:=za (λob'=>zm6 q o (.slice xl q.ns.length cl) (xP rb) (.slice xo o.ns.length co) (xP ro') Hw.o.2.1 Hw.o.1 hwo.1 (wr.alloc ob') (HI.o.keep (zq wr ob')).sc (by rw[zsb];omega) (HI.o.keep (zq wr ob')).lk ((HE.old hO).old (zeW hNr ob')) (hEo.old (zeW hNr ob')));clear hN2 hEo ho hHd hO HD hwo;cases hnd:zcC c L q o with
        | false =>
          rw[hnd] at HNe HDn;clear hnd;go_wp2_with (go_at_call 117;refine (HNe.o _).mono ?_;rintro e w1 ⟨rfl,hB1⟩;have HB1:=za (zE hB1);clear hB1);go_roundg (gk-1);case measure=>omega
          exact⟨k+1,st,ov',by omega,by omega,by go_num,hst,hsum,HI.o.keep HB1.o,HDn.o,HF.o.trans (FT.below HB1.o (HI.o.tk HB1.o)),⟨(HB1.o.block _ qz).trans HQ.o.1,λe=>HQ.o.2 (HI.o.tk HB1.o _ e)⟩⟩
        | true =>
          rw[hnd] at HNe HDn;clear hnd
          go_wp2_with (first
           | (go_at_call 116;refine (Hih k st ov' w1 hlt hst (by omega) HI1.o).mono ?_;rintro e w2 ⟨rfl,⟨ov2,HI2⟩,HF2⟩)
           | (go_at_call 117;refine (HNe.o _).mono ?_;rintro e w1 ⟨rfl,hB1⟩;have HB1:=za (zE hB1);have HI1:=za (HI.o.keep HB1.o);obtain⟨t0,tf,tz⟩:=zu HI1.o.x4;unfold plV at t0;clear hB1))
          go_roundg (gk-1);case measure=>omega
          have hc2:=(zhB c L c.nd.eqs f k st).2 HI1.o.len;have Hs2:=zhs c L c.nd.eqs f k st HI1.o.len;have hF3:=(FT.below HB1.o (HI.o.tk HB1.o)).trans HF2;exact⟨k+1,zaq c L c.nd.eqs f k st,ov2,by omega,by omega,by go_num,by omega,by omega,HI2,HDn.o,HF.o.trans hF3,⟨(hF3.fr.block _ qz HQ.o.2).trans HQ.o.1,hF3.not qz HQ.o.2⟩⟩
      have ek:k=c.nd.eqs.length:=(by omega);subst ek;rw[List.drop_length,zba] at HD;obtain rfl:=HD.o;obtain⟨xs,Hown,Hxs⟩:=HI.o.own;obtain⟨xo,co,rfl⟩:=zcB Hown;obtain⟨y0,yf,yz⟩:=zu HI.o.x5;obtain⟨q0,q1,q2,qf,qz⟩:=zL HQ.o.1;obtain⟨j0,hj,hj0,hj1,hj2⟩:=info_parts Tryz.infoEq;have mx:st.2.length+1<=maxLen:=(by unfold maxLen;omega);have by':(st.2.length+1)*40<=140737488355328:=(by omega);have HEr:=za (HE.old hO);have hBz:=HI.o.hB;have hoB:=hD.b.2.2.2.2.1;clear hO HD;go_wp2_with (at_builtin;refine zbz _ rfl (.tmp 45) (.tmp 47) 86 rfl B 158 j0 _ 3 40 underlying86 hj hj0 hj1 hj2 rfl (by decide) (.slice xo st.2.length co) st.2.length xs rfl (zD Hown _) (xD wr.heap.size 0) 1 1 [.slice xl q.ns.length cl,xI q.a,xP rb] rfl rfl (zN (zc wr _) rfl) zrf mx by' (by simp;omega) ?_;intro v' w9 Hown9 hgrow Hnew9;obtain⟨g9,cap9,rfl,hg9⟩:=zM Hown9 (by omega);have HF9:=Fr.of_grown hgrow;have ho9:=(HF9.block ob (by simp;omega) (λh=>by have:=(Hown.lt _ h).1;omega)).trans ((zWP _ _ _ (by omega)).trans HI.o.x5);obtain⟨v0,vf,vz⟩:=zu ho9;clear hgrow ho9);first|go_end0|refine zWR (results_none rfl _ _ _) rfl ?_
      have hA:=HI.o.app hD q _ _ HEr.o HF9 xs Hxs Hown9 (λk e=>(Hnew9 k e).imp id (λh=>by rw[zsb] at h;exact h));rw[HP.o];exact⟨rfl,⟨_,hA.1⟩,HF.o.trans hA.2⟩
end
section
open Go.RowKit
attribute [local go_sem ↓] Go.wp_at_zero Go.wp_at_succ
theorem al5 (w:Xw)(o1 o2 o3 o4 o5:Obj) :
 let W:=((((w.alloc o1).alloc o2).alloc o3).alloc o4).alloc o5
 W.heap[w.heap.size]?=some o1/\W.heap[w.heap.size+1]?=some o2/\W.heap[w.heap.size+1+1]?=some o3/\W.heap[w.heap.size+1+1+1]?=some o4/\W.heap[w.heap.size+1+1+1+1]?=some o5:=by
 have h (w:Xw) (o:Obj) (k:Nat):(w.alloc o).heap[k]?=if k=w.heap.size then some o else w.heap[k]?:=by show (w.heap.push o)[k]?=_;rw[Array.getElem?_push]
 intro W;refine⟨?_,?_,?_,?_,?_⟩;all_goals simp only[W,h,zsb]
 all_goals repeat (first|rw[zM2 trivial]|rw[zM2 rfl]|rw[zM1 (by omega)])
theorem ziN (w:Xw)(o1 o2 o3 o4 o5:Obj):xB w (((((w.alloc o1).alloc o2).alloc o3).alloc o4).alloc o5):=zhh (zcz _ _ _ _)
theorem zmO (pf:Nat->Os->Os)(n m:Nat)(s:Os):zeG pf n (m+1) s=zeG pf n m (pf (n-(m+1)) s):=rfl
theorem zoE (n:Nat)(hc:n<=3145728)(w:Xw):(Instr.makeSlice 63 (xI (n:Int)) (xI (n:Int))).run prog w=.ok (xS w.heap.size n n) (w.alloc (.cells (zdC (List.replicate n false)).toArray 4)):=zkG n hc w
theorem zki {N:Nat}{c:Sc}(Hc:zbr c)(hn:c.nd.eqs.length<=1000000){ev nv:Xv}(w:Xw)(HSc:ScV w N c ev nv)(hN:N<=w.heap.size) :
 xK 62 #[.agg #[ev,nv]] w (λe w'=>∃ov xs,e=.returned ov/\w'.ownsRow w.heap.size 158 3 ov (zac c).length xs/\zcU w' N (zac c) xs/\xB w w'):=by
 obtain⟨xe,cpe,nb,rfl,rfl,hnb⟩:=HSc.shape;obtain⟨nb',vs,qv,xs,e9,HNt⟩:=HSc.nd;cases e9;obtain⟨xv,cpv,rfl⟩:=zB HNt.vown;obtain⟨xq,cpq,rfl⟩:=zB HNt.own;have hmf:∀(fn:Go.Fn) (first cap:Xa) (w:Xw),(Instr.makeFunc fn first cap).run prog w=.ok (.func fn first cap) w:=λ_ _ _ _=>rfl;have hsf:∀(a:Addr) (m:Mode) (fn:Go.Fn) (first cap:Xa) (w:Xw),(store a (.func fn first cap) m).run prog w=stored prog w a (.func fn first cap) m:=λa m _ _ _ w=>run_store prog w a _ m rfl;have mk:=zoE c.nd.eqs.length (by omega);have HLo:=za (λo=>zgy Hc (w.alloc o) (HSc.old (zeW hN o)) (by rw[zsb];omega));go_enter func62,ntmps62;go_upto_region 2 with (go_at_call 106;refine (HLo.o _).mono ?_;rintro e w1 ⟨mb,rfl,hmz,hLk,hB1⟩;have HLk:=za hLk;have hx1:=za ((hB1.block _ (by simp)).trans (zc w _));have HB1:=za (zE hB1);have hB1z:=hB1.size);rw[zsb] at hmz hB1z;obtain⟨n0,n1,n2,n3,n4,n5,nf,nz⟩:=zt ((HB1.o.block nb (by omega)).trans HNt.blk);obtain⟨s0,s1,sf,sz⟩:=zp hx1.out;have hmb1:=HLk.o.lt;go_upto_region 6 with fail;have HD:OD N (w1.heap.size+5) mb w.heap.size w1.heap.size (w1.heap.size+1+1) (w1.heap.size+1+1+1+1) (w1.heap.size+1+1+1) (w1.heap.size+1):=⟨by omega,by omega,by omega,by omega,by omega,by omega,by omega,by omega⟩;refine zn (λW=>OI N (w1.heap.size+5) c (xE xe c cpe) (xP nb) c.linksL mb w.heap.size w1.heap.size (w1.heap.size+1+1) (w1.heap.size+1+1+1+1) (w1.heap.size+1+1+1) (w1.heap.size+1) (.slice none 0 0) (List.replicate c.nd.eqs.length false,[]) W/\xB w W) ⟨⟨(al5 w1 _ _ _ _ _).2.2.1,(al5 w1 _ _ _ _ _).2.1,((ziN w1 _ _ _ _ _).block _ sz).trans hx1.out,(al5 w1 _ _ _ _ _).1,(al5 w1 _ _ _ _ _).2.2.2.2,(al5 w1 _ _ _ _ _).2.2.2.1,⟨[],World.ownsRow_nil _ _ _ _,rfl⟩,HLk.o.keep (ziN w1 _ _ _ _ _),HSc.old (zm (HB1.o.trans ((ziN w1 _ _ _ _ _).mono (by omega))) hN),by simp,by simp only[zsb];omega,by omega⟩,HB1.o.trans ((ziN w1 _ _ _ _ _).mono (by omega))⟩ ?_;rintro W ⟨hI,hB⟩;have HP:=za (zl5 (xe:=xe) (cpe:=cpe) (nb:=nb) (L:=c.linksL) Hc HD hn c.nd.eqs.length);have HI:=za hI;have HB:=za hB;have Hlb:∀k (W':Xw) (ov:Xv) (s:Os),OI N (w1.heap.size+5) c (xE xe c cpe) (xP nb) c.linksL mb w.heap.size w1.heap.size (w1.heap.size+1+1) (w1.heap.size+1+1+1+1) (w1.heap.size+1+1+1) (w1.heap.size+1) ov s W'->OT (w1.heap.size+1) (w1.heap.size+1+1+1) W' k->w.heap.size<=k:=by
  intro k W' ov s HSc e;obtain⟨xs,h1,_⟩:=HSc.own;rcases (HSc.ot k).1 e with e|e|e
  . omega
  . omega
  have:=(h1.lt k e).1;omega
 obtain⟨u0,u1,uf,uz⟩:=zp hI.x2;obtain⟨m0,m1,m2,m3,m4,m5,mf',mz⟩:=zt ((hB.block nb (by omega)).trans HNt.blk);go_wp2_with fail;go_loopg [24] (c.nd.eqs.length+1) (λj x wr=>∃(k:Nat) (st:Os) (ov:Xv),k+j=c.nd.eqs.length+1/\k<=c.nd.eqs.length/\x=xI k/\Hid (st.2.length+st.1.count false<=c.nd.eqs.length)/\Hid (OI N (w1.heap.size+5) c (xE xe c cpe) (xP nb) c.linksL mb w.heap.size w1.heap.size (w1.heap.size+1+1) (w1.heap.size+1+1+1+1) (w1.heap.size+1+1+1) (w1.heap.size+1) ov st wr)/\Hid (zac c=(zeG (zaq c c.linksL c.nd.eqs c.nd.eqs.length) c.nd.eqs.length (j-1) st).2)/\Hid (xB w wr));case atStart=>exact⟨0,_,_,by omega,zMN _,rfl,by simp[Hid],HI.o,rfl,HB.o⟩
 case round =>
  obtain⟨k,st,ov,hkj,hk,rfl,Hsum,HI,HO,HB⟩:=hrel;by_cases hlt:k<c.nd.eqs.length
  . obtain⟨m,rfl⟩:∃m,gk=m+1+1:=⟨gk-1-1,by omega⟩;have hE:=HO.o;rw[show m+1+1-1=m+1 from rfl,zmO,show c.nd.eqs.length-(m+1)=k by omega] at hE;have HE:=za hE;obtain⟨t0,tf,tz⟩:=zu HI.o.x4;unfold plV at t0;have Hcn:st.1.count false<=c.nd.eqs.length:=by have:=List.count_le_length (a:=false) (l:=st.1);have:=HI.o.len;omega
    have HPk:=za (HP.o k st ov wr hlt Hcn Hsum.o HI.o);go_wp2_with (go_at_call 116;refine HPk.o.mono ?_;rintro e w2 ⟨rfl,⟨ov2,HI2⟩,HF2⟩);go_roundg (m+1);case measure=>omega
    have hs2:=zhs c c.linksL c.nd.eqs c.nd.eqs.length k st HI.o.len;have hz:=HB.o.size;refine⟨k+1,_,ov2,by omega,by omega,by go_num,zMO hs2 Hsum.o,HI2,HE.o,⟨HF2.fr.os.trans HB.o.os,HF2.fr.tape.trans HB.o.tape,HF2.fr.output.trans HB.o.output,zMO hz HF2.fr.size,λk' hk'=>(HF2.fr.block k' (by omega) (λe=>by have:=Hlb k' _ _ _ HI.o e;omega)).trans (HB.o.block k' hk')⟩⟩
  have ek:k=c.nd.eqs.length:=by omega
  subst ek;have:gk=1:=by omega
  subst this;have HE:Hid (zac c=st.2):=HO.o;obtain⟨xs,Hown,Hxs⟩:=HI.o.own;obtain⟨xo,co,rfl⟩:=zcB Hown;obtain⟨y0,yf,yz⟩:=zu HI.o.x5;go_wp2_with fail;go_ret;rw[HE.o];exact⟨_,rfl,xs,zR Hown (by omega),Hxs,HB.o⟩
end
section
open Go.RowKit Go.Shelf
attribute [local go_sem] Oper.semAt_some
def KpB (N b:Nat)(W W':Xw):Prop:=∀k,k=b∨k<N->W'.heap[k]?=W.heap[k]?
theorem KpB.cell {N b:Nat}{W W':Xw}(h:KpB N b W W'){k o:Nat}{v:Xv}(hk:k=b∨k<N)(hc:W.cell? (xD k o)=some v):W'.cell? (xD k o)=some v:=(zWS (w:=W) (h k hk)).trans hc
def zbo {α:Type}(f:Nat->α)(n k:Nat):List α:=(List.range k).map λj=>f (n-1-j)
theorem zh8 {α:Type}(f:Nat->α)(n k:Nat):zbo f n (k+1)=zbo f n k++[f (n-1-k)]:=by simp[zbo,List.range_succ]
theorem zeU {α:Type}(f:Nat->α)(n k:Nat):(zbo f n k).length=k:=by simp[zbo]
abbrev Nx:=Nat×ByteArray×Nat
def zlb (x:Nx):Array Value:=#[xI (x.1:Int),.agg #[.string x.2.1,xI (x.2.2:Int)]]
def zdl (ns:Xl)(ps:Xn)(j:Nat):Nx:=(j,ns[j]?.getD ⟨#[]⟩,ps[j]?.getD 0)
theorem zmT (n:Nat)(hn:1<=n)(N l Bs gl cl:Nat)(ns:Xl)(ps:Xn)(hgl:gl<N)(h63:ns.length<=1000000)(J Jx:List Nx->World->Prop)
 (hY:∀pre x W,J pre W->pre.length<ns.length->YieldAt Fence.wide (n-1) prog l (zlb x) W λe W' =>
   (e=.returned (.bool true)/\J (pre++[x]) W'/\KpB N Bs W W')∨(e=.returned (.bool false)/\Jx (pre++[x]) W'))
 (W:Xw) (hBs:xC W Bs 0 (xS gl ns.length cl)) (hc:∀j,j<ns.length->xC W gl (j*2) (.string (ns[j]?.getD ⟨#[]⟩))/\xC W gl (j*2+1) (xI (ps[j]?.getD 0:Nat))) (h0:J [] W) :
 CallsIn Fence.wide n prog 121 #[.func (.yield l) #[] #[],xP Bs] W λe W'=>(∃v,e=.returned v) /\
  ((∃ys,ys=zbo (zdl ns ps) ns.length ns.length/\J ys W')∨(∃pre,True/\Jx pre W')):=by
 refine callsIn_of_wp func121 rfl trivial ?_ rfl;simp only[ntmps121,List.size_toArray,zMR,zNb,Nat.reduceAdd,Nat.reduceSub,Array.replicate_succ,Array.replicate_zero,List.push_toArray,List.append_toArray,List.nil_append,List.cons_append];gi_wp2
 gi_loopw [3] (λi wr=>∃m:Nat,m<=ns.length/\i=xI ((m:Int)-1)/\J (zbo (zdl ns ps) ns.length (ns.length-m)) wr/\KpB N Bs W wr)
  (λi _=>(intOf i+1).toNat)
 case atStart=>exact⟨ns.length,zMK _,by go_num,by rw[Nat.sub_self];exact h0,λ_ _=>rfl⟩
 case round =>
  obtain⟨m,hm,rfl,hJs,hnx⟩:=hrel;cases m with
  | zero =>
    rw[Nat.sub_zero] at hJs;gi_wp2
    go_end0;exact⟨⟨_,rfl⟩,.inl ⟨_,rfl,hJs⟩⟩
  | succ m =>
    rw[show (((m+1:Nat):Int)-1)=(m:Int) by omega];obtain⟨fn,tmps,assign,body,hy,hR⟩:=hY _ (zdl ns ps m) wr hJs (by rw[zeU];omega);obtain⟨c0,c1⟩:=hc m (by omega);have d0:=hnx.cell (zM4 hgl) c0;have d1:=hnx.cell (zM4 hgl) c1;have dB:=hnx.cell (zM3 rfl) hBs;have i0:(0:Int)<=(m:Int):=(by omega);have i1:(m:Int)<(ns.length:Int):=(by omega);dsimp only[zlb,zdl] at hy;gi_wp2
    refine hR.mono ?_;have hup:zbo (zdl ns ps) ns.length (ns.length-m)=zbo (zdl ns ps) ns.length (ns.length-(m+1))++[zdl ns ps m]:=(by rw[show ns.length-m=(ns.length-(m+1))+1 by omega,zh8,show ns.length-1-(ns.length-(m+1))=m by omega]);rintro e W3 (⟨rfl,hJ3,hk3⟩|⟨rfl,hJx3⟩)
    . gi_wp2
      go_roundw
      case rel=>exact⟨m,by omega,by go_num,by rw[hup];exact hJ3,λk hk=>(hk3 k hk).trans (hnx k hk)⟩
      case measure=>simp[intOf]
    gi_wp2
    refine zWR (results_none rfl _ _ _) rfl ?_;exact⟨⟨_,rfl⟩,.inr ⟨_,trivial,hJx3⟩⟩
end
section
open Go.RowKit Go.Shelf
variable {K:Cd} {xs:Xm} {B B0 N base kb n size wb:Nat} {e:Xy} {v:Xv} {W W':Xw}
structure SCs (B:Nat) (W W':Xw):Prop where
 size:W.heap.size<=W'.heap.size
 blk:∀k,k<W.heap.size->(k<B∨∃c e f,W.heap[k]?=some (.cells c e f))->W'.heap[k]?=W.heap[k]?
theorem SCs.of {row:Xo}(hg:W.grownBy W' row)(hr:∀r,row=some r->B<=r/\∃o:Obj,W.heap[r]?=some o/\o.isCells=false):SCs B W W':=by
 refine⟨hg.size,λk hk h=>hg.block k hk (λe=>?_)⟩;obtain⟨h1,o,h2,h3⟩:=hr k e.symm;rcases h with h|⟨c,e,f,h⟩
 . omega
 rw[h2] at h;cases h;simp[Obj.isCells] at h3
theorem SCs.cells (h:SCs B W W'){k:Nat}{c:Xa}{f:Nat×Nat}(hk:W.heap[k]?=some (.cells c e f)):W'.heap[k]?=some (.cells c e f):=(h.blk k (ze hk) (zM4 ⟨c,e,f,hk⟩)).trans hk
theorem SCs.own (h:SCs B W W')(ho:W.ownsRow base e size v n xs):W'.ownsRow base e size v n xs:=by
 refine⟨ho.1,?_⟩;rcases ho.2 with h1|⟨g,cap,cur,h1,h2,h3,h4⟩
 . exact zM3 h1
 exact zM4 ⟨g,cap,cur,h1,h2,h.cells h3,h4⟩
theorem SCs.row (h:SCs B W W')(ho:zbj W base e size v n xs):zbj W' base e size v n xs:=by
 refine⟨ho.1,?_⟩;rcases ho.2 with h1|⟨g,o,cap,cur,h1,h2,h3,h4⟩
 . exact zM3 h1
 exact zM4 ⟨g,o,cap,cur,h1,h2,h.cells h3,h4⟩
theorem SCs.old (h:SCs B W W')(hN:N<=W.heap.size)(hB:N<=B):Old N W W':=λk hk=>h.blk k (by omega) (zM3 (by omega))
theorem KI.sc {bv cv rv:Xv}(h:KI B wb kb bv cv rv K W)(hs:SCs B0 W W'):KI B wb kb bv cv rv K W' :=
 ⟨hs.cells h.wr,hs.cells h.blk,hs.own h.bown,hs.own h.cown,hs.own h.rown,h.hwb,h.hkb,h.dk,h.d1,h.d2,zMO h.hB hs.size⟩
theorem WL.sc {qb cb:Nat}{c:Sc}{ev nv lv:Xv}{ls:List Lt}(h:WL N B wb kb qb cb base c ev nv lv K ls W)(hs:SCs B0 W W')(hcb:cb<B0)(hNB:N<=B0):WL N B wb kb qb cb base c ev nv lv K ls W'/\∀k,CT kb qb W' k↔CT kb qb W k:=by
 obtain⟨bv,cv,rv,hI⟩:=h.wi.kw;obtain⟨xs,h1,h2⟩:=h.row;have hI':=hI.sc hs;have hkt:∀k,KT kb W' k↔KT kb W k:=λk=>(hI'.kt k).trans (hI.kt k).symm;have hO:=hs.old h.wi.qi.hN hNB
 have hW:WL N B wb kb qb cb base c ev nv lv K ls W' :=
  ⟨⟨⟨bv,cv,rv,hI'⟩,⟨hs.cells h.wi.qi.blk,h.wi.qi.sc.old hO,h.wi.qi.ck.of' (hs.blk cb h.wi.qi.ck.lt (zM3 hcb)),zMO h.wi.qi.hN hs.size⟩,λe=>h.wi.nq ((hkt qb).1 e),λe=>h.wi.nc ((hkt cb).1 e),h.wi.hNk⟩,⟨xs,hs.row h1,h2.old hO⟩,λk e=>⟨λe'=>(h.dl k e).1 ((hkt k).1 e'),(h.dl k e).2⟩,h.dq,h.dw,h.hNq⟩
 refine⟨hW,λk=>(hW.ct k).trans (Iff.trans ?_ (h.ct k).symm)⟩;rw[hkt k]
theorem FT.sc {T:World->Nat->Prop}{w:Xw}(h:FT T w W)(hs:SCs w.heap.size W W')(ht:∀k,T W' k->T W k)(hos:W'.os=W.os)(htp:W'.tape=W.tape)(hou:W'.output=W.output):FT T w W' :=
 ⟨⟨hos.trans h.fr.os,htp.trans h.fr.tape,hou.trans h.fr.output,zMO h.fr.size hs.size,λk hk hn=>(hs.blk k (zM9 hk h.fr.size) (zM3 hk)).trans (h.fr.block k hk hn)⟩,λk e=>h.tk k (ht k e)⟩
theorem zh1 (n:Nat)(hn:1<=n)(N Bs gl cl:Nat)(ns:Xl)(ps:Xn)(hgl:gl<N)(h63:ns.length<=1000000)(w:Xw)(hBs:Bs<w.heap.size)(hN:N<=w.heap.size)
 (hb:xC w Bs 0 (xS gl ns.length cl)) (hc:∀j,j<ns.length->xC w gl (j*2) (.string (ns[j]?.getD ⟨#[]⟩))/\xC w gl (j*2+1) (xI (ps[j]?.getD 0:Nat))) :
 SeqStopsK Fence.wide n prog 121 #[xP Bs] zlb (KpB N Bs) (λys=>ys=zbo (zdl ns ps) ns.length ns.length) (λ_=>True) ns.length w:=λl J Jx W hW _ _ hY h0=>by
 exact zmT n hn N l Bs gl cl ns ps hgl h63 J Jx hY W (zd hW hb hBs) (λj hj=>⟨zd hW (hc j hj).1 (by omega),zd hW (hc j hj).2 (by omega)⟩) h0
end
end Go.Proofs.YtenadialhccdiaaGreatDoor
