/- Part 24. -/
import Derived.Test.YtenadialhccdiaaGreatDoorK22
set_option maxRecDepth 100000
set_option maxHeartbeats 8000000
namespace Go.Proofs.YtenadialhccdiaaGreatDoor
open Go.Proofs.Tryz
open Go.RowKit
section
variable {w:Xw}
def zcV (l:Xn)(ns nc:Nat)(s:Ir):(Nat×Int)×Ir :=
 let o:=zad l 21 s
 if o.2.er=none then
  (if (zY.getD o.1 (0,0,0)).1=1 then ((o.1,(zcK l o.2).1),(zcK l o.2).2)
   else if (zY.getD o.1 (0,0,0)).1=2 then ((o.1,((zad l ns o.2).1:Nat)),(zad l ns o.2).2)
   else if (zY.getD o.1 (0,0,0)).1=3 then ((o.1,((zad l nc o.2).1:Nat)),(zad l nc o.2).2)
   else ((o.1,0),o.2))
 else ((0,0),o.2)
theorem zkx (s:Ir):s.fail.er≠none:=by
 unfold Ir.fail;split
 . simp
 assumption
theorem zh5 {l:Xn}{bd:Nat}{s:Ir}(h:(zad l bd s).2.er=none):(zad l bd s).1<bd:=by
 unfold zad zbU at *;simp only at *;split at h
 . rename_i h1;simpa using h1
 exact absurd h (zkx _)
theorem zjQ (k:Nat)(s:Nat×Nat×Nat)(h:zY[k]?=some s):s.1=0∨s.1=1∨s.1=2∨s.1=3:=by
 have hm:=zML h;have:∀s∈zY,s.1=0∨s.1=1∨s.1=2∨s.1=3:=by decide
 exact this s hm
theorem UI.lenc {B cb:Nat}{bv cv rv:Xv}{K:Cd}(h:UI B cb bv cv rv K w):∃x cp,cv=.slice x K.cells.length cp:=zbP h.cown
theorem zby {T:Xj}{w':Xw}{b i:Nat}{u:Xv}(hF:Fr T w w')(h:w.cell? (xD b i)=some u)(hb:b<w.heap.size)(hT:¬T b):w'.cell? (xD b i)=some u:=(zWS (w:=w) (hF.block b hb hT)).trans h
theorem zh2 (S:Xs)(rb cb B:Nat)(v:Xv)(g:Nat)(l:Xn)(s:Ir)(K:Cd)(w:Xw)(h:RL S w rb v g l s)(hU:UC B cb K w)(hrc:rb<cb)(hns:K.slots<=1000000)(hnc:K.cells.length<=1000000) :
 xK 72 #[xP rb,xP cb] w (λe w'=>e=.returned (.agg #[.int .u8 ((zcV l K.slots K.cells.length s).1.1:Nat),.int .i64 (zcV l K.slots K.cells.length s).1.2])/\RL S w' rb v g l (zcV l K.slots K.cells.length s).2/\Fr (·=rb) w w'):=by
 obtain⟨bv,cv,rv,HI⟩:=hU;obtain⟨xc,cpc,rfl⟩:=HI.lenc;obtain⟨m0,m1,m2,m3,m4,m5,mf,mz⟩:=zt HI.blk;have hz21:=h.gl.size;have HY:=(λo:Obj=>zez S rb v g l s 21 (by decide) (w.alloc o) (h.below ((zWQ _ w).alloc (zMK _) o)));have hy:=zeS l 21 s h.by'.lt;have hrb:=ze h.blk;have Hlt:∀x∈l,x<256:=h.by'.lt;have Hg:=(λhl=>h.by'.lt' hl);obtain⟨R,hR⟩:∃R,R=zcV l K.slots K.cells.length s:=⟨_,rfl⟩;rw[<- hR];have hok:=λh=>zh5 (l:=l) (bd:=21) (s:=s) h;unfold zcV at hR;rcases hO:zad l 21 s with ⟨op,t⟩;rw[hO] at HY hy hR hok;simp only at HY hy hR hok;have hcne:¬cb=rb:=by omega
 obtain⟨p,er⟩:=t;clear h hO m0 m1 m4 m5;cases er with
 | some q => rw[zM1 (by simp)] at hR;subst hR;go_enter func72,ntmps72;go_wp2_with (go_at_call 71;refine (HY _).mono ?_;rintro e w1 ⟨rfl,h1,h2⟩;obtain⟨a0,a1,a2,af,az⟩:=zL h1.blk;unfold erV at a2;simp only at a2;have Hb1:=(h2.block w.heap.size (by simp) (by omega)).trans (zc w _);obtain⟨b0,b1,bf,bz⟩:=zp Hb1;have H1:=h1;have H2:=(((Fr.refl (·=rb) w).alloc _).trans h2);clear h1 h2);obtain⟨W,hW⟩:∃W,W=(w1.setCell (xD w.heap.size 0) (.int .u8 0)).setCell (xD w.heap.size 1) (xI 0):=⟨_,rfl⟩;rw[<- hW];have e0:W.cell? (xD w.heap.size 0)=some (.int .u8 0):=(by rw[hW];exact zdu (by decide) (za0 ⟨_,b0⟩));have e1:W.cell? (xD w.heap.size 1)=some (xI 0):=(by rw[hW];exact za0 (zce b1));have hF:Fr (·=rb) w W:=(by rw[hW];exact (H2.setNew (zMK _) _ _).setNew (zMK _) _ _);have hR:RL S W rb v g l ⟨p,some q⟩:=(by rw[hW];exact H1.code (((Fr.refl (λk=>w.heap.size<=k) w1).setCell (zM3 (zMK _)) _).setCell (zM3 (zMK _)) _) hrb Hg hz21);exact zWR (v:=.agg #[.int .u8 0,xI 0]) (by simp[results,results72,go_sem,e0,e1]) rfl ⟨rfl,hR,hF⟩
 | none =>
   rw[zM2 rfl] at hR;have h21:=hok rfl;obtain⟨sh,hsh⟩:∃sh,zY[op]?=some sh:=⟨_,zsc (show op<zY.length from h21)⟩;have hgd:(zY.getD op (0,0,0)).1=sh.1:=(by rw[List.getD_eq_getElem?_getD,hsh];rfl);rw[hgd] at hR;have h3:=zjQ op sh hsh;have hsa:∀w1,zbW w1->xC w1 11 (op*3) (xI (sh.1:Nat)):=λw1 h1=>h1.a op sh hsh;have Hsa:=hsa;have hsl:11<w.heap.size:=zM9 (show 11<21 by decide) hz21;obtain⟨c,sh2⟩:=sh;simp only at h3 Hsa hR;have hw8:IntKind.u8.wrap (op:Int)=(op:Int):=(by rw[IntKind.wrap_u8];omega);clear hsh hgd hsa hok;rcases h3 with rfl|rfl|rfl|rfl
   . simp only[zM1 (show ¬(0:Nat)=1 by decide),zM1 (show ¬(0:Nat)=2 by decide),zM1 (show ¬(0:Nat)=3 by decide)] at hR;subst hR;go_enter func72,ntmps72;go_wp2_with (go_at_call 71;refine (HY _).mono ?_;rintro e w1 ⟨rfl,h1,h2⟩;obtain⟨a0,a1,a2,af,az⟩:=zL h1.blk;unfold erV at a2;simp only at a2;have hz1:w.heap.size+1<=w1.heap.size:=(by have:=h2.size;simp at this;omega);have hsl1:11<w1.heap.size:=(by omega);have cz1:cb<w1.heap.size:=(by omega);have Hb1:=(h2.block w.heap.size (by simp) (by omega)).trans (zc w _);obtain⟨b0,b1,bf,bz⟩:=zp Hb1;have s0:=Hsa w1 h1.shp;have H1:=h1;have H2:=(((Fr.refl (·=rb) w).alloc _).trans h2);have hm2:=zby H2 m2 mz (by omega);have hm3:=zby H2 m3 mz (by omega);clear h1 h2);obtain⟨W,hW⟩:∃W,W=((w1.setCell (xD w.heap.size 0) (.int .u8 (op:Nat))).setCell (xD w.heap.size 1) (xI 0)).alloc (.cells #[.int .u8 (op:Nat),xI 0] 71):=⟨_,rfl⟩;rw[<- hW];have e0:W.cell? (xD w.heap.size 0)=some (.int .u8 (op:Nat)):=(by rw[hW];exact zj _ (zdu (by decide) (za0 ⟨_,b0⟩)));have e1:W.cell? (xD w.heap.size 1)=some (xI 0):=(by rw[hW];exact zj _ (za0 (zce b1)));have hF:Fr (·=rb) w W:=(by rw[hW];exact ((H2.setNew (zMK _) _ _).setNew (zMK _) _ _).alloc _);have hRW:RL S W rb v g l ⟨p,none⟩:=(by rw[hW];exact H1.code ((((Fr.refl (λk=>w.heap.size<=k) w1).setCell (zM3 (zMK _)) _).setCell (zM3 (zMK _)) _).alloc _) hrb Hg hz21);exact zWR (v:=.agg #[.int .u8 (op:Nat),xI 0]) (by simp[results,results72,go_sem,e0,e1]) rfl ⟨rfl,hRW,hF⟩
   . simp only[if_true] at hR;have HN:=(λw1 (h1:RL S w1 rb v g l ⟨p,none⟩)=>zf7 S rb v g l ⟨p,none⟩ w1 h1);rcases hN:zcK l ⟨p,none⟩ with ⟨X,t2⟩;rw[hN] at HN hR;subst hR;simp only at HN;clear hN;go_enter func72,ntmps72
     go_wp2_with (first
      | (go_at_call 69;revert H1;intro H1;refine (HN _ (H1.below (zq _ _))).mono ?_;rintro e w2 ⟨rfl,h1,h2⟩;have hz2:w1.heap.size+1<=w2.heap.size:=(by have:=h2.size;simp at this;omega);have hb2:=(h2.block w.heap.size (by simp;omega) (by omega)).trans ((zWP _ _ _ (by omega)).trans Hb1);obtain⟨c0,c1,cf,cz⟩:=zp hb2;have hb3:=(h2.block w1.heap.size (by simp) (by omega)).trans (zc w1 _);obtain⟨d0,d1,df,dz⟩:=zp hb3;have H3:=h1;have H4:=((H2.alloc _).trans h2);clear h1 h2 hb2 hb3)
      | (go_at_call 71;refine (HY _).mono ?_;rintro e w1 ⟨rfl,h1,h2⟩;obtain⟨a0,a1,a2,af,az⟩:=zL h1.blk;unfold erV at a2;simp only at a2;have hz1:w.heap.size+1<=w1.heap.size:=(by have:=h2.size;simp at this;omega);have hsl1:11<w1.heap.size:=(by omega);have cz1:cb<w1.heap.size:=(by omega);have Hb1:=(h2.block w.heap.size (by simp) (by omega)).trans (zc w _);obtain⟨b0,b1,bf,bz⟩:=zp Hb1;have s0:=Hsa w1 h1.shp;have H1:=h1;have H2:=(((Fr.refl (·=rb) w).alloc _).trans h2);have hm2:=zby H2 m2 mz (by omega);have hm3:=zby H2 m3 mz (by omega);clear h1 h2))
     obtain⟨W,hW⟩:∃W,W=((w2.setCell (xD w1.heap.size 1) (xI X)).setCell (xD w.heap.size 0) (.int .u8 (op:Nat))).setCell (xD w.heap.size 1) (xI X):=⟨_,rfl⟩;rw[<- hW];have e0:W.cell? (xD w.heap.size 0)=some (.int .u8 (op:Nat)):=(by rw[hW];exact zdu (by decide) (za0 ⟨_,zk (by omega) c0⟩));have e1:W.cell? (xD w.heap.size 1)=some (xI X):=(by rw[hW];exact za0 (zce (zk (by omega) c1)));have hF:Fr (·=rb) w W:=(by rw[hW];exact ((H4.setNew (by omega) _ _).setNew (zMK _) _ _).setNew (zMK _) _ _);have hRW:RL S W rb v g l t2:=(by rw[hW];exact H3.code ((((Fr.refl (λk=>w.heap.size<=k) w2).setCell (zM3 (show w.heap.size<=w1.heap.size by omega)) _).setCell (zM3 (zMK _)) _).setCell (zM3 (zMK _)) _) hrb Hg hz21);exact zWR (v:=.agg #[.int .u8 (op:Nat),xI X]) (by simp[results,results72,go_sem,e0,e1]) rfl ⟨rfl,hRW,hF⟩
   . simp only[zM1 (show ¬(2:Nat)=1 by decide),if_true] at hR;have HN:=(λw1 (h1:RL S w1 rb v g l ⟨p,none⟩)=>zez S rb v g l ⟨p,none⟩ K.slots (by omega) w1 h1);rcases hN:zad l K.slots ⟨p,none⟩ with ⟨X,t2⟩;rw[hN] at HN hR;subst hR;simp only at HN;clear hN;go_enter func72,ntmps72
     go_wp2_with (first
      | (go_at_call 71;revert H1;intro H1;refine (HN _ (H1.below (zq _ _))).mono ?_;rintro e w2 ⟨rfl,h1,h2⟩;have hz2:w1.heap.size+1<=w2.heap.size:=(by have:=h2.size;simp at this;omega);have hb2:=(h2.block w.heap.size (by simp;omega) (by omega)).trans ((zWP _ _ _ (by omega)).trans Hb1);obtain⟨c0,c1,cf,cz⟩:=zp hb2;have hb3:=(h2.block w1.heap.size (by simp) (by omega)).trans (zc w1 _);obtain⟨d0,d1,df,dz⟩:=zp hb3;have H3:=h1;have H4:=((H2.alloc _).trans h2);clear h1 h2 hb2 hb3)
      | (go_at_call 71;refine (HY _).mono ?_;rintro e w1 ⟨rfl,h1,h2⟩;obtain⟨a0,a1,a2,af,az⟩:=zL h1.blk;unfold erV at a2;simp only at a2;have hz1:w.heap.size+1<=w1.heap.size:=(by have:=h2.size;simp at this;omega);have hsl1:11<w1.heap.size:=(by omega);have cz1:cb<w1.heap.size:=(by omega);have Hb1:=(h2.block w.heap.size (by simp) (by omega)).trans (zc w _);obtain⟨b0,b1,bf,bz⟩:=zp Hb1;have s0:=Hsa w1 h1.shp;have H1:=h1;have H2:=(((Fr.refl (·=rb) w).alloc _).trans h2);have hm2:=zby H2 m2 mz (by omega);have hm3:=zby H2 m3 mz (by omega);clear h1 h2))
     obtain⟨W,hW⟩:∃W,W=((w2.setCell (xD w1.heap.size 1) (xI (X:Nat))).setCell (xD w.heap.size 0) (.int .u8 (op:Nat))).setCell (xD w.heap.size 1) (xI (X:Nat)):=⟨_,rfl⟩;rw[<- hW];have e0:W.cell? (xD w.heap.size 0)=some (.int .u8 (op:Nat)):=(by rw[hW];exact zdu (by decide) (za0 ⟨_,zk (by omega) c0⟩));have e1:W.cell? (xD w.heap.size 1)=some (xI (X:Nat)):=(by rw[hW];exact za0 (zce (zk (by omega) c1)));have hF:Fr (·=rb) w W:=(by rw[hW];exact ((H4.setNew (by omega) _ _).setNew (zMK _) _ _).setNew (zMK _) _ _);have hRW:RL S W rb v g l t2:=(by rw[hW];exact H3.code ((((Fr.refl (λk=>w.heap.size<=k) w2).setCell (zM3 (show w.heap.size<=w1.heap.size by omega)) _).setCell (zM3 (zMK _)) _).setCell (zM3 (zMK _)) _) hrb Hg hz21);exact zWR (v:=.agg #[.int .u8 (op:Nat),xI (X:Nat)]) (by simp[results,results72,go_sem,e0,e1]) rfl ⟨rfl,hRW,hF⟩
   simp only[zM1 (show ¬(3:Nat)=1 by decide),zM1 (show ¬(3:Nat)=2 by decide),if_true] at hR;have HN:=(λw1 (h1:RL S w1 rb v g l ⟨p,none⟩)=>zez S rb v g l ⟨p,none⟩ K.cells.length (by omega) w1 h1);rcases hN:zad l K.cells.length ⟨p,none⟩ with ⟨X,t2⟩;rw[hN] at HN hR;subst hR;simp only at HN;clear hN;go_enter func72,ntmps72
   go_wp2_with (first
    | (go_at_call 71;revert H1;intro H1;refine (HN _ (H1.below (zq _ _))).mono ?_;rintro e w2 ⟨rfl,h1,h2⟩;have hz2:w1.heap.size+1<=w2.heap.size:=(by have:=h2.size;simp at this;omega);have hb2:=(h2.block w.heap.size (by simp;omega) (by omega)).trans ((zWP _ _ _ (by omega)).trans Hb1);obtain⟨c0,c1,cf,cz⟩:=zp hb2;have hb3:=(h2.block w1.heap.size (by simp) (by omega)).trans (zc w1 _);obtain⟨d0,d1,df,dz⟩:=zp hb3;have H3:=h1;have H4:=((H2.alloc _).trans h2);clear h1 h2 hb2 hb3)
    | (go_at_call 71;refine (HY _).mono ?_;rintro e w1 ⟨rfl,h1,h2⟩;obtain⟨a0,a1,a2,af,az⟩:=zL h1.blk;unfold erV at a2;simp only at a2;have hz1:w.heap.size+1<=w1.heap.size:=(by have:=h2.size;simp at this;omega);have hsl1:11<w1.heap.size:=(by omega);have cz1:cb<w1.heap.size:=(by omega);have Hb1:=(h2.block w.heap.size (by simp) (by omega)).trans (zc w _);obtain⟨b0,b1,bf,bz⟩:=zp Hb1;have s0:=Hsa w1 h1.shp;have H1:=h1;have H2:=(((Fr.refl (·=rb) w).alloc _).trans h2);have hm2:=zby H2 m2 mz (by omega);have hm3:=zby H2 m3 mz (by omega);clear h1 h2))
   obtain⟨W,hW⟩:∃W,W=((w2.setCell (xD w1.heap.size 1) (xI (X:Nat))).setCell (xD w.heap.size 0) (.int .u8 (op:Nat))).setCell (xD w.heap.size 1) (xI (X:Nat)):=⟨_,rfl⟩;rw[<- hW];have e0:W.cell? (xD w.heap.size 0)=some (.int .u8 (op:Nat)):=(by rw[hW];exact zdu (by decide) (za0 ⟨_,zk (by omega) c0⟩));have e1:W.cell? (xD w.heap.size 1)=some (xI (X:Nat)):=(by rw[hW];exact za0 (zce (zk (by omega) c1)));have hF:Fr (·=rb) w W:=(by rw[hW];exact ((H4.setNew (by omega) _ _).setNew (zMK _) _ _).setNew (zMK _) _ _);have hRW:RL S W rb v g l t2:=(by rw[hW];exact H3.code ((((Fr.refl (λk=>w.heap.size<=k) w2).setCell (zM3 (show w.heap.size<=w1.heap.size by omega)) _).setCell (zM3 (zMK _)) _).setCell (zM3 (zMK _)) _) hrb Hg hz21);exact zWR (v:=.agg #[.int .u8 (op:Nat),xI (X:Nat)]) (by simp[results,results72,go_sem,e0,e1]) rfl ⟨rfl,hRW,hF⟩
end
section
structure Rw' where
 s:Ir
 dp:Int
 mx:Nat
 row:List (Nat×Int)
def goW (l:Xn)(x:Rw'):Bool:=decide (x.s.er=none/\(x.s.at'<l.length∨0<x.dp))
def zc3 (l:Xn)(ns nc:Nat)(x:Rw'):Rw' :=
 let i:=zcV l ns nc x.s
 let sh:=zY.getD i.1.1 (0,0,0)
 ⟨zbU (decide (0<=x.dp-sh.2.1)) i.2,x.dp-sh.2.1+sh.2.2,max x.mx (x.dp-sh.2.1+sh.2.2).toNat,x.row++[i.1]⟩
def zdw (l:Xn)(ns nc:Nat):Nat->Rw'->Rw'
 | 0,x=>x
 | f+1,x=>if goW l x=true then zdw l ns nc f (zc3 l ns nc x) else x
theorem zg9 (l:Xn)(s:Ir):(s.er≠none->(zG l s).2=s)/\(s.er=none->(zG l s).2.er≠none∨((zG l s).2.er=none/\(zG l s).2.at'=s.at'+1/\s.at'<l.length))/\s.at'<=(zG l s).2.at':=by
 unfold zG;by_cases h:s.er=none
 . rw[zM2 h];by_cases h2:l.length<=s.at'
   . rw[zM2 h2];exact⟨λh'=>absurd h h',λ_=>zM3 (by simp),zMK _⟩
   rw[zM1 h2];exact⟨λh'=>absurd h h',λ_=>zM4 ⟨h,rfl,by omega⟩,Nat.le_succ _⟩
 rw[zM1 h];exact⟨λ_=>rfl,λh'=>absurd h' h,zMK _⟩
theorem zks (b:Bool)(s:Ir):(zbU b s).at'=s.at':=by unfold zbU;split;rfl;exact s.fail_le
theorem zhR (b:Bool)(s:Ir):(zbU b s).er=none->s.er=none/\b=true:=by
 unfold zbU;split
 . rename_i h;exact λh'=>⟨h',h⟩
 exact λh'=>absurd h' (zkx s)
theorem zfP (l:Xn)(bd:Nat)(s:Ir):s.at'<=(zad l bd s).2.at'/\(s.er=none->(zad l bd s).2.er=none->s.at'+1<=(zad l bd s).2.at'):=by
 unfold zad;simp only[zks];obtain⟨h1,h2,h3⟩:=zg9 l s;refine⟨h3,λh hn=>?_⟩;have:=(zhR _ _ hn).1;rcases h2 h with h'|⟨_,h',_⟩
 . exact absurd this h'
 omega
theorem znB (l:Xn)(n:Nat):∀s,s.at'<=(zc2 l n s).2.at':=by
 induction n with
 | zero=>intro s;exact zMK _
 | succ n ih=>intro s;exact zMO (zg9 l s).2.2 (ih _)
theorem znd (l:Xn)(ns nc:Nat)(s:Ir)(hs:s.er=none)(h:(zcV l ns nc s).2.er=none):s.at'+1<=(zcV l ns nc s).2.at':=by
 unfold zcV at *;simp only at *;obtain⟨h1,h2⟩:=zfP l 21 s;by_cases he:(zad l 21 s).2.er=none
 . rw[zM2 he] at *;have h3:=h2 hs he;split
   . exact zMO h3 (znB l 8 _)
   split
   . exact zMO h3 (zfP l _ _).1
   split
   . exact zMO h3 (zfP l _ _).1
   exact h3
 rw[zM1 he] at *;exact absurd h he
theorem zpb (l:Xn)(ns nc:Nat)(s:Ir):(zcV l ns nc s).1.1<21:=by
 unfold zcV;simp only;by_cases he:(zad l 21 s).2.er=none
 . rw[zM2 he];have:=zh5 he;split
   . exact this
   split
   . exact this
   split
   . exact this
   exact this
 rw[zM1 he];exact Nat.succ_pos 20
theorem zic (k:Nat)(s:Nat×Nat×Nat)(h:zY[k]?=some s):s.2.1<=3/\s.2.2<=1:=by
 have hm:=zML h;have:∀s∈zY,s.2.1<=3/\s.2.2<=1:=by decide
 exact this s hm
def zjl (l:Xn)(x:Rw'):Nat:=if x.s.er=none then l.length-x.s.at'+1 else 0
structure RwI (x:Rw'):Prop where
 lo:-3<=x.dp
 hi:x.dp<=x.row.length
 ok:x.s.er=none->0<=x.dp
 mx:x.mx<=x.row.length
theorem znc (l:Xn)(ns nc:Nat)(x:Rw')(h:RwI x)(hs:x.s.er=none)(sh:Nat×Nat×Nat)(hsh:zY[(zcV l ns nc x.s).1.1]?=some sh):RwI (zc3 l ns nc x):=by
 obtain⟨h1,h2⟩:=zic _ _ hsh;have e:zY.getD (zcV l ns nc x.s).1.1 (0,0,0)=sh:=by rw[List.getD_eq_getElem?_getD,hsh];rfl
 have h0:=h.ok hs;have hhi:=h.hi;have hmx:=h.mx;unfold zc3;simp only[e];refine⟨?_,?_,λhn=>?_,?_⟩
 . simp only;omega
 . simp only[zMM,zMR,zNb];omega
 . have:=(zhR _ _ hn).2;simp at this;simp only;omega
 simp only[zMM,zMR,zNb];omega
theorem zmw (l:Xn)(ns nc:Nat)(x:Rw')(hs:x.s.er=none)(hle:(zc3 l ns nc x).s.at'<=l.length):zjl l (zc3 l ns nc x)<zjl l x:=by
 unfold zjl;rw[zM2 hs];by_cases h:(zc3 l ns nc x).s.er=none
 . rw[zM2 h];have h1:=(zhR _ _ h).1;have h2:=znd l ns nc x.s hs h1;have h3:(zc3 l ns nc x).s.at'=(zcV l ns nc x.s).2.at':=zks _ _;omega
 rw[zM1 h];omega
theorem zih (l:Xn)(ns nc f:Nat)(x:Rw')(h:goW l x=false):zdw l ns nc f x=x:=by
 cases f with
 | zero=>rfl
 | succ f=>unfold zdw;rw[h];rfl
theorem zpR (l:Xn)(ns nc f:Nat)(x:Rw')(h:goW l x=true)(hf:0<f):zdw l ns nc f x=zdw l ns nc (f-1) (zc3 l ns nc x):=by
 cases f with
 | zero=>omega
 | succ f=>show zdw l ns nc (f+1) x=zdw l ns nc f _;rw[zdw,zM2 h]
end
section
variable {cb rb:Nat} {w w1 w2:Xw}
theorem Tryz.infoIn2:(prog.info? 71).map (λi=>(i.zero,i.size,i.bytes))=some (some (.agg #[.int .u8 0,xI 0]),2,16):=by kernel_rfl
theorem zrB {a b:Int}:∀u∈[Value.int .u8 a,xI b],u.oneCell'=true:=by simp[Value.oneCell']
theorem Fr.rc (h:Fr (λk=>k=rb∨cb<=k) w w1)(k:Fr (·=rb) w1 w2):Fr (λk=>k=rb∨cb<=k) w w2:=h.trans' k (λ_ _ e=>zM3 e)
theorem Fr.rc2 (h:Fr (λk=>k=rb∨cb<=k) w w1)(k:Fr (λk=>cb<=k) w1 w2):Fr (λk=>k=rb∨cb<=k) w w2:=h.trans' k (λ_ _ e=>zM4 e)
theorem zoT {l:Xn}{ns nc:Nat}{x:Rw'}{op:Nat}{o:Int}{t:Ir}{sh:Nat×Nat×Nat}(hi:zcV l ns nc x.s=((op,o),t))(hsh:zY[op]?=some sh):zc3 l ns nc x=⟨zbU (decide (0<=x.dp-sh.2.1)) t,x.dp-sh.2.1+sh.2.2,max x.mx (x.dp-sh.2.1+sh.2.2).toNat,x.row++[(op,o)]⟩:=by unfold zc3;simp only[hi,List.getD_eq_getElem?_getD,hsh,Option.getD_some]
theorem zrd (S:Xs)(rb cb B:Nat)(v:Xv)(g:Nat)(l:Xn)(s:Ir)(bs:Xk)(o ns:Nat)(cs:List Int)(w:Xw)(h:RL S w rb v g l s)(hU:UC B cb ⟨bs,o,ns,cs,0,[]⟩ w)(hrc:rb<cb)(hgc:l≠[]->g<cb)(h21:21<=cb)(hns:ns<=1000000)(hnc:cs.length<=1000000)(R:Rw')(hRR:R=zdw l ns cs.length (l.length+2) ⟨s,0,0,[]⟩) :
 xK 36 #[xP rb,xP cb] w (λe w'=>e=.returned (.tuple #[])/\RL S w' rb v g l R.s/\UC B cb ⟨bs,o,ns,cs,R.mx,R.row⟩ w'/\Fr (λk=>k=rb∨cb<=k) w w'):=by
 obtain⟨i0,hi,hi0,hi1,hi2⟩:=info_parts Tryz.infoIn2;have hlen:=h.len;have H:=za h;have HU:=za hU;have Hgc:=za hgc;have HRR:=za hRR.symm;clear h hU hgc hRR;go_enter func36,ntmps36;go_wp2_with fail;go_loopg [4] (l.length+2) (λj d wr=>∃(x:Rw'),d=xI x.dp/\Hid (RwI x/\x.row.length+j=l.length+2/\zjl l x<j/\zdw l ns cs.length j x=R)/\Hid (RL S wr rb v g l x.s)/\Hid (UC B cb ⟨bs,o,ns,cs,x.mx,x.row⟩ wr)/\Hid (Fr (λk=>k=rb∨cb<=k) w wr));case atStart=>exact⟨⟨s,0,0,[]⟩,rfl,za ⟨⟨show (-3:Int)<=0 by decide,Int.le_refl 0,λ_=>Int.le_refl 0,zMK 0⟩,by simp,by unfold zjl;split <;> omega,HRR.o⟩,H.o,HU.o,Fr.refl _ _⟩
 case round =>
  obtain⟨⟨⟨p,er⟩,dp,mx,row⟩,rfl,HX,HR,HC,HF⟩:=hrel;obtain⟨hXi,hXr,hXp,hXR⟩:=HX.o;have d1:=hXi.lo;have d2:=hXi.hi;have d3:=hXi.mx;simp only at d1 d2 d3 hXr hXR hXp;have hrl:row.length<=1048578:=by omega
  clear HX;obtain⟨bv,cv,rv,hI⟩:=HC.o;obtain⟨xr,cpr,rfl⟩:=zB hI.rown;obtain⟨m0,m1,m2,m3,m4,m5,mf,mz⟩:=zt hI.blk;obtain⟨r0,r1,r2,rf,rz⟩:=zL HR.o.blk;simp only at m4 m5 r1 r2;obtain⟨av,avc,hav,_⟩:=HR.o.by'.ex;subst hav;have hple:=HR.o.le;simp only at hple;have HXi:=za hXi;have HXr:=za hXr;have HXp:=za hXp;have HXR:=za hXR;clear hXi hXr hXp hXR;cases er with
  | some q => unfold erV at r2;have HE:Hid (R=⟨⟨p,some q⟩,dp,mx,row⟩):=(by unfold Hid;rw[<- HXR.o];exact zih _ _ _ _ _ (by unfold goW;simp));go_wp2_with fail;go_quiet (fail);go_wp2_with fail;go_end0;rw[HE.o];have hBq:=zaf (zWQ wr.heap.size wr) nq;exact⟨rfl,HR.o.below hBq,HC.o.fr (T:=λ_=>False) (Fr.of_below hBq) (λ_ e=>e.elim),HF.o.drewN nq⟩
  | none =>
    unfold erV at r2;by_cases hend:¬p<l.length/\¬0<dp
    . obtain⟨hp,hd⟩:=hend;have HE:Hid (R=⟨⟨p,none⟩,dp,mx,row⟩):=(by unfold Hid;rw[<- HXR.o];exact zih _ _ _ _ _ (by unfold goW;simp;omega));go_wp2_with fail;go_quiet (fail);go_wp2_with fail;go_end0;rw[HE.o];have hBq:=zaf (zWQ wr.heap.size wr) nq;exact⟨rfl,HR.o.below hBq,HC.o.fr (T:=λ_=>False) (Fr.of_below hBq) (λ_ e=>e.elim),HF.o.drewN nq⟩
    have hgo:goW l ⟨⟨p,none⟩,dp,mx,row⟩=true:=(by unfold goW;simp;omega);have hdp0:=HXi.o.ok rfl;simp only at hdp0;have HE:Hid (zdw l ns cs.length (gk-1) (zc3 l ns cs.length ⟨⟨p,none⟩,dp,mx,row⟩)=R):=(by unfold Hid;rw[<- HXR.o];exact (zpR _ _ _ _ _ hgo (by have:=HXp.o;omega)).symm);have hop:=zpb l ns cs.length ⟨p,none⟩;rcases hins:zcV l ns cs.length ⟨p,none⟩ with ⟨⟨op,y⟩,t⟩;rw[hins] at hop;simp only at hop;obtain⟨sh,hsh⟩:∃sh,zY[op]?=some sh:=⟨_,zsc (show op<zY.length from hop)⟩;have HSt:=za (zoT (x:=⟨⟨p,none⟩,dp,mx,row⟩) hins hsh);have HSi:=za (znc l ns cs.length ⟨⟨p,none⟩,dp,mx,row⟩ HXi.o rfl sh (by rw[hins];exact hsh));have HSp:=za (λh=>zmw l ns cs.length ⟨⟨p,none⟩,dp,mx,row⟩ rfl h);obtain⟨k1,k2⟩:=zic op sh hsh;have Hsh:=za hsh;have hins':=hins;have Hins:=za hins;obtain⟨sa,tk,gv⟩:=sh;simp only at k1 k2;obtain⟨q,hq⟩:∃q:Bool,q=decide (0<=dp-(tk:Int)):=⟨_,rfl⟩;have Hq:=za hq;have hdec:decide ((tk:Int)<=dp)=q:=(by rw[hq];apply decide_eq_decide.2;omega);clear hq;clear hins hins' hsh;have hcase:p<l.length∨(¬p<l.length/\0<dp):=(by omega);clear hend hgo HXR HRR H HU;rcases hcase with hp|⟨hp,hd⟩
    all_goals
     go_wp2_with fail;go_quiet (fail);obtain⟨W,hW⟩:∃W,W=wr.drewN nq:=⟨_,rfl⟩;rw[<- hW];have hBq:xB wr W:=hW▸zaf (zWQ wr.heap.size wr) nq;have HRW:=za (HR.o.below hBq);have HIW:=za (hI.fr (T:=λ_=>False) (Fr.of_below hBq) (λ_ e=>e.elim));have HFW:=za (HF.o.belowed hBq);have HIns:=za (zh2 S rb cb B _ g l ⟨p,none⟩ ⟨bs,o,ns,cs,mx,row⟩ W HRW.o ⟨_,_,_,HIW.o⟩ hrc hns hnc);rw[Hins.o] at HIns;clear hW hBq
     go_upto_region 6 with (first
      | (go_at_call 33;revert J1;intro J1;refine (zeg S rb _ g l t q _ (J1.o.below (zq _ _))).mono ?_;rintro e w2 ⟨rfl,h1,h2⟩;have K1:=za h1;have K2:=za h2;have hz2:w1.heap.size+1<=w2.heap.size:=(by have:=h2.size;simp at this;omega);have hsl2:11<w2.heap.size:=(by omega);have t1:=h1.shp.t op _ Hsh.o;have t2:=h1.shp.g op _ Hsh.o;have KI:=za ((JI.o.fr (T:=λ_=>False) (Fr.of_below (zq w1 _)) (λ_ e=>e.elim)).fr h2 (λk e=>e▸hrc));have hbx:=(h2.block w1.heap.size (by simp) (by have:=ze J1.o.blk;omega)).trans (zc w1 _);obtain⟨b0,b1,bf,bz⟩:=zp hbx;have Hbx:=za hbx;clear h1 h2 hbx)
      | (go_at_call 72;refine HIns.o.mono ?_;rintro e w1 ⟨rfl,h1,h2⟩;have J1:=za h1;have J2:=za h2;have hz1:W.heap.size<=w1.heap.size:=h2.size;have hz21:=h1.gl.size;have hsl1:11<w1.heap.size:=zM9 (show 11<21 by decide) hz21;have s1:=h1.shp.t op _ Hsh.o;have s2:=h1.shp.g op _ Hsh.o;have JI:=za (HIW.o.fr h2 (λk e=>e▸hrc));clear h1 h2))
     obtain⟨c0,c1,c2,c3,c4,c5,cf,cz⟩:=zt KI.o.blk;simp only at c4 c5;clear t1 t2 s1 s2 HIns m0 m1 m2 m3 m4 m5 mf r0 r1 r2 rf;go_upto_region 7 with fail;obtain⟨MX,hMX⟩:∃MX,MX=max mx (dp-(tk:Int)+(gv:Int)).toNat:=⟨_,rfl⟩;have hmx:max (mx:Int) (dp-(tk:Int)+(gv:Int))=(MX:Int):=(by omega);rw[hmx];have JS:=za (KI.o.setN (i:=4) (u:=(xI (MX:Nat))) (K':=⟨bs,o,ns,cs,MX,row⟩) (zh _ _ _ _ KI.o.blk) rfl rfl rfl);have hcw1:cb<w1.heap.size:=ze JI.o.blk;have JF:=za ((((HFW.o.rc J2.o).alloc _).rc K2.o).rc2 JS.o.2);refine zn (λV=>UI B cb bv cv (.slice xr row.length cpr) ⟨bs,o,ns,cs,MX,row⟩ V/\RL S V rb (.slice av l.length avc) g l (zbU q t)/\Fr (λk=>k=rb∨cb<=k) w V/\xH V w1.heap.size #[.int .u8 (op:Nat),xI y] 71) ⟨JS.o.1,K1.o.code JS.o.2 hrc Hgc.o h21,JF.o,zr (by omega) Hbx.o⟩ ?_;rintro V ⟨vI,vR,vF,vB⟩;obtain⟨b,hb⟩:∃b,b=w1.heap.size:=⟨_,rfl⟩;rw[<- hb] at vB ⊢;have hbc:cb<b:=(by omega);obtain⟨e0,e1,ef,ez⟩:=zp vB;obtain⟨f0,f1,f2,f3,f4,f5,ff,fz⟩:=zt vI.blk;have VI:=za vI;have VR:=za vR;have VF:=za vF;have vBz:=vI.hB;have vcb:=vI.hcb;have HMX:=za hMX;have hmx':row.length+1<=maxLen:=(by unfold maxLen;omega);have hby':(row.length+1)*16<=140737488355328:=(by omega);have Hmx':=za hmx';have Hby':=za hby';have hbV:∀k,(Value.slice xr row.length cpr).ownBlock=some k->¬k=b:=λk e=>by have:=(JI.o.rown.lt k e).2;omega
     have HbV:=za hbV;clear hmx' hby' vI vR vF vB hMX hmx JS JF KI K1 K2 J1 J2 JI HRW HIW HFW HF HR HC hI hb f0 f1 f2 f3 f4 c0 c1 c2 c3 c4 c5 cf cz b0 b1 bf bz Hbx hz1 hz2 hsl1 hsl2 hcw1 hbV
     go_region_law (first
      | (refine zJ _ rfl (.tmp 61) (.tmp 63) 64 rfl B 71 i0 _ 2 16 underlying64 hi hi0 hi1 hi2 rfl (by decide) (.slice xr row.length cpr) row.length (zbs row) rfl (zD VI.o.rown _) (xD V.heap.size 0) 1 1 [.int .u8 (op:Nat),xI y] rfl rfl (zN (zc V _) rfl) zrB Hmx'.o Hby'.o (by simp;omega) ?_;intro v' w9 hown9 hgrow hnew;obtain⟨g9,cap9,rfl,hg9⟩:=zM hown9 (by omega);have hF9:=(Fr.of_grown hgrow).undrew;have hk9:=(hF9.block cb (by simp;omega) (λh=>by have:=(VI.o.rown.lt _ h).1;omega)).trans ((zWP _ _ _ (by omega)).trans VI.o.blk);obtain⟨g0,g1,g2,g3,g4,g5,gf,gz⟩:=zt hk9;have n0:=zby hF9 (zj _ e0) (by simp;omega) (λh=>HbV.o _ h rfl);have n1:=zby hF9 (zj _ e1) (by simp;omega) (λh=>HbV.o _ h rfl);have HF9:=za hF9;have Hown9:=za hown9;have Hnew9:=za hnew;clear hown9 hgrow hnew hF9 hk9))
     all_goals go_wp2_with fail
     all_goals go_roundg (gk-1)
     all_goals first
      | (have:=HXp.o;omega)
      | (have hC:=VI.o.added HF9.o Hown9.o (λk e=>(Hnew9.o k e).imp id (λh=>by have h':(V.alloc (.cells #[.int .u8 (op:Nat),xI y] 71)).heap.size<=k:=h;rw[zsb] at h';exact h'))
         have q1:=HSi.o;have q2:=HSp.o;have q3:=HE.o;have hQe:zc3 l ns cs.length ⟨⟨p,none⟩,dp,mx,row⟩=⟨zbU q t,dp-(tk:Int)+(gv:Int),MX,row++[(op,y)]⟩:=(by rw[HSt.o,Hq.o,HMX.o]);rw[hQe] at q1 q2 q3;have hRn:=VR.o.code hC.2 hrc Hgc.o h21;have q4:=q2 hRn.le;refine⟨⟨zbU q t,dp-(tk:Int)+(gv:Int),MX,row++[(op,y)]⟩,rfl,za ⟨q1,?_,?_,q3⟩,hRn,hC.1,VF.o.rc2 hC.2⟩
         . have:=HXr.o;have:=HXp.o;simp;omega
         have:=HXp.o;omega)
end
section
variable {l:Xn} {g:Nat} {w:Xw}
theorem By.take {a:Xp}{c n:Nat}(h:By w (.slice a l.length c) g l)(hn:n<=l.length):By w (.slice a n c) g (l.take n):=by
 obtain⟨a',c',h1,h2,h3,h4⟩:=h.ex;cases h1;have hl:(l.take n).length=n:=by rw[List.length_take];omega
 refine⟨⟨a,c,by rw[hl],by omega,h3,λhne=>?_⟩,λx hx=>h.lt x (List.mem_of_mem_take hx)⟩;obtain⟨o,e1,e2⟩:=h4 (by intro e;subst e;simp at hne);refine⟨o,e1,λj x hj=>e2 j x ?_⟩;rw[List.getElem?_take] at hj;split at hj
 . exact hj
 cases hj
def zcE (S:Xs)(p:Int):Value:=.iface 59 (.agg #[sen S 10,xI p])
def zdN (l:Xn):Option (List Nat) :=
 if l.length<8∨1048576<l.length then none
 else if (zcK l ⟨l.length-8,none⟩).1=zf5 (l.take (l.length-8)) then some (l.take (l.length-8)) else none
def zgN (S:Xs)(a:Xp)(c:Nat)(l:Xn)(o:Option (List Nat))(e:Ending):Prop :=
 match o with
 | none=>∃p,e=.returned (.tuple #[.slice none 0 0,zcE S p])
 | some b=>e=.returned (.tuple #[.slice a b.length c,.nilIface])/\b=l.take (l.length-8)/\b.length<=1048576
theorem RL.new {S:Xs}{v:Xv}(hG:Gl S w)(hS:zbW w)(hy:By w v g l)(hg:g<w.heap.size)(hl:l.length<=1048576)(p:Nat)(hp:p<=l.length) :
 RL S (w.alloc (.cells #[v,xI (p:Nat),.nilIface] 108)) w.heap.size v g l ⟨p,none⟩:=by
 have hF:Fr (λ_=>False) w (w.alloc (.cells #[v,xI (p:Nat),.nilIface] 108)):=(Fr.refl _ w).alloc _;exact⟨zc w _,hy.of (zWP _ _ _ hg),hp,hl,by omega,hG.size,hG.of hF (λ_ e=>e.elim),hS.old (hF.old hG.size (λ_ e=>e.elim)) (zMK _)⟩
theorem zjZ (S:Xs)(a:Xp)(c g:Nat)(l:Xn)(w:Xw)(hG:Gl S w)(hS:zbW w)(hy:By w (.slice a l.length c) g l)(hg:g<w.heap.size) :
 xK 31 #[.slice a l.length c] w (λe w'=>(xB w w')/\zgN S a c l (zdN l) e):=by
 obtain⟨a',c',h1,h2,h3,h4⟩:=hy.ex;cases h1;have hcm:c<=9223372036854775807:=by unfold maxLen at h3;omega
 have hi:=hG.image;unfold sen at hi;have h21:=hG.size;have HG:=za hG;have HS:=za hS;have Hy:=za hy;clear hG hS hy h3 h4;by_cases hb:l.length<8∨1048576<l.length
 . have HE:Hid (zdN l=none):=by unfold Hid zdN;rw[zM2 hb]
   by_cases hb1:l.length<8
   all_goals
    go_enter func31,ntmps31;go_wp2_with (go_at_call 42;refine (zfc S 10 _ _).mono ?_;rintro e w1 ⟨rfl,hB⟩;have HB:=za hB;clear hB);exact zWR (v:=.tuple #[.slice none 0 0,zcE S 0]) (by simp[results,results31,go_sem,zcE,sen]) rfl ⟨HB.o,by rw[HE.o];exact⟨0,rfl⟩⟩
 have hb1:¬l.length<8:=by omega
 have hb2:l.length<=1048576:=by omega
 obtain⟨n,hn⟩:∃n,l.length=n+8:=⟨l.length-8,by omega⟩;have hE:zdN l=if (zcK l ⟨n,none⟩).1=zf5 (l.take n) then some (l.take n) else none:=by unfold zdN;rw[zM1 hb,show l.length-8=n by omega]
 have hl8:(l.take n).length=n:=by rw[List.length_take];omega
 have hnl:n=l.length-8:=by omega
 have HN:=za (λX (hX:X=(Obj.cells #[.slice a l.length c,xI (n:Nat),.nilIface] 108 (0,0)))=>(zf7 S w.heap.size (.slice a l.length c) g l ⟨n,none⟩ (w.alloc X).drew ((hX▸RL.new HG.o HS.o Hy.o hg hb2 n (by omega):RL S (w.alloc X) w.heap.size (.slice a l.length c) g l ⟨n,none⟩).below (zo (zWQ _ _)))));have HSm:=za (λW (hW:W.heap[g]?=w.heap[g]?)=>zmQ (l.take n) (.slice a n c) g W ((Hy.o.of hW).take (by omega)));obtain⟨sm,hsm⟩:∃sm,sm=zf5 (l.take n):=⟨_,rfl⟩;rcases hN:zcK l ⟨n,none⟩ with ⟨X,t⟩;rw[hN] at HN hE;rw[<- hsm] at HSm hE;simp only at HN hE;have HE:=za hE;have Hl8:=za hl8;have Hn:=za hn;have hw1:IntKind.i64.wrap ((l.length:Int)-8)=(n:Int):=by rw[IntKind.wrap_i64];omega
 have hw2:(l.length:Int)-8=(n:Int):=by omega
 have hnc:n<=c:=by omega
 clear hE hl8 hn hN hsm hb hnl;go_enter func31,ntmps31;go_upto_region 5 with fail
 go_region_held3 (λw'=>w'.cell? (xD 10 0)=some (.iface 290 (.pointer (some (S 10)))))
  (repeat (first|with_reducible exact hi|with_reducible exact i1|with_reducible refine zg ?_|with_reducible refine zj _ ?_))
  (first
    | (go_at_call 58;revert H1;intro H1;refine (HSm.o w1 HB1.o).mono ?_;rintro e w2 ⟨rfl,rfl⟩)
    | (go_at_call 69;refine (HN.o _ rfl).mono ?_;rintro e w1 ⟨rfl,h1,h2⟩;have H1:=za h1;have HB1:=za ((h2.block g (by simp;omega) (by omega)).trans (zWP _ _ _ hg));have HB2:=za ((((Fr.refl (·=w.heap.size) w).alloc _).trans h2.undrew).below (B:=w.heap.size) (zMK _) (λk e=>Nat.le_of_eq e.symm));have i1:=zd HB2.o hi (zM9 (show 10<21 by decide) h21);clear h1 h2))
 by_cases hxs:X=sm
 . have HO:Hid (zdN l=some (l.take n)):=by unfold Hid;rw[HE.o,zM2 hxs]
   subst hxs;go_wp2_with fail;exact zWR (v:=.tuple #[.slice a n c,.nilIface]) (by simp[results,results31,go_sem]) rfl ⟨HB2.o,by rw[HO.o];exact⟨by rw[Hl8.o],by rw[show l.length-8=n by have:=Hn.o;omega],by rw[Hl8.o];omega⟩⟩
 have HO:Hid (zdN l=none):=by unfold Hid;rw[HE.o,zM1 hxs]
 have hxs':(X != sm)=true:=by simpa using hxs
 go_wp2_with (go_at_call 42;refine (zfc S 10 _ _).mono ?_;rintro e w3 ⟨rfl,hB⟩;have HB:=za (HB2.o.trans (hB.mono HB2.o.size));clear hB);exact zWR (v:=.tuple #[.slice none 0 0,zcE S n]) (by simp[results,results31,go_sem,zcE,sen]) rfl ⟨HB.o,by rw[HO.o];exact⟨n,rfl⟩⟩
end
end Go.Proofs.YtenadialhccdiaaGreatDoor
