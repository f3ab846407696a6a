/- Part 27 of the proof: CmpG LnkA LnkB LnkC. -/
import Derived.Test.YtbicmofihhjgbaaGreatDoorK25
set_option maxRecDepth 100000
set_option maxHeartbeats 8000000
namespace Go.Proofs.YtbicmofihhjgbaaGreatDoor
open Go.Proofs.Tryz
open Go.RowKit
section
variable {s:Cd×List Lt} {B N base cb kb qb wb z:Nat} {c:Sc} {ev nv:Value} {W W':World}
attribute [local go_sem ↓] Go.wp_at_zero Go.wp_at_succ
def zlS (N B wb kb qb cb base:Nat)(c:Sc)(ev nv:Value)(bod:Sc->Nat->Cd->Cd)(fu:Nat)(Pt:Tm->Nat×Nat->Prop):Prop :=
 ∀t k,Pt t k->t.k=4->∀(s:Cd×List Lt) lv W v,WL N B wb kb qb cb base c ev nv lv s.1 s.2 W->TT W N t v->zbt W->BdW (zal bod c base fu s t k) ->
  xK 198 #[xP wb,xP qb,v,ckV k] W (λe w'=>e=.returned (.tuple #[])/\(∃lv',WL N B wb kb qb cb base c ev nv lv' (zeb bod c base fu s.1 t k) s.2 w')/\FT (CT kb qb) W w')
structure VlI (N B wb kb qb cb base:Nat) (c:Sc) (ev nv:Value) (z:Nat) (s:Cd×List Lt) (W:World):Prop where
 wl:∃lv,WL N B wb kb qb cb base c ev nv lv s.1 s.2 W
 ops:zbt W
 x1:W.heap[z]?=some (.cells #[xP wb] 193 (0,0))
 x2:W.heap[z+1]?=some (.cells #[xP qb] 111 (0,0))
 n1:¬CT kb qb W z
 n2:¬CT kb qb W (z+1)
theorem VlI.step {s':Cd×List Lt}(hN:21<=N)(h:VlI N B wb kb qb cb base c ev nv z s W)(hw:∃lv,WL N B wb kb qb cb base c ev nv lv s'.1 s'.2 W')(hf:FT (CT kb qb) W W'):VlI N B wb kb qb cb base c ev nv z s' W':=by obtain⟨lv,hl⟩:=h.wl;exact⟨hw,h.ops.old (hf.old hl.wi.qi.hN (λk e=>(hl.lt k e).1)) hN,(hf.fr.block _ (ze h.x1) h.n1).trans h.x1,(hf.fr.block _ (ze h.x2) h.n2).trans h.x2,hf.not (ze h.x1) h.n1,hf.not (ze h.x2) h.n2⟩
theorem VlI.keep (hN:21<=N)(h:VlI N B wb kb qb cb base c ev nv z s W)(hB:xB W W'):VlI N B wb kb qb cb base c ev nv z s W'/\∀k,CT kb qb W' k->CT kb qb W k:=by obtain⟨lv,hl⟩:=h.wl;exact⟨h.step hN ⟨lv,hl.keep hB⟩ (FT.below hB (hl.tk hB)),hl.tk hB⟩
theorem zrn:zH 164:=λ_ _=>by kernel_rfl
theorem zrr:zH 165:=λ_ _=>by kernel_rfl
theorem zq5 (t:Tm)(v:Value)(k:Nat×Nat)(w:World)(hT:TT w N t v) :
 xK 164 #[v,ckV k] w (λe w'=>e=.returned (.bool (zak t))/\xB w w'):=by
 obtain⟨b,args,vs,rfl,hb,hblk,_⟩:=hT.ptr;obtain⟨m0,m1,m2,m3,m4,m5,mf,mz⟩:=zt hblk;clear hT hblk m1 m2 m3 m4 m5;unfold ckV;by_cases h9:t.k=9
 . have HG:Hid (zak t=false):=by unfold Hid zak;simp[h9]
   have m0':w.cell? (xD b 0)=some (xI 9):=(by rw[m0,h9];rfl);clear h9 m0;go_enter func164,ntmps164;go_wp2_with fail;go_ret;rw[HG.o];exact⟨rfl,zq w _⟩
 . have HG:Hid (zak t=true):=by unfold Hid zak;simp[h9]
   have h9':¬(t.k:Int)=9:=(by omega);clear h9;go_enter func164,ntmps164;go_wp2_with fail;go_ret;rw[HG.o];exact⟨by simp[h9'],zq w _⟩
theorem zq1 (bod:Sc->Nat->Cd->Cd)(fu:Nat)(hN21:21<=N)(hbase:base<=100000)(t:Tm)(hWf:Wf t)(v:Value)(k:Nat×Nat)(s:Cd×List Lt)(w:World)(hT:TT w N t v)(h:VlI N B wb kb qb cb base c ev nv z s w)(hbd:BdW (zal bod c base fu s t k))(hbs:BdW s)
 (hcal:t.k=4->∀lv W,WL N B wb kb qb cb base c ev nv lv s.1 s.2 W->TT W N t v->zbt W->xK 198 #[xP wb,xP qb,v,ckV k] W (λe w'=>e=.returned (.tuple #[])/\(∃lv',WL N B wb kb qb cb base c ev nv lv' (zeb bod c base fu s.1 t k) s.2 w')/\FT (CT kb qb) W w')) :
 xK 165 #[v,ckV k,xP z,xP (z+1)] w (λe w'=>e=.returned (.tuple #[])/\VlI N B wb kb qb cb base c ev nv z (zal bod c base fu s t k) w'/\FT (CT kb qb) w w'):=by
 have HV:=(λo=>(h.keep hN21 (zq w o)).1);obtain⟨lv,hl⟩:=h.wl;have HF:=(λo=>zlB bod fu hN21 hbase t hWf v k s (w.alloc o) (hT.old (zeW hl.wi.qi.hN o)) (hl.keep (zq w o)) (h.keep hN21 (zq w o)).1.ops hbd hbs (λh4 W h1 h2 h3=>hcal h4 lv W h1 h2 h3));have HT0:=(λo=>FT.below (zq w o) (hl.tk (zq w o)));obtain⟨x0,xf,xz⟩:=zu h.x1;obtain⟨y0,yf,yz⟩:=zu h.x2;obtain⟨b,args,vs,rfl,hb,hblk,_⟩:=hT.ptr;obtain⟨Sf,hSf⟩:∃Sf,zal bod c base fu s t k=Sf:=⟨_,rfl⟩;rw[hSf] at HF ⊢;unfold ckV at HF ⊢;clear h hl hT hblk hcal hSf hbd hbs hWf;go_enter func165,ntmps165;go_wp2_with (go_at_call 166;refine (HF _).mono ?_;rintro e w2 ⟨rfl,hL2,hF2⟩;have HL2:=hL2;have HF2:=hF2;clear hL2 hF2);first|go_end0|refine bodyPost_ret (results_none rfl _ _ _) rfl ?_
 exact⟨rfl,(HV _).step hN21 HL2 HF2,(HT0 _).trans HF2⟩
theorem zpd (bod:Sc->Nat->Cd->Cd)(fu:Nat)(Pt:Tm->Nat×Nat->Prop)(hN21:21<=N)(hbase:base<=100000)
 (hPw:∀t k,Pt t k->Wf t) (hPs:∀t k i u,Pt t k->zak t=true->t.ts[i]?=some u->Pt u (c.operand t i k)) (hbod:∀d b K,BdK (bod d b K)->BdK K) (hC:zlS N B wb kb qb cb base c ev nv bod fu Pt) :
 znz N c ev nv cb (CT kb qb) 164 #[] 165 #[xP z,xP (z+1)] Pt (λt _=>zak t) (λs _ _=>s) (zal bod c base fu) (VlI N B wb kb qb cb base c ev nv z) BdW where
 entE:=zrn
 entL:=zrr
 hT:=λs w k hI e=>by obtain⟨lv,hl⟩:=hI.wl;exact hl.lt k e
 keep:=λs w w' h hB=>h.keep hN21 hB
 sub:=hPs
 bE:=λ_ _ _ h=>h
 bL:=λs t k h=>zi7 hbod s t k h
 callE:=λt v k s w hT hN hS hCk hI hP _=>by refine (zq5 t v k w hT).mono ?_;rintro e w' ⟨h1,h2⟩;obtain⟨lv,hl⟩:=hI.wl;exact⟨h1,(hI.keep hN21 h2).1,FT.below h2 (hl.tk h2)⟩
 callL:=λt v k s w hT hN hS hCk hI hP hb=>zq1 bod fu hN21 hbase t (hPw t k hP) v k s w hT hI hb (zi7 hbod s t k hb) (λh4 lv W h1 h2 h3=>hC t k hP h4 s lv W v h1 h2 h3 hb)
def zbk (bod:Sc->Nat->Cd->Cd)(c:Sc)(base fu:Nat)(s:Cd×List Lt)(t:Tm)(k:Nat×Nat):Cd×List Lt:=zcs c (λt _=>zak t) (λs _ _=>s) (zal bod c base fu) t k s
theorem zir {lv:Value}(bod:Sc->Nat->Cd->Cd)(fu:Nat)(Pt:Tm->Nat×Nat->Prop)(hN21:21<=N)(hbase:base<=100000)
 (hPw:∀t k,Pt t k->Wf t) (hPs:∀t k i u,Pt t k->zak t=true->t.ts[i]?=some u->Pt u (c.operand t i k)) (hbod:∀d b K,BdK (bod d b K)->BdK K) (hC:zlS N B wb kb qb cb base c ev nv bod fu Pt)
 (t:Tm) (v:Value) (k:Nat×Nat) (s:Cd×List Lt) (w:World) (HT:TT w N t v) (h:WL N B wb kb qb cb base c ev nv lv s.1 s.2 w) (hop:zbt w) (hP:Pt t k) (hbd:BdW (zbk bod c base fu s t k)) :
 xK 103 #[xP wb,xP qb,v,ckV k] w (λe w'=>e=.returned (.tuple #[])/\(∃lv',WL N B wb kb qb cb base c ev nv lv' (zbk bod c base fu s t k).1 (zbk bod c base fu s t k).2 w')/\FT (CT kb qb) w w'):=by
 obtain⟨xe,cpe,nb,rfl,rfl,hnb⟩:=h.wi.qi.sc.shape;obtain⟨b,args,vs,rfl,hb,hblk,_⟩:=HT.ptr;have hmf:∀(fn:Go.Fn) (first cap:Array Value) (w:World),(Instr.makeFunc fn first cap).run prog w=.ok (.func fn first cap) w:=λ_ _ _ _=>rfl;have H:=h;have Hop:=hop;have HV:=zpd (z:=w.heap.size) bod fu Pt hN21 hbase hPw hPs hbod hC;have HP:=hP;have Hbd:=hbd;have hNw:=h.wi.qi.hN;obtain⟨Sf,HSf⟩:∃Sf,zbk bod c base fu s t k=Sf:=⟨_,rfl⟩;rw[HSf];clear h hop hblk hC hPw hPs hbod hP hbd;unfold ckV;go_enter func103,ntmps103;go_upto_region 3 with fail;refine zn (λW=>VlI N B wb kb qb cb base c (xE xe c cpe) (xP nb) w.heap.size s W/\xH W (w.heap.size+1+1) #[xI (k.1:Nat),xI (k.2:Nat)] 198/\¬CT kb qb W (w.heap.size+1+1)/\FT (CT kb qb) w W) ⟨⟨⟨lv,H.keep (zcz w _ _ _)⟩,Hop.old (zot hNw _ _ _) hN21,(al3 w _ _ _).1,(al3 w _ _ _).2.1,λe=>by have:=(H.lt _ (H.tk (zcz w _ _ _) _ e)).2.1;omega,λe=>by have:=(H.lt _ (H.tk (zcz w _ _ _) _ e)).2.1;omega⟩,(al3 w _ _ _).2.2,λe=>by have:=(H.lt _ (H.tk (zcz w _ _ _) _ e)).2.1;omega,FT.below (zcz w _ _ _) (H.tk (zcz w _ _ _))⟩ ?_;rintro W ⟨hV,hX,hnX,HFW⟩;obtain⟨y0,yf,yz⟩:=zu hV.x2;obtain⟨z0,z1,zf,zz⟩:=zp hX;obtain⟨lv1,hl⟩:=hV.wl;obtain⟨m0,m1,m2,m3,m4,mf,mz⟩:=zcf hl.wi.qi.blk;have hO:Old N w W:=HFW.old hNw (λk e=>(H.lt k e).1);have HW:=zjG HV t k (xP b) s W.drew ((HT.old hO).old (λ_ _=>rfl)) hl.wi.qi.hN (hl.wi.qi.sc.old (λ_ _=>rfl)) (hl.wi.qi.ck.of' (w':=W.drew) rfl) (hV.keep hN21 (zo (Below.refl _ _))).1 HP Hbd;unfold ckV at HW;have n2:=hV.n2;clear hV hX hl hO m3 m4 HV
 go_region_held3 (λw'=>w'.cell? (xD (w.heap.size+1) 0)=some (xP qb)/\w'.cell? (xD (w.heap.size+1+1) 0)=some (xI (k.1:Nat))/\w'.cell? (xD (w.heap.size+1+1) 1)=some (xI (k.2:Nat))/\w'.cell? (xD qb 0)=some (xE xe c cpe)/\w'.cell? (xD qb 1)=some (xP nb)/\w'.cell? (xD qb 2)=some (.map (some cb)))
  (first|(with_reducible (refine⟨?_,?_,?_,?_,?_,?_⟩ <;> repeat (first|assumption|refine zg ?_|refine FT.cell HF2 ?_ (by assumption))))|go_keep)
  (first
    | (go_at_call 133;refine HW.mono ?_;rintro e w2 ⟨rfl,hV2,hF2⟩;obtain⟨lv9,hl9⟩:=hV2.wl;obtain⟨r0,r1,r2,r3,r4,rf,rz⟩:=zcf hl9.wi.qi.blk;have HV2:=hV2;have HF2:(FT (CT kb qb) W w2):=⟨hF2.fr.undrew,hF2.tk⟩;clear hV2 hF2 hl9))
 all_goals go_wp2_with fail
 all_goals first|go_end0|refine bodyPost_ret (results_none rfl _ _ _) rfl ?_
 all_goals rw[<- HSf]
 all_goals exact⟨rfl,HV2.wl,HFW.trans HF2⟩
end
section
variable {L:List (Nat×Nat)} {b:Nat} {w w':World}
attribute [local go_sem ↓] Go.wp_at_zero Go.wp_at_succ
def za8 (w:World)(b:Nat)(L:List (Nat×Nat)):Prop :=
 ∃l:List ((Int×Int)×Value),zbn w b pr l/\(∀p:Nat×Nat,(zaT (clk p) l).isSome=true↔p∈L)/\(∀k v,zaT k l=some v->v=.agg #[])
theorem za8.of' (h:za8 w b L)(hb:w'.heap[b]?=w.heap[b]?):za8 w' b L:=by obtain⟨l,h1,h2,h3⟩:=h;exact⟨l,h1.of hb,h2,h3⟩
theorem za8.lt (h:za8 w b L):b<w.heap.size:=by obtain⟨l,h1,_⟩:=h;exact h1.lt
theorem za8.keep (h:za8 w b L)(hB:xB w w'):za8 w' b L:=h.of' (hB.block _ h.lt)
theorem zpI {p q:Nat×Nat}(h:clk p=clk q):p=q:=by simp only[clk,Prod.mk.injEq] at h;exact Prod.ext (by omega) (by omega)
theorem zqM (h:za8 w b L)(p:Nat×Nat) :
 ∃w',(Instr.mapUpdate 239 (.map (some b)) (.agg #[xI (p.1:Nat),xI (p.2:Nat)]) (.agg #[])).run prog w=.ok () w'/\za8 w' b (L++[p])/\Fr (·=b) w w':=by
 obtain⟨l,h1,h2,h3⟩:=h;obtain⟨w',r,m,f⟩:=zgh Tryz.keyLink underlying239 h1 (clk p) (.agg #[]);refine⟨w',r,⟨_,m,λq=>?_,λk v hk=>?_⟩,f⟩
 . rw[zgD,List.mem_append];by_cases e:clk p=clk q
   . rw[if_pos e];simp[zpI e]
   . rw[if_neg e,h2 q];refine⟨Or.inl,λh=>h.resolve_right (λh=>e ?_)⟩;rw[List.mem_singleton.1 h]
 . rw[zgD] at hk;split at hk
   . exact (Option.some.inj hk).symm
   . exact h3 k v hk
theorem Tryz.zeroUnit (w:World):(zeroValue 281).run prog w=.ok (.agg #[]) w:=by kernel_rfl
theorem zqm (h:za8 w b L)(p:Nat×Nat) :
 (Instr.lookup 239 (.map (some b)) (.agg #[xI (p.1:Nat),xI (p.2:Nat)]) true).run prog w=.ok (.tuple #[.agg #[],.bool (decide (p∈L))]) w:=by
 obtain⟨l,h1,h2,h3⟩:=h;refine (zgI Tryz.keyLink underlying239 Tryz.zeroUnit h1 (clk p) true).trans ?_;rw[if_pos rfl];have e1:(zaT (clk p) l).getD (.agg #[])=.agg #[]:=by
  cases hl:zaT (clk p) l with
  | none=>rfl
  | some v=>exact h3 _ _ hl
 have e2:(zaT (clk p) l).isSome=decide (p∈L):=by rw[Bool.eq_iff_iff,h2 p];simp
 rw[e1,e2]
theorem zhH (i j:Nat)(w:World)(h:za8 w b L) :
 xK 179 #[.map (some b),xI (i:Int),xI (j:Int)] w (λe w'=>e=.returned (.tuple #[])/\za8 w' b (L++[(i,j)])/\Fr (·=b) w w'):=by
 obtain⟨w1,hr,HL,HF⟩:=zqM h (i,j);simp only at hr;go_enter func179,ntmps179;go_wp2_with fail;first|go_end0|refine bodyPost_ret (results_none rfl _ _ _) rfl ?_
 exact⟨rfl,HL,HF⟩
theorem ze9 (i j:Nat)(w:World)(h:za8 w b L) :
 xK 138 #[.map (some b),xI (i:Int),xI (j:Int)] w (λe w'=>e=.returned (.bool (decide ((i,j)∈L)))/\xB w w'):=by
 have hr:=zqm h (i,j);simp only at hr;go_enter func138,ntmps138;go_wp2_with fail;go_ret;exact⟨rfl,zq w _⟩
theorem zj6 (by' fr n m:Nat)(L:List (Nat×Nat)):zcA by' fr n (m+1) L=zcA by' fr n m (if (fr,by')∈L/\(by',n-(m+1))∈L then L++[(fr,n-(m+1))] else L):=rfl
theorem ziu (by' n m:Nat)(L:List (Nat×Nat)):zbJ by' n (m+1) L=zbJ by' n m (zcA by' (n-(m+1)) n n L):=rfl
theorem zj5 (n m:Nat)(L:List (Nat×Nat)):zeD n (m+1) L=zeD n m (zbJ (n-(m+1)) n n L):=rfl
theorem zgi {w1:World}(h:xB w w1):Fr (·=b) w w1:=Fr.of_below h
theorem zk8 (n:Nat)(hn:n<=1000)(w:World)(HL:za8 w b L) :
 xK 137 #[.map (some b),xI (n:Int)] w (λe w'=>e=.returned (.tuple #[])/\za8 w' b (zdT n L)/\Fr (·=b) w w'):=by
 go_enter func137,ntmps137;go_wp2_with fail;go_loopg [8] (n+1) (λj i wr=>∃(k:Nat) (L1:List (Nat×Nat)),k+j=n+1/\k<=n/\i=xI k/\Hid (za8 wr b L1)/\Hid (zdT n L=zeD n (j-1) L1)/\Hid (Fr (·=b) w wr));case atStart=>exact⟨0,L,by omega,Nat.zero_le _,rfl,HL,rfl,Fr.refl _ _⟩
 case round =>
  obtain⟨k,L1,hkj,hk,rfl,HL1,HD1,HF1⟩:=hrel;by_cases hlt:k<n
  . obtain⟨w1,rfl⟩:∃wo,wo=wr:=⟨_,rfl⟩;obtain⟨g1,rfl⟩:∃g,g=gk:=⟨_,rfl⟩;go_wp2_with fail;go_loopg [12] (n+1) (λj i wr=>∃(k2:Nat) (L2:List (Nat×Nat)),k2+j=n+1/\k2<=n/\i=xI k2/\Hid (za8 wr b L2)/\Hid (zbJ k n n L1=zbJ k n (j-1) L2)/\Hid (Fr (·=b) w wr));case atStart=>exact⟨0,L1,by omega,Nat.zero_le _,rfl,HL1.o,rfl,HF1.o⟩
    case round =>
     obtain⟨k2,L2,hkj2,hk2,rfl,HL2,HD2,HF2⟩:=hrel;by_cases hlt2:k2<n
     . obtain⟨w2,rfl⟩:∃wo,wo=wr:=⟨_,rfl⟩;obtain⟨g2,rfl⟩:∃g,g=gk:=⟨_,rfl⟩;go_wp2_with fail;go_loopg [16] (n+1) (λj i wr=>∃(k3:Nat) (L3:List (Nat×Nat)),k3+j=n+1/\k3<=n/\i=xI k3/\Hid (za8 wr b L3)/\Hid (zcA k k2 n n L2=zcA k k2 n (j-1) L3)/\Hid (Fr (·=b) w wr));case atStart=>exact⟨0,L2,by omega,Nat.zero_le _,rfl,HL2.o,rfl,HF2.o⟩
       case round =>
        obtain⟨k3,L3,hkj3,hk3,rfl,HL3,HD3,HF3⟩:=hrel;by_cases hlt3:k3<n
        . obtain⟨m,rfl⟩:∃m,gk=m+1+1:=⟨gk-1-1,by omega⟩;have hE:=HD3.o;rw[show m+1+1-1=m+1 from rfl,zj6,show n-(m+1)=k3 by omega] at hE;have HE:=za hE;have HH:=za (ze9 k2 k wr HL3.o);by_cases h1:(k2,k)∈L3
          . rw[decide_eq_true h1] at HH;by_cases h2:(k,k3)∈L3
            . rw[if_pos ⟨h1,h2⟩] at HE;have H2:=za (λW (hB:xB wr W)=>ze9 k k3 W (HL3.o.keep hB));rw[decide_eq_true h2] at H2
              go_wp2_with (first
               | (go_at_call 179;refine HA.o.mono ?_;rintro e w5 ⟨rfl,HL5,HF5⟩)
               | (go_at_call 138;refine (H2.o _ HB3).mono ?_;rintro e w4 ⟨rfl,hB4⟩;have HB4:=za (HB3.trans (hB4.mono HB3.size));have HA:=za (zhH k2 k3 w4 (HL3.o.keep HB4.o)))
               | (go_at_call 138;refine HH.o.mono ?_;rintro e w3 ⟨rfl,HB3⟩))
              go_roundg (m+1);case measure=>omega
              exact⟨k3+1,L3++[(k2,k3)],by omega,by omega,by go_num,HL5,HE.o,(HF3.o.trans (zgi HB4.o)).trans HF5⟩
            . rw[if_neg (λe=>h2 e.2)] at HE;have H2:=za (λW (hB:xB wr W)=>ze9 k k3 W (HL3.o.keep hB));rw[decide_eq_false h2] at H2
              go_wp2_with (first
               | (go_at_call 138;refine (H2.o _ HB3).mono ?_;rintro e w4 ⟨rfl,hB4⟩;have HB4:=za (HB3.trans (hB4.mono HB3.size)))
               | (go_at_call 138;refine HH.o.mono ?_;rintro e w3 ⟨rfl,HB3⟩))
              go_roundg (m+1);case measure=>omega
              exact⟨k3+1,L3,by omega,by omega,by go_num,HL3.o.keep HB4.o,HE.o,HF3.o.trans (zgi HB4.o)⟩
          . rw[if_neg (λe=>h1 e.1)] at HE;rw[decide_eq_false h1] at HH;go_wp2_with (go_at_call 138;refine HH.o.mono ?_;rintro e w3 ⟨rfl,HB3⟩);go_roundg (m+1);case measure=>omega
            exact⟨k3+1,L3,by omega,by omega,by go_num,HL3.o.keep HB3,HE.o,HF3.o.trans (zgi HB3)⟩
        . have:k3=n:=by omega
          subst this;have:gk=1:=by omega
          subst this;have HE:Hid (zcA k k2 k3 k3 L2=L3):=HD3.o;go_wp2_with fail;go_roundg (g2-1);case measure=>omega
          refine⟨k2+1,L3,by omega,by omega,by go_num,HL3.o,?_,HF3.o⟩;have a:=HD2.o;rw[show g2-1=(g2-1-1)+1 by omega,ziu,show k3-(g2-1-1+1)=k2 by omega,HE.o] at a;exact a
     . have:k2=n:=by omega
       subst this;have:gk=1:=by omega
       subst this;have HE:Hid (zbJ k k2 k2 L1=L2):=HD2.o;go_wp2_with fail;go_roundg (g1-1);case measure=>omega
       refine⟨k+1,L2,by omega,by omega,by go_num,HL2.o,?_,HF2.o⟩;have a:=HD1.o;rw[show g1-1=(g1-1-1)+1 by omega,zj5,show k2-(g1-1-1+1)=k by omega,HE.o] at a;exact a
  . have:k=n:=by omega
    subst this;have:gk=1:=by omega
    subst this;have HE:Hid (zdT k L=L1):=HD1.o;go_wp2_with fail;first|go_end0|refine bodyPost_ret (results_none rfl _ _ _) rfl ?_
    exact⟨rfl,by rw[HE.o];exact HL1.o,HF1.o⟩
end
section
variable {L:List (Nat×Nat)} {N hb i ib mb zb:Nat} {c:Sc} {ev nv:Value} {w w':World}
attribute [local go_sem ↓] Go.wp_at_zero Go.wp_at_succ
structure LkI (N:Nat) (c:Sc) (ev nv:Value) (i mb hb ib zb:Nat) (L:List (Nat×Nat)) (w:World):Prop where
 lk:za8 w mb L
 sc:ScV w N c ev nv
 x1:w.heap[hb]?=some (.cells #[.map (some mb)] 239 (0,0))
 x2:w.heap[ib]?=some (.cells #[xI (i:Int)] 3 (0,0))
 x3:w.heap[zb]?=some (.cells #[ev,nv] 114 (0,0))
 d1:¬hb=mb
 d2:¬ib=mb
 d3:¬zb=mb
 l:N<=mb
 hN:N<=w.heap.size
theorem LkI.keep (h:LkI N c ev nv i mb hb ib zb L w)(hB:xB w w'):LkI N c ev nv i mb hb ib zb L w' :=
 ⟨h.lk.keep hB,h.sc.old (zm hB h.hN),(hB.block _ (ze h.x1)).trans h.x1,(hB.block _ (ze h.x2)).trans h.x2,(hB.block _ (ze h.x3)).trans h.x3,h.d1,h.d2,h.d3,h.l,Nat.le_trans h.hN hB.size⟩
theorem LkI.put {L':List (Nat×Nat)}(h:LkI N c ev nv i mb hb ib zb L w)(hl:za8 w' mb L')(hf:Fr (·=mb) w w'):LkI N c ev nv i mb hb ib zb L' w' :=
 ⟨hl,h.sc.old (hf.old h.hN (λ_ e=>e▸h.l)),(hf.block _ (ze h.x1) h.d1).trans h.x1,(hf.block _ (ze h.x2) h.d2).trans h.x2,(hf.block _ (ze h.x3) h.d3).trans h.x3,h.d1,h.d2,h.d3,h.l,Nat.le_trans h.hN hf.size⟩
theorem zgG {m:Nat}{W:World}{b:Nat}{v:Value}(h:Fr (·=m) w W)(hc:w.cell? (xD b i)=some v)(h1:¬b=m):W.cell? (xD b i)=some v:=by
 have hlt:b<w.heap.size:=by
  rcases Nat.lt_or_ge b w.heap.size with h|h
  . exact h
  . simp[World.cell?,Array.getElem?_eq_none h] at hc
 exact (World.cell?_of_block (w:=w) (h.block b hlt h1)).trans hc
theorem zqB:zH 180:=λ_ _=>by kernel_rfl
theorem zn2 (N:Nat)(c:Sc)(ev nv:Value)(i mb hb ib zb:Nat)(hmb:N<=mb) :
 Vis N (·=mb) 180 #[xP hb,xP ib,xP zb] (λ_ _=>True) zak (λL t=>L++zcO c i t) (LkI N c ev nv i mb hb ib zb) where
 enters:=zqB
 hT:=λk e=>e▸hmb
 keep:=λs w w' h hB=>h.keep hB
 sub:=λ_ _ _ _ _ _=>trivial
 call:=by
  intro t v L w hT hN HI _;obtain⟨xe,cpe,nb,rfl,rfl,hnb⟩:=HI.sc.shape;have HNv:=za (zf2 w hT);obtain⟨b,args,vs,rfl,hb',hblk,_⟩:=hT.ptr;obtain⟨m0,m1,m2,m3,m4,m5,mf,mz⟩:=zt hblk;obtain⟨a0,af,az⟩:=zu HI.x1;obtain⟨i0,if',iz⟩:=zu HI.x2;obtain⟨s0,s1,sf,sz⟩:=zp HI.x3;have d1:=HI.d1;have d2:=HI.d2;have d3:=HI.d3;have hbm:¬b=mb:=by omega
  have HIx:=za (zaz t.s (t.nm:Int) w.drew (HI.sc.old (λ_ _=>rfl)) hN)
  show Calls prog _ #[xP b,xP hb,xP ib,xP zb] w _;cases hnv:zaJ t.k with
  | true =>
    have h9:¬t.k=9:=(by intro e;rw[e] at hnv;cases hnv);have HT:Hid (zcO c i t=[(i,c.idx t.s)]):=(by unfold Hid zcO;rw[if_pos hnv]);have HG:Hid (zak t=true):=(by unfold Hid zak;simp[h9]);rw[hnv] at HNv;have h9':¬(t.k:Int)=9:=(by omega);go_enter func180,ntmps180;go_upto_region 2 with (go_at_call 124;refine HNv.o.mono ?_;rintro e w' ⟨rfl,rfl⟩)
    go_region_held3 (λw'=>w'.cell? (xD hb 0)=some (.map (some mb))/\w'.cell? (xD ib 0)=some (xI (i:Int))/\w'.cell? (xD zb 0)=some (xE xe c cpe)/\w'.cell? (xD zb 1)=some (xP nb)/\w'.cell? (xD b 2)=some (.string t.s)/\w'.cell? (xD b 3)=some (xI t.nm))
     (first|(with_reducible (refine⟨?_,?_,?_,?_,?_,?_⟩ <;> repeat (first|assumption|refine zg ?_|refine zgG HF2 ?_ (by omega)|refine zd HB1.o ?_ (by omega))))|go_keep)
     (first
       | (go_at_call 179;refine HA.o.mono ?_;rintro e w2 ⟨rfl,HL2,HF2⟩;have r0:=zgG HF2 (zd HB1.o m0 mz) hbm)
       | (go_at_call 105;refine HIx.o.mono ?_;rintro e w1 ⟨rfl,hB1⟩;have HB1:=za (zw hB1);have HA:=za (zhH i (c.idx t.s) w1 (HI.lk.keep HB1.o))))
    go_wp2_with fail;go_ret;rw[HT.o,HG.o];exact⟨by simp[h9'],(HI.keep HB1.o).put HL2 HF2,(zgi HB1.o).trans HF2⟩
  | false =>
    have HT:Hid (zcO c i t=[]):=(by unfold Hid zcO;rw[hnv];rfl);rw[hnv] at HNv;by_cases h9:t.k=9
    . have HG:Hid (zak t=false):=(by unfold Hid zak;simp[h9]);have m0':w.cell? (xD b 0)=some (xI 9):=(by rw[m0,h9];rfl);go_enter func180,ntmps180;go_wp2_with (go_at_call 124;refine HNv.o.mono ?_;rintro e w' ⟨rfl,rfl⟩);go_ret;rw[HT.o,HG.o,List.append_nil];exact⟨rfl,HI,Fr.refl _ _⟩
    . have HG:Hid (zak t=true):=(by unfold Hid zak;simp[h9]);have h9':¬(t.k:Int)=9:=(by omega);go_enter func180,ntmps180;go_wp2_with (go_at_call 124;refine HNv.o.mono ?_;rintro e w' ⟨rfl,rfl⟩);go_ret;rw[HT.o,HG.o,List.append_nil];exact⟨by simp[h9'],HI,Fr.refl _ _⟩
theorem zib {α β:Type}(f:α->List β):∀(l:List α) (L:List β),l.foldl (λL t=>L++f t) L=L++l.flatMap f:=by
 intro l;induction l with
 | nil=>intro L;simp
 | cons a l ih=>intro L;rw[List.foldl_cons,ih,List.flatMap_cons,List.append_assoc]
end
section
variable {L:List (Nat×Nat)} {N cb hb mb zb:Nat} {c:Sc} {ev nv:Value} {w w':World}
attribute [local go_sem ↓] Go.wp_at_zero Go.wp_at_succ
structure LkO (N:Nat) (c:Sc) (ev nv:Value) (mb hb zb cb:Nat) (L:List (Nat×Nat)) (w:World):Prop where
 lk:za8 w mb L
 sc:ScV w N c ev nv
 ck:za7 w c cb
 x1:w.heap[hb]?=some (.cells #[.map (some mb)] 239 (0,0))
 x3:w.heap[zb]?=some (.cells #[ev,nv] 114 (0,0))
 d1:¬hb=mb
 d2:¬cb=mb
 d3:¬zb=mb
 l:N<=mb
 hN:N<=w.heap.size
theorem LkO.keep (h:LkO N c ev nv mb hb zb cb L w)(hB:xB w w'):LkO N c ev nv mb hb zb cb L w' :=
 ⟨h.lk.keep hB,h.sc.old (zm hB h.hN),h.ck.keep hB,(hB.block _ (ze h.x1)).trans h.x1,(hB.block _ (ze h.x3)).trans h.x3,h.d1,h.d2,h.d3,h.l,Nat.le_trans h.hN hB.size⟩
theorem LkO.put {L':List (Nat×Nat)}(h:LkO N c ev nv mb hb zb cb L w)(hl:za8 w' mb L')(hf:Fr (·=mb) w w'):LkO N c ev nv mb hb zb cb L' w' :=
 ⟨hl,h.sc.old (hf.old h.hN (λ_ e=>e▸h.l)),h.ck.of' (hf.block _ h.ck.lt h.d2),(hf.block _ (ze h.x1) h.d1).trans h.x1,(hf.block _ (ze h.x3) h.d3).trans h.x3,h.d1,h.d2,h.d3,h.l,Nat.le_trans h.hN hf.size⟩
theorem LkO.on (h:LkO N c ev nv mb hb zb cb L w){i ib:Nat}(hi:xH w ib #[xI (i:Int)] 3)(d:¬ib=mb):LkI N c ev nv i mb hb ib zb L w :=
 ⟨h.lk,h.sc,h.x1,hi,h.x3,h.d1,d,h.d3,h.l,h.hN⟩
theorem zgy (hc:zbr c)(w:World)(HSc:ScV w N c ev nv)(hN:N<=w.heap.size) :
 xK 136 #[.agg #[ev,nv]] w (λe w'=>∃mb,e=.returned (.map (some mb))/\w.heap.size<=mb/\za8 w' mb c.linksL/\xB w w'):=by
 obtain⟨xe,cpe,nb,rfl,rfl,hnb⟩:=HSc.shape;obtain⟨nb',vs,qv,xs,e9,HNt⟩:=HSc.nd;cases e9;obtain⟨xv,cpv,rfl⟩:=zB HNt.vown;obtain⟨xq,cpq,rfl⟩:=zB HNt.own;have h16:c.nd.eqs.length<=9223372036854775807:=by
  rcases HNt.own.2 with ⟨_,HSc⟩|⟨g,cap,cur,hv,_,_,h3,h4,_⟩
  . omega
  . unfold maxLen at h4;omega
 have hmm:=@run_makeMap prog;have hmf:∀(fn:Go.Fn) (first cap:Array Value) (w:World),(Instr.makeFunc fn first cap).run prog w=.ok (.func fn first cap) w:=λ_ _ _ _=>rfl;have HClo:=za (λo1 o2 o3=>zeC (((w.alloc o1).alloc o2).alloc o3) (HSc.old (zot hN o1 o2 o3)) (by rw[zsb,zsb,zsb];omega));have HEq:=za hc.nd.eqs;go_enter func136,ntmps136;go_upto_region 3 with (go_at_call 99;refine (HClo.o _ _ _).mono ?_;rintro e w1 ⟨cb,rfl,hcbz,hCk,hB1⟩;have HCk:=za hCk;have HB1:=za hB1);rw[zsb,zsb,zsb] at hcbz;refine zn (λW=>LkO N c (xE xe c cpe) (xP nb) (w.heap.size+1) (w.heap.size+1+1) w.heap.size cb [] W/\xB w W) ⟨⟨⟨[],⟨#[],0,(HB1.o.block _ (by simp)).trans (al3 w _ _ _).2.1,rfl⟩,λp=>by simp[zaT],λk v HSc=>by simp[zaT] at HSc⟩,HSc.old (zm (zg2 HB1.o) hN),HCk.o,(HB1.o.block _ (by simp)).trans (al3 w _ _ _).2.2,(HB1.o.block _ (by simp;omega)).trans (al3 w _ _ _).1,by omega,by omega,by omega,by omega,by have:=(zg2 HB1.o).size;omega⟩,zg2 HB1.o⟩ ?_;rintro W ⟨hIW,hBW⟩;obtain⟨m0,m1,m2,m3,m4,m5,mf,mz⟩:=zt ((hBW.block nb (by omega)).trans HNt.blk);obtain⟨s0,s1,sf,sz⟩:=zp hIW.x3;have HIW:=za hIW;have HBW:=za hBW;go_wp2_with fail;go_loopg [20] (c.nd.eqs.length+1) (λj i wr=>∃(k:Nat) (L1:List (Nat×Nat)),k+j=c.nd.eqs.length+1/\k<=c.nd.eqs.length/\i=xI k/\Hid (LkO N c (xE xe c cpe) (xP nb) (w.heap.size+1) (w.heap.size+1+1) w.heap.size cb L1 wr)/\Hid (c.linksL=L1++(c.nd.eqs.drop k).flatMap (λq=>q.ns.flatMap (zaO c q)))/\Hid (xB w wr));case atStart=>exact⟨0,[],by omega,Nat.zero_le _,rfl,HIW.o,rfl,HBW.o⟩
 case round =>
  obtain⟨k,L1,hkj,hk,rfl,HI,HD,HB⟩:=hrel;have hO:=zm HB.o hN;by_cases hlt:k<c.nd.eqs.length
  . obtain⟨wo,rfl⟩:∃wo,wo=wr:=⟨_,rfl⟩;obtain⟨gko,rfl⟩:∃g,g=gk:=⟨_,rfl⟩;obtain⟨q,hq⟩:∃q,c.nd.eqs[k]?=some q:=⟨_,zsc hlt⟩;have hN2:=HNt.old hO;obtain⟨g,lv,rv,rfl,c0,c1,c2,HE⟩:=zcd hN2.own hN2.eqs hq rfl;obtain⟨rb,_,_,rfl,_⟩:=HE.tt.ptr;obtain⟨xl,cl,rfl⟩:=zB HE.own;have hgN:=HNt.elo g rfl;have Hql:=za (HEq.o q (List.mem_of_getElem? hq)).1;have hNo:=HI.o.hN;have h17:q.ns.length<=9223372036854775807:=by
     rcases HE.own.2 with ⟨_,HSc⟩|⟨g,cap,cur,hv,_,_,h3,h4,_⟩
     . omega
     . unfold maxLen at h4;omega
    have HT:Hid (c.linksL=(L1++q.ns.flatMap (zaO c q))++(c.nd.eqs.drop (k+1)).flatMap (λq=>q.ns.flatMap (zaO c q))):=(by obtain⟨h1,h2⟩:=List.getElem?_eq_some_iff.1 hq;unfold Hid;rw[HD.o,List.drop_eq_getElem_cons h1,List.flatMap_cons,h2,List.append_assoc]);have HkX:=za (HI.o.keep (zq wo (.cells #[.slice xl q.ns.length cl,xI q.a,xP rb] 184)));have HwX:=za (zaU HB.o (Nat.le_refl _) (.cells #[.slice xl q.ns.length cl,xI q.a,xP rb] 184));have HqX:=za (zc wo (.cells #[.slice xl q.ns.length cl,xI q.a,xP rb] 184));go_wp2_with fail;go_loopg [27] (q.ns.length+1) (λj i wr=>∃(k2:Nat) (L2:List (Nat×Nat)),k2+j=q.ns.length+1/\k2<=q.ns.length/\i=xI k2/\Hid (LkO N c (xE xe c cpe) (xP nb) (w.heap.size+1) (w.heap.size+1+1) w.heap.size cb L2 wr)/\Hid (L1++q.ns.flatMap (zaO c q)=L2++(q.ns.drop k2).flatMap (zaO c q))/\Hid (xB w wr)/\Hid (xH wr wo.heap.size #[.slice xl q.ns.length cl,xI q.a,xP rb] 184));case atStart=>exact⟨0,L1,by omega,Nat.zero_le _,rfl,HkX.o,rfl,HwX.o,HqX.o⟩
    case round =>
     obtain⟨k2,L2,hkj2,hk2,rfl,HI2,HD2,HB2,HQ2⟩:=hrel;by_cases hlt2:k2<q.ns.length
     . obtain⟨s,hs⟩:∃s,q.ns[k2]?=some s:=⟨_,zsc hlt2⟩;obtain⟨p,hp⟩:∃p,q.ps[k2]?=some p:=⟨_,zsc (by have:=Hql.o;omega)⟩;have hOe:Old N wo wr:=λb hb=>(zm HB2.o hN b hb).trans (zm HB.o hN b hb).symm;have HE2:=HE.old hOe;obtain⟨gl,rfl,c0,c1⟩:=zbe HE2.own hs hp rfl;have hglN:=HE.lo gl rfl;have hNs:=HI2.o.hN;have HT2:Hid (L1++q.ns.flatMap (zaO c q)=(L2++zaO c q s)++(q.ns.drop (k2+1)).flatMap (zaO c q)):=(by obtain⟨h1,h2⟩:=List.getElem?_eq_some_iff.1 hs;unfold Hid;rw[HD2.o,List.drop_eq_getElem_cons h1,List.flatMap_cons,h2,List.append_assoc]);obtain⟨s0,s1,sf,sz⟩:=zp HI2.o.x3;have hmz:=HI2.o.lk.lt;have hqz:=ze HQ2.o;have HIx:=za (zaz s (p:Int) (wr.alloc (.cells #[.string s,xI p] 117)) (HI2.o.keep (zq wr _)).sc (HI2.o.keep (zq wr _)).hN)
       go_upto_region 11 with (first
        | (go_at_call 104;refine (HOf.o _).mono ?_;rintro e w2 ⟨rfl,hB4⟩;have HB4:=za (zE hB4);have HZi:=za ((hB4.block _ (by simp)).trans (zc w1 _)))
        | (go_at_call 105;refine HIx.o.mono ?_;rintro e w1 ⟨rfl,hB3⟩;have HB3:=za (zE hB3);have hz3:=HB3.o.size;have HI3:=za (HI2.o.keep HB3.o);have HOf:=za (λo=>zbC (c.idx s) (w1.alloc o) (HI3.o.keep (zq w1 o)).ck)))
       have hz4:=HB4.o.size;have hlz:=HB2.o.size;refine zn (λW=>LkO N c (xE xe c cpe) (xP nb) (w.heap.size+1) (w.heap.size+1+1) w.heap.size cb L2 W/\xB wr W/\xH W w1.heap.size #[xI (c.idx s:Nat)] 3/\xH W w2.heap.size #[xI ((c.of (c.idx s)).1:Nat),xI ((c.of (c.idx s)).2:Nat)] 198) ⟨(HI3.o.keep HB4.o).keep (zq w2 _),zaU (HB3.o.trans (HB4.o.mono hz3)) (Nat.le_refl _) _,(Below.heap_alloc _ _ _ (by have:=ze HZi.o;omega)).trans HZi.o,zc w2 _⟩ ?_;rintro W ⟨hIW,hBW,HZW,hZk⟩;obtain⟨k0,k1,kf,kz⟩:=zp hZk;obtain⟨i0,if',iz⟩:=zu HZW;obtain⟨a0,af,az⟩:=zu hIW.x1;obtain⟨q0,q1,q2,qf,qz⟩:=zL ((hBW.block _ hqz).trans HQ2.o);have hzW:=hBW.size;have hn1:¬w1.heap.size=w.heap.size+1:=(by omega);have hn2:¬wo.heap.size=w.heap.size+1:=(by have:=HI.o.lk.lt;omega);have hn3:¬w.heap.size+1+1=w.heap.size+1:=(by omega);have HIW:=za hIW;have HBW:=za hBW;have HWk:=za (λ(L3:List (Nat×Nat)) (W3:World) (hI3:LkI N c (xE xe c cpe) (xP nb) (c.idx s) (w.heap.size+1) (w.heap.size+1+1) w1.heap.size w.heap.size L3 W3) (hT3:TT W3 N q.r (xP rb))=>ziV (zn2 N c (xE xe c cpe) (xP nb) (c.idx s) (w.heap.size+1) (w.heap.size+1+1) w1.heap.size w.heap.size hI3.l) q.r (xP rb) L3 W3 hT3 hI3.hN hI3 trivial);by_cases hsg:(c.of (c.idx s)).2=0
       . have hsg':((c.of (c.idx s)).2:Int)=0:=(by omega);have HL:Hid (zaO c q s=(zaV zak q.r).flatMap (zcO c (c.idx s))):=(by unfold Hid zaO;simp only[hsg,if_pos,List.nil_append]);have HW3:=za (HWk.o L2 W (HIW.o.on HZW hn1) (HE2.tt.old (zm HBW.o hNs)));go_wp2_with (go_at_call 169;refine HW3.o.mono ?_;rintro e w5 ⟨rfl,HI5,HF5⟩);go_roundg (gk-1);case measure=>omega
         have hI6:=HI5.lk;rw[zib,<- HL.o] at hI6;exact⟨k2+1,L2++zaO c q s,by omega,by omega,by go_num,HIW.o.put hI6 HF5,HT2.o,zbR (HB2.o.trans (HBW.o.mono hlz)) HF5 (by omega),(HF5.block _ qz hn2).trans ((HBW.o.block _ hqz).trans HQ2.o)⟩
       . have hsg':¬((c.of (c.idx s)).2:Int)=0:=(by omega);have HL:Hid (zaO c q s=[(c.idx s,(c.of (c.idx s)).1)]++(zaV zak q.r).flatMap (zcO c (c.idx s))):=(by unfold Hid zaO;simp only[hsg,if_neg,not_false_eq_true]);have HA:=za (zhH (c.idx s) (c.of (c.idx s)).1 W HIW.o.lk)
         go_wp2_with (first
          | (go_at_call 169;refine (HWk.o _ w4 (HI4.o.on ((HF4.block _ iz hn1).trans HZW) hn1) (HE2.tt.old ((zm HBW.o hNs).trans (HF4.old HIW.o.hN (λ_ e=>e▸HIW.o.l))))).mono ?_;rintro e w5 ⟨rfl,HI5,HF5⟩)
          | (go_at_call 179;refine HA.o.mono ?_;rintro e w4 ⟨rfl,hL4,HF4⟩;have HI4:=za (HIW.o.put hL4 HF4);have q2':=zgG HF4 q2 hn2))
         go_roundg (gk-1);case measure=>omega
         have hI6:=HI5.lk;rw[zib,List.append_assoc,<- HL.o] at hI6;exact⟨k2+1,L2++zaO c q s,by omega,by omega,by go_num,HI4.o.put hI6 HF5,HT2.o,zbR (zbR (HB2.o.trans (HBW.o.mono hlz)) HF4 (by omega)) HF5 (by omega),(HF5.block _ (by have:=HF4.size;omega) hn2).trans ((HF4.block _ qz hn2).trans ((HBW.o.block _ hqz).trans HQ2.o))⟩
     . have ek:k2=q.ns.length:=(by omega);subst ek;rw[List.drop_length,List.flatMap_nil,List.append_nil] at HD2;go_wp2_with fail;go_roundg (gko-1);case measure=>omega
       refine⟨k+1,L2,by omega,by omega,by go_num,HI2.o,?_,HB2.o⟩;rw[<- HD2.o];exact HT.o
  . have ek:k=c.nd.eqs.length:=by omega
    subst ek;rw[List.drop_length,List.flatMap_nil,List.append_nil] at HD;obtain⟨a0,af,az⟩:=zu HI.o.x1;go_wp2_with fail;go_ret;refine⟨_,rfl,by omega,?_,HB.o⟩;rw[HD.o];exact HI.o.lk
end
end Go.Proofs.YtbicmofihhjgbaaGreatDoor
