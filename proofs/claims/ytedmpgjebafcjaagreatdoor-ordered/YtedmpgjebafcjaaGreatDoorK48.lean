/- Part 49 of the proof: UpH UpI RunJ. -/
import Derived.Test.YtedmpgjebafcjaaGreatDoorK19
import Derived.Test.YtedmpgjebafcjaaGreatDoorK47
set_option maxRecDepth 100000
set_option maxHeartbeats 8000000
namespace Go.Proofs.YtedmpgjebafcjaaGreatDoor
section
open Go.RowKit
theorem Tryz.infoIn2:(Tryz.prog.info? 70).map (λi=>(i.zero,i.size,i.bytes))=some (some (.agg #[.int .u8 0,.int .i64 0]),2,16):=by kernel_rfl
theorem zrB {a b:Int}:∀u∈[Value.int .u8 a,.int .i64 b],u.oneCell'=true:=by simp [Value.oneCell']
theorem Fr.rc {rb cb:Nat} {w w1 w2:World} (h:Fr (λk=>k=rb∨cb<=k) w w1) (k:Fr (·=rb) w1 w2):Fr (λk=>k=rb∨cb<=k) w w2:=h.trans' k (λ_ _ e=>Or.inl e)
theorem Fr.rc2 {rb cb:Nat} {w w1 w2:World} (h:Fr (λk=>k=rb∨cb<=k) w w1) (k:Fr (λk=>cb<=k) w1 w2):Fr (λk=>k=rb∨cb<=k) w w2:=h.trans' k (λ_ _ e=>Or.inr e)
theorem zoT {l:List Nat} {ns nc:Nat} {x:Rw'} {op:Nat} {o:Int} {t:Ir} {sh:Nat×Nat×Nat} (hi:zcV l ns nc x.s=((op,o),t)) (hsh:zY[op]?=some sh):zc3 l ns nc x=⟨zbU (decide (0<=x.dp-sh.2.1)) t,x.dp-sh.2.1+sh.2.2,max x.mx (x.dp-sh.2.1+sh.2.2).toNat,x.row++[(op,o)]⟩:=by
 unfold zc3
 simp only [hi,List.getD_eq_getElem?_getD,hsh,Option.getD_some]
theorem zrd (S:Nat->Addr) (rb cb B:Nat) (v:Value) (g:Nat) (l:List Nat) (s:Ir) (bs:List Bool) (o ns:Nat) (cs:List Int) (w:World) (h:RL S w rb v g l s) (hU:UC B cb ⟨bs,o,ns,cs,0,[]⟩ w) (hrc:rb<cb) (hgc:l≠[]->g<cb) (h21:21<=cb) (hns:ns<=1000000) (hnc:cs.length<=1000000) (R:Rw') (hRR:R=zdw l ns cs.length (l.length+2) ⟨s,0,0,[]⟩) :
 Calls Tryz.prog 42 #[.pointer (some ⟨rb,0,none⟩),.pointer (some ⟨cb,0,none⟩)] w (λe w'=>e=.returned (.tuple #[])/\RL S w' rb v g l R.s/\UC B cb ⟨bs,o,ns,cs,R.mx,R.row⟩ w'/\Fr (λk=>k=rb∨cb<=k) w w'):=by
 obtain ⟨i0,hi,hi0,hi1,hi2⟩:=info_parts Tryz.infoIn2
 have hlen:=h.len
 have H:=za h
 have HU:=za hU
 have Hgc:=za hgc
 have HRR:=za hRR.symm
 clear h hU hgc hRR
 go_enter Tryz.func42,Tryz.ntmps42
 go_wp2_with fail
 go_loopg [4] (l.length+2) (λj d wr=>∃(x:Rw'),d=.int .i64 x.dp/\Hid (RwI x/\x.row.length+j=l.length+2/\zjl l x<j/\zdw l ns cs.length j x=R)/\Hid (RL S wr rb v g l x.s)/\Hid (UC B cb ⟨bs,o,ns,cs,x.mx,x.row⟩ wr)/\Hid (Fr (λk=>k=rb∨cb<=k) w wr))
 case atStart=>exact ⟨⟨s,0,0,[]⟩,rfl,za ⟨⟨show (-3:Int)<=0 by decide,Int.le_refl 0,λ_=>Int.le_refl 0,Nat.le_refl 0⟩,by simp,by unfold zjl;split <;> omega,HRR.out⟩,H.out,HU.out,Fr.refl _ _⟩
 case round =>
  obtain ⟨⟨⟨p,er⟩,dp,mx,row⟩,rfl,HX,HR,HC,HF⟩:=hrel
  obtain ⟨hXi,hXr,hXp,hXR⟩:=HX.out
  have d1:=hXi.lo
  have d2:=hXi.hi
  have d3:=hXi.mx
  simp only at d1 d2 d3 hXr hXR hXp
  have hrl:row.length<=1048578:=by omega
  clear HX
  obtain ⟨bv,cv,rv,hI⟩:=HC.out
  obtain ⟨xr,cpr,rfl⟩:=zB hI.rown
  obtain ⟨m0,m1,m2,m3,m4,m5,mf,mz⟩:=zt hI.blk
  obtain ⟨r0,r1,r2,rf,rz⟩:=zL HR.out.blk
  simp only at m4 m5 r1 r2
  obtain ⟨av,avc,hav,_⟩:=HR.out.by'.ex
  subst hav
  have hple:=HR.out.le
  simp only at hple
  have HXi:=za hXi
  have HXr:=za hXr
  have HXp:=za hXp
  have HXR:=za hXR
  clear hXi hXr hXp hXR
  cases er with
  | some q =>
    unfold erV at r2
    have HE:Hid (R=⟨⟨p,some q⟩,dp,mx,row⟩):=by unfold Hid;rw [<- HXR.out];exact zih _ _ _ _ _ (by unfold goW;simp)
    go_wp2_with fail
    go_quiet (fail)
    go_wp2_with fail
    go_end0
    rw [HE.out]
    have hBq:=zaf (Below.refl wr.heap.size wr) nq
    exact ⟨rfl,HR.out.below hBq,HC.out.fr (T:=λ_=>False) (Fr.of_below hBq) (λ_ e=>e.elim),HF.out.drewN nq⟩
  | none =>
    unfold erV at r2
    by_cases hend:¬p<l.length/\¬0<dp
    · obtain ⟨hp,hd⟩:=hend
      have HE:Hid (R=⟨⟨p,none⟩,dp,mx,row⟩):=by unfold Hid;rw [<- HXR.out];exact zih _ _ _ _ _ (by unfold goW;simp;omega)
      go_wp2_with fail
      go_quiet (fail)
      go_wp2_with fail
      go_end0
      rw [HE.out]
      have hBq:=zaf (Below.refl wr.heap.size wr) nq
      exact ⟨rfl,HR.out.below hBq,HC.out.fr (T:=λ_=>False) (Fr.of_below hBq) (λ_ e=>e.elim),HF.out.drewN nq⟩
    · have hgo:goW l ⟨⟨p,none⟩,dp,mx,row⟩=true:=by unfold goW;simp;omega
      have hdp0:=HXi.out.ok rfl
      simp only at hdp0
      have HE:Hid (zdw l ns cs.length (gk-1) (zc3 l ns cs.length ⟨⟨p,none⟩,dp,mx,row⟩)=R):=by
       unfold Hid;rw [<- HXR.out];exact (zpR _ _ _ _ _ hgo (by have:=HXp.out;omega)).symm
      have hop:=zpb l ns cs.length ⟨p,none⟩
      rcases hins:zcV l ns cs.length ⟨p,none⟩ with ⟨⟨op,y⟩,t⟩
      rw [hins] at hop
      simp only at hop
      obtain ⟨sh,hsh⟩:∃sh,zY[op]?=some sh:=⟨_,zsc (show op<zY.length from hop)⟩
      have HSt:=za (zoT (x:=⟨⟨p,none⟩,dp,mx,row⟩) hins hsh)
      have HSi:=za (znc l ns cs.length ⟨⟨p,none⟩,dp,mx,row⟩ HXi.out rfl sh (by rw [hins];exact hsh))
      have HSp:=za (λh=>zmw l ns cs.length ⟨⟨p,none⟩,dp,mx,row⟩ rfl h)
      obtain ⟨k1,k2⟩:=zic op sh hsh
      have Hsh:=za hsh
      have hins':=hins
      have Hins:=za hins
      obtain ⟨sa,tk,gv⟩:=sh
      simp only at k1 k2
      obtain ⟨q,hq⟩:∃q:Bool,q=decide (0<=dp-(tk:Int)):=⟨_,rfl⟩
      have Hq:=za hq
      have hdec:decide ((tk:Int)<=dp)=q:=by rw [hq];apply decide_eq_decide.2;omega
      clear hq
      clear hins hins' hsh
      have hcase:p<l.length∨(¬p<l.length/\0<dp):=by omega
      clear hend hgo HXR HRR H HU
      rcases hcase with hp|⟨hp,hd⟩
      all_goals
       go_wp2_with fail
       go_quiet (fail)
       obtain ⟨W,hW⟩:∃W,W=wr.drewN nq:=⟨_,rfl⟩
       rw [<- hW]
       have hBq:Below wr.heap.size wr W:=hW▸zaf (Below.refl wr.heap.size wr) nq
       have HRW:=za (HR.out.below hBq)
       have HIW:=za (hI.fr (T:=λ_=>False) (Fr.of_below hBq) (λ_ e=>e.elim))
       have HFW:=za (HF.out.belowed hBq)
       have HIns:=za (zh2 S rb cb B _ g l ⟨p,none⟩ ⟨bs,o,ns,cs,mx,row⟩ W HRW.out ⟨_,_,_,HIW.out⟩ hrc hns hnc)
       rw [Hins.out] at HIns
       clear hW hBq
       go_upto_region 6 with (first
        | (go_at_call 39;revert J1;intro J1;refine (zeg S rb _ g l t q _ (J1.out.below (zq _ _))).mono ?_;rintro e w2 ⟨rfl,h1,h2⟩;have K1:=za h1;have K2:=za h2;have hz2:w1.heap.size+1<=w2.heap.size:=(by have:=h2.size;simp at this;omega);have hsl2:12<w2.heap.size:=(by omega);have t1:=h1.shp.t op _ Hsh.out;have t2:=h1.shp.g op _ Hsh.out;have KI:=za ((JI.out.fr (T:=λ_=>False) (Fr.of_below (zq w1 _)) (λ_ e=>e.elim)).fr h2 (λk e=>e▸hrc));have hbx:=(h2.block w1.heap.size (by simp) (by have:=ze J1.out.blk;omega)).trans (zc w1 _);obtain ⟨b0,b1,bf,bz⟩:=zp hbx;have Hbx:=za hbx;clear h1 h2 hbx)
        | (go_at_call 79;refine HIns.out.mono ?_;rintro e w1 ⟨rfl,h1,h2⟩;have J1:=za h1;have J2:=za h2;have hz1:W.heap.size<=w1.heap.size:=h2.size;have hz21:=h1.gl.size;have hsl1:12<w1.heap.size:=Nat.lt_of_lt_of_le (show 12<21 by decide) hz21;have s1:=h1.shp.t op _ Hsh.out;have s2:=h1.shp.g op _ Hsh.out;have JI:=za (HIW.out.fr h2 (λk e=>e▸hrc));clear h1 h2))
       obtain ⟨c0,c1,c2,c3,c4,c5,cf,cz⟩:=zt KI.out.blk
       simp only at c4 c5
       clear t1 t2 s1 s2 HIns m0 m1 m2 m3 m4 m5 mf r0 r1 r2 rf
       go_upto_region 7 with fail
       obtain ⟨MX,hMX⟩:∃MX,MX=max mx (dp-(tk:Int)+(gv:Int)).toNat:=⟨_,rfl⟩
       have hmx:max (mx:Int) (dp-(tk:Int)+(gv:Int))=(MX:Int):=by omega
       rw [hmx]
       have JS:=za (KI.out.setN (i:=4) (u:=.int .i64 (MX:Nat)) (K':=⟨bs,o,ns,cs,MX,row⟩) (zh _ _ _ _ KI.out.blk) rfl rfl rfl)
       have hcw1:cb<w1.heap.size:=ze JI.out.blk
       have JF:=za ((((HFW.out.rc J2.out).alloc _).rc K2.out).rc2 JS.out.2)
       refine zn (λV=>UI B cb bv cv (.slice xr row.length cpr) ⟨bs,o,ns,cs,MX,row⟩ V/\RL S V rb (.slice av l.length avc) g l (zbU q t)/\Fr (λk=>k=rb∨cb<=k) w V/\V.heap[w1.heap.size]?=some (.cells #[.int .u8 (op:Nat),.int .i64 y] 70 (0,0))) ⟨JS.out.1,K1.out.code JS.out.2 hrc Hgc.out h21,JF.out,zr (by omega) Hbx.out⟩ ?_
       rintro V ⟨vI,vR,vF,vB⟩
       obtain ⟨b,hb⟩:∃b,b=w1.heap.size:=⟨_,rfl⟩
       rw [<- hb] at vB ⊢
       have hbc:cb<b:=by omega
       obtain ⟨e0,e1,ef,ez⟩:=zp vB
       obtain ⟨f0,f1,f2,f3,f4,f5,ff,fz⟩:=zt vI.blk
       have VI:=za vI
       have VR:=za vR
       have VF:=za vF
       have vBz:=vI.hB
       have vcb:=vI.hcb
       have HMX:=za hMX
       have hmx':row.length+1<=maxLen:=by unfold maxLen;omega
       have hby':(row.length+1)*16<=140737488355328:=by omega
       have Hmx':=za hmx'
       have Hby':=za hby'
       have hbV:∀k,(Value.slice xr row.length cpr).ownBlock=some k->¬k=b:=λk e=>by have:=(JI.out.rown.lt k e).2;omega
       have HbV:=za hbV
       clear hmx' hby' vI vR vF vB hMX hmx JS JF KI K1 K2 J1 J2 JI HRW HIW HFW HF HR HC hI hb f0 f1 f2 f3 f4 c0 c1 c2 c3 c4 c5 cf cz b0 b1 bf bz Hbx hz1 hz2 hsl1 hsl2 hcw1 hbV
       go_region_law (first
        | (refine zJ _ rfl (.tmp 61) (.tmp 63) 65 rfl B 70 i0 _ 2 16 Tryz.underlying65 hi hi0 hi1 hi2 rfl (by decide) (.slice xr row.length cpr) row.length (zbs row) rfl (zD VI.out.rown _) ⟨V.heap.size,0,none⟩ 1 1 [.int .u8 (op:Nat),.int .i64 y] rfl rfl (zN (zc V _) rfl) zrB Hmx'.out Hby'.out (by simp;omega) ?_;intro v' w9 hown9 hgrow hnew;obtain ⟨g9,cap9,rfl,hg9⟩:=zM hown9 (by omega);have hF9:=(Fr.of_grown hgrow).undrew;have hk9:=(hF9.block cb (by simp;omega) (λh=>by have:=(VI.out.rown.lt _ h).1;omega)).trans ((Below.heap_alloc _ _ _ (by omega)).trans VI.out.blk);obtain ⟨g0,g1,g2,g3,g4,g5,gf,gz⟩:=zt hk9;have n0:=zby hF9 (zj _ e0) (by simp;omega) (λh=>HbV.out _ h rfl);have n1:=zby hF9 (zj _ e1) (by simp;omega) (λh=>HbV.out _ h rfl);have HF9:=za hF9;have Hown9:=za hown9;have Hnew9:=za hnew;clear hown9 hgrow hnew hF9 hk9))
       all_goals go_wp2_with fail
       all_goals go_roundg (gk-1)
       all_goals first
        | (have:=HXp.out;omega)
        | (have hC:=VI.out.added HF9.out Hown9.out (λk e=>(Hnew9.out k e).imp id (λh=>by have h':(V.alloc (.cells #[.int .u8 (op:Nat),.int .i64 y] 70)).heap.size<=k:=h;rw [zsb] at h';exact h'))
           have q1:=HSi.out
           have q2:=HSp.out
           have q3:=HE.out
           have hQe:zc3 l ns cs.length ⟨⟨p,none⟩,dp,mx,row⟩=⟨zbU q t,dp-(tk:Int)+(gv:Int),MX,row++[(op,y)]⟩:=by rw [HSt.out,Hq.out,HMX.out]
           rw [hQe] at q1 q2 q3
           have hRn:=VR.out.code hC.2 hrc Hgc.out h21
           have q4:=q2 hRn.le
           refine ⟨⟨zbU q t,dp-(tk:Int)+(gv:Int),MX,row++[(op,y)]⟩,rfl,za ⟨q1,?_,?_,q3⟩,hRn,hC.1,VF.out.rc2 hC.2⟩
           · have:=HXr.out;have:=HXp.out;simp;omega
           · have:=HXp.out;omega)
theorem By.take {w:World} {a:Option Addr} {c g n:Nat} {l:List Nat} (h:By w (.slice a l.length c) g l) (hn:n<=l.length):By w (.slice a n c) g (l.take n):=by
 obtain ⟨a',c',h1,h2,h3,h4⟩:=h.ex
 cases h1
 have hl:(l.take n).length=n:=by rw [List.length_take];omega
 refine ⟨⟨a,c,by rw [hl],by omega,h3,λhne=>?_⟩,λx hx=>h.lt x (List.mem_of_mem_take hx)⟩
 obtain ⟨o,e1,e2⟩:=h4 (by intro e;subst e;simp at hne)
 refine ⟨o,e1,λj x hj=>e2 j x ?_⟩
 rw [List.getElem?_take] at hj
 split at hj
 · exact hj
 · cases hj
def zcE (S:Nat->Addr) (p:Int):Value:=.iface 74 (.agg #[sen S 10,.int .i64 p])
def zdN (l:List Nat):Option (List Nat) :=
 if l.length<8∨1048576<l.length then none
 else if (zcK l ⟨l.length-8,none⟩).1=zf5 (l.take (l.length-8)) then some (l.take (l.length-8)) else none
def zgN (S:Nat->Addr) (a:Option Addr) (c:Nat) (l:List Nat) (o:Option (List Nat)) (e:Ending):Prop :=
 match o with
 | none=>∃p,e=.returned (.tuple #[.slice none 0 0,zcE S p])
 | some b=>e=.returned (.tuple #[.slice a b.length c,.nilIface])/\b=l.take (l.length-8)/\b.length<=1048576
theorem RL.new {S:Nat->Addr} {w:World} {v:Value} {g:Nat} {l:List Nat} (hG:Gl S w) (hS:zbW w) (hy:By w v g l) (hg:g<w.heap.size) (hl:l.length<=1048576) (p:Nat) (hp:p<=l.length) :
 RL S (w.alloc (.cells #[v,.int .i64 (p:Nat),.nilIface] 116)) w.heap.size v g l ⟨p,none⟩:=by
 have hF:Fr (λ_=>False) w (w.alloc (.cells #[v,.int .i64 (p:Nat),.nilIface] 116)):=(Fr.refl _ w).alloc _
 exact ⟨zc w _,hy.of (Below.heap_alloc _ _ _ hg),hp,hl,by omega,hG.size,hG.of hF (λ_ e=>e.elim),hS.old (hF.old hG.size (λ_ e=>e.elim)) (Nat.le_refl _)⟩
theorem zjZ (S:Nat->Addr) (a:Option Addr) (c g:Nat) (l:List Nat) (w:World) (hG:Gl S w) (hS:zbW w) (hy:By w (.slice a l.length c) g l) (hg:g<w.heap.size) :
 Calls Tryz.prog 38 #[.slice a l.length c] w (λe w'=>Below w.heap.size w w'/\zgN S a c l (zdN l) e):=by
 obtain ⟨a',c',h1,h2,h3,h4⟩:=hy.ex
 cases h1
 have hcm:c<=9223372036854775807:=by unfold maxLen at h3;omega
 have hi:=hG.image
 unfold sen at hi
 have h21:=hG.size
 have HG:=za hG
 have HS:=za hS
 have Hy:=za hy
 clear hG hS hy h3 h4
 by_cases hb:l.length<8∨1048576<l.length
 · have HE:Hid (zdN l=none):=by unfold Hid zdN;rw [if_pos hb]
   by_cases hb1:l.length<8
   all_goals
    go_enter Tryz.func38,Tryz.ntmps38
    go_wp2_with (go_at_call 44;refine (zfc S 10 _ _).mono ?_;rintro e w1 ⟨rfl,hB⟩;have HB:=za hB;clear hB)
    exact bodyPost_ret (v:=.tuple #[.slice none 0 0,zcE S 0]) (by simp [results,Tryz.results38,go_sem,zcE,sen]) rfl ⟨HB.out,by rw [HE.out];exact ⟨0,rfl⟩⟩
 · have hb1:¬l.length<8:=by omega
   have hb2:l.length<=1048576:=by omega
   obtain ⟨n,hn⟩:∃n,l.length=n+8:=⟨l.length-8,by omega⟩
   have hE:zdN l=if (zcK l ⟨n,none⟩).1=zf5 (l.take n) then some (l.take n) else none:=by
    unfold zdN;rw [if_neg hb,show l.length-8=n by omega]
   have hl8:(l.take n).length=n:=by rw [List.length_take];omega
   have hnl:n=l.length-8:=by omega
   have HN:=za (λX (hX:X=(Obj.cells #[.slice a l.length c,.int .i64 (n:Nat),.nilIface] 116 (0,0)))=>(zf7 S w.heap.size (.slice a l.length c) g l ⟨n,none⟩ (w.alloc X).drew ((hX▸RL.new HG.out HS.out Hy.out hg hb2 n (by omega):RL S (w.alloc X) w.heap.size (.slice a l.length c) g l ⟨n,none⟩).below (zo (Below.refl _ _)))))
   have HSm:=za (λW (hW:W.heap[g]?=w.heap[g]?)=>zmQ (l.take n) (.slice a n c) g W ((Hy.out.of hW).take (by omega)))
   obtain ⟨sm,hsm⟩:∃sm,sm=zf5 (l.take n):=⟨_,rfl⟩
   rcases hN:zcK l ⟨n,none⟩ with ⟨X,t⟩
   rw [hN] at HN hE
   rw [<- hsm] at HSm hE
   simp only at HN hE
   have HE:=za hE
   have Hl8:=za hl8
   have Hn:=za hn
   have hw1:IntKind.i64.wrap ((l.length:Int)-8)=(n:Int):=by rw [IntKind.wrap_i64];omega
   have hw2:(l.length:Int)-8=(n:Int):=by omega
   have hnc:n<=c:=by omega
   clear hE hl8 hn hN hsm hb hnl
   go_enter Tryz.func38,Tryz.ntmps38
   go_upto_region 5 with fail
   go_region_held3 (λw'=>w'.cell? ⟨11,0,none⟩=some (.iface 293 (.pointer (some (S 10)))))
    (repeat (first|with_reducible exact hi|with_reducible exact i1|with_reducible refine zg ?_|with_reducible refine zj _ ?_))
    (first
      | (go_at_call 65;revert H1;intro H1;refine (HSm.out w1 HB1.out).mono ?_;rintro e w2 ⟨rfl,rfl⟩)
      | (go_at_call 76;refine (HN.out _ rfl).mono ?_;rintro e w1 ⟨rfl,h1,h2⟩;have H1:=za h1;have HB1:=za ((h2.block g (by simp;omega) (by omega)).trans (Below.heap_alloc _ _ _ hg));have HB2:=za ((((Fr.refl (·=w.heap.size) w).alloc _).trans h2.undrew).below (B:=w.heap.size) (Nat.le_refl _) (λk e=>Nat.le_of_eq e.symm));have i1:=zd HB2.out hi (Nat.lt_of_lt_of_le (show 11<21 by decide) h21);clear h1 h2))
   by_cases hxs:X=sm
   · have HO:Hid (zdN l=some (l.take n)):=by unfold Hid;rw [HE.out,if_pos hxs]
     subst hxs
     go_wp2_with fail
     exact bodyPost_ret (v:=.tuple #[.slice a n c,.nilIface]) (by simp [results,Tryz.results38,go_sem]) rfl ⟨HB2.out,by rw [HO.out];exact ⟨by rw [Hl8.out],by rw [show l.length-8=n by have:=Hn.out;omega],by rw [Hl8.out];omega⟩⟩
   · have HO:Hid (zdN l=none):=by unfold Hid;rw [HE.out,if_neg hxs]
     have hxs':(X != sm)=true:=by simpa using hxs
     go_wp2_with (go_at_call 44;refine (zfc S 10 _ _).mono ?_;rintro e w3 ⟨rfl,hB⟩;have HB:=za (HB2.out.trans (hB.mono HB2.out.size));clear hB)
     exact bodyPost_ret (v:=.tuple #[.slice none 0 0,zcE S n]) (by simp [results,Tryz.results38,go_sem,zcE,sen]) rfl ⟨HB.out,by rw [HO.out];exact ⟨n,rfl⟩⟩
end
section
open Go.RowKit
attribute [local go_sem ↓] Go.wp_at_zero Go.wp_at_succ
theorem ziz (S:Nat->Addr) (N mb cb:Nat) (c1 c2 c3 bv cv rv:Value) (c:Cd) (w:World) (v:Value) (g:Nat) (l:List Int) (hG:Gl S w) (hb:w.heap[mb]?=some (.cells #[.pointer (some ⟨cb,0,none⟩),c1,c2,c3] 63 (0,0))) (h:CB w N cb bv cv rv c) (hl:Nm w v g l) (hr:zdE c.bools l=none) :
 Calls Tryz.prog 21 #[.pointer (some ⟨mb,0,none⟩),v] w (λe w'=>e=.returned .nilIface/\Below w.heap.size w w'):=by
 refine (zkX S N mb cb c1 c2 c3 bv cv rv c w v g l hG hb h hl).mono ?_
 rintro e w' ⟨h1,h2⟩
 refine ⟨?_,h2⟩
 rw [hr] at h1
 unfold zhk at h1
 simpa using h1
theorem Tryz.zeroI64 (w:World):(zeroValue 2).run Tryz.prog w=.ok (.int .i64 0) w:=by kernel_rfl
theorem zmq {c:Cd} {slots l:List Int} (hls:slots.length=c.slots):zK l++(List.replicate slots.length (Value.int .i64 0)).drop (zK l).length=zK (zdY c.slots l):=by
 unfold zdY zK
 rw [List.map_append,hls]
 simp [List.drop_replicate]
theorem zq7 {ns nc:Nat}:∀(l:List (Nat×Int)) (h h' k:Nat) (i:Nat×Int),zd9 ns nc h l=some h'->l[k]?=some i->∃h1 h2,zd9 ns nc h (l.take k)=some h1/\zgT ns nc h1 i=some h2/\h1<=h+k:=by
 intro l
 induction l with
 | nil=>intro h h' k i _ hk;simp at hk
 | cons a l ih =>
   intro h h' k i hf hk
   unfold zd9 at hf
   split at hf
   · cases hf
   · rename_i h1 hf1
     cases k with
     | zero =>
       simp at hk;subst hk
       exact ⟨h,h1,rfl,hf1,by omega⟩
     | succ k =>
       simp at hk
       obtain ⟨a1,a2,e1,e2,e3⟩:=ih h1 h' k i hf hk
       refine ⟨a1,a2,?_,e2,?_⟩
       · rw [List.take_succ_cons];unfold zd9;rw [hf1];exact e1
       · have:h1<=h+1:=by
          unfold zgT at hf1
          split at hf1
          · cases hf1
          · rename_i s hs
            split at hf1
            · cases hf1
              have:s.2.2<=1:=by
               have h20:=zeB hs
               have hm:s∈zY:=List.mem_of_getElem? hs
               have:∀t∈zY,t.2.2<=1:=by decide
               exact this s hm
              omega
            · cases hf1
         omega
theorem zn4 {m:Ms} {l:List (Nat×Int)} {k:Nat} {i:Nat×Int} (hk:l[k]?=some i):zea m (l.take (k+1))=doM (zea m (l.take k)) i:=by
 obtain ⟨h1,h2⟩:=List.getElem?_eq_some_iff.1 hk
 rw [List.take_succ_eq_append_getElem h1,h2]
 unfold zea
 rw [List.foldl_append]
 rfl
theorem MFr.ofFr {mb b1 b2:Nat} {w w':World} {sv:Value} {T:Nat->Prop} (h:Fr T w w') (hT:∀k,T k->k=mb∨k=b1∨k=b2):MFr mb b1 b2 w sv w' sv :=
 ⟨h.mono (λk _ e=>by rcases hT k e with e|e|e;exact Or.inl e;exact Or.inr (Or.inl e);exact Or.inr (Or.inr (Or.inl e))),λ_ e=>Or.inl e⟩
theorem MFr.old {mb b1 b2 N:Nat} {w w':World} {sv sv':Value} (h:MFr mb b1 b2 w sv w' sv') (hN:N<=w.heap.size) (l0:N<=mb) (l1:N<=b1) (l2:N<=b2) (ls:∀k,sv.ownBlock=some k->N<=k):Old N w w' :=
 h.fr.old hN (λk e=>by rcases e with e|e|e|e;omega;omega;omega;exact ls k e)
theorem zmo {w:World} {B n cp:Nat} {e:TypeId} {a:Option Addr} {l:List (Nat×Int)} (h:w.ownsRow B e 2 (.slice a n cp) n (zbs l)) {k:Nat} {i:Nat×Int} (hk:l[k]?=some i):∃g,a=some ⟨g,0,none⟩/\w.cell? ⟨g,k*2,none⟩=some (.int .u8 i.1)/\w.cell? ⟨g,k*2+1,none⟩=some (.int .i64 i.2):=by
 have hl:l.length=n:=by have:=h.1;rw [zgC] at this;omega
 have hk':=(List.getElem?_eq_some_iff.1 hk).1
 obtain ⟨g,cap,hv,_⟩:=zM h (by omega)
 cases hv
 obtain ⟨e1,e2⟩:=zkl l k i hk
 have h1:=h.cells (g:=g) rfl _ _ e1
 have h2:=h.cells (g:=g) rfl _ _ e2
 have e0:∀j,(⟨g,0,none⟩:Addr).add j=⟨g,j,none⟩:=λj=>by cases j <;> simp [Addr.add]
 rw [e0] at h1 h2
 exact ⟨g,rfl,h1,h2⟩
theorem zpD {N mb cb b1 b2:Nat} {bv cv rv sv:Value} {c:Cd} {cells slots:List Int} {w w1:World} {a:Option Addr} {cp g:Nat} {l:List Int} (hB:Below w.heap.size w w1) (h:Mc w N mb cb b1 b2 bv cv rv sv c cells slots []) (hl:Nm w (.slice a l.length cp) g l) (hg2:l≠[]->g≠b2) (hle:l.length=c.bools.length) :
 ∃w2 w3,(Builtin.clear_ #[22] 0 #[.slice (some ⟨b2,0,none⟩) slots.length slots.length]).run Tryz.prog w1=.ok (.tuple #[]) w2 /\
  (Builtin.copy_ #[22,22] 3 #[.slice (some ⟨b2,0,none⟩) slots.length slots.length,.slice a l.length cp]).run Tryz.prog w2=.ok (goInt l.length) w3 /\
  w1.cell? ⟨mb,2,none⟩=some (.slice (some ⟨b2,0,none⟩) slots.length slots.length)/\w2.cell? ⟨mb,2,none⟩=some (.slice (some ⟨b2,0,none⟩) slots.length slots.length) /\
  Mc w3 N mb cb b1 b2 bv cv rv sv c cells (zdY c.slots l) []/\MFr mb b1 b2 w sv w3 sv:=by
 have hz:=h.mem.lt
 have hM1:=h.mem.fr (λk hk=>hB.block k hk) hB.size
 obtain ⟨w2,hclr,hg3,hf2⟩:=ziG (P:=Tryz.prog) w1 22 2 0 (.int .i64 0) Tryz.underlying22 Tryz.zeroI64 rfl rfl b2 slots.length (zK slots) 2 hM1.sl
 rw [zbS] at hclr hg3
 have hM2:=hM1.slots' (slots':=List.replicate slots.length 0) (by simp) (by simpa [zK] using hg3) hf2
 have ho:=h.code.outsB
 have hls:=h.ls
 obtain ⟨a',cp',hv,hcp,hmx,hin⟩:=hl.ex
 cases hv
 have hsrc:0<(zK l).length->∃ad,a=some ad/\∀j v,(zK l)[j]?=some v->w2.cell? (ad.add j)=some v:=by
  intro hp
  have hne:l≠[]:=by intro e;subst e;simp [zK] at hp
  obtain ⟨o,e1,e2⟩:=hin hne
  refine ⟨_,e1,λj v hj=>?_⟩
  have e0:(⟨g,o,none⟩:Addr).add j=⟨g,o+j,none⟩:=by cases j <;> simp [Addr.add]
  rw [e0]
  unfold zK at hj
  rw [List.getElem?_map] at hj
  obtain ⟨x,hx,rfl⟩:=Option.map_eq_some_iff.1 hj
  have h1:=e2 j x hx
  have hlt:g<w.heap.size:=by
   rcases Nat.lt_or_ge g w.heap.size with h|h
   · exact h
   · simp [World.cell?,Array.getElem?_eq_none h] at h1
  exact (World.cell?_of_block (w:=w1) (hf2.block g (Nat.lt_of_lt_of_le hlt hB.size) (hg2 hne))).trans ((World.cell?_of_block (w:=w) (hB.block g hlt)).trans h1)
 obtain ⟨w3,hcpy,hg4,hf3⟩:=zew (P:=Tryz.prog) w2 22 22 3 2 b2 slots.length slots.length a l.length cp (List.replicate slots.length (.int .i64 0)) 2 (zK l) Tryz.underlying22 Tryz.i64size hg3 (by rw [zbS];exact (Nat.min_eq_left (by omega)).symm) hsrc (by rw [zbS];simp;omega) zfs
 rw [zbS] at hcpy
 rw [zmq hls] at hg4
 have hM3:=hM2.slots' (slots':=zdY c.slots l) (by unfold zdY;simp;omega) hg4 hf3
 have hF:MFr mb b1 b2 w sv w3 sv:=by
  have f1:MFr mb b1 b2 w sv w1 sv:=MFr.ofFr (T:=λ_=>False) (Fr.of_below hB) (λ_ e=>e.elim)
  have f2:MFr mb b1 b2 w1 sv w2 sv:=MFr.ofFr hf2 (λ_ e=>Or.inr (Or.inr e))
  have f3:MFr mb b1 b2 w2 sv w3 sv:=MFr.ofFr hf3 (λ_ e=>Or.inr (Or.inr e))
  exact (f1.trans f2).trans f3
 have c2:=(zU hM2.blk).2.2.1
 rw [List.length_replicate] at c2
 refine ⟨w2,w3,hclr,hcpy,(zU hM1.blk).2.2.1,c2,⟨h.code.old (hF.old h.mem.hB h.n0 h.n1 h.n2 (λk e=>(h.mem.own.lt k e).1)),hM3,h.n0,h.n1,h.n2,h.lc,by unfold zdY;simp;omega⟩,hF⟩
theorem zoy {c:Cd} {R:Ms} (hRs:R.slots.length=c.slots) (ho:c.bools.length+c.outs<=c.slots):(zcX c R).length=c.outs:=by
 unfold zcX;simp;omega
theorem znG {mb cb b1 b2 N:Nat} {sv:Value} {c:Cd} {R:Ms} {wr:World} (h:MB wr mb cb b1 b2 N sv R.cells R.slots []) (hRs:R.slots.length=c.slots) (ho:c.bools.length+c.outs<=c.slots) (sp:Option Addr) (sl sc:Nat) (hsp:0<c.outs->sp=some ⟨b2,c.bools.length,none⟩) (hsl:sl=c.slots-c.bools.length) :
 ∃w7,(Builtin.copy_ #[22,22] 3 #[.slice (some ⟨wr.heap.size,0,none⟩) c.outs c.outs,.slice sp sl sc]).run Tryz.prog (wr.alloc (.cells (zbX c.outs) 2)).drew=.ok (goInt c.outs) w7 /\
  w7.heap[wr.heap.size]?=some (.cells (zK (zcX c R)).toArray 2 (0,0))/\Fr (·=wr.heap.size) (wr.alloc (.cells (zbX c.outs) 2)) w7:=by
 have hl:=zoy hRs ho
 have hsrc:0<(zK (zcX c R)).length->∃ad,sp=some ad/\∀j v,(zK (zcX c R))[j]?=some v->(wr.alloc (.cells (zbX c.outs) 2)).drew.cell? (ad.add j)=some v:=by
  intro hp
  rw [zbS,hl] at hp
  refine ⟨_,hsp hp,λj v hj=>?_⟩
  have e0:(⟨b2,c.bools.length,none⟩:Addr).add j=⟨b2,c.bools.length+j,none⟩:=by cases j <;> simp [Addr.add]
  rw [e0]
  unfold zK at hj
  rw [List.getElem?_map] at hj
  obtain ⟨x,hx,rfl⟩:=Option.map_eq_some_iff.1 hj
  refine zg (zj _ (zbT h.sl (k:=c.bools.length+j) (v:=x) ?_))
  unfold zcX at hx
  rw [List.getElem?_take] at hx
  split at hx
  · rwa [List.getElem?_drop] at hx
  · cases hx
 obtain ⟨w7,h1,h2,h3⟩:=zew (P:=Tryz.prog) (wr.alloc (.cells (zbX c.outs) 2)).drew 22 22 3 2 wr.heap.size c.outs c.outs sp sl sc (zK (List.replicate c.outs 0)) 2 (zK (zcX c R)) Tryz.underlying22 Tryz.i64size (zc wr _) (by rw [zbS,hl,hsl];exact (Nat.min_eq_right (by omega)).symm) hsrc (by rw [zbS,hl,zbS];simp) zfs
 rw [zbS,hl] at h1 h2
 rw [List.drop_eq_nil_of_le (by rw [zbS];simp),List.append_nil] at h2
 exact ⟨w7,h1,h2,h3.undrew⟩
theorem zjF {N mb cb b1 b2:Nat} {bv cv rv sv sv':Value} {c:Cd} {cells slots:List Int} {R:Ms} {w w3 wr w7:World} (h:Mc w N mb cb b1 b2 bv cv rv sv c cells slots []) (hF3:MFr mb b1 b2 w sv w3 sv) (hFk:MFr mb b1 b2 w3 sv wr sv') (hM:MB wr mb cb b1 b2 N sv' R.cells R.slots []) (hC:CB wr N cb bv cv rv c) (hRc:R.cells.length=c.cells.length) (hRs:R.slots.length=c.slots)
 (hG7:w7.heap[wr.heap.size]?=some (.cells (zK (zcX c R)).toArray 2 (0,0))) (hF7:Fr (·=wr.heap.size) (wr.alloc (.cells (zbX c.outs) 2)) w7) :
 ∃ob sv',Ending.returned (.tuple #[.slice (some ⟨wr.heap.size,0,none⟩) c.outs c.outs,.nilIface])=.returned (.tuple #[.slice (some ⟨ob,0,none⟩) c.outs c.outs,.nilIface])/\w.heap.size<=ob/\w7.heap[ob]?=some (.cells (zK (zcX c R)).toArray 2 (0,0))/\(∀k,sv'.ownBlock=some k->k≠ob)/\Mc w7 N mb cb b1 b2 bv cv rv sv' c R.cells R.slots []/\MFr mb b1 b2 w sv w7 sv':=by
 have hk:∀k,k<wr.heap.size->w7.heap[k]?=wr.heap[k]?:=λk hk=>(hF7.block k (by rw [zsb];omega) (by omega)).trans (Below.heap_alloc _ _ _ hk)
 have hz:wr.heap.size<=w7.heap.size:=by have:=hF7.size;rw [zsb] at this;omega
 have hF:MFr mb b1 b2 w sv wr sv':=hF3.trans hFk
 refine ⟨wr.heap.size,sv',rfl,hF.fr.size,hG7,λk e=>?_,⟨hC.old (λk hk'=>hk k (by have:=hM.hB;omega)),hM.fr hk hz,h.n0,h.n1,h.n2,hRc,hRs⟩,?_⟩
 · have:=(hM.own.lt k e).2;omega
 · refine hF.trans ⟨⟨hF7.os,hF7.tape,hF7.output,hz,λk hk' _=>hk k hk'⟩,λ_ e=>Or.inl e⟩
theorem zjy (S:Nat->Addr) (N mb cb b1 b2:Nat) (bv cv rv sv:Value) (c:Cd) (cells slots:List Int) (w:World) (v:Value) (g:Nat) (l:List Int) (hG:Gl S w) (h:Mc w N mb cb b1 b2 bv cv rv sv c cells slots []) (hl:Nm w v g l) (hg2:l≠[]->g≠b2) (hr:zdE c.bools l=none) (hfit:zd9 c.slots c.cells.length 0 c.row=some 0) :
 Calls Tryz.prog 14 #[.pointer (some ⟨mb,0,none⟩),v] w (λe w'=>∃ob sv',e=.returned (.tuple #[.slice (some ⟨ob,0,none⟩) c.outs c.outs,.nilIface])/\w.heap.size<=ob/\w'.heap[ob]?=some (.cells (zK (zcX c (zbm c cells l))).toArray 2 (0,0))/\(∀k,sv'.ownBlock=some k->k≠ob)/\Mc w' N mb cb b1 b2 bv cv rv sv' c (zbm c cells l).cells (zbm c cells l).slots []/\MFr mb b1 b2 w sv w' sv'):=by
 have HR:=za (ziz S N mb cb _ _ _ bv cv rv c w v g l hG h.mem.blk h.code hl hr)
 have hle:l.length=c.bools.length:=by
  unfold zdE at hr
  split at hr
  · assumption
  · cases hr
 obtain ⟨h0,h1,h2,h3,hf,hz⟩:=zU h.mem.blk
 obtain ⟨hz0,hz1,hz2,hz3⟩:=h.mem.lt
 obtain ⟨xr,cpr,rfl⟩:=zB h.code.rown
 obtain ⟨a,cp,rfl,hcp,hmx,hin⟩:=hl.ex
 unfold maxLen at hmx
 have hls:=h.ls
 have hlc:=h.lc
 have ho1:=h.code.outsB
 have ho2:=h.code.slotsB
 have hrb:=h.code.rowB
 have H:=za h
 have HL:=za hl
 have Hg2:=za hg2
 have Hfit:=za hfit
 have hNw:=h.mem.hB
 have n0:=h.n0
 have n1:=h.n1
 have n2:=h.n2
 have Hle:=za hle
 have Hls:=za hls
 have Hlc:=za hlc
 have q1:c.bools.length+c.outs<=slots.length:=by omega
 have q2:slots.length<=255:=by omega
 have q3:l.length<=slots.length:=by omega
 clear h hl hr hG hin hg2 hfit hle hls hlc
 go_enter Tryz.func14,Tryz.ntmps14
 go_wp2_with (go_at_call 21;refine HR.out.mono ?_;rintro e w1 ⟨rfl,hB⟩;obtain ⟨w2,w3,hclr,hcpy,hc1,hc2,hM3,hF3⟩:=zpD hB H.out HL.out Hg2.out Hle.out;obtain ⟨p0,p1,p2,p3,pf,pz⟩:=zU hM3.mem.blk;obtain ⟨d0,d1,d2,d3,d4,d5,df,dz⟩:=zt hM3.code.blk;have HM3:=za hM3;have HF3:=za hF3;clear hB hM3 hF3)
 obtain ⟨m0,hm0⟩:∃m0:Ms,m0=⟨cells,zdY c.slots l,[]⟩:=⟨_,rfl⟩
 have hMB:MB w3 mb cb b1 b2 N sv m0.cells m0.slots m0.st:=by rw [hm0];exact HM3.out.mem
 have HMB:=za hMB
 have HW:Hid (zbm c cells l=zea m0 c.row):=by rw [hm0];exact rfl
 have hlm:m0.cells.length=c.cells.length:=by rw [hm0];exact HM3.out.lc
 have hsm:m0.slots.length=c.slots:=by rw [hm0];exact HM3.out.ls
 have hst:m0.st.length=0:=by rw [hm0];rfl
 have Hlm:=za hlm
 have Hsm:=za hsm
 have Hst:=za hst
 clear hMB hm0 hlm hsm hst HR hclr hcpy hc1 hc2
 go_loopg [35] (c.row.length+1) (λj i wr=>∃(k:Nat) (sv':Value),i=.int .i64 k/\k+j=c.row.length+1/\k<=c.row.length/\Hid (MB wr mb cb b1 b2 N sv' (zea m0 (c.row.take k)).cells (zea m0 (c.row.take k)).slots (zea m0 (c.row.take k)).st)/\Hid (MFr mb b1 b2 w3 sv wr sv'))
 case atStart=>exact ⟨0,sv,rfl,by omega,by omega,HMB.out,MFr.refl _ _ _ _ _⟩
 case round =>
  obtain ⟨k,sv',rfl,hkj,hkn,HMk,HFk⟩:=hrel
  have hO:Old N w3 wr:=HFk.out.old HM3.out.mem.hB n0 n1 n2 (λk e=>(HM3.out.mem.own.lt k e).1)
  have hC:=HM3.out.code.old hO
  have HC:=za hC
  clear hO
  by_cases hlt:k<c.row.length
  · obtain ⟨i,hi⟩:∃i,c.row[k]?=some i:=⟨_,zsc hlt⟩
    obtain ⟨gr,rfl,hr1,hr2⟩:=zmo hC.rown hi
    obtain ⟨f1,f2,e1,e2,e3⟩:=zq7 c.row 0 0 k i Hfit.out hi
    obtain ⟨e4,e5,e6⟩:=zkI _ _ _ m0 e1 Hst.out
    have hD:=λo=>zqr mb cb b1 b2 N sv' (zea m0 (c.row.take k)) i f1 f2 (wr.alloc o) (HMk.out.alloc o) (by rw [e5,e6,Hlm.out,Hsm.out];exact e2) e4 (by omega)
    rw [<- zn4 hi] at hD
    have HD:=za hD
    clear hi e1 e2 e4 e5 e6 hD hC
    obtain ⟨op,x⟩:=i
    simp only at hr1 hr2 HD
    go_wp2_with (go_at_call 23;refine (HD.out _).mono ?_;rintro e w4 ⟨rfl,sv4,hM4,hF4⟩;have HM4:=za hM4;have HF4:=za (HFk.out.trans hF4.ofAlloc);clear hM4 hF4)
    go_roundg (gk-1)
    case measure=>omega
    exact ⟨k+1,sv4,by go_num,by omega,by omega,HM4.out,HF4.out⟩
  · have ek:k=c.row.length:=by omega
    subst ek
    rw [List.take_length,<- HW.out] at HMk
    obtain ⟨e4,e5,e6⟩:=zkI _ _ _ m0 Hfit.out Hst.out
    rw [<- HW.out] at e4 e5 e6
    obtain ⟨R,hR⟩:∃R,zbm c cells l=R:=⟨_,rfl⟩
    rw [hR] at HMk e4 e5 e6
    have es:R.st=[]:=List.eq_nil_of_length_eq_zero e4
    rw [es] at HMk
    have hRc:R.cells.length=c.cells.length:=e5.trans Hlm.out
    have hRs:R.slots.length=c.slots:=e6.trans Hsm.out
    have HR':=za hR
    obtain ⟨t0,t1,t2,t3,tf,tz⟩:=zU HMk.out.blk
    obtain ⟨_,_,tz2,_⟩:=HMk.out.lt
    rw [hRs] at t2
    have HOu:=za (zjL mb cb N _ _ _ bv cv _ c wr HMk.out.blk hC)
    have HIn:=za (λo=>zec mb cb N _ _ _ bv cv _ c (wr.alloc o).drew (HMk.out.alloc o).blk (hC.old (λk hk=>Below.heap_alloc _ _ _ (by have:=HMk.out.hB;omega))))
    have mk:=zhd c.outs c.outs (by omega) (by omega)
    have HRc:=za hRc
    have HRs:=za hRs
    have i1:(0:Int)<=(c.bools.length:Int):=by omega
    have i2:(c.bools.length:Int)<=(c.slots:Int):=by omega
    clear hC hR es e4 e5 e6 hRc hRs HM3 HMB
    go_upto_region 12 with (go_at_call 24;refine HOu.out.mono ?_;rintro e w5 ⟨rfl,rfl⟩)
    have u2:=zj (.cells (zbX c.outs) 2) t2
    have HMa:=za (HMk.out.alloc (.cells (zbX c.outs) 2))
    have Hcp:=za (znG (c:=c) HMk.out HRs.out ho1)
    by_cases hlow:c.bools.length<c.slots
    · obtain ⟨w7,hcp7,hg7,hf7⟩:=Hcp.out (some ⟨b2,c.bools.length,none⟩) (c.slots-c.bools.length) (c.slots-c.bools.length) (λ_=>rfl) rfl
      have hcb:=HC.out.h0
      have i3:(c.bools.length:Int)<(c.slots:Int):=by omega
      have i4:¬((c.bools.length:Int)=(c.slots:Int)):=by omega
      have i5:¬(c.bools.length=c.slots):=by omega
      have v2:w7.cell? ⟨mb,2,none⟩=some (.slice (some ⟨b2,0,none⟩) c.slots c.slots):=(World.cell?_of_block (w:=wr.alloc (.cells (zbX c.outs) 2)) (hf7.block mb (by rw [zsb];omega) (by omega))).trans u2
      have HG7:=za hg7
      have HF7:=za hf7
      clear hg7 hf7 Hcp
      go_region_held3 (λw'=>w'.cell? ⟨mb,2,none⟩=some (.slice (some ⟨b2,0,none⟩) c.slots c.slots)) (first|with_reducible exact zg u2|with_reducible exact v2|go_keep)
       (first
         | (go_at_call 25;refine (HIn.out _).mono ?_;rintro e w6 ⟨rfl,rfl⟩))
      all_goals go_wp2_with fail
      all_goals
       refine bodyPost_ret (v:=.tuple #[.slice (some ⟨wr.heap.size,0,none⟩) c.outs c.outs,.nilIface]) (by simp [results,Tryz.results14,go_sem]) rfl ?_
       rw [HR'.out]
       exact zjF H.out HF3.out HFk.out HMk.out HC.out HRc.out HRs.out HG7.out HF7.out
    · obtain ⟨w7,hcp7,hg7,hf7⟩:=Hcp.out (some ⟨b2,0,none⟩) 0 0 (λh=>by omega) (by omega)
      have hcb:=HC.out.h0
      have i3:(c.bools.length:Int)=(c.slots:Int):=by omega
      have i5:c.bools.length=c.slots:=by omega
      have v2:w7.cell? ⟨mb,2,none⟩=some (.slice (some ⟨b2,0,none⟩) c.slots c.slots):=(World.cell?_of_block (w:=wr.alloc (.cells (zbX c.outs) 2)) (hf7.block mb (by rw [zsb];omega) (by omega))).trans u2
      have HG7:=za hg7
      have HF7:=za hf7
      clear hg7 hf7 Hcp
      go_region_held3 (λw'=>w'.cell? ⟨mb,2,none⟩=some (.slice (some ⟨b2,0,none⟩) c.slots c.slots)) (first|with_reducible exact zg u2|with_reducible exact v2|go_keep)
       (first
         | (go_at_call 25;refine (HIn.out _).mono ?_;rintro e w6 ⟨rfl,rfl⟩))
      all_goals go_wp2_with fail
      all_goals
       refine bodyPost_ret (v:=.tuple #[.slice (some ⟨wr.heap.size,0,none⟩) c.outs c.outs,.nilIface]) (by simp [results,Tryz.results14,go_sem]) rfl ?_
       rw [HR'.out]
       exact zjF H.out HF3.out HFk.out HMk.out HC.out HRc.out HRs.out HG7.out HF7.out
end
end Go.Proofs.YtedmpgjebafcjaaGreatDoor
