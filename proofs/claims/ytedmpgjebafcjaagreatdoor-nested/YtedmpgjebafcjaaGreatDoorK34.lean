/- Part 35 of the proof: LnkB LnkC OrdA. -/
import Derived.Test.YtedmpgjebafcjaaGreatDoorK33
set_option maxRecDepth 100000
set_option maxHeartbeats 8000000
namespace Go.Proofs.YtedmpgjebafcjaaGreatDoor
section
open Go.RowKit
attribute [local go_sem ↓] Go.wp_at_zero Go.wp_at_succ
structure LkI (N:Nat) (c:Sc) (ev nv:Value) (i mb hb ib zb:Nat) (L:List (Nat×Nat)) (w:World):Prop where
 lk:za8 w mb L
 sc:ScV w N c ev nv
 x1:w.heap[hb]?=some (.cells #[.map (some mb)] 229 (0,0))
 x2:w.heap[ib]?=some (.cells #[.int .i64 (i:Int)] 3 (0,0))
 x3:w.heap[zb]?=some (.cells #[ev,nv] 88 (0,0))
 d1:¬hb=mb
 d2:¬ib=mb
 d3:¬zb=mb
 l:N<=mb
 hN:N<=w.heap.size
theorem LkI.keep {N:Nat} {c:Sc} {ev nv:Value} {i mb hb ib zb:Nat} {L:List (Nat×Nat)} {w w':World} (h:LkI N c ev nv i mb hb ib zb L w) (hB:Below w.heap.size w w'):LkI N c ev nv i mb hb ib zb L w' :=
 ⟨h.lk.keep hB,h.sc.old (zm hB h.hN),(hB.block _ (ze h.x1)).trans h.x1,(hB.block _ (ze h.x2)).trans h.x2,(hB.block _ (ze h.x3)).trans h.x3,h.d1,h.d2,h.d3,h.l,Nat.le_trans h.hN hB.size⟩
theorem LkI.put {N:Nat} {c:Sc} {ev nv:Value} {i mb hb ib zb:Nat} {L L':List (Nat×Nat)} {w w':World} (h:LkI N c ev nv i mb hb ib zb L w) (hl:za8 w' mb L') (hf:Fr (·=mb) w w'):LkI N c ev nv i mb hb ib zb L' w' :=
 ⟨hl,h.sc.old (hf.old h.hN (λ_ e=>e▸h.l)),(hf.block _ (ze h.x1) h.d1).trans h.x1,(hf.block _ (ze h.x2) h.d2).trans h.x2,(hf.block _ (ze h.x3) h.d3).trans h.x3,h.d1,h.d2,h.d3,h.l,Nat.le_trans h.hN hf.size⟩
theorem zgG {m:Nat} {w W:World} {b i:Nat} {v:Value} (h:Fr (·=m) w W) (hc:w.cell? ⟨b,i,none⟩=some v) (h1:¬b=m):W.cell? ⟨b,i,none⟩=some v:=by
 have hlt:b<w.heap.size:=by
  rcases Nat.lt_or_ge b w.heap.size with h|h
  · exact h
  · simp [World.cell?,Array.getElem?_eq_none h] at hc
 exact (World.cell?_of_block (w:=w) (h.block b hlt h1)).trans hc
theorem zqB:zH 148:=λ_ _=>by kernel_rfl
theorem zn2 (N:Nat) (c:Sc) (ev nv:Value) (i mb hb ib zb:Nat) (hmb:N<=mb) :
 Vis N (·=mb) 148 #[.pointer (some ⟨hb,0,none⟩),.pointer (some ⟨ib,0,none⟩),.pointer (some ⟨zb,0,none⟩)] (λ_ _=>True) zak (λL t=>L++zcO c i t) (LkI N c ev nv i mb hb ib zb) where
 enters:=zqB
 hT:=λk e=>e▸hmb
 keep:=λs w w' h hB=>h.keep hB
 sub:=λ_ _ _ _ _ _=>trivial
 call:=by
  intro t v L w hT hN hI _
  obtain ⟨xe,cpe,nb,rfl,rfl,hnb⟩:=hI.sc.shape
  have HNv:=za (zf2 w hT)
  obtain ⟨b,args,vs,rfl,hb',hblk,_⟩:=hT.ptr
  obtain ⟨m0,m1,m2,m3,m4,m5,mf,mz⟩:=zt hblk
  obtain ⟨a0,af,az⟩:=zu hI.x1
  obtain ⟨i0,if',iz⟩:=zu hI.x2
  obtain ⟨s0,s1,sf,sz⟩:=zp hI.x3
  have d1:=hI.d1
  have d2:=hI.d2
  have d3:=hI.d3
  have hbm:¬b=mb:=by omega
  have HI:=za hI
  have HIx:=za (zaz t.s (t.nm:Int) w.drew (hI.sc.old (λ_ _=>rfl)) hN)
  clear hT hI hblk
  show Calls Tryz.prog _ #[.pointer (some ⟨b,0,none⟩),.pointer (some ⟨hb,0,none⟩),.pointer (some ⟨ib,0,none⟩),.pointer (some ⟨zb,0,none⟩)] w _
  cases hnv:zaJ t.k with
  | true =>
    have h9:¬t.k=9:=by intro e;rw [e] at hnv;cases hnv
    have HT:Hid (zcO c i t=[(i,c.idx t.s)]):=by unfold Hid zcO;rw [if_pos hnv]
    have HG:Hid (zak t=true):=by unfold Hid zak;simp [h9]
    rw [hnv] at HNv
    have h9':¬(t.k:Int)=9:=by omega
    clear hnv h9 m1 m4 m5
    go_enter Tryz.func148,Tryz.ntmps148
    go_upto_region 2 with (go_at_call 101;refine HNv.out.mono ?_;rintro e w' ⟨rfl,rfl⟩)
    go_region_held3 (λw'=>w'.cell? ⟨hb,0,none⟩=some (.map (some mb))/\w'.cell? ⟨ib,0,none⟩=some (.int .i64 (i:Int))/\w'.cell? ⟨zb,0,none⟩=some (.slice xe c.er.length cpe)/\w'.cell? ⟨zb,1,none⟩=some (.pointer (some ⟨nb,0,none⟩))/\w'.cell? ⟨b,2,none⟩=some (.string t.s)/\w'.cell? ⟨b,3,none⟩=some (.int .i64 t.nm))
     (first|(refine ⟨?_,?_,?_,?_,?_,?_⟩ <;> repeat (first|with_reducible exact a0|with_reducible exact i0|with_reducible exact s0|with_reducible exact s1|with_reducible exact m2|with_reducible exact m3|with_reducible refine zg ?_|with_reducible refine zgG HF2.out ?_ (by omega)|with_reducible refine zd HB1.out ?_ (by omega)))|go_keep)
     (first
       | (go_at_call 147;refine HA.out.mono ?_;rintro e w2 ⟨rfl,hL2,hF2⟩;have HL2:=za hL2;have HF2:=za hF2;have r0:=zgG hF2 (zd HB1.out m0 mz) hbm;clear hL2 hF2)
       | (go_at_call 72;refine HIx.out.mono ?_;rintro e w1 ⟨rfl,hB1⟩;have HB1:=za (zw hB1);have HA:=za (zhH i (c.idx t.s) w1 (HI.out.lk.keep HB1.out));clear hB1))
    go_wp2_with fail
    go_ret
    rw [HT.out,HG.out]
    exact ⟨by simp [h9'],(HI.out.keep HB1.out).put HL2.out HF2.out,(zgi HB1.out).trans HF2.out⟩
  | false =>
    have HT:Hid (zcO c i t=[]):=by unfold Hid zcO;rw [hnv];rfl
    rw [hnv] at HNv
    clear hnv
    by_cases h9:t.k=9
    · have HG:Hid (zak t=false):=by unfold Hid zak;simp [h9]
      have m0':w.cell? ⟨b,0,none⟩=some (.int .i64 9):=by rw [m0,h9];rfl
      clear h9 m0
      go_enter Tryz.func148,Tryz.ntmps148
      go_wp2_with (go_at_call 101;refine HNv.out.mono ?_;rintro e w' ⟨rfl,rfl⟩)
      go_ret
      rw [HT.out,HG.out,List.append_nil]
      exact ⟨rfl,HI.out,Fr.refl _ _⟩
    · have HG:Hid (zak t=true):=by unfold Hid zak;simp [h9]
      have h9':¬(t.k:Int)=9:=by omega
      clear h9
      go_enter Tryz.func148,Tryz.ntmps148
      go_wp2_with (go_at_call 101;refine HNv.out.mono ?_;rintro e w' ⟨rfl,rfl⟩)
      go_ret
      rw [HT.out,HG.out,List.append_nil]
      exact ⟨by simp [h9'],HI.out,Fr.refl _ _⟩
theorem zib {α β:Type} (f:α->List β):∀(l:List α) (L:List β),l.foldl (λL t=>L++f t) L=L++l.flatMap f:=by
 intro l
 induction l with
 | nil=>intro L;simp
 | cons a l ih=>intro L;rw [List.foldl_cons,ih,List.flatMap_cons,List.append_assoc]
end
section
open Go.RowKit
attribute [local go_sem ↓] Go.wp_at_zero Go.wp_at_succ
structure LkO (N:Nat) (c:Sc) (ev nv:Value) (mb hb zb cb:Nat) (L:List (Nat×Nat)) (w:World):Prop where
 lk:za8 w mb L
 sc:ScV w N c ev nv
 ck:za7 w c cb
 x1:w.heap[hb]?=some (.cells #[.map (some mb)] 229 (0,0))
 x3:w.heap[zb]?=some (.cells #[ev,nv] 88 (0,0))
 d1:¬hb=mb
 d2:¬cb=mb
 d3:¬zb=mb
 l:N<=mb
 hN:N<=w.heap.size
theorem LkO.keep {N:Nat} {c:Sc} {ev nv:Value} {mb hb zb cb:Nat} {L:List (Nat×Nat)} {w w':World} (h:LkO N c ev nv mb hb zb cb L w) (hB:Below w.heap.size w w'):LkO N c ev nv mb hb zb cb L w' :=
 ⟨h.lk.keep hB,h.sc.old (zm hB h.hN),h.ck.keep hB,(hB.block _ (ze h.x1)).trans h.x1,(hB.block _ (ze h.x3)).trans h.x3,h.d1,h.d2,h.d3,h.l,Nat.le_trans h.hN hB.size⟩
theorem LkO.put {N:Nat} {c:Sc} {ev nv:Value} {mb hb zb cb:Nat} {L L':List (Nat×Nat)} {w w':World} (h:LkO N c ev nv mb hb zb cb L w) (hl:za8 w' mb L') (hf:Fr (·=mb) w w'):LkO N c ev nv mb hb zb cb L' w' :=
 ⟨hl,h.sc.old (hf.old h.hN (λ_ e=>e▸h.l)),h.ck.of' (hf.block _ h.ck.lt h.d2),(hf.block _ (ze h.x1) h.d1).trans h.x1,(hf.block _ (ze h.x3) h.d3).trans h.x3,h.d1,h.d2,h.d3,h.l,Nat.le_trans h.hN hf.size⟩
theorem LkO.on {N:Nat} {c:Sc} {ev nv:Value} {mb hb zb cb:Nat} {L:List (Nat×Nat)} {w:World} (h:LkO N c ev nv mb hb zb cb L w) {i ib:Nat} (hi:w.heap[ib]?=some (.cells #[.int .i64 (i:Int)] 3 (0,0))) (d:¬ib=mb):LkI N c ev nv i mb hb ib zb L w :=
 ⟨h.lk,h.sc,h.x1,hi,h.x3,h.d1,d,h.d3,h.l,h.hN⟩
theorem zgy {N:Nat} {c:Sc} (hc:zbr c) {ev nv:Value} (w:World) (h:ScV w N c ev nv) (hN:N<=w.heap.size) :
 Calls Tryz.prog 113 #[.agg #[ev,nv]] w (λe w'=>∃mb,e=.returned (.map (some mb))/\w.heap.size<=mb/\za8 w' mb c.linksL/\Below w.heap.size w w'):=by
 obtain ⟨xe,cpe,nb,rfl,rfl,hnb⟩:=h.shape
 have HSc:=za h
 obtain ⟨nb',vs,qv,xs,e9,hnt⟩:=h.nd
 cases e9
 obtain ⟨xv,cpv,rfl⟩:=zB hnt.vown
 obtain ⟨xq,cpq,rfl⟩:=zB hnt.own
 have HNt:=za hnt
 have h16:c.nd.eqs.length<=9223372036854775807:=by
  rcases hnt.own.2 with ⟨_,h⟩|⟨g,cap,cur,hv,_,_,h3,h4,_⟩
  · omega
  · unfold maxLen at h4;omega
 have hmm:=@run_makeMap Tryz.prog
 have hmf:∀(fn:Go.Fn) (first cap:Array Value) (w:World),(Instr.makeFunc fn first cap).run Tryz.prog w=.ok (.func fn first cap) w:=λ_ _ _ _=>rfl
 have HClo:=za (λo1 o2 o3=>zeC (((w.alloc o1).alloc o2).alloc o3) (h.old (zot hN o1 o2 o3)) (by rw [zsb,zsb,zsb];omega))
 have HEq:=za hc.nd.eqs
 clear h hnt hc
 go_enter Tryz.func113,Tryz.ntmps113
 go_upto_region 3 with (go_at_call 66;refine (HClo.out _ _ _).mono ?_;rintro e w1 ⟨cb,rfl,hcbz,hCk,hB1⟩;have HCk:=za hCk;have HB1:=za hB1;clear hCk hB1)
 rw [zsb,zsb,zsb] at hcbz
 refine zn (λW=>LkO N c (.slice xe c.er.length cpe) (.pointer (some ⟨nb,0,none⟩)) (w.heap.size+1) (w.heap.size+1+1) w.heap.size cb [] W/\Below w.heap.size w W) ⟨⟨⟨[],⟨#[],0,(HB1.out.block _ (by simp)).trans (al3 w _ _ _).2.1,rfl⟩,λp=>by simp [zaT],λk v h=>by simp [zaT] at h⟩,HSc.out.old (zm (zg2 HB1.out) hN),HCk.out,(HB1.out.block _ (by simp)).trans (al3 w _ _ _).2.2,(HB1.out.block _ (by simp;omega)).trans (al3 w _ _ _).1,by omega,by omega,by omega,by omega,by have:=(zg2 HB1.out).size;omega⟩,zg2 HB1.out⟩ ?_
 rintro W ⟨hIW,hBW⟩
 obtain ⟨m0,m1,m2,m3,m4,m5,mf,mz⟩:=zt ((hBW.block nb (by omega)).trans HNt.out.blk)
 obtain ⟨s0,s1,sf,sz⟩:=zp hIW.x3
 have HIW:=za hIW
 have HBW:=za hBW
 clear hIW hBW HB1 HCk HClo
 go_wp2_with fail
 go_loopg [20] (c.nd.eqs.length+1) (λj i wr=>∃(k:Nat) (L1:List (Nat×Nat)),k+j=c.nd.eqs.length+1/\k<=c.nd.eqs.length/\i=.int .i64 k/\Hid (LkO N c (.slice xe c.er.length cpe) (.pointer (some ⟨nb,0,none⟩)) (w.heap.size+1) (w.heap.size+1+1) w.heap.size cb L1 wr)/\Hid (c.linksL=L1++(c.nd.eqs.drop k).flatMap (λq=>q.ns.flatMap (zaO c q)))/\Hid (Below w.heap.size w wr))
 case atStart=>exact ⟨0,[],by omega,Nat.zero_le _,rfl,HIW.out,rfl,HBW.out⟩
 case round =>
  clear HIW HBW s0 s1 sf sz m0 m1 m2 m3 m4 m5 mf mz
  obtain ⟨k,L1,hkj,hk,rfl,HI,HD,HB⟩:=hrel
  have hO:=zm HB.out hN
  by_cases hlt:k<c.nd.eqs.length
  · obtain ⟨wo,rfl⟩:∃wo,wo=wr:=⟨_,rfl⟩
    obtain ⟨gko,rfl⟩:∃g,g=gk:=⟨_,rfl⟩
    obtain ⟨q,hq⟩:∃q,c.nd.eqs[k]?=some q:=⟨_,zsc hlt⟩
    have hN2:=HNt.out.old hO
    obtain ⟨g,lv,rv,rfl,c0,c1,c2,hE⟩:=zcd hN2.own hN2.eqs hq rfl
    obtain ⟨rb,_,_,rfl,_⟩:=hE.tt.ptr
    obtain ⟨xl,cl,rfl⟩:=zB hE.own
    have hgN:=HNt.out.elo g rfl
    have HE:=za hE
    have Hql:=za (HEq.out q (List.mem_of_getElem? hq)).1
    have hNo:=HI.out.hN
    have h17:q.ns.length<=9223372036854775807:=by
     rcases hE.own.2 with ⟨_,h⟩|⟨g,cap,cur,hv,_,_,h3,h4,_⟩
     · omega
     · unfold maxLen at h4;omega
    have HT:Hid (c.linksL=(L1++q.ns.flatMap (zaO c q))++(c.nd.eqs.drop (k+1)).flatMap (λq=>q.ns.flatMap (zaO c q))):=by
     obtain ⟨h1,h2⟩:=List.getElem?_eq_some_iff.1 hq
     unfold Hid
     rw [HD.out,List.drop_eq_getElem_cons h1,List.flatMap_cons,h2,List.append_assoc]
    have HkX:=za (HI.out.keep (zq wo (.cells #[.slice xl q.ns.length cl,.int .i64 q.a,.pointer (some ⟨rb,0,none⟩)] 166)))
    have HwX:=za (zaU HB.out (Nat.le_refl _) (.cells #[.slice xl q.ns.length cl,.int .i64 q.a,.pointer (some ⟨rb,0,none⟩)] 166))
    have HqX:=za (zc wo (.cells #[.slice xl q.ns.length cl,.int .i64 q.a,.pointer (some ⟨rb,0,none⟩)] 166))
    clear hN2 hE hq HD hO
    go_wp2_with fail
    go_loopg [27] (q.ns.length+1) (λj i wr=>∃(k2:Nat) (L2:List (Nat×Nat)),k2+j=q.ns.length+1/\k2<=q.ns.length/\i=.int .i64 k2/\Hid (LkO N c (.slice xe c.er.length cpe) (.pointer (some ⟨nb,0,none⟩)) (w.heap.size+1) (w.heap.size+1+1) w.heap.size cb L2 wr)/\Hid (L1++q.ns.flatMap (zaO c q)=L2++(q.ns.drop k2).flatMap (zaO c q))/\Hid (Below w.heap.size w wr)/\Hid (wr.heap[wo.heap.size]?=some (.cells #[.slice xl q.ns.length cl,.int .i64 q.a,.pointer (some ⟨rb,0,none⟩)] 166 (0,0))))
    case atStart=>exact ⟨0,L1,by omega,Nat.zero_le _,rfl,HkX.out,rfl,HwX.out,HqX.out⟩
    case round =>
     clear HkX HwX HqX c0 c1 c2
     obtain ⟨k2,L2,hkj2,hk2,rfl,HI2,HD2,HB2,HQ2⟩:=hrel
     by_cases hlt2:k2<q.ns.length
     · obtain ⟨s,hs⟩:∃s,q.ns[k2]?=some s:=⟨_,zsc hlt2⟩
       obtain ⟨p,hp⟩:∃p,q.ps[k2]?=some p:=⟨_,zsc (by have:=Hql.out;omega)⟩
       have hOe:Old N wo wr:=λb hb=>(zm HB2.out hN b hb).trans (zm HB.out hN b hb).symm
       have hE2:=HE.out.old hOe
       obtain ⟨gl,rfl,c0,c1⟩:=zbe hE2.own hs hp rfl
       have hglN:=HE.out.lo gl rfl
       have hNs:=HI2.out.hN
       have HE2:=za hE2
       have HT2:Hid (L1++q.ns.flatMap (zaO c q)=(L2++zaO c q s)++(q.ns.drop (k2+1)).flatMap (zaO c q)):=by
        obtain ⟨h1,h2⟩:=List.getElem?_eq_some_iff.1 hs
        unfold Hid
        rw [HD2.out,List.drop_eq_getElem_cons h1,List.flatMap_cons,h2,List.append_assoc]
       obtain ⟨s0,s1,sf,sz⟩:=zp HI2.out.x3
       have hmz:=HI2.out.lk.lt
       have hqz:=ze HQ2.out
       have HIx:=za (zaz s (p:Int) (wr.alloc (.cells #[.string s,.int .i64 p] 93)) (HI2.out.keep (zq wr _)).sc (HI2.out.keep (zq wr _)).hN)
       clear HD2 hE2 hs hp hOe
       go_upto_region 11 with (first
        | (go_at_call 71;refine (HOf.out _).mono ?_;rintro e w2 ⟨rfl,hB4⟩;have HB4:=za (zE hB4);have HZi:=za ((hB4.block _ (by simp)).trans (zc w1 _));clear hB4)
        | (go_at_call 72;refine HIx.out.mono ?_;rintro e w1 ⟨rfl,hB3⟩;have HB3:=za (zE hB3);have hz3:=HB3.out.size;have HI3:=za (HI2.out.keep HB3.out);have HOf:=za (λo=>zbC (c.idx s) (w1.alloc o) (HI3.out.keep (zq w1 o)).ck);clear hB3))
       have hz4:=HB4.out.size
       have hlz:=HB2.out.size
       refine zn (λW=>LkO N c (.slice xe c.er.length cpe) (.pointer (some ⟨nb,0,none⟩)) (w.heap.size+1) (w.heap.size+1+1) w.heap.size cb L2 W/\Below wr.heap.size wr W/\W.heap[w1.heap.size]?=some (.cells #[.int .i64 (c.idx s:Nat)] 3 (0,0))/\W.heap[w2.heap.size]?=some (.cells #[.int .i64 ((c.of (c.idx s)).1:Nat),.int .i64 ((c.of (c.idx s)).2:Nat)] 169 (0,0))) ⟨(HI3.out.keep HB4.out).keep (zq w2 _),zaU (HB3.out.trans (HB4.out.mono hz3)) (Nat.le_refl _) _,(Below.heap_alloc _ _ _ (by have:=ze HZi.out;omega)).trans HZi.out,zc w2 _⟩ ?_
       rintro W ⟨hIW,hBW,hZi,hZk⟩
       obtain ⟨k0,k1,kf,kz⟩:=zp hZk
       obtain ⟨i0,if',iz⟩:=zu hZi
       obtain ⟨a0,af,az⟩:=zu hIW.x1
       obtain ⟨q0,q1,q2,qf,qz⟩:=zL ((hBW.block _ hqz).trans HQ2.out)
       have hzW:=hBW.size
       have hn1:¬w1.heap.size=w.heap.size+1:=by omega
       have hn2:¬wo.heap.size=w.heap.size+1:=by have:=HI.out.lk.lt;omega
       have hn3:¬w.heap.size+1+1=w.heap.size+1:=by omega
       have HIW:=za hIW
       have HBW:=za hBW
       have HZW:=za hZi
       have HWk:=za (λ(L3:List (Nat×Nat)) (W3:World) (hI3:LkI N c (.slice xe c.er.length cpe) (.pointer (some ⟨nb,0,none⟩)) (c.idx s) (w.heap.size+1) (w.heap.size+1+1) w1.heap.size w.heap.size L3 W3) (hT3:TT W3 N q.r (.pointer (some ⟨rb,0,none⟩)))=>ziV (zn2 N c (.slice xe c.er.length cpe) (.pointer (some ⟨nb,0,none⟩)) (c.idx s) (w.heap.size+1) (w.heap.size+1+1) w1.heap.size w.heap.size hI3.l) q.r (.pointer (some ⟨rb,0,none⟩)) L3 W3 hT3 hI3.hN hI3 trivial)
       clear hIW hBW hZi hZk HB3 HB4 HZi HI3 HOf HIx
       by_cases hsg:(c.of (c.idx s)).2=0
       · have hsg':((c.of (c.idx s)).2:Int)=0:=by omega
         have HL:Hid (zaO c q s=(zaV zak q.r).flatMap (zcO c (c.idx s))):=by unfold Hid zaO;simp only [hsg,if_pos,List.nil_append]
         have HW3:=za (HWk.out L2 W (HIW.out.on HZW.out hn1) (HE2.out.tt.old (zm HBW.out hNs)))
         clear hsg
         go_wp2_with (go_at_call 136;refine HW3.out.mono ?_;rintro e w5 ⟨rfl,hI5,hF5⟩;have HI5:=za hI5;have HF5:=za hF5;clear hI5 hF5)
         go_roundg (gk-1)
         case measure=>omega
         have hI6:=HI5.out.lk
         rw [zib,<- HL.out] at hI6
         exact ⟨k2+1,L2++zaO c q s,by omega,by omega,by go_num,HIW.out.put hI6 HF5.out,HT2.out,zbR (HB2.out.trans (HBW.out.mono hlz)) HF5.out (by omega),(HF5.out.block _ qz hn2).trans ((HBW.out.block _ hqz).trans HQ2.out)⟩
       · have hsg':¬((c.of (c.idx s)).2:Int)=0:=by omega
         have HL:Hid (zaO c q s=[(c.idx s,(c.of (c.idx s)).1)]++(zaV zak q.r).flatMap (zcO c (c.idx s))):=by unfold Hid zaO;simp only [hsg,if_neg,not_false_eq_true]
         have HA:=za (zhH (c.idx s) (c.of (c.idx s)).1 W HIW.out.lk)
         clear hsg
         go_wp2_with (first
          | (go_at_call 136;refine (HWk.out _ w4 (HI4.out.on ((HF4.out.block _ iz hn1).trans HZW.out) hn1) (HE2.out.tt.old ((zm HBW.out hNs).trans (HF4.out.old HIW.out.hN (λ_ e=>e▸HIW.out.l))))).mono ?_;rintro e w5 ⟨rfl,hI5,hF5⟩;have HI5:=za hI5;have HF5:=za hF5;clear hI5 hF5)
          | (go_at_call 147;refine HA.out.mono ?_;rintro e w4 ⟨rfl,hL4,hF4⟩;have HI4:=za (HIW.out.put hL4 hF4);have HF4:=za hF4;have q2':=zgG hF4 q2 hn2;clear hL4 hF4))
         go_roundg (gk-1)
         case measure=>omega
         have hI6:=HI5.out.lk
         rw [zib,List.append_assoc,<- HL.out] at hI6
         exact ⟨k2+1,L2++zaO c q s,by omega,by omega,by go_num,HI4.out.put hI6 HF5.out,HT2.out,zbR (zbR (HB2.out.trans (HBW.out.mono hlz)) HF4.out (by omega)) HF5.out (by omega),(HF5.out.block _ (by have:=HF4.out.size;omega) hn2).trans ((HF4.out.block _ qz hn2).trans ((HBW.out.block _ hqz).trans HQ2.out))⟩
     · have ek:k2=q.ns.length:=by omega
       subst ek
       rw [List.drop_length,List.flatMap_nil,List.append_nil] at HD2
       go_wp2_with fail
       go_roundg (gko-1)
       case measure=>omega
       refine ⟨k+1,L2,by omega,by omega,by go_num,HI2.out,?_,HB2.out⟩
       rw [<- HD2.out]
       exact HT.out
  · have ek:k=c.nd.eqs.length:=by omega
    subst ek
    rw [List.drop_length,List.flatMap_nil,List.append_nil] at HD
    obtain ⟨a0,af,az⟩:=zu HI.out.x1
    clear hO
    go_wp2_with fail
    go_ret
    refine ⟨_,rfl,by omega,?_,HB.out⟩
    rw [HD.out]
    exact HI.out.lk
end
section
open Go.RowKit
attribute [local go_sem ↓] Go.wp_at_zero Go.wp_at_succ
def zcC (c:Sc) (L:List (Nat×Nat)) (q o:Qn):Bool:=o.ns.any λs=>decide ((c.idx (q.ns.headD ⟨#[]⟩),c.idx s)∈L)
theorem zoK {α:Type} {f:α->Bool} {l:List α} {k:Nat} {x:α} (h:l[k]?=some x):(l.drop k).any f=(f x||(l.drop (k+1)).any f):=by
 obtain ⟨h1,h2⟩:=List.getElem?_eq_some_iff.1 h
 rw [List.drop_eq_getElem_cons h1,List.any_cons,h2]
theorem zm6 {N:Nat} {c:Sc} {ev nv:Value} {mb:Nat} {L:List (Nat×Nat)} (q o:Qn) (lq rq lo ro:Value) (hq1:1<=q.ns.length) (hql:q.ns.length=q.ps.length) (hol:o.ns.length=o.ps.length) (w:World) (h:ScV w N c ev nv) (hN:N<=w.heap.size) (hL:za8 w mb L) (hq:EqV w N q lq rq) (ho:EqV w N o lo ro) :
 Calls Tryz.prog 120 #[.agg #[ev,nv],.map (some mb),.agg #[lq,.int .i64 q.a,rq],.agg #[lo,.int .i64 o.a,ro]] w (λe w'=>e=.returned (.bool (zcC c L q o))/\Below w.heap.size w w'):=by
 obtain ⟨xe,cpe,nb,rfl,rfl,hnb⟩:=h.shape
 obtain ⟨xq,cq,rfl⟩:=zB hq.own
 obtain ⟨xo,co,rfl⟩:=zB ho.own
 obtain ⟨rb,_,_,rfl,_⟩:=hq.tt.ptr
 obtain ⟨rc,_,_,rfl,_⟩:=ho.tt.ptr
 obtain ⟨s,ss,hss⟩:∃s ss,q.ns=s::ss:=by
  cases hx:q.ns with
  | nil=>rw [hx] at hq1;simp at hq1
  | cons s ss=>exact ⟨s,ss,rfl⟩
 obtain ⟨p,pp,hpp⟩:∃p pp,q.ps=p::pp:=by
  cases hx:q.ps with
  | nil=>rw [hx] at hql;simp at hql;rw [hql] at hq1;simp at hq1
  | cons s ss=>exact ⟨s,ss,rfl⟩
 obtain ⟨gq,rfl,a0,a1⟩:=zbe hq.own (k:=0) (s:=s) (p:=p) (by rw [hss];rfl) (by rw [hpp];rfl) rfl
 have hgq:=hq.lo gq rfl
 have h17:o.ns.length<=9223372036854775807:=by
  rcases ho.own.2 with ⟨_,h⟩|⟨g,cap,cur,hv,_,_,h3,h4,_⟩
  · omega
  · unfold maxLen at h4;omega
 have hM:zcC c L q o=(o.ns.drop 0).any λs'=>decide ((c.idx s,c.idx s')∈L):=by unfold zcC;rw [hss];rfl
 have hlen0:(0:Int)<(q.ns.length:Int):=by omega
 have hlenN:0<q.ns.length:=hq1
 have hlenE:¬q.ns=[]:=by rw [hss];simp
 have HM:=za hM
 have HSc:=za h
 have HL:=za hL
 have HO:=za ho
 have Hol:=za hol
 have Ha0:=za a0
 have Ha1:=za a1
 clear h hL hq ho hM hss hpp hql hol a0 a1 hq1
 go_enter Tryz.func120,Tryz.ntmps120
 go_upto_region 1 with fail
 refine zn (λW=>Below w.heap.size w W/\W.heap[w.heap.size]?=some (.cells #[.slice xe c.er.length cpe,.pointer (some ⟨nb,0,none⟩)] 88 (0,0))/\W.heap[w.heap.size+1]?=some (.cells #[.slice (some ⟨gq,0,none⟩) q.ns.length cq,.int .i64 q.a,.pointer (some ⟨rb,0,none⟩)] 166 (0,0))/\W.heap[w.heap.size+1+1]?=some (.cells #[.slice xo o.ns.length co,.int .i64 o.a,.pointer (some ⟨rc,0,none⟩)] 166 (0,0))) ⟨zcz w _ _ _,(al3 w _ _ _).1,(al3 w _ _ _).2.1,(al3 w _ _ _).2.2⟩ ?_
 rintro W ⟨hB,hX,hY,hZ⟩
 obtain ⟨z0,z1,z2,zf,zz⟩:=zL hZ
 have HB:=za hB
 have HX:=za hX
 have HY:=za hY
 clear hB hX hY hZ
 go_wp2_with fail
 go_loopg [14] (o.ns.length+1) (λj i wr=>∃k:Nat,k+j=o.ns.length+1/\k<=o.ns.length/\i=.int .i64 k/\Hid (Below w.heap.size w wr)/\Hid (Below W.heap.size W wr)/\Hid (zcC c L q o=(o.ns.drop k).any λs'=>decide ((c.idx s,c.idx s')∈L)))
 case atStart=>exact ⟨0,by omega,Nat.zero_le _,rfl,HB.out,Below.refl _ _,HM.out⟩
 case round =>
  clear z0 z1 z2 zf HB HM
  obtain ⟨k,hkj,hk,rfl,HB,HBW,HM⟩:=hrel
  by_cases hlt:k<o.ns.length
  · obtain ⟨s',hs'⟩:∃s,o.ns[k]?=some s:=⟨_,zsc hlt⟩
    obtain ⟨p',hp'⟩:∃p,o.ps[k]?=some p:=⟨_,zsc (by have:=Hol.out;omega)⟩
    have hO:=zm HB.out hN
    obtain ⟨gl,rfl,c0,c1⟩:=zbe (HO.out.old hO).own hs' hp' rfl
    have hglN:=HO.out.lo gl rfl
    have hzr:=HB.out.size
    have HT:=za HM.out
    rw [zoK hs'] at HT
    clear HM hs' hp' hO
    go_upto_region 4 with fail
    refine zn (λV=>Below wr.heap.size wr V/\V.heap[wr.heap.size]?=some (.cells #[.string s',.int .i64 p'] 93 (0,0))) ⟨zq wr _,zc wr _⟩ ?_
    rintro V ⟨hV,hNV⟩
    have hWr:=HBW.out.size
    have hVr:=hV.size
    have hBV:=HBW.out.trans (hV.mono hWr)
    have hwV:=HB.out.trans (hV.mono hzr)
    obtain ⟨x0,x1,xf,xz⟩:=zp ((hBV.block _ (ze HX.out)).trans HX.out)
    obtain ⟨y0,y1,y2,yf,yz⟩:=zL ((hBV.block _ (ze HY.out)).trans HY.out)
    obtain ⟨n0,n1,nf,nz⟩:=zp hNV
    have b0:=zd hwV Ha0.out (by omega)
    have b1:=zd hwV Ha1.out (by omega)
    have hgV:gq<V.heap.size:=by omega
    have hSV:=HSc.out.old (zm hwV hN)
    have hNV':N<=V.heap.size:=by omega
    have HI1:=za (zaz s (p:Int) V.drew (hSV.old (λ_ _=>rfl)) hNV')
    have HI2:=za (λV1 (hB1:Below V.heap.size V V1)=>zaz s' (p':Int) V1 (hSV.old (zm hB1 hNV')) (Nat.le_trans hNV' hB1.size))
    have HHas:=za (λV2 (hB2:Below V.heap.size V V2)=>ze9 (c.idx s) (c.idx s') V2 ((HL.out.keep hwV).keep hB2))
    have HwV:=za hwV
    have HBV:=za hBV
    clear hV hNV hBV hwV hSV c0 c1
    cases hd:decide ((c.idx s,c.idx s')∈L) with
    | true =>
      rw [hd] at HHas HT
      clear hd
      go_region_held3 (λw'=>w'.cell? ⟨w.heap.size,0,none⟩=some (.slice xe c.er.length cpe)/\w'.cell? ⟨w.heap.size,1,none⟩=some (.pointer (some ⟨nb,0,none⟩))/\w'.cell? ⟨w.heap.size+1,0,none⟩=some (.slice (some ⟨gq,0,none⟩) q.ns.length cq)/\w'.cell? ⟨gq,0,none⟩=some (.string s)/\w'.cell? ⟨gq,1,none⟩=some (.int .i64 p)/\w'.cell? ⟨wr.heap.size,0,none⟩=some (.string s')/\w'.cell? ⟨wr.heap.size,1,none⟩=some (.int .i64 p'))
       (first|(refine ⟨?_,?_,?_,?_,?_,?_,?_⟩ <;> repeat (first|with_reducible exact x0|with_reducible exact x1|with_reducible exact y0|with_reducible exact b0|with_reducible exact b1|with_reducible exact n0|with_reducible exact n1|with_reducible refine zg ?_|with_reducible refine zj _ ?_|with_reducible refine zk (by omega) ?_|with_reducible refine zd HB3.out ?_ (by first|omega|(rw [zsb];omega))|with_reducible refine zd HB2.out ?_ (by first|omega|(rw [zsb];omega))|with_reducible refine zd HB1.out ?_ (by first|omega|(rw [zsb];omega))))|go_keep)
       (first
         | (go_at_call 115;refine (HHas.out _ HB2.out).mono ?_;rintro e w3 ⟨rfl,hB3⟩;have HB3:=za (HB2.out.trans (hB3.mono HB2.out.size));clear hB3)
         | (go_at_call 72;refine (HI2.out _ HB1.out).mono ?_;rintro e w2 ⟨rfl,hB2⟩;have HB2:=za (HB1.out.trans (hB2.mono HB1.out.size));clear hB2)
         | (go_at_call 72;refine HI1.out.mono ?_;rintro e w1 ⟨rfl,hB1⟩;have HB1:=za (zw hB1);clear hB1))
      go_wp2_with fail
      go_ret
      rw [HT.out]
      exact ⟨rfl,HwV.out.trans (HB3.out.mono (by omega))⟩
    | false =>
      rw [hd] at HHas HT
      clear hd
      go_region_held3 (λw'=>w'.cell? ⟨w.heap.size,0,none⟩=some (.slice xe c.er.length cpe)/\w'.cell? ⟨w.heap.size,1,none⟩=some (.pointer (some ⟨nb,0,none⟩))/\w'.cell? ⟨w.heap.size+1,0,none⟩=some (.slice (some ⟨gq,0,none⟩) q.ns.length cq)/\w'.cell? ⟨gq,0,none⟩=some (.string s)/\w'.cell? ⟨gq,1,none⟩=some (.int .i64 p)/\w'.cell? ⟨wr.heap.size,0,none⟩=some (.string s')/\w'.cell? ⟨wr.heap.size,1,none⟩=some (.int .i64 p'))
       (first|(refine ⟨?_,?_,?_,?_,?_,?_,?_⟩ <;> repeat (first|with_reducible exact x0|with_reducible exact x1|with_reducible exact y0|with_reducible exact b0|with_reducible exact b1|with_reducible exact n0|with_reducible exact n1|with_reducible refine zg ?_|with_reducible refine zj _ ?_|with_reducible refine zk (by omega) ?_|with_reducible refine zd HB3.out ?_ (by first|omega|(rw [zsb];omega))|with_reducible refine zd HB2.out ?_ (by first|omega|(rw [zsb];omega))|with_reducible refine zd HB1.out ?_ (by first|omega|(rw [zsb];omega))))|go_keep)
       (first
         | (go_at_call 115;refine (HHas.out _ HB2.out).mono ?_;rintro e w3 ⟨rfl,hB3⟩;have HB3:=za (HB2.out.trans (hB3.mono HB2.out.size));clear hB3)
         | (go_at_call 72;refine (HI2.out _ HB1.out).mono ?_;rintro e w2 ⟨rfl,hB2⟩;have HB2:=za (HB1.out.trans (hB2.mono HB1.out.size));clear hB2)
         | (go_at_call 72;refine HI1.out.mono ?_;rintro e w1 ⟨rfl,hB1⟩;have HB1:=za (zw hB1);clear hB1))
      go_wp2_with fail
      go_roundg (gk-1)
      case measure=>omega
      exact ⟨k+1,by omega,by omega,by go_num,HwV.out.trans (HB3.out.mono (by omega)),HBV.out.trans (HB3.out.mono (by omega)),by unfold Hid;rw [HT.out,Bool.false_or]⟩
  · have ek:k=o.ns.length:=by omega
    subst ek
    rw [List.drop_length,List.any_nil] at HM
    go_wp2_with fail
    go_ret
    rw [HM.out]
    exact ⟨rfl,HB.out⟩
theorem zgA {N:Nat} {c:Sc} {ev nv:Value} (base:Nat) (w:World) (h:ScV w N c ev nv) (hN:N<=w.heap.size) :
 Calls Tryz.prog 34 #[.agg #[ev,nv],.int .i64 (base:Int)] w (λe w'=>∃qb cb,e=.returned (.pointer (some ⟨qb,0,none⟩))/\w.heap.size<=qb/\w.heap.size<=cb/\¬qb=cb/\CqI N qb cb base c ev nv (.slice none 0 0) w'/\Below w.heap.size w w'):=by
 obtain ⟨xe,cpe,nb,rfl,rfl,hnb⟩:=h.shape
 have HSc:=za h
 clear h
 go_enter Tryz.func34,Tryz.ntmps34
 go_upto_region 1 with fail
 refine zn (λW=>Below w.heap.size w W/\W.heap[w.heap.size]?=some (.cells #[.slice xe c.er.length cpe,.pointer (some ⟨nb,0,none⟩)] 88 (0,0))) ⟨zq w _,zc w _⟩ ?_
 rintro W ⟨hB,hX⟩
 obtain ⟨x0,x1,xf,xz⟩:=zp hX
 have hWz:=hB.size
 have HC:=za (zeC W.drew ((HSc.out.old (zm hB hN)).old (λ_ _=>rfl)) (by show N<=W.heap.size;omega))
 have HB:=za hB
 clear hB hX
 go_region_held3 (λw'=>w'.cell? ⟨w.heap.size,0,none⟩=some (.slice xe c.er.length cpe)/\w'.cell? ⟨w.heap.size,1,none⟩=some (.pointer (some ⟨nb,0,none⟩)))
  (first|(refine ⟨?_,?_⟩ <;> repeat (first|with_reducible exact x0|with_reducible exact x1|with_reducible refine zg ?_|with_reducible refine zj _ ?_|with_reducible refine zk (by omega) ?_|with_reducible refine zd HB1.out ?_ (by first|omega|(rw [zsb];omega))))|go_keep)
  (first|(go_at_call 66;refine HC.out.mono ?_;rintro e w1 ⟨cb,rfl,hcz,hCk,hB1⟩;have HB1:=za (zw hB1);have HCk:=za hCk;have hcz':W.heap.size<=cb:=hcz;clear hB1 hCk hcz))
 all_goals go_wp2_with fail
 all_goals go_ret
 all_goals have hz1:=HCk.out.lt
 all_goals have hs1:=HB1.out.size
 all_goals exact ⟨_,_,rfl,by omega,by omega,by omega,⟨zc w1 _,HSc.out.old (zm (zaU (HB.out.trans (HB1.out.mono hWz)) (Nat.le_refl _) _) hN),HCk.out.keep (zq w1 _),by rw [zsb];omega⟩,zaU (HB.out.trans (HB1.out.mono hWz)) (Nat.le_refl _) _⟩
end
end Go.Proofs.YtedmpgjebafcjaaGreatDoor
