/- Part 48 of the proof: UpE UpF UpG. -/
import Derived.Test.YtedmpgjebafcjaaGreatDoorK46
set_option maxRecDepth 100000
set_option maxHeartbeats 8000000
namespace Go.Proofs.YtedmpgjebafcjaaGreatDoor
section
open Go.RowKit
theorem Tryz.infoB1:(Tryz.prog.info? 4).map (λi=>(i.zero,i.size,i.bytes))=some (some (.bool false),1,1):=by kernel_rfl
theorem Tryz.infoI1:(Tryz.prog.info? 2).map (λi=>(i.zero,i.size,i.bytes))=some (some (.int .i64 0),1,8):=by kernel_rfl
theorem zeS (l:List Nat) (bd:Nat) (s:Ir) (hl:∀x∈l,x<256):(zad l bd s).1<256:=zcI l s hl
theorem zrR {b:Bool}:∀u∈[Value.bool b],u.oneCell'=true:=by simp [Value.oneCell']
theorem zr0 {b:Int}:∀u∈[Value.int .i64 b],u.oneCell'=true:=by simp [Value.oneCell']
theorem zrk (w:World):UI (w.heap.size+1) w.heap.size (.slice none 0 0) (.slice none 0 0) (.slice none 0 0) ⟨[],0,0,[],0,[]⟩ (w.alloc (.cells #[.slice none 0 0,.int .i64 0,.int .i64 0,.slice none 0 0,.int .i64 0,.slice none 0 0] 67)) :=
 ⟨zc w _,World.ownsRow_nil _ _ _ _,World.ownsRow_nil _ _ _ _,World.ownsRow_nil _ _ _ _,by omega,(λk e=>by simp [Value.ownBlock] at e),(λk e=>by simp [Value.ownBlock] at e),by simp⟩
theorem Fr.rbs {rb c:Nat} {w w1 w2:World} (h:Fr (·=rb) w w1) (k:Fr (λk=>c<=k) w1 w2) (hc:w.heap.size<=c):Fr (·=rb) w w2:=h.trans' k (λi hi e=>by have:c<=i:=e;omega)
theorem zql (S:Nat->Addr) (rb:Nat) (v:Value) (g:Nat) (l:List Nat) (s:Ir) (w:World) (h:RL S w rb v g l s) :
 Calls Tryz.prog 41 #[.pointer (some ⟨rb,0,none⟩)] w (λe w'=>e=.returned (.pointer (some ⟨w.heap.size,0,none⟩))/\RL S w' rb v g l (zdL l s).2/\UC (w.heap.size+1) w.heap.size (zdL l s).1 w'/\Fr (·=rb) w w'):=by
 obtain ⟨i1,hi1,hi11,hi12,hi13⟩:=info_parts Tryz.infoB1
 obtain ⟨i2,hi2,hi21,hi22,hi23⟩:=info_parts Tryz.infoI1
 have Hlt:=za h.by'.lt
 have hrb:=ze h.blk
 have hz21:=h.gl.size
 have Hg:=za (λhl=>h.by'.lt' hl)
 have hy:=zcI l s h.by'.lt
 have HY:=za (λo:Obj=>zem S rb v g l s (w.alloc o) (h.below ((Below.refl _ w).alloc (Nat.le_refl _) o)))
 obtain ⟨C,hC⟩:∃C,C=zdL l s:=⟨_,rfl⟩
 rw [<- hC]
 rcases hR:zG l s with ⟨n,s1⟩
 rw [hR] at HY hy
 simp only at HY hy
 have HC:Hid (C=(let r:=zbb l n s1
  let o:=zG l r.2
  let t:=zG l o.2
  let n:=zad l 61 (zbU (decide (r.1.length+o.1<=t.1)) t.2)
  let c:=zcy l n.1 n.2
  (⟨r.1,o.1,t.1,c.1,0,[]⟩,c.2))):=by rw [hC];unfold zdL;rw [hR];rfl
 clear hR hC h
 go_enter Tryz.func41,Tryz.ntmps41
 go_wp2_with (go_at_call 40;refine (HY.out _).mono ?_;rintro e w1 ⟨rfl,h1,h2⟩;have H1:=za h1;have HU1:=za (UC.fr ⟨_,_,_,zrk w⟩ h2 (λk e=>e▸hrb));have HF1:=za (((Fr.refl (·=rb) w).alloc _).trans h2);clear h1 h2)
 go_loopg [8] (n+1) (λj i wr=>∃(k:Nat) (bs:List Bool) (t:Ir),k+j=n+1/\k<=n/\i=.int .u8 k/\Hid (bs.length=k)/\Hid (zbb l n s1=(bs++(zbb l (n-k) t).1,(zbb l (n-k) t).2))/\Hid (RL S wr rb v g l t)/\Hid (UC (w.heap.size+1) w.heap.size ⟨bs,0,0,[],0,[]⟩ wr)/\Hid (Fr (·=rb) w wr))
 case atStart=>exact ⟨0,[],s1,by omega,by omega,rfl,za rfl,za rfl,H1.out,HU1.out,HF1.out⟩
 case round =>
  obtain ⟨k,bs,t,hk,hkn,rfl,Hbs,HS,HR,HU,HF⟩:=hrel
  have hbl:bs.length<=256:=by have:=Hbs.out;omega
  clear H1 HU1 HF1
  by_cases hlt:k<n
  · have HB:=za (zez S rb v g l t 2 (by decide) wr.drew (HR.out.below (zo (Below.refl _ _))))
    have hy2:=zeS l 2 t Hlt.out
    have HT:Hid (zbb l (n-k) t=(((zad l 2 t).1==1)::(zbb l (n-(k+1)) (zad l 2 t).2).1,(zbb l (n-(k+1)) (zad l 2 t).2).2)):=by
     unfold Hid
     rw [show n-k=(n-(k+1))+1 by omega];rfl
    rcases hR:zad l 2 t with ⟨y,t1⟩
    rw [hR] at HB hy2 HT
    simp only at HB hy2 HT
    obtain ⟨q,hq⟩:∃q:Bool,q=(y==1):=⟨_,rfl⟩
    rw [<- hq] at HT
    have hyq:((y:Int)==1)=q:=by rw [hq];cases y with
     | zero=>rfl
     | succ y=>cases y with
       | zero=>rfl
       | succ y=>simp;omega
    obtain ⟨bv,cv,rv,hI⟩:=HU.out
    obtain ⟨xb,cpb,rfl⟩:=zbP hI.bown
    obtain ⟨m0,m1,m2,m3,m4,m5,mf,mz⟩:=zt hI.blk
    have hmx:bs.length+1<=maxLen:=by unfold maxLen;omega
    have hby:(bs.length+1)*1<=140737488355328:=by omega
    have Hmx:=za hmx
    have Hby:=za hby
    have hne:¬w.heap.size=rb:=by omega
    have HI:=za hI
    simp only at m0 m1
    clear hmx hby hI hR hq m2 m3 m4 m5
    go_wp2_with fail
    go_region_law (first
     | (revert H1;intro H1;refine zJ _ rfl (.tmp 14) (.tmp 18) 64 rfl (w.heap.size+1) 4 i1 _ 1 1 Tryz.underlying64 hi1 hi11 hi12 hi13 rfl (by decide) (.slice xb bs.length cpb) bs.length (bs.map .bool) rfl (zD H2.out.bown _) ⟨w1.heap.size,0,none⟩ 1 1 [.bool _] rfl rfl (zN (zc w1 _) rfl) zrR Hmx.out Hby.out (by simp;omega) ?_;intro v' w9 hown9 hgrow hnew;obtain ⟨g9,cap9,rfl,hg9⟩:=zM hown9 (by omega);have hF9:=Fr.of_grown hgrow;have hk9:=(hF9.block w.heap.size (by simp;omega) (λh=>by have:=(H2.out.bown.lt _ h).1;omega)).trans ((Below.heap_alloc _ _ _ (by omega)).trans H2.out.blk);obtain ⟨d0,d1,d2,d3,d4,d5,df,dz⟩:=zt hk9;have HF9:=za hF9;have Hown9:=za hown9;have Hnew9:=za hnew;clear hown9 hgrow hnew hF9 hk9)
     | (refine zde rfl 78 (.tmp 15) (.const (.int .i64 2)) 179 3 rfl (λ_ _=>by kernel_rfl) _ _ rfl rfl HB.out ?_;rintro e w1 ⟨rfl,h1,h2⟩;refine ⟨_,rfl,?_⟩;have H1:=za h1;have H2:=za (HI.out.fr h2.undrew (λk e=>e▸hrb));obtain ⟨c0,c1,c2,c3,c4,c5,cf,cz⟩:=zt H2.out.blk;have HF2:=za h2.undrew;have hz1:wr.heap.size<=w1.heap.size:=h2.size;have hBz:=H2.out.hB;clear h1 h2))
    all_goals go_wp2_with fail
    all_goals go_roundg (gk-1)
    all_goals first
     | omega
     | (have hC:=H2.out.booled HF9.out Hown9.out (λk e=>(Hnew9.out k e).imp id (λh=>by have h':(w1.alloc (.cells #[.bool q] 4)).heap.size<=k:=h;rw [zsb] at h';exact h'))
        exact ⟨k+1,bs++[q],t1,by omega,by omega,by go_num,za (by rw [List.length_append,Hbs.out];rfl),za (by rw [HS.out,HT.out];simp),H1.out.code hC.2 hrb Hg.out (by omega),hC.1,(HF.out.trans HF2.out).rbs hC.2 (Nat.le_refl _)⟩)
  · have ek:k=n:=by omega
    subst ek
    have hE:zbb l k s1=(bs,t):=by rw [HS.out,Nat.sub_self];simp [zbb]
    rw [hE] at HC
    simp only at HC
    have hkb:=Hbs.out
    clear HS hE Hbs hkb
    have hy1:=zcI l t Hlt.out
    have HY1:=za (λw1 (h1:RL S w1 rb v g l t)=>zem S rb v g l t w1 h1)
    rcases hR1:zG l t with ⟨o,t1⟩
    rw [hR1] at HY1 hy1 HC
    simp only at HY1 hy1 HC
    have hy2:=zcI l t1 Hlt.out
    have HY2:=za (λw1 (h1:RL S w1 rb v g l t1)=>zem S rb v g l t1 w1 h1)
    rcases hR2:zG l t1 with ⟨o2,t2⟩
    rw [hR2] at HY2 hy2 HC
    simp only at HY2 hy2 HC
    obtain ⟨q,hq⟩:∃q:Bool,q=decide (bs.length+o<=o2):=⟨_,rfl⟩
    rw [<- hq] at HC
    have HQ:=za (λw1 (h1:RL S w1 rb v g l t2)=>zeg S rb v g l t2 q w1 h1)
    obtain ⟨t3,ht3⟩:∃t3,t3=zbU q t2:=⟨_,rfl⟩
    rw [<- ht3] at HC HQ
    have hy3:=zeS l 61 t3 Hlt.out
    have HY3:=za (λw1 (h1:RL S w1 rb v g l t3)=>zez S rb v g l t3 61 (by decide) w1 h1)
    rcases hR3:zad l 61 t3 with ⟨m,t4⟩
    rw [hR3] at HY3 hy3 HC
    simp only at HY3 hy3 HC
    clear hR1 hR2 hR3 ht3 HY
    obtain ⟨wo,rfl⟩:∃wo,wo=wr:=⟨_,rfl⟩
    obtain ⟨bv,cv,rv,hI⟩:=HU.out
    obtain ⟨xb,cpb,rfl⟩:=zbP hI.bown
    have HI:=za hI
    have hne:¬w.heap.size=rb:=by omega
    have hne2:¬rb=w.heap.size:=by omega
    clear hI HU
    go_upto_region 8 with (first
     | (go_at_call 40;revert J1;intro J1;refine (HY2.out _ J1.out).mono ?_;rintro e w2 ⟨rfl,h1,h2⟩;have J2':=za h1;have JI2:=za (JS.out.1.fr h2 (λk e=>e▸hrb));obtain ⟨d0,d1,d2,d3,d4,d5,df,dz⟩:=zt JI2.out.blk;have JF2:=za h2;have JS2:=za (JI2.out.setN (i:=2) (u:=.int .i64 (o2:Nat)) (K':=⟨bs,o,o2,[],0,[]⟩) (zh _ _ _ _ JI2.out.blk) rfl rfl rfl);have J2:=za (J2'.out.code JS2.out.2 hrb Hg.out (by omega));clear h1 h2)
     | (go_at_call 40;refine (HY1.out _ HR.out).mono ?_;rintro e w1 ⟨rfl,h1,h2⟩;have J1':=za h1;have JI:=za (HI.out.fr h2 (λk e=>e▸hrb));obtain ⟨c0,c1,c2,c3,c4,c5,cf,cz⟩:=zt JI.out.blk;have JF1:=za h2;have JS:=za (JI.out.setN (i:=1) (u:=.int .i64 (o:Nat)) (K':=⟨bs,o,0,[],0,[]⟩) (zh _ _ _ _ JI.out.blk) rfl rfl rfl);have J1:=za (J1'.out.code JS.out.2 hrb Hg.out (by omega));clear h1 h2))
    have JW:=za ((((HF.out.trans JF1.out).rbs JS.out.2 (Nat.le_refl _)).trans JF2.out).rbs JS2.out.2 (Nat.le_refl _))
    refine zn (λW=>UI (w.heap.size+1) w.heap.size (.slice xb bs.length cpb) cv rv ⟨bs,o,o2,[],0,[]⟩ W/\RL S W rb v g l t2/\Fr (·=rb) w W) ⟨JS2.out.1,J2.out,JW.out⟩ ?_
    rintro W ⟨hIW,hRW,hFW⟩
    obtain ⟨p0,p1,p2,p3,p4,p5,pf,pz⟩:=zt hIW.blk
    have HIW:=za hIW
    have HRW:=za hRW
    have HFW:=za hFW
    clear hIW hRW hFW JW J1 J2 JS JS2 JI2 JF1 JF2 JI HF HR HI J1' J2' c0 c1 c2 c3 c4 c5 cf cz d0 d1 d2 d3 d4 d5 df dz w1 w2
    have hdec:decide (IntKind.i64.wrap ((bs.length:Int)+(o:Int))<=(o2:Int))=q:=by
     rw [hq];apply decide_eq_decide.2;rw [IntKind.wrap_i64];omega
    clear hq
    go_region_held3 (λw'=>w'.cell? ⟨w.heap.size,0,none⟩=some (.slice xb bs.length cpb)/\w'.cell? ⟨w.heap.size,1,none⟩=some (.int .i64 (o:Nat))/\w'.cell? ⟨w.heap.size,2,none⟩=some (.int .i64 (o2:Nat)))
     (refine ⟨?_,?_,?_⟩ <;> repeat (first|with_reducible exact p0|with_reducible exact p1|with_reducible exact p2|with_reducible exact c0|with_reducible exact c1|with_reducible exact c2|with_reducible refine zg ?_))
     (first|(go_at_call 39;refine (HQ.out _ (HRW.out.below (zo (Below.refl _ _)))).mono ?_;rintro e w1 ⟨rfl,h1,h2⟩;have K1:=za h1;have KI1:=za (HIW.out.fr h2.undrew (λk e=>e▸hrb));obtain ⟨c0,c1,c2,c3,c4,c5,cf,cz⟩:=zt KI1.out.blk;have KF1:=za (HFW.out.trans h2.undrew);clear h1 h2))
    have HW4:Hid (UC (w.heap.size+1) w.heap.size ⟨bs,o,o2,[],0,[]⟩ w1):=⟨_,_,_,KI1.out⟩
    clear HFW HRW HIW p0 p1 p2 p3 p4 p5 pf pz
    all_goals go_wp2_with (go_at_call 78;refine (HY3.out _ K1.out).mono ?_;rintro e w2 ⟨rfl,h1,h2⟩;have L1:=za h1;have LU:=za (HW4.out.fr h2 (λk e=>e▸hrb));have LF:=za (KF1.out.trans h2);clear h1 h2)
    obtain ⟨wo3,rfl⟩:∃wo,wo=w2:=⟨_,rfl⟩
    clear HW4 KI1 KF1 K1 c0 c1 c2 c3 c4 c5 cf cz HQ HY1 HY2 HY3 hdec
    go_loopg [54] (m+1) (λj i wr=>∃(k:Nat) (cs:List Int) (u:Ir),k+j=m+1/\k<=m/\i=.int .i64 k/\Hid (cs.length=k)/\Hid (zcy l m t4=(cs++(zcy l (m-k) u).1,(zcy l (m-k) u).2))/\Hid (RL S wr rb v g l u)/\Hid (UC (w.heap.size+1) w.heap.size ⟨bs,o,o2,cs,0,[]⟩ wr)/\Hid (Fr (·=rb) w wr))
    case atStart=>exact ⟨0,[],t4,by omega,by omega,rfl,za rfl,za rfl,L1.out,LU.out,LF.out⟩
    case round =>
     obtain ⟨k2,cs,u,hk2,hkm,rfl,Hcs,HS,HR,HU,HF⟩:=hrel
     have hcl:cs.length<=256:=by have:=Hcs.out;omega
     clear L1 LU LF
     by_cases hlt2:k2<m
     · have HB:=za (zf7 S rb v g l u wr.drew (HR.out.below (zo (Below.refl _ _))))
       have HT:Hid (zcy l (m-k2) u=((zcK l u).1::(zcy l (m-(k2+1)) (zcK l u).2).1,(zcy l (m-(k2+1)) (zcK l u).2).2)):=by
        unfold Hid
        rw [show m-k2=(m-(k2+1))+1 by omega];rfl
       rcases hR:zcK l u with ⟨y,u1⟩
       rw [hR] at HB HT
       simp only at HB HT
       obtain ⟨bv,cv,rv,hI⟩:=HU.out
       obtain ⟨xc,cpc,rfl⟩:=zbP hI.cown
       obtain ⟨m0,m1,m2,m3,m4,m5,mf,mz⟩:=zt hI.blk
       have hmx:cs.length+1<=maxLen:=by unfold maxLen;omega
       have hby:(cs.length+1)*8<=140737488355328:=by omega
       have Hmx:=za hmx
       have Hby:=za hby
       have HI:=za hI
       simp only at m1 m3
       clear hmx hby hI hR m0 m2 m4 m5
       go_wp2_with fail
       go_region_law (first
        | (revert H1;intro H1;refine zJ _ rfl (.tmp 60) (.tmp 63) 22 rfl (w.heap.size+1) 2 i2 _ 1 8 Tryz.underlying22 hi2 hi21 hi22 hi23 rfl (by decide) (.slice xc cs.length cpc) cs.length (zK cs) rfl (zD H2.out.cown _) ⟨w1.heap.size,0,none⟩ 1 1 [.int .i64 y] rfl rfl (zN (zc w1 _) rfl) zr0 Hmx.out Hby.out (by simp;omega) ?_;intro v' w9 hown9 hgrow hnew;obtain ⟨g9,cap9,rfl,hg9⟩:=zM hown9 (by omega);have hF9:=Fr.of_grown hgrow;have hk9:=(hF9.block w.heap.size (by simp;omega) (λh=>by have:=(H2.out.cown.lt _ h).1;omega)).trans ((Below.heap_alloc _ _ _ (by omega)).trans H2.out.blk);obtain ⟨d0,d1,d2,d3,d4,d5,df,dz⟩:=zt hk9;have HF9:=za hF9;have Hown9:=za hown9;have Hnew9:=za hnew;clear hown9 hgrow hnew hF9 hk9)
        | (refine zbL rfl 76 (.tmp 61) 179 rfl (λ_ _=>by kernel_rfl) _ rfl HB.out ?_;rintro e w1 ⟨rfl,h1,h2⟩;refine ⟨_,rfl,?_⟩;have H1:=za h1;have H2:=za (HI.out.fr h2.undrew (λk e=>e▸hrb));obtain ⟨c0,c1,c2,c3,c4,c5,cf,cz⟩:=zt H2.out.blk;have HF2:=za h2.undrew;have hz1:wr.heap.size<=w1.heap.size:=h2.size;have hBz:=H2.out.hB;clear h1 h2))
       all_goals go_wp2_with fail
       all_goals go_roundg (gk-1)
       all_goals first
        | omega
        | (have hC:=H2.out.celled HF9.out Hown9.out (λk e=>(Hnew9.out k e).imp id (λh=>by have h':(w1.alloc (.cells #[.int .i64 y] 2)).heap.size<=k:=h;rw [zsb] at h';exact h'))
           exact ⟨k2+1,cs++[y],u1,by omega,by omega,by go_num,za (by rw [List.length_append,Hcs.out];rfl),za (by rw [HS.out,HT.out];simp),H1.out.code hC.2 hrb Hg.out (by omega),hC.1,(HF.out.trans HF2.out).rbs hC.2 (Nat.le_refl _)⟩)
     · have ek:k2=m:=by omega
       subst ek
       have hE:zcy l k2 t4=(cs,u):=by rw [HS.out,Nat.sub_self];simp [zcy]
       rw [hE] at HC
       simp only at HC
       clear HS hE
       go_wp2_with fail
       go_ret
       rw [HC.out]
       exact ⟨rfl,HR.out,HU.out,HF.out⟩
def zcV (l:List Nat) (ns nc:Nat) (s:Ir):(Nat×Int)×Ir :=
 let o:=zad l 21 s
 if o.2.er=none then
  (if (zY.getD o.1 (0,0,0)).1=1 then ((o.1,(zcK l o.2).1),(zcK l o.2).2)
   else if (zY.getD o.1 (0,0,0)).1=2 then ((o.1,((zad l ns o.2).1:Nat)),(zad l ns o.2).2)
   else if (zY.getD o.1 (0,0,0)).1=3 then ((o.1,((zad l nc o.2).1:Nat)),(zad l nc o.2).2)
   else ((o.1,0),o.2))
 else ((0,0),o.2)
theorem zkx (s:Ir):s.fail.er≠none:=by
 unfold Ir.fail
 split
 · simp
 · assumption
theorem zh5 {l:List Nat} {bd:Nat} {s:Ir} (h:(zad l bd s).2.er=none):(zad l bd s).1<bd:=by
 unfold zad zbU at *
 simp only at *
 split at h
 · rename_i h1;simpa using h1
 · exact absurd h (zkx _)
theorem zjQ (k:Nat) (s:Nat×Nat×Nat) (h:zY[k]?=some s):s.1=0∨s.1=1∨s.1=2∨s.1=3:=by
 have hm:=List.mem_of_getElem? h
 have:∀s∈zY,s.1=0∨s.1=1∨s.1=2∨s.1=3:=by decide
 exact this s hm
theorem UI.lenc {B cb:Nat} {bv cv rv:Value} {K:Cd} {w:World} (h:UI B cb bv cv rv K w):∃x cp,cv=.slice x K.cells.length cp:=zbP h.cown
theorem zby {T:Nat->Prop} {w w':World} {b i:Nat} {u:Value} (hF:Fr T w w') (h:w.cell? ⟨b,i,none⟩=some u) (hb:b<w.heap.size) (hT:¬T b):w'.cell? ⟨b,i,none⟩=some u:=(World.cell?_of_block (w:=w) (hF.block b hb hT)).trans h
theorem zh2 (S:Nat->Addr) (rb cb B:Nat) (v:Value) (g:Nat) (l:List Nat) (s:Ir) (K:Cd) (w:World) (h:RL S w rb v g l s) (hU:UC B cb K w) (hrc:rb<cb) (hns:K.slots<=1000000) (hnc:K.cells.length<=1000000) :
 Calls Tryz.prog 79 #[.pointer (some ⟨rb,0,none⟩),.pointer (some ⟨cb,0,none⟩)] w (λe w'=>e=.returned (.agg #[.int .u8 ((zcV l K.slots K.cells.length s).1.1:Nat),.int .i64 (zcV l K.slots K.cells.length s).1.2])/\RL S w' rb v g l (zcV l K.slots K.cells.length s).2/\Fr (·=rb) w w'):=by
 obtain ⟨bv,cv,rv,hI⟩:=hU
 obtain ⟨xc,cpc,rfl⟩:=hI.lenc
 obtain ⟨m0,m1,m2,m3,m4,m5,mf,mz⟩:=zt hI.blk
 have hz21:=h.gl.size
 have HY:=za (λo:Obj=>zez S rb v g l s 21 (by decide) (w.alloc o) (h.below ((Below.refl _ w).alloc (Nat.le_refl _) o)))
 have hy:=zeS l 21 s h.by'.lt
 have hrb:=ze h.blk
 have hlt:∀x∈l,x<256:=h.by'.lt
 have Hlt:=za hlt
 have Hg:=za (λhl=>h.by'.lt' hl)
 obtain ⟨R,hR⟩:∃R,R=zcV l K.slots K.cells.length s:=⟨_,rfl⟩
 rw [<- hR]
 have hok:=λh=>zh5 (l:=l) (bd:=21) (s:=s) h
 unfold zcV at hR
 rcases hO:zad l 21 s with ⟨op,t⟩
 rw [hO] at HY hy hR hok
 simp only at HY hy hR hok
 have hcne:¬cb=rb:=by omega
 obtain ⟨p,er⟩:=t
 have HI:=za hI
 clear h hlt hO hI m0 m1 m4 m5
 cases er with
 | some q =>
   rw [if_neg (by simp)] at hR
   subst hR
   go_enter Tryz.func79,Tryz.ntmps79
   go_wp2_with (go_at_call 78;refine (HY.out _).mono ?_;rintro e w1 ⟨rfl,h1,h2⟩;obtain ⟨a0,a1,a2,af,az⟩:=zL h1.blk;unfold erV at a2;simp only at a2;have hb1:=(h2.block w.heap.size (by simp) (by omega)).trans (zc w _);obtain ⟨b0,b1,bf,bz⟩:=zp hb1;have H1:=za h1;have H2:=za (((Fr.refl (·=rb) w).alloc _).trans h2);clear h1 h2 hb1)
   obtain ⟨W,hW⟩:∃W,W=(w1.setCell ⟨w.heap.size,0,none⟩ (.int .u8 0)).setCell ⟨w.heap.size,1,none⟩ (.int .i64 0):=⟨_,rfl⟩
   rw [<- hW]
   have e0:W.cell? ⟨w.heap.size,0,none⟩=some (.int .u8 0):=by rw [hW];exact zdu (by decide) (za0 ⟨_,b0⟩)
   have e1:W.cell? ⟨w.heap.size,1,none⟩=some (.int .i64 0):=by rw [hW];exact za0 (zce b1)
   have hF:Fr (·=rb) w W:=by rw [hW];exact (H2.out.setNew (Nat.le_refl _) _ _).setNew (Nat.le_refl _) _ _
   have hR:RL S W rb v g l ⟨p,some q⟩:=by rw [hW];exact H1.out.code (((Fr.refl (λk=>w.heap.size<=k) w1).setCell (Or.inl (Nat.le_refl _)) _).setCell (Or.inl (Nat.le_refl _)) _) hrb Hg.out hz21
   exact bodyPost_ret (v:=.agg #[.int .u8 0,.int .i64 0]) (by simp [results,Tryz.results79,go_sem,e0,e1]) rfl ⟨rfl,hR,hF⟩
 | none =>
   rw [if_pos rfl] at hR
   have h21:=hok rfl
   obtain ⟨sh,hsh⟩:∃sh,zY[op]?=some sh:=⟨_,zsc (show op<zY.length from h21)⟩
   have hgd:(zY.getD op (0,0,0)).1=sh.1:=by rw [List.getD_eq_getElem?_getD,hsh];rfl
   rw [hgd] at hR
   have h3:=zjQ op sh hsh
   have hsa:∀w1,zbW w1->w1.cell? ⟨12,op*3,none⟩=some (.int .i64 (sh.1:Nat)):=λw1 h1=>h1.a op sh hsh
   have Hsa:=za hsa
   have hsl:12<w.heap.size:=Nat.lt_of_lt_of_le (show 12<21 by decide) hz21
   obtain ⟨c,sh2⟩:=sh
   simp only at h3 Hsa hR
   have hw8:IntKind.u8.wrap (op:Int)=(op:Int):=by rw [IntKind.wrap_u8];omega
   clear hsh hgd hsa hok
   rcases h3 with rfl|rfl|rfl|rfl
   · simp only [if_neg (show ¬(0:Nat)=1 by decide),if_neg (show ¬(0:Nat)=2 by decide),if_neg (show ¬(0:Nat)=3 by decide)] at hR
     subst hR
     go_enter Tryz.func79,Tryz.ntmps79
     go_wp2_with (go_at_call 78;refine (HY.out _).mono ?_;rintro e w1 ⟨rfl,h1,h2⟩;obtain ⟨a0,a1,a2,af,az⟩:=zL h1.blk;unfold erV at a2;simp only at a2;have hz1:w.heap.size+1<=w1.heap.size:=(by have:=h2.size;simp at this;omega);have hsl1:12<w1.heap.size:=(by omega);have cz1:cb<w1.heap.size:=(by omega);have hb1:=(h2.block w.heap.size (by simp) (by omega)).trans (zc w _);obtain ⟨b0,b1,bf,bz⟩:=zp hb1;have Hb1:=za hb1;have s0:=Hsa.out w1 h1.shp;have H1:=za h1;have H2:=za (((Fr.refl (·=rb) w).alloc _).trans h2);have hm2:=zby H2.out m2 mz (by omega);have hm3:=zby H2.out m3 mz (by omega);clear h1 h2 hb1)
     obtain ⟨W,hW⟩:∃W,W=((w1.setCell ⟨w.heap.size,0,none⟩ (.int .u8 (op:Nat))).setCell ⟨w.heap.size,1,none⟩ (.int .i64 0)).alloc (.cells #[.int .u8 (op:Nat),.int .i64 0] 70):=⟨_,rfl⟩
     rw [<- hW]
     have e0:W.cell? ⟨w.heap.size,0,none⟩=some (.int .u8 (op:Nat)):=by rw [hW];exact zj _ (zdu (by decide) (za0 ⟨_,b0⟩))
     have e1:W.cell? ⟨w.heap.size,1,none⟩=some (.int .i64 0):=by rw [hW];exact zj _ (za0 (zce b1))
     have hF:Fr (·=rb) w W:=by rw [hW];exact ((H2.out.setNew (Nat.le_refl _) _ _).setNew (Nat.le_refl _) _ _).alloc _
     have hRW:RL S W rb v g l ⟨p,none⟩:=by rw [hW];exact H1.out.code ((((Fr.refl (λk=>w.heap.size<=k) w1).setCell (Or.inl (Nat.le_refl _)) _).setCell (Or.inl (Nat.le_refl _)) _).alloc _) hrb Hg.out hz21
     exact bodyPost_ret (v:=.agg #[.int .u8 (op:Nat),.int .i64 0]) (by simp [results,Tryz.results79,go_sem,e0,e1]) rfl ⟨rfl,hRW,hF⟩
   · simp only [if_true] at hR
     have HN:=za (λw1 (h1:RL S w1 rb v g l ⟨p,none⟩)=>zf7 S rb v g l ⟨p,none⟩ w1 h1)
     rcases hN:zcK l ⟨p,none⟩ with ⟨X,t2⟩
     rw [hN] at HN hR
     subst hR
     simp only at HN
     clear hN
     go_enter Tryz.func79,Tryz.ntmps79
     go_wp2_with (first
      | (go_at_call 76;revert H1;intro H1;refine (HN.out _ (H1.out.below (zq _ _))).mono ?_;rintro e w2 ⟨rfl,h1,h2⟩;have hz2:w1.heap.size+1<=w2.heap.size:=(by have:=h2.size;simp at this;omega);have hb2:=(h2.block w.heap.size (by simp;omega) (by omega)).trans ((Below.heap_alloc _ _ _ (by omega)).trans Hb1.out);obtain ⟨c0,c1,cf,cz⟩:=zp hb2;have hb3:=(h2.block w1.heap.size (by simp) (by omega)).trans (zc w1 _);obtain ⟨d0,d1,df,dz⟩:=zp hb3;have H3:=za h1;have H4:=za ((H2.out.alloc _).trans h2);clear h1 h2 hb2 hb3)
      | (go_at_call 78;refine (HY.out _).mono ?_;rintro e w1 ⟨rfl,h1,h2⟩;obtain ⟨a0,a1,a2,af,az⟩:=zL h1.blk;unfold erV at a2;simp only at a2;have hz1:w.heap.size+1<=w1.heap.size:=(by have:=h2.size;simp at this;omega);have hsl1:12<w1.heap.size:=(by omega);have cz1:cb<w1.heap.size:=(by omega);have hb1:=(h2.block w.heap.size (by simp) (by omega)).trans (zc w _);obtain ⟨b0,b1,bf,bz⟩:=zp hb1;have Hb1:=za hb1;have s0:=Hsa.out w1 h1.shp;have H1:=za h1;have H2:=za (((Fr.refl (·=rb) w).alloc _).trans h2);have hm2:=zby H2.out m2 mz (by omega);have hm3:=zby H2.out m3 mz (by omega);clear h1 h2 hb1))
     obtain ⟨W,hW⟩:∃W,W=((w2.setCell ⟨w1.heap.size,1,none⟩ (.int .i64 X)).setCell ⟨w.heap.size,0,none⟩ (.int .u8 (op:Nat))).setCell ⟨w.heap.size,1,none⟩ (.int .i64 X):=⟨_,rfl⟩
     rw [<- hW]
     have e0:W.cell? ⟨w.heap.size,0,none⟩=some (.int .u8 (op:Nat)):=by rw [hW];exact zdu (by decide) (za0 ⟨_,zk (by omega) c0⟩)
     have e1:W.cell? ⟨w.heap.size,1,none⟩=some (.int .i64 X):=by rw [hW];exact za0 (zce (zk (by omega) c1))
     have hF:Fr (·=rb) w W:=by rw [hW];exact ((H4.out.setNew (by omega) _ _).setNew (Nat.le_refl _) _ _).setNew (Nat.le_refl _) _ _
     have hRW:RL S W rb v g l t2:=by rw [hW];exact H3.out.code ((((Fr.refl (λk=>w.heap.size<=k) w2).setCell (Or.inl (show w.heap.size<=w1.heap.size by omega)) _).setCell (Or.inl (Nat.le_refl _)) _).setCell (Or.inl (Nat.le_refl _)) _) hrb Hg.out hz21
     exact bodyPost_ret (v:=.agg #[.int .u8 (op:Nat),.int .i64 X]) (by simp [results,Tryz.results79,go_sem,e0,e1]) rfl ⟨rfl,hRW,hF⟩
   · simp only [if_neg (show ¬(2:Nat)=1 by decide),if_true] at hR
     have HN:=za (λw1 (h1:RL S w1 rb v g l ⟨p,none⟩)=>zez S rb v g l ⟨p,none⟩ K.slots (by omega) w1 h1)
     rcases hN:zad l K.slots ⟨p,none⟩ with ⟨X,t2⟩
     rw [hN] at HN hR
     subst hR
     simp only at HN
     clear hN
     go_enter Tryz.func79,Tryz.ntmps79
     go_wp2_with (first
      | (go_at_call 78;revert H1;intro H1;refine (HN.out _ (H1.out.below (zq _ _))).mono ?_;rintro e w2 ⟨rfl,h1,h2⟩;have hz2:w1.heap.size+1<=w2.heap.size:=(by have:=h2.size;simp at this;omega);have hb2:=(h2.block w.heap.size (by simp;omega) (by omega)).trans ((Below.heap_alloc _ _ _ (by omega)).trans Hb1.out);obtain ⟨c0,c1,cf,cz⟩:=zp hb2;have hb3:=(h2.block w1.heap.size (by simp) (by omega)).trans (zc w1 _);obtain ⟨d0,d1,df,dz⟩:=zp hb3;have H3:=za h1;have H4:=za ((H2.out.alloc _).trans h2);clear h1 h2 hb2 hb3)
      | (go_at_call 78;refine (HY.out _).mono ?_;rintro e w1 ⟨rfl,h1,h2⟩;obtain ⟨a0,a1,a2,af,az⟩:=zL h1.blk;unfold erV at a2;simp only at a2;have hz1:w.heap.size+1<=w1.heap.size:=(by have:=h2.size;simp at this;omega);have hsl1:12<w1.heap.size:=(by omega);have cz1:cb<w1.heap.size:=(by omega);have hb1:=(h2.block w.heap.size (by simp) (by omega)).trans (zc w _);obtain ⟨b0,b1,bf,bz⟩:=zp hb1;have Hb1:=za hb1;have s0:=Hsa.out w1 h1.shp;have H1:=za h1;have H2:=za (((Fr.refl (·=rb) w).alloc _).trans h2);have hm2:=zby H2.out m2 mz (by omega);have hm3:=zby H2.out m3 mz (by omega);clear h1 h2 hb1))
     obtain ⟨W,hW⟩:∃W,W=((w2.setCell ⟨w1.heap.size,1,none⟩ (.int .i64 (X:Nat))).setCell ⟨w.heap.size,0,none⟩ (.int .u8 (op:Nat))).setCell ⟨w.heap.size,1,none⟩ (.int .i64 (X:Nat)):=⟨_,rfl⟩
     rw [<- hW]
     have e0:W.cell? ⟨w.heap.size,0,none⟩=some (.int .u8 (op:Nat)):=by rw [hW];exact zdu (by decide) (za0 ⟨_,zk (by omega) c0⟩)
     have e1:W.cell? ⟨w.heap.size,1,none⟩=some (.int .i64 (X:Nat)):=by rw [hW];exact za0 (zce (zk (by omega) c1))
     have hF:Fr (·=rb) w W:=by rw [hW];exact ((H4.out.setNew (by omega) _ _).setNew (Nat.le_refl _) _ _).setNew (Nat.le_refl _) _ _
     have hRW:RL S W rb v g l t2:=by rw [hW];exact H3.out.code ((((Fr.refl (λk=>w.heap.size<=k) w2).setCell (Or.inl (show w.heap.size<=w1.heap.size by omega)) _).setCell (Or.inl (Nat.le_refl _)) _).setCell (Or.inl (Nat.le_refl _)) _) hrb Hg.out hz21
     exact bodyPost_ret (v:=.agg #[.int .u8 (op:Nat),.int .i64 (X:Nat)]) (by simp [results,Tryz.results79,go_sem,e0,e1]) rfl ⟨rfl,hRW,hF⟩
   · simp only [if_neg (show ¬(3:Nat)=1 by decide),if_neg (show ¬(3:Nat)=2 by decide),if_true] at hR
     have HN:=za (λw1 (h1:RL S w1 rb v g l ⟨p,none⟩)=>zez S rb v g l ⟨p,none⟩ K.cells.length (by omega) w1 h1)
     rcases hN:zad l K.cells.length ⟨p,none⟩ with ⟨X,t2⟩
     rw [hN] at HN hR
     subst hR
     simp only at HN
     clear hN
     go_enter Tryz.func79,Tryz.ntmps79
     go_wp2_with (first
      | (go_at_call 78;revert H1;intro H1;refine (HN.out _ (H1.out.below (zq _ _))).mono ?_;rintro e w2 ⟨rfl,h1,h2⟩;have hz2:w1.heap.size+1<=w2.heap.size:=(by have:=h2.size;simp at this;omega);have hb2:=(h2.block w.heap.size (by simp;omega) (by omega)).trans ((Below.heap_alloc _ _ _ (by omega)).trans Hb1.out);obtain ⟨c0,c1,cf,cz⟩:=zp hb2;have hb3:=(h2.block w1.heap.size (by simp) (by omega)).trans (zc w1 _);obtain ⟨d0,d1,df,dz⟩:=zp hb3;have H3:=za h1;have H4:=za ((H2.out.alloc _).trans h2);clear h1 h2 hb2 hb3)
      | (go_at_call 78;refine (HY.out _).mono ?_;rintro e w1 ⟨rfl,h1,h2⟩;obtain ⟨a0,a1,a2,af,az⟩:=zL h1.blk;unfold erV at a2;simp only at a2;have hz1:w.heap.size+1<=w1.heap.size:=(by have:=h2.size;simp at this;omega);have hsl1:12<w1.heap.size:=(by omega);have cz1:cb<w1.heap.size:=(by omega);have hb1:=(h2.block w.heap.size (by simp) (by omega)).trans (zc w _);obtain ⟨b0,b1,bf,bz⟩:=zp hb1;have Hb1:=za hb1;have s0:=Hsa.out w1 h1.shp;have H1:=za h1;have H2:=za (((Fr.refl (·=rb) w).alloc _).trans h2);have hm2:=zby H2.out m2 mz (by omega);have hm3:=zby H2.out m3 mz (by omega);clear h1 h2 hb1))
     obtain ⟨W,hW⟩:∃W,W=((w2.setCell ⟨w1.heap.size,1,none⟩ (.int .i64 (X:Nat))).setCell ⟨w.heap.size,0,none⟩ (.int .u8 (op:Nat))).setCell ⟨w.heap.size,1,none⟩ (.int .i64 (X:Nat)):=⟨_,rfl⟩
     rw [<- hW]
     have e0:W.cell? ⟨w.heap.size,0,none⟩=some (.int .u8 (op:Nat)):=by rw [hW];exact zdu (by decide) (za0 ⟨_,zk (by omega) c0⟩)
     have e1:W.cell? ⟨w.heap.size,1,none⟩=some (.int .i64 (X:Nat)):=by rw [hW];exact za0 (zce (zk (by omega) c1))
     have hF:Fr (·=rb) w W:=by rw [hW];exact ((H4.out.setNew (by omega) _ _).setNew (Nat.le_refl _) _ _).setNew (Nat.le_refl _) _ _
     have hRW:RL S W rb v g l t2:=by rw [hW];exact H3.out.code ((((Fr.refl (λk=>w.heap.size<=k) w2).setCell (Or.inl (show w.heap.size<=w1.heap.size by omega)) _).setCell (Or.inl (Nat.le_refl _)) _).setCell (Or.inl (Nat.le_refl _)) _) hrb Hg.out hz21
     exact bodyPost_ret (v:=.agg #[.int .u8 (op:Nat),.int .i64 (X:Nat)]) (by simp [results,Tryz.results79,go_sem,e0,e1]) rfl ⟨rfl,hRW,hF⟩
structure Rw' where
 s:Ir
 dp:Int
 mx:Nat
 row:List (Nat×Int)
def goW (l:List Nat) (x:Rw'):Bool:=decide (x.s.er=none/\(x.s.at'<l.length∨0<x.dp))
def zc3 (l:List Nat) (ns nc:Nat) (x:Rw'):Rw' :=
 let i:=zcV l ns nc x.s
 let sh:=zY.getD i.1.1 (0,0,0)
 ⟨zbU (decide (0<=x.dp-sh.2.1)) i.2,x.dp-sh.2.1+sh.2.2,max x.mx (x.dp-sh.2.1+sh.2.2).toNat,x.row++[i.1]⟩
def zdw (l:List Nat) (ns nc:Nat):Nat->Rw'->Rw'
 | 0,x=>x
 | f+1,x=>if goW l x=true then zdw l ns nc f (zc3 l ns nc x) else x
theorem zg9 (l:List Nat) (s:Ir):(s.er≠none->(zG l s).2=s)/\(s.er=none->(zG l s).2.er≠none∨((zG l s).2.er=none/\(zG l s).2.at'=s.at'+1/\s.at'<l.length))/\s.at'<=(zG l s).2.at':=by
 unfold zG
 by_cases h:s.er=none
 · rw [if_pos h]
   by_cases h2:l.length<=s.at'
   · rw [if_pos h2];exact ⟨λh'=>absurd h h',λ_=>Or.inl (by simp),Nat.le_refl _⟩
   · rw [if_neg h2];exact ⟨λh'=>absurd h h',λ_=>Or.inr ⟨h,rfl,by omega⟩,Nat.le_succ _⟩
 · rw [if_neg h];exact ⟨λ_=>rfl,λh'=>absurd h' h,Nat.le_refl _⟩
theorem zks (b:Bool) (s:Ir):(zbU b s).at'=s.at':=by unfold zbU;split;rfl;exact s.fail_le
theorem zhR (b:Bool) (s:Ir):(zbU b s).er=none->s.er=none/\b=true:=by
 unfold zbU;split
 · rename_i h;exact λh'=>⟨h',h⟩
 · exact λh'=>absurd h' (zkx s)
theorem zfP (l:List Nat) (bd:Nat) (s:Ir):s.at'<=(zad l bd s).2.at'/\(s.er=none->(zad l bd s).2.er=none->s.at'+1<=(zad l bd s).2.at'):=by
 unfold zad
 simp only [zks]
 obtain ⟨h1,h2,h3⟩:=zg9 l s
 refine ⟨h3,λh hn=>?_⟩
 have:=(zhR _ _ hn).1
 rcases h2 h with h'|⟨_,h',_⟩
 · exact absurd this h'
 · omega
theorem znB (l:List Nat) (n:Nat):∀s,s.at'<=(zc2 l n s).2.at':=by
 induction n with
 | zero=>intro s;exact Nat.le_refl _
 | succ n ih=>intro s;exact Nat.le_trans (zg9 l s).2.2 (ih _)
theorem znd (l:List Nat) (ns nc:Nat) (s:Ir) (hs:s.er=none) (h:(zcV l ns nc s).2.er=none):s.at'+1<=(zcV l ns nc s).2.at':=by
 unfold zcV at *
 simp only at *
 obtain ⟨h1,h2⟩:=zfP l 21 s
 by_cases he:(zad l 21 s).2.er=none
 · rw [if_pos he] at *
   have h3:=h2 hs he
   split
   · exact Nat.le_trans h3 (znB l 8 _)
   · split
     · exact Nat.le_trans h3 (zfP l _ _).1
     · split
       · exact Nat.le_trans h3 (zfP l _ _).1
       · exact h3
 · rw [if_neg he] at *
   exact absurd h he
theorem zpb (l:List Nat) (ns nc:Nat) (s:Ir):(zcV l ns nc s).1.1<21:=by
 unfold zcV
 simp only
 by_cases he:(zad l 21 s).2.er=none
 · rw [if_pos he]
   have:=zh5 he
   split
   · exact this
   · split
     · exact this
     · split
       · exact this
       · exact this
 · rw [if_neg he];exact Nat.succ_pos 20
theorem zic (k:Nat) (s:Nat×Nat×Nat) (h:zY[k]?=some s):s.2.1<=3/\s.2.2<=1:=by
 have hm:=List.mem_of_getElem? h
 have:∀s∈zY,s.2.1<=3/\s.2.2<=1:=by decide
 exact this s hm
def zjl (l:List Nat) (x:Rw'):Nat:=if x.s.er=none then l.length-x.s.at'+1 else 0
structure RwI (x:Rw'):Prop where
 lo:-3<=x.dp
 hi:x.dp<=x.row.length
 ok:x.s.er=none->0<=x.dp
 mx:x.mx<=x.row.length
theorem znc (l:List Nat) (ns nc:Nat) (x:Rw') (h:RwI x) (hs:x.s.er=none) (sh:Nat×Nat×Nat) (hsh:zY[(zcV l ns nc x.s).1.1]?=some sh):RwI (zc3 l ns nc x):=by
 obtain ⟨h1,h2⟩:=zic _ _ hsh
 have e:zY.getD (zcV l ns nc x.s).1.1 (0,0,0)=sh:=by rw [List.getD_eq_getElem?_getD,hsh];rfl
 have h0:=h.ok hs
 have hhi:=h.hi
 have hmx:=h.mx
 unfold zc3
 simp only [e]
 refine ⟨?_,?_,λhn=>?_,?_⟩
 · simp only;omega
 · simp only [List.length_append,List.length_cons,List.length_nil];omega
 · have:=(zhR _ _ hn).2
   simp at this
   simp only;omega
 · simp only [List.length_append,List.length_cons,List.length_nil];omega
theorem zmw (l:List Nat) (ns nc:Nat) (x:Rw') (hs:x.s.er=none) (hle:(zc3 l ns nc x).s.at'<=l.length):zjl l (zc3 l ns nc x)<zjl l x:=by
 unfold zjl
 rw [if_pos hs]
 by_cases h:(zc3 l ns nc x).s.er=none
 · rw [if_pos h]
   have h1:=(zhR _ _ h).1
   have h2:=znd l ns nc x.s hs h1
   have h3:(zc3 l ns nc x).s.at'=(zcV l ns nc x.s).2.at':=zks _ _
   omega
 · rw [if_neg h];omega
theorem zih (l:List Nat) (ns nc f:Nat) (x:Rw') (h:goW l x=false):zdw l ns nc f x=x:=by
 cases f with
 | zero=>rfl
 | succ f=>unfold zdw;rw [h];rfl
theorem zpR (l:List Nat) (ns nc f:Nat) (x:Rw') (h:goW l x=true) (hf:0<f):zdw l ns nc f x=zdw l ns nc (f-1) (zc3 l ns nc x):=by
 cases f with
 | zero=>omega
 | succ f=>show zdw l ns nc (f+1) x=zdw l ns nc f _;rw [zdw,if_pos h]
end
end Go.Proofs.YtedmpgjebafcjaaGreatDoor
