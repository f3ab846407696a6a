/- Part 10 of the proof: CoeR CofC CofD CofE. -/
import Derived.Test.YtedmpgjebafcjaaGreatDoorK08
set_option maxRecDepth 100000
set_option maxHeartbeats 8000000
namespace Go.Proofs.YtedmpgjebafcjaaGreatDoor
section
open Go.RowKit
theorem zhV {st:St} (hT:Tx st.src st.t) (h1:st.is 5 [116,114,117,101]=false) (h2:st.is 5 [102,97,108,115,101]=false):opM st [1,2]=none:=by
 rw [zls st hT,h1,h2];rfl
theorem zj9 {d:Nat} {rx ra:Fn} (hX:zX d 161 rx) (gX:zv d rx) (hS:zX d 214 (zch ra)) (gA:zv d ra):ziL (d+1) (zap rx ra):=by
 intro S pb st p w hI hk2 ho hR
 by_cases he:st.er=0
 · have h0:∀M:Fn,(M st=zap rx ra st)->zap rx ra st=M st:=λ_ h=>h.symm
   by_cases h3:st.t.k=3
   · exact zlD (zap rx ra) S pb st p w hI h3 (by unfold zap;rw [if_neg (by simp [he]),if_pos h3]) hR
   have hM3:zap rx ra st=if st.is 4 [40]=true then zfQ rx st else if st.is 5 [116,114,117,101]=true then zdP zcb 1 st else if st.is 5 [102,97,108,115,101]=true then zdP zcb 0 st else if st.is 5 [105,102]=true then zdx rx st else if st.is 5 [109,101,114,103,101]=true then zeE ra st else (st.fail 2 st.t.a,0):=by
    unfold zap;rw [if_neg (by simp [he]),if_neg h3,if_neg hk2]
   cases hp:st.is 4 [40] with
   | true =>
     have hk4:st.t.k=4:=Inv.is_k hp
     rw [if_pos hp] at hM3
     refine zdG 208 (zap rx ra) _ _ _ S pb st p w hI h3 (zhV hR.tx (zeN (by omega)) (zeN (by omega))) hR hp rfl rfl (Or.inl ⟨rfl,rfl⟩) ?_
     intro w1 h1
     rw [hM3]
     exact zme hX gX S pb st p w1 hI (by omega) ho h1
   | false =>
     rw [hp,if_neg (by simp)] at hM3
     cases ht:st.is 5 [116,114,117,101] with
     | true =>
       rw [ht,if_pos rfl] at hM3
       exact zil (zap rx ra) 1 1 S pb st p w hI (Inv.is_k ht) (by rw [zls st hR.tx,ht];rfl) zrx hM3 hR
     | false =>
       rw [ht,if_neg (by simp)] at hM3
       cases hf:st.is 5 [102,97,108,115,101] with
       | true =>
         rw [hf,if_pos rfl] at hM3
         exact zil (zap rx ra) 0 2 S pb st p w hI (Inv.is_k hf) (by rw [zls st hR.tx,ht,hf];rfl) zqG hM3 hR
       | false =>
         rw [hf,if_neg (by simp)] at hM3
         have hop:=zhV hR.tx ht hf
         cases hi:st.is 5 [105,102] with
         | true =>
           have hk5:st.t.k=5:=Inv.is_k hi
           rw [hi,if_pos rfl] at hM3
           refine zdG 209 (zap rx ra) _ _ _ S pb st p w hI h3 hop hR hp hi rfl (Or.inr (Or.inl ⟨rfl,rfl,rfl⟩)) ?_
           intro w1 h1
           rw [hM3]
           exact zkZ hX gX S pb st p w1 hI (by omega) ho h1
         | false =>
           rw [hi,if_neg (by simp)] at hM3
           cases hm:st.is 5 [109,101,114,103,101] with
           | true =>
             have hk5:st.t.k=5:=Inv.is_k hm
             rw [hm,if_pos rfl] at hM3
             refine zdG 210 (zap rx ra) _ _ _ S pb st p w hI h3 hop hR hp hi hm (Or.inr (Or.inr ⟨rfl,rfl,rfl,rfl⟩)) ?_
             intro w1 h1
             rw [hM3]
             exact zmk hS gA S pb st p w1 hI (by omega) ho h1
           | false =>
             rw [hm,if_neg (by simp)] at hM3
             rw [hM3]
             exact ze8 S pb st p w hI h3 hop hR hp hi hm
 · have hk1:=hI.bad he
   have hM:zap rx ra st=(st,0):=by unfold zap;rw [if_pos he]
   rw [hM]
   refine (ze8 S pb st p w hI (by omega) (zhV hR.tx (zeN (by omega)) (zeN (by omega))) hR (zeN (by omega)) (zeN (by omega)) (zeN (by omega))).mono ?_
   rintro e w1 ⟨a,h1,h2,_,h4⟩
   exact ⟨a,h1,h2.unfail he hk1,λh=>absurd h he,h4⟩
theorem znu:∀d,zX d 161 (lev d).ex/\zX d 200 (lev d).un/\ziL d (lev d).at'/\zdI d (if d=0 then (lev 0).ex else (lev (d-1)).ex):=by
 intro d
 induction d with
 | zero =>
   have h:∀(f:FuncId) (M:Fn),zX 0 f M:=λf M S pb st p w hI ho _=>by have:=hI.op1;omega
   exact ⟨h _ _,h _ _,λS pb st p w hI _ ho _=>by have:=hI.op1;omega,λS pb st p w t hI ho _ _=>by have:=hI.op1;omega⟩
 | succ d ih =>
   obtain ⟨g1,g2,g3⟩:=zgP d
   obtain ⟨h1,h2,h3,_⟩:=ih
   have hK:=zof h1 g1
   have hN:=zj9 h1 g1 (znY h3) g3
   have ga:=zh7 g1 g3
   have ha:=znf hN hK
   have gs:=zfY ga
   have hs:=zjM ha ga
   have gu:=zhu g2 gs
   have hu:=zm9 h2 g2 hs
   have r3:=zkb hu gu
   have s3:=zcF (lv:=3) gu
   have r2:=zp2 r3 s3
   have s2:=zcF (lv:=2) s3
   have tt:=zne r2 s2
   have st:=zh6 s2
   have r1:=znl tt st
   have s1:=zcF (lv:=1) st
   have r0:=zlW r1 s1
   have s0:=zcF (lv:=0) s1
   exact ⟨zoz h1 g1 r0 s0,hu,hN,hK⟩
def za4 (st:St) (n:Nat):St:=z9 ((st.decl0 n).name.must 4 [58])
theorem zfH (S:Nat->Addr) (pb:Nat) (st:St) (w:World) (nb:Nat) (x:Option Addr) (n c:Nat) (hB:Bad st) (hn:n<=100) (hnb:nb<w.heap.size) (hc:w.cell? ⟨nb,2,none⟩=some (.slice x n c)) (hR:PL S w pb st) :
 Calls Tryz.prog 158 #[.pointer (some ⟨pb,0,none⟩),.pointer (some ⟨nb,0,none⟩)] w λe w'=>∃(ns:ByteArray) (na ty:Nat),e=.returned (.agg #[.string ns,.int .i64 na,.int .i64 ty,.int .i64 0,.int .i64 0,.string ⟨#[]⟩,.int .i64 0])/\Hid (((st.decl0 n).t.k=2->ns=(st.decl0 n).t.s/\na=(st.decl0 n).t.a)/\ty=if ((st.decl0 n).name.must 4 [58]).is 5 zbq=true then 1 else 0)/\PL S w' pb (za4 st n)/\Fr (·=pb) w w':=by
 refine (zjk S pb st w nb x n c hB hn hnb hc hR).mono ?_
 rintro e w1 ⟨ns,na,h1,h2,h3,h4⟩
 exact ⟨ns,na,_,h1,⟨h2,rfl⟩,h3,h4⟩
theorem Bad.type {st:St} (h:Bad st):Bad (z9 st):=by
 unfold z9
 split
 · exact h.step
 · exact h.must _ _
theorem Bad.nott {st:St} (h:Bad st):Bad (za3 st):=by
 unfold za3
 split
 · exact h.step
 · exact h
theorem Bad.decl0 {st:St} (h:Bad st) (n:Nat):Bad (st.decl0 n):=by
 unfold St.decl0
 split
 · exact h.fail (by omega)
 · exact h
theorem Bad.declS {st:St} (h:Bad st) (n:Nat):Bad (za4 st n):=((h.decl0 n).name.must _ _).type
def onM (s:St):St:=if s.is 5 kOn=true then (za3 s.step).name else s
def zkT (s:St) (sg pl:Nat) (os:ByteArray) (oa:Nat):Prop :=
 (s.is 5 kOn=true->sg=(if s.step.is 5 zet=true then 2 else 1)/\pl=s.t.a/\((za3 s.step).t.k=2->os=(za3 s.step).t.s/\oa=(za3 s.step).t.a))/\(s.is 5 kOn=false->sg=0/\pl=0/\os=⟨#[]⟩/\oa=0)
theorem Tryz.infoVar:(Tryz.prog.info? 110).map (λi=>(i.zero,i.size,i.bytes))=some (some (.agg #[.string ⟨#[]⟩,.int .i64 0,.int .i64 0,.int .i64 0,.int .i64 0,.string ⟨#[]⟩,.int .i64 0]),7,72):=by kernel_rfl
theorem zoU {s t:ByteArray} {a b c d e:Int}:∀u∈[Value.string s,.int .i64 a,.int .i64 b,.int .i64 c,.int .i64 d,.string t,.int .i64 e],u.oneCell'=true:=by
 intro u hu
 simp at hu
 rcases hu with rfl|rfl|rfl|rfl|rfl|rfl|rfl <;> rfl
def zkn (S:Nat->Addr) (pb nb B:Nat) (st:St) (w:World) (c0 c1 c3 c4 c5 vs:Value) (n:Nat) (xs:List Value) (e:Ending) (w':World):Prop :=
 ∃(ns os:ByteArray) (na ty sg pl oa:Nat) (v':Value),e=.returned (.tuple #[])/\PL S w' pb ((onM (za4 st n)).must 4 [59])/\w'.heap[nb]?=some (.cells #[c0,c1,v',c3,c4,c5] 97 (0,0)) /\
    w'.ownsRow B 110 7 v' (n+1) (xs++[.string ns,.int .i64 na,.int .i64 ty,.int .i64 sg,.int .i64 pl,.string os,.int .i64 oa])/\Hid (((st.decl0 n).t.k=2->ns=(st.decl0 n).t.s/\na=(st.decl0 n).t.a)/\ty=if ((st.decl0 n).name.must 4 [58]).is 5 zbq=true then 1 else 0)/\Hid (zkT (za4 st n) sg pl os oa) /\
    Fr (λk=>k=pb∨k=nb∨vs.ownBlock=some k) w w'/\Hid (∀k,v'.ownBlock=some k->vs.ownBlock=some k∨w.heap.size<=k)
theorem zkq {S:Nat->Addr} {pb nb B:Nat} {st:St} {w w2 w9:World} {c0 c1 c3 c4 c5 vs v':Value} {n:Nat} {xs:List Value} {ns os:ByteArray} {na ty sg pl oa:Nat} {X:Obj}
 (h1:Hid (((st.decl0 n).t.k=2->ns=(st.decl0 n).t.s/\na=(st.decl0 n).t.a)/\ty=if ((st.decl0 n).name.must 4 [58]).is 5 zbq=true then 1 else 0)) (h2:zkT (za4 st n) sg pl os oa) (h3:PL S w9 pb ((onM (za4 st n)).must 4 [59])) (hnp:pb<nb) (h4:w9.heap[nb]?=some (.cells #[c0,c1,vs,c3,c4,c5] 97 (0,0)))
 (h5:w9.ownsRow B 110 7 v' (n+1) (xs++[.string ns,.int .i64 na,.int .i64 ty,.int .i64 sg,.int .i64 pl,.string os,.int .i64 oa])) (h6:∀k,v'.ownBlock=some k->vs.ownBlock=some k∨(w2.alloc X).drew.heap.size<=k) (hBn:nb<B) (_hBw:B<=w.heap.size) (h7:Fr (·=pb) w w2) (h8:Fr (λk=>vs.ownBlock=some k) (w2.alloc X) w9) :
 zkn S pb nb B st w c0 c1 c3 c4 c5 vs n xs (.returned (.tuple #[])) (w9.setCell ⟨nb,2,none⟩ v'):=by
 have hz:=h7.size
 refine ⟨ns,os,na,ty,sg,pl,oa,v',rfl,h3.setOther hnp _ _,zh _ _ _ _ h4,zi h5 (λk h _ _=>zr (by omega) rfl),h1,h2,?_,?_⟩
 · have g1:Fr (λk=>k=pb∨k=nb∨vs.ownBlock=some k) w (w2.alloc X):=(h7.mono (λ_ _ h=>Or.inl h)).alloc X
   exact (g1.trans' h8 (λ_ _ h=>Or.inr (Or.inr h))).setCell (Or.inl (Or.inr (Or.inl rfl))) _
 · intro k hk
   rcases h6 k hk with h|h
   · exact Or.inl h
   · right
     have:(w2.alloc X).drew.heap.size=w2.heap.size+1:=by show (w2.alloc X).heap.size=_;simp
     omega
theorem zm1 (S:Nat->Addr) (pb nb B:Nat) (st:St) (w:World) (c0 c1 c3 c4 c5 vs:Value) (n:Nat) (xs:List Value) (hB:Bad st) (hn:n<=50) (hR:PL S w pb st) (hblk:w.heap[nb]?=some (.cells #[c0,c1,vs,c3,c4,c5] 97 (0,0))) (hown:w.ownsRow B 110 7 vs n xs) (hnp:pb<nb) (hBn:nb<B) (hBw:B<=w.heap.size) :
 Calls Tryz.prog 134 #[.pointer (some ⟨pb,0,none⟩),.pointer (some ⟨nb,0,none⟩)] w (zkn S pb nb B st w c0 c1 c3 c4 c5 vs n xs):=by
 obtain ⟨x,cp,hvs⟩:∃x cp,vs=.slice x n cp:=by
  rcases hown.2 with ⟨h1,h2⟩|⟨g,cap,cur,h1,_⟩
  · exact ⟨none,0,by rw [h1,h2]⟩
  · exact ⟨_,cap,h1⟩
 obtain ⟨q0,q1,q2,q3,q4,q5,qf,qz⟩:=zt hblk
 have hlt:=hR.lt
 have HR:=za hR
 have HB:=za hB
 rw [hvs] at q2
 have HD:=za (zfH S pb st w nb x n cp hB (by omega) qz q2 hR)
 have Hown:=za hown
 have Hblk:=za hblk
 have HBs:=za (hB.declS n)
 have Hvs:=za hvs
 obtain ⟨s3,hs3⟩:∃s3,za4 st n=s3:=⟨_,rfl⟩
 rw [hs3] at HD HBs
 have Hs3:=za hs3
 obtain ⟨i0,hi,hi0,hi1,hi2⟩:=info_parts Tryz.infoVar
 have mx:n+1<=maxLen:=by unfold maxLen;omega
 have by':(n+1)*72<=140737488355328:=by omega
 clear hR hB hown hblk hs3 q0 q1 q2 q3 q4 q5 qf hvs
 cases hb:s3.is 5 kOn with
 | false =>
   have hE:onM s3=s3:=by unfold onM;rw [if_neg (by rw [hb];simp)]
   have HE0:=za hE
   have Hb:=za hb
   clear hb hE
   go_enter Tryz.func134,Tryz.ntmps134
   go_wp2_with fail
   refine HD.out.mono ?_
   rintro e w1 ⟨ns,na,ty,rfl,HK1,hL1,hF1⟩
   have hz1:=hF1.size
   have hlt1:=hL1.lt
   have hh1:=(hF1.block nb qz (by omega)).trans Hblk.out
   have Hh1:=za hh1
   have HA:=za (zaP S pb s3 ⟨#[111,110]⟩ _ zq9 (w1.alloc (.cells #[.string ns,.int .i64 na,.int .i64 ty,.int .i64 0,.int .i64 0,.string ⟨#[]⟩,.int .i64 0] 110)) HBs.out.ok.tk (hL1.alloc _))
   rw [zar hL1.tx (by decide),Hb.out] at HA
   have HE:=za (zP S pb s3 ⟨#[59]⟩ _ zl1 (w1.alloc (.cells #[.string ns,.int .i64 na,.int .i64 ty,.int .i64 0,.int .i64 0,.string ⟨#[]⟩,.int .i64 0] 110)) HBs.out (hL1.alloc _))
   rw [zan hL1.tx (by decide)] at HE
   have HF1:=za hF1
   clear hL1 hF1 hh1
   go_wp2_with (first|(go_at_call 92;refine HA.out.mono ?_;rintro e w' ⟨rfl,rfl⟩)|(go_at_call 130;refine HE.out.mono ?_;rintro e w2 ⟨rfl,hL2,hF2⟩;have hz2:=hF2.size;have hv2:=(hF2.block w1.heap.size (by rw [zsb];omega) (by omega)).trans (zc w1 _);have hn2:=(hF2.block nb (by rw [zsb];omega) (by omega)).trans ((Below.heap_alloc _ _ _ (by omega)).trans Hh1.out);obtain ⟨a0,a1,a2,a3,a4,a5,a6,af,az⟩:=zbZ hv2;obtain ⟨q0,q1,q2,q3,q4,q5,qf,qz2⟩:=zt hn2;have Hn2:=za hn2;have Hv2:=za hv2;have HL2:=za hL2;have HF2:=za hF2;clear hL2 hF2 hv2 hn2))
   have Hown2:=za (zi Hown.out (λk h1 h2 _=>(HF2.out.block k (by rw [zsb];omega) (by omega)).trans ((Below.heap_alloc _ _ _ (by omega)).trans (HF1.out.block k h2 (by omega)))))
   have hBw2:B<=w2.heap.size:=by rw [zsb] at hz2;omega
   clear HA HE HD a0 a1 a2 a3 a4 a5 a6 af az
   obtain ⟨a0,a1,a2,a3,a4,a5,a6,af,az⟩:=zbZ Hv2.out
   go_region_law (
    refine zJ _ rfl (.tmp 19) (.tmp 21) 94 rfl B 110 i0 _ 7 72 Tryz.underlying94 hi hi0 hi1 hi2 rfl (by decide) vs n xs rfl (zD (Hown2.out) _) ⟨w2.heap.size,0,none⟩ 1 1 [.string ns,.int .i64 na,.int .i64 ty,.int .i64 0,.int .i64 0,.string ⟨#[]⟩,.int .i64 0] rfl rfl (zN (zc w2 _) rfl) zoU mx by' (by simp;omega) ?_
    intro v' w9 hown9 hgrow hnew
    obtain ⟨g9,cap9,rfl,hg9⟩:=zM hown9 (by omega)
    have hF9:=(Fr.of_grown hgrow).undrew
    have hb9:∀k,k<B->w9.heap[k]?=w2.heap[k]?:=(λk hk=>(hF9.block k (by simp;omega) (λh=>by have:=(Hown2.out.lt k h).1;omega)).trans (Below.heap_alloc _ _ _ (by omega)))
    have Hn9:=za ((hb9 nb hBn).trans Hn2.out)
    obtain ⟨q0,q1,q2,q3,q4,q5,qf,qz2⟩:=zt Hn9.out
    have HL9:=za (PL.fr (HL2.out.alloc _) hF9 (λk hk=>by have:=(Hown2.out.lt k hk).1;omega))
    have HF9:=za hF9
    have Hown9:=za hown9
    have Hnew9:=za hnew
    clear hown9 hgrow hnew hF9 hb9)
   all_goals go_wp2_with fail
   all_goals go_end0
   all_goals exact zkq HK1 (by rw [Hs3.out];exact ⟨λh=>(by rw [Hb.out] at h;cases h),λ_=>⟨rfl,rfl,rfl,rfl⟩⟩) (by rw [Hs3.out,HE0.out];exact HL9.out) hnp Hn9.out Hown9.out Hnew9.out hBn (by omega) (HF1.out.trans ((Fr.refl _ w1).alloc _ |>.trans HF2.out)) HF9.out
 | true =>
   have hE:onM s3=(za3 s3.step).name:=by unfold onM;rw [if_pos hb]
   have HE0:=za hE
   have Hb:=za hb
   have hk5:s3.t.k=5:=Inv.is_k hb
   have HOn:=za (λw1 h=>zqH S pb s3 w1 HBs.out hk5 h)
   have HBn:=za HBs.out.step.nott.name
   clear hb hE hk5
   go_enter Tryz.func134,Tryz.ntmps134
   go_wp2_with fail
   refine HD.out.mono ?_
   rintro e w1 ⟨ns,na,ty,rfl,HK1,hL1,hF1⟩
   have hz1:=hF1.size
   have hlt1:=hL1.lt
   have hh1:=(hF1.block nb qz (by omega)).trans Hblk.out
   have Hh1:=za hh1
   have HA:=za (zaP S pb s3 ⟨#[111,110]⟩ _ zq9 (w1.alloc (.cells #[.string ns,.int .i64 na,.int .i64 ty,.int .i64 0,.int .i64 0,.string ⟨#[]⟩,.int .i64 0] 110)) HBs.out.ok.tk (hL1.alloc _))
   rw [zar hL1.tx (by decide),Hb.out] at HA
   have HF1:=za hF1
   have HL1:=za hL1
   clear hL1 hF1 hh1
   go_wp2_with (go_at_call 92;refine HA.out.mono ?_;rintro e w' ⟨rfl,rfl⟩)
   refine (HOn.out _ (HL1.out.alloc _)).mono ?_
   rintro e w4 ⟨os,oa,rfl,hk4,hL4,hF4⟩
   obtain ⟨sg,hsg⟩:∃sg:Nat,(if s3.step.is 5 zet=true then 2 else 1)=sg:=⟨_,rfl⟩
   have hsg':(if s3.step.is 5 zet=true then (2:Int) else 1)=(sg:Nat):=by rw [<- hsg];split <;> rfl
   rw [hsg']
   have hz4:=hF4.size
   have hv4:=(hF4.block w1.heap.size (by rw [zsb];omega) (by omega)).trans (zc w1 _)
   have hn4:=(hF4.block nb (by rw [zsb];omega) (by omega)).trans ((Below.heap_alloc _ _ _ (by omega)).trans Hh1.out)
   have HK4:Hid (zkT s3 sg s3.t.a os oa):=⟨λ_=>⟨hsg.symm,rfl,hk4⟩,λh=>(by rw [Hb.out] at h;cases h)⟩
   obtain ⟨a0,a1,a2,a3,a4,a5,a6,af,az⟩:=zbZ hv4
   have Hn4:=za hn4
   have Hv4:=za hv4
   have HL4:=za hL4
   have HF4:=za hF4
   clear hL4 hF4 hv4 hn4 hsg hsg' hk4
   go_wp2_with fail
   have hL5:=(((HL4.out.setOther (b:=w1.heap.size) hlt1 3 (.int .i64 sg)).setOther (b:=w1.heap.size) hlt1 4 (.int .i64 s3.t.a)).setOther (b:=w1.heap.size) hlt1 5 (.string os)).setOther (b:=w1.heap.size) hlt1 6 (.int .i64 oa)
   have hv5:=zh _ w1.heap.size 6 (.int .i64 oa) (zh _ w1.heap.size 5 (.string os) (zh _ w1.heap.size 4 (.int .i64 s3.t.a) (zh w4 w1.heap.size 3 (.int .i64 sg) Hv4.out)))
   have hn5:=zr (b:=w1.heap.size) (i:=6) (v:=.int .i64 oa) (by omega:¬nb=w1.heap.size) (zr (b:=w1.heap.size) (i:=5) (v:=.string os) (by omega:¬nb=w1.heap.size) (zr (b:=w1.heap.size) (i:=4) (v:=.int .i64 s3.t.a) (by omega:¬nb=w1.heap.size) (zr (b:=w1.heap.size) (i:=3) (v:=.int .i64 sg) (by omega:¬nb=w1.heap.size) Hn4.out)))
   have hF5:Fr (·=pb) w ((((w4.setCell ⟨w1.heap.size,3,none⟩ (.int .i64 sg)).setCell ⟨w1.heap.size,4,none⟩ (.int .i64 s3.t.a)).setCell ⟨w1.heap.size,5,none⟩ (.string os)).setCell ⟨w1.heap.size,6,none⟩ (.int .i64 oa)):=(((((HF1.out.alloc _).trans HF4.out).setNew hz1 _ _).setNew hz1 _ _).setNew hz1 _ _).setNew hz1 _ _
   obtain ⟨w5,hw5⟩:∃w5,((((w4.setCell ⟨w1.heap.size,3,none⟩ (.int .i64 sg)).setCell ⟨w1.heap.size,4,none⟩ (.int .i64 s3.t.a)).setCell ⟨w1.heap.size,5,none⟩ (.string os)).setCell ⟨w1.heap.size,6,none⟩ (.int .i64 oa))=w5:=⟨_,rfl⟩
   rw [hw5] at hL5 hv5 hn5 hF5
   have HE:=za (zP S pb (za3 s3.step).name ⟨#[59]⟩ _ zl1 w5 HBn.out hL5)
   rw [zan hL5.tx (by decide)] at HE
   refine Eq.mpr (congrArg (λz=>Calls Tryz.prog 130 _ z _) hw5) ?_
   refine HE.out.mono ?_
   rintro e w2 ⟨rfl,hL2,hF2⟩
   have hz2:=hF2.size
   have hz5:=hF5.size
   have hv5':w5.heap[w1.heap.size]?=some (.cells #[.string ns,.int .i64 na,.int .i64 ty,.int .i64 sg,.int .i64 s3.t.a,.string os,.int .i64 oa] 110 (0,0)):=hv5
   have Hv2:=za ((hF2.block w1.heap.size (ze hv5') (by omega)).trans hv5')
   have Hn2:=za ((hF2.block nb (ze hn5) (by omega)).trans hn5)
   have HL2:=za hL2
   have HF2:=za (hF5.trans hF2)
   have Hown2:=za (zi Hown.out (λk h1 h2 _=>(hF5.trans hF2).block k h2 (by omega)))
   have hBw2:B<=w2.heap.size:=by omega
   clear hL2 hF2 hL5 hv5 hn5 hF5 hw5 hv5' a0 a1 a2 a3 a4 a5 a6 af az HL4 HF4 Hv4 Hn4
   go_wp2_with fail
   clear HA HE HD HOn
   obtain ⟨a0,a1,a2,a3,a4,a5,a6,af,az⟩:=zbZ Hv2.out
   obtain ⟨q0,q1,q2,q3,q4,q5,qf,qz2⟩:=zt Hn2.out
   go_region_law (
    refine zJ _ rfl (.tmp 19) (.tmp 21) 94 rfl B 110 i0 _ 7 72 Tryz.underlying94 hi hi0 hi1 hi2 rfl (by decide) vs n xs rfl (zD (Hown2.out) _) ⟨w2.heap.size,0,none⟩ 1 1 [.string ns,.int .i64 na,.int .i64 ty,.int .i64 sg,.int .i64 s3.t.a,.string os,.int .i64 oa] rfl rfl (zN (zc w2 _) rfl) zoU mx by' (by simp;omega) ?_
    intro v' w9 hown9 hgrow hnew
    obtain ⟨g9,cap9,rfl,hg9⟩:=zM hown9 (by omega)
    have hF9:=(Fr.of_grown hgrow).undrew
    have hb9:∀k,k<B->w9.heap[k]?=w2.heap[k]?:=(λk hk=>(hF9.block k (by simp;omega) (λh=>by have:=(Hown2.out.lt k h).1;omega)).trans (Below.heap_alloc _ _ _ (by omega)))
    have Hn9:=za ((hb9 nb hBn).trans Hn2.out)
    obtain ⟨q0,q1,q2,q3,q4,q5,qf,qz2⟩:=zt Hn9.out
    have HL9:=za (PL.fr (HL2.out.alloc _) hF9 (λk hk=>by have:=(Hown2.out.lt k hk).1;omega))
    have HF9:=za hF9
    have Hown9:=za hown9
    have Hnew9:=za hnew
    clear hown9 hgrow hnew hF9 hb9)
   all_goals go_wp2_with fail
   all_goals go_end0
   all_goals exact zkq HK1 (by rw [Hs3.out];exact HK4.out) (by rw [Hs3.out,HE0.out];exact HL9.out) hnp Hn9.out Hown9.out Hnew9.out hBn (by omega) HF2.out HF9.out
theorem zfC {st:St} (he:st.er≠0) (e a:Nat):st.fail e a=st.bad:=by unfold St.fail St.bad;rw [if_neg he]
theorem zhq {st:St} (hk:st.t.k=1) {k:Nat} {l:List UInt8} (h:k≠1):st.is k l=false:=zeN (by omega)
theorem zgX {st:St} (he:st.er≠0) (hk:st.t.k=1):st.name=st.bad:=by unfold St.name;rw [if_neg (by omega),zfC he]
theorem zfp {st:St} (he:st.er≠0) (hk:st.t.k=1) {k:Nat} {l:List UInt8} (h:k≠1):st.must k l=st.bad:=by unfold St.must;rw [zhq hk h];exact zfC he _ _
theorem zgM {st:St} (he:st.er≠0) (hk:st.t.k=1):z9 st=st.bad:=by unfold z9;rw [zhq hk (by decide)];exact zfp he hk (by decide)
theorem zmu {st:St} (he:st.er≠0) (n:Nat):st.decl0 n=st.bad∨st.decl0 n=st:=by
 unfold St.decl0
 split
 · exact Or.inl (zfC he _ _)
 · exact Or.inr rfl
theorem zio {st:St} (he:st.er≠0) (hk:st.t.k=1) (n:Nat):za4 st n=st.bad:=by
 unfold za4
 have hb:st.bad.er≠0:=he
 have hbk:st.bad.t.k=1:=rfl
 rcases zmu he n with h|h
 · rw [h,zgX hb hbk,zfp (st:=st.bad.bad) hb hbk (by decide),zgM (st:=st.bad.bad.bad) hb hbk];rfl
 · rw [h,zgX he hk,zfp (st:=st.bad) hb hbk (by decide),zgM (st:=st.bad.bad) hb hbk];rfl
theorem zkJ {st:St} (he:st.er≠0) (hk:st.t.k=1) (i o:Bool) (vars:List Vr):(zx i o st vars).1=st.bad:=by
 unfold zx
 split
 · exact zfC he _ _
 · have hb:st.bad.er≠0:=he
   have hbk:st.bad.t.k=1:=rfl
   have h3:z9 (st.name.must 4 [58])=st.bad:=by
    rw [zgX he hk,zfp (st:=st.bad) hb hbk (by decide),zgM (st:=st.bad.bad) hb hbk];rfl
   simp only [h3]
   rw [zhq hbk (by decide)]
   rfl
theorem zhb {st:St} (n:Nat) (h:n=16):za4 st n=st.fail 2 st.t.a:=by
 unfold za4 St.decl0
 rw [if_pos h,St.fail_name' _ (by decide),St.fail_must' _ (by decide) (by decide)]
 unfold z9
 rw [St.fail_is _ (by decide)]
 exact St.fail_must' _ (by decide) (by decide)
theorem zj1 {st:St} {vars:List Vr} {n:Nat} (i:Bool) (hB:Bad st) (hn:st.er=0->n=vars.length/\vars.length<=16):za4 st n=(zx i (!i) st vars).1:=by
 by_cases he:st.er=0
 · obtain ⟨h1,h2⟩:=hn he
   by_cases h16:n=16
   · rw [zhb n h16]
     unfold zx
     rw [if_pos (by omega)]
   · unfold zx
     rw [if_neg (by omega)]
     have hc:((z9 (st.name.must 4 [58])).is 5 kOn&&!i&&!!i)=false:=by cases i <;> simp
     simp only [hc]
     unfold za4 St.decl0
     rw [if_neg h16]
     rfl
 · rw [zio he (hB.bad he),zkJ he (hB.bad he)]
theorem zk2 {st:St} {vars:List Vr} {n:Nat} (hB:Bad st) (hn:st.er=0->n=vars.length/\vars.length<=16):onM (za4 st n)=(zx false false st vars).1:=by
 by_cases he:st.er=0
 · obtain ⟨h1,h2⟩:=hn he
   by_cases h16:n=16
   · rw [zhb n h16]
     have h1:onM (st.fail 2 st.t.a)=st.fail 2 st.t.a:=by unfold onM;rw [St.fail_is _ (by decide)];rfl
     rw [h1]
     unfold zx
     rw [if_pos (by omega)]
   · unfold zx
     rw [if_neg (by omega)]
     have hd:za4 st n=z9 (st.name.must 4 [58]):=by unfold za4 St.decl0;rw [if_neg h16]
     rw [hd]
     unfold onM
     cases hc:(z9 (st.name.must 4 [58])).is 5 kOn with
     | true=>simp only [hc,Bool.not_false,Bool.and_self,if_true]
     | false=>simp only [hc,Bool.not_false,Bool.false_and];rfl
 · rw [zio he (hB.bad he),zkJ he (hB.bad he)]
   unfold onM
   rw [zhq rfl (by decide)]
   rfl
def zaA (v:Vr):Nat:=if v.tm=true then (if v.nt=true then 2 else 1) else 0
def vrC (v:Vr):List Value:=[.string v.nm,.int .i64 v.a,.int .i64 (if v.bl=true then 1 else 0:Nat),.int .i64 (zaA v:Nat),.int .i64 v.on,.string v.ck,.int .i64 v.ca]
def zb0 (l:List Vr):List Value:=l.flatMap vrC
theorem zf4 (l:List Vr) (v:Vr):zb0 (l++[v])=zb0 l++vrC v:=by simp [zb0]
theorem zeH {st:St} (h:st.name.er=0):st.t.k=2:=by
 by_cases h2:st.t.k=2
 · exact h2
 · exfalso;unfold St.name at h;rw [if_neg h2] at h;exact St.fail_er _ (by decide) h
theorem zay {st:St} {k:Nat} {l:List UInt8} (h:(st.must k l).er=0):st.er=0:=by
 unfold St.must at h
 split at h
 · rwa [St.step_er] at h
 · exact absurd h (St.fail_er _ (by decide))
theorem zeo {st:St} (h:(z9 st).er=0):st.er=0:=by
 unfold z9 at h
 split at h
 · rwa [St.step_er] at h
 · exact zay h
theorem zel {st:St} (h:st.name.er=0):st.er=0:=by
 have:=zeH h
 unfold St.name at h
 rw [if_pos this,St.step_er] at h
 exact h
theorem zpY {st:St} {vars:List Vr} {n:Nat} (i:Bool) (hn:st.er=0->n=vars.length/\vars.length<=16) {ns:ByteArray} {na ty:Nat} (hk:(st.decl0 n).t.k=2->ns=(st.decl0 n).t.s/\na=(st.decl0 n).t.a) (hty:ty=if ((st.decl0 n).name.must 4 [58]).is 5 zbq=true then 1 else 0)
 (he:(zx i (!i) st vars).1.er=0):st.er=0/\(zx i (!i) st vars).2.length=n+1/\n+1<=16/\zb0 (zx i (!i) st vars).2=zb0 vars++[.string ns,.int .i64 na,.int .i64 ty,.int .i64 (0:Nat),.int .i64 (0:Nat),.string ⟨#[]⟩,.int .i64 (0:Nat)]:=by
 by_cases h16:16<=vars.length
 · unfold zx at he
   rw [if_pos h16] at he
   exact absurd he (St.fail_er _ (by decide))
 · have hc:((z9 (st.name.must 4 [58])).is 5 kOn&&!i&&!!i)=false:=by cases i <;> simp
   have hV:zx i (!i) st vars=(z9 (st.name.must 4 [58]),vars++[⟨st.t.s,st.t.a,(st.name.must 4 [58]).is 5 zbq,i,!i,0,sE,0,false,false⟩]):=by
    unfold zx
    rw [if_neg h16]
    simp only [hc]
    rfl
   rw [hV] at he ⊢
   have e0:st.er=0:=zel (zay (zeo he))
   obtain ⟨h1,h2⟩:=hn e0
   have hd:st.decl0 n=st:=by unfold St.decl0;rw [if_neg (by omega)]
   rw [hd] at hk hty
   obtain ⟨k1,k2⟩:=hk (zeH (zay (zeo he)))
   refine ⟨e0,by simp [h1],by omega,?_⟩
   simp only [zf4]
   unfold vrC zaA
   subst k1 k2 hty
   rfl
theorem ziI {st:St} {vars:List Vr} {n:Nat} (hn:st.er=0->n=vars.length/\vars.length<=16) {ns os:ByteArray} {na ty sg pl oa:Nat} (hk:(st.decl0 n).t.k=2->ns=(st.decl0 n).t.s/\na=(st.decl0 n).t.a) (hty:ty=if ((st.decl0 n).name.must 4 [58]).is 5 zbq=true then 1 else 0) (hon:zkT (za4 st n) sg pl os oa)
 (he:(zx false false st vars).1.er=0):st.er=0/\(zx false false st vars).2.length=n+1/\n+1<=16/\zb0 (zx false false st vars).2=zb0 vars++[.string ns,.int .i64 na,.int .i64 ty,.int .i64 sg,.int .i64 pl,.string os,.int .i64 oa]:=by
 by_cases h16:16<=vars.length
 · unfold zx at he
   rw [if_pos h16] at he
   exact absurd he (St.fail_er _ (by decide))
 · cases hc:(z9 (st.name.must 4 [58])).is 5 kOn with
   | false =>
     have hV:zx false false st vars=(z9 (st.name.must 4 [58]),vars++[⟨st.t.s,st.t.a,(st.name.must 4 [58]).is 5 zbq,false,false,0,sE,0,false,false⟩]):=by
      unfold zx
      rw [if_neg h16]
      simp only [hc,Bool.false_and]
      rfl
     rw [hV] at he ⊢
     have e0:st.er=0:=zel (zay (zeo he))
     obtain ⟨h1,h2⟩:=hn e0
     have hd:st.decl0 n=st:=by unfold St.decl0;rw [if_neg (by omega)]
     have hdS:za4 st n=z9 (st.name.must 4 [58]):=by unfold za4;rw [hd]
     rw [hd] at hk hty
     rw [hdS] at hon
     obtain ⟨k1,k2⟩:=hk (zeH (zay (zeo he)))
     obtain ⟨o1,o2,o3,o4⟩:=hon.2 hc
     refine ⟨e0,by simp [h1],by omega,?_⟩
     simp only [zf4]
     unfold vrC zaA
     subst k1 k2 hty o1 o2 o3 o4
     rfl
   | true =>
     have hV:zx false false st vars=((za3 (z9 (st.name.must 4 [58])).step).name,vars++[⟨st.t.s,st.t.a,(st.name.must 4 [58]).is 5 zbq,false,false,(z9 (st.name.must 4 [58])).t.a,(za3 (z9 (st.name.must 4 [58])).step).t.s,(za3 (z9 (st.name.must 4 [58])).step).t.a,(z9 (st.name.must 4 [58])).step.is 5 zet,true⟩]):=by
      unfold zx
      rw [if_neg h16]
      simp only [hc,Bool.not_false,Bool.and_self,if_true]
     rw [hV] at he ⊢
     have hne:(za3 (z9 (st.name.must 4 [58])).step).er=0:=zel he
     have hne2:(z9 (st.name.must 4 [58])).er=0:=by
      unfold za3 at hne
      split at hne
      · rw [St.step_er,St.step_er] at hne;exact hne
      · rw [St.step_er] at hne;exact hne
     have e0:st.er=0:=zel (zay (zeo hne2))
     obtain ⟨h1,h2⟩:=hn e0
     have hd:st.decl0 n=st:=by unfold St.decl0;rw [if_neg (by omega)]
     have hdS:za4 st n=z9 (st.name.must 4 [58]):=by unfold za4;rw [hd]
     rw [hd] at hk hty
     rw [hdS] at hon
     obtain ⟨k1,k2⟩:=hk (zeH (zay (zeo hne2)))
     obtain ⟨o1,o2,o3⟩:=hon.1 hc
     obtain ⟨o4,o5⟩:=o3 (zeH he)
     refine ⟨e0,by simp [h1],by omega,?_⟩
     simp only [zf4]
     unfold vrC zaA
     subst k1 k2 hty o1 o2 o4 o5
     rfl
structure VI (S:Nat->Addr) (pb nb B p:Nat) (w wr:World) (c0 c1 c3 c4 c5:Value) (s:St) (vars:List Vr) (vs:Value) (n:Nat) (xs:List Value):Prop where
 inv:Inv p s
 pl:PL S wr pb s
 blk:wr.heap[nb]?=some (.cells #[c0,c1,vs,c3,c4,c5] 97 (0,0))
 own:wr.ownsRow B 110 7 vs n xs
 ok:s.er=0->n=vars.length/\vars.length<=16/\xs=zb0 vars
 fr:Fr (λk=>k=pb∨k=nb∨B<=k) w wr
theorem VI.dec {S:Nat->Addr} {pb nb B p:Nat} {w wr:World} {c0 c1 c3 c4 c5:Value} {s:St} {vars:List Vr} {vs:Value} {n:Nat} {xs:List Value} (h:VI S pb nb B p w wr c0 c1 c3 c4 c5 s vars vs n xs):s.er=0->n=vars.length/\vars.length<=16:=λhe=>⟨(h.ok he).1,(h.ok he).2.1⟩
theorem ziY (S:Nat->Addr) (pb nb B p:Nat) (w wr:World) (c0 c1 c3 c4 c5:Value) (s:St) (vars:List Vr) (vs:Value) (n:Nat) (xs:List Value) (hn:n<=50) (hnp:pb<nb) (hBn:nb<B) (hBw:B<=w.heap.size) (h:VI S pb nb B p w wr c0 c1 c3 c4 c5 s vars vs n xs) :
 Calls Tryz.prog 134 #[.pointer (some ⟨pb,0,none⟩),.pointer (some ⟨nb,0,none⟩)] wr λe w'=>e=.returned (.tuple #[])/\∃vs' xs',VI S pb nb B p w w' c0 c1 c3 c4 c5 (zaR s vars).1 (zaR s vars).2 vs' (n+1) xs':=by
 have hzr:=h.fr.size
 refine (zm1 S pb nb B s wr c0 c1 c3 c4 c5 vs n xs h.inv.toBad hn h.pl h.blk h.own hnp hBn (by omega)).mono ?_
 rintro e w' ⟨ns,os,na,ty,sg,pl,oa,v',rfl,h1,h2,h3,⟨h4,h5⟩,h6,h7,_⟩
 have hg:=zej (vars:=vars) h.inv
 rw [zk2 h.inv.toBad h.dec] at h1
 refine ⟨rfl,v',_,hg.1.inv,h1,h2,h3,?_,?_⟩
 · intro he
   have he1:(zx false false s vars).1.er=0:=zay he
   obtain ⟨r1,r2,r3,r4⟩:=ziI h.dec h4 h5 h6.out he1
   obtain ⟨k1,k2,k3⟩:=h.ok r1
   refine ⟨?_,?_,?_⟩
   · show n+1=(zx false false s vars).2.length
     omega
   · show (zx false false s vars).2.length<=16
     omega
   · show xs++_=zb0 (zx false false s vars).2
     rw [r4,k3]
 · exact h.fr.trans' h7 (λi hi hs=>by
    rcases hs with hs|hs|hs
    · exact Or.inl hs
    · exact Or.inr (Or.inl hs)
    · exact Or.inr (Or.inr (h.own.lt i hs).1))
end
end Go.Proofs.YtedmpgjebafcjaaGreatDoor
