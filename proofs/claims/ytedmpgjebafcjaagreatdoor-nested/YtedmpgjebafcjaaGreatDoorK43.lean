/- Part 44 of the proof: LnkD MemA MemB. -/
import Derived.Test.YtedmpgjebafcjaaGreatDoorK34
set_option maxRecDepth 100000
set_option maxHeartbeats 8000000
namespace Go.Proofs.YtedmpgjebafcjaaGreatDoor
section
open Go.RowKit
attribute [local go_sem ↓] Go.wp_at_zero Go.wp_at_succ
structure zfK (S:Nat->Addr) (kd lb bb sb:Nat) (nmv askv:Value) (N:Nat) (c:Sc) (ev nv:Value) (b1 mb:Nat) (L:List (Nat×Nat)) (st:Option Nat) (w:World):Prop where
 rp:RpI S kd lb bb sb nmv askv st w
 sc:ScV w N c ev nv
 lk:za8 w mb L
 x1:w.heap[b1]?=some (.cells #[ev,nv] 206 (0,0))
 d:∀b,b=b1∨b=mb->¬b=lb/\¬b=bb
 l1:N<=lb
 l2:N<=bb
 hN:N<=w.heap.size
theorem zfK.keep {S:Nat->Addr} {kd lb bb sb:Nat} {nmv askv:Value} {N:Nat} {c:Sc} {ev nv:Value} {b1 mb:Nat} {L:List (Nat×Nat)} {st:Option Nat} {w w':World} (h:zfK S kd lb bb sb nmv askv N c ev nv b1 mb L st w) (hB:Below w.heap.size w w'):zfK S kd lb bb sb nmv askv N c ev nv b1 mb L st w' :=
 ⟨h.rp.keep hB,h.sc.old (zm hB h.hN),h.lk.keep hB,(hB.block _ (ze h.x1)).trans h.x1,h.d,h.l1,h.l2,Nat.le_trans h.hN hB.size⟩
theorem zfK.told {S:Nat->Addr} {kd lb bb sb:Nat} {nmv askv:Value} {N:Nat} {c:Sc} {ev nv:Value} {b1 mb:Nat} {L:List (Nat×Nat)} {st st':Option Nat} {w w':World} (h:zfK S kd lb bb sb nmv askv N c ev nv b1 mb L st w) (hr:RpI S kd lb bb sb nmv askv st' w') (hf:Fr (RT lb bb) w w'):zfK S kd lb bb sb nmv askv N c ev nv b1 mb L st' w':=by
 have hn:∀{b},(b=b1∨b=mb)->¬RT lb bb b:=λh1 e=>by rcases e with e|e;exact (h.d _ h1).1 e;exact (h.d _ h1).2 e
 exact ⟨hr,h.sc.old (hf.old h.hN (λk e=>by rcases e with e|e;exact e▸h.l1;exact e▸h.l2)),h.lk.of' (hf.block _ h.lk.lt (hn (by simp))),(hf.block _ (ze h.x1) (hn (by simp))).trans h.x1,h.d,h.l1,h.l2,Nat.le_trans h.hN hf.size⟩
theorem zoI (a:Nat) (L:List (Nat×Nat)) (n m:Nat):zht a L n (m+1)=(if (n-(m+1),n-(m+1))∈L then [a] else [])++zht a L n m:=rfl
theorem ziB (S:Nat->Addr) (kd lb bb sb:Nat) (nmv askv:Value) (N:Nat) (c:Sc) (hc:zbr c) (ev nv:Value) (st:Option Nat) (w:World) (hR:RpI S kd lb bb sb nmv askv st w) (h:ScV w N c ev nv) (hN:N<=w.heap.size) (l1:N<=lb) (l2:N<=bb) :
 Calls Tryz.prog 62 #[.agg #[ev,nv],zam lb bb sb] w (λe w'=>e=.returned (.tuple #[])/\RpI S kd lb bb sb nmv askv (c.causesL.foldl rep st) w'/\Fr (RT lb bb) w w'):=by
 obtain ⟨xe,cpe,nb,rfl,rfl,hnb⟩:=h.shape
 have hzl:=ze hR.l
 have hzb:=ze hR.b
 have HR:=za hR
 have HSc:=za h
 obtain ⟨nb',vs,qv,xs,e9,hnt⟩:=h.nd
 cases e9
 obtain ⟨xv,cpv,rfl⟩:=zB hnt.vown
 obtain ⟨xq,cpq,rfl⟩:=zB hnt.own
 have HNt:=za hnt
 have hfew:=hnt.few
 have HLo:=za (λo=>zgy hc (w.alloc o) (h.old (zeW hN o)) (by rw [zsb];omega))
 clear hR h hnt
 unfold zam
 go_enter Tryz.func62,Tryz.ntmps62
 go_upto_region 2 with (go_at_call 113;refine (HLo.out _).mono ?_;rintro e w1 ⟨mb,rfl,hmz,hLk,hB1⟩;have HLk:=za hLk;have hx1:=za ((hB1.block _ (by simp)).trans (zc w _));have HB1:=za (zE hB1);clear hLk hB1)
 rw [zsb] at hmz
 obtain ⟨m0,m1,m2,m3,m4,m5,mf,mz⟩:=zt ((HB1.out.block nb (by omega)).trans HNt.out.blk)
 obtain ⟨s0,s1,sf,sz⟩:=zp hx1.out
 have HFo:=za (zk8 c.nd.vars.length (by omega) w1 HLk.out)
 go_upto_region 3 with (go_at_call 114;refine HFo.out.mono ?_;rintro e w2 ⟨rfl,hL2,hF2⟩;have HL2:=za hL2;have HF2:=za hF2;have HB2:=za (zbR HB1.out hF2 (by omega));clear hL2 hF2)
 refine zn (λW=>zfK S kd lb bb sb nmv askv N c (.slice xe c.er.length cpe) (.pointer (some ⟨nb,0,none⟩)) w.heap.size mb (zdT c.nd.vars.length c.linksL) st W/\Fr (RT lb bb) w W) ⟨⟨HR.out.keep HB2.out,HSc.out.old (zm HB2.out hN),HL2.out,(HF2.out.block _ sz (by omega)).trans hx1.out,λb e=>by rcases e with e|e <;> exact ⟨by omega,by omega⟩,l1,l2,by have:=HB2.out.size;omega⟩,zy HB2.out⟩ ?_
 rintro W ⟨hIW,hFW⟩
 clear m0 m1 m2 m3 m4 m5 mf mz s0 s1 sf sz hx1 HLk HB1 HFo HL2 HF2 HB2 HLo HR
 obtain ⟨m0,m1,m2,m3,m4,m5,mf,mz⟩:=zt ((hFW.block nb (by omega) (λe=>by rcases e with e|e <;> omega)).trans HNt.out.blk)
 obtain ⟨s0,s1,sf,sz⟩:=zp hIW.x1
 have HIW:=za hIW
 have HFW:=za hFW
 clear hIW hFW
 go_wp2_with fail
 go_loopg [25] (c.nd.vars.length+1) (λj i wr=>∃(k:Nat) (st2:Option Nat),k+j=c.nd.vars.length+1/\k<=c.nd.vars.length/\i=.int .i64 k/\Hid (zfK S kd lb bb sb nmv askv N c (.slice xe c.er.length cpe) (.pointer (some ⟨nb,0,none⟩)) w.heap.size mb (zdT c.nd.vars.length c.linksL) st2 wr)/\Hid (c.causesL.foldl rep st=(zht c.nd.a (zdT c.nd.vars.length c.linksL) c.nd.vars.length (j-1)).foldl rep st2)/\Hid (Fr (RT lb bb) w wr))
 case atStart=>exact ⟨0,st,by omega,Nat.zero_le _,rfl,HIW.out,rfl,HFW.out⟩
 case round =>
  clear HIW HFW s0 s1 sf sz m0 m1 m2 m3 m4 m5 mf mz
  obtain ⟨k,st2,hkj,hk,rfl,HI,HD,HF⟩:=hrel
  by_cases hlt:k<c.nd.vars.length
  · obtain ⟨m,rfl⟩:∃m,gk=m+1+1:=⟨gk-1-1,by omega⟩
    have hE:=HD.out
    rw [show m+1+1-1=m+1 from rfl,zoI,show c.nd.vars.length-(m+1)=k by omega,List.foldl_append] at hE
    have HE:=za hE
    have HH:=za (ze9 k k wr HI.out.lk)
    clear hE HD
    by_cases h1:(k,k)∈zdT c.nd.vars.length c.linksL
    · rw [if_pos h1] at HE
      rw [decide_eq_true h1] at HH
      clear h1
      go_wp2_with (first
       | (go_at_call 117;refine (zaa S kd lb bb sb nmv askv st2 c.nd.a _ HI2.out.rp).mono ?_;rintro e w3 ⟨rfl,hRt,hFt⟩;have HRt:=za hRt;have HFt:=za hFt;clear hRt hFt)
       | (go_at_call 115;refine HH.out.mono ?_;rintro e w2 ⟨rfl,hB2⟩;have HI2:=za (HI.out.keep hB2);have HF2:=za (HF.out.trans (zy hB2));obtain ⟨s0,s1,sf,sz⟩:=zp HI2.out.x1;obtain ⟨m0,m1,m2,m3,m4,m5,mf,mz⟩:=zt ((HF2.out.block nb (by omega) (λe=>by rcases e with e|e <;> omega)).trans HNt.out.blk);clear hB2))
      go_roundg (m+1)
      case measure=>omega
      exact ⟨k+1,rep st2 c.nd.a,by omega,by omega,by go_num,HI2.out.told HRt.out HFt.out,HE.out,HF2.out.trans HFt.out⟩
    · rw [if_neg h1] at HE
      rw [decide_eq_false h1] at HH
      clear h1
      go_wp2_with (go_at_call 115;refine HH.out.mono ?_;rintro e w2 ⟨rfl,hB2⟩;have HB2:=za hB2;clear hB2)
      go_roundg (m+1)
      case measure=>omega
      exact ⟨k+1,st2,by omega,by omega,by go_num,HI.out.keep HB2.out,HE.out,HF.out.trans (zy HB2.out)⟩
  · have ek:k=c.nd.vars.length:=by omega
    subst ek
    have:gk=1:=by omega
    subst this
    have HE:Hid (c.causesL.foldl rep st=st2):=HD.out
    clear HD
    go_wp2_with fail
    first|go_end0|refine bodyPost_ret (results_none rfl _ _ _) rfl ?_
    refine ⟨rfl,?_,HF.out⟩
    rw [HE.out]
    exact HI.out.rp
end
section
open Go.RowKit
attribute [local go_sem ↓] Go.wp_at_zero Go.wp_at_succ
def zdf (w:World) (b:Nat) (m:List (ByteArray×Nat)):Prop :=
 ∃l:List (ByteArray×Value),zbn w b Value.string l/\∀s,(zaT s l).getD (.int .i64 0)=.int .i64 (zbi s m:Nat)
theorem zdf.of' {w w':World} {b:Nat} {m:List (ByteArray×Nat)} (h:zdf w b m) (hb:w'.heap[b]?=w.heap[b]?):zdf w' b m:=by
 obtain ⟨l,h1,h2⟩:=h
 exact ⟨l,h1.of hb,h2⟩
theorem zdf.lt {w:World} {b:Nat} {m:List (ByteArray×Nat)} (h:zdf w b m):b<w.heap.size:=by
 obtain ⟨l,h1,_⟩:=h
 exact h1.lt
theorem zdf.keep {w w':World} {b:Nat} {m:List (ByteArray×Nat)} (h:zdf w b m) (hB:Below w.heap.size w w'):zdf w' b m:=h.of' (hB.block _ h.lt)
theorem Tryz.zeroI (w:World):(zeroValue 3).run Tryz.prog w=.ok (.int .i64 0) w:=by kernel_rfl
theorem zkF {w:World} {b:Nat} {m:List (ByteArray×Nat)} (h:zdf w b m) (s:ByteArray) :
 (Instr.lookup 232 (.map (some b)) (.string s) false).run Tryz.prog w=.ok (.int .i64 (zbi s m:Nat)) w:=by
 obtain ⟨l,h1,h2⟩:=h
 refine (zgI Tryz.keyStr Tryz.underlying232 Tryz.zeroI h1 s false).trans ?_
 rw [<- h2 s]
 rfl
theorem zqN {w:World} {b:Nat} {m:List (ByteArray×Nat)} (h:zdf w b m) (s:ByteArray) (n:Nat) :
 ∃w',(Instr.mapUpdate 232 (.map (some b)) (.string s) (.int .i64 (n:Int))).run Tryz.prog w=.ok () w'/\zdf w' b ((s,n)::m)/\Fr (·=b) w w':=by
 obtain ⟨l,h1,h2⟩:=h
 obtain ⟨w',r,mm,f⟩:=zgh Tryz.keyStr Tryz.underlying232 h1 s (.int .i64 (n:Int))
 refine ⟨w',r,⟨_,mm,λs'=>?_⟩,f⟩
 rw [zgD,zbi]
 by_cases e:s=s'
 · rw [if_pos e,if_pos e];rfl
 · rw [if_neg e,if_neg e];exact h2 s'
def zbf (m:List (ByteArray×Nat)) (s:Int) (t:Tm):Int:=if t.k=9∨t.k=4 then wrap64 (s+(za9 m t:Nat)) else s
structure CnI (cnb mbx b:Nat) (m:List (ByteArray×Nat)) (s:Int) (w:World):Prop where
 x1:w.heap[cnb]?=some (.cells #[.int .i64 s] 3 (0,0))
 x2:w.heap[mbx]?=some (.cells #[.map (some b)] 232 (0,0))
 cm:zdf w b m
 d1:¬mbx=cnb
 d2:¬b=cnb
theorem CnI.keep {cnb mbx b:Nat} {m:List (ByteArray×Nat)} {s:Int} {w w':World} (h:CnI cnb mbx b m s w) (hB:Below w.heap.size w w'):CnI cnb mbx b m s w' :=
 ⟨(hB.block _ (ze h.x1)).trans h.x1,(hB.block _ (ze h.x2)).trans h.x2,h.cm.keep hB,h.d1,h.d2⟩
theorem CnI.put {cnb mbx b:Nat} {m:List (ByteArray×Nat)} {s:Int} {w:World} (h:CnI cnb mbx b m s w) (s':Int):CnI cnb mbx b m s' (w.setCell ⟨cnb,0,none⟩ (.int .i64 s')) :=
 ⟨zhY h.x1 _,zr h.d1 h.x2,h.cm.of' (zr h.d2 rfl),h.d1,h.d2⟩
theorem zqq:zH 149:=λ_ _=>by kernel_rfl
theorem zm7 (N:Nat) (n:Nod) (cnb mbx b:Nat) (m:List (ByteArray×Nat)) (hm:∀s,zbi s m<=61) (hcn:N<=cnb) :
 zjB N (·=cnb) 149 #[.pointer (some ⟨cnb,0,none⟩),.pointer (some ⟨mbx,0,none⟩)] (λ_=>True) n (λs _ t=>zbf m s t) (CnI cnb mbx b m) where
 enters:=zqq
 hT:=λ_ e=>e▸hcn
 keep:=λs w w' h hB=>h.keep hB
 sub:=λ_ _ _ _=>trivial
 root:=λ_ _=>trivial
 call:=by
  intro q lv rv t v s w _ hE hT _ hN hI _
  obtain ⟨bt,args,vs,rfl,hb',hblk,_⟩:=hT.ptr
  obtain ⟨xl,cl,rfl⟩:=zB hE.own
  obtain ⟨rb,_,_,rfl,_⟩:=hE.tt.ptr
  have HI:=za (λo=>hI.keep (zq w o))
  have HI0:=za hI
  obtain ⟨m0,m1,m2,m3,m4,m5,mf,mz⟩:=zt hblk
  obtain ⟨a0,af,az⟩:=zu hI.x1
  obtain ⟨p0,pf,pz⟩:=zu hI.x2
  have hd:=hI.d1
  have hbc:¬bt=cnb:=by omega
  have hlk:=λo=>zkF (hI.keep (zq w o)).cm t.s
  have h61:=hm t.s
  clear hT hI hblk hE hm
  show Calls Tryz.prog _ #[.agg #[.slice xl q.ns.length cl,.int .i64 q.a,.pointer (some ⟨rb,0,none⟩)],.pointer (some ⟨bt,0,none⟩),.pointer (some ⟨cnb,0,none⟩),.pointer (some ⟨mbx,0,none⟩)] w _
  by_cases h9:t.k=9
  · have HS:Hid (zbf m s t=wrap64 (s+1)):=by unfold Hid zbf za9;rw [if_pos (Or.inl h9),if_pos h9];rfl
    have m0':w.cell? ⟨bt,0,none⟩=some (.int .i64 9):=by rw [m0,h9];rfl
    clear h9 m0
    go_enter Tryz.func149,Tryz.ntmps149
    go_wp2_with fail
    go_ret
    rw [HS.out]
    exact ⟨rfl,(HI0.out.put _).keep (zq _ _),(Fr.set1 (Fr.refl _ w) _ _).alloc _⟩
  · by_cases h4:t.k=4
    · have HS:Hid (zbf m s t=wrap64 (s+(1+(zbi t.s m:Nat)))):=by unfold Hid zbf za9;rw [if_pos (Or.inr h4),if_neg h9,if_pos h4];rfl
      have m0':w.cell? ⟨bt,0,none⟩=some (.int .i64 4):=by rw [m0,h4];rfl
      have hw1:wrap64 (1+(zbi t.s m:Int))=1+(zbi t.s m:Int):=by unfold wrap64;omega
      clear h9 h4 m0
      go_enter Tryz.func149,Tryz.ntmps149
      go_upto_region 5 with fail
      refine zn (λW=>CnI cnb mbx b m s W/\Below w.heap.size w W) ⟨HI.out _,zq w _⟩ ?_
      rintro W ⟨hIW,hBW⟩
      clear a0 af az p0 pf pz hlk
      obtain ⟨a0,af,az⟩:=zu hIW.x1
      obtain ⟨p0,pf,pz⟩:=zu hIW.x2
      have r2:=zd hBW m2 mz
      have hlk:(Instr.lookup 232 (.map (some b)) (.string t.s) false).run Tryz.prog W.drew=.ok (.int .i64 (zbi t.s m:Nat)) W.drew:=zkF (w:=W.drew) (hIW.cm.of' (w':=W.drew) rfl) t.s
      have HIW:=za hIW
      have HBW:=za hBW
      clear hIW hBW m0' m1 m2 m3 m4 m5 mf
      go_region
      go_wp2_with fail
      go_ret
      rw [HS.out]
      exact ⟨rfl,(HIW.out.put _).keep (zo (Below.refl _ _)),(Fr.set1 (zy HBW.out) _ _).trans (zy (zo (Below.refl _ _)))⟩
    · have HS:Hid (zbf m s t=s):=by unfold Hid zbf;rw [if_neg (by omega)]
      have h9':¬(t.k:Int)=9:=by omega
      have h4':¬(t.k:Int)=4:=by omega
      clear h9 h4
      go_enter Tryz.func149,Tryz.ntmps149
      go_wp2_with fail
      go_ret
      rw [HS.out]
      exact ⟨rfl,HI.out _,zy (zq w _)⟩
end
section
open Go.RowKit
attribute [local go_sem ↓] Go.wp_at_zero Go.wp_at_succ
def Nod.terms (n:Nod):List Tm:=n.eqs.flatMap λq=>zaV za5 q.r
theorem zkU {α β γ:Type} (f:γ->β->γ) (g:α->List β):∀(l:List α) (s:γ),(l.flatMap g).foldl f s=l.foldl (λs a=>(g a).foldl f s) s:=by
 intro l
 induction l with
 | nil=>intro s;rfl
 | cons a l ih=>intro s;rw [List.flatMap_cons,List.foldl_append,List.foldl_cons,ih]
theorem znh:∀(l:List Nat) (s:Nat),l.foldl (·+·) s=s+zed l:=by
 intro l
 induction l with
 | nil=>intro s;rfl
 | cons a l ih=>intro s;unfold zed;rw [List.foldl_cons,List.foldl_cons,ih,ih (0+a)];omega
theorem zmV (m:List (ByteArray×Nat)) (hm:∀s,zbi s m<=61):∀(l:List Tm) (s:Nat),s+62*l.length<=4611686018427387904->l.foldl (zbf m) (s:Int)=((s+zed (l.map (za9 m)):Nat):Int):=by
 intro l
 induction l with
 | nil=>intro s _;rfl
 | cons t l ih =>
   intro s hs
   rw [List.length_cons] at hs
   have h1:za9 m t<=62:=by
    unfold za9
    have:=hm t.s
    split
    · omega
    · split <;> omega
   have h2:zbf m (s:Int) t=((s+za9 m t:Nat):Int):=by
    unfold zbf
    split
    · unfold wrap64;omega
    · rename_i h
      unfold za9
      rw [if_neg (by omega),if_neg (by omega)];rfl
   rw [List.foldl_cons,h2,ih _ (by omega),List.map_cons]
   unfold zed
   rw [List.foldl_cons,znh _ (0+za9 m t)]
   unfold zed
   omega
theorem znm (n:Nod) (m:List (ByteArray×Nat)):zcg n m<=61:=Nat.min_le_right _ _
theorem zkg {N:Nat} {n:Nod} {nb:Nat} {vs ev:Value} {xs:List Value} (b:Nat) (m:List (ByteArray×Nat)) (hm:∀s,zbi s m<=61) (hsz:n.terms.length<=1000000) (w:World) (h:NT w N n nb vs ev xs) (hc:zdf w b m) (hN:N<=w.heap.size) :
 Calls Tryz.prog 116 #[.pointer (some ⟨nb,0,none⟩),.map (some b)] w (λe w'=>e=.returned (.int .i64 (zcg n m:Nat))/\Below w.heap.size w w'):=by
 have hmf:∀(fn:Go.Fn) (first cap:Array Value) (w:World),(Instr.makeFunc fn first cap).run Tryz.prog w=.ok (.func fn first cap) w:=λ_ _ _ _=>rfl
 have hcz:=hc.lt
 have HW:=za (λo1 o2 (h1:o1=Obj.cells #[.map (some b)] 232 (0,0)) (h2:o2=Obj.cells #[.int .i64 0] 3 (0,0))=>zfN (zm7 N n (w.heap.size+1) w.heap.size b m hm (by omega)) nb vs ev xs 0 ((w.alloc o1).alloc o2) (h.old (zfr hN o1 o2)) (by rw [zsb,zsb];omega) (λk e=>by subst e;rw [zsb,zsb];omega) ⟨by rw [(zd8 w o1 o2).2,h2],by rw [(zd8 w o1 o2).1,h1],hc.keep (zaD w o1 o2),by omega,by omega⟩)
 have hf:n.eqs.foldl (λs q=>(zaV za5 q.r).foldl (λs t=>zbf m s t) s) (0:Int)=((zed (n.terms.map (za9 m)):Nat):Int):=by
  rw [<- zkU (zbf m) (λq=>zaV za5 q.r) n.eqs 0]
  have:=zmV m hm n.terms 0 (by omega)
  rw [Nat.zero_add] at this
  exact this
 rw [hf] at HW
 have HM:Hid (zcg n m=min (zed (n.terms.map (za9 m))) 61):=rfl
 generalize zed (n.terms.map (za9 m))=tot at HW HM
 clear h hc hm hsz hf
 go_enter Tryz.func116,Tryz.ntmps116
 go_wp2_with (go_at_call 99;refine (HW.out _ _ rfl rfl).mono ?_;rintro e w1 ⟨rfl,hI,hF⟩;obtain ⟨a0,af,az⟩:=zu hI.x1;have HF:=za hF;clear hI hF)
 all_goals go_ret
 all_goals rw [HM.out]
 all_goals refine ⟨?_,zbR (zaD w _ _) HF.out (by omega)⟩
 all_goals first|(refine congrArg Ending.returned ?_;refine congrArg (Value.int IntKind.i64) ?_;first|omega|(split <;> omega))|trace_state
theorem zmM {ns:List Nod} {k:Nat} {n:Nod} (h:ns[k]?=some n) (m:List (ByteArray×Nat)) (last:Nat):zfW (ns.drop k) m last=zfW (ns.drop (k+1)) ((n.nm,zcg n m)::m) (zcg n m):=by
 obtain ⟨h1,h2⟩:=List.getElem?_eq_some_iff.1 h
 rw [List.drop_eq_getElem_cons h1,zfW,h2]
theorem zqt:zH 63:=λ_ _=>by kernel_rfl
theorem ziJ (S:Nat->Addr) (kd lb bb sb:Nat) (nmv askv:Value) (N:Nat) (ns:List Nod) (hsz:∀n∈ns,n.terms.length<=1000000) (pv:Value) (st:Option Nat) (w:World) (hR:RpI S kd lb bb sb nmv askv st w) (hP:PT w N ns pv) (hN:N<=w.heap.size) (_l1:N<=lb) (_l2:N<=bb) :
 Calls Tryz.prog 63 #[pv,zam lb bb sb] w (λe w'=>e=.returned (.tuple #[])/\RpI S kd lb bb sb nmv askv ((zeZ ns).foldl rep st) w'/\Fr (RT lb bb) w w'):=by
 obtain ⟨gb,gv,xs,rfl,hgb,hblk,hL⟩:=hP
 obtain ⟨xg,cpg,rfl⟩:=zB hL.own
 have hmm:=@run_makeMap Tryz.prog
 have HR:=za hR
 have HL:=za hL
 have Hsz:=za hsz
 have hfew:=hL.few
 obtain ⟨g0,gf,gz⟩:=zu hblk
 clear hR hL hblk hsz
 unfold zam
 go_enter Tryz.func63,Tryz.ntmps63
 go_wp2_with fail
 go_loopg [14,5] (ns.length+1) (λj i x wr=>∃(k last:Nat) (m:List (ByteArray×Nat)),k+j=ns.length+1/\k<=ns.length/\i=.int .i64 k/\x=.int .i64 last/\last<=61/\Hid (∀s,zbi s m<=61)/\Hid (zfW ns [] 0=zfW (ns.drop k) m last)/\Hid (zdf wr w.heap.size m)/\Hid (Below w.heap.size w wr))
 case atStart=>exact ⟨0,0,[],by omega,Nat.zero_le _,rfl,rfl,by omega,λs=>by simp [zbi],rfl,⟨[],⟨#[],0,zc w _,rfl⟩,λs=>rfl⟩,zq w _⟩
 case round =>
  clear g0 gf hmm
  obtain ⟨k,last,m,hkj,hk,rfl,rfl,hla,Hm,HD,HC,HB⟩:=hrel
  have hO:=zm HB.out hN
  by_cases hlt:k<ns.length
  · obtain ⟨n,hn⟩:∃n,ns[k]?=some n:=⟨_,zsc hlt⟩
    have hL2:=HL.out.old hO
    obtain ⟨v,hv,hnp⟩:=hL2.at' k n hn
    obtain ⟨g',rfl,hcell⟩:=zbE hL2.own hv
    obtain ⟨nb,vs,qv,ys,rfl,hnt⟩:=hnp
    have hgN:=HL.out.lo g' rfl
    obtain ⟨m0,m1,m2,m3,m4,m5,mf,mz⟩:=zt hnt.blk
    have hzr:=HB.out.size
    have HCo:=za (zkg w.heap.size m Hm.out (Hsz.out n (List.mem_of_getElem? hn)) wr hnt HC.out (by omega))
    have HT:=za (zmM hn m last)
    rw [<- HD.out] at HT
    have h61:=znm n m
    have Hm2:Hid (∀s,zbi s ((n.nm,zcg n m)::m)<=61):=by
     intro s
     rw [zbi]
     split
     · exact h61
     · exact Hm.out s
    clear hO hL2 hv hn hnt HD m1 m2 m3 m4 m5 mf
    generalize zcg n m=cm at HCo HT h61 Hm2
    go_wp2_with (go_at_call 116;refine HCo.out.mono ?_;rintro e w1 ⟨rfl,hB1⟩;obtain ⟨w2,hr2,hC2,hF2⟩:=zqN (HC.out.keep hB1) n.nm cm;have r0:=zd hB1 m0 mz;have HC2:=za hC2;have HB2:=za (zbR (HB.out.trans (hB1.mono hzr)) hF2 (Nat.le_refl _));clear hB1 hC2 hF2)
    go_roundg (gk-1)
    case measure=>omega
    exact ⟨k+1,cm,_,by omega,by omega,by go_num,rfl,h61,Hm2.out,HT.out,HC2.out,HB2.out⟩
  · have ek:k=ns.length:=by omega
    subst ek
    rw [List.drop_length,zfW] at HD
    have HR2:=za (HR.out.keep HB.out)
    clear hO
    by_cases h60:60<last
    · have HT:Hid ((zeZ ns).foldl rep st=rep st 0):=by unfold Hid zeZ;rw [HD.out,if_pos h60];rfl
      have h60':(60:Int)<(last:Int):=by omega
      have HTell:=za (zaa S kd lb bb sb nmv askv st 0 wr HR2.out)
      clear h60 HD
      go_wp2_with (go_at_call 117;refine HTell.out.mono ?_;rintro e w2 ⟨rfl,hRt,hFt⟩;have HRt:=za hRt;have HFt:=za hFt;clear hRt hFt)
      first|go_end0|refine bodyPost_ret (results_none rfl _ _ _) rfl ?_
      rw [HT.out]
      exact ⟨rfl,HRt.out,(zy HB.out).trans HFt.out⟩
    · have HT:Hid ((zeZ ns).foldl rep st=st):=by unfold Hid zeZ;rw [HD.out,if_neg h60];rfl
      have h60':¬(60:Int)<(last:Int):=by omega
      clear h60 HD
      go_wp2_with fail
      first|go_end0|refine bodyPost_ret (results_none rfl _ _ _) rfl ?_
      rw [HT.out]
      exact ⟨rfl,HR2.out,zy HB.out⟩
end
end Go.Proofs.YtedmpgjebafcjaaGreatDoor
