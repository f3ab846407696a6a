/- Part 47 of the proof: UpA UpB UpC UpD. -/
import Derived.Test.YtedmpgjebafcjaaGreatDoorK45
set_option maxRecDepth 100000
set_option maxHeartbeats 8000000
namespace Go.Proofs.YtedmpgjebafcjaaGreatDoor
section
open Go.RowKit
theorem zaf {B:Nat} {a w:World} (h:Below B a w) (n:Nat):Below B a (w.drewN n):=⟨h.os,h.tape,h.output,h.size,h.block⟩
theorem Fr.drewN {T:Nat->Prop} {w w':World} (h:Fr T w w') (n:Nat):Fr T w (w'.drewN n):=⟨h.os,h.tape,h.output,h.size,h.block⟩
theorem zdu {W:World} {b i j:Nat} {u v:Value} (hk:¬j=i) (h:W.cell? ⟨b,i,none⟩=some v):(W.setCell ⟨b,j,none⟩ u).cell? ⟨b,i,none⟩=some v :=
 (World.cell?_setCell_other W (a:=⟨b,j,none⟩) (b:=⟨b,i,none⟩) (v:=u) (λe=>hk (by cases e;rfl))).trans h
structure Ir where
 at':Nat
 er:Option Nat
def Ir.fail (s:Ir):Ir:=if s.er=none then { s with er:=some s.at' } else s
def zbU (b:Bool) (s:Ir):Ir:=if b then s else s.fail
def zG (l:List Nat) (s:Ir):Nat×Ir :=
 if s.er=none then (if l.length<=s.at' then (0,{ s with er:=some s.at' }) else (l.getD s.at' 0,{ s with at':=s.at'+1 })) else (0,s)
def erV (S:Nat->Addr):Option Nat->Value
 | none=>.nilIface
 | some p=>.iface 74 (.agg #[sen S 10,.int .i64 (p:Nat)])
structure RL (S:Nat->Addr) (w:World) (rb:Nat) (v:Value) (g:Nat) (l:List Nat) (s:Ir):Prop where
 blk:w.heap[rb]?=some (.cells #[v,.int .i64 (s.at':Nat),erV S s.er] 116 (0,0))
 by':By w v g l
 le:s.at'<=l.length
 len:l.length<=1048576
 ne:¬g=rb
 rb21:21<=rb
 gl:Gl S w
 shp:zbW w
theorem RL.fr {S:Nat->Addr} {w w':World} {rb g:Nat} {v:Value} {l:List Nat} {s:Ir} (h:RL S w rb v g l s) {T:Nat->Prop} (hF:Fr T w w') (h1:¬T rb) (h2:¬T g) (h21:∀k,T k->21<=k) (hg:l≠[]->g<w.heap.size):RL S w' rb v g l s:=by
 refine ⟨(hF.block rb (ze h.blk) h1).trans h.blk,?_,h.le,h.len,h.ne,h.rb21,h.gl.of hF h21,h.shp.old (hF.old h.gl.size h21) (Nat.le_refl _)⟩
 by_cases hl:l=[]
 · obtain ⟨a,c,e1,e2,e3,e4⟩:=h.by'.ex
   exact ⟨⟨a,c,e1,e2,e3,λh=>absurd hl h⟩,h.by'.lt⟩
 · exact h.by'.of (hF.block g (hg hl) h2)
theorem By.lt' {w:World} {v:Value} {g:Nat} {l:List Nat} (h:By w v g l) (hl:l≠[]):g<w.heap.size:=by
 obtain ⟨a,c,e1,e2,e3,e4⟩:=h.ex
 obtain ⟨o,e5,e6⟩:=e4 hl
 cases l with
 | nil=>exact absurd rfl hl
 | cons x l =>
   have:=e6 0 x rfl
   unfold World.cell? at this
   rcases Nat.lt_or_ge g w.heap.size with h'|h'
   · exact h'
   · simp [Array.getElem?_eq_none h'] at this
theorem RL.below {S:Nat->Addr} {w w':World} {rb g:Nat} {v:Value} {l:List Nat} {s:Ir} (h:RL S w rb v g l s) (hB:Below w.heap.size w w'):RL S w' rb v g l s :=
 h.fr (T:=λ_=>False) (Fr.of_below hB) id id (λ_ h=>h.elim) (λhl=>h.by'.lt' hl)
theorem RL.set {S:Nat->Addr} {w w':World} {rb g:Nat} {v:Value} {l:List Nat} {s s':Ir} (h:RL S w rb v g l s) (hF:Fr (·=rb) w w') (hb:w'.heap[rb]?=some (.cells #[v,.int .i64 (s'.at':Nat),erV S s'.er] 116 (0,0))) (hle:s'.at'<=l.length):RL S w' rb v g l s':=by
 refine ⟨hb,?_,hle,h.len,h.ne,h.rb21,h.gl.of hF (λk e=>e▸h.rb21),h.shp.old (hF.old h.gl.size (λk e=>e▸h.rb21)) (Nat.le_refl _)⟩
 by_cases hl:l=[]
 · obtain ⟨a,c,e1,e2,e3,e4⟩:=h.by'.ex
   exact ⟨⟨a,c,e1,e2,e3,λh=>absurd hl h⟩,h.by'.lt⟩
 · exact h.by'.of (hF.block g (h.by'.lt' hl) h.ne)
def zhi (S:Nat->Addr) (rb:Nat) (v:Value) (g:Nat) (l:List Nat) (w:World) (r:Value) (s:Ir) (e:Ending) (w':World):Prop :=
 e=.returned r/\RL S w' rb v g l s/\Fr (·=rb) w w'
theorem Ir.fail_le (s:Ir):s.fail.at'=s.at':=by unfold Ir.fail;split <;> rfl
theorem zgm (S:Nat->Addr) (rb:Nat) (v:Value) (g:Nat) (l:List Nat) (s:Ir) (w:World) (h:RL S w rb v g l s) :
 Calls Tryz.prog 77 #[.pointer (some ⟨rb,0,none⟩)] w (zhi S rb v g l w (.tuple #[]) s.fail):=by
 obtain ⟨h0,h1,h2,hf,hz⟩:=zL h.blk
 have hi:=h.gl.image
 have h21:=h.rb21
 have h21':=h.gl.size
 unfold sen at hi
 have H:=za h
 obtain ⟨p,er⟩:=s
 clear h
 cases er with
 | some q =>
   unfold erV at h2
   go_enter Tryz.func77,Tryz.ntmps77
   go_wp2_with fail
   go_end0
   exact ⟨rfl,H.out,Fr.refl _ _⟩
 | none =>
   have hb:w.heap[rb]?=some (.cells #[v,.int .i64 (p:Nat),.nilIface] 116 (0,0)):=H.out.blk
   unfold erV at h2
   simp only at h1 h2
   have Hb:=za hb
   clear hb
   go_enter Tryz.func77,Tryz.ntmps77
   go_wp2_with fail
   go_region_held3 (λw'=>w'.cell? ⟨11,0,none⟩=some (.iface 293 (.pointer (some (S 10))))/\w'.cell? ⟨rb,1,none⟩=some (.int .i64 (p:Nat)))
    (refine ⟨?_,?_⟩ <;> repeat (first|with_reducible exact hi|with_reducible exact h1|with_reducible refine zg ?_|with_reducible refine zk (by omega) ?_|with_reducible refine zdu (by decide) ?_|with_reducible refine zd HB.out ?_ (by omega)))
    (first|(go_at_call 44;refine (zfc S 10 _ _).mono ?_;rintro e w1 ⟨rfl,hB⟩;have HB:=za (zw hB);have hz1:=HB.out.size;obtain ⟨a0,a1,a2,af,az⟩:=zL ((HB.out.block rb hz).trans Hb.out);clear hB))
   go_end0
   refine ⟨rfl,?_,((Fr.refl _ w).belowed HB.out).set1 _ _⟩
   exact H.out.set (((Fr.refl _ w).belowed HB.out).set1 _ _) (zh _ _ _ _ ((HB.out.block rb hz).trans Hb.out)) H.out.le
theorem zeg (S:Nat->Addr) (rb:Nat) (v:Value) (g:Nat) (l:List Nat) (s:Ir) (b:Bool) (w:World) (h:RL S w rb v g l s) :
 Calls Tryz.prog 39 #[.pointer (some ⟨rb,0,none⟩),.bool b] w (zhi S rb v g l w (.tuple #[]) (zbU b s)):=by
 have H:=za h
 have HF:=za (zgm S rb v g l s w h)
 clear h
 cases b
 · go_enter Tryz.func39,Tryz.ntmps39
   go_wp2_with (go_at_call 77;refine HF.out.mono ?_;rintro e w1 ⟨rfl,h1,h2⟩;have H1:=za h1;have H2:=za h2;clear h1 h2)
   go_end0
   exact ⟨rfl,H1.out,H2.out⟩
 · go_enter Tryz.func39,Tryz.ntmps39
   go_wp2_with fail
   go_end0
   exact ⟨rfl,H.out,Fr.refl _ _⟩
theorem zcI (l:List Nat) (s:Ir) (hl:∀x∈l,x<256):(zG l s).1<256:=by
 unfold zG
 split
 · split
   · exact Nat.zero_lt_of_lt (show 0<256 by decide)
   · rename_i h
     have h':s.at'<l.length:=by omega
     simp only [List.getD_eq_getElem?_getD,zsc h',Option.getD_some]
     exact hl _ (List.getElem_mem h')
 · exact Nat.zero_lt_of_lt (show 0<256 by decide)
theorem zem (S:Nat->Addr) (rb:Nat) (v:Value) (g:Nat) (l:List Nat) (s:Ir) (w:World) (h:RL S w rb v g l s) :
 Calls Tryz.prog 40 #[.pointer (some ⟨rb,0,none⟩)] w (zhi S rb v g l w (.int .u8 ((zG l s).1:Nat)) (zG l s).2):=by
 obtain ⟨h0,h1,h2,hf,hz⟩:=zL h.blk
 have h21:=h.rb21
 have hle:=h.le
 have hlen:=h.len
 have H:=za h
 have HF:=za (zgm S rb v g l s w h)
 obtain ⟨a,cp,rfl,hcp,hmx,hin⟩:=h.by'.ex
 have hmx':cp<=9223372036854775807:=by unfold maxLen at hmx;omega
 obtain ⟨p,er⟩:=s
 simp only at hle
 clear h hmx
 cases er with
 | some q =>
   have HE:Hid (zG l ⟨p,some q⟩=(0,⟨p,some q⟩)):=by unfold Hid zG;rfl
   have HE2:Hid ((⟨p,some q⟩:Ir).fail=⟨p,some q⟩):=rfl
   rw [HE2.out] at HF
   unfold erV at h2
   simp only at h1 h2
   clear hin
   by_cases hp:l.length<=p
   all_goals
    go_enter Tryz.func40,Tryz.ntmps40
    go_wp2_with fail
    go_quiet (fail)
    obtain ⟨W,hW⟩:∃W,W=w.drewN nq:=⟨_,rfl⟩
    rw [<- hW]
    have HBW:Hid (Below w.heap.size w W):=hW▸zaf (Below.refl _ _) nq
    have HW:=za (H.out.below HBW.out)
    have HFW:=za (zgm S rb _ g l ⟨p,some q⟩ W HW.out)
    rw [HE2.out] at HFW
    obtain ⟨a0,a1,a2,af,az⟩:=zL HW.out.blk
    unfold erV at a2
    simp only at a1 a2
    clear hW h0 h1 h2 hf hz HF
    go_wp2_with (go_at_call 77;refine HFW.out.mono ?_;rintro e w1 ⟨rfl,h1,h2⟩;have H1:=za h1;have H2:=za h2;obtain ⟨b0,b1,b2,bf,bz⟩:=zL H1.out.blk;unfold erV at b2;simp only at b1 b2;clear h1 h2 a0 a1 a2 af az)
    go_ret
    rw [HE.out]
    first
     | exact ⟨rfl,H1.out,(Fr.of_below HBW.out).trans H2.out⟩
     | exact ⟨rfl,HW.out,Fr.of_below HBW.out⟩
 | none =>
   by_cases hp:l.length<=p
   · have HE:Hid (zG l ⟨p,none⟩=(0,⟨p,some p⟩)):=by unfold Hid zG;rw [if_pos rfl,if_pos hp]
     have HE2:Hid ((⟨p,none⟩:Ir).fail=⟨p,some p⟩):=rfl
     unfold erV at h2
     simp only at h1 h2
     clear hin
     go_enter Tryz.func40,Tryz.ntmps40
     go_wp2_with fail
     go_quiet (fail)
     obtain ⟨W,hW⟩:∃W,W=w.drewN nq:=⟨_,rfl⟩
     rw [<- hW]
     have HBW:Hid (Below w.heap.size w W):=hW▸zaf (Below.refl _ _) nq
     have HW:=za (H.out.below HBW.out)
     have HFW:=za (zgm S rb _ g l ⟨p,none⟩ W HW.out)
     rw [HE2.out] at HFW
     clear hW h0 h1 h2 hf hz HF
     go_wp2_with (go_at_call 77;refine HFW.out.mono ?_;rintro e w1 ⟨rfl,h1,h2⟩;have H1:=za h1;have H2:=za h2;obtain ⟨b0,b1,b2,bf,bz⟩:=zL H1.out.blk;unfold erV at b2;simp only at b1 b2;clear h1 h2)
     go_ret
     rw [HE.out]
     exact ⟨rfl,H1.out,(Fr.of_below HBW.out).trans H2.out⟩
   · obtain ⟨y,hy⟩:∃y,l[p]?=some y:=⟨_,zsc (by omega)⟩
     have HE:Hid (zG l ⟨p,none⟩=(y,⟨p+1,none⟩)):=by unfold Hid zG;rw [if_pos rfl,if_neg hp];simp only [List.getD_eq_getElem?_getD,hy,Option.getD_some]
     obtain ⟨o,rfl,hcell⟩:=hin (by intro e;rw [e] at hy;simp at hy)
     have hc:=hcell p y hy
     have hgb:=H.out.ne
     unfold erV at h2
     simp only at h1 h2
     have hb:w.heap[rb]?=some (.cells #[.slice (some ⟨g,o,none⟩) l.length cp,.int .i64 (p:Nat),.nilIface] 116 (0,0)):=H.out.blk
     have Hb:=za hb
     clear hcell hin hb hy HF
     go_enter Tryz.func40,Tryz.ntmps40
     go_wp2_with fail
     go_quiet (fail)
     obtain ⟨W,hW⟩:∃W,W=w.drewN nq:=⟨_,rfl⟩
     rw [<- hW]
     have HBW:Hid (Below w.heap.size w W):=hW▸zaf (Below.refl _ _) nq
     have hzW:=HBW.out.size
     obtain ⟨a0,a1,a2,af,az⟩:=zL ((HBW.out.block rb hz).trans Hb.out)
     have ac:=zd HBW.out hc (H.out.by'.lt' (by intro e;subst e;simp at hp))
     clear hW h0 h1 h2 hf hc
     go_wp2_with fail
     go_quiet (fail)
     go_wp2_with fail
     go_ret
     rw [HE.out]
     have hF:Fr (·=rb) w ((W.setCell ⟨rb,1,none⟩ (.int .i64 ((p:Int)+1))).drewN nq):=(Fr.drewN ((Fr.of_below HBW.out).set1 _ _) nq)
     refine ⟨rfl,H.out.set hF ?_ (show p+1<=l.length by omega),hF⟩
     have e1:((p+1:Nat):Int)=(p:Int)+1:=by omega
     simp only [e1,erV]
     exact zh _ _ _ _ ((HBW.out.block rb hz).trans Hb.out)
def zad (l:List Nat) (bd:Nat) (s:Ir):Nat×Ir:=((zG l s).1,zbU (decide ((zG l s).1<bd)) (zG l s).2)
theorem zez (S:Nat->Addr) (rb:Nat) (v:Value) (g:Nat) (l:List Nat) (s:Ir) (bd:Nat) (_hbd:bd<=1000000) (w:World) (h:RL S w rb v g l s) :
 Calls Tryz.prog 78 #[.pointer (some ⟨rb,0,none⟩),.int .i64 (bd:Nat)] w (zhi S rb v g l w (.int .i64 ((zad l bd s).1:Nat)) (zad l bd s).2):=by
 have HB:=za (zem S rb v g l s w h)
 have hlt:=zcI l s h.by'.lt
 have HE:Hid (zad l bd s=((zG l s).1,zbU (decide ((zG l s).1<bd)) (zG l s).2)):=rfl
 rcases hR:zG l s with ⟨y,s1⟩
 rw [hR] at HB hlt HE
 simp only at HB hlt HE
 obtain ⟨q,hq⟩:∃q:Bool,q=decide (y<bd):=⟨_,rfl⟩
 rw [<- hq] at HE
 have HQ:=za (λw1 (h1:RL S w1 rb v g l s1)=>zeg S rb v g l s1 q w1 h1)
 clear h hR
 by_cases hyb:y<bd
 all_goals
  first
   | (have e:q=true:=by rw [hq];exact decide_eq_true hyb
      subst e)
   | (have e:q=false:=by rw [hq];exact decide_eq_false hyb
      subst e)
  clear hq
  go_enter Tryz.func78,Tryz.ntmps78
  go_wp2_with (first
   | (go_at_call 39;revert H1;intro H1;refine (HQ.out w1 H1.out).mono ?_;rintro e w2 ⟨rfl,h1,h2⟩;have H3:=za h1;have H4:=za h2;clear h1 h2)
   | (go_at_call 40;refine HB.out.mono ?_;rintro e w1 ⟨rfl,h1,h2⟩;have H1:=za h1;have H2:=za h2;clear h1 h2))
  go_ret
  rw [HE.out]
  exact ⟨rfl,H3.out,H2.out.trans H4.out⟩
def zc2 (l:List Nat):Nat->Ir->List Nat×Ir
 | 0,s=>([],s)
 | n+1,s=>((zG l s).1::(zc2 l n (zG l s).2).1,(zc2 l n (zG l s).2).2)
def ze2 (bs:List Nat):Nat:=bs.foldr (λb v=>b+256*v) 0
theorem zpC (bs:List Nat) (h:∀x∈bs,x<256):ze2 bs<256 ^ bs.length:=by
 induction bs with
 | nil=>exact Nat.one_pos
 | cons b bs ih =>
   have h1:=ih (λx hx=>h x (List.mem_cons_of_mem _ hx))
   have h2:=h b List.mem_cons_self
   show b+256*ze2 bs < _
   rw [List.length_cons,Nat.pow_succ]
   omega
theorem zmr (bs:List Nat) (b:Nat):ze2 (bs++[b])=ze2 bs+256 ^ bs.length*b:=by
 induction bs with
 | nil=>show b+256*0=0+_;simp
 | cons a bs ih =>
   show a+256*ze2 (bs++[b])=a+256*ze2 bs+_
   rw [ih,List.length_cons,Nat.pow_succ,Nat.mul_add,<- Nat.mul_assoc,Nat.mul_comm 256 (256 ^ bs.length)]
   omega
def zcK (l:List Nat) (s:Ir):Int×Ir:=(wrap64 (ze2 (zc2 l 8 s).1:Nat),(zc2 l 8 s).2)
theorem zn9 (V X:Nat) (hV:V<18446744073709551616) (hX:X<18446744073709551616) (h:V ||| X=V+X):bits .or .i64 (V:Int) (wrap64 (X:Int))=wrap64 ((V+X:Nat):Int):=by
 have h1:(BitVec.ofInt 64 (V:Int)).toNat=V:=by
  rw [BitVec.ofInt_natCast,BitVec.toNat_ofNat];exact Nat.mod_eq_of_lt (by omega)
 have h2:(BitVec.ofInt 64 (wrap64 (X:Int))).toNat=X:=by
  rw [BitVec.toNat_ofInt]
  unfold wrap64
  have:((2 ^ 64:Nat):Int)=18446744073709551616:=by decide
  rw [this]
  omega
 have h3:bits .or .i64 (V:Int) (wrap64 (X:Int))=IntKind.i64.wrap ((BitVec.ofInt 64 (V:Int) ||| BitVec.ofInt 64 (wrap64 (X:Int))).toNat:Int):=rfl
 rw [h3,BitVec.toNat_or,h1,h2,h,IntKind.wrap_i64]
 unfold wrap64
 omega
theorem zqY (V b k:Nat) (hk:k<8) (hV:V<256 ^ k) (hb:b<256):bits .or .i64 (V:Int) (wrap64 ((b:Int)*2 ^ (8*k)))=wrap64 ((V+256 ^ k*b:Nat):Int):=by
 have hp:(256:Nat) ^ k=2 ^ (8*k):=by rw [show (256:Nat)=2 ^ 8 by decide,<- Nat.pow_mul]
 have h8:256 ^ k<=72057594037927936:=by
  have:(256:Nat) ^ k<=256 ^ 7:=Nat.pow_le_pow_right (by decide) (by omega)
  exact Nat.le_trans this (by decide)
 obtain ⟨Pk,hPk⟩:∃P:Nat,P=2 ^ (8*k):=⟨_,rfl⟩
 have hsh:b <<< (8*k)=b*Pk:=by rw [Nat.shiftLeft_eq,hPk]
 have hor:b <<< (8*k)+V=b <<< (8*k) ||| V:=Nat.shiftLeft_add_eq_or_of_lt (by rw [<- hp];exact hV) b
 rw [hsh] at hor
 have hci:((2:Int) ^ (8*k))=(Pk:Int):=by rw [hPk];simp
 rw [hp,<- hPk] at hV h8 ⊢
 rw [hci]
 have hbp:b*Pk<18446744073709551616:=by
  have:b*Pk<=255*Pk:=Nat.mul_le_mul_right _ (by omega)
  omega
 have hV2:V<18446744073709551616:=by omega
 clear hPk hsh hp hci
 have hc:((b:Int)*(Pk:Int))=((b*Pk:Nat):Int):=by simp
 rw [hc,Nat.mul_comm Pk b]
 obtain ⟨X,hX⟩:∃X,X=b*Pk:=⟨_,rfl⟩
 rw [<- hX] at hbp hor ⊢
 clear hX hc
 exact zn9 V X hV2 hbp (by rw [Nat.or_comm];omega)
theorem zf7 (S:Nat->Addr) (rb:Nat) (v:Value) (g:Nat) (l:List Nat) (s:Ir) (w:World) (h:RL S w rb v g l s) :
 Calls Tryz.prog 76 #[.pointer (some ⟨rb,0,none⟩)] w (zhi S rb v g l w (.int .i64 (zcK l s).1) (zcK l s).2):=by
 have H:=za h
 have Hlt:=za h.by'.lt
 clear h
 go_enter Tryz.func76,Tryz.ntmps76
 go_wp2_with fail
 go_loopg [3,5] 9 (λj a i wr=>∃(k:Nat) (bs:List Nat) (t:Ir),k+j=9/\k<=8/\i=.int .i64 k/\a=.int .i64 (wrap64 (ze2 bs:Nat))/\Hid (bs.length=k/\(∀x∈bs,x<256)/\zc2 l 8 s=(bs++(zc2 l (8-k) t).1,(zc2 l (8-k) t).2))/\Hid (RL S wr rb v g l t)/\Hid (Fr (·=rb) w wr))
 case atStart=>exact ⟨0,[],s,rfl,by omega,rfl,by kernel_rfl,za ⟨rfl,(λx hx=>by cases hx),rfl⟩,H.out,Fr.refl _ _⟩
 case round =>
  obtain ⟨k,bs,t,hk,hk8,rfl,rfl,HS,HR,HF⟩:=hrel
  by_cases hlt:k<8
  · have HB:=za (zem S rb v g l t wr HR.out)
    have hy:=zcI l t Hlt.out
    have HT:Hid (zc2 l (8-k) t=((zG l t).1::(zc2 l (8-(k+1)) (zG l t).2).1,(zc2 l (8-(k+1)) (zG l t).2).2)):=by
     unfold Hid
     rw [show 8-k=(8-(k+1))+1 by omega];rfl
    rcases hR:zG l t with ⟨y,s1⟩
    rw [hR] at HB hy HT
    simp only at HB hy HT
    obtain ⟨V,hV⟩:∃V,V=ze2 bs:=⟨_,rfl⟩
    rw [<- hV]
    have hVb:V<256 ^ k:=by rw [hV,<- HS.out.1];exact zpC bs HS.out.2.1
    have hw:wrap64 (V:Int)=(V:Int):=by
     have:k=0∨k=1∨k=2∨k=3∨k=4∨k=5∨k=6∨k=7:=by omega
     unfold wrap64
     rcases this with rfl|rfl|rfl|rfl|rfl|rfl|rfl|rfl <;> simp only [Nat.reducePow] at hVb <;> omega
    have HO:=za (zqY V y k hlt hVb hy)
    have HV:=za hV
    rw [hw]
    clear hR hV hw hVb
    go_wp2_with (go_at_call 40;refine HB.out.mono ?_;rintro e w1 ⟨rfl,h1,h2⟩;have H1:=za h1;have H2:=za h2;clear h1 h2)
    rw [HO.out]
    go_roundg (gk-1)
    case measure=>omega
    case rel =>
     obtain ⟨q1,q2,q3⟩:=HS.out
     refine ⟨k+1,bs++[y],s1,by omega,by omega,by go_num,?_,za ⟨by simp [q1],?_,?_⟩,H1.out,HF.out.trans H2.out⟩
     · rw [zmr,<- HV.out,q1]
     · intro x hx
       rcases List.mem_append.1 hx with hx|hx
       · exact q2 x hx
       · simp at hx;omega
     · rw [q3,HT.out];simp
  · have e8:k=8:=by omega
    subst e8
    obtain ⟨q1,q2,q3⟩:=HS.out
    have HE:Hid (zcK l s=(wrap64 (ze2 bs:Nat),t)):=by
     unfold Hid zcK;rw [q3];simp [zc2]
    clear q1 q2 q3
    go_wp2_with fail
    go_ret
    rw [HE.out]
    exact ⟨rfl,HR.out,HF.out⟩
structure UI (B cb:Nat) (bv cv rv:Value) (K:Cd) (w:World):Prop where
 blk:w.heap[cb]?=some (.cells #[bv,.int .i64 K.outs,.int .i64 K.slots,cv,.int .i64 K.depth,rv] 67 (0,0))
 bown:w.ownsRow B 4 1 bv K.bools.length (K.bools.map .bool)
 cown:w.ownsRow B 2 1 cv K.cells.length (zK K.cells)
 rown:w.ownsRow B 70 2 rv K.row.length (zbs K.row)
 hcb:cb<B
 d1:∀k,bv.ownBlock=some k->¬cv.ownBlock=some k/\¬rv.ownBlock=some k
 d2:∀k,cv.ownBlock=some k->¬rv.ownBlock=some k
 hB:B<=w.heap.size
def UC (B cb:Nat) (K:Cd) (w:World):Prop:=∃bv cv rv,UI B cb bv cv rv K w
theorem UI.fr {B cb:Nat} {bv cv rv:Value} {K:Cd} {w w':World} (h:UI B cb bv cv rv K w) {T:Nat->Prop} (hF:Fr T w w') (hT:∀k,T k->k<cb):UI B cb bv cv rv K w':=by
 have hcb:=h.hcb
 have hb:∀k,B<=k->k<w.heap.size->w'.heap[k]?=w.heap[k]?:=λk h1 h2=>hF.block k h2 (λe=>by have:=hT k e;omega)
 exact ⟨(hF.block _ (ze h.blk) (λe=>by have:=hT _ e;omega)).trans h.blk,zi h.bown (λk h1 h2 _=>hb k h1 h2),zi h.cown (λk h1 h2 _=>hb k h1 h2),zi h.rown (λk h1 h2 _=>hb k h1 h2),h.hcb,h.d1,h.d2,Nat.le_trans h.hB hF.size⟩
theorem UC.fr {B cb:Nat} {K:Cd} {w w':World} (h:UC B cb K w) {T:Nat->Prop} (hF:Fr T w w') (hT:∀k,T k->k<cb):UC B cb K w':=by
 obtain ⟨bv,cv,rv,h⟩:=h
 exact ⟨bv,cv,rv,h.fr hF hT⟩
theorem UI.turned {B cb i:Nat} {bv cv rv v v':Value} {K:Cd} {w w9:World} {X:Obj} (h:UI B cb bv cv rv K w) (hF:Fr (λk=>v.ownBlock=some k) (w.alloc X) w9) (hv:∀k,v.ownBlock=some k->B<=k) :
 (∀k,k<w.heap.size->¬v.ownBlock=some k->¬k=cb->(w9.setCell ⟨cb,i,none⟩ v').heap[k]?=w.heap[k]?)/\w9.heap[cb]?=w.heap[cb]?/\w.heap.size<=(w9.setCell ⟨cb,i,none⟩ v').heap.size/\Fr (λk=>cb<=k) w (w9.setCell ⟨cb,i,none⟩ v'):=by
 have hcb:=h.hcb
 have hB:=h.hB
 have hs:(w.alloc X).heap.size=w.heap.size+1:=by simp
 have hz9:=hF.size
 have hb:∀k,k<w.heap.size->¬v.ownBlock=some k->w9.heap[k]?=w.heap[k]?:=λk hk hn=>(hF.block k (by omega) hn).trans (Below.heap_alloc _ _ _ hk)
 have h1:∀k,k<w.heap.size->¬v.ownBlock=some k->¬k=cb->(w9.setCell ⟨cb,i,none⟩ v').heap[k]?=w.heap[k]?:=λk hk hn hc=>zr hc (hb k hk hn)
 have hz:(w9.setCell ⟨cb,i,none⟩ v').heap.size=w9.heap.size:=by simp
 refine ⟨h1,hb cb (by omega) (λe=>by have:=hv _ e;omega),by omega,hF.os,hF.tape,hF.output,by omega,λk hk hn=>h1 k hk (λe=>hn (by have:=hv _ e;show cb<=k;omega)) (λe=>hn (Nat.le_of_eq e.symm))⟩
theorem UI.booled {B cb:Nat} {bv cv rv v':Value} {K:Cd} {b:Bool} {w w9:World} {X:Obj} (h:UI B cb bv cv rv K w) (hF:Fr (λk=>bv.ownBlock=some k) (w.alloc X) w9)
 (hown:w9.ownsRow B 4 1 v' (K.bools.length+1) (K.bools.map .bool++[.bool b])) (hnew:∀k,v'.ownBlock=some k->bv.ownBlock=some k∨w.heap.size+1<=k) :
 UC B cb { K with bools:=K.bools++[b] } (w9.setCell ⟨cb,0,none⟩ v')/\Fr (λk=>cb<=k) w (w9.setCell ⟨cb,0,none⟩ v'):=by
 obtain ⟨h1,h2,h3,h4⟩:=h.turned (i:=0) (v':=v') hF (λk e=>(h.bown.lt k e).1)
 have hcb:=h.hcb
 refine ⟨⟨v',cv,rv,zh _ _ _ _ (h2.trans h.blk),?_,zi h.cown (λk e1 e2 e=>h1 k e2 (λe'=>(h.d1 k e').1 e) (by omega)),zi h.rown (λk e1 e2 e=>h1 k e2 (λe'=>(h.d1 k e').2 e) (by omega)),h.hcb,λk e=>?_,h.d2,Nat.le_trans h.hB h3⟩,h4⟩
 · have:=zi hown (w':=w9.setCell ⟨cb,0,none⟩ v') (λk e1 e2 _=>zr (by omega) rfl)
   show World.ownsRow _ B 4 1 v' (K.bools++[b]).length ((K.bools++[b]).map .bool)
   rw [List.length_append,List.map_append]
   exact this
 · rcases hnew k e with e2|e2
   · exact h.d1 k e2
   · exact ⟨λe3=>by have:=(h.cown.lt _ e3).2;omega,λe3=>by have:=(h.rown.lt _ e3).2;omega⟩
theorem zlk (l:List Int) (x:Int):zK (l++[x])=zK l++[.int .i64 x]:=by unfold zK;simp
theorem UI.celled {B cb:Nat} {bv cv rv v':Value} {K:Cd} {x:Int} {w w9:World} {X:Obj} (h:UI B cb bv cv rv K w) (hF:Fr (λk=>cv.ownBlock=some k) (w.alloc X) w9)
 (hown:w9.ownsRow B 2 1 v' (K.cells.length+1) (zK K.cells++[.int .i64 x])) (hnew:∀k,v'.ownBlock=some k->cv.ownBlock=some k∨w.heap.size+1<=k) :
 UC B cb { K with cells:=K.cells++[x] } (w9.setCell ⟨cb,3,none⟩ v')/\Fr (λk=>cb<=k) w (w9.setCell ⟨cb,3,none⟩ v'):=by
 obtain ⟨h1,h2,h3,h4⟩:=h.turned (i:=3) (v':=v') hF (λk e=>(h.cown.lt k e).1)
 have hcb:=h.hcb
 refine ⟨⟨bv,v',rv,zh _ _ _ _ (h2.trans h.blk),zi h.bown (λk e1 e2 e=>h1 k e2 (λe'=>(h.d1 k e).1 e') (by omega)),?_,zi h.rown (λk e1 e2 e=>h1 k e2 (λe'=>h.d2 k e' e) (by omega)),h.hcb,λk e=>⟨λe'=>?_,(h.d1 k e).2⟩,λk e=>?_,Nat.le_trans h.hB h3⟩,h4⟩
 · have:=zi hown (w':=w9.setCell ⟨cb,3,none⟩ v') (λk e1 e2 _=>zr (by omega) rfl)
   show World.ownsRow _ B 2 1 v' (K.cells++[x]).length (zK (K.cells++[x]))
   rw [List.length_append,zlk]
   exact this
 · rcases hnew k e' with e2|e2
   · exact (h.d1 k e).1 e2
   · have:=(h.bown.lt _ e).2;omega
 · rcases hnew k e with e2|e2
   · exact h.d2 k e2
   · exact λe3=>by have:=(h.rown.lt _ e3).2;omega
theorem UI.added {B cb:Nat} {bv cv rv v':Value} {K:Cd} {op:Nat} {x:Int} {w w9:World} {X:Obj} (h:UI B cb bv cv rv K w) (hF:Fr (λk=>rv.ownBlock=some k) (w.alloc X) w9)
 (hown:w9.ownsRow B 70 2 v' (K.row.length+1) (zbs K.row++[.int .u8 (op:Int),.int .i64 x])) (hnew:∀k,v'.ownBlock=some k->rv.ownBlock=some k∨w.heap.size+1<=k) :
 UC B cb { K with row:=K.row++[(op,x)] } (w9.setCell ⟨cb,5,none⟩ v')/\Fr (λk=>cb<=k) w (w9.setCell ⟨cb,5,none⟩ v'):=by
 obtain ⟨h1,h2,h3,h4⟩:=h.turned (i:=5) (v':=v') hF (λk e=>(h.rown.lt k e).1)
 have hcb:=h.hcb
 refine ⟨⟨bv,cv,v',zh _ _ _ _ (h2.trans h.blk),zi h.bown (λk e1 e2 e=>h1 k e2 (λe'=>(h.d1 k e).2 e') (by omega)),zi h.cown (λk e1 e2 e=>h1 k e2 (λe'=>h.d2 k e e') (by omega)),?_,h.hcb,λk e=>⟨(h.d1 k e).1,λe'=>?_⟩,λk e e'=>?_,Nat.le_trans h.hB h3⟩,h4⟩
 · have:=zi hown (w':=w9.setCell ⟨cb,5,none⟩ v') (λk e1 e2 _=>zr (by omega) rfl)
   have e:zbs (K.row++[(op,x)])=zbs K.row++[.int .u8 (op:Int),.int .i64 x]:=by unfold zbs;rw [List.flatMap_append];rfl
   show World.ownsRow _ B 70 2 v' (K.row++[(op,x)]).length (zbs (K.row++[(op,x)]))
   rw [List.length_append,e]
   exact this
 · rcases hnew k e' with e2|e2
   · exact (h.d1 k e).2 e2
   · have:=(h.bown.lt _ e).2;omega
 · rcases hnew k e' with e2|e2
   · exact h.d2 k e e2
   · have:=(h.cown.lt _ e).2;omega
theorem UI.setN {B cb i:Nat} {bv cv rv u:Value} {K K':Cd} {w:World} (h:UI B cb bv cv rv K w) (hb:(w.setCell ⟨cb,i,none⟩ u).heap[cb]?=some (.cells #[bv,.int .i64 K'.outs,.int .i64 K'.slots,cv,.int .i64 K'.depth,rv] 67 (0,0))) (h1:K'.bools=K.bools) (h2:K'.cells=K.cells) (h3:K'.row=K.row) :
 UI B cb bv cv rv K' (w.setCell ⟨cb,i,none⟩ u)/\Fr (λk=>cb<=k) w (w.setCell ⟨cb,i,none⟩ u):=by
 have hcb:=h.hcb
 have hz:(w.setCell ⟨cb,i,none⟩ u).heap.size=w.heap.size:=by simp
 refine ⟨⟨hb,?_,?_,?_,h.hcb,h.d1,h.d2,by have:=h.hB;omega⟩,((Fr.refl (λk=>cb<=k) w).setCell (Or.inl (Nat.le_refl _)) u)⟩
 · rw [h1];exact zi h.bown (λk e1 e2 _=>zr (by omega) rfl)
 · rw [h2];exact zi h.cown (λk e1 e2 _=>zr (by omega) rfl)
 · rw [h3];exact zi h.rown (λk e1 e2 _=>zr (by omega) rfl)
def zbb (l:List Nat):Nat->Ir->List Bool×Ir
 | 0,s=>([],s)
 | n+1,s=>(((zad l 2 s).1==1)::(zbb l n (zad l 2 s).2).1,(zbb l n (zad l 2 s).2).2)
def zcy (l:List Nat):Nat->Ir->List Int×Ir
 | 0,s=>([],s)
 | n+1,s=>((zcK l s).1::(zcy l n (zcK l s).2).1,(zcy l n (zcK l s).2).2)
def zdL (l:List Nat) (s:Ir):Cd×Ir :=
 let b:=zG l s
 let r:=zbb l b.1 b.2
 let o:=zG l r.2
 let t:=zG l o.2
 let n:=zad l 61 (zbU (decide (r.1.length+o.1<=t.1)) t.2)
 let c:=zcy l n.1 n.2
 (⟨r.1,o.1,t.1,c.1,0,[]⟩,c.2)
theorem RL.code {S:Nat->Addr} {w w':World} {rb g cb:Nat} {v:Value} {l:List Nat} {s:Ir} (h:RL S w rb v g l s) (hF:Fr (λk=>cb<=k) w w') (h1:rb<cb) (h2:l≠[]->g<cb) (h3:21<=cb):RL S w' rb v g l s:=by
 refine ⟨(hF.block rb (ze h.blk) (by omega)).trans h.blk,?_,h.le,h.len,h.ne,h.rb21,h.gl.of hF (λk e=>Nat.le_trans h3 e),h.shp.old (hF.old h.gl.size (λk e=>Nat.le_trans h3 e)) (Nat.le_refl _)⟩
 by_cases hl:l=[]
 · obtain ⟨a,c,e1,e2,e3,e4⟩:=h.by'.ex
   exact ⟨⟨a,c,e1,e2,e3,λh=>absurd hl h⟩,h.by'.lt⟩
 · exact h.by'.of (hF.block g (h.by'.lt' hl) (by have:=h2 hl;omega))
end
end Go.Proofs.YtedmpgjebafcjaaGreatDoor
