/- Part 23. -/
import Derived.Test.YtenadialhccdiaaGreatDoorK21
set_option maxRecDepth 100000
set_option maxHeartbeats 8000000
namespace Go.Proofs.YtenadialhccdiaaGreatDoor
open Go.Proofs.Tryz
open Go.RowKit
section
variable {l:Xn} {g rb:Nat} {S:Xs} {T:Xj} {v:Xv} {w w':Xw}
theorem zaf {B:Nat}{a:Xw}(h:Below B a w)(n:Nat):Below B a (w.drewN n):=⟨h.os,h.tape,h.output,h.size,h.block⟩
theorem Fr.drewN (h:Fr T w w')(n:Nat):Fr T w (w'.drewN n):=⟨h.os,h.tape,h.output,h.size,h.block⟩
theorem zdu {W:Xw}{b i j:Nat}{u:Xv}(hk:¬j=i)(h:W.cell? (xD b i)=some v):(W.setCell (xD b j) u).cell? (xD b i)=some v :=
 (World.cell?_setCell_other W (a:=(xD b j)) (b:=(xD b i)) (v:=u) (λe=>hk (by cases e;rfl))).trans h
structure Ir where
 at':Nat
 er:Option Nat
def Ir.fail (s:Ir):Ir:=if s.er=none then { s with er:=some s.at' } else s
def zbU (b:Bool)(s:Ir):Ir:=if b then s else s.fail
def zG (l:Xn)(s:Ir):Nat×Ir :=
 if s.er=none then (if l.length<=s.at' then (0,{ s with er:=some s.at' }) else (l.getD s.at' 0,{ s with at':=s.at'+1 })) else (0,s)
def erV (S:Xs):Option Nat->Value
 | none=>.nilIface
 | some p=>.iface 59 (.agg #[sen S 10,xI (p:Nat)])
structure RL (S:Xs) (w:Xw) (rb:Nat) (v:Xv) (g:Nat) (l:Xn) (s:Ir):Prop where
 blk:w.heap[rb]?=some (.cells #[v,xI (s.at':Nat),erV S s.er] 108 (0,0))
 by':By w v g l
 le:s.at'<=l.length
 len:l.length<=1048576
 ne:¬g=rb
 rb21:21<=rb
 gl:Gl S w
 shp:zbW w
theorem RL.fr {s:Ir}(h:RL S w rb v g l s)(hF:Fr T w w')(h1:¬T rb)(h2:¬T g)(h21:∀k,T k->21<=k)(hg:l≠[]->g<w.heap.size):RL S w' rb v g l s:=by
 refine⟨(hF.block rb (ze h.blk) h1).trans h.blk,?_,h.le,h.len,h.ne,h.rb21,h.gl.of hF h21,h.shp.old (hF.old h.gl.size h21) (zMK _)⟩;by_cases hl:l=[]
 . obtain⟨a,c,e1,e2,e3,e4⟩:=h.by'.ex;exact⟨⟨a,c,e1,e2,e3,λh=>absurd hl h⟩,h.by'.lt⟩
 exact h.by'.of (hF.block g (hg hl) h2)
theorem By.lt' (h:By w v g l)(hl:l≠[]):g<w.heap.size:=by
 obtain⟨a,c,e1,e2,e3,e4⟩:=h.ex;obtain⟨o,e5,e6⟩:=e4 hl;cases l with
 | nil=>exact absurd rfl hl
 | cons x l =>
   have:=e6 0 x rfl;unfold World.cell? at this;rcases Nat.lt_or_ge g w.heap.size with h'|h'
   . exact h'
   simp[Array.getElem?_eq_none h'] at this
theorem RL.below {s:Ir}(h:RL S w rb v g l s)(hB:xB w w'):RL S w' rb v g l s :=
 h.fr (T:=λ_=>False) (Fr.of_below hB) id id (λ_ h=>h.elim) (λhl=>h.by'.lt' hl)
theorem RL.set {s s':Ir}(h:RL S w rb v g l s)(hF:Fr (·=rb) w w')(hb:xH w' rb #[v,xI (s'.at':Nat),erV S s'.er] 108)(hle:s'.at'<=l.length):RL S w' rb v g l s':=by
 refine⟨hb,?_,hle,h.len,h.ne,h.rb21,h.gl.of hF (λk e=>e▸h.rb21),h.shp.old (hF.old h.gl.size (λk e=>e▸h.rb21)) (zMK _)⟩;by_cases hl:l=[]
 . obtain⟨a,c,e1,e2,e3,e4⟩:=h.by'.ex;exact⟨⟨a,c,e1,e2,e3,λh=>absurd hl h⟩,h.by'.lt⟩
 exact h.by'.of (hF.block g (h.by'.lt' hl) h.ne)
def zhi (S:Xs)(rb:Nat)(v:Xv)(g:Nat)(l:Xn)(w:Xw)(r:Xv)(s:Ir)(e:Ending)(w':Xw):Prop :=
 e=.returned r/\RL S w' rb v g l s/\Fr (·=rb) w w'
theorem Ir.fail_le (s:Ir):s.fail.at'=s.at':=by unfold Ir.fail;split <;> rfl
theorem zgm (S:Xs)(rb:Nat)(v:Xv)(g:Nat)(l:Xn)(s:Ir)(w:Xw)(H:RL S w rb v g l s) :
 xK 70 #[xP rb] w (zhi S rb v g l w (.tuple #[]) s.fail):=by
 obtain⟨h0,h1,h2,hf,hz⟩:=zL H.blk;have hi:=H.gl.image;have h21:=H.rb21;have h21':=H.gl.size;unfold sen at hi;obtain⟨p,er⟩:=s;cases er with
 | some q => unfold erV at h2;go_enter func70,ntmps70;go_wp2_with fail;go_end0;exact⟨rfl,H,Fr.refl _ _⟩
 | none =>
   have Hb:xH w rb #[v,xI (p:Nat),.nilIface] 108:=H.blk;unfold erV at h2;simp only at h1 h2;go_enter func70,ntmps70;go_wp2_with fail
   go_region_held3 (λw'=>w'.cell? (xD 10 0)=some (.iface 290 (.pointer (some (S 10))))/\w'.cell? (xD rb 1)=some (xI (p:Nat)))
    (refine⟨?_,?_⟩ <;> repeat (first|with_reducible exact hi|with_reducible exact h1|with_reducible refine zg ?_|with_reducible refine zk (by omega) ?_|with_reducible refine zdu (by decide) ?_|with_reducible refine zd HB ?_ (by omega)))
    (first|(go_at_call 42;refine (zfc S 10 _ _).mono ?_;rintro e w1 ⟨rfl,hB⟩;have HB:=(zw hB);have hz1:=HB.size;obtain⟨a0,a1,a2,af,az⟩:=zL ((HB.block rb hz).trans Hb)))
   go_end0;refine⟨rfl,?_,((Fr.refl _ w).belowed HB).set1 _ _⟩;exact H.set (((Fr.refl _ w).belowed HB).set1 _ _) (zh _ _ _ _ ((HB.block rb hz).trans Hb)) H.le
theorem zeg (S:Xs)(rb:Nat)(v:Xv)(g:Nat)(l:Xn)(s:Ir)(b:Bool)(w:Xw)(H:RL S w rb v g l s) :
 xK 33 #[xP rb,.bool b] w (zhi S rb v g l w (.tuple #[]) (zbU b s)):=by
 have HF:=zgm S rb v g l s w H;cases b
 . go_enter func33,ntmps33;go_wp2_with (go_at_call 70;refine HF.mono ?_;rintro e w1 ⟨rfl,H1,H2⟩);go_end0;exact⟨rfl,H1,H2⟩
 go_enter func33,ntmps33;go_wp2_with fail;go_end0;exact⟨rfl,H,Fr.refl _ _⟩
theorem zcI (l:Xn)(s:Ir)(hl:∀x∈l,x<256):(zG l s).1<256:=by
 unfold zG;split
 . split
   . exact Nat.zero_lt_of_lt (show 0<256 by decide)
   rename_i h
   have h':s.at'<l.length:=(by omega);simp only[List.getD_eq_getElem?_getD,zsc h',Option.getD_some];exact hl _ (List.getElem_mem h')
 exact Nat.zero_lt_of_lt (show 0<256 by decide)
theorem zem (S:Xs)(rb:Nat)(v:Xv)(g:Nat)(l:Xn)(s:Ir)(w:Xw)(H:RL S w rb v g l s) :
 xK 34 #[xP rb] w (zhi S rb v g l w (.int .u8 ((zG l s).1:Nat)) (zG l s).2):=by
 obtain⟨h0,H1,H2,hf,hz⟩:=zL H.blk;have h21:=H.rb21;have hle:=H.le;have hlen:=H.len;have HF:=za (zgm S rb v g l s w H);obtain⟨a,cp,rfl,hcp,hmx,hin⟩:=H.by'.ex;have hmx':cp<=9223372036854775807:=by unfold maxLen at hmx;omega
 obtain⟨p,er⟩:=s;simp only at hle;clear hmx;cases er with
 | some q =>
   have HE:Hid (zG l ⟨p,some q⟩=(0,⟨p,some q⟩)):=(by unfold Hid zG;rfl);have HE2:Hid ((⟨p,some q⟩:Ir).fail=⟨p,some q⟩):=rfl;rw[HE2.o] at HF;unfold erV at H2;simp only at H1 H2;clear hin;by_cases hp:l.length<=p
   all_goals
    go_enter func34,ntmps34;go_wp2_with fail;go_quiet (fail);obtain⟨W,hW⟩:∃W,W=w.drewN nq:=⟨_,rfl⟩;rw[<- hW];have HBW:Hid (xB w W):=hW▸zaf (zWQ _ _) nq;have HW:=za (H.below HBW.o);have HFW:=za (zgm S rb _ g l ⟨p,some q⟩ W HW.o);rw[HE2.o] at HFW;obtain⟨a0,a1,a2,af,az⟩:=zL HW.o.blk;unfold erV at a2;simp only at a1 a2;clear hW h0 hf hz HF;go_wp2_with (go_at_call 70;refine HFW.o.mono ?_;rintro e w1 ⟨rfl,H1,H2⟩;obtain⟨b0,b1,b2,bf,bz⟩:=zL H1.blk;unfold erV at b2;simp only at b1 b2;clear a0 a1 a2 af az);go_ret;rw[HE.o]
    first
     | exact⟨rfl,H1,(Fr.of_below HBW.o).trans H2⟩
     | exact⟨rfl,HW.o,Fr.of_below HBW.o⟩
 | none =>
   by_cases hp:l.length<=p
   . have HE:Hid (zG l ⟨p,none⟩=(0,⟨p,some p⟩)):=(by unfold Hid zG;rw[zM2 rfl,zM2 hp]);have HE2:Hid ((⟨p,none⟩:Ir).fail=⟨p,some p⟩):=rfl;unfold erV at H2;simp only at H1 H2;clear hin;go_enter func34,ntmps34;go_wp2_with fail;go_quiet (fail);obtain⟨W,hW⟩:∃W,W=w.drewN nq:=⟨_,rfl⟩;rw[<- hW];have HBW:Hid (xB w W):=hW▸zaf (zWQ _ _) nq;have HW:=za (H.below HBW.o);have HFW:=za (zgm S rb _ g l ⟨p,none⟩ W HW.o);rw[HE2.o] at HFW;clear hW h0 hf hz HF;go_wp2_with (go_at_call 70;refine HFW.o.mono ?_;rintro e w1 ⟨rfl,H1,H2⟩;obtain⟨b0,b1,b2,bf,bz⟩:=zL H1.blk;unfold erV at b2;simp only at b1 b2);go_ret;rw[HE.o];exact⟨rfl,H1,(Fr.of_below HBW.o).trans H2⟩
   obtain⟨y,hy⟩:∃y,l[p]?=some y:=⟨_,zsc (by omega)⟩;have HE:Hid (zG l ⟨p,none⟩=(y,⟨p+1,none⟩)):=(by unfold Hid zG;rw[zM2 rfl,zM1 hp];simp only[List.getD_eq_getElem?_getD,hy,Option.getD_some]);obtain⟨o,rfl,hcell⟩:=hin (by intro e;rw[e] at hy;simp at hy);have hc:=hcell p y hy;have hgb:=H.ne;unfold erV at H2;simp only at H1 H2;have Hb:xH w rb #[.slice (some (xD g o)) l.length cp,xI (p:Nat),.nilIface] 108:=H.blk;clear hcell hin hy HF;go_enter func34,ntmps34;go_wp2_with fail;go_quiet (fail);obtain⟨W,hW⟩:∃W,W=w.drewN nq:=⟨_,rfl⟩;rw[<- hW];have HBW:Hid (xB w W):=hW▸zaf (zWQ _ _) nq;have hzW:=HBW.o.size;obtain⟨a0,a1,a2,af,az⟩:=zL ((HBW.o.block rb hz).trans Hb);have ac:=zd HBW.o hc (H.by'.lt' (by intro e;subst e;simp at hp));clear hW h0 hf hc;go_wp2_with fail;go_quiet (fail);go_wp2_with fail;go_ret;rw[HE.o];have hF:Fr (·=rb) w ((W.setCell (xD rb 1) (xI ((p:Int)+1))).drewN nq):=(Fr.drewN ((Fr.of_below HBW.o).set1 _ _) nq);refine⟨rfl,H.set hF ?_ (show p+1<=l.length by omega),hF⟩;have e1:((p+1:Nat):Int)=(p:Int)+1:=(by omega);simp only[e1,erV];exact zh _ _ _ _ ((HBW.o.block rb hz).trans Hb)
end
section
def zad (l:Xn)(bd:Nat)(s:Ir):Nat×Ir:=((zG l s).1,zbU (decide ((zG l s).1<bd)) (zG l s).2)
theorem zez (S:Xs)(rb:Nat)(v:Xv)(g:Nat)(l:Xn)(s:Ir)(bd:Nat)(_hbd:bd<=1000000)(w:Xw)(h:RL S w rb v g l s) :
 xK 71 #[xP rb,xI (bd:Nat)] w (zhi S rb v g l w (xI ((zad l bd s).1:Nat)) (zad l bd s).2):=by
 have HB:=za (zem S rb v g l s w h);have hlt:=zcI l s h.by'.lt;have HE:Hid (zad l bd s=((zG l s).1,zbU (decide ((zG l s).1<bd)) (zG l s).2)):=rfl;rcases hR:zG l s with ⟨y,s1⟩;rw[hR] at HB hlt HE;simp only at HB hlt HE;obtain⟨q,hq⟩:∃q:Bool,q=decide (y<bd):=⟨_,rfl⟩;rw[<- hq] at HE;have HQ:=za (λw1 (h1:RL S w1 rb v g l s1)=>zeg S rb v g l s1 q w1 h1);clear h hR;by_cases hyb:y<bd
 all_goals
  first
   | (have e:q=true:=by rw[hq];exact decide_eq_true hyb
      subst e)
   | (have e:q=false:=by rw[hq];exact decide_eq_false hyb
      subst e)
  clear hq;go_enter func71,ntmps71
  go_wp2_with (first
   | (go_at_call 33;revert H1;intro H1;refine (HQ.o w1 H1.o).mono ?_;rintro e w2 ⟨rfl,h1,h2⟩;have H3:=za h1;have H4:=za h2;clear h1 h2)
   | (go_at_call 34;refine HB.o.mono ?_;rintro e w1 ⟨rfl,h1,h2⟩;have H1:=za h1;have H2:=za h2;clear h1 h2))
  go_ret;rw[HE.o];exact⟨rfl,H3.o,H2.o.trans H4.o⟩
def zc2 (l:Xn):Nat->Ir->List Nat×Ir
 | 0,s=>([],s)
 | n+1,s=>((zG l s).1::(zc2 l n (zG l s).2).1,(zc2 l n (zG l s).2).2)
def ze2 (bs:Xn):Nat:=bs.foldr (λb v=>b+256*v) 0
theorem zpC (bs:Xn)(h:∀x∈bs,x<256):ze2 bs<256 ^ bs.length:=by
 induction bs with
 | nil=>exact Nat.one_pos
 | cons b bs ih =>
   have h1:=ih (λx hx=>h x (zMX _ hx));have h2:=h b zMS
   show b+256*ze2 bs < _;rw[zMR,Nat.pow_succ];omega
theorem zmr (bs:Xn)(b:Nat):ze2 (bs++[b])=ze2 bs+256 ^ bs.length*b:=by
 induction bs with
 | nil=>show b+256*0=0+_;simp
 | cons a bs ih => show a+256*ze2 (bs++[b])=a+256*ze2 bs+_;rw[ih,zMR,Nat.pow_succ,Nat.mul_add,<- Nat.mul_assoc,Nat.mul_comm 256 (256 ^ bs.length)];omega
def zcK (l:Xn)(s:Ir):Int×Ir:=(wrap64 (ze2 (zc2 l 8 s).1:Nat),(zc2 l 8 s).2)
theorem zn9 (V X:Nat)(hV:V<18446744073709551616)(hX:X<18446744073709551616)(h:V ||| X=V+X):bits .or .i64 (V:Int) (wrap64 (X:Int))=wrap64 ((V+X:Nat):Int):=by
 have h1:(BitVec.ofInt 64 (V:Int)).toNat=V:=by rw[BitVec.ofInt_natCast,BitVec.toNat_ofNat];exact Nat.mod_eq_of_lt (by omega)
 have h2:(BitVec.ofInt 64 (wrap64 (X:Int))).toNat=X:=by
  rw[BitVec.toNat_ofInt];unfold wrap64;have:((2 ^ 64:Nat):Int)=18446744073709551616:=by decide
  rw[this];omega
 have h3:bits .or .i64 (V:Int) (wrap64 (X:Int))=IntKind.i64.wrap ((BitVec.ofInt 64 (V:Int) ||| BitVec.ofInt 64 (wrap64 (X:Int))).toNat:Int):=rfl;rw[h3,BitVec.toNat_or,h1,h2,h,IntKind.wrap_i64];unfold wrap64;omega
theorem zqY (V b k:Nat)(hk:k<8)(hV:V<256 ^ k)(hb:b<256):bits .or .i64 (V:Int) (wrap64 ((b:Int)*2 ^ (8*k)))=wrap64 ((V+256 ^ k*b:Nat):Int):=by
 have hp:(256:Nat) ^ k=2 ^ (8*k):=by rw[show (256:Nat)=2 ^ 8 by decide,<- Nat.pow_mul]
 have h8:256 ^ k<=72057594037927936:=by have:(256:Nat) ^ k<=256 ^ 7:=Nat.pow_le_pow_right (by decide) (by omega);exact zMO this (by decide)
 obtain⟨Pk,hPk⟩:∃P:Nat,P=2 ^ (8*k):=⟨_,rfl⟩;have hsh:b <<< (8*k)=b*Pk:=by rw[Nat.shiftLeft_eq,hPk]
 have hor:b <<< (8*k)+V=b <<< (8*k) ||| V:=Nat.shiftLeft_add_eq_or_of_lt (by rw[<- hp];exact hV) b
 rw[hsh] at hor;have hci:((2:Int) ^ (8*k))=(Pk:Int):=by rw[hPk];simp
 rw[hp,<- hPk] at hV h8 ⊢;rw[hci];have hbp:b*Pk<18446744073709551616:=by have:b*Pk<=255*Pk:=Nat.mul_le_mul_right _ (by omega);omega
 have hV2:V<18446744073709551616:=by omega
 clear hPk hsh hp hci;have hc:((b:Int)*(Pk:Int))=((b*Pk:Nat):Int):=by simp
 rw[hc,Nat.mul_comm Pk b];obtain⟨X,hX⟩:∃X,X=b*Pk:=⟨_,rfl⟩;rw[<- hX] at hbp hor ⊢;clear hX hc;exact zn9 V X hV2 hbp (by rw[Nat.or_comm];omega)
theorem zf7 (S:Xs)(rb:Nat)(v:Xv)(g:Nat)(l:Xn)(s:Ir)(w:Xw)(h:RL S w rb v g l s) :
 xK 69 #[xP rb] w (zhi S rb v g l w (.int .i64 (zcK l s).1) (zcK l s).2):=by
 have H:=za h;have Hlt:=za h.by'.lt;clear h;go_enter func69,ntmps69;go_wp2_with fail;go_loopg [3,5] 9 (λj a i wr=>∃(k:Nat) (bs:Xn) (t:Ir),k+j=9/\k<=8/\i=xI k/\a=xI (wrap64 (ze2 bs:Nat))/\Hid (bs.length=k/\(∀x∈bs,x<256)/\zc2 l 8 s=(bs++(zc2 l (8-k) t).1,(zc2 l (8-k) t).2))/\Hid (RL S wr rb v g l t)/\Hid (Fr (·=rb) w wr));case atStart=>exact⟨0,[],s,rfl,by omega,rfl,by kernel_rfl,za ⟨rfl,(λx hx=>by cases hx),rfl⟩,H.o,Fr.refl _ _⟩
 case round =>
  obtain⟨k,bs,t,hk,hk8,rfl,rfl,HS,HR,HF⟩:=hrel;by_cases hlt:k<8
  . have HB:=za (zem S rb v g l t wr HR.o);have hy:=zcI l t Hlt.o;have HT:Hid (zc2 l (8-k) t=((zG l t).1::(zc2 l (8-(k+1)) (zG l t).2).1,(zc2 l (8-(k+1)) (zG l t).2).2)):=by unfold Hid;rw[show 8-k=(8-(k+1))+1 by omega];rfl
    rcases hR:zG l t with ⟨y,s1⟩;rw[hR] at HB hy HT;simp only at HB hy HT;obtain⟨V,hV⟩:∃V,V=ze2 bs:=⟨_,rfl⟩;rw[<- hV];have hVb:V<256 ^ k:=(by rw[hV,<- HS.o.1];exact zpC bs HS.o.2.1);have hw:wrap64 (V:Int)=(V:Int):=by
     have:k=0∨k=1∨k=2∨k=3∨k=4∨k=5∨k=6∨k=7:=by omega
     unfold wrap64;rcases this with rfl|rfl|rfl|rfl|rfl|rfl|rfl|rfl <;> simp only[Nat.reducePow] at hVb <;> omega
    have HO:=za (zqY V y k hlt hVb hy);have HV:=za hV;rw[hw];clear hR hV hw hVb;go_wp2_with (go_at_call 34;refine HB.o.mono ?_;rintro e w1 ⟨rfl,h1,h2⟩;have H1:=za h1;have H2:=za h2;clear h1 h2);rw[HO.o];go_roundg (gk-1);case measure=>omega
    case rel =>
     obtain⟨q1,q2,q3⟩:=HS.o;refine⟨k+1,bs++[y],s1,by omega,by omega,by go_num,?_,za ⟨by simp[q1],?_,?_⟩,H1.o,HF.o.trans H2.o⟩
     . rw[zmr,<- HV.o,q1]
     . intro x hx;rcases zMY.1 hx with hx|hx
       . exact q2 x hx
       simp at hx;omega
     rw[q3,HT.o];simp
  have e8:k=8:=by omega
  subst e8;obtain⟨q1,q2,q3⟩:=HS.o;have HE:Hid (zcK l s=(wrap64 (ze2 bs:Nat),t)):=by unfold Hid zcK;rw[q3];simp[zc2]
  clear q1 q2 q3;go_wp2_with fail;go_ret;rw[HE.o];exact⟨rfl,HR.o,HF.o⟩
end
section
variable {K:Cd} {x:Int} {B cb i:Nat} {T:Xj} {X:Obj} {bv cv rv v v':Xv} {w w' w9:Xw}
structure UI (B cb:Nat) (bv cv rv:Xv) (K:Cd) (w:Xw):Prop where
 blk:w.heap[cb]?=some (.cells #[bv,xI K.outs,xI K.slots,cv,xI K.depth,rv] 66 (0,0))
 bown:w.ownsRow B 4 1 bv K.bools.length (K.bools.map .bool)
 cown:w.ownsRow B 2 1 cv K.cells.length (zK K.cells)
 rown:w.ownsRow B 71 2 rv K.row.length (zbs K.row)
 hcb:cb<B
 d1:∀k,bv.ownBlock=some k->¬cv.ownBlock=some k/\¬rv.ownBlock=some k
 d2:∀k,cv.ownBlock=some k->¬rv.ownBlock=some k
 hB:B<=w.heap.size
def UC (B cb:Nat)(K:Cd)(w:Xw):Prop:=∃bv cv rv,UI B cb bv cv rv K w
theorem UI.fr (h:UI B cb bv cv rv K w)(hF:Fr T w w')(hT:∀k,T k->k<cb):UI B cb bv cv rv K w':=by have hcb:=h.hcb;have hb:∀k,B<=k->k<w.heap.size->w'.heap[k]?=w.heap[k]?:=λk h1 h2=>hF.block k h2 (λe=>by have:=hT k e;omega);exact⟨(hF.block _ (ze h.blk) (λe=>by have:=hT _ e;omega)).trans h.blk,zi h.bown (λk h1 h2 _=>hb k h1 h2),zi h.cown (λk h1 h2 _=>hb k h1 h2),zi h.rown (λk h1 h2 _=>hb k h1 h2),h.hcb,h.d1,h.d2,zMO h.hB hF.size⟩
theorem UC.fr (h:UC B cb K w)(hF:Fr T w w')(hT:∀k,T k->k<cb):UC B cb K w':=by obtain⟨bv,cv,rv,h⟩:=h;exact⟨bv,cv,rv,h.fr hF hT⟩
theorem UI.turned (h:UI B cb bv cv rv K w)(hF:Fr (λk=>v.ownBlock=some k) (w.alloc X) w9)(hv:∀k,v.ownBlock=some k->B<=k) :
 (∀k,k<w.heap.size->¬v.ownBlock=some k->¬k=cb->(w9.setCell (xD cb i) v').heap[k]?=w.heap[k]?)/\w9.heap[cb]?=w.heap[cb]?/\w.heap.size<=(w9.setCell (xD cb i) v').heap.size/\Fr (λk=>cb<=k) w (w9.setCell (xD cb i) v'):=by
 have hcb:=h.hcb;have hB:=h.hB;have hs:(w.alloc X).heap.size=w.heap.size+1:=by simp
 have hz9:=hF.size;have hb:∀k,k<w.heap.size->¬v.ownBlock=some k->w9.heap[k]?=w.heap[k]?:=λk hk hn=>(hF.block k (by omega) hn).trans (zWP _ _ _ hk);have h1:∀k,k<w.heap.size->¬v.ownBlock=some k->¬k=cb->(w9.setCell (xD cb i) v').heap[k]?=w.heap[k]?:=λk hk hn hc=>zr hc (hb k hk hn);have hz:(w9.setCell (xD cb i) v').heap.size=w9.heap.size:=by simp
 refine⟨h1,hb cb (by omega) (λe=>by have:=hv _ e;omega),by omega,hF.os,hF.tape,hF.output,by omega,λk hk hn=>h1 k hk (λe=>hn (by have:=hv _ e;show cb<=k;omega)) (λe=>hn (Nat.le_of_eq e.symm))⟩
theorem UI.booled {b:Bool}(h:UI B cb bv cv rv K w)(hF:Fr (λk=>bv.ownBlock=some k) (w.alloc X) w9)
 (hown:w9.ownsRow B 4 1 v' (K.bools.length+1) (K.bools.map .bool++[.bool b])) (hnew:∀k,v'.ownBlock=some k->bv.ownBlock=some k∨w.heap.size+1<=k) :
 UC B cb { K with bools:=K.bools++[b] } (w9.setCell (xD cb 0) v')/\Fr (λk=>cb<=k) w (w9.setCell (xD cb 0) v'):=by
 obtain⟨h1,h2,h3,h4⟩:=h.turned (i:=0) (v':=v') hF (λk e=>(h.bown.lt k e).1);have hcb:=h.hcb;refine⟨⟨v',cv,rv,zh _ _ _ _ (h2.trans h.blk),?_,zi h.cown (λk e1 e2 e=>h1 k e2 (λe'=>(h.d1 k e').1 e) (by omega)),zi h.rown (λk e1 e2 e=>h1 k e2 (λe'=>(h.d1 k e').2 e) (by omega)),h.hcb,λk e=>?_,h.d2,zMO h.hB h3⟩,h4⟩
 . have:=zi hown (w':=w9.setCell (xD cb 0) v') (λk e1 e2 _=>zr (by omega) rfl)
   show World.ownsRow _ B 4 1 v' (K.bools++[b]).length ((K.bools++[b]).map .bool);rw[zMM,List.map_append];exact this
 rcases hnew k e with e2|e2
 . exact h.d1 k e2
 exact⟨λe3=>by have:=(h.cown.lt _ e3).2;omega,λe3=>by have:=(h.rown.lt _ e3).2;omega⟩
theorem zlk (l:List Int)(x:Int):zK (l++[x])=zK l++[xI x]:=by unfold zK;simp
theorem UI.celled (h:UI B cb bv cv rv K w)(hF:Fr (λk=>cv.ownBlock=some k) (w.alloc X) w9)
 (hown:w9.ownsRow B 2 1 v' (K.cells.length+1) (zK K.cells++[xI x])) (hnew:∀k,v'.ownBlock=some k->cv.ownBlock=some k∨w.heap.size+1<=k) :
 UC B cb { K with cells:=K.cells++[x] } (w9.setCell (xD cb 3) v')/\Fr (λk=>cb<=k) w (w9.setCell (xD cb 3) v'):=by
 obtain⟨h1,h2,h3,h4⟩:=h.turned (i:=3) (v':=v') hF (λk e=>(h.cown.lt k e).1);have hcb:=h.hcb;refine⟨⟨bv,v',rv,zh _ _ _ _ (h2.trans h.blk),zi h.bown (λk e1 e2 e=>h1 k e2 (λe'=>(h.d1 k e).1 e') (by omega)),?_,zi h.rown (λk e1 e2 e=>h1 k e2 (λe'=>h.d2 k e' e) (by omega)),h.hcb,λk e=>⟨λe'=>?_,(h.d1 k e).2⟩,λk e=>?_,zMO h.hB h3⟩,h4⟩
 . have:=zi hown (w':=w9.setCell (xD cb 3) v') (λk e1 e2 _=>zr (by omega) rfl)
   show World.ownsRow _ B 2 1 v' (K.cells++[x]).length (zK (K.cells++[x]));rw[zMM,zlk];exact this
 . rcases hnew k e' with e2|e2
   . exact (h.d1 k e).1 e2
   have:=(h.bown.lt _ e).2;omega
 rcases hnew k e with e2|e2
 . exact h.d2 k e2
 exact λe3=>by have:=(h.rown.lt _ e3).2;omega
theorem UI.added {op:Nat}(h:UI B cb bv cv rv K w)(hF:Fr (λk=>rv.ownBlock=some k) (w.alloc X) w9)
 (hown:w9.ownsRow B 71 2 v' (K.row.length+1) (zbs K.row++[.int .u8 (op:Int),xI x])) (hnew:∀k,v'.ownBlock=some k->rv.ownBlock=some k∨w.heap.size+1<=k) :
 UC B cb { K with row:=K.row++[(op,x)] } (w9.setCell (xD cb 5) v')/\Fr (λk=>cb<=k) w (w9.setCell (xD cb 5) v'):=by
 obtain⟨h1,h2,h3,h4⟩:=h.turned (i:=5) (v':=v') hF (λk e=>(h.rown.lt k e).1);have hcb:=h.hcb;refine⟨⟨bv,cv,v',zh _ _ _ _ (h2.trans h.blk),zi h.bown (λk e1 e2 e=>h1 k e2 (λe'=>(h.d1 k e).2 e') (by omega)),zi h.cown (λk e1 e2 e=>h1 k e2 (λe'=>h.d2 k e e') (by omega)),?_,h.hcb,λk e=>⟨(h.d1 k e).1,λe'=>?_⟩,λk e e'=>?_,zMO h.hB h3⟩,h4⟩
 . have:=zi hown (w':=w9.setCell (xD cb 5) v') (λk e1 e2 _=>zr (by omega) rfl);have e:zbs (K.row++[(op,x)])=zbs K.row++[.int .u8 (op:Int),xI x]:=by unfold zbs;rw[List.flatMap_append];rfl
   show World.ownsRow _ B 71 2 v' (K.row++[(op,x)]).length (zbs (K.row++[(op,x)]));rw[zMM,e];exact this
 . rcases hnew k e' with e2|e2
   . exact (h.d1 k e).2 e2
   have:=(h.bown.lt _ e).2;omega
 rcases hnew k e' with e2|e2
 . exact h.d2 k e e2
 have:=(h.cown.lt _ e).2;omega
theorem UI.setN {u:Xv}{K':Cd}(h:UI B cb bv cv rv K w)(hb:xH (w.setCell (xD cb i) u) cb #[bv,xI K'.outs,xI K'.slots,cv,xI K'.depth,rv] 66)(h1:K'.bools=K.bools)(h2:K'.cells=K.cells)(h3:K'.row=K.row) :
 UI B cb bv cv rv K' (w.setCell (xD cb i) u)/\Fr (λk=>cb<=k) w (w.setCell (xD cb i) u):=by
 have hcb:=h.hcb;have hz:(w.setCell (xD cb i) u).heap.size=w.heap.size:=by simp
 refine⟨⟨hb,?_,?_,?_,h.hcb,h.d1,h.d2,by have:=h.hB;omega⟩,((Fr.refl (λk=>cb<=k) w).setCell (zM3 (zMK _)) u)⟩
 . rw[h1];exact zi h.bown (λk e1 e2 _=>zr (by omega) rfl)
 . rw[h2];exact zi h.cown (λk e1 e2 _=>zr (by omega) rfl)
 rw[h3];exact zi h.rown (λk e1 e2 _=>zr (by omega) rfl)
def zbb (l:Xn):Nat->Ir->List Bool×Ir
 | 0,s=>([],s)
 | n+1,s=>(((zad l 2 s).1==1)::(zbb l n (zad l 2 s).2).1,(zbb l n (zad l 2 s).2).2)
def zcy (l:Xn):Nat->Ir->List Int×Ir
 | 0,s=>([],s)
 | n+1,s=>((zcK l s).1::(zcy l n (zcK l s).2).1,(zcy l n (zcK l s).2).2)
def zdL (l:Xn)(s:Ir):Cd×Ir :=
 let b:=zG l s
 let r:=zbb l b.1 b.2
 let o:=zG l r.2
 let t:=zG l o.2
 let n:=zad l 61 (zbU (decide (r.1.length+o.1<=t.1)) t.2)
 let c:=zcy l n.1 n.2
 (⟨r.1,o.1,t.1,c.1,0,[]⟩,c.2)
theorem RL.code {S:Xs}{rb g:Nat}{l:Xn}{s:Ir}(h:RL S w rb v g l s)(hF:Fr (λk=>cb<=k) w w')(h1:rb<cb)(h2:l≠[]->g<cb)(h3:21<=cb):RL S w' rb v g l s:=by
 refine⟨(hF.block rb (ze h.blk) (by omega)).trans h.blk,?_,h.le,h.len,h.ne,h.rb21,h.gl.of hF (λk e=>zMO h3 e),h.shp.old (hF.old h.gl.size (λk e=>zMO h3 e)) (zMK _)⟩;by_cases hl:l=[]
 . obtain⟨a,c,e1,e2,e3,e4⟩:=h.by'.ex;exact⟨⟨a,c,e1,e2,e3,λh=>absurd hl h⟩,h.by'.lt⟩
 exact h.by'.of (hF.block g (h.by'.lt' hl) (by have:=h2 hl;omega))
end
section
theorem Tryz.infoB1:(prog.info? 4).map (λi=>(i.zero,i.size,i.bytes))=some (some (.bool false),1,1):=by kernel_rfl
theorem Tryz.infoI1:(prog.info? 2).map (λi=>(i.zero,i.size,i.bytes))=some (some (xI 0),1,8):=by kernel_rfl
theorem zeS (l:Xn)(bd:Nat)(s:Ir)(hl:∀x∈l,x<256):(zad l bd s).1<256:=zcI l s hl
theorem zrR {b:Bool}:∀u∈[Value.bool b],u.oneCell'=true:=by simp[Value.oneCell']
theorem zr0 {b:Int}:∀u∈[xI b],u.oneCell'=true:=by simp[Value.oneCell']
theorem zrk (w:Xw):UI (w.heap.size+1) w.heap.size (.slice none 0 0) (.slice none 0 0) (.slice none 0 0) ⟨[],0,0,[],0,[]⟩ (w.alloc (.cells #[.slice none 0 0,xI 0,xI 0,.slice none 0 0,xI 0,.slice none 0 0] 66)) :=
 ⟨zc w _,World.ownsRow_nil _ _ _ _,World.ownsRow_nil _ _ _ _,World.ownsRow_nil _ _ _ _,by omega,(λk e=>by simp[Value.ownBlock] at e),(λk e=>by simp[Value.ownBlock] at e),by simp⟩
theorem Fr.rbs {rb c:Nat}{w w1 w2:Xw}(h:Fr (·=rb) w w1)(k:Fr (λk=>c<=k) w1 w2)(hc:w.heap.size<=c):Fr (·=rb) w w2:=h.trans' k (λi hi e=>by have:c<=i:=e;omega)
theorem zql (S:Xs)(rb:Nat)(v:Xv)(g:Nat)(l:Xn)(s:Ir)(w:Xw)(h:RL S w rb v g l s) :
 xK 35 #[xP rb] w (λe w'=>e=.returned (xP w.heap.size)/\RL S w' rb v g l (zdL l s).2/\UC (w.heap.size+1) w.heap.size (zdL l s).1 w'/\Fr (·=rb) w w'):=by
 obtain⟨i1,hi1,hi11,hi12,hi13⟩:=info_parts Tryz.infoB1;obtain⟨i2,hi2,hi21,hi22,hi23⟩:=info_parts Tryz.infoI1;have Hlt:=za h.by'.lt;have hrb:=ze h.blk;have hz21:=h.gl.size;have Hg:=za (λhl=>h.by'.lt' hl);have hy:=zcI l s h.by'.lt;have HY:=za (λo:Obj=>zem S rb v g l s (w.alloc o) (h.below ((zWQ _ w).alloc (zMK _) o)));obtain⟨C,hC⟩:∃C,C=zdL l s:=⟨_,rfl⟩;rw[<- hC];rcases hR:zG l s with ⟨n,s1⟩;rw[hR] at HY hy;simp only at HY hy
 have HC:Hid (C=(let r:=zbb l n s1
  let o:=zG l r.2
  let t:=zG l o.2
  let n:=zad l 61 (zbU (decide (r.1.length+o.1<=t.1)) t.2)
  let c:=zcy l n.1 n.2
  (⟨r.1,o.1,t.1,c.1,0,[]⟩,c.2))):=by rw[hC];unfold zdL;rw[hR];rfl
 clear hR hC h;go_enter func35,ntmps35;go_wp2_with (go_at_call 34;refine (HY.o _).mono ?_;rintro e w1 ⟨rfl,h1,h2⟩;have H1:=za h1;have HU1:=za (UC.fr ⟨_,_,_,zrk w⟩ h2 (λk e=>e▸hrb));have HF1:=za (((Fr.refl (·=rb) w).alloc _).trans h2);clear h1 h2);go_loopg [8] (n+1) (λj i wr=>∃(k:Nat) (bs:Xk) (t:Ir),k+j=n+1/\k<=n/\i=.int .u8 k/\Hid (bs.length=k)/\Hid (zbb l n s1=(bs++(zbb l (n-k) t).1,(zbb l (n-k) t).2))/\Hid (RL S wr rb v g l t)/\Hid (UC (w.heap.size+1) w.heap.size ⟨bs,0,0,[],0,[]⟩ wr)/\Hid (Fr (·=rb) w wr));case atStart=>exact⟨0,[],s1,by omega,by omega,rfl,za rfl,za rfl,H1.o,HU1.o,HF1.o⟩
 case round =>
  obtain⟨k,bs,t,hk,hkn,rfl,Hbs,HS,HR,HU,HF⟩:=hrel;have hbl:bs.length<=256:=by have:=Hbs.o;omega
  clear H1 HU1 HF1;by_cases hlt:k<n
  . have HB:=za (zez S rb v g l t 2 (by decide) wr.drew (HR.o.below (zo (zWQ _ _))));have hy2:=zeS l 2 t Hlt.o;have HT:Hid (zbb l (n-k) t=(((zad l 2 t).1==1)::(zbb l (n-(k+1)) (zad l 2 t).2).1,(zbb l (n-(k+1)) (zad l 2 t).2).2)):=by unfold Hid;rw[show n-k=(n-(k+1))+1 by omega];rfl
    rcases hR:zad l 2 t with ⟨y,t1⟩;rw[hR] at HB hy2 HT;simp only at HB hy2 HT;obtain⟨q,hq⟩:∃q:Bool,q=(y==1):=⟨_,rfl⟩;rw[<- hq] at HT
    have hyq:((y:Int)==1)=q:=by rw[hq];cases y with
     | zero=>rfl
     | succ y=>cases y with
       | zero=>rfl
       | succ y=>simp;omega
    obtain⟨bv,cv,rv,hI⟩:=HU.o;obtain⟨xb,cpb,rfl⟩:=zbP hI.bown;obtain⟨m0,m1,m2,m3,m4,m5,mf,mz⟩:=zt hI.blk;have Hmx:bs.length+1<=maxLen:=(by unfold maxLen;omega);have Hby:(bs.length+1)*1<=140737488355328:=(by omega);have hne:¬w.heap.size=rb:=(by omega);have HI:=za hI;simp only at m0 m1;clear hI hR hq m2 m3 m4 m5;go_wp2_with fail
    go_region_law (first
     | (revert H1;intro H1;refine zJ _ rfl (.tmp 14) (.tmp 18) 63 rfl (w.heap.size+1) 4 i1 _ 1 1 underlying63 hi1 hi11 hi12 hi13 rfl (by decide) (.slice xb bs.length cpb) bs.length (bs.map .bool) rfl (zD H2.o.bown _) (xD w1.heap.size 0) 1 1 [.bool _] rfl rfl (zN (zc w1 _) rfl) zrR Hmx Hby (by simp;omega) ?_;intro v' w9 Hown9 hgrow Hnew9;obtain⟨g9,cap9,rfl,hg9⟩:=zM Hown9 (by omega);have HF9:=Fr.of_grown hgrow;have hk9:=(HF9.block w.heap.size (by simp;omega) (λh=>by have:=(H2.o.bown.lt _ h).1;omega)).trans ((zWP _ _ _ (by omega)).trans H2.o.blk);obtain⟨d0,d1,d2,d3,d4,d5,df,dz⟩:=zt hk9;clear hgrow hk9)
     | (refine zde rfl 71 (.tmp 15) (.const (xI 2)) 173 3 rfl (λ_ _=>by kernel_rfl) _ _ rfl rfl HB.o ?_;rintro e w1 ⟨rfl,h1,h2⟩;refine⟨_,rfl,?_⟩;have H1:=za h1;have H2:=za (HI.o.fr h2.undrew (λk e=>e▸hrb));obtain⟨c0,c1,c2,c3,c4,c5,cf,cz⟩:=zt H2.o.blk;have HF2:=za h2.undrew;have hz1:wr.heap.size<=w1.heap.size:=h2.size;have hBz:=H2.o.hB;clear h1 h2))
    all_goals go_wp2_with fail
    all_goals go_roundg (gk-1)
    all_goals first
     | omega
     | (have hC:=H2.o.booled HF9 Hown9 (λk e=>(Hnew9 k e).imp id (λh=>by have h':(w1.alloc (.cells #[.bool q] 4)).heap.size<=k:=h;rw[zsb] at h';exact h'))
        exact⟨k+1,bs++[q],t1,by omega,by omega,by go_num,za (by rw[zMM,Hbs.o];rfl),za (by rw[HS.o,HT.o];simp),H1.o.code hC.2 hrb Hg.o (by omega),hC.1,(HF.o.trans HF2.o).rbs hC.2 (zMK _)⟩)
  have ek:k=n:=by omega
  subst ek;have hE:zbb l k s1=(bs,t):=by rw[HS.o,Nat.sub_self];simp[zbb]
  rw[hE] at HC;simp only at HC;have hkb:=Hbs.o;clear HS hE Hbs hkb;have hy1:=zcI l t Hlt.o;have HY1:=za (λw1 (h1:RL S w1 rb v g l t)=>zem S rb v g l t w1 h1);rcases hR1:zG l t with ⟨o,t1⟩;rw[hR1] at HY1 hy1 HC;simp only at HY1 hy1 HC;have hy2:=zcI l t1 Hlt.o;have HY2:=za (λw1 (h1:RL S w1 rb v g l t1)=>zem S rb v g l t1 w1 h1);rcases hR2:zG l t1 with ⟨o2,t2⟩;rw[hR2] at HY2 hy2 HC;simp only at HY2 hy2 HC;obtain⟨q,hq⟩:∃q:Bool,q=decide (bs.length+o<=o2):=⟨_,rfl⟩;rw[<- hq] at HC;have HQ:=za (λw1 (h1:RL S w1 rb v g l t2)=>zeg S rb v g l t2 q w1 h1);obtain⟨t3,ht3⟩:∃t3,t3=zbU q t2:=⟨_,rfl⟩;rw[<- ht3] at HC HQ;have hy3:=zeS l 61 t3 Hlt.o;have HY3:=za (λw1 (h1:RL S w1 rb v g l t3)=>zez S rb v g l t3 61 (by decide) w1 h1);rcases hR3:zad l 61 t3 with ⟨m,t4⟩;rw[hR3] at HY3 hy3 HC;simp only at HY3 hy3 HC;clear hR1 hR2 hR3 ht3 HY;obtain⟨wo,rfl⟩:∃wo,wo=wr:=⟨_,rfl⟩;obtain⟨bv,cv,rv,hI⟩:=HU.o;obtain⟨xb,cpb,rfl⟩:=zbP hI.bown;have HI:=za hI;have hne:¬w.heap.size=rb:=by omega
  have hne2:¬rb=w.heap.size:=by omega
  clear hI HU
  go_upto_region 8 with (first
   | (go_at_call 34;revert J1;intro J1;refine (HY2.o _ J1.o).mono ?_;rintro e w2 ⟨rfl,h1,h2⟩;have J2':=za h1;have JI2:=za (JS.o.1.fr h2 (λk e=>e▸hrb));obtain⟨d0,d1,d2,d3,d4,d5,df,dz⟩:=zt JI2.o.blk;have JF2:=za h2;have JS2:=za (JI2.o.setN (i:=2) (u:=(xI (o2:Nat))) (K':=⟨bs,o,o2,[],0,[]⟩) (zh _ _ _ _ JI2.o.blk) rfl rfl rfl);have J2:=za (J2'.o.code JS2.o.2 hrb Hg.o (by omega));clear h1 h2)
   | (go_at_call 34;refine (HY1.o _ HR.o).mono ?_;rintro e w1 ⟨rfl,h1,h2⟩;have J1':=za h1;have JI:=za (HI.o.fr h2 (λk e=>e▸hrb));obtain⟨c0,c1,c2,c3,c4,c5,cf,cz⟩:=zt JI.o.blk;have JF1:=za h2;have JS:=za (JI.o.setN (i:=1) (u:=(xI (o:Nat))) (K':=⟨bs,o,0,[],0,[]⟩) (zh _ _ _ _ JI.o.blk) rfl rfl rfl);have J1:=za (J1'.o.code JS.o.2 hrb Hg.o (by omega));clear h1 h2))
  have JW:=za ((((HF.o.trans JF1.o).rbs JS.o.2 (zMK _)).trans JF2.o).rbs JS2.o.2 (zMK _));refine zn (λW=>UI (w.heap.size+1) w.heap.size (.slice xb bs.length cpb) cv rv ⟨bs,o,o2,[],0,[]⟩ W/\RL S W rb v g l t2/\Fr (·=rb) w W) ⟨JS2.o.1,J2.o,JW.o⟩ ?_;rintro W ⟨hIW,hRW,hFW⟩;obtain⟨p0,p1,p2,p3,p4,p5,pf,pz⟩:=zt hIW.blk;have HIW:=za hIW;have HRW:=za hRW;have HFW:=za hFW;clear hIW hRW hFW JW J1 J2 JS JS2 JI2 JF1 JF2 JI HF HR HI J1' J2' c0 c1 c2 c3 c4 c5 cf cz d0 d1 d2 d3 d4 d5 df dz w1 w2;have hdec:decide (IntKind.i64.wrap ((bs.length:Int)+(o:Int))<=(o2:Int))=q:=by rw[hq];apply decide_eq_decide.2;rw[IntKind.wrap_i64];omega
  clear hq
  go_region_held3 (λw'=>w'.cell? (xD w.heap.size 0)=some (.slice xb bs.length cpb)/\w'.cell? (xD w.heap.size 1)=some (xI (o:Nat))/\w'.cell? (xD w.heap.size 2)=some (xI (o2:Nat)))
   (with_reducible (refine⟨?_,?_,?_⟩ <;> repeat (first|assumption|refine zg ?_)))
   (first|(go_at_call 33;refine (HQ.o _ (HRW.o.below (zo (zWQ _ _)))).mono ?_;rintro e w1 ⟨rfl,h1,h2⟩;have K1:=za h1;have KI1:=za (HIW.o.fr h2.undrew (λk e=>e▸hrb));obtain⟨c0,c1,c2,c3,c4,c5,cf,cz⟩:=zt KI1.o.blk;have KF1:=za (HFW.o.trans h2.undrew);clear h1 h2))
  have HW4:Hid (UC (w.heap.size+1) w.heap.size ⟨bs,o,o2,[],0,[]⟩ w1):=⟨_,_,_,KI1.o⟩;clear HFW HRW HIW p0 p1 p2 p3 p4 p5 pf pz;all_goals go_wp2_with (go_at_call 71;refine (HY3.o _ K1.o).mono ?_;rintro e w2 ⟨rfl,h1,h2⟩;have L1:=za h1;have LU:=za (HW4.o.fr h2 (λk e=>e▸hrb));have LF:=za (KF1.o.trans h2);clear h1 h2)
  obtain⟨wo3,rfl⟩:∃wo,wo=w2:=⟨_,rfl⟩;clear HW4 KI1 KF1 K1 c0 c1 c2 c3 c4 c5 cf cz HQ HY1 HY2 HY3 hdec;go_loopg [54] (m+1) (λj i wr=>∃(k:Nat) (cs:List Int) (u:Ir),k+j=m+1/\k<=m/\i=xI k/\Hid (cs.length=k)/\Hid (zcy l m t4=(cs++(zcy l (m-k) u).1,(zcy l (m-k) u).2))/\Hid (RL S wr rb v g l u)/\Hid (UC (w.heap.size+1) w.heap.size ⟨bs,o,o2,cs,0,[]⟩ wr)/\Hid (Fr (·=rb) w wr));case atStart=>exact⟨0,[],t4,by omega,by omega,rfl,za rfl,za rfl,L1.o,LU.o,LF.o⟩
  case round =>
   obtain⟨k2,cs,u,hk2,hkm,rfl,Hcs,HS,HR,HU,HF⟩:=hrel;have hcl:cs.length<=256:=(by have:=Hcs.o;omega);clear L1 LU LF;by_cases hlt2:k2<m
   . have HB:=za (zf7 S rb v g l u wr.drew (HR.o.below (zo (zWQ _ _))));have HT:Hid (zcy l (m-k2) u=((zcK l u).1::(zcy l (m-(k2+1)) (zcK l u).2).1,(zcy l (m-(k2+1)) (zcK l u).2).2)):=(by unfold Hid;rw[show m-k2=(m-(k2+1))+1 by omega];rfl);rcases hR:zcK l u with ⟨y,u1⟩;rw[hR] at HB HT;simp only at HB HT;obtain⟨bv,cv,rv,hI⟩:=HU.o;obtain⟨xc,cpc,rfl⟩:=zbP hI.cown;obtain⟨m0,m1,m2,m3,m4,m5,mf,mz⟩:=zt hI.blk;have Hmx:cs.length+1<=maxLen:=(by unfold maxLen;omega);have Hby:(cs.length+1)*8<=140737488355328:=(by omega);have HI:=za hI;simp only at m1 m3;clear hI hR m0 m2 m4 m5;go_wp2_with fail
     go_region_law (first
      | (revert H1;intro H1;refine zJ _ rfl (.tmp 60) (.tmp 63) 22 rfl (w.heap.size+1) 2 i2 _ 1 8 underlying22 hi2 hi21 hi22 hi23 rfl (by decide) (.slice xc cs.length cpc) cs.length (zK cs) rfl (zD H2.o.cown _) (xD w1.heap.size 0) 1 1 [xI y] rfl rfl (zN (zc w1 _) rfl) zr0 Hmx Hby (by simp;omega) ?_;intro v' w9 Hown9 hgrow Hnew9;obtain⟨g9,cap9,rfl,hg9⟩:=zM Hown9 (by omega);have HF9:=Fr.of_grown hgrow;have hk9:=(HF9.block w.heap.size (by simp;omega) (λh=>by have:=(H2.o.cown.lt _ h).1;omega)).trans ((zWP _ _ _ (by omega)).trans H2.o.blk);obtain⟨d0,d1,d2,d3,d4,d5,df,dz⟩:=zt hk9;clear hgrow hk9)
      | (refine zbL rfl 69 (.tmp 61) 173 rfl (λ_ _=>by kernel_rfl) _ rfl HB.o ?_;rintro e w1 ⟨rfl,h1,h2⟩;refine⟨_,rfl,?_⟩;have H1:=za h1;have H2:=za (HI.o.fr h2.undrew (λk e=>e▸hrb));obtain⟨c0,c1,c2,c3,c4,c5,cf,cz⟩:=zt H2.o.blk;have HF2:=za h2.undrew;have hz1:wr.heap.size<=w1.heap.size:=h2.size;have hBz:=H2.o.hB;clear h1 h2))
     all_goals go_wp2_with fail
     all_goals go_roundg (gk-1)
     all_goals first
      | omega
      | (have hC:=H2.o.celled HF9 Hown9 (λk e=>(Hnew9 k e).imp id (λh=>by have h':(w1.alloc (.cells #[xI y] 2)).heap.size<=k:=h;rw[zsb] at h';exact h'))
         exact⟨k2+1,cs++[y],u1,by omega,by omega,by go_num,za (by rw[zMM,Hcs.o];rfl),za (by rw[HS.o,HT.o];simp),H1.o.code hC.2 hrb Hg.o (by omega),hC.1,(HF.o.trans HF2.o).rbs hC.2 (zMK _)⟩)
   have ek:k2=m:=(by omega);subst ek;have hE:zcy l k2 t4=(cs,u):=(by rw[HS.o,Nat.sub_self];simp[zcy]);rw[hE] at HC;simp only at HC;clear HS hE;go_wp2_with fail;go_ret;rw[HC.o];exact⟨rfl,HR.o,HU.o,HF.o⟩
end
end Go.Proofs.YtenadialhccdiaaGreatDoor
