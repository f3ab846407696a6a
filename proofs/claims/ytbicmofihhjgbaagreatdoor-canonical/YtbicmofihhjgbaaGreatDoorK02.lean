/- Part 3 of the proof. -/
import Derived.Test.YtbicmofihhjgbaaGreatDoorK01
set_option maxRecDepth 100000
set_option maxHeartbeats 8000000
namespace Go.Proofs.YtbicmofihhjgbaaGreatDoor
open Go.Proofs.Tryz
open Go.RowKit
section
variable {l:Xu} {a b e k:Nat} {w:Xw}
theorem znQ:(⟨#[58]⟩:Xb).toList=[58]:=by decide +kernel
theorem zl1:(⟨#[59]⟩:Xb).toList=[59]:=by decide +kernel
theorem zjg:(⟨#[98,111,111,108]⟩:Xb).toList=zbq:=by decide +kernel
theorem zo1:(⟨#[105,110,116]⟩:Xb).toList=zlc:=by decide +kernel
theorem zo7:(⟨#[110,111,116]⟩:Xb).toList=zet:=by decide +kernel
theorem zq9:(⟨#[111,110]⟩:Xb).toList=kOn:=by decide +kernel
theorem zfm (w:Xw):xK 156 #[xI 1] w λe w'=>e=.returned (.string ⟨#[98,111,111,108]⟩)/\w=w':=by go_enter func156,ntmps156;go_wp2;go_ret;exact⟨rfl,rfl⟩
theorem zhC (w:Xw):xK 156 #[xI 0] w λe w'=>e=.returned (.string ⟨#[105,110,116]⟩)/\w=w':=by go_enter func156,ntmps156;go_wp2;go_ret;exact⟨rfl,rfl⟩
theorem zbw (st:St):∃(ns:Xb) (na:Nat),zcc st=.agg #[.string ns,xI na]/\(st.t.k=2->ns=st.t.s/\na=st.t.a):=by
 by_cases h:st.t.k=2
 . exact⟨st.t.s,st.t.a,by unfold zcc;rw[zM2 h],λ_=>⟨rfl,rfl⟩⟩
 exact⟨⟨#[]⟩,0,by unfold zcc;rw[zM1 h];rfl,λh2=>absurd h2 h⟩
theorem St.fail_fail' (s:St){e' a':Nat}(he:e≠0):(s.fail e a).fail e' a'=s.fail e a:=by unfold St.fail;by_cases h:s.er=0 <;> simp[h,he]
theorem St.fail_is (s:St)(hk:k≠1):(s.fail e a).is k l=false:=by
 unfold St.is;have:(s.fail e a).t.k=1:=by unfold St.fail;split <;> rfl
 rw[this];have h1:((1:Nat)==k)=false:=by simp;omega
 rw[h1];rfl
theorem St.fail_must' (s:St)(he:e≠0)(hk:k≠1):(s.fail e a).must k l=s.fail e a:=by unfold St.must;rw[St.fail_is s hk];exact St.fail_fail' s he
theorem St.fail_name' (s:St)(he:e≠0):(s.fail e a).name=s.fail e a:=by
 unfold St.name;have:(s.fail e a).t.k=1:=by unfold St.fail;split <;> rfl
 rw[zM1 (by omega)];exact St.fail_fail' s he
def St.decl0 (st:St)(n:Nat):St:=if n=16 then st.fail 2 st.t.a else st
def zlG (ns:Xb)(na ty sg pl:Nat)(os:Xb)(oa:Nat):Value:=.agg #[.string ns,xI na,xI ty,xI sg,xI pl,.string os,xI oa]
theorem zev {fn:Func}{p:Tmp}(h:fn.results=#[.cell p 134]){tmps:Xa}(hp:tmps[p]?.getD undef=xP b){v0 v1 v2 v3 v4 v5 v6:Xv}(hh:xH w b #[v0,v1,v2,v3,v4,v5,v6] 134):(results fn tmps).run prog w=.ok (.agg #[v0,v1,v2,v3,v4,v5,v6]) w:=by obtain⟨c0,c1,c2,c3,c4,c5,c6,_⟩:=zbZ hh;simp[results,h,hp,go_sem,c0,c1,c2,c3,c4,c5,c6]
theorem zfV {e:Xy}{u0 u1 u2 u3 u4 u5 u6:Xv}(h:xH w b #[u0,u1,u2,u3,u4,u5,u6] e)(v0 v1 v2 v3 v4 v5 v6:Xv):(((((((w.setCell (xD b 0) v0).setCell (xD b 1) v1).setCell (xD b 2) v2).setCell (xD b 3) v3).setCell (xD b 4) v4).setCell (xD b 5) v5).setCell (xD b 6) v6).heap[b]?=some (.cells #[v0,v1,v2,v3,v4,v5,v6] e (0,0)):=by have h0:xH (w.setCell (xD b 0) v0) b #[v0,u1,u2,u3,u4,u5,u6] e:=zh _ _ _ _ h;have h1:((w.setCell (xD b 0) v0).setCell (xD b 1) v1).heap[b]?=some (.cells #[v0,v1,u2,u3,u4,u5,u6] e (0,0)):=zh _ _ _ _ h0;have h2:(((w.setCell (xD b 0) v0).setCell (xD b 1) v1).setCell (xD b 2) v2).heap[b]?=some (.cells #[v0,v1,v2,u3,u4,u5,u6] e (0,0)):=zh _ _ _ _ h1;have h3:((((w.setCell (xD b 0) v0).setCell (xD b 1) v1).setCell (xD b 2) v2).setCell (xD b 3) v3).heap[b]?=some (.cells #[v0,v1,v2,v3,u4,u5,u6] e (0,0)):=zh _ _ _ _ h2;have h4:(((((w.setCell (xD b 0) v0).setCell (xD b 1) v1).setCell (xD b 2) v2).setCell (xD b 3) v3).setCell (xD b 4) v4).heap[b]?=some (.cells #[v0,v1,v2,v3,v4,u5,u6] e (0,0)):=zh _ _ _ _ h3;have h5:((((((w.setCell (xD b 0) v0).setCell (xD b 1) v1).setCell (xD b 2) v2).setCell (xD b 3) v3).setCell (xD b 4) v4).setCell (xD b 5) v5).heap[b]?=some (.cells #[v0,v1,v2,v3,v4,v5,u6] e (0,0)):=zh _ _ _ _ h4;have h6:(((((((w.setCell (xD b 0) v0).setCell (xD b 1) v1).setCell (xD b 2) v2).setCell (xD b 3) v3).setCell (xD b 4) v4).setCell (xD b 5) v5).setCell (xD b 6) v6).heap[b]?=some (.cells #[v0,v1,v2,v3,v4,v5,v6] e (0,0)):=zh _ _ _ _ h5;exact h6
theorem zjk (S:Xs)(pb:Nat)(st:St)(w:Xw)(nb:Nat)(x:Xp)(n c:Nat)(HB:Bad st)(_hn:n<=100)(hnb:nb<w.heap.size)(hc:xC w nb 2 (.slice x n c))(HR:PL S w pb st) :
 xK 187 #[xP pb,xP nb] w λe w'=>∃ns na,e=.returned (zlG ns na (if ((st.decl0 n).name.must 4 [58]).is 5 zbq=true then 1 else 0) 0 0 ⟨#[]⟩ 0)/\((st.decl0 n).t.k=2->ns=(st.decl0 n).t.s/\na=(st.decl0 n).t.a)/\PL S w' pb (z9 ((st.decl0 n).name.must 4 [58]))/\Fr (·=pb) w w':=by
 have hlt:=HR.lt;have hsyn:xC w 8 0 (.iface 324 (.pointer (some (S 2)))):=HR.gl.syn;have hg8:8<w.heap.size:=zM9 (by decide) HR.gl.size;have Hz0:w.heap.size<(w.alloc (.cells #[.string ⟨#[]⟩,xI 0,xI 0,xI 0,xI 0,.string ⟨#[]⟩,xI 0] 134)).heap.size:=by simp
 have Hh0:=zc w (.cells #[.string ⟨#[]⟩,xI 0,xI 0,xI 0,xI 0,.string ⟨#[]⟩,xI 0] 134);by_cases h16:n=16
 . have hE:st.decl0 n=st.fail 2 st.t.a:=by unfold St.decl0;rw[zM2 h16]
   rw[hE];have h16':((n:Int)==16)=true:=beq_iff_eq.2 (by omega);have HBf:=za (HB.fail (e:=2) (by omega));obtain⟨s2,Hs2⟩:∃s2,(st.fail 2 st.t.a).name.must 4 [58]=s2:=⟨_,rfl⟩;have hs3:s2=st.fail 2 st.t.a:=(by rw[<- Hs2,St.fail_name' _ (by decide)];exact St.fail_must' _ (by decide) (by decide));have Hb:s2.is 5 zbq=false:=(by rw[hs3];exact St.fail_is _ (by decide));rw[Hs2];have hty:z9 s2=s2.must 5 zlc:=(by unfold z9;rw[zM1 (by rw[Hb];simp)]);rw[hty,Hb];clear hs3 hty hE h16;go_enter func187,ntmps187;go_wp2_with (go_at_call 87;refine (zc5 S pb st 2 (by decide) _ (HR.alloc _)).mono ?_;rintro e w9 ⟨rfl,HL9,HF9⟩;have hlt9:=HL9.lt);have Hz9:=(HF9.block w.heap.size Hz0 (by omega)).trans Hh0;obtain⟨ns,na,hnv,HNk⟩:=zbw (st.fail 2 st.t.a);have HN:=za (zaZ S pb (st.fail 2 st.t.a) w9 HBf.o HL9);rw[hnv] at HN;refine HN.o.mono ?_;rintro e w1 ⟨rfl,HL1,hF1⟩;have hne:¬w.heap.size=pb:=(by omega);have Hh1:=(hF1.block w.heap.size (ze Hz9) hne).trans Hz9;have hz1:=ze Hh1;have HF1:Hid (Fr (·=pb) w w1):=Fr.trans (((Fr.refl _ w).alloc _).trans HF9) hF1;have hlt1:=HL1.lt;have HB1:=za HBf.o.name;have HEx:=za (zP S pb (st.fail 2 st.t.a).name ⟨#[58]⟩ _ znQ (w1.alloc (.cells #[.string ns,xI na,xI 0,xI 0,xI 0,.string ⟨#[]⟩,xI 0] 134)) HB1.o (HL1.alloc _));rw[zan HL1.tx (by decide),Hs2] at HEx;have HB2:Hid (Bad s2):=(by unfold Hid;rw[<- Hs2];exact HB1.o.must 4 [58]);clear hF1 hnv HN;go_wp2_with fail;refine HEx.o.mono ?_;rintro e w2 ⟨rfl,HL2,hF2⟩;have hne1:¬w1.heap.size=pb:=(by omega);have Hh2:=(hF2.block w.heap.size (by simp;omega) hne).trans ((Below.heap_alloc _ _ _ hz1).trans Hh1);have Hv2:=(hF2.block w1.heap.size (by simp) hne1).trans (zc w1 _);have HF2:Hid (Fr (·=pb) w w2):=(HF1.o.alloc _).trans hF2;have hlt2:=HL2.lt;have HSk:=za (zbg S pb s2 ⟨#[98,111,111,108]⟩ _ zjg w2 HB2.o HL2);rw[zar HL2.tx (by decide),Hb] at HSk;have hsk:s2.skipM zbq=s2:=(by unfold St.skipM;rw[zar HL2.tx (by decide),Hb];rfl);rw[hsk] at HSk;clear hF2 hsk;have HEx2:=za (λw1 h=>zP S pb s2 ⟨#[105,110,116]⟩ _ zo1 w1 HB2.o h);have htx:=HL2.tx;rw[ze6 htx (by decide)] at HEx2;clear htx;go_wp2_with (first|(go_at_call 156;first|(with_reducible refine (zfm _).mono ?_;rintro e w' ⟨rfl,rfl⟩)|(with_reducible refine (zhC _).mono ?_;rintro e w' ⟨rfl,rfl⟩))|(go_at_call 153;refine HSk.o.mono ?_;rintro e w3 ⟨rfl,HL3,HF3⟩;have Hh3:=(HF3.block w.heap.size (ze Hh2) hne).trans Hh2;have Hv3:=(HF3.block w1.heap.size (ze Hv2) hne1).trans Hv2;obtain⟨a0,a1,a2,a3,a4,a5,a6,af,az⟩:=zbZ Hh3;obtain⟨b0,b1,b2,b3,b4,b5,b6,bf,bz⟩:=zbZ Hv3;have hlt3:=HL3.lt));refine (HEx2.o _ HL3).mono ?_;rintro e w4 ⟨rfl,HL4,HF4⟩;have Hh4:=(HF4.block w.heap.size (ze Hh3) hne).trans Hh3;have hv4:=(HF4.block w1.heap.size (ze Hv3) hne1).trans Hv3;clear a0 a1 a2 a3 a4 a5 a6 af az b0 b1 b2 b3 b4 b5 b6 bf bz;obtain⟨a0,a1,a2,a3,a4,a5,a6,af,az⟩:=zbZ Hh4;obtain⟨b0,b1,b2,b3,b4,b5,b6,bf,bz⟩:=zbZ hv4;clear hv4;go_wp2_with fail;refine bodyPost_ret (v:=zlG ns na 0 0 0 ⟨#[]⟩ 0) (zev rfl rfl (zfV Hh4 _ _ _ _ _ _ _)) rfl ⟨ns,na,by first|rfl|(rw[Hb];rfl),HNk,?_,?_⟩
   . (repeat (with_reducible refine PL.setOther ?_ hlt _ _));exact HL4
   (repeat (with_reducible refine Fr.setNew ?_ (zMK _) _ _));exact (HF2.o.trans HF3).trans HF4
 have hE:st.decl0 n=st:=by unfold St.decl0;rw[zM1 h16]
 rw[hE];have h16':((n:Int)==16)=false:=zM0.2 (by omega);obtain⟨s2,Hs2⟩:∃s2,st.name.must 4 [58]=s2:=⟨_,rfl⟩;rw[Hs2];clear h16 hE;cases Hb:s2.is 5 zbq with
 | true =>
   have hty:z9 s2=s2.step:=(by unfold z9;rw[zM2 Hb]);rw[hty];clear hty;go_enter func187,ntmps187;go_wp2_with fail;obtain⟨ns,na,hnv,HNk⟩:=zbw st;have HN:=za (zaZ S pb st (w.alloc (.cells #[.string ⟨#[]⟩,xI 0,xI 0,xI 0,xI 0,.string ⟨#[]⟩,xI 0] 134)) HB (HR.alloc _));rw[hnv] at HN;refine HN.o.mono ?_;rintro e w1 ⟨rfl,HL1,hF1⟩;have hne:¬w.heap.size=pb:=(by omega);have Hh1:=(hF1.block w.heap.size Hz0 hne).trans Hh0;have hz1:=ze Hh1;have HF1:Hid (Fr (·=pb) w w1):=Fr.trans ((Fr.refl _ w).alloc _) hF1;have hlt1:=HL1.lt;have HB1:=za HB.name;have HEx:=za (zP S pb st.name ⟨#[58]⟩ _ znQ (w1.alloc (.cells #[.string ns,xI na,xI 0,xI 0,xI 0,.string ⟨#[]⟩,xI 0] 134)) HB1.o (HL1.alloc _));rw[zan HL1.tx (by decide),Hs2] at HEx;have HB2:Hid (Bad s2):=(by unfold Hid;rw[<- Hs2];exact HB1.o.must 4 [58]);clear hF1 hnv HN;go_wp2_with fail;refine HEx.o.mono ?_;rintro e w2 ⟨rfl,HL2,hF2⟩;have hne1:¬w1.heap.size=pb:=(by omega);have Hh2:=(hF2.block w.heap.size (by simp;omega) hne).trans ((Below.heap_alloc _ _ _ hz1).trans Hh1);have Hv2:=(hF2.block w1.heap.size (by simp) hne1).trans (zc w1 _);have HF2:Hid (Fr (·=pb) w w2):=(HF1.o.alloc _).trans hF2;have hlt2:=HL2.lt;have HSk:=za (zbg S pb s2 ⟨#[98,111,111,108]⟩ _ zjg w2 HB2.o HL2);rw[zar HL2.tx (by decide),Hb] at HSk;have hsk:s2.skipM zbq=s2.step:=(by unfold St.skipM;rw[zar HL2.tx (by decide),Hb];rfl);rw[hsk] at HSk;clear hF2 hsk;go_wp2_with (first|(go_at_call 156;refine (zfm _).mono ?_;rintro e w' ⟨rfl,rfl⟩)|(go_at_call 153;refine HSk.o.mono ?_;rintro e w3 ⟨rfl,HL3,HF3⟩;have Hh3:=(HF3.block w.heap.size (ze Hh2) hne).trans Hh2;have Hv3:=(HF3.block w1.heap.size (ze Hv2) hne1).trans Hv2;obtain⟨a0,a1,a2,a3,a4,a5,a6,af,az⟩:=zbZ Hh3;obtain⟨b0,b1,b2,b3,b4,b5,b6,bf,bz⟩:=zbZ Hv3;have hlt3:=HL3.lt));refine bodyPost_ret (v:=zlG ns na 1 0 0 ⟨#[]⟩ 0) (zev rfl rfl (zfV (zr (by omega) Hh3) _ _ _ _ _ _ _)) rfl ⟨ns,na,by first|rfl|(rw[Hb];rfl),HNk,?_,?_⟩
   . (repeat (with_reducible refine PL.setOther ?_ hlt _ _));exact HL3.setOther hlt1 _ _
   (repeat (with_reducible refine Fr.setNew ?_ (zMK _) _ _));exact (HF2.o.trans HF3).setNew (by omega) _ _
 | false =>
   have hty:z9 s2=s2.must 5 zlc:=(by unfold z9;rw[zM1 (by rw[Hb];simp)]);rw[hty];clear hty;go_enter func187,ntmps187;go_wp2_with fail;obtain⟨ns,na,hnv,HNk⟩:=zbw st;have HN:=za (zaZ S pb st (w.alloc (.cells #[.string ⟨#[]⟩,xI 0,xI 0,xI 0,xI 0,.string ⟨#[]⟩,xI 0] 134)) HB (HR.alloc _));rw[hnv] at HN;refine HN.o.mono ?_;rintro e w1 ⟨rfl,HL1,hF1⟩;have hne:¬w.heap.size=pb:=(by omega);have Hh1:=(hF1.block w.heap.size Hz0 hne).trans Hh0;have hz1:=ze Hh1;have HF1:Hid (Fr (·=pb) w w1):=Fr.trans ((Fr.refl _ w).alloc _) hF1;have hlt1:=HL1.lt;have HB1:=za HB.name;have HEx:=za (zP S pb st.name ⟨#[58]⟩ _ znQ (w1.alloc (.cells #[.string ns,xI na,xI 0,xI 0,xI 0,.string ⟨#[]⟩,xI 0] 134)) HB1.o (HL1.alloc _));rw[zan HL1.tx (by decide),Hs2] at HEx;have HB2:Hid (Bad s2):=(by unfold Hid;rw[<- Hs2];exact HB1.o.must 4 [58]);clear hF1 hnv HN;go_wp2_with fail;refine HEx.o.mono ?_;rintro e w2 ⟨rfl,HL2,hF2⟩;have hne1:¬w1.heap.size=pb:=(by omega);have Hh2:=(hF2.block w.heap.size (by simp;omega) hne).trans ((Below.heap_alloc _ _ _ hz1).trans Hh1);have Hv2:=(hF2.block w1.heap.size (by simp) hne1).trans (zc w1 _);have HF2:Hid (Fr (·=pb) w w2):=(HF1.o.alloc _).trans hF2;have hlt2:=HL2.lt;have HSk:=za (zbg S pb s2 ⟨#[98,111,111,108]⟩ _ zjg w2 HB2.o HL2);rw[zar HL2.tx (by decide),Hb] at HSk;have hsk:s2.skipM zbq=s2:=(by unfold St.skipM;rw[zar HL2.tx (by decide),Hb];rfl);rw[hsk] at HSk;clear hF2 hsk;have HEx2:=za (λw1 h=>zP S pb s2 ⟨#[105,110,116]⟩ _ zo1 w1 HB2.o h);have htx:=HL2.tx;rw[ze6 htx (by decide)] at HEx2;clear htx;go_wp2_with (first|(go_at_call 156;first|(with_reducible refine (zfm _).mono ?_;rintro e w' ⟨rfl,rfl⟩)|(with_reducible refine (zhC _).mono ?_;rintro e w' ⟨rfl,rfl⟩))|(go_at_call 153;refine HSk.o.mono ?_;rintro e w3 ⟨rfl,HL3,HF3⟩;have Hh3:=(HF3.block w.heap.size (ze Hh2) hne).trans Hh2;have Hv3:=(HF3.block w1.heap.size (ze Hv2) hne1).trans Hv2;obtain⟨a0,a1,a2,a3,a4,a5,a6,af,az⟩:=zbZ Hh3;obtain⟨b0,b1,b2,b3,b4,b5,b6,bf,bz⟩:=zbZ Hv3;have hlt3:=HL3.lt));refine (HEx2.o _ HL3).mono ?_;rintro e w4 ⟨rfl,HL4,HF4⟩;have Hh4:=(HF4.block w.heap.size (ze Hh3) hne).trans Hh3;have hv4:=(HF4.block w1.heap.size (ze Hv3) hne1).trans Hv3;clear a0 a1 a2 a3 a4 a5 a6 af az b0 b1 b2 b3 b4 b5 b6 bf bz;obtain⟨a0,a1,a2,a3,a4,a5,a6,af,az⟩:=zbZ Hh4;obtain⟨b0,b1,b2,b3,b4,b5,b6,bf,bz⟩:=zbZ hv4;clear hv4;go_wp2_with fail;refine bodyPost_ret (v:=zlG ns na 0 0 0 ⟨#[]⟩ 0) (zev rfl rfl (zfV Hh4 _ _ _ _ _ _ _)) rfl ⟨ns,na,by first|rfl|(rw[Hb];rfl),HNk,?_,?_⟩
   . (repeat (with_reducible refine PL.setOther ?_ hlt _ _));exact HL4
   (repeat (with_reducible refine Fr.setNew ?_ (zMK _) _ _));exact (HF2.o.trans HF3).trans HF4
end
section
theorem zjn (k:Int)(s:Xb)(a n:Int)(w:Xw):(Instr.field 79 (.agg #[xI k,.string s,xI a,xI n]) 2).run prog w=.ok (xI a) w:=by kernel_rfl
theorem zgw {fn:Func}{p:Tmp}(h:fn.results=#[.cell p 132]){tmps:Xa}{b:Nat}{w:Xw}(hp:tmps[p]?.getD undef=xP b){v0 v1 v2 v3:Xv}(hh:xH w b #[v0,v1,v2,v3] 132):(results fn tmps).run prog w=.ok (.agg #[v0,v1,v2,v3]) w:=by obtain⟨c0,c1,c2,c3,_⟩:=zU hh;simp[results,h,hp,go_sem,c0,c1,c2,c3]
theorem zqH (S:Xs)(pb:Nat)(st:St)(w:Xw)(HB:Bad st)(Hk:st.t.k=5)(HR:PL S w pb st) :
 xK 188 #[xP pb] w λe w'=>∃(os:Xb) (oa:Nat),e=.returned (.agg #[xI (if st.step.is 5 zet=true then 2 else 1),xI st.t.a,.string os,xI oa])/\((za3 st.step).t.k=2->os=(za3 st.step).t.s/\oa=(za3 st.step).t.a)/\PL S w' pb (za3 st.step).name/\Fr (·=pb) w w':=by
 have hlt:=HR.lt;have hne:¬w.heap.size=pb:=by omega
 have hfd:=zjn;have Hs:=za (zc8 HB (by omega:st.t.k≠1));have HB1:=za HB.step;obtain⟨s1,hs1⟩:∃s1,st.step=s1:=⟨_,rfl⟩;rw[hs1] at Hs HB1;rw[hs1];cases Hb:s1.is 5 zet with
 | true =>
   have hn:za3 s1=s1.step:=(by unfold za3;rw[zM2 Hb]);rw[hn];obtain⟨os,oa,hnv,HNk⟩:=zbw s1.step;have HN:=za (λw1 h=>zaZ S pb s1.step w1 HB1.o.step h);rw[hnv] at HN;go_enter func188,ntmps188;go_wp2_with fail;refine (zb9 S pb st _ HB.ok (by rw[Hk];decide) (HR.alloc _)).mono ?_;rintro e w1 ⟨rfl,HL1,hF1⟩;rw[Hs.o] at HL1;have Hh1:=(hF1.block w.heap.size (by simp) hne).trans (zc w _);have hz1:=ze Hh1;have hlt1:=HL1.lt;have hne1:¬w1.heap.size=pb:=(by omega);have HF1:Hid (Fr (·=pb) w w1):=((Fr.refl _ w).alloc _).trans hF1;have HSk:=za (λw2 h=>zbg S pb s1 ⟨#[110,111,116]⟩ _ zo7 w2 HB1.o h);have hsk:s1.skipM zet=s1.step:=(by unfold St.skipM;rw[zar HL1.tx (by decide),Hb];rfl);rw[zar HL1.tx (by decide),Hb,hsk] at HSk;simp only[Tk.cval];go_wp2_with (go_at_call 153;refine (HSk.o _ (HL1.alloc _)).mono ?_;rintro e w2 ⟨rfl,HL2,hF2⟩;have Hh2:=(hF2.block w.heap.size (by rw[zsb];omega) hne).trans ((Below.heap_alloc _ _ _ hz1).trans Hh1);have Ho2:=(hF2.block w1.heap.size (by rw[zsb];omega) hne1).trans (zc w1 _);obtain⟨b0,b1,b2,b3,bf,bz⟩:=zU Ho2;have HF2:=za ((HF1.o.alloc _).trans hF2));have Ho2s:=zh w2 w1.heap.size 0 (xI 2) Ho2;refine (HN.o _ (HL2.setOther hlt1 _ _)).mono ?_;rintro e w3 ⟨rfl,HL3,hF3⟩;have Hh3:=(hF3.block w.heap.size (by simp[World.setCell];exact ze Hh2) hne).trans (zr (by omega) Hh2);have ho3:=(hF3.block w1.heap.size (by simp[World.setCell];exact ze Ho2) hne1).trans Ho2s;have HF3:Hid (Fr (·=pb) w w3):=(HF2.o.setNew (by omega) _ _).trans hF3;obtain⟨b0,b1,b2,b3,bf,bz⟩:=zU ho3;obtain⟨a0,a1,a2,a3,af,az⟩:=zU Hh3;go_wp2_with fail;refine bodyPost_ret (v:=.agg #[xI 2,xI st.t.a,.string os,xI oa]) (zgw rfl rfl (zb7 (zr (by omega) (zr (by omega) Hh3)) _ _ _ _)) rfl ⟨os,oa,rfl,HNk,?_,?_⟩
   . (repeat (with_reducible refine PL.setOther ?_ hlt _ _));exact (HL3.setOther hlt1 _ _).setOther hlt1 _ _
   (repeat (with_reducible refine Fr.setNew ?_ (zMK _) _ _));exact (HF3.o.setNew (by omega) _ _).setNew (by omega) _ _
 | false =>
   have hn:za3 s1=s1:=(by unfold za3;rw[zM1 (by rw[Hb];simp)]);rw[hn];obtain⟨os,oa,hnv,HNk⟩:=zbw s1;have HN:=za (λw1 h=>zaZ S pb s1 w1 HB1.o h);rw[hnv] at HN;go_enter func188,ntmps188;go_wp2_with fail;refine (zb9 S pb st _ HB.ok (by rw[Hk];decide) (HR.alloc _)).mono ?_;rintro e w1 ⟨rfl,HL1,hF1⟩;rw[Hs.o] at HL1;have Hh1:=(hF1.block w.heap.size (by simp) hne).trans (zc w _);have hz1:=ze Hh1;have hlt1:=HL1.lt;have hne1:¬w1.heap.size=pb:=(by omega);have HF1:Hid (Fr (·=pb) w w1):=((Fr.refl _ w).alloc _).trans hF1;have HSk:=za (λw2 h=>zbg S pb s1 ⟨#[110,111,116]⟩ _ zo7 w2 HB1.o h);have hsk:s1.skipM zet=s1:=(by unfold St.skipM;rw[zar HL1.tx (by decide),Hb];rfl);rw[zar HL1.tx (by decide),Hb,hsk] at HSk;simp only[Tk.cval];go_wp2_with (go_at_call 153;refine (HSk.o _ (HL1.alloc _)).mono ?_;rintro e w2 ⟨rfl,HL2,hF2⟩;have Hh2:=(hF2.block w.heap.size (by rw[zsb];omega) hne).trans ((Below.heap_alloc _ _ _ hz1).trans Hh1);have Ho2:=(hF2.block w1.heap.size (by rw[zsb];omega) hne1).trans (zc w1 _);obtain⟨b0,b1,b2,b3,bf,bz⟩:=zU Ho2;have HF2:=za ((HF1.o.alloc _).trans hF2));refine (HN.o _ HL2).mono ?_;rintro e w3 ⟨rfl,HL3,hF3⟩;have Hh3:=(hF3.block w.heap.size (ze Hh2) hne).trans Hh2;have ho3:=(hF3.block w1.heap.size (ze Ho2) hne1).trans Ho2;have HF3:Hid (Fr (·=pb) w w3):=HF2.o.trans hF3;obtain⟨b0,b1,b2,b3,bf,bz⟩:=zU ho3;obtain⟨a0,a1,a2,a3,af,az⟩:=zU Hh3;go_wp2_with fail;refine bodyPost_ret (v:=.agg #[xI 1,xI st.t.a,.string os,xI oa]) (zgw rfl rfl (zb7 (zr (by omega) (zr (by omega) Hh3)) _ _ _ _)) rfl ⟨os,oa,rfl,HNk,?_,?_⟩
   . (repeat (with_reducible refine PL.setOther ?_ hlt _ _));exact (HL3.setOther hlt1 _ _).setOther hlt1 _ _
   (repeat (with_reducible refine Fr.setNew ?_ (zMK _) _ _));exact (HF3.o.setNew (by omega) _ _).setNew (by omega) _ _
theorem zhc {d:Nat}{f:FuncId}{part:Fn}(hcf:zH f)(hP:zX d f part)(gP:zv d part)(S:Xs)(pb:Nat)(st:St)(p:Nat)(w:Xw)(a:Xp)(x k B:Nat)(HI:Inv p st)(ho:18<=st.op+d)(H4:4<=st.t.k)(hk:zag st.t.s.toList 0=k)(HR:PL S w pb st)(hB:B<=w.heap.size)(hpb:pb<B)(hT:st.er=0->TR w B st.L x (.pointer a)) :
 xK 227 #[xP pb,.pointer a,xI k,.func (.func f) #[xP pb] #[]] w (zaW S pb B w ((part st.step).1.put ⟨st.t.s,st.t.a,0,[x,(part st.step).2],sE,0⟩).1 ((part st.step).1.put ⟨st.t.s,st.t.a,0,[x,(part st.step).2],sE,0⟩).2):=by
 have he:=HI.toBad.er (by omega);have e3:=Fwd.use HI he (by omega);have g4:=gP st.step (p+1) e3.inv (by rw[St.step_op];exact ho);have HB:=za HI.toBad;have HT:=za (hT he);have HP:=za (λw1 h1=>hP S pb st.step (p+1) w1 e3.inv (by rw[St.step_op];exact ho) h1);have Hs:=za (zc8 HI.toBad (by omega:st.t.k≠1));obtain⟨q0,q1,q2,q3,q4,q5,q6⟩:=HR.cells;have hlt:=HR.lt;have hf:=HR.frozen;have Hcf:Hid (zH f):=hcf;unfold zH at hcf;clear hP gP hT he e3;go_enter func227,ntmps227;go_wp2_with (first|(go_at_call 208;refine (zb8 S pb st k _ HR).mono ?_;rintro e w' ⟨rfl,rfl⟩)|(go_at_call 186;refine (zb9 S pb st _ HB.o.ok (zMO (by decide) H4) (HR.alloc _)).mono ?_;rintro e w1 ⟨rfl,HL1,HF1⟩;rw[Hs.o] at HL1));have hne:¬w.heap.size=pb:=by omega
 have hh1:=(HF1.block w.heap.size (Nat.lt_of_lt_of_eq (zMV _) (by simp)) hne).trans (zc w _);have hz1:w.heap.size<w1.heap.size:=ze hh1;refine (HP.o _ HL1).mono ?_;rintro e w2 ⟨a2,rfl,HL2,hT2,HF2⟩;have Hh2:=(HF2.block w.heap.size hz1 hne).trans hh1;obtain⟨d0,d1,d2,d3,d4,d5,df,dz⟩:=zt Hh2;have hz2:=HF2.size;clear hh1;go_wp2_with fail;go_ret;refine⟨some (xD w.heap.size 0),rfl,((HL2.setOther hlt _ _).alloc _).put _,?_,((((((Fr.refl _ w).alloc _).trans HF1).trans HF2).setNew (zMK _) _ _).alloc _)⟩;intro he';obtain⟨E,hE⟩:=g4.L;have t2:=hT2.out he';rw[St.step_L] at hE;have hk5:(w2.setCell (xD w.heap.size 5) (xS w2.heap.size 2 2)).heap.size=w2.heap.size:=by simp[World.setCell]
 refine TR.two (y:=x) (z:=(part st.step).2) (g:=w2.heap.size) (u:=.pointer a) (v:=.pointer a2) hB (by omega) ?_ ?_ rfl ?_ ?_
 . show _=some (Obj.cells #[xI (zag st.t.s.toList 0:Nat),xI st.t.a,.string ⟨#[]⟩,xI (0:Nat),xI (zbF st.t.s.toList 0:Nat),xS w2.heap.size 2 2] 226 (0,0));rw[hk,zbK];exact (Below.heap_alloc _ _ _ (by rw[hk5];exact dz)).trans (zh _ _ _ _ Hh2)
 . have:=zc (w2.setCell (xD w.heap.size 5) (xS w2.heap.size 2 2)) (.cells #[.pointer a,.pointer a2] 182);rw[hk5] at this;exact this
 . rw[hE];exact (HT.o.fr ((((((Fr.refl (·=pb) w).alloc _).trans HF1).trans HF2).setNew (zMK _) _ _).alloc _) (λk h1 _ h2=>by omega)).more E
 exact (t2.fr (((Fr.refl (·=w.heap.size) w2).set1 _ _).alloc _) (λk h1 _ h2=>by omega)).down (by omega)
end
section
variable {l:Xu} {st:St}
def zhp (lv:Nat)(ks:Xn):Prop:=∀st:St,st.t.k<=5->opM st ks=if zco st.t lv=true then some (zag st.t.s.toList 0) else none
theorem zqx (h4:st.t.k≠4)(h5:st.t.k≠5):st.atB l=false:=by unfold St.atB;simp[h4,h5]
theorem zff (h:st.t.k=4∨st.t.k=5):st.atB l=(st.t.s.toList==l):=by unfold St.atB;rcases h with h|h <;> simp[h]
theorem zf1 (h4:st.t.k≠4)(h5:st.t.k≠5):∀ks,opM st ks=none:=by
 intro ks;induction ks with
 | nil=>rfl
 | cons k ks ih=>show (if st.atB (wd k).toList=true then some k else opM st ks)=none;rw[zqx h4 h5,ih];rfl
theorem wdl:(wd 7).toList=[119,104,101,110]/\(wd 8).toList=[119,104,101,110,111,116]/\(wd 10).toList=[45]/\(wd 11).toList=[110,111,116]/\(wd 12).toList=[97,110,100]/\(wd 13).toList=[111,114]/\(wd 14).toList=[120,111,114]/\(wd 15).toList=[61]/\(wd 16).toList=[60,62]/\(wd 17).toList=[60]/\(wd 18).toList=[60,61]/\(wd 19).toList=[43]/\(wd 20).toList=[45]/\(wd 21).toList=[42]/\(wd 22).toList=[47]/\(wd 23).toList=[37]/\(wd 1).toList=[116,114,117,101]/\(wd 2).toList=[102,97,108,115,101]:=by decide +kernel
theorem zpB:zhp 0 [13,14]:=by
 intro st hk;obtain⟨_,_,_,_,_,e13,e14,_⟩:=wdl;by_cases h:st.t.k=4∨st.t.k=5
 . rw[zek h];simp only[opM,zff h,e13,e14];by_cases h1:st.t.s.toList=[111,114]
   . rw[h1];decide
   by_cases h2:st.t.s.toList=[120,111,114]
   . rw[h2];decide
   have:zds st.t.s.toList 0=false:=by unfold zds;rw[zM1 (by simp[h1,h2])];(repeat' split) <;> rfl
   rw[this];simp[h1,h2]
 rw[zf1 (by omega) (by omega),zdQ (by omega)];rfl
theorem zpw:zhp 1 [12]:=by
 intro st hk;obtain⟨_,_,_,_,e12,_⟩:=wdl;by_cases h:st.t.k=4∨st.t.k=5
 . rw[zek h];simp only[opM,zff h,e12];by_cases h1:st.t.s.toList=[97,110,100]
   . rw[h1];decide
   have:zds st.t.s.toList 1=false:=by unfold zds;(repeat' split) <;> first|rfl|contradiction
   rw[this];simp[h1]
 rw[zf1 (by omega) (by omega),zdQ (by omega)];rfl
theorem zqe:zhp 2 [19,20]:=by
 intro st hk;obtain⟨_,_,_,_,_,_,_,_,_,_,_,e19,e20,_⟩:=wdl;by_cases h:st.t.k=4∨st.t.k=5
 . rw[zek h];simp only[opM,zff h,e19,e20];by_cases h1:st.t.s.toList=[43]
   . rw[h1];decide
   by_cases h2:st.t.s.toList=[45]
   . rw[h2];decide
   have:zds st.t.s.toList 2=false:=by unfold zds;(repeat' split) <;> first|rfl|(exfalso;simp_all;done)
   rw[this];simp[h1,h2]
 rw[zf1 (by omega) (by omega),zdQ (by omega)];rfl
theorem zpv:zhp 3 [21,22,23]:=by
 intro st hk;obtain⟨_,_,_,_,_,_,_,_,_,_,_,_,_,e21,e22,e23,_⟩:=wdl;by_cases h:st.t.k=4∨st.t.k=5
 . rw[zek h];simp only[opM,zff h,e21,e22,e23];by_cases h1:st.t.s.toList=[42]
   . rw[h1];decide
   by_cases h2:st.t.s.toList=[47]
   . rw[h2];decide
   by_cases h3:st.t.s.toList=[37]
   . rw[h3];decide
   have:zds st.t.s.toList 3=false:=by unfold zds;(repeat' split) <;> first|rfl|(exfalso;simp_all;done)
   rw[this];simp[h1,h2,h3]
 rw[zf1 (by omega) (by omega),zdQ (by omega)];rfl
end
section
variable {ks:Xn}
def zhn (w:Xw)(kb:Nat)(ks:Xn):Prop:=∀(i k:Nat),ks[i]?=some k->w.cell? (xD kb i)=some (xI k)
theorem zhn.fr {w w':Xw}{kb pb:Nat}(h:zhn w kb ks)(hf:Fr (·=pb) w w')(hne:¬kb=pb)(hk:kb<w.heap.size):zhn w' kb ks:=λi k hi=>((zrw hf).1 kb i hk hne).trans (h i k hi)
theorem zgd {d:Nat}{f:FuncId}{part:Fn}{lv:Nat}(hcf:zH f)(hP:zX d f part)(gP:zv d part)(hlv:zhp lv ks)(hks:ks.length<=100)(h24:∀k∈ks,k<24)
 (S:Xs) (pb:Nat) (st:St) (p:Nat) (w:Xw) (kb n:Nat) (hn:n=ks.length) (hI:Inv p st) (ho:18<=st.op+d) (hR:PL S w pb st) (hK:zhn w kb ks) (hkb:pb<kb) (hkb2:kb<w.heap.size) :
 xK 218 #[xP pb,.func (.func f) #[xP pb] #[],xS kb n n] w (zaW S pb w.heap.size w (zcT lv part st).1 (zcT lv part st).2):=by
 have g1:=gP st p hI ho;have H1:=za (hP S pb st p w hI ho hR);have hM:zcT lv part st=zdq lv part 1300 (part st):=rfl;rw[hM];have hlt:=hR.lt;have HK:=za hK;have G1:=za g1.inv;have N1:=za g1.num;have O1:Hid (18<=(part st).1.op+d):=by unfold Hid;rw[g1.op];exact ho
 have Hn:=za hn;have HP:=za hP;have GP:=za gP;have HLV:=za hlv;have Hcf:=za hcf;unfold zH at hcf;clear hR hM g1 hK hn hP gP hlv;generalize part st=x0 at *;obtain⟨R,hRes⟩:∃R,zdq lv part 1300 x0=R:=⟨_,rfl⟩;rw[hRes];have HRes:=za hRes;clear hRes;go_enter func218,ntmps218;go_wp2_with fail;refine H1.o.mono ?_;rintro e w1 ⟨a1,rfl,hL1,hT1,hF1⟩;have HL1:=za hL1;have HF1:=za hF1;clear hL1 hF1;go_wp2_with fail;go_loopg [7] 1300 (λk l wr=>∃(x:St×Nat) (a:Xp),l=.pointer a/\Hid (zdq lv part k x=R)/\rem x.1<k/\Hid (Inv p x.1)/\Hid (18<=x.1.op+d)/\Hid (PL S wr pb x.1)/\Hid (x.1.er=0->TR wr w.heap.size x.1.L x.2 (.pointer a))/\Hid (Fr (·=pb) w wr));case atStart => refine⟨x0,a1,rfl,HRes.o,?_,G1.o,O1.o,HL1.o,hT1.out,HF1.o⟩;unfold rem;split <;> omega
 case round =>
  obtain⟨x,a,rfl,HF,hrem,HI2,HO2,HL2,HT2,HF2⟩:=hrel;have hlt2:=HL2.o.lt;obtain⟨g,rfl⟩:∃g,gk=g+1:=⟨gk-1,by omega⟩;have HOp:=za (zbd S pb x.1 kb n ks Hn.o hks wr (HK.o.fr HF2.o (by omega) hkb2) h24 HI2.o.ok.tk HL2.o);have hop:=HLV.o x.1 HI2.o.ok.tk;have hz2:=HF2.o.size;cases hl:zco x.1.t lv with
  | false =>
    rw[hl,zM1 (by simp)] at hop;have hR2:R=x:=by
     rw[<- HF.o]
     show (if x.1.er=0/\zco x.1.t lv=true then _ else x)=x;rw[zM1 (by rw[hl];simp)]
    have HR2:=za hR2;rw[hop] at HOp;simp only[opV] at HOp;clear hl hop hR2 HF;go_wp2_with (go_at_call 226;refine HOp.o.mono ?_;rintro e w' ⟨rfl,rfl⟩);go_ret;rw[HR2.o];exact⟨a,rfl,HL2.o,HT2.o,HF2.o⟩
  | true =>
    rw[hl,zM2 rfl] at hop;have hk4:4<=x.1.t.k:=by
     rcases Nat.lt_or_ge x.1.t.k 4 with h|h
     . rw[zdQ (by omega)] at hl;cases hl
     exact h
    have he:=HI2.o.toBad.er (by omega);have e3:=Fwd.use HI2.o he (zgS hl);have g4:=GP.o x.1.step (p+1) e3.inv (by rw[St.step_op];exact HO2.o);have HFn:Hid (zdq lv part g ((part x.1.step).1.put ⟨x.1.t.s,x.1.t.a,0,[x.2,(part x.1.step).2],sE,0⟩)=R):=by
     have h:=HF.o;unfold Hid;rw[<- h]
     show _=(if x.1.er=0/\zco x.1.t lv=true then _ else x);rw[zM2 ⟨he,hl⟩]
    have hput:Hid (Inv p ((part x.1.step).1.put ⟨x.1.t.s,x.1.t.a,0,[x.2,(part x.1.step).2],sE,0⟩).1):=(Fwd.put g4.inv _).inv;have hopn:Hid (18<=((part x.1.step).1.put ⟨x.1.t.s,x.1.t.a,0,[x.2,(part x.1.step).2],sE,0⟩).1.op+d):=(by unfold Hid;show 18<=(part x.1.step).1.op+d;rw[g4.op,St.step_op];exact HO2.o);have hrem':Hid (rem ((part x.1.step).1.put ⟨x.1.t.s,x.1.t.a,0,[x.2,(part x.1.step).2],sE,0⟩).1<g):=by
     unfold Hid rem
     show (if (part x.1.step).1.er=0 then 1201-(part x.1.step).1.t.a else 0)<g;have h1:rem x.1=1201-x.1.t.a:=(by unfold rem;rw[zM2 he]);have h2:=g4.ta;have h3:x.1.t.a+1<=x.1.step.t.a:=(by have:=HI2.o.tok (zgS hl);rw[St.step_ok he];have hf:=zV x.1.src x.1.t.t HI2.o.ok.tt;simp only;omega);have h4:=g4.inv.ok.ta_le;have h5:=HI2.o.ok.ta_le;split <;> omega
    have HBe:=za (zhc Hcf.o HP.o GP.o S pb x.1 p wr a x.2 _ w.heap.size HI2.o HO2.o hk4 rfl HL2.o hz2 hlt HT2.o);rw[hop] at HOp;simp only[opV] at HOp;clear hl hop HF he e3 g4 hk4;generalize (part x.1.step).1.put ⟨x.1.t.s,x.1.t.a,0,[x.2,(part x.1.step).2],sE,0⟩=y at *;generalize zag x.1.t.s.toList 0=kk at *;go_wp2_with (first|(go_at_call 226;refine HOp.o.mono ?_;rintro e w' ⟨rfl,rfl⟩)|(go_at_call 227;refine HBe.o.mono ?_;rintro e w3 ⟨a3,rfl,hL3,hT3,hF3⟩;have HL3:=za hL3;have HF3:=za hF3;clear hL3 hF3));go_roundg g;case measure=>omega
    exact⟨y,a3,rfl,HFn,hrem'.out,hput,hopn,HL3.o,hT3.out,HF2.o.trans HF3.o⟩
end
section
variable {part:Fn} {d:Nat}
theorem zcD (w:Xw)(ks:Xn)(arr:Xa)(t:Xy)(h:arr=(ks.map λk:Nat=>(xI (k:Int))).toArray):zhn (w.alloc (.cells arr t)) w.heap.size ks:=by intro i k hi;subst h;have:=zc w (.cells (ks.map λk:Nat=>(xI (k:Int))).toArray t);unfold World.cell?;rw[this];simp[hi]
theorem zaW.alloc {S:Xs}{pb B:Nat}{w:Xw}{o:Obj}{st':St}{r:Nat}{e:Ending}{w':Xw}(h:zaW S pb B (w.alloc o) st' r e w')(hB:w.heap.size<=B):zaW S pb w.heap.size w st' r e w':=by obtain⟨a,h1,h2,h3,h4⟩:=h;exact⟨a,h1,h2,λhe=>(h3.out he).down hB,((Fr.refl _ w).alloc o).trans h4⟩
theorem zaF (w:Xw)(o:Obj):w.heap.size<=(w.alloc o).heap.size:=by simp
theorem zqc:zH 219:=λ_ _=>by kernel_rfl
theorem zlW (hP:zX d 219 part)(gP:zv d part):zX d 207 (zcT 0 part):=by intro S pb st p w hI ho hR;have hlt:=hR.lt;have H1:=za (zgd zqc hP gP zpB (by decide) (by decide) S pb st p (w.alloc (.cells #[xI 13,xI 14] 223)) w.heap.size 2 rfl hI ho (hR.alloc _) (zcD w [13,14] _ _ rfl) hlt (by simp));generalize zcT 0 part st=R at *;go_enter func207,ntmps207;go_wp2_with fail;refine H1.o.mono ?_;rintro e w1 h1;obtain⟨a,rfl,h2,h3,h4⟩:=h1.alloc (zaF _ _);go_wp2_with fail;go_ret;exact⟨a,rfl,h2,h3,h4⟩
theorem zqk:zH 228:=λ_ _=>by kernel_rfl
theorem znl (hP:zX d 228 part)(gP:zv d part):zX d 219 (zcT 1 part):=by intro S pb st p w hI ho hR;have hlt:=hR.lt;have H1:=za (zgd zqk hP gP zpw (by decide) (by decide) S pb st p (w.alloc (.cells #[xI 12] 223)) w.heap.size 1 rfl hI ho (hR.alloc _) (zcD w [12] _ _ rfl) hlt (by simp));generalize zcT 1 part st=R at *;go_enter func219,ntmps219;go_wp2_with fail;refine H1.o.mono ?_;rintro e w1 h1;obtain⟨a,rfl,h2,h3,h4⟩:=h1.alloc (zaF _ _);go_wp2_with fail;go_ret;exact⟨a,rfl,h2,h3,h4⟩
theorem zk7:zH 237:=λ_ _=>by kernel_rfl
theorem zp2 (hP:zX d 237 part)(gP:zv d part):zX d 234 (zcT 2 part):=by intro S pb st p w hI ho hR;have hlt:=hR.lt;have H1:=za (zgd zk7 hP gP zqe (by decide) (by decide) S pb st p (w.alloc (.cells #[xI 19,xI 20] 223)) w.heap.size 2 rfl hI ho (hR.alloc _) (zcD w [19,20] _ _ rfl) hlt (by simp));generalize zcT 2 part st=R at *;go_enter func234,ntmps234;go_wp2_with fail;refine H1.o.mono ?_;rintro e w1 h1;obtain⟨a,rfl,h2,h3,h4⟩:=h1.alloc (zaF _ _);go_wp2_with fail;go_ret;exact⟨a,rfl,h2,h3,h4⟩
theorem zn6:zH 238:=λ_ _=>by kernel_rfl
theorem zkb (hP:zX d 238 part)(gP:zv d part):zX d 237 (zcT 3 part):=by intro S pb st p w hI ho hR;have hlt:=hR.lt;have H1:=za (zgd zn6 hP gP zpv (by decide) (by decide) S pb st p (w.alloc (.cells #[xI 21,xI 22,xI 23] 223)) w.heap.size 3 rfl hI ho (hR.alloc _) (zcD w [21,22,23] _ _ rfl) hlt (by simp));generalize zcT 3 part st=R at *;go_enter func237,ntmps237;go_wp2_with fail;refine H1.o.mono ?_;rintro e w1 h1;obtain⟨a,rfl,h2,h3,h4⟩:=h1.alloc (zaF _ _);go_wp2_with fail;go_ret;exact⟨a,rfl,h2,h3,h4⟩
theorem zqF:zH 234:=λ_ _=>by kernel_rfl
theorem zkz (st:St)(_hk:st.t.k<=5)(hT:Tx st.src st.t):opM st [15,16,17,18]=if zcn st.t=true then some (zag st.t.s.toList 0) else none:=by
 obtain⟨_,_,_,_,_,_,_,e15,e16,e17,e18,_⟩:=wdl;by_cases h:st.t.k=4∨st.t.k=5
 . simp only[opM,zff h,e15,e16,e17,e18];by_cases hq:st.t.s.toList=[61]∨st.t.s.toList=[60,62]∨st.t.s.toList=[60]∨st.t.s.toList=[60,61]
   . have h4:st.t.k=4:=by
      rcases h with h|h
      . exact h
      have:=hT.kw h;unfold zcW at this;rcases hq with hq|hq|hq|hq <;> (rw[hq] at this;exact absurd this (by decide))
     unfold zcn;rw[h4];rcases hq with hq|hq|hq|hq <;> (rw[hq];decide)
   simp only[not_or] at hq;obtain⟨h1,h2,h3,h4⟩:=hq;unfold zcn;simp[h1,h2,h3,h4]
 rw[zf1 (by omega) (by omega)];have h4:(st.t.k==4)=false:=by simp;omega
 have:zcn st.t=false:=by unfold zcn;rw[h4];rfl
 rw[this];rfl
theorem zne (HP:zX d 234 part)(GP:zv d part):zX d 228 (zdJ part):=by
 intro S pb st p w hI ho hR;have hlt:=hR.lt;have H1:=za (HP S pb st p w hI ho hR);have g1:=GP st p hI ho;have G1:=za g1.inv;have O1:Hid (18<=(part st).1.op+d):=by unfold Hid;rw[g1.op];exact ho
 have hM:zdJ part st=if (part st).1.er=0/\zcn (part st).1.t=true then (part (part st).1.step).1.put ⟨(part st).1.t.s,(part st).1.t.a,0,[(part st).2,(part (part st).1.step).2],sE,0⟩ else part st:=rfl;generalize part st=x at *;cases Hl:zcn x.1.t with
 | false => have hM2:zdJ part st=x:=(by rw[hM,zM1 (by rw[Hl];simp)]);rw[hM2];go_enter func228,ntmps228;go_wp2_with fail;refine H1.o.mono ?_;rintro e w1 ⟨a1,rfl,HL1,hT1,HF1⟩;have HOp:=za (zbd S pb x.1 w1.heap.size 4 [15,16,17,18] rfl (by decide) (w1.alloc (.cells #[xI 15,xI 16,xI 17,xI 18] 223)) (zcD w1 _ _ _ rfl) (by decide) G1.o.ok.tk (HL1.alloc _));rw[zkz x.1 G1.o.ok.tk HL1.tx,Hl,zM1 (by simp)] at HOp;simp only[opV] at HOp;go_wp2_with (go_at_call 226;refine HOp.o.mono ?_;rintro e w' ⟨rfl,rfl⟩);go_ret;exact⟨a1,rfl,HL1.alloc _,λhe=>(hT1.out he).fr ((Fr.refl (·=pb) w1).alloc _) (λk _ _ _=>by omega),HF1.alloc _⟩
 | true => have Hk4:4<=x.1.t.k:=(by unfold zcn at Hl;simp at Hl;omega);have he:=G1.o.toBad.er (by omega);have hM2:zdJ part st=(part x.1.step).1.put ⟨x.1.t.s,x.1.t.a,0,[x.2,(part x.1.step).2],sE,0⟩:=(by rw[hM,zM2 ⟨he,Hl⟩]);rw[hM2];go_enter func228,ntmps228;go_wp2_with fail;refine H1.o.mono ?_;rintro e w1 ⟨a1,rfl,HL1,hT1,HF1⟩;have HOp:=za (zbd S pb x.1 w1.heap.size 4 [15,16,17,18] rfl (by decide) (w1.alloc (.cells #[xI 15,xI 16,xI 17,xI 18] 223)) (zcD w1 _ _ _ rfl) (by decide) G1.o.ok.tk (HL1.alloc _));rw[zkz x.1 G1.o.ok.tk HL1.tx,Hl,zM2 rfl] at HOp;simp only[opV] at HOp;have hz:=HF1.size;have HBe:=za (zhc zqF HP GP S pb x.1 p (w1.alloc (.cells #[xI 15,xI 16,xI 17,xI 18] 223)) a1 x.2 _ w.heap.size G1.o O1.o Hk4 rfl (HL1.alloc _) (by simp;omega) hlt (λhe=>(hT1.out he).fr ((Fr.refl (·=pb) w1).alloc _) (λk _ _ _=>by omega)));generalize (part x.1.step).1.put ⟨x.1.t.s,x.1.t.a,0,[x.2,(part x.1.step).2],sE,0⟩=y at *;generalize zag x.1.t.s.toList 0=kk at *;go_wp2_with (first|(go_at_call 226;refine HOp.o.mono ?_;rintro e w' ⟨rfl,rfl⟩)|(go_at_call 227;refine HBe.o.mono ?_;rintro e w3 ⟨a3,rfl,HL3,hT3,HF3⟩));go_ret;exact⟨a3,rfl,HL3,hT3,(HF1.alloc _).trans HF3⟩
end
end Go.Proofs.YtbicmofihhjgbaaGreatDoor
