/- Part 2. -/
import Derived.Deep.CutBlock
import Derived.Deep.DeepCutAuto
import Derived.Deep.LoopGhost
import Derived.Deep.RegionLaw
import Derived.Test.YtenadialhccdiaaGreatDoorK00
set_option maxRecDepth 100000
set_option maxHeartbeats 8000000
namespace Go.Proofs.YtenadialhccdiaaGreatDoor
open Go.Proofs.Tryz
section
open Go.RowKit
def Tk.cval (src:Xb)(t:Tk):Value:=.agg #[xI (ck t),.string (cs src t),xI t.a,xI (cn t)]
theorem znL (s:Xb)(a:Nat)(ha:a<=s.size):zhy (s.extract a s.size) a=(zfg s a).cval s:=by
 have h1:=zf3 inW s a ha;have h2:=zcr inW s a ha;have h3:=zdB inW s a;obtain⟨n,hn⟩:∃n,zQ inW (s.extract a s.size) 0=n:=⟨_,rfl⟩;rw[hn] at h1;have hx:(s.extract a s.size).extract 0 n=s.extract a (zQ inW s a):=by rw[zcL s a n (by omega),<- h1];congr 1;omega
 unfold zhy zfg;simp only[hn,hx];have hz:(s.extract a (zQ inW s a)).size=zQ inW s a-a:=by rw[ByteArray.size_extract];omega
 rw[hz];cases hk:zcW (s.extract a (zQ inW s a)) with
 | true=>rfl
 | false =>
   by_cases hl:zQ inW s a-a<=12
   . have hl2:¬zQ inW s a-a > 12:=(by omega);simp[hl,hl2,Tk.cval,zaw,ck,cs,cn]
   have hl2:zQ inW s a-a > 12:=(by omega);simp[hl,hl2,Tk.cval,zaw,ck,cs,cn]
theorem znr (s:Xb)(a:Nat)(ha:a<=s.size):∀f i x,zdt (s.extract a s.size) f i x=zdt s f (a+i) x:=by
 intro f;induction f with
 | zero=>intro i x;rfl
 | succ f ih =>
   intro i x
   show (if i<(s.extract a s.size).size/\zT (bt (s.extract a s.size) i)=true then _ else x)=(if a+i<s.size/\zT (bt s (a+i))=true then _ else x);rw[zbN s a ha,zfd s a i ha];by_cases h:i<s.size-a/\zT (bt s (a+i))=true
   . rw[zM2 h,zM2 (show a+i<s.size/\zT (bt s (a+i))=true from ⟨by omega,h.2⟩),ih (i+1)];rfl
   rw[zM1 h,zM1 (show ¬(a+i<s.size/\zT (bt s (a+i))=true) from λh2=>h ⟨by omega,h2.2⟩)]
theorem zpa (s:Xb)(a:Nat)(ha:a<=s.size):zlt (s.extract a s.size) a=(zgc s a).cval s:=by
 have h1:=zf3 zT s a ha;have h2:=zcr zT s a ha;obtain⟨n,hn⟩:∃n,zQ zT (s.extract a s.size) 0=n:=⟨_,rfl⟩;rw[hn] at h1;have hx:(s.extract a s.size).extract 0 n=s.extract a (zQ zT s a):=by rw[zcL s a n (by omega),<- h1];congr 1;omega
 unfold zlt zgc;rw[znr s a ha,zbN s a ha];simp only[hn,hx,Nat.add_zero,Nat.sub_zero];cases hk:(zdt s (s.size-a) a (true,0)).1 with
 | true=>rfl
 | false=>rfl
theorem zod (s:Xb)(a:Nat)(ha:a<s.size):ziQ (s.extract a s.size) a=(zfh s a).cval s:=by
 unfold ziQ zfh;rw[zbN s a (by omega),zfd s a 0 (by omega)];have e1:(s.extract a s.size).extract 0 1=s.extract a (a+1):=zcL s a 1 (by omega);have hcond:(2<=s.size-a/\(((s.extract a s.size).extract 0 2).toList==[45,62]||((s.extract a s.size).extract 0 2).toList==[60,62]||((s.extract a s.size).extract 0 2).toList==[60,61])=true)=(a+2<=s.size/\((s.extract a (a+2)).toList==[45,62]||(s.extract a (a+2)).toList==[60,62]||(s.extract a (a+2)).toList==[60,61])=true):=by
  apply propext;by_cases h2:a+2<=s.size
  . rw[zcL s a 2 h2];constructor <;> (rintro⟨g1,g2⟩;exact⟨by omega,g2⟩)
  constructor <;> (rintro⟨g1,_⟩;omega)
 by_cases hc:(a+2<=s.size/\((s.extract a (a+2)).toList==[45,62]||(s.extract a (a+2)).toList==[60,62]||(s.extract a (a+2)).toList==[60,61])=true)
 . rw[zM2 (hcond▸hc),zM2 hc,zcL s a 2 hc.1];rfl
 rw[zM1 (hcond▸hc),zM1 hc,e1];simp only[Nat.add_zero];split <;> rfl
theorem zi0 (S:Xs)(s:Xb)(p:Nat)(w:Xw)(hs:s.size<=1200)(hp:p<=s.size)(hG:Gl S w):xK 43 #[.string s,xI p] w λe w'=>e=.returned ((zZ s p).cval s)/\xB w w':=by
 have hsz1:=zbN s p hp;have hsp:=zf3 zbY s p hp;have hle:=zdB zbY s p;have hle2:=zcr zbY s p hp;obtain⟨n,hn⟩:∃n,zQ zbY (s.extract p s.size) 0=n:=⟨_,rfl⟩;rw[hn] at hsp;have Hn:=za hn;have HSp:=za (zdv _ zbY zlA zkj (s.extract p s.size) (by omega));rw[hn] at HSp;have HN:Hid (zZ s p=if zQ zbY s p=s.size then ⟨0,zQ zbY s p,zQ zbY s p,⟨#[]⟩,0⟩ else if zeM (bt s (zQ zbY s p)) then zfg s (zQ zbY s p) else if zT (bt s (zQ zbY s p)) then zgc s (zQ zbY s p) else zfh s (zQ zbY s p)):=rfl;generalize zQ zbY s p=q at *;have HG:=za hG;have hpn:IntKind.i64.wrap ((p:Int)+(n:Int))=(q:Nat):=by rw[IntKind.wrap_i64];omega
 have hpn':(p:Int)+(n:Int)=(q:Nat):=by omega
 have hq1200:q<=1200:=by omega
 have hrz:(s.extract q s.size).size=s.size-q:=zbN s q hle2;clear hn hG hsz1;by_cases hq:q=s.size
 . have hem:(s.extract q s.size).toList.isEmpty=true:=by rw[List.isEmpty_iff,<- List.length_eq_zero_iff,zd7,hrz];omega
   rw[zM2 hq] at HN;have Hq:=za hq;clear hq;go_enter func43,ntmps43;go_wp2_with (go_at_call 78;refine (HSp.o _).mono ?_;rintro e w' ⟨rfl,rfl⟩);refine zWR (v:=zaw 1 ⟨#[]⟩ q 0) (by simp[results,results43,go_sem,zaw]) rfl ⟨by rw[HN.o];rfl,(zWQ _ _).alloc (zMK _) _⟩
 have hlt:q<s.size:=by omega
 have hem:(s.extract q s.size).toList.isEmpty=false:=by rw[Bool.eq_false_iff];intro h;rw[List.isEmpty_iff,<- List.length_eq_zero_iff,zd7,hrz] at h;omega
 have hr0:0<(s.extract q s.size).size:=by omega
 have hb0:=ziM hr0;rw[zfd s q 0 hle2,Nat.add_zero] at hb0;have Hb0:=za hb0;rw[zM1 hq] at HN;obtain⟨c,hc⟩:∃c,bt s q=c:=⟨_,rfl⟩;rw[hc] at hb0 HN;have Hc:=za hc;have hrs:(s.extract q s.size).size<=1200:=by omega
 have HWd:=za (znL s q hle2);have HDg:=za (zpa s q hle2);have HSg:=za (zod s q hlt);have HWc:=za (λw1=>znH (s.extract q s.size) hrs q w1);have HSc:=za (λw1=>znT (s.extract q s.size) hrs hr0 q w1);clear hc hq;cases hl:zeM c with
 | true => rw[hl,zM2 rfl] at HN;have Hl:=za hl;clear hl;go_enter func43,ntmps43;go_wp2_with (first|(go_at_call 78;refine (HSp.o _).mono ?_;rintro e w' ⟨rfl,rfl⟩)|(go_at_call 80;refine (zb2 c _).mono ?_;rintro e w' ⟨rfl,rfl⟩;rw[Hl.o]));refine (HWc.o _).mono ?_;rintro e w2 ⟨rfl,hb2⟩;rw[HWd.o];have hh2:=(hb2.block w.heap.size (Nat.lt_of_lt_of_eq (zMV _) (by simp))).trans (zc w _);obtain⟨d0,d1,d2,d3,df,dz⟩:=zU hh2;have Hh2:=za hh2;have Hb2:=za hb2;clear hb2 hh2;simp only[Tk.cval];go_wp2_with fail;refine zWR (v:=(zZ s p).cval s) (by rw[HN.o];exact zb6 rfl rfl (zb7 Hh2.o _ _ _ _)) rfl ⟨rfl,?_⟩;exact (((((zeu Hb2.o).setCell (zMK _) _).setCell (zMK _) _).setCell (zMK _) _).setCell (zMK _) _)
 | false =>
   rw[hl,zM1 (by simp)] at HN;have Hl:=za hl;clear hl;cases hd:zT c with
   | true => rw[hd,zM2 rfl] at HN;have HDc:=za (λw1 h=>zl0 S (s.extract q s.size) hrs hr0 (by rw[zfd s q 0 hle2,Nat.add_zero,Hc.o];exact hd) q w1 h);have Hd:=za hd;have hG1:=HG.o.of (T:=λ_=>False) ((Fr.refl _ w).alloc (.cells #[xI 0,.string ⟨#[]⟩,xI 0,xI 0] 121)) (λ_ h=>h.elim);have HG1:=za hG1;clear hd hG1;go_enter func43,ntmps43;go_wp2_with (first|(go_at_call 78;refine (HSp.o _).mono ?_;rintro e w' ⟨rfl,rfl⟩)|(go_at_call 80;refine (zb2 c _).mono ?_;rintro e w' ⟨rfl,rfl⟩;rw[Hl.o])|(go_at_call 82;refine (zcp c _).mono ?_;rintro e w' ⟨rfl,rfl⟩;rw[Hd.o]));refine (HDc.o _ HG1.o).mono ?_;rintro e w2 ⟨rfl,hb2⟩;rw[HDg.o];have hh2:=(hb2.block w.heap.size (Nat.lt_of_lt_of_eq (zMV _) (by simp))).trans (zc w _);obtain⟨d0,d1,d2,d3,df,dz⟩:=zU hh2;have Hh2:=za hh2;have Hb2:=za hb2;clear hb2 hh2;simp only[Tk.cval];go_wp2_with fail;refine zWR (v:=(zZ s p).cval s) (by rw[HN.o];exact zb6 rfl rfl (zb7 Hh2.o _ _ _ _)) rfl ⟨rfl,?_⟩;exact (((((zeu Hb2.o).setCell (zMK _) _).setCell (zMK _) _).setCell (zMK _) _).setCell (zMK _) _)
   | false => rw[hd,zM1 (by simp)] at HN;have Hd:=za hd;clear hd;go_enter func43,ntmps43;go_wp2_with (first|(go_at_call 78;refine (HSp.o _).mono ?_;rintro e w' ⟨rfl,rfl⟩)|(go_at_call 80;refine (zb2 c _).mono ?_;rintro e w' ⟨rfl,rfl⟩;rw[Hl.o])|(go_at_call 82;refine (zcp c _).mono ?_;rintro e w' ⟨rfl,rfl⟩;rw[Hd.o]));refine (HSc.o _).mono ?_;rintro e w2 ⟨rfl,hb2⟩;rw[HSg.o];have hh2:=(hb2.block w.heap.size (Nat.lt_of_lt_of_eq (zMV _) (by simp))).trans (zc w _);obtain⟨d0,d1,d2,d3,df,dz⟩:=zU hh2;have Hh2:=za hh2;have Hb2:=za hb2;clear hb2 hh2;simp only[Tk.cval];go_wp2_with fail;refine zWR (v:=(zZ s p).cval s) (by rw[HN.o];exact zb6 rfl rfl (zb7 Hh2.o _ _ _ _)) rfl ⟨rfl,?_⟩;exact (((((zeu Hb2.o).setCell (zMK _) _).setCell (zMK _) _).setCell (zMK _) _).setCell (zMK _) _)
theorem zqT (S:Xs)(pb:Nat)(st:St)(s:Xb)(w:Xw)(hR:PL S w pb st):xK 85 #[xP pb,.string s] w λe w'=>e=.returned (.bool (ck st.t==2&&(cs st.src st.t).toList==s.toList))/\w=w':=by
 obtain⟨h0,h1,h2,h3,h4,h5,h6⟩:=hR.cells;clear hR;by_cases hk:ck st.t=2
 . have hk':((ck st.t:Int)==2)=true:=beq_iff_eq.2 (by omega);have H:Hid ((ck st.t==2)=true):=by unfold Hid;simp[hk]
   clear hk;go_enter func85,ntmps85;go_wp2;go_ret;exact⟨by rw[H.o];simp,rfl⟩
 have hk':((ck st.t:Int)==2)=false:=zM0.2 (by omega);have H:Hid ((ck st.t==2)=false):=by unfold Hid;simp[hk]
 clear hk;go_enter func85,ntmps85;go_wp2;go_ret;exact⟨by rw[H.o];rfl,rfl⟩
theorem zi3 (S:Xs)(k:Nat)(a:Nat)(w:Xw):xK 42 #[.iface 290 (.pointer (some (S k))),xI a] w λe w'=>e=.returned (.agg #[.iface 290 (.pointer (some (S k))),xI a])/\xB w w':=by go_enter func42,ntmps42;go_wp2;exact zWR (v:=.agg #[.iface 290 (.pointer (some (S k))),xI a]) (by simp[results,results42,go_sem]) rfl ⟨rfl,(zWQ _ _).alloc (zMK _) _⟩
theorem zc5 (S:Xs)(pb:Nat)(st:St)(e:Nat)(He:e≠0)(w:Xw)(HR:PL S w pb st):xK 87 #[xP pb,.iface 290 (.pointer (some (S e)))] w λe' w'=>e'=.returned (.tuple #[])/\PL S w' pb (st.fail e st.t.a)/\Fr (·=pb) w w':=by
 have hf:=HR.frozen;have hlt:=HR.lt;obtain⟨h0,h1,h2,h3,h4,h5,h6⟩:=HR.cells;by_cases hr:st.er=0
 . have HE:Hid (st.fail e st.t.a={ st with er:=e,at':=st.t.a,t:=⟨1,st.t.a,st.t.t,⟨#[]⟩,0⟩ }):=by unfold Hid St.fail;rw[zM2 hr]
   rw[show za2 S st.er st.at'=.nilIface by simp[za2,hr]] at h6;clear hr;go_enter func87,ntmps87;go_wp2_with (go_at_call 42;refine (zi3 S _ _ _).mono ?_;rintro e1 w1 ⟨rfl,Hb1⟩;obtain⟨hc1,hf1⟩:=zoV Hb1;have hz1:=Hb1.size);go_end0;refine⟨rfl,?_,?_⟩
   . have P:=((HR.below Hb1).setErr e st.t.a).setTok ⟨1,st.t.a,st.t.t,⟨#[]⟩,0⟩ (zl7 _ _ _);rw[show za2 S e st.t.a=.iface 59 (.agg #[sen S e,xI st.t.a]) by simp[za2,He]] at P;rw[HE.o];exact P
   exact (((((((Fr.refl _ w).belowed Hb1).set1 _ _).set1 _ _).set1 _ _).set1 _ _).set1 _ _)
 have HE:Hid (st.fail e st.t.a={ st with t:=⟨1,st.t.a,st.t.t,⟨#[]⟩,0⟩ }):=by unfold Hid St.fail;rw[zM1 hr]
 rw[show za2 S st.er st.at'=.iface 59 (.agg #[sen S st.er,xI st.at']) by simp[za2,hr]] at h6;clear hr;go_enter func87,ntmps87;go_wp2;go_end0;refine⟨rfl,?_,?_⟩
 . rw[HE.o];exact HR.setTok ⟨1,st.t.a,st.t.t,⟨#[]⟩,0⟩ (zl7 _ _ _)
 exact ((((Fr.refl _ w).set1 _ _).set1 _ _).set1 _ _).set1 _ _
theorem zmj (S:Xs)(s:Xb)(pi:Int)(p:Nat)(hpi:pi=p)(w:Xw)(hs:s.size<=1200)(hp:p<=s.size)(hG:Gl S w):xK 43 #[.string s,xI pi] w λe w'=>e=.returned ((zZ s p).cval s)/\xB w w':=by subst hpi;exact zi0 S s p w hs hp hG
theorem zb9 (S:Xs)(pb:Nat)(st:St)(w:Xw)(hO:st.Ok)(hk:2<=st.t.k)(hR:PL S w pb st):xK 155 #[xP pb] w λe' w'=>e'=.returned (st.t.cval st.src)/\PL S w' pb { st with t:=zZ st.src st.t.t }/\Fr (·=pb) w w':=by
 have hf:=hR.frozen;have hlt:=hR.lt;have hne:¬w.heap.size=pb:=by omega
 have hne':¬pb=w.heap.size:=by omega
 obtain⟨h0,h1,h2,h3,h4,h5,h6⟩:=hR.cells;have g1:=hO.src;have g2:=hO.tt;have g3:=hO.ta;have hz:(cs st.src st.t).size=st.t.t-st.t.a:=by rw[zrl hR.tx,zM2 hk,ByteArray.size_extract];omega
 have hpi:IntKind.i64.wrap ((st.t.a:Int)+((cs st.src st.t).size:Int))=(st.t.t:Nat):=by rw[hz,IntKind.wrap_i64];omega
 have HZ:=za hpi;have hcz:(cs st.src st.t).size<=1200:=by omega
 have HR:=za hR;have HO:=za hO;clear hR hO hk hz hpi;generalize hcs:cs st.src st.t=C at *;go_enter func155,ntmps155;go_wp2_with fail;go_region_with (go_at_call 43;refine (zmj S _ _ st.t.t HZ.o _ HO.o.src HO.o.tt (((HR.o.alloc _).alloc _).drew.gl)).mono ?_;rintro e w1 ⟨rfl,hb1⟩;replace hb1:=zw hb1;have HL1:Hid (PL S w1 pb st):=((HR.o.alloc _).alloc _).below hb1;have HF1:Hid (Fr (·=pb) w w1):=(((Fr.refl _ _).alloc _).alloc _).belowed hb1;obtain⟨g0,g1,g2,g3,g4,g5,g6⟩:=HL1.o.cells;have gf:=HL1.o.frozen;have hlt1:=HL1.o.lt;have Hb1:=za hb1;obtain⟨hc1,hf1⟩:=zoV hb1;have hz1:=hb1.size;clear hb1;simp only[Tk.cval])
 all_goals go_wp2_with fail
 all_goals
  have hh:xH w1 w.heap.size #[xI 0,.string ⟨#[]⟩,xI 0,xI 0] 121:=(Hb1.o.block _ (by simp;omega)).trans ((zWP _ _ _ (by simp)).trans (zc _ _));refine zWR (v:=st.t.cval st.src) (by unfold Tk.cval;rw[hcs];exact zb6 rfl rfl (zb7 (zr hne (zr hne (zr hne (zr hne hh)))) _ _ _ _)) rfl ⟨rfl,?_,?_⟩
  . generalize hT:zZ st.src st.t.t=T;have ht:=zkH st.src st.t.t;rw[hT] at ht
    (repeat (with_reducible refine PL.setOther ?_ hlt _ _));exact HL1.o.setTok T ht
  (repeat (first|with_reducible refine Fr.setNew ?_ (zMK _) _ _|with_reducible refine Fr.set1 ?_ _ _));exact HF1.o
end
section
variable {M part:Fn} {l:Xu} {a d e k lv p:Nat} {st:St} {t:Tk}
def zv (d:Nat)(M:Fn):Prop:=∀(st:St) (p:Nat),Inv p st->18<=st.op+d->zaN M st p
theorem Inv.is_ok (h:Inv p st)(hk:k≠1)(hi:st.is k l=true):st.er=0:=by
 by_cases he:st.er=0
 . exact he
 have:=h.bad he;simp[St.is,this] at hi;omega
theorem Inv.is_k (hi:st.is k l=true):st.t.k=k:=by simp[St.is] at hi;exact hi.1
theorem St.enter_op:st.enter.op=st.op+1:=by
 unfold St.enter;split
 . unfold St.fail;split <;> rfl
 unfold St.step;split <;> rfl
theorem St.fail_op (st:St)(e a:Nat):(st.fail e a).op=st.op:=by unfold St.fail;split <;> rfl
theorem St.fail_src (st:St)(e a:Nat):(st.fail e a).src=st.src:=by unfold St.fail;split <;> rfl
theorem St.fail_ta (st:St)(e a:Nat):(st.fail e a).t.a=st.t.a:=by unfold St.fail;split <;> rfl
theorem St.fail_er (st:St)(he:e≠0):(st.fail e a).er≠0:=by unfold St.fail;split <;> simp[*]
theorem St.step_op (st:St):st.step.op=st.op:=by unfold St.step;split <;> rfl
theorem St.step_er (st:St):st.step.er=st.er:=by unfold St.step;split <;> rfl
theorem St.step_bad (h:st.er≠0):st.step=st:=by unfold St.step;rw[zM1 h]
theorem St.step_ok (h:st.er=0):st.step={ st with t:=zZ st.src st.t.t }:=by unfold St.step;rw[zM2 h]
structure Fwd (p:Nat) (st st':St):Prop where
 inv:Inv p st'
 src:st'.src=st.src
 ta:st.t.a<=st'.t.a
 L:∃E,st'.L=st.L++E
 er:st.er≠0->st'.er≠0
theorem Fwd.refl (h:Inv p st):Fwd p st st:=⟨h,rfl,zMK _,⟨[],by simp⟩,λh=>h⟩
theorem Fwd.trans {q:Nat}{a b c:St}(h:Fwd p a b)(k:Fwd q b c):Fwd q a c:=by obtain⟨E,hE⟩:=h.L;obtain⟨E',hE'⟩:=k.L;exact⟨k.inv,k.src.trans h.src,zMO h.ta k.ta,⟨E++E',by rw[hE',hE,zMQ]⟩,λe=>k.er (h.er e)⟩
theorem Fwd.use (h:Inv p st)(he:st.er=0)(hk:2<=st.t.k):Fwd (p+1) st st.step:=by
 have hf:=zV st.src st.t.t h.ok.tt;have h1:=h.pot;have h2:=h.tok hk;rw[zM2 he] at h1;have hok:=h.ok.step;rw[St.step_ok he] at hok ⊢;refine⟨⟨hok,?_,h.op1,h.op0,λh=>absurd he h,hf.2.2.2.2.2⟩,rfl,?_,⟨[],by simp⟩,λh=>h⟩
 . simp only[he,zM2];omega
 simp only;omega
theorem Fwd.step (h:Inv p st):Fwd p st st.step:=by
 by_cases he:st.er=0
 . have hf:=zV st.src st.t.t h.ok.tt;have h1:=h.pot;have h2:=h.ok.ta;rw[zM2 he] at h1;have hok:=h.ok.step;rw[St.step_ok he] at hok ⊢;refine⟨⟨hok,?_,h.op1,h.op0,λh=>absurd he h,hf.2.2.2.2.2⟩,rfl,?_,⟨[],by simp⟩,λh=>h⟩
   . simp only[he,zM2];omega
   simp only;omega
 rw[St.step_bad he];exact Fwd.refl h
theorem Fwd.fail (h:Inv p st)(h0:e≠0)(he:e<=11)(ha:a<=1200):Fwd p st (st.fail e a):=by
 have h1:=h.pot;refine⟨⟨h.ok.fail he ha,?_,by rw[St.fail_op];exact h.op1,λh2=>absurd h2 (St.fail_er st h0),?_,?_⟩,St.fail_src _ _ _,by rw[St.fail_ta];exact zMK _,⟨[],by rw[St.fail_L];simp⟩,λ_=>St.fail_er st h0⟩
 . rw[St.fail_L,St.fail_ta,zM1 (St.fail_er st h0)];split at h1 <;> omega
 . intro _;unfold St.fail;split <;> rfl
 intro h2;exfalso;unfold St.fail at h2;split at h2 <;> simp at h2
theorem Fwd.must (h:Inv p st)(k:Nat)(l:Xu):Fwd p st (st.must k l):=by
 unfold St.must;split
 . exact Fwd.step h
 exact Fwd.fail h (by omega) (by omega) h.ok.ta_le
theorem Fwd.name (h:Inv p st):Fwd p st st.name:=by
 unfold St.name;split
 . exact Fwd.step h
 exact Fwd.fail h (by omega) (by omega) h.ok.ta_le
theorem St.must_op (st:St)(k:Nat)(l:Xu):(st.must k l).op=st.op:=by unfold St.must;split;exact st.step_op;exact st.fail_op _ _
theorem St.name_op (st:St):st.name.op=st.op:=by unfold St.name;split;exact st.step_op;exact st.fail_op _ _
theorem Fwd.enter (h:Inv p st)(he:st.er=0)(hk:2<=st.t.k):Fwd (p+1) st st.enter:=by
 have h1:=h.pot;have h2:=h.op0 he;have h3:=h.tok hk;have h4:=h.op1;rw[zM2 he] at h1;have hok:=h.ok.enter (by omega);have hf:=zV st.src st.t.t h.ok.tt;unfold St.enter at hok ⊢;split at hok
 . rename_i hc
   rw[zM2 hc];refine⟨⟨hok,?_,?_,λh=>absurd h (St.fail_er _ (by omega)),λ_=>?_,λh=>?_⟩,St.fail_src _ _ _,by rw[St.fail_ta];exact zMK _,⟨[],by rw[St.fail_L];simp⟩,λ_=>St.fail_er _ (by omega)⟩
   . rw[St.fail_L,St.fail_ta,zM1 (St.fail_er _ (by omega))];simp only;omega
   . rw[St.fail_op];simp only;omega
   . unfold St.fail;split <;> rfl
   exfalso;unfold St.fail at h;split at h <;> simp at h
 rename_i hc
 rw[zM1 hc];rw[St.step_ok (show ({ st with op:=st.op+1 }:St).er=0 from he)] at hok ⊢;refine⟨⟨hok,?_,?_,λ_=>?_,λh=>absurd he h,hf.2.2.2.2.2⟩,rfl,?_,⟨[],by simp⟩,λh=>h⟩
 . simp only[he,zM2];omega
 . simp only;omega
 . simp only;omega
 simp only;omega
theorem Fwd.leave (h:Inv p st):Fwd p st st.leave:=by
 refine⟨⟨h.ok.leave,h.pot,?_,?_,h.bad,h.tok⟩,rfl,zMK _,⟨[],by simp[St.leave]⟩,λh=>h⟩
 . have:=h.op1;unfold St.leave;simp only;omega
 intro he;have:=h.op0 he;unfold St.leave;simp only;omega
theorem Fwd.put (h:Inv (p+1) st)(e:Ex):Fwd p st (st.put e).1:=by refine⟨⟨h.ok.add e,?_,h.op1,h.op0,h.bad,h.tok⟩,rfl,zMK _,⟨[e],rfl⟩,λh=>h⟩;have:=h.pot;simp only[St.put,St.add,zMM,zMR,zNb];split at this <;> simp_all <;> omega
theorem zaN.fwd (h:zaN M st p):Fwd p st (M st).1:=⟨h.inv,h.src,h.ta,h.L,λe=>by rw[h.er e];exact e⟩
theorem zaN.of_fwd (he:st.er=0)(h:Fwd p st (M st).1)(ho:(M st).1.op=st.op)(hn:(M st).1.er=0->(M st).2<(M st).1.L.length):zaN M st p :=
 ⟨h.inv,ho,h.src,h.ta,h.L,λe=>absurd he e,hn⟩
theorem zgp (st:St)(e:Ex):(st.put e).2<(st.put e).1.L.length:=by simp[St.put,St.add]
theorem zgS {n:Nat}(h:zco t n=true):2<=t.k:=by
 unfold zco at h;split at h
 . cases h
 omega
theorem zl8 (hP:zv d part):∀(f p:Nat) (x:St×Nat),Inv p x.1->18<=x.1.op+d->(x.1.er=0->x.2<x.1.L.length) ->
 Fwd p x.1 (zdq lv part f x).1/\(zdq lv part f x).1.op=x.1.op/\((zdq lv part f x).1.er=0->(zdq lv part f x).2<(zdq lv part f x).1.L.length)/\(x.1.er≠0->zdq lv part f x=x):=by
 intro f;induction f with
 | zero=>intro p x hI _ hn;exact⟨Fwd.refl hI,rfl,hn,λ_=>rfl⟩
 | succ f ih =>
   intro p x hI ho hn
   show Fwd p x.1 (if _ then _ else x).1/\(if _ then _ else x).1.op=x.1.op/\((if _ then _ else x).1.er=0->(if _ then _ else x).2<(if _ then _ else x).1.L.length)/\(x.1.er≠0->(if _ then _ else x)=x);by_cases hc:x.1.er=0/\zco x.1.t lv=true
   . rw[zM2 hc];have h1:=Fwd.use hI hc.1 (zgS hc.2);have h2:=hP x.1.step (p+1) h1.inv (by rw[St.step_op];exact ho);have h3:=Fwd.put h2.inv ⟨x.1.t.s,x.1.t.a,0,[x.2,(part x.1.step).2],sE,0⟩;have ho3:(((part x.1.step).1.put ⟨x.1.t.s,x.1.t.a,0,[x.2,(part x.1.step).2],sE,0⟩).1).op=x.1.op:=h2.op.trans (St.step_op _);have h4:=ih p _ h3.inv (by rw[ho3];exact ho) (λ_=>zgp _ _);exact⟨((h1.trans h2.fwd).trans h3).trans h4.1,h4.2.1.trans ho3,h4.2.2.1,λe=>absurd hc.1 e⟩
   rw[zM1 hc];exact⟨Fwd.refl hI,rfl,hn,λ_=>rfl⟩
theorem zcF (hP:zv d part):zv d (zcT lv part):=by
 intro st p hI ho;have h1:=hP st p hI ho;have h2:=zl8 (lv:=lv) hP 1300 p (part st) h1.inv (by rw[h1.op];exact ho) h1.num;refine⟨h2.1.inv,h2.2.1.trans h1.op,h2.1.src.trans h1.src,zMO h1.ta h2.1.ta,(h1.fwd.trans h2.1).L,λe=>?_,h2.2.2.1⟩;have e1:=h1.er e
 show zdq lv part 1300 (part st)=(st,_);rw[h2.2.2.2 (by rw[e1];exact e)];exact Prod.ext (by rw[e1]) (by show _=(zdq lv part 1300 (part st)).2;rw[h2.2.2.2 (by rw[e1];exact e)])
theorem znN (h:zcn t=true):2<=t.k:=by simp[zcn] at h;omega
theorem zh6 {sum:Fn}(hP:zv d sum):zv d (zdJ sum):=by
 intro st p hI ho;have h1:=hP st p hI ho;by_cases hc:(sum st).1.er=0/\zcn (sum st).1.t=true
 . have e:zdJ sum st=(sum (sum st).1.step).1.put ⟨(sum st).1.t.s,(sum st).1.t.a,0,[(sum st).2,(sum (sum st).1.step).2],sE,0⟩:=by unfold zdJ;simp only;rw[zM2 hc]
   have h2:=Fwd.use h1.inv hc.1 (znN hc.2);have h3:=hP _ (p+1) h2.inv (by rw[St.step_op,h1.op];exact ho);have h4:=Fwd.put h3.inv ⟨(sum st).1.t.s,(sum st).1.t.a,0,[(sum st).2,(sum (sum st).1.step).2],sE,0⟩;have he:st.er=0:=by
    by_cases he:st.er=0
    . exact he
    exact absurd hc.1 (h1.fwd.er he)
   refine zaN.of_fwd he ?_ ?_ ?_
   . rw[e];exact ((h1.fwd.trans h2).trans h3.fwd).trans h4
   . rw[e];exact (h3.op.trans (St.step_op _)).trans h1.op
   rw[e];exact λ_=>zgp _ _
 have e:zdJ sum st=sum st:=by unfold zdJ;simp only;rw[zM1 hc]
 exact⟨by rw[e];exact h1.inv,by rw[e];exact h1.op,by rw[e];exact h1.src,by rw[e];exact h1.ta,by rw[e];exact h1.L,by rw[e];exact h1.er,by rw[e];exact h1.num⟩
end
section
variable {M atm rx:Fn} {d p:Nat} {st:St}
theorem zaN.same {N:Fn}(h:zaN N st p)(e:M st=N st):zaN M st p :=
 ⟨by rw[e];exact h.inv,by rw[e];exact h.op,by rw[e];exact h.src,by rw[e];exact h.ta,by rw[e];exact h.L,by rw[e];exact h.er,by rw[e];exact h.num⟩
theorem zaN.of_put {s1:St}{e:Ex}(he:st.er=0)(hM:M st=s1.put e)(h:Fwd (p+1) st s1)(ho:s1.op=st.op):zaN M st p:=by
 refine zaN.of_fwd he ?_ ?_ ?_
 . rw[hM];exact h.trans (Fwd.put h.inv e)
 . rw[hM];exact ho
 rw[hM];exact λ_=>zgp _ _
theorem zfk (op:Xb)(n:Nat)(hI:Inv p st)(he:st.er=0)(hk:2<=st.t.k):zaN (zdP op n) st p :=
 zaN.of_put he rfl (Fwd.use hI he hk) (St.step_op _)
theorem zjD (hI:Inv p st)(he:st.er=0)(hk:2<=st.t.k):zaN zjx st p :=
 zaN.of_put he rfl (Fwd.use hI he hk) (St.step_op _)
theorem St.leave_op (st:St):st.leave.op=st.op-1:=rfl
theorem zhu {ru smp:Fn}(hU:zv d ru)(hS:zv (d+1) smp):zv (d+1) (zdn ru smp):=by
 intro st p hI ho;by_cases hc:st.er=0/\(st.is 4 [45]||st.is 5 [110,111,116])=true
 . have hk:2<=st.t.k:=by
    rcases Bool.or_eq_true_iff.1 hc.2 with h|h
    . have:=Inv.is_k h;omega
    have:=Inv.is_k h;omega
   have h1:=Fwd.enter hI hc.1 hk;have h2:=hU st.enter (p+1) h1.inv (by rw[St.enter_op];omega);have h3:=Fwd.leave h2.inv;refine zaN.of_put hc.1 (by unfold zdn;rw[zM2 hc]) ((h1.trans h2.fwd).trans h3) ?_;rw[St.leave_op,h2.op,St.enter_op];rfl
 exact (hS st p hI ho).same (by unfold zdn;rw[zM1 hc])
theorem zok (h:zdi st=true):2<=st.t.k:=by
 rcases Bool.or_eq_true_iff.1 h with h|h
 . have:=Inv.is_k h;omega
 have:=Inv.is_k h;omega
theorem ziC:∀(f p:Nat) (x:St×Nat),Inv p x.1->(x.1.er=0->x.2<x.1.L.length) ->
 Fwd p x.1 (zaY f x).1/\(zaY f x).1.op=x.1.op/\((zaY f x).1.er=0->(zaY f x).2<(zaY f x).1.L.length)/\(x.1.er≠0->zaY f x=x):=by
 intro f;induction f with
 | zero=>intro p x hI hn;exact⟨Fwd.refl hI,rfl,hn,λ_=>rfl⟩
 | succ f ih =>
   intro p x hI hn
   show Fwd p x.1 (if _ then _ else x).1/\(if _ then _ else x).1.op=x.1.op/\((if _ then _ else x).1.er=0->(if _ then _ else x).2<(if _ then _ else x).1.L.length)/\(x.1.er≠0->(if _ then _ else x)=x);by_cases hc:x.1.er=0/\zdi x.1=true
   . rw[zM2 hc];have h1:=Fwd.use hI hc.1 (zok hc.2);have h2:=Fwd.name h1.inv;have h3:=Fwd.put h2.inv ⟨x.1.t.s,x.1.t.a,x.1.step.t.a,[x.2],x.1.step.t.s,0⟩;have ho3:((x.1.step.name.put ⟨x.1.t.s,x.1.t.a,x.1.step.t.a,[x.2],x.1.step.t.s,0⟩).1).op=x.1.op:=(St.name_op _).trans (St.step_op _);have h4:=ih p _ h3.inv (λ_=>zgp _ _);exact⟨((h1.trans h2).trans h3).trans h4.1,h4.2.1.trans ho3,h4.2.2.1,λe=>absurd hc.1 e⟩
   rw[zM1 hc];exact⟨Fwd.refl hI,rfl,hn,λ_=>rfl⟩
theorem zfY (hP:zv d atm):zv d (zfu atm):=by
 intro st p hI ho;have h1:=hP st p hI ho;have h2:=ziC 1300 p (atm st) h1.inv h1.num;refine⟨h2.1.inv,h2.2.1.trans h1.op,h2.1.src.trans h1.src,zMO h1.ta h2.1.ta,(h1.fwd.trans h2.1).L,λe=>?_,h2.2.2.1⟩;have e1:=h1.er e
 show zaY 1300 (atm st)=(st,_);rw[h2.2.2.2 (by rw[e1];exact e)];exact Prod.ext (by rw[e1]) (by show _=(zaY 1300 (atm st)).2;rw[h2.2.2.2 (by rw[e1];exact e)])
theorem zln (hP:zv d rx):∀(f p:Nat) (x:St×List Nat),Inv p x.1->18<=x.1.op+d->x.2.length<=x.1.t.a ->
 Fwd p x.1 (zc1 rx f x).1/\(zc1 rx f x).1.op=x.1.op/\(zc1 rx f x).2.length<=(zc1 rx f x).1.t.a:=by
 intro f;induction f with
 | zero=>intro p x hI _ hl;exact⟨Fwd.refl hI,rfl,hl⟩
 | succ f ih =>
   intro p x hI ho hl
   show Fwd p x.1 (if _ then _ else x).1/\(if _ then _ else x).1.op=x.1.op/\(if _ then _ else x).2.length<=(if _ then _ else x).1.t.a;by_cases hc:x.1.er=0/\x.1.is 4 [44]=true
   . rw[zM2 hc];have hk:=Inv.is_k hc.2;have h0:=Fwd.use hI hc.1 (by omega);have hta:x.1.t.a+1<=x.1.step.t.a:=(by have:=hI.tok (by omega);rw[St.step_ok hc.1];have hf:=zV x.1.src x.1.t.t hI.ok.tt;simp only;omega);have h1:=Fwd.step hI;have h2:=hP x.1.step p h1.inv (by rw[St.step_op];exact ho);have h4:=ih p ((rx x.1.step).1,x.2++[(rx x.1.step).2]) h2.inv (by rw[h2.op,St.step_op];exact ho) (by have:=h2.ta;simp only[zMM,zMR,zNb];omega);exact⟨(h1.trans h2.fwd).trans h4.1,h4.2.1.trans (h2.op.trans (St.step_op _)),h4.2.2⟩
   rw[zM1 hc];exact⟨Fwd.refl hI,rfl,hl⟩
theorem zid (hP:zv d rx)(hI:Inv p st)(ho:18<=st.op+d)(ha:1<=st.t.a):Fwd p st (zbG rx st).1/\(zbG rx st).1.op=st.op/\(zbG rx st).2.length<=(zbG rx st).1.t.a:=by have h1:=hP st p hI ho;have h2:=zln hP 1300 p ((rx st).1,[(rx st).2]) h1.inv (by rw[h1.op];exact ho) (by have:=h1.ta;simp only[zMR,zNb];omega);exact⟨h1.fwd.trans h2.1,h2.2.1.trans h1.op,h2.2.2⟩
theorem zis (hP:zv d rx)(t:Tk)(hI:Inv p st)(he:st.er=0)(ho:18<=st.op+(d+1))(ha:1<=st.t.a):zaN (zao rx t) st p:=by
 by_cases hc:st.is 4 [40]=true
 . have hk:=Inv.is_k hc;have h1:=Fwd.enter hI he (by omega);have h2:=zid hP h1.inv (by rw[St.enter_op];omega) (zMO ha h1.ta);have h3:=Fwd.must h2.1.inv 4 [41];have h4:=Fwd.leave h3.inv;refine zaN.of_put he (by unfold zao;rw[zM2 hc]) (((h1.trans h2.1).trans h3).trans h4) ?_;rw[St.leave_op,St.must_op,h2.2.1,St.enter_op];rfl
 have e:zao rx t st=(st.fail 2 st.t.a,0):=by unfold zao;rw[zM1 hc]
 refine zaN.of_fwd he ?_ ?_ ?_
 . rw[e];exact Fwd.fail hI (by omega) (by omega) hI.ok.ta_le
 . rw[e];exact St.fail_op _ _ _
 rw[e];exact λh=>absurd h (St.fail_er st (by omega))
theorem zj7 (hP:zv d rx)(hI:Inv p st)(he:st.er=0)(hk:2<=st.t.k)(ho:18<=st.op+(d+1)):zaN (zdx rx) st p:=by
 have h1:=Fwd.enter hI he hk;have o1:st.enter.op=st.op+1:=St.enter_op;have h2:=hP st.enter (p+1) h1.inv (by rw[o1];omega);have h3:=Fwd.must h2.inv 5 [116,104,101,110];have o3:((rx st.enter).1.must 5 [116,104,101,110]).op=st.op+1:=by rw[St.must_op,h2.op,o1]
 have h4:=hP _ (p+1) h3.inv (by rw[o3];omega);have h5:=Fwd.must h4.inv 5 [101,108,115,101];have o5:((rx ((rx st.enter).1.must 5 [116,104,101,110])).1.must 5 [101,108,115,101]).op=st.op+1:=by rw[St.must_op,h4.op,o3]
 have h6:=hP _ (p+1) h5.inv (by rw[o5];omega);have h7:=Fwd.leave h6.inv;refine zaN.of_put he rfl ((((((h1.trans h2.fwd).trans h3).trans h4.fwd).trans h5).trans h6.fwd).trans h7) ?_;rw[St.leave_op,h6.op,o5];rfl
theorem zf0 (hP:zv d atm):zv d (zch atm):=by
 intro st p hI ho;by_cases hc:st.er≠0∨st.t.k≠2
 . exact (hP st p hI ho).same (by unfold zch;rw[zM2 hc])
 exact (zjD hI (by omega) (by omega)).same (by unfold zch;rw[zM1 hc])
theorem zlU (hP:zv d atm)(hI:Inv p st)(he:st.er=0)(hk:2<=st.t.k)(ho:18<=st.op+(d+1)):zaN (zeE atm) st p:=by have h1:=Fwd.enter hI he hk;have h2:=Fwd.name h1.inv;have o2:st.enter.name.op=st.op+1:=(St.name_op _).trans St.enter_op;have h3:=zf0 hP st.enter.name (p+1) h2.inv (by rw[o2];omega);have h4:=zf0 hP _ (p+1) h3.inv (by rw[h3.op,o2];omega);have h5:=Fwd.leave h4.inv;refine zaN.of_put he rfl ((((h1.trans h2).trans h3.fwd).trans h4.fwd).trans h5) ?_;rw[St.leave_op,h4.op,h3.op,o2];rfl
theorem zlu (hP:zv d rx)(hI:Inv p st)(he:st.er=0)(hk:2<=st.t.k)(ho:18<=st.op+(d+1)):zaN (zfQ rx) st p:=by
 have h1:=Fwd.enter hI he hk;have h2:=hP st.enter (p+1) h1.inv (by rw[St.enter_op];omega);have h3:=Fwd.must h2.inv 4 [41];have h4:=Fwd.leave h3.inv;have hf:=((h1.trans h2.fwd).trans h3).trans h4;refine zaN.of_fwd he ⟨⟨hf.inv.ok,?_,hf.inv.op1,hf.inv.op0,hf.inv.bad,hf.inv.tok⟩,hf.src,hf.ta,hf.L,hf.er⟩ ?_ ?_
 . exact zMO (Nat.add_le_add_left (Nat.le_succ p) _) hf.inv.pot
 . show ((rx st.enter).1.must 4 [41]).leave.op=_;rw[St.leave_op,St.must_op,h2.op,St.enter_op];rfl
 intro hz;have hz1:((rx st.enter).1.must 4 [41]).er=0:=hz;have hz2:(rx st.enter).1.er=0:=by
  by_cases h:(rx st.enter).1.er=0
  . exact h
  exact absurd hz1 (h3.er h)
 have:=h2.num hz2
 show (rx st.enter).2<((rx st.enter).1.must 4 [41]).leave.L.length
 show (rx st.enter).2<((rx st.enter).1.must 4 [41]).L.length;rw[St.must_L];exact this
theorem zh7 {ra:Fn}(hX:zv d rx)(hA:zv d ra):zv (d+1) (zap rx ra):=by
 intro st p hI ho;by_cases he:st.er=0
 . have hn:¬st.er≠0:=by omega
   have hfail:zaN (λst=>(st.fail 2 st.t.a,0)) st p:=(by refine zaN.of_fwd he (Fwd.fail hI (by omega) (by omega) hI.ok.ta_le) (St.fail_op _ _ _) (λh=>absurd h (St.fail_er st (by omega))));by_cases h3:st.t.k=3
   . exact (zfk zcq st.t.n hI he (by omega)).same (by unfold zap;rw[zM1 hn,zM2 h3])
   by_cases h2:st.t.k=2
   . by_cases hp:st.step.is 4 [40]=true
     . have e1:zap rx ra st=zao rx st.t st.step:=(by unfold zap;rw[zM1 hn,zM1 h3,zM2 h2,zM2 hp]);have hs:=Fwd.step hI;have hta:1<=st.step.t.a:=(by have:=hI.tok (by omega);rw[St.step_ok he];have hf:=zV st.src st.t.t hI.ok.tt;simp only;omega);have hg:=zis hX st.t hs.inv (by rw[St.step_er];exact he) (by rw[St.step_op];omega) hta;have hw:=hs.trans hg.fwd;refine zaN.of_fwd he ?_ ?_ ?_
       . rw[e1];exact hw
       . rw[e1];exact hg.op.trans (St.step_op _)
       rw[e1];exact hg.num
     exact (zjD hI he (by omega)).same (by unfold zap;rw[zM1 hn,zM1 h3,zM2 h2,zM1 hp])
   by_cases c1:st.is 4 [40]=true
   . exact (zlu hX hI he (by have:=Inv.is_k c1;omega) (by omega)).same (by unfold zap;rw[zM1 hn,zM1 h3,zM1 h2,zM2 c1])
   by_cases c2:st.is 5 [116,114,117,101]=true
   . exact (zfk zcb 1 hI he (by have:=Inv.is_k c2;omega)).same (by unfold zap;rw[zM1 hn,zM1 h3,zM1 h2,zM1 c1,zM2 c2])
   by_cases c3:st.is 5 [102,97,108,115,101]=true
   . exact (zfk zcb 0 hI he (by have:=Inv.is_k c3;omega)).same (by unfold zap;rw[zM1 hn,zM1 h3,zM1 h2,zM1 c1,zM1 c2,zM2 c3])
   by_cases c4:st.is 5 [105,102]=true
   . exact (zj7 hX hI he (by have:=Inv.is_k c4;omega) (by omega)).same (by unfold zap;rw[zM1 hn,zM1 h3,zM1 h2,zM1 c1,zM1 c2,zM1 c3,zM2 c4])
   by_cases c5:st.is 5 [109,101,114,103,101]=true
   . exact (zlU hA hI he (by have:=Inv.is_k c5;omega) (by omega)).same (by unfold zap;rw[zM1 hn,zM1 h3,zM1 h2,zM1 c1,zM1 c2,zM1 c3,zM1 c4,zM2 c5])
   exact hfail.same (by unfold zap;rw[zM1 hn,zM1 h3,zM1 h2,zM1 c1,zM1 c2,zM1 c3,zM1 c4,zM1 c5])
 have e:zap rx ra st=(st,0):=by unfold zap;rw[zM2 he]
 exact⟨by rw[e];exact hI,by rw[e],by rw[e],by rw[e];exact zMK _,⟨[],by rw[e];simp⟩,λ_=>by rw[e],λh=>by rw[e] at h;exact absurd h he⟩
theorem zmd {eith:Fn}(hX:zv d rx)(hE:zv (d+1) eith):zv (d+1) (zgk rx eith):=by
 intro st p hI ho;have h1:=hE st p hI ho;by_cases hc:(eith st).1.er=0/\(eith st).1.is 5 [102,98,121]=true
 . have h2:=Fwd.enter h1.inv hc.1 (by have:=Inv.is_k hc.2;omega);have h3:=hX _ (p+1) h2.inv (by rw[St.enter_op,h1.op];omega);have h4:=Fwd.leave h3.inv;have he:st.er=0:=by
    by_cases he:st.er=0
    . exact he
    exact absurd hc.1 (h1.fwd.er he)
   refine zaN.of_put he (by unfold zgk;simp only;rw[zM2 hc]) (((h1.fwd.trans h2).trans h3.fwd).trans h4) ?_;rw[St.leave_op,h3.op,St.enter_op,h1.op];rfl
 exact h1.same (by unfold zgk;simp only;rw[zM1 hc])
theorem zgP:∀d,zv d (lev d).ex/\zv d (lev d).un/\zv d (lev d).at':=by
 intro d;induction d with
 | zero =>
   have h:∀M:Fn,zv 0 M:=λM st p hI ho=>by have:=hI.op1;omega
   exact⟨h _,h _,h _⟩
 | succ d ih => have ha:=zh7 ih.1 ih.2.2;have hu:=zhu ih.2.1 (zfY ha);exact⟨zmd ih.1 (zcF (zcF (zh6 (zcF (zcF hu))))),hu,ha⟩
end
section
open Go.RowKit
variable {st:St}
theorem zaP (S:Xs)(pb:Nat)(st:St)(s:Xb)(l:Xu)(hl:s.toList=l)(w:Xw)(hk:st.t.k<=5)(hR:PL S w pb st):xK 85 #[xP pb,.string s] w λe w'=>e=.returned (.bool (st.atB l))/\w=w':=by subst hl;have:=zqT S pb st s w hR;rwa [zqP hk] at this
structure Bad (st:St):Prop where
 bad:st.er≠0->st.t.k=1
 ok:st.Ok
theorem Bad.er (h:Bad st)(hk:st.t.k≠1):st.er=0:=by
 by_cases he:st.er=0
 . exact he
 exact absurd (h.bad he) hk
theorem Bad.step (h:Bad st):Bad st.step:=by
 refine⟨λhe=>?_,h.ok.step⟩;unfold St.step at he ⊢;split
 . rename_i h0;rw[zM2 h0] at he;exact absurd h0 he
 rename_i h0;exact h.bad h0
theorem Bad.fail (h:Bad st){e:Nat}(he:e<=11):Bad (st.fail e st.t.a):=by refine⟨λ_=>?_,h.ok.fail he h.ok.ta_le⟩;unfold St.fail;split <;> rfl
theorem Bad.must (h:Bad st)(k:Nat)(l:Xu):Bad (st.must k l):=by
 unfold St.must;split
 . exact h.step
 exact h.fail (by omega)
theorem Bad.name (h:Bad st):Bad st.name:=by
 unfold St.name;split
 . exact h.step
 exact h.fail (by omega)
theorem Inv.toBad {p:Nat}(h:Inv p st):Bad st:=⟨h.bad,h.ok⟩
theorem zoY {l:Xu}(h:st.atB l=true):4<=st.t.k:=by unfold St.atB at h;simp only[Bool.and_eq_true,Bool.or_eq_true,beq_iff_eq] at h;omega
theorem zc8 (h:Bad st)(hk:st.t.k≠1):({ st with t:=zZ st.src st.t.t }:St)=st.step:=by unfold St.step;rw[zM2 (h.er hk)]
def St.skipM (st:St)(l:Xu):St:=if st.atB l=true then st.step else st
theorem zbg (S:Xs)(pb:Nat)(st:St)(s:Xb)(l:Xu)(hl:s.toList=l)(w:Xw)(HB:Bad st)(HR:PL S w pb st):xK 131 #[xP pb,.string s] w λe w'=>e=.returned (.bool (st.atB l))/\PL S w' pb (st.skipM l)/\Fr (·=pb) w w':=by
 have HA:=za (zaP S pb st s l hl w HB.ok.tk HR);clear hl;cases hb:st.atB l with
 | true => have HE:st.skipM l={ st with t:=zZ st.src st.t.t }:=(by unfold St.skipM;rw[zM2 hb,zc8 HB (by have:=zoY hb;omega)]);have Hk:=za (zoY hb);rw[hb] at HA;clear hb;go_enter func131,ntmps131;go_wp2_with (first|(go_at_call 85;refine HA.o.mono ?_;rintro e w' ⟨rfl,rfl⟩)|(go_at_call 155;refine (zb9 S pb st _ HB.ok (zMO (by decide) Hk.o) HR).mono ?_;rintro e w1 ⟨rfl,HL1,HF1⟩));go_ret;exact⟨rfl,by rw[HE];exact HL1,HF1⟩
 | false => have HE:st.skipM l=st:=(by unfold St.skipM;rw[zM1 (by rw[hb];simp)]);rw[hb] at HA;clear hb;go_enter func131,ntmps131;go_wp2_with (go_at_call 85;refine HA.o.mono ?_;rintro e w' ⟨rfl,rfl⟩);go_ret;exact⟨rfl,by rw[HE];exact HR,Fr.refl _ _⟩
end
section
open Go.RowKit
variable {l:Xu} {st:St}
def St.expM (st:St)(l:Xu):St:=if st.atB l=true then st.step else st.fail 2 st.t.a
theorem zan (hT:Tx st.src st.t)(hl:(zdX.any λx=>l==x)=false):st.expM l=st.must 4 l:=by unfold St.expM St.must;rw[zaB hT hl]
theorem ze6 (hT:Tx st.src st.t)(hl:(zdX.any λx=>l==x)=true):st.expM l=st.must 5 l:=by unfold St.expM St.must;rw[zar hT hl]
theorem zP (S:Xs)(pb:Nat)(st:St)(s:Xb)(l:Xu)(hl:s.toList=l)(w:Xw)(hB:Bad st)(hR:PL S w pb st):xK 128 #[xP pb,.string s] w λe w'=>e=.returned (xI st.t.a)/\PL S w' pb (st.expM l)/\Fr (·=pb) w w':=by
 have HA:=za (zbg S pb st s l hl w hB hR);obtain⟨h0,h1,h2,h3,h4,h5,h6⟩:=hR.cells;clear hl hR hB;cases hb:st.atB l with
 | true => have HE:st.expM l=st.skipM l:=(by unfold St.expM St.skipM;rw[zM2 hb,zM2 hb]);rw[hb] at HA;clear hb;go_enter func128,ntmps128;go_wp2_with (go_at_call 131;refine HA.o.mono ?_;rintro e w1 ⟨rfl,HL1,HF1⟩);go_ret;exact⟨rfl,by rw[HE];exact HL1,HF1⟩
 | false => have HE:st.expM l=st.fail 2 st.t.a:=(by unfold St.expM;rw[zM1 (by rw[hb];simp)]);have hS:st.skipM l=st:=(by unfold St.skipM;rw[zM1 (by rw[hb];simp)]);rw[hb,hS] at HA;clear hb hS;go_enter func128,ntmps128;go_wp2_with (first|(go_at_call 87;refine (zc5 S pb st 2 (by decide) _ HL1).mono ?_;rintro e w2 ⟨rfl,HL2,HF2⟩)|(go_at_call 131;refine HA.o.mono ?_;rintro e w1 ⟨rfl,HL1,HF1⟩;have hsyn:xC w1 8 0 (.iface 290 (.pointer (some (S 2)))):=HL1.gl.syn));go_ret;exact⟨rfl,by rw[HE];exact HL2,HF1.trans HF2⟩
theorem zfF {fn:Func}{p:Tmp}(h:fn.results=#[.cell p 84]){tmps:Xa}{b:Nat}{w:Xw}(hp:tmps[p]?.getD undef=xP b){v0 v1:Xv}(hh:xH w b #[v0,v1] 84):(results fn tmps).run prog w=.ok (.agg #[v0,v1]) w:=by obtain⟨c0,c1,_⟩:=zp hh;simp[results,h,hp,go_sem,c0,c1]
def zcc (st:St):Value:=if st.t.k=2 then .agg #[.string st.t.s,xI st.t.a] else .agg #[.string ⟨#[]⟩,xI 0]
theorem zaZ (S:Xs)(pb:Nat)(st:St)(w:Xw)(HB:Bad st)(HR:PL S w pb st):xK 129 #[xP pb] w λe w'=>e=.returned (zcc st)/\PL S w' pb st.name/\Fr (·=pb) w w':=by
 obtain⟨h0,h1,h2,h3,h4,h5,h6⟩:=HR.cells;have hlt:=HR.lt;have hne:¬w.heap.size=pb:=by omega
 by_cases Hk:st.t.k=2
 . have hk':ck st.t=3:=by simp[ck,Hk]
   have HE:st.name={ st with t:=zZ st.src st.t.t }:=(by unfold St.name;rw[zM2 Hk,zc8 HB (by omega)]);have HV:Hid (zcc st=.agg #[.string st.t.s,xI st.t.a]):=(by unfold Hid zcc;rw[zM2 Hk]);have HC:Hid (cs st.src st.t=st.t.s):=(by unfold Hid cs;simp[Hk]);rw[hk'] at h1;clear hk';go_enter func129,ntmps129;go_wp2_with (go_at_call 155;refine (zb9 S pb st _ HB.ok (Nat.le_of_eq Hk.symm) (HR.alloc _)).mono ?_;rintro e w1 ⟨rfl,HL1,HF1⟩;have Hh:xH w1 w.heap.size #[.string ⟨#[]⟩,xI 0] 84:=(HF1.block _ (Nat.lt_of_lt_of_eq (zMV _) (by simp)) hne).trans (zc _ _);obtain⟨d0,d1,df,dz⟩:=zp Hh;simp only[Tk.cval]);refine zWR (v:=zcc st) (by rw[HV.o,<- HC.o];exact zfF rfl rfl ((zWP _ _ _ (ze (zh _ _ _ _ (zh _ _ _ _ Hh)))).trans (zh _ _ _ _ (zh _ _ _ _ Hh)))) rfl ⟨rfl,?_,?_⟩
   . rw[HE];exact ((HL1.setOther hlt _ _).setOther hlt _ _).alloc _
   exact (((((Fr.refl _ w).alloc _).trans HF1).setNew (zMK _) _ _).setNew (zMK _) _ _).alloc _
 have hk':((ck st.t:Int) != 3)=true:=by
  have:ck st.t≠3:=by unfold ck;(repeat' split) <;> first|decide|(exfalso;omega)
  simp;omega
 have HE:st.name=st.fail 2 st.t.a:=by unfold St.name;rw[zM1 Hk]
 have HV:Hid (zcc st=.agg #[.string ⟨#[]⟩,xI 0]):=by unfold Hid zcc;rw[zM1 Hk]
 have hsyn:xC w 8 0 (.iface 290 (.pointer (some (S 2)))):=HR.gl.syn;have hG:8<w.heap.size:=zM9 (by decide) HR.gl.size;go_enter func129,ntmps129;go_wp2_with (go_at_call 87;refine (zc5 S pb st 2 (by decide) _ (HR.alloc _)).mono ?_;rintro e w1 ⟨rfl,HL1,HF1⟩;have Hh:xH w1 w.heap.size #[.string ⟨#[]⟩,xI 0] 84:=(HF1.block _ (Nat.lt_of_lt_of_eq (zMV _) (by simp)) hne).trans (zc _ _);obtain⟨d0,d1,df,dz⟩:=zp Hh);refine zWR (v:=zcc st) (by rw[HV.o];exact zfF rfl rfl (zh _ _ _ _ (zh _ _ _ _ Hh))) rfl ⟨rfl,?_,?_⟩
 . rw[HE];exact (HL1.setOther hlt _ _).setOther hlt _ _
 exact ((((Fr.refl _ w).alloc _).trans HF1).setNew (zMK _) _ _).setNew (zMK _) _ _
theorem zb8 (S:Xs)(pb:Nat)(st:St)(k:Nat)(w:Xw)(hR:PL S w pb st):xK 171 #[xP pb,xI k] w λe w'=>e=.returned (xP w.heap.size)/\w.alloc (.cells #[xI k,xI st.t.a,.string ⟨#[]⟩,xI 0,xI 0,.slice none 0 0] 198 (0,0))=w':=by obtain⟨h0,h1,h2,h3,h4,h5,h6⟩:=hR.cells;have hlt:=hR.lt;clear hR;go_enter func171,ntmps171;go_wp2;go_ret;exact⟨rfl,rfl⟩
end
section
open Go.RowKit
theorem zm8 (S:Xs)(k:Nat)(s:Xb)(hk:zcY[k]?=some s)(w:Xw)(hG:Gl S w):xK 186 #[xI k] w λe w'=>e=.returned (.string s)/\w=w':=by
 have hc:=hG.words k s hk;have hl:k<24:=by
  rcases Nat.lt_or_ge k 24 with h|h
  . exact h
  rw[List.getElem?_eq_none (by simpa [zcY] using h)] at hk;cases hk
 have hi:(0:Int)<=(k:Int)/\(k:Int)<24:=by omega
 go_enter func186,ntmps186;go_wp2;go_ret;exact⟨rfl,rfl⟩
def wd (k:Nat):ByteArray:=(zcY[k]?).getD ⟨#[]⟩
def opM (st:St):List Nat->Option Nat
 | []=>none
 | k::ks=>if st.atB (wd k).toList=true then some k else opM st ks
def opV:Option Nat->Value
 | some k=>.tuple #[xI k,.bool true]
 | none=>.tuple #[xI 0,.bool false]
theorem zbd (S:Xs)(pb:Nat)(st:St)(kb:Nat)(n:Nat)(ks:Xn)(hn:n=ks.length)(hn4:ks.length<=100)(w:Xw)(hks:∀(i k:Nat),ks[i]?=some k->xC w kb i (xI k))(h24:∀k∈ks,k<24)(hk:st.t.k<=5)(hR:PL S w pb st):xK 182 #[xP pb,xS kb n n] w λe w'=>e=.returned (opV (opM st ks))/\w=w':=by
 subst hn;have HR:=za hR;have Hks:=za hks;have H24:=za h24;have hk5:=za hk;clear hR hks h24 hk;go_enter func182,ntmps182;go_wp2;go_loop [10] (λi=>∃j:Nat,j<=ks.length/\i=xI j/\Hid (opM st (ks.drop j)=opM st ks)) (λi=>ks.length-(intOf i).toNat)
 case atStart=>exact⟨0,zMN _,rfl,rfl⟩
 case round =>
  obtain⟨j,hj,rfl,HS⟩:=hrel;by_cases hlt:j<ks.length
  . obtain⟨k,hkj⟩:∃k,ks[j]?=some k:=⟨ks[j],zsc hlt⟩;have hc:xC w kb j (xI k):=Hks.o j k hkj;have hk24:=H24.o k (zML hkj);obtain⟨s,hs⟩:∃s,zcY[k]?=some s:=⟨zcY[k]'(by simpa [zcY] using hk24),by rw[zsc]⟩;have hw:wd k=s:=by unfold wd;rw[hs];rfl
    have hd:ks.drop j=k::ks.drop (j+1):=(by rw[zMJ] at hkj;obtain⟨h1,h2⟩:=hkj;rw[<- h2];exact zMT h1);have HW:=za (zm8 S k s hs w HR.o.gl);have HA:=za (zaP S pb st s _ rfl w hk5.out HR.o);have hO:(if st.atB s.toList=true then some k else opM st (ks.drop (j+1)))=opM st ks:=(by rw[<- HS.o,hd,<- hw];rfl);clear HS hd hw hs hkj;cases hb:st.atB s.toList with
    | true => rw[hb,zM2 rfl] at hO;rw[hb] at HA;have HO:=za hO;clear hb hO;go_wp2_with (first|(go_at_call 186;refine HW.o.mono ?_;rintro e w' ⟨rfl,rfl⟩)|(go_at_call 85;refine HA.o.mono ?_;rintro e w' ⟨rfl,rfl⟩));refine zWR (v:=opV (some k)) (by simp[results,results182,go_sem,opV]) rfl ⟨by rw[<- HO.o],rfl⟩
    | false =>
      rw[hb,zM1 (by simp)] at hO;rw[hb] at HA;have HO:=za hO;clear hb hO;go_wp2_with (first|(go_at_call 186;refine HW.o.mono ?_;rintro e w' ⟨rfl,rfl⟩)|(go_at_call 85;refine HA.o.mono ?_;rintro e w' ⟨rfl,rfl⟩));go_round
      case rel=>exact⟨j+1,by omega,by go_num,HO⟩
      case measure=>simp[intOf];omega
  have hO:opM st ks=none:=by rw[<- HS.o,List.drop_of_length_le (by omega)];rfl
  have HO:=za hO;clear HS hO;go_wp2;refine zWR (v:=opV none) (by simp[results,results182,go_sem,opV]) rfl ⟨by rw[HO.o],rfl⟩
end
section
variable {n:Nat} {t:Tk}
def rem (st:St):Nat:=if st.er=0 then 1201-st.t.a else 0
def zds (x:Xu)(n:Nat):Bool:=if x=[111,114]∨x=[120,111,114] then n==0 else if x=[97,110,100] then n==1 else if x=[43]∨x=[45] then n==2 else if x=[42]∨x=[47]∨x=[37] then n==3 else false
theorem zdQ (hk:t.k≠4/\t.k≠5):zco t n=false:=by unfold zco;rw[zM2 hk]
theorem zek (hk:t.k=4∨t.k=5):zco t n=zds t.s.toList n:=by unfold zco;rw[zM1 (by omega)];rfl
end
section
open Go.RowKit
variable {a:Act} {K:Act->World->Prop} {Q:Exit->Act->World->Prop} {xs:Xm} {base n size:Nat} {o:Oper} {e:Xy} {v:Xv}
theorem zR {w:Xw}{base':Nat}(h:w.ownsRow base e size v n xs)(hb:base'<=base):w.ownsRow base' e size v n xs:=by
 obtain⟨h1,h2⟩:=h;refine⟨h1,?_⟩;rcases h2 with h2|⟨g,cap,cur,hv,hg,r⟩
 . exact zM3 h2
 exact zM4 ⟨g,cap,cur,hv,zMO hb hg,r⟩
theorem zi {w w':Xw}(h:w.ownsRow base e size v n xs)(hk:∀k,base<=k->k<w.heap.size->v.ownBlock=some k->w'.heap[k]?=w.heap[k]?):w'.ownsRow base e size v n xs:=by
 obtain⟨h1,h2⟩:=h;refine⟨h1,?_⟩;rcases h2 with h2|⟨g,cap,cur,hv,hg,hh,r⟩
 . exact zM3 h2
 refine zM4 ⟨g,cap,cur,hv,hg,?_,r⟩;have hlt:g<w.heap.size:=by
  rcases Nat.lt_or_ge g w.heap.size with h|h
  . exact h
  rw[Array.getElem?_eq_none h] at hh;cases hh
 rw[hk g hg hlt (by rw[hv];rfl),hh]
theorem zN {W:Xw}{b:Nat}{c:Xa}{f:Nat×Nat}{news:Xm}(h:W.heap[b]?=some (.cells c e f))(hc:c.toList=news):∀(j:Nat) (u:Xv),news[j]?=some u->W.cell? (((xD b 0):Addr).add j)=some u:=by
 intro j u hj;subst hc;have e0:((xD b 0):Addr).add j=⟨b,j,none⟩:=by cases j <;> simp[Addr.add]
 rw[e0];simp[World.cell?,h];simpa using hj
theorem zM {w:Xw}(h:w.ownsRow base e size v n xs)(hn:0<n):∃g cap,v=xS g n cap/\base<=g:=by
 rcases h.2 with ⟨_,h⟩|⟨g,cap,_,h,hb,_⟩
 . omega
 exact⟨g,cap,h,hb⟩
theorem zD {w:Xw}{e:Nat}(h:w.ownsRow base e size v n xs)(o:Obj):(w.alloc o).ownsRow base e size v n xs:=zi h (λk _ hk _=>zWP w o k hk)
section
variable {P:Program} (w:Xw)
theorem zha (base:Nat)(t ty e:Xy)(i:TypeInfo)(z:Xv)(size bytes:Nat)(ht:P.underlying t=some (.slice e))(hi:P.info? e=some i)(hz:i.zero=some z)
 (hsize:i.size=size) (hby:i.bytes=bytes) (hzs:z.cells.size=size) (hsz:0<size)
 (v:Xv) (n:Nat) (xs:Xm) (hown:w.ownsRow base e size v n xs)
 (a:Addr) (m c:Nat) (news:Xm) (hl:news.length=m*size) (hnews:∀j u,news[j]?=some u->w.cell? (a.add j)=some u) (h1:∀u∈news,u.oneCell'=true)
 (h63:n+m<=maxLen) (hbytes:(n+m)*bytes<=140737488355328) (hbase:base<=w.heap.size) :
 ∃v' w',(Builtin.append_ #[t,t] ty #[v,.slice (some a) m c]).run P w=.ok v' w'/\w'.ownsRow base e size v' (n+m) (xs++news)/\w.grownBy w' v.ownBlock /\
  ∀k,v'.ownBlock=some k->v.ownBlock=some k∨w.heap.size<=k:=by
 rcases hown.2 with ⟨rfl,rfl⟩|⟨g,cap,cur,rfl,hbg,hg,hnc,hcm,hcs,htake⟩
 . have hx:xs=[]:=List.eq_nil_of_length_eq_zero (by simpa using hown.1);subst hx;obtain⟨v',w',hr,h2,h3,_⟩:=run_append_own (P:=P) w w.heap.size t ty e i z size bytes ht hi hz hsize hby hzs hsz _ 0 [] (World.ownsRow_nil w _ e size) a m c news hl hnews h1 h63 hbytes (zMK _);exact⟨v',w',hr,zR h2 hbase,h3,λk hk=>zM4 (h2.lt k hk).1⟩
 by_cases hroom:n+m<=cap
 . obtain⟨w',hr,h2,h3⟩:=run_append_fits (P:=P) w base t ty e i size ht hi hsize g n cap xs hown a m c news hl hnews h1 hroom;exact⟨_,w',hr,h2,h3,λk hk=>zM3 hk⟩
 obtain⟨v',w',hr,h2,h3⟩:=run_append_arg_grows (P:=P) w t ty e i z size bytes ht hi hz hsize hby hzs hsz (xD g 0) n cap xs hown.1 (hown.cells (g:=g) rfl) a m c news hl hnews (by omega) h63 hbytes;exact⟨v',w',hr,zR h2 hbase,⟨h3.os,h3.tape,h3.output,h3.size,λk hk _=>h3.block k hk (by simp)⟩,λk hk=>zM4 (h2.lt k hk).1⟩
theorem zfG (s x:Operand)(t:Xy)
 (ho:o.op=.call { callee:=.builtin .append,args:=#[s,x],argTypes:=#[t,t] })
 (base:Nat) (e:Xy) (i:TypeInfo) (z:Xv) (size bytes:Nat) (ht:P.underlying t=some (.slice e)) (hi:P.info? e=some i) (hz:i.zero=some z)
 (hsize:i.size=size) (hby:i.bytes=bytes) (hzs:z.cells.size=size) (hsz:0<size)
 (v:Xv) (n:Nat) (xs:Xm) (hs:a.eval s=v) (hown:w.ownsRow base e size v n xs)
 (ad:Addr) (m c:Nat) (news:Xm) (hx:a.eval x=.slice (some ad) m c) (hl:news.length=m*size) (hnews:∀j u,news[j]?=some u->w.cell? (ad.add j)=some u) (h1:∀u∈news,u.oneCell'=true)
 (h63:n+m<=maxLen) (hbytes:(n+m)*bytes<=140737488355328) (hbase:base<=w.heap.size)
 (h:∀v' w',w'.ownsRow base e size v' (n+m) (xs++news)->w.grownBy w' v.ownBlock->(∀k,v'.ownBlock=some k->v.ownBlock=some k∨w.heap.size<=k)->K (a.put o.dst v') w'):o.wp P a w K Q:=by
 obtain⟨v',w',hr,h2,h3,h4⟩:=zha (P:=P) w base t o.type e i z size bytes ht hi hz hsize hby hzs hsz v n xs hown ad m c news hl hnews h1 h63 hbytes hbase;unfold Oper.wp execOp;simp only[ho,resolve,invoke,builtin,Sem.run_bind,Sem.run_pure,Result.andThen_ok,List.map_toArray,List.map_cons,List.map_nil,hs,hx,hr];exact h v' w' h2 h3 h4
theorem zJ {ops:Array Oper}{E:Prop}
 (hg:o.guard=none) (s x:Operand) (t:Xy) (ho:o.op=.call { callee:=.builtin .append,args:=#[s,x],argTypes:=#[t,t] })
 (base:Nat) (e:Xy) (i:TypeInfo) (z:Xv) (size bytes:Nat) (ht:P.underlying t=some (.slice e)) (hi:P.info? e=some i) (hz:i.zero=some z)
 (hsize:i.size=size) (hby:i.bytes=bytes) (hzs:z.cells.size=size) (hsz:0<size)
 (v:Xv) (n:Nat) (xs:Xm) (hs:a.eval s=v) (hown:w.ownsRow base e size v n xs)
 (ad:Addr) (m c:Nat) (news:Xm) (hx:a.eval x=.slice (some ad) m c) (hl:news.length=m*size) (hnews:∀j u,news[j]?=some u->w.cell? (ad.add j)=some u) (h1:∀u∈news,u.oneCell'=true)
 (h63:n+m<=maxLen) (hbytes:(n+m)*bytes<=140737488355328) (hbase:base<=w.heap.size)
 (h:∀v' w',w'.ownsRow base e size v' (n+m) (xs++news)->w.grownBy w' v.ownBlock->(∀k,v'.ownBlock=some k->v.ownBlock=some k∨w.heap.size<=k)->K (a.put o.dst v') w') :
 if Region.wanted o (yielded ops a.tmps)=true then Oper.wp P o a w K Q else E:=by
 have hw:Region.wanted o (yielded ops a.tmps)=true:=by simp[Region.wanted,hg]
 rw[zM2 hw];exact zfG w s x t ho base e i z size bytes ht hi hz hsize hby hzs hsz v n xs hs hown ad m c news hx hl hnews h1 h63 hbytes hbase h
end
end
section
open Go.RowKit
variable {a:Act} {K:Act->World->Prop} {ops:Array Oper} {Q:Exit->Act->World->Prop} {o:Oper} {P:Program} {E:Prop} {w w':Xw}
theorem zbz (w:Xw){rest:List Oper}(hgd:o.guard=none)(s x:Operand)(t:Xy)
 (ho:o.op=.call { callee:=.builtin .append,args:=#[s,x],argTypes:=#[t,t] })
 (base:Nat) (e:Xy) (i:TypeInfo) (z:Xv) (size bytes:Nat) (ht:P.underlying t=some (.slice e)) (hi:P.info? e=some i) (hz:i.zero=some z)
 (hsize:i.size=size) (hby:i.bytes=bytes) (hzs:z.cells.size=size) (hsz:0<size)
 (v:Xv) (n:Nat) (xs:Xm) (hs:a.eval s=v) (hown:w.ownsRow base e size v n xs)
 (ad:Addr) (m c:Nat) (news:Xm) (hx:a.eval x=.slice (some ad) m c) (hl:news.length=m*size) (hnews:∀j u,news[j]?=some u->w.cell? (ad.add j)=some u) (h1:∀u∈news,u.oneCell'=true)
 (h63:n+m<=maxLen) (hbytes:(n+m)*bytes<=140737488355328) (hbase:base<=w.heap.size)
 (h:∀v' w',w'.ownsRow base e size v' (n+m) (xs++news)->w.grownBy w' v.ownBlock->(∀k,v'.ownBlock=some k->v.ownBlock=some k∨w.heap.size<=k)->wpList P ops Q rest (a.put o.dst v') w'):wpList P ops Q (o::rest) a w :=
 wpList_plain hgd λ_ hK=>zfG w s x t ho base e i z size bytes ht hi hz hsize hby hzs hsz v n xs hs hown ad m c news hx hl hnews h1 h63 hbytes hbase λv' w' h2 h3 h4=>hK _ _ (h v' w' h2 h3 h4)
theorem Fr.of_grown {row:Xo}(h:w.grownBy w' row):Fr (λk=>row=some k) w w':=⟨h.os,h.tape,h.output,h.size,λk hk hn=>h.block k hk (λe=>hn e.symm)⟩
theorem zbP {B n:Nat}{e:Xy}{vs:Xv}{xs:Xm}(h:w.ownsRow B e 1 vs n xs):∃x cp,vs=.slice x n cp:=by
 rcases h.2 with ⟨h1,h2⟩|⟨g,cap,cur,h1,_⟩
 . exact⟨none,0,by rw[h1,h2]⟩
 exact⟨_,cap,h1⟩
theorem zf8 
 (hg:o.guard=none) (f:FuncId) (xs:Array Operand) (ats:Array TypeId) (ho:o.op=.call { callee:=.value (.func f),args:=xs,argTypes:=ats })
 (hcf:∀(args:Xa) (w:Xw),(callFunc f args).run P w=.ok (.enter f args) w) (args:Xa) (ha:#[]++xs.map a.eval++#[]=args) {R:Ending->World->Prop} (h:Calls P f args w R)
 (hR:∀e w',R e w'->∃v,e=.returned v/\K (a.put o.dst v) w'):if Region.wanted o (yielded ops a.tmps)=true then Oper.wp P o a w K Q else E:=by
 have hw:Region.wanted o (yielded ops a.tmps)=true:=by simp[Region.wanted,hg]
 rw[zM2 hw];obtain⟨dst,op,ty,pos,after,guard⟩:=o;simp only at ho hg;subst ho hg;unfold Oper.wp;rw[execOp_call_go,ha,hcf,Oper.upon_enter];refine h.mono ?_;intro e w' hr;obtain⟨v,rfl,hk⟩:=hR e w' hr;exact hk
theorem zbL 
 (hg:o.guard=none) (f:FuncId) (x:Operand) (t:Xy) (ho:o.op=.call { callee:=.value (.func f),args:=#[x],argTypes:=#[t] })
 (hcf:∀(args:Xa) (w:Xw),(callFunc f args).run P w=.ok (.enter f args) w) (v:Xv) (hx:a.eval x=v) {R:Ending->World->Prop} (h:Calls P f #[v] w R)
 (hR:∀e w',R e w'->∃v,e=.returned v/\K (a.put o.dst v) w'):if Region.wanted o (yielded ops a.tmps)=true then Oper.wp P o a w K Q else E :=
 zf8 hg f #[x] #[t] ho hcf #[v] (by simp[hx]) h hR
theorem zde 
 (hg:o.guard=none) (f:FuncId) (x y:Operand) (t u:Xy) (ho:o.op=.call { callee:=.value (.func f),args:=#[x,y],argTypes:=#[t,u] })
 (hcf:∀(args:Xa) (w:Xw),(callFunc f args).run P w=.ok (.enter f args) w) (v v':Xv) (hx:a.eval x=v) (hy:a.eval y=v') {R:Ending->World->Prop} (h:Calls P f #[v,v'] w R)
 (hR:∀e w',R e w'->∃v,e=.returned v/\K (a.put o.dst v) w'):if Region.wanted o (yielded ops a.tmps)=true then Oper.wp P o a w K Q else E :=
 zf8 hg f #[x,y] #[t,u] ho hcf #[v,v'] (by simp[hx,hy]) h hR
theorem zkN 
 (hg:o.guard=none) (f:FuncId) (x y z:Operand) (t u s:Xy) (ho:o.op=.call { callee:=.value (.func f),args:=#[x,y,z],argTypes:=#[t,u,s] })
 (hcf:∀(args:Xa) (w:Xw),(callFunc f args).run P w=.ok (.enter f args) w) (v v' v'':Xv) (hx:a.eval x=v) (hy:a.eval y=v') (hz:a.eval z=v'') {R:Ending->World->Prop} (h:Calls P f #[v,v',v''] w R)
 (hR:∀e w',R e w'->∃v,e=.returned v/\K (a.put o.dst v) w'):if Region.wanted o (yielded ops a.tmps)=true then Oper.wp P o a w K Q else E :=
 zf8 hg f #[x,y,z] #[t,u,s] ho hcf #[v,v',v''] (by simp[hx,hy,hz]) h hR
def zH (f:FuncId):Prop:=∀(args:Xa) (w:Xw),(callFunc f args).run prog w=.ok (.enter f args) w
theorem Fr.undrew {T:Xj}(h:Fr T w.drew w'):Fr T w w':=⟨h.os,h.tape,h.output,h.size,h.block⟩
end
section
open Go.RowKit
variable {L:List Ex} {B x:Nat} {v:Xv} {w w':Xw}
def zag (l:Xu)(n:Nat):Nat :=
 if l=[110,117,109,98,101,114] then 0 else if l=[98,111,111,108] then (if n=1 then 1 else 2) else if l=[118,97,114] then 3 else if l=[99,97,108,108] then 4
 else if l=[105,102] then 5 else if l=[109,101,114,103,101] then 6 else if l=[119,104,101,110] then 7 else if l=[119,104,101,110,111,116] then 8 else if l=[102,98,121] then 9
 else if l=[110,101,103] then 10 else if l=[110,111,116] then 11 else if l=[97,110,100] then 12 else if l=[111,114] then 13 else if l=[120,111,114] then 14
 else if l=[61] then 15 else if l=[60,62] then 16 else if l=[60] then 17 else if l=[60,61] then 18 else if l=[43] then 19 else if l=[45] then 20 else if l=[42] then 21 else if l=[47] then 22 else 23
def zbF (l:Xu)(n:Nat):Nat:=if l=[110,117,109,98,101,114] then n else 0
theorem zbK (l:Xu):zbF l 0=0:=by unfold zbF;split <;> rfl
inductive TR (w:Xw) (B:Nat) (L:List Ex):Nat->Value->Prop
 | mk (x:Nat) (ex:Ex) (b:Nat) (args:Xv) (vs:Xm) (hx:L[x]?=some ex) (hB:B<=b)
    (hb:xH w b #[xI (zag ex.op.toList ex.n:Nat),xI ex.a,.string ex.s,xI ex.nm,xI (zbF ex.op.toList ex.n:Nat),args] 198)
    (ha:w.ownsRow B 156 1 args vs.length vs) (hl:vs.length=ex.ins.length)
    (hr:∀(i y:Nat) (v:Xv),ex.ins[i]?=some y->vs[i]?=some v->TR w B L y v):TR w B L x (xP b)
theorem TR.kept (h:TR w B L x v)(hk:∀k,B<=k->k<w.heap.size->w'.heap[k]?=w.heap[k]?):TR w' B L x v:=by
 induction h with
 | mk x ex b args vs hx hB hb ha hl _ ih => exact TR.mk x ex b args vs hx hB ((hk b hB (ze hb)).trans hb) (zi ha (λk a c _=>hk k a c)) hl ih
theorem TR.fr (h:TR w B L x v){T:Xj}(hf:Fr T w w')(hT:∀k,B<=k->k<w.heap.size->¬T k):TR w' B L x v :=
 h.kept (λk a b=>hf.block k b (hT k a b))
theorem TR.more (h:TR w B L x v)(E:List Ex):TR w B (L++E) x v:=by
 induction h with
 | mk x ex b args vs hx hB hb ha hl _ ih =>
   refine TR.mk x ex b args vs ?_ hB hb ha hl ih;rw[zM6]
   . exact hx
   exact (zMJ.1 hx).1
theorem TR.down (h:TR w B L x v){B':Nat}(hB':B'<=B):TR w B' L x v:=by
 induction h with
 | mk x ex b args vs hx hB hb ha hl _ ih => exact TR.mk x ex b args vs hx (zMO hB' hB) hb (zR ha hB') hl ih
def zaW (S:Xs)(pb B:Nat)(w:Xw)(st':St)(r:Nat)(e:Ending)(w':Xw):Prop :=
 ∃a:Xp,e=.returned (.pointer a)/\PL S w' pb st'/\Hid (st'.er=0->TR w' B st'.L r (.pointer a))/\Fr (·=pb) w w'
def zX (d:Nat)(f:FuncId)(M:Fn):Prop:=∀(S:Xs) (pb:Nat) (st:St) (p:Nat) (w:Xw),Inv p st->18<=st.op+d->PL S w pb st ->
 xK f #[xP pb] w (zaW S pb w.heap.size w (M st).1 (M st).2)
theorem PL.put {S:Xs}{pb:Nat}{st:St}(h:PL S w pb st)(e:Ex):PL S w pb (st.put e).1:=⟨h.tx,h.heap,h.gl,h.pb⟩
theorem TR.two {ex:Ex}{b g y z:Nat}{u:Xv}(hB:B<=b)(hg:B<=g)
 (hb:xH w b #[xI (zag ex.op.toList ex.n:Nat),xI ex.a,.string ex.s,xI ex.nm,xI (zbF ex.op.toList ex.n:Nat),xS g 2 2] 198)
 (hgg:xH w g #[u,v] 156) (hi:ex.ins=[y,z]) (hu:TR w B L y u) (hv:TR w B L z v):TR w B (L++[ex]) L.length (xP b):=by
 refine TR.mk L.length ex b _ [u,v] (by simp) hB hb ⟨by simp,zM4 ⟨g,2,#[u,v],rfl,hg,hgg,by simp,by decide,by simp,by simp⟩⟩ (by simp[hi]) ?_;intro i s t hs ht;rw[hi] at hs
 match i with
 | 0=>simp at hs ht;subst hs ht;exact hu.more _
 | 1=>simp at hs ht;subst hs ht;exact hv.more _
 | i+2=>simp at hs
end
section
variable {p:Nat} {st:St}
structure Vr where
 nm:ByteArray
 a:Nat
 bl:Bool
 inn:Bool
 out:Bool
 on:Nat
 ck:ByteArray
 ca:Nat
 nt:Bool
 tm:Bool
def zbq:List UInt8:=[98,111,111,108]
def zlc:List UInt8:=[105,110,116]
def kOn:List UInt8:=[111,110]
def zet:List UInt8:=[110,111,116]
def z9 (st:St):St:=if st.is 5 zbq=true then st.step else st.must 5 zlc
def za3 (st:St):St:=if st.is 5 zet=true then st.step else st
def zx (i o:Bool)(st:St)(vars:List Vr):St×List Vr :=
 if 16<=vars.length then (st.fail 2 st.t.a,vars)
 else
  let s2:=st.name.must 4 [58]
  let s3:=z9 s2
  if (s3.is 5 kOn&&!i&&!o)=true then
   let s5:=za3 s3.step
   (s5.name,vars++[⟨st.t.s,st.t.a,s2.is 5 zbq,i,o,s3.t.a,s5.t.s,s5.t.a,s3.step.is 5 zet,true⟩])
  else (s3,vars++[⟨st.t.s,st.t.a,s2.is 5 zbq,i,o,0,sE,0,false,false⟩])
theorem Fwd.type (h:Inv p st):Fwd p st (z9 st):=by
 unfold z9;split
 . exact Fwd.step h
 exact Fwd.must h _ _
theorem Fwd.nott (h:Inv p st):Fwd p st (za3 st):=by
 unfold za3;split
 . exact Fwd.step h
 exact Fwd.refl h
theorem znk (st:St):(z9 st).op=st.op:=by unfold z9;split;exact st.step_op;exact st.must_op _ _
theorem zpp (st:St):(za3 st).op=st.op:=by unfold za3;split;exact st.step_op;rfl
theorem zqh (st:St):(z9 st).L=st.L:=by unfold z9;split;exact st.step_L;exact st.must_L _ _
theorem zqZ (st:St):(za3 st).L=st.L:=by unfold za3;split;exact st.step_L;rfl
theorem zbI {i o:Bool}{vars:List Vr}(hI:Inv p st):Fwd p st (zx i o st vars).1/\(zx i o st vars).1.op=st.op/\(zx i o st vars).1.L=st.L:=by
 unfold zx;split
 . exact⟨Fwd.fail hI (by omega) (by omega) hI.ok.ta_le,St.fail_op _ _ _,St.fail_L _ _ _⟩
 have h1:=Fwd.name hI;have h2:=Fwd.must h1.inv 4 [58];have h3:=Fwd.type h2.inv;have o3:(z9 (st.name.must 4 [58])).op=st.op:=by rw[znk,St.must_op,St.name_op]
 have l3:(z9 (st.name.must 4 [58])).L=st.L:=by rw[zqh,St.must_L,St.name_L]
 simp only;split
 . have h4:=Fwd.step h3.inv;have h5:=Fwd.nott h4.inv;have h6:=Fwd.name h5.inv;exact⟨((((h1.trans h2).trans h3).trans h4).trans h5).trans h6,by rw[St.name_op,zpp,St.step_op,o3],by rw[St.name_L,zqZ,St.step_L,l3]⟩
 exact⟨(h1.trans h2).trans h3,o3,l3⟩
end
section
variable {vars:List Vr} {p:Nat} {st:St}
def zaG (i:Bool):Nat->St×List Vr->St×List Vr
 | 0,x=>x
 | f+1,x=>if x.1.er=0/\x.1.is 4 [44]=true then zaG i f (zx i (!i) x.1.step x.2) else x
def zab (i:Bool)(st:St)(vars:List Vr):St×List Vr :=
 let y:=zaG i 1300 (zx i (!i) (st.must 4 [40]) vars)
 (y.1.must 4 [41],y.2)
def zaR (st:St)(vars:List Vr):St×List Vr :=
 let x:=zx false false st vars
 (x.1.must 4 [59],x.2)
theorem zjd (i:Bool):∀(f p:Nat) (x:St×List Vr),Inv p x.1->Fwd p x.1 (zaG i f x).1/\(zaG i f x).1.op=x.1.op/\(zaG i f x).1.L=x.1.L:=by
 intro f;induction f with
 | zero=>intro p x hI;exact⟨Fwd.refl hI,rfl,rfl⟩
 | succ f ih =>
   intro p x hI
   show Fwd p x.1 (if _ then _ else x).1/\(if _ then _ else x).1.op=x.1.op/\(if _ then _ else x).1.L=x.1.L;by_cases hc:x.1.er=0/\x.1.is 4 [44]=true
   . rw[zM2 hc];have h1:=Fwd.step hI;have h2:=zbI (i:=i) (o:=!i) (vars:=x.2) h1.inv;have h3:=ih p _ h2.1.inv;exact⟨(h1.trans h2.1).trans h3.1,h3.2.1.trans (h2.2.1.trans (St.step_op _)),h3.2.2.trans (h2.2.2.trans (St.step_L _))⟩
   rw[zM1 hc];exact⟨Fwd.refl hI,rfl,rfl⟩
theorem zbx {i:Bool}(hI:Inv p st):Fwd p st (zab i st vars).1/\(zab i st vars).1.op=st.op/\(zab i st vars).1.L=st.L:=by
 have h1:=Fwd.must hI 4 [40];have h2:=zbI (i:=i) (o:=!i) (vars:=vars) h1.inv;have h3:=zjd i 1300 p _ h2.1.inv;have h4:=Fwd.must h3.1.inv 4 [41];refine⟨((h1.trans h2.1).trans h3.1).trans h4,?_,?_⟩
 . unfold zab;simp only;rw[St.must_op,h3.2.1,h2.2.1,St.must_op]
 unfold zab;simp only;rw[St.must_L,h3.2.2,h2.2.2,St.must_L]
theorem zej (hI:Inv p st):Fwd p st (zaR st vars).1/\(zaR st vars).1.op=st.op/\(zaR st vars).1.L=st.L:=by
 have h2:=zbI (i:=false) (o:=false) (vars:=vars) hI;have h4:=Fwd.must h2.1.inv 4 [59];refine⟨h2.1.trans h4,?_,?_⟩
 . unfold zaR;simp only;rw[St.must_op,h2.2.1]
 unfold zaR;simp only;rw[St.must_L,h2.2.2]
end
section
open Go.RowKit
variable {l:Xu} {a b e k:Nat} {w:Xw}
theorem znQ:(⟨#[58]⟩:Xb).toList=[58]:=by decide +kernel
theorem zl1:(⟨#[59]⟩:Xb).toList=[59]:=by decide +kernel
theorem zjg:(⟨#[98,111,111,108]⟩:Xb).toList=zbq:=by decide +kernel
theorem zo1:(⟨#[105,110,116]⟩:Xb).toList=zlc:=by decide +kernel
theorem zo7:(⟨#[110,111,116]⟩:Xb).toList=zet:=by decide +kernel
theorem zq9:(⟨#[111,110]⟩:Xb).toList=kOn:=by decide +kernel
theorem zfm (w:Xw):xK 167 #[xI 1] w λe w'=>e=.returned (.string ⟨#[98,111,111,108]⟩)/\w=w':=by go_enter func167,ntmps167;go_wp2;go_ret;exact⟨rfl,rfl⟩
theorem zhC (w:Xw):xK 167 #[xI 0] w λe w'=>e=.returned (.string ⟨#[105,110,116]⟩)/\w=w':=by go_enter func167,ntmps167;go_wp2;go_ret;exact⟨rfl,rfl⟩
theorem zbw (st:St):∃(ns:Xb) (na:Nat),zcc st=.agg #[.string ns,xI na]/\(st.t.k=2->ns=st.t.s/\na=st.t.a):=by
 by_cases h:st.t.k=2
 . exact⟨st.t.s,st.t.a,by unfold zcc;rw[zM2 h],λ_=>⟨rfl,rfl⟩⟩
 exact⟨⟨#[]⟩,0,by unfold zcc;rw[zM1 h];rfl,λh2=>absurd h2 h⟩
theorem St.fail_fail' (s:St){e' a':Nat}(he:e≠0):(s.fail e a).fail e' a'=s.fail e a:=by unfold St.fail;by_cases h:s.er=0 <;> simp[h,he]
theorem St.fail_is (s:St)(hk:k≠1):(s.fail e a).is k l=false:=by
 unfold St.is;have:(s.fail e a).t.k=1:=by unfold St.fail;split <;> rfl
 rw[this];have h1:((1:Nat)==k)=false:=by simp;omega
 rw[h1];rfl
theorem St.fail_must' (s:St)(he:e≠0)(hk:k≠1):(s.fail e a).must k l=s.fail e a:=by unfold St.must;rw[St.fail_is s hk];exact St.fail_fail' s he
theorem St.fail_name' (s:St)(he:e≠0):(s.fail e a).name=s.fail e a:=by
 unfold St.name;have:(s.fail e a).t.k=1:=by unfold St.fail;split <;> rfl
 rw[zM1 (by omega)];exact St.fail_fail' s he
def St.decl0 (st:St)(n:Nat):St:=if n=16 then st.fail 2 st.t.a else st
def zlG (ns:Xb)(na ty sg pl:Nat)(os:Xb)(oa:Nat):Value:=.agg #[.string ns,xI na,xI ty,xI sg,xI pl,.string os,xI oa]
theorem zev {fn:Func}{p:Tmp}(h:fn.results=#[.cell p 101]){tmps:Xa}(hp:tmps[p]?.getD undef=xP b){v0 v1 v2 v3 v4 v5 v6:Xv}(hh:xH w b #[v0,v1,v2,v3,v4,v5,v6] 101):(results fn tmps).run prog w=.ok (.agg #[v0,v1,v2,v3,v4,v5,v6]) w:=by obtain⟨c0,c1,c2,c3,c4,c5,c6,_⟩:=zbZ hh;simp[results,h,hp,go_sem,c0,c1,c2,c3,c4,c5,c6]
theorem zfV {e:Xy}{u0 u1 u2 u3 u4 u5 u6:Xv}(h:xH w b #[u0,u1,u2,u3,u4,u5,u6] e)(v0 v1 v2 v3 v4 v5 v6:Xv):(((((((w.setCell (xD b 0) v0).setCell (xD b 1) v1).setCell (xD b 2) v2).setCell (xD b 3) v3).setCell (xD b 4) v4).setCell (xD b 5) v5).setCell (xD b 6) v6).heap[b]?=some (.cells #[v0,v1,v2,v3,v4,v5,v6] e (0,0)):=by have h0:xH (w.setCell (xD b 0) v0) b #[v0,u1,u2,u3,u4,u5,u6] e:=zh _ _ _ _ h;have h1:((w.setCell (xD b 0) v0).setCell (xD b 1) v1).heap[b]?=some (.cells #[v0,v1,u2,u3,u4,u5,u6] e (0,0)):=zh _ _ _ _ h0;have h2:(((w.setCell (xD b 0) v0).setCell (xD b 1) v1).setCell (xD b 2) v2).heap[b]?=some (.cells #[v0,v1,v2,u3,u4,u5,u6] e (0,0)):=zh _ _ _ _ h1;have h3:((((w.setCell (xD b 0) v0).setCell (xD b 1) v1).setCell (xD b 2) v2).setCell (xD b 3) v3).heap[b]?=some (.cells #[v0,v1,v2,v3,u4,u5,u6] e (0,0)):=zh _ _ _ _ h2;have h4:(((((w.setCell (xD b 0) v0).setCell (xD b 1) v1).setCell (xD b 2) v2).setCell (xD b 3) v3).setCell (xD b 4) v4).heap[b]?=some (.cells #[v0,v1,v2,v3,v4,u5,u6] e (0,0)):=zh _ _ _ _ h3;have h5:((((((w.setCell (xD b 0) v0).setCell (xD b 1) v1).setCell (xD b 2) v2).setCell (xD b 3) v3).setCell (xD b 4) v4).setCell (xD b 5) v5).heap[b]?=some (.cells #[v0,v1,v2,v3,v4,v5,u6] e (0,0)):=zh _ _ _ _ h4;have h6:(((((((w.setCell (xD b 0) v0).setCell (xD b 1) v1).setCell (xD b 2) v2).setCell (xD b 3) v3).setCell (xD b 4) v4).setCell (xD b 5) v5).setCell (xD b 6) v6).heap[b]?=some (.cells #[v0,v1,v2,v3,v4,v5,v6] e (0,0)):=zh _ _ _ _ h5;exact h6
theorem zjk (S:Xs)(pb:Nat)(st:St)(w:Xw)(nb:Nat)(x:Xp)(n c:Nat)(HB:Bad st)(_hn:n<=100)(hnb:nb<w.heap.size)(hc:xC w nb 2 (.slice x n c))(HR:PL S w pb st) :
 xK 156 #[xP pb,xP nb] w λe w'=>∃ns na,e=.returned (zlG ns na (if ((st.decl0 n).name.must 4 [58]).is 5 zbq=true then 1 else 0) 0 0 ⟨#[]⟩ 0)/\((st.decl0 n).t.k=2->ns=(st.decl0 n).t.s/\na=(st.decl0 n).t.a)/\PL S w' pb (z9 ((st.decl0 n).name.must 4 [58]))/\Fr (·=pb) w w':=by
 have hlt:=HR.lt;have hsyn:xC w 8 0 (.iface 290 (.pointer (some (S 2)))):=HR.gl.syn;have hg8:8<w.heap.size:=zM9 (by decide) HR.gl.size;have Hz0:w.heap.size<(w.alloc (.cells #[.string ⟨#[]⟩,xI 0,xI 0,xI 0,xI 0,.string ⟨#[]⟩,xI 0] 101)).heap.size:=by simp
 have Hh0:=zc w (.cells #[.string ⟨#[]⟩,xI 0,xI 0,xI 0,xI 0,.string ⟨#[]⟩,xI 0] 101);by_cases h16:n=16
 . have hE:st.decl0 n=st.fail 2 st.t.a:=by unfold St.decl0;rw[zM2 h16]
   rw[hE];have h16':((n:Int)==16)=true:=beq_iff_eq.2 (by omega);have HBf:=za (HB.fail (e:=2) (by omega));obtain⟨s2,Hs2⟩:∃s2,(st.fail 2 st.t.a).name.must 4 [58]=s2:=⟨_,rfl⟩;have hs3:s2=st.fail 2 st.t.a:=(by rw[<- Hs2,St.fail_name' _ (by decide)];exact St.fail_must' _ (by decide) (by decide));have Hb:s2.is 5 zbq=false:=(by rw[hs3];exact St.fail_is _ (by decide));rw[Hs2];have hty:z9 s2=s2.must 5 zlc:=(by unfold z9;rw[zM1 (by rw[Hb];simp)]);rw[hty,Hb];clear hs3 hty hE h16;go_enter func156,ntmps156;go_wp2_with (go_at_call 87;refine (zc5 S pb st 2 (by decide) _ (HR.alloc _)).mono ?_;rintro e w9 ⟨rfl,HL9,HF9⟩;have hlt9:=HL9.lt);have Hz9:=(HF9.block w.heap.size Hz0 (by omega)).trans Hh0;obtain⟨ns,na,hnv,HNk⟩:=zbw (st.fail 2 st.t.a);have HN:=za (zaZ S pb (st.fail 2 st.t.a) w9 HBf.o HL9);rw[hnv] at HN;refine HN.o.mono ?_;rintro e w1 ⟨rfl,HL1,hF1⟩;have hne:¬w.heap.size=pb:=(by omega);have Hh1:=(hF1.block w.heap.size (ze Hz9) hne).trans Hz9;have hz1:=ze Hh1;have HF1:Hid (Fr (·=pb) w w1):=Fr.trans (((Fr.refl _ w).alloc _).trans HF9) hF1;have hlt1:=HL1.lt;have HB1:=za HBf.o.name;have HEx:=za (zP S pb (st.fail 2 st.t.a).name ⟨#[58]⟩ _ znQ (w1.alloc (.cells #[.string ns,xI na,xI 0,xI 0,xI 0,.string ⟨#[]⟩,xI 0] 101)) HB1.o (HL1.alloc _));rw[zan HL1.tx (by decide),Hs2] at HEx;have HB2:Hid (Bad s2):=(by unfold Hid;rw[<- Hs2];exact HB1.o.must 4 [58]);clear hF1 hnv HN;go_wp2_with fail;refine HEx.o.mono ?_;rintro e w2 ⟨rfl,HL2,hF2⟩;have hne1:¬w1.heap.size=pb:=(by omega);have Hh2:=(hF2.block w.heap.size (by simp;omega) hne).trans ((zWP _ _ _ hz1).trans Hh1);have Hv2:=(hF2.block w1.heap.size (by simp) hne1).trans (zc w1 _);have HF2:Hid (Fr (·=pb) w w2):=(HF1.o.alloc _).trans hF2;have hlt2:=HL2.lt;have HSk:=za (zbg S pb s2 ⟨#[98,111,111,108]⟩ _ zjg w2 HB2.o HL2);rw[zar HL2.tx (by decide),Hb] at HSk;have hsk:s2.skipM zbq=s2:=(by unfold St.skipM;rw[zar HL2.tx (by decide),Hb];rfl);rw[hsk] at HSk;clear hF2 hsk;have HEx2:=za (λw1 h=>zP S pb s2 ⟨#[105,110,116]⟩ _ zo1 w1 HB2.o h);have htx:=HL2.tx;rw[ze6 htx (by decide)] at HEx2;clear htx;go_wp2_with (first|(go_at_call 167;first|(with_reducible refine (zfm _).mono ?_;rintro e w' ⟨rfl,rfl⟩)|(with_reducible refine (zhC _).mono ?_;rintro e w' ⟨rfl,rfl⟩))|(go_at_call 131;refine HSk.o.mono ?_;rintro e w3 ⟨rfl,HL3,HF3⟩;have Hh3:=(HF3.block w.heap.size (ze Hh2) hne).trans Hh2;have Hv3:=(HF3.block w1.heap.size (ze Hv2) hne1).trans Hv2;obtain⟨a0,a1,a2,a3,a4,a5,a6,af,az⟩:=zbZ Hh3;obtain⟨b0,b1,b2,b3,b4,b5,b6,bf,bz⟩:=zbZ Hv3;have hlt3:=HL3.lt));refine (HEx2.o _ HL3).mono ?_;rintro e w4 ⟨rfl,HL4,HF4⟩;have Hh4:=(HF4.block w.heap.size (ze Hh3) hne).trans Hh3;have hv4:=(HF4.block w1.heap.size (ze Hv3) hne1).trans Hv3;clear a0 a1 a2 a3 a4 a5 a6 af az b0 b1 b2 b3 b4 b5 b6 bf bz;obtain⟨a0,a1,a2,a3,a4,a5,a6,af,az⟩:=zbZ Hh4;obtain⟨b0,b1,b2,b3,b4,b5,b6,bf,bz⟩:=zbZ hv4;clear hv4;go_wp2_with fail;refine zWR (v:=zlG ns na 0 0 0 ⟨#[]⟩ 0) (zev rfl rfl (zfV Hh4 _ _ _ _ _ _ _)) rfl ⟨ns,na,by first|rfl|(rw[Hb];rfl),HNk,?_,?_⟩
   . (repeat (with_reducible refine PL.setOther ?_ hlt _ _));exact HL4
   (repeat (with_reducible refine Fr.setNew ?_ (zMK _) _ _));exact (HF2.o.trans HF3).trans HF4
 have hE:st.decl0 n=st:=by unfold St.decl0;rw[zM1 h16]
 rw[hE];have h16':((n:Int)==16)=false:=zM0.2 (by omega);obtain⟨s2,Hs2⟩:∃s2,st.name.must 4 [58]=s2:=⟨_,rfl⟩;rw[Hs2];clear h16 hE;cases Hb:s2.is 5 zbq with
 | true =>
   have hty:z9 s2=s2.step:=(by unfold z9;rw[zM2 Hb]);rw[hty];clear hty;go_enter func156,ntmps156;go_wp2_with fail;obtain⟨ns,na,hnv,HNk⟩:=zbw st;have HN:=za (zaZ S pb st (w.alloc (.cells #[.string ⟨#[]⟩,xI 0,xI 0,xI 0,xI 0,.string ⟨#[]⟩,xI 0] 101)) HB (HR.alloc _));rw[hnv] at HN;refine HN.o.mono ?_;rintro e w1 ⟨rfl,HL1,hF1⟩;have hne:¬w.heap.size=pb:=(by omega);have Hh1:=(hF1.block w.heap.size Hz0 hne).trans Hh0;have hz1:=ze Hh1;have HF1:Hid (Fr (·=pb) w w1):=Fr.trans ((Fr.refl _ w).alloc _) hF1;have hlt1:=HL1.lt;have HB1:=za HB.name;have HEx:=za (zP S pb st.name ⟨#[58]⟩ _ znQ (w1.alloc (.cells #[.string ns,xI na,xI 0,xI 0,xI 0,.string ⟨#[]⟩,xI 0] 101)) HB1.o (HL1.alloc _));rw[zan HL1.tx (by decide),Hs2] at HEx;have HB2:Hid (Bad s2):=(by unfold Hid;rw[<- Hs2];exact HB1.o.must 4 [58]);clear hF1 hnv HN;go_wp2_with fail;refine HEx.o.mono ?_;rintro e w2 ⟨rfl,HL2,hF2⟩;have hne1:¬w1.heap.size=pb:=(by omega);have Hh2:=(hF2.block w.heap.size (by simp;omega) hne).trans ((zWP _ _ _ hz1).trans Hh1);have Hv2:=(hF2.block w1.heap.size (by simp) hne1).trans (zc w1 _);have HF2:Hid (Fr (·=pb) w w2):=(HF1.o.alloc _).trans hF2;have hlt2:=HL2.lt;have HSk:=za (zbg S pb s2 ⟨#[98,111,111,108]⟩ _ zjg w2 HB2.o HL2);rw[zar HL2.tx (by decide),Hb] at HSk;have hsk:s2.skipM zbq=s2.step:=(by unfold St.skipM;rw[zar HL2.tx (by decide),Hb];rfl);rw[hsk] at HSk;clear hF2 hsk;go_wp2_with (first|(go_at_call 167;refine (zfm _).mono ?_;rintro e w' ⟨rfl,rfl⟩)|(go_at_call 131;refine HSk.o.mono ?_;rintro e w3 ⟨rfl,HL3,HF3⟩;have Hh3:=(HF3.block w.heap.size (ze Hh2) hne).trans Hh2;have Hv3:=(HF3.block w1.heap.size (ze Hv2) hne1).trans Hv2;obtain⟨a0,a1,a2,a3,a4,a5,a6,af,az⟩:=zbZ Hh3;obtain⟨b0,b1,b2,b3,b4,b5,b6,bf,bz⟩:=zbZ Hv3;have hlt3:=HL3.lt));refine zWR (v:=zlG ns na 1 0 0 ⟨#[]⟩ 0) (zev rfl rfl (zfV (zr (by omega) Hh3) _ _ _ _ _ _ _)) rfl ⟨ns,na,by first|rfl|(rw[Hb];rfl),HNk,?_,?_⟩
   . (repeat (with_reducible refine PL.setOther ?_ hlt _ _));exact HL3.setOther hlt1 _ _
   (repeat (with_reducible refine Fr.setNew ?_ (zMK _) _ _));exact (HF2.o.trans HF3).setNew (by omega) _ _
 | false =>
   have hty:z9 s2=s2.must 5 zlc:=(by unfold z9;rw[zM1 (by rw[Hb];simp)]);rw[hty];clear hty;go_enter func156,ntmps156;go_wp2_with fail;obtain⟨ns,na,hnv,HNk⟩:=zbw st;have HN:=za (zaZ S pb st (w.alloc (.cells #[.string ⟨#[]⟩,xI 0,xI 0,xI 0,xI 0,.string ⟨#[]⟩,xI 0] 101)) HB (HR.alloc _));rw[hnv] at HN;refine HN.o.mono ?_;rintro e w1 ⟨rfl,HL1,hF1⟩;have hne:¬w.heap.size=pb:=(by omega);have Hh1:=(hF1.block w.heap.size Hz0 hne).trans Hh0;have hz1:=ze Hh1;have HF1:Hid (Fr (·=pb) w w1):=Fr.trans ((Fr.refl _ w).alloc _) hF1;have hlt1:=HL1.lt;have HB1:=za HB.name;have HEx:=za (zP S pb st.name ⟨#[58]⟩ _ znQ (w1.alloc (.cells #[.string ns,xI na,xI 0,xI 0,xI 0,.string ⟨#[]⟩,xI 0] 101)) HB1.o (HL1.alloc _));rw[zan HL1.tx (by decide),Hs2] at HEx;have HB2:Hid (Bad s2):=(by unfold Hid;rw[<- Hs2];exact HB1.o.must 4 [58]);clear hF1 hnv HN;go_wp2_with fail;refine HEx.o.mono ?_;rintro e w2 ⟨rfl,HL2,hF2⟩;have hne1:¬w1.heap.size=pb:=(by omega);have Hh2:=(hF2.block w.heap.size (by simp;omega) hne).trans ((zWP _ _ _ hz1).trans Hh1);have Hv2:=(hF2.block w1.heap.size (by simp) hne1).trans (zc w1 _);have HF2:Hid (Fr (·=pb) w w2):=(HF1.o.alloc _).trans hF2;have hlt2:=HL2.lt;have HSk:=za (zbg S pb s2 ⟨#[98,111,111,108]⟩ _ zjg w2 HB2.o HL2);rw[zar HL2.tx (by decide),Hb] at HSk;have hsk:s2.skipM zbq=s2:=(by unfold St.skipM;rw[zar HL2.tx (by decide),Hb];rfl);rw[hsk] at HSk;clear hF2 hsk;have HEx2:=za (λw1 h=>zP S pb s2 ⟨#[105,110,116]⟩ _ zo1 w1 HB2.o h);have htx:=HL2.tx;rw[ze6 htx (by decide)] at HEx2;clear htx;go_wp2_with (first|(go_at_call 167;first|(with_reducible refine (zfm _).mono ?_;rintro e w' ⟨rfl,rfl⟩)|(with_reducible refine (zhC _).mono ?_;rintro e w' ⟨rfl,rfl⟩))|(go_at_call 131;refine HSk.o.mono ?_;rintro e w3 ⟨rfl,HL3,HF3⟩;have Hh3:=(HF3.block w.heap.size (ze Hh2) hne).trans Hh2;have Hv3:=(HF3.block w1.heap.size (ze Hv2) hne1).trans Hv2;obtain⟨a0,a1,a2,a3,a4,a5,a6,af,az⟩:=zbZ Hh3;obtain⟨b0,b1,b2,b3,b4,b5,b6,bf,bz⟩:=zbZ Hv3;have hlt3:=HL3.lt));refine (HEx2.o _ HL3).mono ?_;rintro e w4 ⟨rfl,HL4,HF4⟩;have Hh4:=(HF4.block w.heap.size (ze Hh3) hne).trans Hh3;have hv4:=(HF4.block w1.heap.size (ze Hv3) hne1).trans Hv3;clear a0 a1 a2 a3 a4 a5 a6 af az b0 b1 b2 b3 b4 b5 b6 bf bz;obtain⟨a0,a1,a2,a3,a4,a5,a6,af,az⟩:=zbZ Hh4;obtain⟨b0,b1,b2,b3,b4,b5,b6,bf,bz⟩:=zbZ hv4;clear hv4;go_wp2_with fail;refine zWR (v:=zlG ns na 0 0 0 ⟨#[]⟩ 0) (zev rfl rfl (zfV Hh4 _ _ _ _ _ _ _)) rfl ⟨ns,na,by first|rfl|(rw[Hb];rfl),HNk,?_,?_⟩
   . (repeat (with_reducible refine PL.setOther ?_ hlt _ _));exact HL4
   (repeat (with_reducible refine Fr.setNew ?_ (zMK _) _ _));exact (HF2.o.trans HF3).trans HF4
end
section
open Go.RowKit
theorem zjn (k:Int)(s:Xb)(a n:Int)(w:Xw):(Instr.field 121 (.agg #[xI k,.string s,xI a,xI n]) 2).run prog w=.ok (xI a) w:=by kernel_rfl
theorem zgw {fn:Func}{p:Tmp}(h:fn.results=#[.cell p 99]){tmps:Xa}{b:Nat}{w:Xw}(hp:tmps[p]?.getD undef=xP b){v0 v1 v2 v3:Xv}(hh:xH w b #[v0,v1,v2,v3] 99):(results fn tmps).run prog w=.ok (.agg #[v0,v1,v2,v3]) w:=by obtain⟨c0,c1,c2,c3,_⟩:=zU hh;simp[results,h,hp,go_sem,c0,c1,c2,c3]
theorem zqH (S:Xs)(pb:Nat)(st:St)(w:Xw)(HB:Bad st)(Hk:st.t.k=5)(HR:PL S w pb st) :
 xK 157 #[xP pb] w λe w'=>∃(os:Xb) (oa:Nat),e=.returned (.agg #[xI (if st.step.is 5 zet=true then 2 else 1),xI st.t.a,.string os,xI oa])/\((za3 st.step).t.k=2->os=(za3 st.step).t.s/\oa=(za3 st.step).t.a)/\PL S w' pb (za3 st.step).name/\Fr (·=pb) w w':=by
 have hlt:=HR.lt;have hne:¬w.heap.size=pb:=by omega
 have hfd:=zjn;have Hs:=za (zc8 HB (by omega:st.t.k≠1));have HB1:=za HB.step;obtain⟨s1,hs1⟩:∃s1,st.step=s1:=⟨_,rfl⟩;rw[hs1] at Hs HB1;rw[hs1];cases Hb:s1.is 5 zet with
 | true =>
   have hn:za3 s1=s1.step:=(by unfold za3;rw[zM2 Hb]);rw[hn];obtain⟨os,oa,hnv,HNk⟩:=zbw s1.step;have HN:=za (λw1 h=>zaZ S pb s1.step w1 HB1.o.step h);rw[hnv] at HN;go_enter func157,ntmps157;go_wp2_with fail;refine (zb9 S pb st _ HB.ok (by rw[Hk];decide) (HR.alloc _)).mono ?_;rintro e w1 ⟨rfl,HL1,hF1⟩;rw[Hs.o] at HL1;have Hh1:=(hF1.block w.heap.size (by simp) hne).trans (zc w _);have hz1:=ze Hh1;have hlt1:=HL1.lt;have hne1:¬w1.heap.size=pb:=(by omega);have HF1:Hid (Fr (·=pb) w w1):=((Fr.refl _ w).alloc _).trans hF1;have HSk:=za (λw2 h=>zbg S pb s1 ⟨#[110,111,116]⟩ _ zo7 w2 HB1.o h);have hsk:s1.skipM zet=s1.step:=(by unfold St.skipM;rw[zar HL1.tx (by decide),Hb];rfl);rw[zar HL1.tx (by decide),Hb,hsk] at HSk;simp only[Tk.cval];go_wp2_with (go_at_call 131;refine (HSk.o _ (HL1.alloc _)).mono ?_;rintro e w2 ⟨rfl,HL2,hF2⟩;have Hh2:=(hF2.block w.heap.size (by rw[zsb];omega) hne).trans ((zWP _ _ _ hz1).trans Hh1);have Ho2:=(hF2.block w1.heap.size (by rw[zsb];omega) hne1).trans (zc w1 _);obtain⟨b0,b1,b2,b3,bf,bz⟩:=zU Ho2;have HF2:=za ((HF1.o.alloc _).trans hF2));have Ho2s:=zh w2 w1.heap.size 0 (xI 2) Ho2;refine (HN.o _ (HL2.setOther hlt1 _ _)).mono ?_;rintro e w3 ⟨rfl,HL3,hF3⟩;have Hh3:=(hF3.block w.heap.size (by simp[World.setCell];exact ze Hh2) hne).trans (zr (by omega) Hh2);have ho3:=(hF3.block w1.heap.size (by simp[World.setCell];exact ze Ho2) hne1).trans Ho2s;have HF3:Hid (Fr (·=pb) w w3):=(HF2.o.setNew (by omega) _ _).trans hF3;obtain⟨b0,b1,b2,b3,bf,bz⟩:=zU ho3;obtain⟨a0,a1,a2,a3,af,az⟩:=zU Hh3;go_wp2_with fail;refine zWR (v:=.agg #[xI 2,xI st.t.a,.string os,xI oa]) (zgw rfl rfl (zb7 (zr (by omega) (zr (by omega) Hh3)) _ _ _ _)) rfl ⟨os,oa,rfl,HNk,?_,?_⟩
   . (repeat (with_reducible refine PL.setOther ?_ hlt _ _));exact (HL3.setOther hlt1 _ _).setOther hlt1 _ _
   (repeat (with_reducible refine Fr.setNew ?_ (zMK _) _ _));exact (HF3.o.setNew (by omega) _ _).setNew (by omega) _ _
 | false =>
   have hn:za3 s1=s1:=(by unfold za3;rw[zM1 (by rw[Hb];simp)]);rw[hn];obtain⟨os,oa,hnv,HNk⟩:=zbw s1;have HN:=za (λw1 h=>zaZ S pb s1 w1 HB1.o h);rw[hnv] at HN;go_enter func157,ntmps157;go_wp2_with fail;refine (zb9 S pb st _ HB.ok (by rw[Hk];decide) (HR.alloc _)).mono ?_;rintro e w1 ⟨rfl,HL1,hF1⟩;rw[Hs.o] at HL1;have Hh1:=(hF1.block w.heap.size (by simp) hne).trans (zc w _);have hz1:=ze Hh1;have hlt1:=HL1.lt;have hne1:¬w1.heap.size=pb:=(by omega);have HF1:Hid (Fr (·=pb) w w1):=((Fr.refl _ w).alloc _).trans hF1;have HSk:=za (λw2 h=>zbg S pb s1 ⟨#[110,111,116]⟩ _ zo7 w2 HB1.o h);have hsk:s1.skipM zet=s1:=(by unfold St.skipM;rw[zar HL1.tx (by decide),Hb];rfl);rw[zar HL1.tx (by decide),Hb,hsk] at HSk;simp only[Tk.cval];go_wp2_with (go_at_call 131;refine (HSk.o _ (HL1.alloc _)).mono ?_;rintro e w2 ⟨rfl,HL2,hF2⟩;have Hh2:=(hF2.block w.heap.size (by rw[zsb];omega) hne).trans ((zWP _ _ _ hz1).trans Hh1);have Ho2:=(hF2.block w1.heap.size (by rw[zsb];omega) hne1).trans (zc w1 _);obtain⟨b0,b1,b2,b3,bf,bz⟩:=zU Ho2;have HF2:=za ((HF1.o.alloc _).trans hF2));refine (HN.o _ HL2).mono ?_;rintro e w3 ⟨rfl,HL3,hF3⟩;have Hh3:=(hF3.block w.heap.size (ze Hh2) hne).trans Hh2;have ho3:=(hF3.block w1.heap.size (ze Ho2) hne1).trans Ho2;have HF3:Hid (Fr (·=pb) w w3):=HF2.o.trans hF3;obtain⟨b0,b1,b2,b3,bf,bz⟩:=zU ho3;obtain⟨a0,a1,a2,a3,af,az⟩:=zU Hh3;go_wp2_with fail;refine zWR (v:=.agg #[xI 1,xI st.t.a,.string os,xI oa]) (zgw rfl rfl (zb7 (zr (by omega) (zr (by omega) Hh3)) _ _ _ _)) rfl ⟨os,oa,rfl,HNk,?_,?_⟩
   . (repeat (with_reducible refine PL.setOther ?_ hlt _ _));exact (HL3.setOther hlt1 _ _).setOther hlt1 _ _
   (repeat (with_reducible refine Fr.setNew ?_ (zMK _) _ _));exact (HF3.o.setNew (by omega) _ _).setNew (by omega) _ _
theorem zhc {d:Nat}{f:FuncId}{part:Fn}(hcf:zH f)(hP:zX d f part)(gP:zv d part)(S:Xs)(pb:Nat)(st:St)(p:Nat)(w:Xw)(a:Xp)(x k B:Nat)(HI:Inv p st)(ho:18<=st.op+d)(H4:4<=st.t.k)(hk:zag st.t.s.toList 0=k)(HR:PL S w pb st)(hB:B<=w.heap.size)(hpb:pb<B)(hT:st.er=0->TR w B st.L x (.pointer a)) :
 xK 183 #[xP pb,.pointer a,xI k,.func (.func f) #[xP pb] #[]] w (zaW S pb B w ((part st.step).1.put ⟨st.t.s,st.t.a,0,[x,(part st.step).2],sE,0⟩).1 ((part st.step).1.put ⟨st.t.s,st.t.a,0,[x,(part st.step).2],sE,0⟩).2):=by
 have he:=HI.toBad.er (by omega);have e3:=Fwd.use HI he (by omega);have g4:=gP st.step (p+1) e3.inv (by rw[St.step_op];exact ho);have HB:=za HI.toBad;have HT:=za (hT he);have HP:=za (λw1 h1=>hP S pb st.step (p+1) w1 e3.inv (by rw[St.step_op];exact ho) h1);have Hs:=za (zc8 HI.toBad (by omega:st.t.k≠1));obtain⟨q0,q1,q2,q3,q4,q5,q6⟩:=HR.cells;have hlt:=HR.lt;have hf:=HR.frozen;have Hcf:Hid (zH f):=hcf;unfold zH at hcf;clear hP gP hT he e3;go_enter func183,ntmps183;go_wp2_with (first|(go_at_call 171;refine (zb8 S pb st k _ HR).mono ?_;rintro e w' ⟨rfl,rfl⟩)|(go_at_call 155;refine (zb9 S pb st _ HB.o.ok (zMO (by decide) H4) (HR.alloc _)).mono ?_;rintro e w1 ⟨rfl,HL1,HF1⟩;rw[Hs.o] at HL1));have hne:¬w.heap.size=pb:=by omega
 have hh1:=(HF1.block w.heap.size (Nat.lt_of_lt_of_eq (zMV _) (by simp)) hne).trans (zc w _);have hz1:w.heap.size<w1.heap.size:=ze hh1;refine (HP.o _ HL1).mono ?_;rintro e w2 ⟨a2,rfl,HL2,hT2,HF2⟩;have Hh2:=(HF2.block w.heap.size hz1 hne).trans hh1;obtain⟨d0,d1,d2,d3,d4,d5,df,dz⟩:=zt Hh2;have hz2:=HF2.size;clear hh1;go_wp2_with fail;go_ret;refine⟨some (xD w.heap.size 0),rfl,((HL2.setOther hlt _ _).alloc _).put _,?_,((((((Fr.refl _ w).alloc _).trans HF1).trans HF2).setNew (zMK _) _ _).alloc _)⟩;intro he';obtain⟨E,hE⟩:=g4.L;have t2:=hT2.out he';rw[St.step_L] at hE;have hk5:(w2.setCell (xD w.heap.size 5) (xS w2.heap.size 2 2)).heap.size=w2.heap.size:=by simp[World.setCell]
 refine TR.two (y:=x) (z:=(part st.step).2) (g:=w2.heap.size) (u:=.pointer a) (v:=.pointer a2) hB (by omega) ?_ ?_ rfl ?_ ?_
 . show _=some (Obj.cells #[xI (zag st.t.s.toList 0:Nat),xI st.t.a,.string ⟨#[]⟩,xI (0:Nat),xI (zbF st.t.s.toList 0:Nat),xS w2.heap.size 2 2] 198 (0,0));rw[hk,zbK];exact (zWP _ _ _ (by rw[hk5];exact dz)).trans (zh _ _ _ _ Hh2)
 . have:=zc (w2.setCell (xD w.heap.size 5) (xS w2.heap.size 2 2)) (.cells #[.pointer a,.pointer a2] 156);rw[hk5] at this;exact this
 . rw[hE];exact (HT.o.fr ((((((Fr.refl (·=pb) w).alloc _).trans HF1).trans HF2).setNew (zMK _) _ _).alloc _) (λk h1 _ h2=>by omega)).more E
 exact (t2.fr (((Fr.refl (·=w.heap.size) w2).set1 _ _).alloc _) (λk h1 _ h2=>by omega)).down (by omega)
end
section
open Go.RowKit
variable {l:Xu} {st:St}
def zhp (lv:Nat)(ks:Xn):Prop:=∀st:St,st.t.k<=5->opM st ks=if zco st.t lv=true then some (zag st.t.s.toList 0) else none
theorem zqx (h4:st.t.k≠4)(h5:st.t.k≠5):st.atB l=false:=by unfold St.atB;simp[h4,h5]
theorem zff (h:st.t.k=4∨st.t.k=5):st.atB l=(st.t.s.toList==l):=by unfold St.atB;rcases h with h|h <;> simp[h]
theorem zf1 (h4:st.t.k≠4)(h5:st.t.k≠5):∀ks,opM st ks=none:=by
 intro ks;induction ks with
 | nil=>rfl
 | cons k ks ih=>show (if st.atB (wd k).toList=true then some k else opM st ks)=none;rw[zqx h4 h5,ih];rfl
theorem wdl:(wd 7).toList=[119,104,101,110]/\(wd 8).toList=[119,104,101,110,111,116]/\(wd 10).toList=[45]/\(wd 11).toList=[110,111,116]/\(wd 12).toList=[97,110,100]/\(wd 13).toList=[111,114]/\(wd 14).toList=[120,111,114]/\(wd 15).toList=[61]/\(wd 16).toList=[60,62]/\(wd 17).toList=[60]/\(wd 18).toList=[60,61]/\(wd 19).toList=[43]/\(wd 20).toList=[45]/\(wd 21).toList=[42]/\(wd 22).toList=[47]/\(wd 23).toList=[37]/\(wd 1).toList=[116,114,117,101]/\(wd 2).toList=[102,97,108,115,101]:=by decide +kernel
theorem zpB:zhp 0 [13,14]:=by
 intro st hk;obtain⟨_,_,_,_,_,e13,e14,_⟩:=wdl;by_cases h:st.t.k=4∨st.t.k=5
 . rw[zek h];simp only[opM,zff h,e13,e14];by_cases h1:st.t.s.toList=[111,114]
   . rw[h1];decide
   by_cases h2:st.t.s.toList=[120,111,114]
   . rw[h2];decide
   have:zds st.t.s.toList 0=false:=by unfold zds;rw[zM1 (by simp[h1,h2])];(repeat' split) <;> rfl
   rw[this];simp[h1,h2]
 rw[zf1 (by omega) (by omega),zdQ (by omega)];rfl
theorem zpw:zhp 1 [12]:=by
 intro st hk;obtain⟨_,_,_,_,e12,_⟩:=wdl;by_cases h:st.t.k=4∨st.t.k=5
 . rw[zek h];simp only[opM,zff h,e12];by_cases h1:st.t.s.toList=[97,110,100]
   . rw[h1];decide
   have:zds st.t.s.toList 1=false:=by unfold zds;(repeat' split) <;> first|rfl|contradiction
   rw[this];simp[h1]
 rw[zf1 (by omega) (by omega),zdQ (by omega)];rfl
theorem zqe:zhp 2 [19,20]:=by
 intro st hk;obtain⟨_,_,_,_,_,_,_,_,_,_,_,e19,e20,_⟩:=wdl;by_cases h:st.t.k=4∨st.t.k=5
 . rw[zek h];simp only[opM,zff h,e19,e20];by_cases h1:st.t.s.toList=[43]
   . rw[h1];decide
   by_cases h2:st.t.s.toList=[45]
   . rw[h2];decide
   have:zds st.t.s.toList 2=false:=by unfold zds;(repeat' split) <;> first|rfl|(exfalso;simp_all;done)
   rw[this];simp[h1,h2]
 rw[zf1 (by omega) (by omega),zdQ (by omega)];rfl
theorem zpv:zhp 3 [21,22,23]:=by
 intro st hk;obtain⟨_,_,_,_,_,_,_,_,_,_,_,_,_,e21,e22,e23,_⟩:=wdl;by_cases h:st.t.k=4∨st.t.k=5
 . rw[zek h];simp only[opM,zff h,e21,e22,e23];by_cases h1:st.t.s.toList=[42]
   . rw[h1];decide
   by_cases h2:st.t.s.toList=[47]
   . rw[h2];decide
   by_cases h3:st.t.s.toList=[37]
   . rw[h3];decide
   have:zds st.t.s.toList 3=false:=by unfold zds;(repeat' split) <;> first|rfl|(exfalso;simp_all;done)
   rw[this];simp[h1,h2,h3]
 rw[zf1 (by omega) (by omega),zdQ (by omega)];rfl
end
section
open Go.RowKit
variable {ks:Xn}
def zhn (w:Xw)(kb:Nat)(ks:Xn):Prop:=∀(i k:Nat),ks[i]?=some k->w.cell? (xD kb i)=some (xI k)
theorem zhn.fr {w w':Xw}{kb pb:Nat}(h:zhn w kb ks)(hf:Fr (·=pb) w w')(hne:¬kb=pb)(hk:kb<w.heap.size):zhn w' kb ks:=λi k hi=>((zrw hf).1 kb i hk hne).trans (h i k hi)
theorem zgd {d:Nat}{f:FuncId}{part:Fn}{lv:Nat}(hcf:zH f)(hP:zX d f part)(gP:zv d part)(hlv:zhp lv ks)(hks:ks.length<=100)(h24:∀k∈ks,k<24)
 (S:Xs) (pb:Nat) (st:St) (p:Nat) (w:Xw) (kb n:Nat) (hn:n=ks.length) (hI:Inv p st) (ho:18<=st.op+d) (hR:PL S w pb st) (hK:zhn w kb ks) (hkb:pb<kb) (hkb2:kb<w.heap.size) :
 xK 179 #[xP pb,.func (.func f) #[xP pb] #[],xS kb n n] w (zaW S pb w.heap.size w (zcT lv part st).1 (zcT lv part st).2):=by
 have g1:=gP st p hI ho;have H1:=za (hP S pb st p w hI ho hR);have hM:zcT lv part st=zdq lv part 1300 (part st):=rfl;rw[hM];have hlt:=hR.lt;have HK:=za hK;have G1:=za g1.inv;have N1:=za g1.num;have O1:Hid (18<=(part st).1.op+d):=by unfold Hid;rw[g1.op];exact ho
 have Hn:=za hn;have HP:=za hP;have GP:=za gP;have HLV:=za hlv;have Hcf:=za hcf;unfold zH at hcf;clear hR hM g1 hK hn hP gP hlv;generalize part st=x0 at *;obtain⟨R,hRes⟩:∃R,zdq lv part 1300 x0=R:=⟨_,rfl⟩;rw[hRes];have HRes:=za hRes;clear hRes;go_enter func179,ntmps179;go_wp2_with fail;refine H1.o.mono ?_;rintro e w1 ⟨a1,rfl,hL1,hT1,hF1⟩;have HL1:=za hL1;have HF1:=za hF1;clear hL1 hF1;go_wp2_with fail;go_loopg [7] 1300 (λk l wr=>∃(x:St×Nat) (a:Xp),l=.pointer a/\Hid (zdq lv part k x=R)/\rem x.1<k/\Hid (Inv p x.1)/\Hid (18<=x.1.op+d)/\Hid (PL S wr pb x.1)/\Hid (x.1.er=0->TR wr w.heap.size x.1.L x.2 (.pointer a))/\Hid (Fr (·=pb) w wr));case atStart => refine⟨x0,a1,rfl,HRes.o,?_,G1.o,O1.o,HL1.o,hT1.out,HF1.o⟩;unfold rem;split <;> omega
 case round =>
  obtain⟨x,a,rfl,HF,hrem,HI2,HO2,HL2,HT2,HF2⟩:=hrel;have hlt2:=HL2.o.lt;obtain⟨g,rfl⟩:∃g,gk=g+1:=⟨gk-1,by omega⟩;have HOp:=za (zbd S pb x.1 kb n ks Hn.o hks wr (HK.o.fr HF2.o (by omega) hkb2) h24 HI2.o.ok.tk HL2.o);have hop:=HLV.o x.1 HI2.o.ok.tk;have hz2:=HF2.o.size;cases hl:zco x.1.t lv with
  | false =>
    rw[hl,zM1 (by simp)] at hop;have hR2:R=x:=by
     rw[<- HF.o]
     show (if x.1.er=0/\zco x.1.t lv=true then _ else x)=x;rw[zM1 (by rw[hl];simp)]
    have HR2:=za hR2;rw[hop] at HOp;simp only[opV] at HOp;clear hl hop hR2 HF;go_wp2_with (go_at_call 182;refine HOp.o.mono ?_;rintro e w' ⟨rfl,rfl⟩);go_ret;rw[HR2.o];exact⟨a,rfl,HL2.o,HT2.o,HF2.o⟩
  | true =>
    rw[hl,zM2 rfl] at hop;have hk4:4<=x.1.t.k:=by
     rcases Nat.lt_or_ge x.1.t.k 4 with h|h
     . rw[zdQ (by omega)] at hl;cases hl
     exact h
    have he:=HI2.o.toBad.er (by omega);have e3:=Fwd.use HI2.o he (zgS hl);have g4:=GP.o x.1.step (p+1) e3.inv (by rw[St.step_op];exact HO2.o);have HFn:Hid (zdq lv part g ((part x.1.step).1.put ⟨x.1.t.s,x.1.t.a,0,[x.2,(part x.1.step).2],sE,0⟩)=R):=by
     have h:=HF.o;unfold Hid;rw[<- h]
     show _=(if x.1.er=0/\zco x.1.t lv=true then _ else x);rw[zM2 ⟨he,hl⟩]
    have hput:Hid (Inv p ((part x.1.step).1.put ⟨x.1.t.s,x.1.t.a,0,[x.2,(part x.1.step).2],sE,0⟩).1):=(Fwd.put g4.inv _).inv;have hopn:Hid (18<=((part x.1.step).1.put ⟨x.1.t.s,x.1.t.a,0,[x.2,(part x.1.step).2],sE,0⟩).1.op+d):=(by unfold Hid;show 18<=(part x.1.step).1.op+d;rw[g4.op,St.step_op];exact HO2.o);have hrem':Hid (rem ((part x.1.step).1.put ⟨x.1.t.s,x.1.t.a,0,[x.2,(part x.1.step).2],sE,0⟩).1<g):=by
     unfold Hid rem
     show (if (part x.1.step).1.er=0 then 1201-(part x.1.step).1.t.a else 0)<g;have h1:rem x.1=1201-x.1.t.a:=(by unfold rem;rw[zM2 he]);have h2:=g4.ta;have h3:x.1.t.a+1<=x.1.step.t.a:=(by have:=HI2.o.tok (zgS hl);rw[St.step_ok he];have hf:=zV x.1.src x.1.t.t HI2.o.ok.tt;simp only;omega);have h4:=g4.inv.ok.ta_le;have h5:=HI2.o.ok.ta_le;split <;> omega
    have HBe:=za (zhc Hcf.o HP.o GP.o S pb x.1 p wr a x.2 _ w.heap.size HI2.o HO2.o hk4 rfl HL2.o hz2 hlt HT2.o);rw[hop] at HOp;simp only[opV] at HOp;clear hl hop HF he e3 g4 hk4;generalize (part x.1.step).1.put ⟨x.1.t.s,x.1.t.a,0,[x.2,(part x.1.step).2],sE,0⟩=y at *;generalize zag x.1.t.s.toList 0=kk at *;go_wp2_with (first|(go_at_call 182;refine HOp.o.mono ?_;rintro e w' ⟨rfl,rfl⟩)|(go_at_call 183;refine HBe.o.mono ?_;rintro e w3 ⟨a3,rfl,hL3,hT3,hF3⟩;have HL3:=za hL3;have HF3:=za hF3;clear hL3 hF3));go_roundg g;case measure=>omega
    exact⟨y,a3,rfl,HFn,hrem'.out,hput,hopn,HL3.o,hT3.out,HF2.o.trans HF3.o⟩
end
section
open Go.RowKit
variable {part:Fn} {d:Nat}
theorem zcD (w:Xw)(ks:Xn)(arr:Xa)(t:Xy)(h:arr=(ks.map λk:Nat=>(xI (k:Int))).toArray):zhn (w.alloc (.cells arr t)) w.heap.size ks:=by intro i k hi;subst h;have:=zc w (.cells (ks.map λk:Nat=>(xI (k:Int))).toArray t);unfold World.cell?;rw[this];simp[hi]
theorem zaW.alloc {S:Xs}{pb B:Nat}{w:Xw}{o:Obj}{st':St}{r:Nat}{e:Ending}{w':Xw}(h:zaW S pb B (w.alloc o) st' r e w')(hB:w.heap.size<=B):zaW S pb w.heap.size w st' r e w':=by obtain⟨a,h1,h2,h3,h4⟩:=h;exact⟨a,h1,h2,λhe=>(h3.out he).down hB,((Fr.refl _ w).alloc o).trans h4⟩
theorem zaF (w:Xw)(o:Obj):w.heap.size<=(w.alloc o).heap.size:=by simp
theorem zqc:zH 180:=λ_ _=>by kernel_rfl
theorem zlW (hP:zX d 180 part)(gP:zv d part):zX d 170 (zcT 0 part):=by intro S pb st p w hI ho hR;have hlt:=hR.lt;have H1:=za (zgd zqc hP gP zpB (by decide) (by decide) S pb st p (w.alloc (.cells #[xI 13,xI 14] 195)) w.heap.size 2 rfl hI ho (hR.alloc _) (zcD w [13,14] _ _ rfl) hlt (by simp));generalize zcT 0 part st=R at *;go_enter func170,ntmps170;go_wp2_with fail;refine H1.o.mono ?_;rintro e w1 h1;obtain⟨a,rfl,h2,h3,h4⟩:=h1.alloc (zaF _ _);go_wp2_with fail;go_ret;exact⟨a,rfl,h2,h3,h4⟩
theorem zqk:zH 184:=λ_ _=>by kernel_rfl
theorem znl (hP:zX d 184 part)(gP:zv d part):zX d 180 (zcT 1 part):=by intro S pb st p w hI ho hR;have hlt:=hR.lt;have H1:=za (zgd zqk hP gP zpw (by decide) (by decide) S pb st p (w.alloc (.cells #[xI 12] 195)) w.heap.size 1 rfl hI ho (hR.alloc _) (zcD w [12] _ _ rfl) hlt (by simp));generalize zcT 1 part st=R at *;go_enter func180,ntmps180;go_wp2_with fail;refine H1.o.mono ?_;rintro e w1 h1;obtain⟨a,rfl,h2,h3,h4⟩:=h1.alloc (zaF _ _);go_wp2_with fail;go_ret;exact⟨a,rfl,h2,h3,h4⟩
theorem zk7:zH 192:=λ_ _=>by kernel_rfl
theorem zp2 (hP:zX d 192 part)(gP:zv d part):zX d 187 (zcT 2 part):=by intro S pb st p w hI ho hR;have hlt:=hR.lt;have H1:=za (zgd zk7 hP gP zqe (by decide) (by decide) S pb st p (w.alloc (.cells #[xI 19,xI 20] 195)) w.heap.size 2 rfl hI ho (hR.alloc _) (zcD w [19,20] _ _ rfl) hlt (by simp));generalize zcT 2 part st=R at *;go_enter func187,ntmps187;go_wp2_with fail;refine H1.o.mono ?_;rintro e w1 h1;obtain⟨a,rfl,h2,h3,h4⟩:=h1.alloc (zaF _ _);go_wp2_with fail;go_ret;exact⟨a,rfl,h2,h3,h4⟩
theorem zn6:zH 198:=λ_ _=>by kernel_rfl
theorem zkb (hP:zX d 198 part)(gP:zv d part):zX d 192 (zcT 3 part):=by intro S pb st p w hI ho hR;have hlt:=hR.lt;have H1:=za (zgd zn6 hP gP zpv (by decide) (by decide) S pb st p (w.alloc (.cells #[xI 21,xI 22,xI 23] 195)) w.heap.size 3 rfl hI ho (hR.alloc _) (zcD w [21,22,23] _ _ rfl) hlt (by simp));generalize zcT 3 part st=R at *;go_enter func192,ntmps192;go_wp2_with fail;refine H1.o.mono ?_;rintro e w1 h1;obtain⟨a,rfl,h2,h3,h4⟩:=h1.alloc (zaF _ _);go_wp2_with fail;go_ret;exact⟨a,rfl,h2,h3,h4⟩
theorem zqF:zH 187:=λ_ _=>by kernel_rfl
theorem zkz (st:St)(_hk:st.t.k<=5)(hT:Tx st.src st.t):opM st [15,16,17,18]=if zcn st.t=true then some (zag st.t.s.toList 0) else none:=by
 obtain⟨_,_,_,_,_,_,_,e15,e16,e17,e18,_⟩:=wdl;by_cases h:st.t.k=4∨st.t.k=5
 . simp only[opM,zff h,e15,e16,e17,e18];by_cases hq:st.t.s.toList=[61]∨st.t.s.toList=[60,62]∨st.t.s.toList=[60]∨st.t.s.toList=[60,61]
   . have h4:st.t.k=4:=by
      rcases h with h|h
      . exact h
      have:=hT.kw h;unfold zcW at this;rcases hq with hq|hq|hq|hq <;> (rw[hq] at this;exact absurd this (by decide))
     unfold zcn;rw[h4];rcases hq with hq|hq|hq|hq <;> (rw[hq];decide)
   simp only[not_or] at hq;obtain⟨h1,h2,h3,h4⟩:=hq;unfold zcn;simp[h1,h2,h3,h4]
 rw[zf1 (by omega) (by omega)];have h4:(st.t.k==4)=false:=by simp;omega
 have:zcn st.t=false:=by unfold zcn;rw[h4];rfl
 rw[this];rfl
theorem zne (HP:zX d 187 part)(GP:zv d part):zX d 184 (zdJ part):=by
 intro S pb st p w hI ho hR;have hlt:=hR.lt;have H1:=za (HP S pb st p w hI ho hR);have g1:=GP st p hI ho;have G1:=za g1.inv;have O1:Hid (18<=(part st).1.op+d):=by unfold Hid;rw[g1.op];exact ho
 have hM:zdJ part st=if (part st).1.er=0/\zcn (part st).1.t=true then (part (part st).1.step).1.put ⟨(part st).1.t.s,(part st).1.t.a,0,[(part st).2,(part (part st).1.step).2],sE,0⟩ else part st:=rfl;generalize part st=x at *;cases Hl:zcn x.1.t with
 | false => have hM2:zdJ part st=x:=(by rw[hM,zM1 (by rw[Hl];simp)]);rw[hM2];go_enter func184,ntmps184;go_wp2_with fail;refine H1.o.mono ?_;rintro e w1 ⟨a1,rfl,HL1,hT1,HF1⟩;have HOp:=za (zbd S pb x.1 w1.heap.size 4 [15,16,17,18] rfl (by decide) (w1.alloc (.cells #[xI 15,xI 16,xI 17,xI 18] 195)) (zcD w1 _ _ _ rfl) (by decide) G1.o.ok.tk (HL1.alloc _));rw[zkz x.1 G1.o.ok.tk HL1.tx,Hl,zM1 (by simp)] at HOp;simp only[opV] at HOp;go_wp2_with (go_at_call 182;refine HOp.o.mono ?_;rintro e w' ⟨rfl,rfl⟩);go_ret;exact⟨a1,rfl,HL1.alloc _,λhe=>(hT1.out he).fr ((Fr.refl (·=pb) w1).alloc _) (λk _ _ _=>by omega),HF1.alloc _⟩
 | true => have Hk4:4<=x.1.t.k:=(by unfold zcn at Hl;simp at Hl;omega);have he:=G1.o.toBad.er (by omega);have hM2:zdJ part st=(part x.1.step).1.put ⟨x.1.t.s,x.1.t.a,0,[x.2,(part x.1.step).2],sE,0⟩:=(by rw[hM,zM2 ⟨he,Hl⟩]);rw[hM2];go_enter func184,ntmps184;go_wp2_with fail;refine H1.o.mono ?_;rintro e w1 ⟨a1,rfl,HL1,hT1,HF1⟩;have HOp:=za (zbd S pb x.1 w1.heap.size 4 [15,16,17,18] rfl (by decide) (w1.alloc (.cells #[xI 15,xI 16,xI 17,xI 18] 195)) (zcD w1 _ _ _ rfl) (by decide) G1.o.ok.tk (HL1.alloc _));rw[zkz x.1 G1.o.ok.tk HL1.tx,Hl,zM2 rfl] at HOp;simp only[opV] at HOp;have hz:=HF1.size;have HBe:=za (zhc zqF HP GP S pb x.1 p (w1.alloc (.cells #[xI 15,xI 16,xI 17,xI 18] 195)) a1 x.2 _ w.heap.size G1.o O1.o Hk4 rfl (HL1.alloc _) (by simp;omega) hlt (λhe=>(hT1.out he).fr ((Fr.refl (·=pb) w1).alloc _) (λk _ _ _=>by omega)));generalize (part x.1.step).1.put ⟨x.1.t.s,x.1.t.a,0,[x.2,(part x.1.step).2],sE,0⟩=y at *;generalize zag x.1.t.s.toList 0=kk at *;go_wp2_with (first|(go_at_call 182;refine HOp.o.mono ?_;rintro e w' ⟨rfl,rfl⟩)|(go_at_call 183;refine HBe.o.mono ?_;rintro e w3 ⟨a3,rfl,HL3,hT3,HF3⟩));go_ret;exact⟨a3,rfl,HL3,hT3,(HF1.alloc _).trans HF3⟩
end
end Go.Proofs.YtenadialhccdiaaGreatDoor
