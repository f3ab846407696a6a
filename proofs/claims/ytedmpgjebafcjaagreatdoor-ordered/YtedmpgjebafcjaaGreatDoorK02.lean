/- Part 3 of the proof: CodD CodQ CodR MdlG. -/
import Derived.Test.YtedmpgjebafcjaaGreatDoorK01
set_option maxRecDepth 100000
set_option maxHeartbeats 8000000
namespace Go.Proofs.YtedmpgjebafcjaaGreatDoor
section
open Go.RowKit
def Tk.cval (src:ByteArray) (t:Tk):Value:=.agg #[.int .i64 (ck t),.string (cs src t),.int .i64 t.a,.int .i64 (cn t)]
theorem znL (s:ByteArray) (a:Nat) (ha:a<=s.size):zhy (s.extract a s.size) a=(zfg s a).cval s:=by
 have h1:=zf3 inW s a ha
 have h2:=zcr inW s a ha
 have h3:=zdB inW s a
 obtain ⟨n,hn⟩:∃n,zQ inW (s.extract a s.size) 0=n:=⟨_,rfl⟩
 rw [hn] at h1
 have hx:(s.extract a s.size).extract 0 n=s.extract a (zQ inW s a):=by rw [zcL s a n (by omega),<- h1];congr 1;omega
 unfold zhy zfg
 simp only [hn,hx]
 have hz:(s.extract a (zQ inW s a)).size=zQ inW s a-a:=by rw [ByteArray.size_extract];omega
 rw [hz]
 cases hk:zcW (s.extract a (zQ inW s a)) with
 | true=>rfl
 | false =>
   by_cases hl:zQ inW s a-a<=12
   · have hl2:¬zQ inW s a-a > 12:=by omega
     simp [hl,hl2,Tk.cval,zaw,ck,cs,cn]
   · have hl2:zQ inW s a-a > 12:=by omega
     simp [hl,hl2,Tk.cval,zaw,ck,cs,cn]
theorem znr (s:ByteArray) (a:Nat) (ha:a<=s.size):∀f i x,zdt (s.extract a s.size) f i x=zdt s f (a+i) x:=by
 intro f
 induction f with
 | zero=>intro i x;rfl
 | succ f ih =>
   intro i x
   show (if i<(s.extract a s.size).size/\zT (bt (s.extract a s.size) i)=true then _ else x)=(if a+i<s.size/\zT (bt s (a+i))=true then _ else x)
   rw [zbN s a ha,zfd s a i ha]
   by_cases h:i<s.size-a/\zT (bt s (a+i))=true
   · rw [if_pos h,if_pos (show a+i<s.size/\zT (bt s (a+i))=true from ⟨by omega,h.2⟩),ih (i+1)];rfl
   · rw [if_neg h,if_neg (show ¬(a+i<s.size/\zT (bt s (a+i))=true) from λh2=>h ⟨by omega,h2.2⟩)]
theorem zpa (s:ByteArray) (a:Nat) (ha:a<=s.size):zlt (s.extract a s.size) a=(zgc s a).cval s:=by
 have h1:=zf3 zT s a ha
 have h2:=zcr zT s a ha
 obtain ⟨n,hn⟩:∃n,zQ zT (s.extract a s.size) 0=n:=⟨_,rfl⟩
 rw [hn] at h1
 have hx:(s.extract a s.size).extract 0 n=s.extract a (zQ zT s a):=by rw [zcL s a n (by omega),<- h1];congr 1;omega
 unfold zlt zgc
 rw [znr s a ha,zbN s a ha]
 simp only [hn,hx,Nat.add_zero,Nat.sub_zero]
 cases hk:(zdt s (s.size-a) a (true,0)).1 with
 | true=>rfl
 | false=>rfl
theorem zod (s:ByteArray) (a:Nat) (ha:a<s.size):ziQ (s.extract a s.size) a=(zfh s a).cval s:=by
 unfold ziQ zfh
 rw [zbN s a (by omega),zfd s a 0 (by omega)]
 have e1:(s.extract a s.size).extract 0 1=s.extract a (a+1):=zcL s a 1 (by omega)
 have hcond:(2<=s.size-a/\(((s.extract a s.size).extract 0 2).toList==[45,62]||((s.extract a s.size).extract 0 2).toList==[60,62]||((s.extract a s.size).extract 0 2).toList==[60,61])=true)=(a+2<=s.size/\((s.extract a (a+2)).toList==[45,62]||(s.extract a (a+2)).toList==[60,62]||(s.extract a (a+2)).toList==[60,61])=true):=by
  apply propext
  by_cases h2:a+2<=s.size
  · rw [zcL s a 2 h2]
    constructor <;> (rintro ⟨g1,g2⟩;exact ⟨by omega,g2⟩)
  · constructor <;> (rintro ⟨g1,_⟩;omega)
 by_cases hc:(a+2<=s.size/\((s.extract a (a+2)).toList==[45,62]||(s.extract a (a+2)).toList==[60,62]||(s.extract a (a+2)).toList==[60,61])=true)
 · rw [if_pos (hcond▸hc),if_pos hc,zcL s a 2 hc.1];rfl
 · rw [if_neg (hcond▸hc),if_neg hc,e1]
   simp only [Nat.add_zero]
   split <;> rfl
theorem zi0 (S:Nat->Addr) (s:ByteArray) (p:Nat) (w:World) (hs:s.size<=1200) (hp:p<=s.size) (hG:Gl S w):Calls Tryz.prog 55 #[.string s,.int .i64 p] w λe w'=>e=.returned ((zZ s p).cval s)/\Below w.heap.size w w':=by
 have hsz1:=zbN s p hp
 have hsp:=zf3 zbY s p hp
 have hle:=zdB zbY s p
 have hle2:=zcr zbY s p hp
 obtain ⟨n,hn⟩:∃n,zQ zbY (s.extract p s.size) 0=n:=⟨_,rfl⟩
 rw [hn] at hsp
 have Hn:=za hn
 have HSp:=za (zdv _ zbY zlA zkj (s.extract p s.size) (by omega))
 rw [hn] at HSp
 have HN:Hid (zZ s p=if zQ zbY s p=s.size then ⟨0,zQ zbY s p,zQ zbY s p,⟨#[]⟩,0⟩ else if zeM (bt s (zQ zbY s p)) then zfg s (zQ zbY s p) else if zT (bt s (zQ zbY s p)) then zgc s (zQ zbY s p) else zfh s (zQ zbY s p)):=rfl
 generalize zQ zbY s p=q at *
 have HG:=za hG
 have hpn:IntKind.i64.wrap ((p:Int)+(n:Int))=(q:Nat):=by rw [IntKind.wrap_i64];omega
 have hpn':(p:Int)+(n:Int)=(q:Nat):=by omega
 have hq1200:q<=1200:=by omega
 have hrz:(s.extract q s.size).size=s.size-q:=zbN s q hle2
 clear hn hG hsz1
 by_cases hq:q=s.size
 · have hem:(s.extract q s.size).toList.isEmpty=true:=by
    rw [List.isEmpty_iff,<- List.length_eq_zero_iff,zd7,hrz];omega
   rw [if_pos hq] at HN
   have Hq:=za hq
   clear hq
   go_enter Tryz.func55,Tryz.ntmps55
   go_wp2_with (go_at_call 85;refine (HSp.out _).mono ?_;rintro e w' ⟨rfl,rfl⟩)
   refine bodyPost_ret (v:=zaw 1 ⟨#[]⟩ q 0) (by simp [results,Tryz.results55,go_sem,zaw]) rfl ⟨by rw [HN.out];rfl,(Below.refl _ _).alloc (Nat.le_refl _) _⟩
 · have hlt:q<s.size:=by omega
   have hem:(s.extract q s.size).toList.isEmpty=false:=by
    rw [Bool.eq_false_iff];intro h;rw [List.isEmpty_iff,<- List.length_eq_zero_iff,zd7,hrz] at h;omega
   have hr0:0<(s.extract q s.size).size:=by omega
   have hb0:=ziM hr0
   rw [zfd s q 0 hle2,Nat.add_zero] at hb0
   have Hb0:=za hb0
   rw [if_neg hq] at HN
   obtain ⟨c,hc⟩:∃c,bt s q=c:=⟨_,rfl⟩
   rw [hc] at hb0 HN
   have Hc:=za hc
   have hrs:(s.extract q s.size).size<=1200:=by omega
   have HWd:=za (znL s q hle2)
   have HDg:=za (zpa s q hle2)
   have HSg:=za (zod s q hlt)
   have HWc:=za (λw1=>znH (s.extract q s.size) hrs q w1)
   have HSc:=za (λw1=>znT (s.extract q s.size) hrs hr0 q w1)
   clear hc hq
   cases hl:zeM c with
   | true =>
     rw [hl,if_pos rfl] at HN
     have Hl:=za hl
     clear hl
     go_enter Tryz.func55,Tryz.ntmps55
     go_wp2_with (first|(go_at_call 85;refine (HSp.out _).mono ?_;rintro e w' ⟨rfl,rfl⟩)|(go_at_call 87;refine (zb2 c _).mono ?_;rintro e w' ⟨rfl,rfl⟩;rw [Hl.out]))
     refine (HWc.out _).mono ?_
     rintro e w2 ⟨rfl,hb2⟩
     rw [HWd.out]
     have hh2:=(hb2.block w.heap.size (Nat.lt_of_lt_of_eq (Nat.lt_succ_self _) (by simp))).trans (zc w _)
     obtain ⟨d0,d1,d2,d3,df,dz⟩:=zU hh2
     have Hh2:=za hh2
     have Hb2:=za hb2
     clear hb2 hh2
     simp only [Tk.cval]
     go_wp2_with fail
     refine bodyPost_ret (v:=(zZ s p).cval s) (by rw [HN.out];exact zb6 rfl rfl (zb7 Hh2.out _ _ _ _)) rfl ⟨rfl,?_⟩
     exact (((((zeu Hb2.out).setCell (Nat.le_refl _) _).setCell (Nat.le_refl _) _).setCell (Nat.le_refl _) _).setCell (Nat.le_refl _) _)
   | false =>
     rw [hl,if_neg (by simp)] at HN
     have Hl:=za hl
     clear hl
     cases hd:zT c with
     | true =>
       rw [hd,if_pos rfl] at HN
       have HDc:=za (λw1 h=>zl0 S (s.extract q s.size) hrs hr0 (by rw [zfd s q 0 hle2,Nat.add_zero,Hc.out];exact hd) q w1 h)
       have Hd:=za hd
       have hG1:=HG.out.of (T:=λ_=>False) ((Fr.refl _ w).alloc (.cells #[.int .i64 0,.string ⟨#[]⟩,.int .i64 0,.int .i64 0] 144)) (λ_ h=>h.elim)
       have HG1:=za hG1
       clear hd hG1
       go_enter Tryz.func55,Tryz.ntmps55
       go_wp2_with (first|(go_at_call 85;refine (HSp.out _).mono ?_;rintro e w' ⟨rfl,rfl⟩)|(go_at_call 87;refine (zb2 c _).mono ?_;rintro e w' ⟨rfl,rfl⟩;rw [Hl.out])|(go_at_call 89;refine (zcp c _).mono ?_;rintro e w' ⟨rfl,rfl⟩;rw [Hd.out]))
       refine (HDc.out _ HG1.out).mono ?_
       rintro e w2 ⟨rfl,hb2⟩
       rw [HDg.out]
       have hh2:=(hb2.block w.heap.size (Nat.lt_of_lt_of_eq (Nat.lt_succ_self _) (by simp))).trans (zc w _)
       obtain ⟨d0,d1,d2,d3,df,dz⟩:=zU hh2
       have Hh2:=za hh2
       have Hb2:=za hb2
       clear hb2 hh2
       simp only [Tk.cval]
       go_wp2_with fail
       refine bodyPost_ret (v:=(zZ s p).cval s) (by rw [HN.out];exact zb6 rfl rfl (zb7 Hh2.out _ _ _ _)) rfl ⟨rfl,?_⟩
       exact (((((zeu Hb2.out).setCell (Nat.le_refl _) _).setCell (Nat.le_refl _) _).setCell (Nat.le_refl _) _).setCell (Nat.le_refl _) _)
     | false =>
       rw [hd,if_neg (by simp)] at HN
       have Hd:=za hd
       clear hd
       go_enter Tryz.func55,Tryz.ntmps55
       go_wp2_with (first|(go_at_call 85;refine (HSp.out _).mono ?_;rintro e w' ⟨rfl,rfl⟩)|(go_at_call 87;refine (zb2 c _).mono ?_;rintro e w' ⟨rfl,rfl⟩;rw [Hl.out])|(go_at_call 89;refine (zcp c _).mono ?_;rintro e w' ⟨rfl,rfl⟩;rw [Hd.out]))
       refine (HSc.out _).mono ?_
       rintro e w2 ⟨rfl,hb2⟩
       rw [HSg.out]
       have hh2:=(hb2.block w.heap.size (Nat.lt_of_lt_of_eq (Nat.lt_succ_self _) (by simp))).trans (zc w _)
       obtain ⟨d0,d1,d2,d3,df,dz⟩:=zU hh2
       have Hh2:=za hh2
       have Hb2:=za hb2
       clear hb2 hh2
       simp only [Tk.cval]
       go_wp2_with fail
       refine bodyPost_ret (v:=(zZ s p).cval s) (by rw [HN.out];exact zb6 rfl rfl (zb7 Hh2.out _ _ _ _)) rfl ⟨rfl,?_⟩
       exact (((((zeu Hb2.out).setCell (Nat.le_refl _) _).setCell (Nat.le_refl _) _).setCell (Nat.le_refl _) _).setCell (Nat.le_refl _) _)
theorem zqT (S:Nat->Addr) (pb:Nat) (st:St) (s:ByteArray) (w:World) (hR:PL S w pb st):Calls Tryz.prog 92 #[.pointer (some ⟨pb,0,none⟩),.string s] w λe w'=>e=.returned (.bool (ck st.t==2&&(cs st.src st.t).toList==s.toList))/\w=w':=by
 obtain ⟨h0,h1,h2,h3,h4,h5,h6⟩:=hR.cells
 clear hR
 by_cases hk:ck st.t=2
 · have hk':((ck st.t:Int)==2)=true:=beq_iff_eq.2 (by omega)
   have H:Hid ((ck st.t==2)=true):=by unfold Hid;simp [hk]
   clear hk
   go_enter Tryz.func92,Tryz.ntmps92
   go_wp2
   go_ret
   exact ⟨by rw [H.out];simp,rfl⟩
 · have hk':((ck st.t:Int)==2)=false:=beq_eq_false_iff_ne.2 (by omega)
   have H:Hid ((ck st.t==2)=false):=by unfold Hid;simp [hk]
   clear hk
   go_enter Tryz.func92,Tryz.ntmps92
   go_wp2
   go_ret
   exact ⟨by rw [H.out];rfl,rfl⟩
theorem zi3 (S:Nat->Addr) (k:Nat) (a:Nat) (w:World):Calls Tryz.prog 44 #[.iface 293 (.pointer (some (S k))),.int .i64 a] w λe w'=>e=.returned (.agg #[.iface 293 (.pointer (some (S k))),.int .i64 a])/\Below w.heap.size w w':=by
 go_enter Tryz.func44,Tryz.ntmps44
 go_wp2
 exact bodyPost_ret (v:=.agg #[.iface 293 (.pointer (some (S k))),.int .i64 a]) (by simp [results,Tryz.results44,go_sem]) rfl ⟨rfl,(Below.refl _ _).alloc (Nat.le_refl _) _⟩
theorem zc5 (S:Nat->Addr) (pb:Nat) (st:St) (e:Nat) (he:e≠0) (w:World) (hR:PL S w pb st):Calls Tryz.prog 94 #[.pointer (some ⟨pb,0,none⟩),.iface 293 (.pointer (some (S e)))] w λe' w'=>e'=.returned (.tuple #[])/\PL S w' pb (st.fail e st.t.a)/\Fr (·=pb) w w':=by
 have hf:=hR.frozen
 have hlt:=hR.lt
 obtain ⟨h0,h1,h2,h3,h4,h5,h6⟩:=hR.cells
 have He:=za he
 have HR:=za hR
 clear hR
 by_cases hr:st.er=0
 · have HE:Hid (st.fail e st.t.a={ st with er:=e,at':=st.t.a,t:=⟨1,st.t.a,st.t.t,⟨#[]⟩,0⟩ }):=by unfold Hid St.fail;rw [if_pos hr]
   rw [show za2 S st.er st.at'=.nilIface by simp [za2,hr]] at h6
   clear hr he
   go_enter Tryz.func94,Tryz.ntmps94
   go_wp2_with (go_at_call 44;refine (zi3 S _ _ _).mono ?_;rintro e1 w1 ⟨rfl,hb1⟩;have Hb1:=za hb1;obtain ⟨hc1,hf1⟩:=zoV hb1;have hz1:=hb1.size;clear hb1)
   go_end0
   refine ⟨rfl,?_,?_⟩
   · have P:=((HR.out.below Hb1.out).setErr e st.t.a).setTok ⟨1,st.t.a,st.t.t,⟨#[]⟩,0⟩ (zl7 _ _ _)
     rw [show za2 S e st.t.a=.iface 74 (.agg #[sen S e,.int .i64 st.t.a]) by simp [za2,He.out]] at P
     rw [HE.out]
     exact P
   · exact (((((((Fr.refl _ w).belowed Hb1.out).set1 _ _).set1 _ _).set1 _ _).set1 _ _).set1 _ _)
 · have HE:Hid (st.fail e st.t.a={ st with t:=⟨1,st.t.a,st.t.t,⟨#[]⟩,0⟩ }):=by unfold Hid St.fail;rw [if_neg hr]
   rw [show za2 S st.er st.at'=.iface 74 (.agg #[sen S st.er,.int .i64 st.at']) by simp [za2,hr]] at h6
   clear hr he
   go_enter Tryz.func94,Tryz.ntmps94
   go_wp2
   go_end0
   refine ⟨rfl,?_,?_⟩
   · rw [HE.out]
     exact HR.out.setTok ⟨1,st.t.a,st.t.t,⟨#[]⟩,0⟩ (zl7 _ _ _)
   · exact ((((Fr.refl _ w).set1 _ _).set1 _ _).set1 _ _).set1 _ _
theorem zmj (S:Nat->Addr) (s:ByteArray) (pi:Int) (p:Nat) (hpi:pi=p) (w:World) (hs:s.size<=1200) (hp:p<=s.size) (hG:Gl S w):Calls Tryz.prog 55 #[.string s,.int .i64 pi] w λe w'=>e=.returned ((zZ s p).cval s)/\Below w.heap.size w w':=by
 subst hpi;exact zi0 S s p w hs hp hG
theorem zb9 (S:Nat->Addr) (pb:Nat) (st:St) (w:World) (hO:st.Ok) (hk:2<=st.t.k) (hR:PL S w pb st):Calls Tryz.prog 157 #[.pointer (some ⟨pb,0,none⟩)] w λe' w'=>e'=.returned (st.t.cval st.src)/\PL S w' pb { st with t:=zZ st.src st.t.t }/\Fr (·=pb) w w':=by
 have hf:=hR.frozen
 have hlt:=hR.lt
 have hne:¬w.heap.size=pb:=by omega
 have hne':¬pb=w.heap.size:=by omega
 obtain ⟨h0,h1,h2,h3,h4,h5,h6⟩:=hR.cells
 have g1:=hO.src;have g2:=hO.tt;have g3:=hO.ta
 have hz:(cs st.src st.t).size=st.t.t-st.t.a:=by rw [zrl hR.tx,if_pos hk,ByteArray.size_extract];omega
 have hpi:IntKind.i64.wrap ((st.t.a:Int)+((cs st.src st.t).size:Int))=(st.t.t:Nat):=by rw [hz,IntKind.wrap_i64];omega
 have HZ:=za hpi
 have hcz:(cs st.src st.t).size<=1200:=by omega
 have HR:=za hR
 have HO:=za hO
 clear hR hO hk hz hpi
 generalize hcs:cs st.src st.t=C at *
 go_enter Tryz.func157,Tryz.ntmps157
 go_wp2_with fail
 go_region_with (go_at_call 55;refine (zmj S _ _ st.t.t HZ.out _ HO.out.src HO.out.tt (((HR.out.alloc _).alloc _).drew.gl)).mono ?_;rintro e w1 ⟨rfl,hb1⟩;replace hb1:=zw hb1;have HL1:Hid (PL S w1 pb st):=((HR.out.alloc _).alloc _).below hb1;have HF1:Hid (Fr (·=pb) w w1):=(((Fr.refl _ _).alloc _).alloc _).belowed hb1;obtain ⟨g0,g1,g2,g3,g4,g5,g6⟩:=HL1.out.cells;have gf:=HL1.out.frozen;have hlt1:=HL1.out.lt;have Hb1:=za hb1;obtain ⟨hc1,hf1⟩:=zoV hb1;have hz1:=hb1.size;clear hb1;simp only [Tk.cval])
 all_goals go_wp2_with fail
 all_goals
  have hh:w1.heap[w.heap.size]?=some (.cells #[.int .i64 0,.string ⟨#[]⟩,.int .i64 0,.int .i64 0] 144 (0,0)):=(Hb1.out.block _ (by simp;omega)).trans ((Below.heap_alloc _ _ _ (by simp)).trans (zc _ _))
  refine bodyPost_ret (v:=st.t.cval st.src) (by unfold Tk.cval;rw [hcs];exact zb6 rfl rfl (zb7 (zr hne (zr hne (zr hne (zr hne hh)))) _ _ _ _)) rfl ⟨rfl,?_,?_⟩
  · generalize hT:zZ st.src st.t.t=T
    have ht:=zkH st.src st.t.t
    rw [hT] at ht
    (repeat (with_reducible refine PL.setOther ?_ hlt _ _));exact HL1.out.setTok T ht
  · (repeat (first|with_reducible refine Fr.setNew ?_ (Nat.le_refl _) _ _|with_reducible refine Fr.set1 ?_ _ _));exact HF1.out
end
section
def zv (d:Nat) (M:Fn):Prop:=∀(st:St) (p:Nat),Inv p st->18<=st.op+d->zaN M st p
theorem Inv.is_ok {p:Nat} {st:St} (h:Inv p st) {k:Nat} {l:List UInt8} (hk:k≠1) (hi:st.is k l=true):st.er=0:=by
 by_cases he:st.er=0
 · exact he
 · have:=h.bad he
   simp [St.is,this] at hi
   omega
theorem Inv.is_k {st:St} {k:Nat} {l:List UInt8} (hi:st.is k l=true):st.t.k=k:=by
 simp [St.is] at hi;exact hi.1
theorem St.enter_op {st:St}:st.enter.op=st.op+1:=by
 unfold St.enter
 split
 · unfold St.fail;split <;> rfl
 · unfold St.step;split <;> rfl
theorem St.fail_op (st:St) (e a:Nat):(st.fail e a).op=st.op:=by unfold St.fail;split <;> rfl
theorem St.fail_src (st:St) (e a:Nat):(st.fail e a).src=st.src:=by unfold St.fail;split <;> rfl
theorem St.fail_ta (st:St) (e a:Nat):(st.fail e a).t.a=st.t.a:=by unfold St.fail;split <;> rfl
theorem St.fail_er (st:St) {e a:Nat} (he:e≠0):(st.fail e a).er≠0:=by unfold St.fail;split <;> simp [*]
theorem St.step_op (st:St):st.step.op=st.op:=by unfold St.step;split <;> rfl
theorem St.step_er (st:St):st.step.er=st.er:=by unfold St.step;split <;> rfl
theorem St.step_bad {st:St} (h:st.er≠0):st.step=st:=by unfold St.step;rw [if_neg h]
theorem St.step_ok {st:St} (h:st.er=0):st.step={ st with t:=zZ st.src st.t.t }:=by unfold St.step;rw [if_pos h]
structure Fwd (p:Nat) (st st':St):Prop where
 inv:Inv p st'
 src:st'.src=st.src
 ta:st.t.a<=st'.t.a
 L:∃E,st'.L=st.L++E
 er:st.er≠0->st'.er≠0
theorem Fwd.refl {p:Nat} {st:St} (h:Inv p st):Fwd p st st:=⟨h,rfl,Nat.le_refl _,⟨[],by simp⟩,λh=>h⟩
theorem Fwd.trans {p q:Nat} {a b c:St} (h:Fwd p a b) (k:Fwd q b c):Fwd q a c:=by
 obtain ⟨E,hE⟩:=h.L
 obtain ⟨E',hE'⟩:=k.L
 exact ⟨k.inv,k.src.trans h.src,Nat.le_trans h.ta k.ta,⟨E++E',by rw [hE',hE,List.append_assoc]⟩,λe=>k.er (h.er e)⟩
theorem Fwd.use {p:Nat} {st:St} (h:Inv p st) (he:st.er=0) (hk:2<=st.t.k):Fwd (p+1) st st.step:=by
 have hf:=zV st.src st.t.t h.ok.tt
 have h1:=h.pot;have h2:=h.tok hk
 rw [if_pos he] at h1
 have hok:=h.ok.step
 rw [St.step_ok he] at hok ⊢
 refine ⟨⟨hok,?_,h.op1,h.op0,λh=>absurd he h,hf.2.2.2.2.2⟩,rfl,?_,⟨[],by simp⟩,λh=>h⟩
 · simp only [he,if_pos];omega
 · simp only;omega
theorem Fwd.step {p:Nat} {st:St} (h:Inv p st):Fwd p st st.step:=by
 by_cases he:st.er=0
 · have hf:=zV st.src st.t.t h.ok.tt
   have h1:=h.pot;have h2:=h.ok.ta
   rw [if_pos he] at h1
   have hok:=h.ok.step
   rw [St.step_ok he] at hok ⊢
   refine ⟨⟨hok,?_,h.op1,h.op0,λh=>absurd he h,hf.2.2.2.2.2⟩,rfl,?_,⟨[],by simp⟩,λh=>h⟩
   · simp only [he,if_pos];omega
   · simp only;omega
 · rw [St.step_bad he];exact Fwd.refl h
theorem Fwd.fail {p:Nat} {st:St} (h:Inv p st) {e a:Nat} (h0:e≠0) (he:e<=11) (ha:a<=1200):Fwd p st (st.fail e a):=by
 have h1:=h.pot
 refine ⟨⟨h.ok.fail he ha,?_,by rw [St.fail_op];exact h.op1,λh2=>absurd h2 (St.fail_er st h0),?_,?_⟩,St.fail_src _ _ _,by rw [St.fail_ta];exact Nat.le_refl _,⟨[],by rw [St.fail_L];simp⟩,λ_=>St.fail_er st h0⟩
 · rw [St.fail_L,St.fail_ta,if_neg (St.fail_er st h0)]
   split at h1 <;> omega
 · intro _;unfold St.fail;split <;> rfl
 · intro h2;exfalso;unfold St.fail at h2;split at h2 <;> simp at h2
theorem Fwd.must {p:Nat} {st:St} (h:Inv p st) (k:Nat) (l:List UInt8):Fwd p st (st.must k l):=by
 unfold St.must
 split
 · exact Fwd.step h
 · exact Fwd.fail h (by omega) (by omega) h.ok.ta_le
theorem Fwd.name {p:Nat} {st:St} (h:Inv p st):Fwd p st st.name:=by
 unfold St.name
 split
 · exact Fwd.step h
 · exact Fwd.fail h (by omega) (by omega) h.ok.ta_le
theorem St.must_op (st:St) (k:Nat) (l:List UInt8):(st.must k l).op=st.op:=by unfold St.must;split;exact st.step_op;exact st.fail_op _ _
theorem St.name_op (st:St):st.name.op=st.op:=by unfold St.name;split;exact st.step_op;exact st.fail_op _ _
theorem Fwd.enter {p:Nat} {st:St} (h:Inv p st) (he:st.er=0) (hk:2<=st.t.k):Fwd (p+1) st st.enter:=by
 have h1:=h.pot;have h2:=h.op0 he;have h3:=h.tok hk;have h4:=h.op1
 rw [if_pos he] at h1
 have hok:=h.ok.enter (by omega)
 have hf:=zV st.src st.t.t h.ok.tt
 unfold St.enter at hok ⊢
 split at hok
 · rename_i hc
   rw [if_pos hc]
   refine ⟨⟨hok,?_,?_,λh=>absurd h (St.fail_er _ (by omega)),λ_=>?_,λh=>?_⟩,St.fail_src _ _ _,by rw [St.fail_ta];exact Nat.le_refl _,⟨[],by rw [St.fail_L];simp⟩,λ_=>St.fail_er _ (by omega)⟩
   · rw [St.fail_L,St.fail_ta,if_neg (St.fail_er _ (by omega))];simp only;omega
   · rw [St.fail_op];simp only;omega
   · unfold St.fail;split <;> rfl
   · exfalso;unfold St.fail at h;split at h <;> simp at h
 · rename_i hc
   rw [if_neg hc]
   rw [St.step_ok (show ({ st with op:=st.op+1 }:St).er=0 from he)] at hok ⊢
   refine ⟨⟨hok,?_,?_,λ_=>?_,λh=>absurd he h,hf.2.2.2.2.2⟩,rfl,?_,⟨[],by simp⟩,λh=>h⟩
   · simp only [he,if_pos];omega
   · simp only;omega
   · simp only;omega
   · simp only;omega
theorem Fwd.leave {p:Nat} {st:St} (h:Inv p st):Fwd p st st.leave:=by
 refine ⟨⟨h.ok.leave,h.pot,?_,?_,h.bad,h.tok⟩,rfl,Nat.le_refl _,⟨[],by simp [St.leave]⟩,λh=>h⟩
 · have:=h.op1;unfold St.leave;simp only;omega
 · intro he;have:=h.op0 he;unfold St.leave;simp only;omega
theorem Fwd.put {p:Nat} {st:St} (h:Inv (p+1) st) (e:Ex):Fwd p st (st.put e).1:=by
 refine ⟨⟨h.ok.add e,?_,h.op1,h.op0,h.bad,h.tok⟩,rfl,Nat.le_refl _,⟨[e],rfl⟩,λh=>h⟩
 have:=h.pot
 simp only [St.put,St.add,List.length_append,List.length_cons,List.length_nil]
 split at this <;> simp_all <;> omega
theorem zaN.fwd {M:Fn} {st:St} {p:Nat} (h:zaN M st p):Fwd p st (M st).1:=⟨h.inv,h.src,h.ta,h.L,λe=>by rw [h.er e];exact e⟩
theorem zaN.of_fwd {M:Fn} {st:St} {p:Nat} (he:st.er=0) (h:Fwd p st (M st).1) (ho:(M st).1.op=st.op) (hn:(M st).1.er=0->(M st).2<(M st).1.L.length):zaN M st p :=
 ⟨h.inv,ho,h.src,h.ta,h.L,λe=>absurd he e,hn⟩
theorem zgp (st:St) (e:Ex):(st.put e).2<(st.put e).1.L.length:=by simp [St.put,St.add]
theorem zgS {t:Tk} {n:Nat} (h:zco t n=true):2<=t.k:=by
 unfold zco at h
 split at h
 · cases h
 · omega
theorem zl8 {d lv:Nat} {part:Fn} (hP:zv d part):∀(f p:Nat) (x:St×Nat),Inv p x.1->18<=x.1.op+d->(x.1.er=0->x.2<x.1.L.length) ->
 Fwd p x.1 (zdq lv part f x).1/\(zdq lv part f x).1.op=x.1.op/\((zdq lv part f x).1.er=0->(zdq lv part f x).2<(zdq lv part f x).1.L.length)/\(x.1.er≠0->zdq lv part f x=x):=by
 intro f
 induction f with
 | zero=>intro p x hI _ hn;exact ⟨Fwd.refl hI,rfl,hn,λ_=>rfl⟩
 | succ f ih =>
   intro p x hI ho hn
   show Fwd p x.1 (if _ then _ else x).1/\(if _ then _ else x).1.op=x.1.op/\((if _ then _ else x).1.er=0->(if _ then _ else x).2<(if _ then _ else x).1.L.length)/\(x.1.er≠0->(if _ then _ else x)=x)
   by_cases hc:x.1.er=0/\zco x.1.t lv=true
   · rw [if_pos hc]
     have h1:=Fwd.use hI hc.1 (zgS hc.2)
     have h2:=hP x.1.step (p+1) h1.inv (by rw [St.step_op];exact ho)
     have h3:=Fwd.put h2.inv ⟨x.1.t.s,x.1.t.a,0,[x.2,(part x.1.step).2],sE,0⟩
     have ho3:(((part x.1.step).1.put ⟨x.1.t.s,x.1.t.a,0,[x.2,(part x.1.step).2],sE,0⟩).1).op=x.1.op:=h2.op.trans (St.step_op _)
     have h4:=ih p _ h3.inv (by rw [ho3];exact ho) (λ_=>zgp _ _)
     exact ⟨((h1.trans h2.fwd).trans h3).trans h4.1,h4.2.1.trans ho3,h4.2.2.1,λe=>absurd hc.1 e⟩
   · rw [if_neg hc];exact ⟨Fwd.refl hI,rfl,hn,λ_=>rfl⟩
theorem zcF {d lv:Nat} {part:Fn} (hP:zv d part):zv d (zcT lv part):=by
 intro st p hI ho
 have h1:=hP st p hI ho
 have h2:=zl8 (lv:=lv) hP 1300 p (part st) h1.inv (by rw [h1.op];exact ho) h1.num
 refine ⟨h2.1.inv,h2.2.1.trans h1.op,h2.1.src.trans h1.src,Nat.le_trans h1.ta h2.1.ta,(h1.fwd.trans h2.1).L,λe=>?_,h2.2.2.1⟩
 have e1:=h1.er e
 show zdq lv part 1300 (part st)=(st,_)
 rw [h2.2.2.2 (by rw [e1];exact e)]
 exact Prod.ext (by rw [e1]) (by show _=(zdq lv part 1300 (part st)).2;rw [h2.2.2.2 (by rw [e1];exact e)])
theorem znN {t:Tk} (h:zcn t=true):2<=t.k:=by simp [zcn] at h;omega
theorem zh6 {d:Nat} {sum:Fn} (hP:zv d sum):zv d (zdJ sum):=by
 intro st p hI ho
 have h1:=hP st p hI ho
 by_cases hc:(sum st).1.er=0/\zcn (sum st).1.t=true
 · have e:zdJ sum st=(sum (sum st).1.step).1.put ⟨(sum st).1.t.s,(sum st).1.t.a,0,[(sum st).2,(sum (sum st).1.step).2],sE,0⟩:=by unfold zdJ;simp only;rw [if_pos hc]
   have h2:=Fwd.use h1.inv hc.1 (znN hc.2)
   have h3:=hP _ (p+1) h2.inv (by rw [St.step_op,h1.op];exact ho)
   have h4:=Fwd.put h3.inv ⟨(sum st).1.t.s,(sum st).1.t.a,0,[(sum st).2,(sum (sum st).1.step).2],sE,0⟩
   have he:st.er=0:=by
    by_cases he:st.er=0
    · exact he
    · exact absurd hc.1 (h1.fwd.er he)
   refine zaN.of_fwd he ?_ ?_ ?_
   · rw [e];exact ((h1.fwd.trans h2).trans h3.fwd).trans h4
   · rw [e];exact (h3.op.trans (St.step_op _)).trans h1.op
   · rw [e];exact λ_=>zgp _ _
 · have e:zdJ sum st=sum st:=by unfold zdJ;simp only;rw [if_neg hc]
   exact ⟨by rw [e];exact h1.inv,by rw [e];exact h1.op,by rw [e];exact h1.src,by rw [e];exact h1.ta,by rw [e];exact h1.L,by rw [e];exact h1.er,by rw [e];exact h1.num⟩
end
end Go.Proofs.YtedmpgjebafcjaaGreatDoor
