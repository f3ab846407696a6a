/- Part 50 of the proof: UpJ FixB SmA GlA GlB GlC GlD GlE NsA ArB OdC0 NsB NsC NsS. -/
import Derived.Deep.Strs
import Derived.JoinedOf
import Derived.LaidHandle
import Derived.LaidLaws
import Derived.LaidMore
import Derived.Laws.IdiomStrings
import Derived.OpenShut
import Derived.ProofKit
import Derived.SevenTiedAt
import Derived.SizedLaws
import Derived.Stop.Joined
import Derived.Test.YtedmpgjebafcjaaGreatDoorCards
import Derived.Test.YtedmpgjebafcjaaGreatDoorRows
import Derived.Test.YtedmpgjebafcjaaGreatDoorTie
import Derived.Test.YtedmpgjebafcjaaGreatDoorK44
import Derived.Test.YtedmpgjebafcjaaGreatDoorK48
set_option maxRecDepth 100000
set_option maxHeartbeats 8000000
namespace Go.Proofs.YtedmpgjebafcjaaGreatDoor
section
open Go.RowKit
def ziO (l:List Nat)(s:Ir):Ir:=[99,100,110,50].foldl (λs m=>zbU ((zG l s).1==m) (zG l s).2) s
def cdM (b:List Nat):Option Cd :=
 let h:=zdL b (ziO b ⟨0,none⟩)
 let r:=zdw b h.1.slots h.1.cells.length (b.length+2) ⟨h.2,0,0,[]⟩
 if r.s.er=none then some { h.1 with depth:=r.mx,row:=r.row } else none
def zcR (l:List Nat):Option Cd:=(zdN l).bind cdM
def zg5:ByteArray:=⟨#[108,111,97,100,105,110,103]⟩
def zfJ (S:Nat->Addr)(w:World)(o:Option Cd)(e:Ending)(w':World):Prop :=
 match o with
 | none=>∃p,e=.returned (.tuple #[.pointer none,zeQ zg5 (zcE S p)])
 | some c=>∃cb B,e=.returned (.tuple #[.pointer (some ⟨cb,0,none⟩),.nilIface])/\w.heap.size<=cb/\w.heap.size<=B/\UC B cb c w'
theorem zl6 (l:List Nat)(s:Ir)(h:∀x∈l,x<256):(zdL l s).1.slots<=1000000/\(zdL l s).1.cells.length<=1000000/\(zdL l s).1.depth=0/\(zdL l s).1.row=[]:=by
 have hn:∀n t,(zcy l n t).1.length=n:=by
  intro n
  induction n with
  | zero=>intro t;rfl
  | succ n ih=>intro t;show (_::_).length=_;rw[List.length_cons,ih]
 refine⟨?_,?_,rfl,rfl⟩
 · have:=zcI l (zG l (zbb l (zG l s).1 (zG l s).2).2).2 h
   show (zG l _).1<=_
   omega
 · show (zcy l _ _).1.length<=_
   rw[hn]
   have:=zeS l 61 (zbU (decide ((zbb l (zG l s).1 (zG l s).2).1.length+(zG l (zbb l (zG l s).1 (zG l s).2).2).1<=(zG l (zG l (zbb l (zG l s).1 (zG l s).2).2).2).1)) (zG l (zG l (zbb l (zG l s).1 (zG l s).2).2).2).2) h
   omega
theorem zgq (y m:Nat):((y:Int)==(m:Int))=(y==m):=by
 by_cases h:y=m
 · subst h;rw[beq_self_eq_true,beq_self_eq_true]
 · have h':¬(y:Int)=(m:Int):=by omega
   rw[beq_eq_false_iff_ne.2 h,beq_eq_false_iff_ne.2 h']
theorem zk9 (S:Nat->Addr)(a:Option Addr)(c g:Nat)(l:List Nat)(w:World)(hG:Gl S w)(hS:zbW w)(hy:By w (.slice a l.length c) g l)(hg:g<w.heap.size) :
 Calls Tryz.prog 19 #[.slice a l.length c] w (λe w'=>Below w.heap.size w w'/\zfJ S w (zcR l) e w'):=by
 have HO:=za (zjZ S a c g l w hG hS hy hg)
 obtain⟨P,hP⟩:∃P,P=zfJ S w (zcR l):=⟨_,rfl⟩
 rw[<- hP]
 cases ho:zdN l with
 | none =>
   rw[ho] at HO
   unfold zgN at HO
   have HP:Hid (P=zfJ S w none):=by unfold Hid;rw[hP];unfold zcR;rw[ho];rfl
   clear ho hP hG hS hy hg
   go_enter Tryz.func19,Tryz.ntmps19
   go_wp2_with (first
    | (go_at_call 38;refine HO.out.mono ?_;rintro e w1 ⟨hB,p,rfl⟩;unfold zcE;have HB:=za hB;clear hB)
    | (go_at_call 22;refine (zdo _ _ _ _).mono ?_;rintro e w3 ⟨rfl,rfl⟩))
   exact bodyPost_ret (v:=.tuple #[.pointer none,zeQ zg5 (zcE S p)]) (by simp[results,Tryz.results19,go_sem,zg5,zcE]) rfl ⟨HB.out,by rw[HP.out];exact⟨p,rfl⟩⟩
 | some b =>
   rw[ho] at HO
   unfold zgN at HO
   have hP2:P=zfJ S w (cdM b):=by rw[hP];unfold zcR;rw[ho];rfl
   obtain⟨hb1,hb2⟩:b=l.take (l.length-8)/\b.length<=1048576:=by
    unfold zdN at ho
    split at ho
    · cases ho
    · split at ho
      · cases ho;exact⟨rfl,by rw[List.length_take];omega⟩
      · cases ho
   have hyb:By w (.slice a b.length c) g b:=by
    have:=hy.take (n:=b.length) (by rw[hb1,List.length_take];omega)
    rwa [show l.take b.length=b by rw[hb1,List.length_take];congr 1;omega] at this
   have Hy:=za hyb
   have HG:=za hG
   have HS:=za hS
   obtain⟨_,cc,hcc,hc1,hc2,_⟩:=hyb.ex
   cases hcc
   have hcm:c<=9223372036854775807:=by unfold maxLen at hc2;omega
   have h21:=hG.size
   have hi:=hG.image
   have HP:=za hP2
   clear hP hP2 ho hb1 hyb hy hG hS hc2
   go_enter Tryz.func19,Tryz.ntmps19
   go_wp2_with (go_at_call 38;refine HO.out.mono ?_;rintro e w1' ⟨hB,rfl,-,-⟩;have hz1:=hB.size;have HB:=za hB;clear hB)
   have HR0:Hid (RL S (w1'.alloc (.cells #[.slice a b.length c,.int .i64 0,.nilIface] 116)) w1'.heap.size (.slice a b.length c) g b ⟨0,none⟩):=RL.new (HG.out.of (T:=λ_=>False) (Fr.of_below HB.out) (λ_ e=>e.elim)) (HS.out.old (zm HB.out (Nat.le_refl _)) h21) (Hy.out.of (HB.out.block g hg)) (by omega) hb2 0 (Nat.zero_le _)
   have hB0:Below w.heap.size w (w1'.alloc (.cells #[.slice a b.length c,.int .i64 0,.nilIface] 116)):=HB.out.alloc (by omega) _
   have HB0:=za hB0
   clear hB0 HO
   obtain⟨W0,hW0⟩:∃W,W=(w1'.alloc (.cells #[.slice a b.length c,.int .i64 0,.nilIface] 116)):=⟨_,rfl⟩
   obtain⟨rb,hrb⟩:∃rb,rb=w1'.heap.size:=⟨_,rfl⟩
   have hz0:W0.heap.size=rb+1:=by rw[hW0,hrb];simp
   have hz0':rb<W0.heap.size:=by omega
   rw[<- hW0] at HR0 HB0 ⊢
   rw[<- hrb] at HR0 ⊢
   have hrw:w.heap.size<=rb:=by omega
   clear hW0 hrb HB hz0
   go_loopg [20] 5 (λj i wr=>∃(k:Nat) (t:Ir),k+j=5/\k<=4/\i=.int .i64 k/\Hid (ziO b ⟨0,none⟩=([99,100,110,50].drop k).foldl (λs m=>zbU ((zG b s).1==m) (zG b s).2) t)/\Hid (RL S wr rb (.slice a b.length c) g b t)/\Hid (Fr (·=rb) W0 wr))
   case atStart=>exact⟨0,⟨0,none⟩,rfl,by omega,rfl,za rfl,HR0.out,Fr.refl _ _⟩
   case round =>
    obtain⟨k,t,hk,hk4,rfl,HM,HR,HF⟩:=hrel
    by_cases hlt:k<4
    · have HB1:=za (zem S rb _ g b t wr.drew (HR.out.below (zo (Below.refl _ _))))
      have hy:=zcI b t HR.out.by'.lt
      have gi:=HR.out.gl.image
      rcases hR:zG b t with ⟨y,t1⟩
      rw[hR] at HB1 hy
      simp only at HB1 hy
      obtain⟨q,hq⟩:∃q:Bool,q=(y==[99,100,110,50].getD k 0):=⟨_,rfl⟩
      have HM2:Hid (ziO b ⟨0,none⟩=([99,100,110,50].drop (k+1)).foldl (λs m=>zbU ((zG b s).1==m) (zG b s).2) (zbU q t1)):=by
       unfold Hid
       rw[HM.out,hq]
       have:k=0∨k=1∨k=2∨k=3:=by omega
       rcases this with rfl|rfl|rfl|rfl <;> simp[hR]
      have HQ:=za (λw1 (h1:RL S w1 rb (.slice a b.length c) g b t1)=>zeg S rb _ g b t1 q w1 h1)
      unfold sen at gi
      have hz21:=HR.out.gl.size
      clear hR HM
      have:k=0∨k=1∨k=2∨k=3:=by omega
      rcases this with rfl|rfl|rfl|rfl
      all_goals
       first
        | have hdec:((y:Int)==99)=q:=by rw[hq];exact zgq y 99
        | have hdec:((y:Int)==100)=q:=by rw[hq];exact zgq y 100
        | have hdec:((y:Int)==110)=q:=by rw[hq];exact zgq y 110
        | have hdec:((y:Int)==50)=q:=by rw[hq];exact zgq y 50
       have hx0:(⟨#[99,100,110,50]⟩:ByteArray)[0].toNat=99:=rfl
       have hx1:(⟨#[99,100,110,50]⟩:ByteArray)[1].toNat=100:=rfl
       have hx2:(⟨#[99,100,110,50]⟩:ByteArray)[2].toNat=110:=rfl
       have hx3:(⟨#[99,100,110,50]⟩:ByteArray)[3].toNat=50:=rfl
       clear hq
       go_wp2_with fail
       go_region_held3 (λw'=>w'.cell? ⟨11,0,none⟩=some (.iface 293 (.pointer (some (S 10)))))
        (repeat (first|with_reducible exact gi|with_reducible exact g2|with_reducible exact g1|with_reducible refine zg ?_))
        (first
          | (go_at_call 39;revert H1;intro H1;refine (HQ.out w1 H1.out).mono ?_;rintro e w2 ⟨rfl,h1,h2⟩;have g2:=h1.gl.image;unfold sen at g2;have H3:=za h1;have H4:=za (H2.out.trans h2);clear h1 h2)
          | (go_at_call 40;refine HB1.out.mono ?_;rintro e w1 ⟨rfl,h1,h2⟩;have g1:=h1.gl.image;unfold sen at g1;have H1:=za h1;have H2:=za (HF.out.trans h2.undrew);clear h1 h2))
       all_goals go_wp2_with fail
       all_goals go_roundg (gk-1)
       all_goals first
        | omega
        | exact⟨_,_,by omega,by omega,by go_num,HM2,H3.out,H4.out⟩
    · have e4:k=4:=by omega
      subst e4
      have hM:ziO b ⟨0,none⟩=t:=HM.out
      obtain⟨f1,f2,f3,f4⟩:=zl6 b t HR.out.by'.lt
      have HH:=za (zql S rb (.slice a b.length c) g b t wr HR.out)
      have hP3:=HP.out
      unfold cdM at hP3
      simp only[hM] at hP3
      rcases hhd:zdL b t with ⟨⟨bs,o,ns,cs,dpt,rw'⟩,t2⟩
      rw[hhd] at HH f1 f2 f3 f4 hP3
      simp only at HH f1 f2 f3 f4 hP3
      subst f3
      subst f4
      obtain⟨R,hR⟩:∃R,R=zdw b ns cs.length (b.length+2) ⟨t2,0,0,[]⟩:=⟨_,rfl⟩
      rw[<- hR] at hP3
      have hzr:=HF.out.size
      have HRo:=za (λw2 (h1:RL S w2 rb (.slice a b.length c) g b t2) (h2:UC (wr.heap.size+1) wr.heap.size ⟨bs,o,ns,cs,0,[]⟩ w2)=>zrd S rb wr.heap.size (wr.heap.size+1) (.slice a b.length c) g b t2 bs o ns cs w2 h1 h2 (by omega) (λ_=>by omega) (by omega) f1 f2 R hR)
      have HBr:=za (HB0.out.trans (HF.out.below (B:=w.heap.size) (by have:=HB0.out.size;omega) (λk e=>e▸hrw)))
      have hcbw:w.heap.size<=wr.heap.size:=HBr.out.size
      clear hM HM hhd hR HP HR0 HB0
      obtain⟨⟨rp,rer⟩,rdp,rmx,rrow⟩:=R
      simp only at HRo hP3
      cases rer with
      | none =>
        rw[if_pos rfl] at hP3
        have HP3:=za hP3
        clear hP3
        go_wp2_with (first
         | (go_at_call 42;revert H1;intro H1;refine (HRo.out w2 H1.out H2.out).mono ?_;rintro e w3 ⟨rfl,h1,h2,h3⟩;obtain⟨a0,a1,a2,af,az⟩:=zL h1.blk;unfold erV at a2;simp only at a2;have K1:=za h1;have K2:=za h2;have K3:=za (H3.out.trans (h3.below (B:=w.heap.size) (by have:=H3.out.size;omega) (λk e=>by rcases e with e|e <;> omega)));clear h1 h2 h3)
         | (go_at_call 41;refine HH.out.mono ?_;rintro e w2 ⟨rfl,h1,h2,h3⟩;have H1:=za h1;have H2:=za h2;have H3:=za (HBr.out.trans (h3.below (B:=w.heap.size) hcbw (λk e=>e▸hrw)));clear h1 h2 h3))
        exact bodyPost_ret (v:=.tuple #[.pointer (some ⟨wr.heap.size,0,none⟩),.nilIface]) (by simp[results,Tryz.results19,go_sem]) rfl ⟨K3.out,by rw[HP3.out];exact⟨_,_,rfl,hcbw,by omega,K2.out⟩⟩
      | some p =>
        rw[if_neg (by simp)] at hP3
        have HP3:=za hP3
        clear hP3
        go_wp2_with (first
         | (go_at_call 22;refine (zdo _ _ _ _).mono ?_;rintro e w4 ⟨rfl,rfl⟩)
         | (go_at_call 42;revert H1;intro H1;refine (HRo.out w2 H1.out H2.out).mono ?_;rintro e w3 ⟨rfl,h1,h2,h3⟩;obtain⟨a0,a1,a2,af,az⟩:=zL h1.blk;unfold erV at a2;simp only at a2;have K1:=za h1;have K2:=za h2;have K3:=za (H3.out.trans (h3.below (B:=w.heap.size) (by have:=H3.out.size;omega) (λk e=>by rcases e with e|e <;> omega)));clear h1 h2 h3)
         | (go_at_call 41;refine HH.out.mono ?_;rintro e w2 ⟨rfl,h1,h2,h3⟩;have H1:=za h1;have H2:=za h2;have H3:=za (HBr.out.trans (h3.below (B:=w.heap.size) hcbw (λk e=>e▸hrw)));clear h1 h2 h3))
        exact bodyPost_ret (v:=.tuple #[.pointer none,zeQ zg5 (zcE S p)]) (by simp[results,Tryz.results19,go_sem,zg5,zcE]) rfl ⟨K3.out,by rw[HP3.out];exact⟨p,rfl⟩⟩
def zo5 (fu gas f:Nat)(ns:List Nod):Option Cd :=
 match ns.getLast? with
 | none=>none
 | some n =>
   let c:Sc:=⟨ns.dropLast,n⟩
   let K:=zca fu gas f c 0 ((hdM c).add 0 1)
   if (ns.all zjC&&(ns.all λn=>decide (n.terms.length<=1000000))&&decide (zbc ns=none)&&gdB fu gas f c&&decide (K.row.length<=100000)&&decide (K.cells.length<=1000000)&&decide (K.bools.length<=1000000)&&K.row.all λi=>decide (i.1<=20))=true then some K else none
def zju (fu gas f:Nat)(src:ByteArray):Option Cd :=
 let R:=zgo (lev 17).ex (lev 18).ex 1300 src
 if src.size<=1200/\R.1.er=0/\R.2.length<=6 then
  match ziP R.2 with
  | none=>none
  | some ns=>zo5 fu gas f ns
 else none
def zkM (a b:Cd):Bool:=decide (a.bools=b.bools)&&decide (a.outs=b.outs)&&decide (a.slots=b.slots)&&decide (a.cells=b.cells)&&decide (a.depth=b.depth)&&decide (a.row=b.row)
theorem znp {a b:Cd}(h:zkM a b=true):a=b:=by
 obtain⟨a1,a2,a3,a4,a5,a6⟩:=a
 obtain⟨b1,b2,b3,b4,b5,b6⟩:=b
 simp only[zkM,Bool.and_eq_true,decide_eq_true_eq] at h
 obtain⟨⟨⟨⟨⟨rfl,rfl⟩,rfl⟩,rfl⟩,rfl⟩,rfl⟩:=h
 rfl
def zoX (fu gas f:Nat)(src:ByteArray):Option Cd:=(zju fu gas f src).bind λK=>zcR (zcw (zcx K))
def zlZ (fu gas f:Nat)(src:ByteArray)(c:Cd):Bool:=match zoX fu gas f src with
 | none=>false
 | some d=>zkM d c
theorem zpq {fu gas f:Nat}{src:ByteArray}{c:Cd}(h:zlZ fu gas f src c=true):∃K,zju fu gas f src=some K/\zcR (zcw (zcx K))=some c:=by
 unfold zlZ at h
 split at h
 · cases h
 · rename_i d hr
   have:=znp h
   subst this
   unfold zoX at hr
   cases hf:zju fu gas f src with
   | none=>rw[hf] at hr;cases hr
   | some K=>rw[hf] at hr;exact⟨K,rfl,hr⟩
theorem zmA (w:World):Calls Tryz.prog 15 #[.nilIface] w (λe w'=>e=.returned (.tuple #[.int .i64 0,.int .i64 0])/\w=w'):=by
 go_enter Tryz.func15,Tryz.ntmps15
 go_wp2_with fail
 exact bodyPost_ret (v:=.tuple #[.int .i64 0,.int .i64 0]) (by simp[results,Tryz.results15,go_sem]) rfl ⟨rfl,rfl⟩
structure zlK (src:ByteArray) (ns:List Nod):Prop where
 size:src.size<=1200
 er:(zgo (lev 17).ex (lev 18).ex 1300 src).1.er=0
 few:(zgo (lev 17).ex (lev 18).ex 1300 src).2.length<=6
 nods:ziP (zgo (lev 17).ex (lev 18).ex 1300 src).2=some ns
 wf:∀n∈ns,zeJ n
 tms:∀n∈ns,n.terms.length<=1000000
 chk:zbc ns=none
theorem zlR (S:Nat->Addr)(src:ByteArray)(ns:List Nod)(h:zlK src ns)(w:World)(hG:Gl S w) :
 Calls Tryz.prog 16 #[.string src] w (λe w'=>∃gb N,e=.returned (.tuple #[.pointer (some ⟨gb,0,none⟩),.nilIface])/\PT w' N ns (.pointer (some ⟨gb,0,none⟩))/\w.heap.size<=N/\N<=w'.heap.size/\Below w.heap.size w w'):=by
 obtain⟨r17,r18,e17,e18,hX,hK,g17,g18⟩:=zk1
 obtain⟨h1,h2,h3,h4,h5,h6,h7⟩:=h
 rw[<- e17,<- e18] at h2 h3 h4
 obtain⟨R,hR⟩:∃R,R=zgo r17 r18 1300 src:=⟨_,rfl⟩
 have HRd:=za (zni hX hK g17 g18 S 1300 (by decide) (by decide) src w hG h1 (R:=R) hR.symm)
 rw[<- hR] at h2 h3 h4
 have hrd:Calls Tryz.prog 28 #[.string src] w (λe w'=>∃gb,e=.returned (.tuple #[.pointer (some ⟨gb,0,none⟩),.nilIface])/\PT w' w'.heap.size ns (.pointer (some ⟨gb,0,none⟩))/\Below w.heap.size w w'):=by
  refine HRd.out.mono ?_
  rintro e w' ⟨_,hok,hB⟩
  obtain⟨a,rfl,hPG⟩:=hok h2
  obtain⟨ns',hns,hPT⟩:=zpt hPG h3
  have:=znV hns h4
  subst this
  obtain⟨gb,gv,xs,e0,rest⟩:=hPT
  cases e0
  exact⟨gb,rfl,⟨gb,gv,xs,rfl,rest⟩,hB⟩
 have HRr:=za hrd
 have HG:=za hG
 have H5:=za h5
 have H6:=za h6
 have H7:=za h7
 clear hrd HRd hX hK g17 g18 e17 e18 hR h2 h3 h4 h5 h6 h7 hG h1
 go_enter Tryz.func16,Tryz.ntmps16
 go_wp2_with (first
  | (go_at_call 29;revert HP1;intro HP1;refine (zjO S w1.heap.size ns H5.out H6.out gb w1 (HG.out.of (T:=λ_=>False) (Fr.of_below HB1.out) (λ_ e=>e.elim)) HP1.out (Nat.le_refl _)).mono ?_;rw[H7.out];rintro e w2 ⟨rfl,hB⟩;unfold zq3;have hz2:=hB.size;have HB2:=za hB;clear hB)
  | (go_at_call 28;refine HRr.out.mono ?_;rintro e w1 ⟨gb,rfl,hP,hB⟩;have hz1:=hB.size;have HP1:=za hP;have HB1:=za hB;clear hP hB))
 exact bodyPost_ret (v:=.tuple #[.pointer (some ⟨gb,0,none⟩),.nilIface]) (by simp[results,Tryz.results16,go_sem]) rfl ⟨gb,w1.heap.size,rfl,HP1.out.old (zm HB2.out (Nat.le_refl _)),hz1,hz2,HB1.out.trans (HB2.out.mono hz1)⟩
theorem KW.pk {B wb kb:Nat}{K:Cd}{w:World}(h:KW B wb kb K w)(h1:K.bools.length<=1000000)(h2:K.cells.length<=1000000)(h3:K.row.length<=100000)(h4:∀i∈K.row,i.1<=20):∃bv cv rv,PkI w kb bv cv rv K:=by
 obtain⟨bv,cv,rv,h⟩:=h
 exact⟨bv,cv,rv,h.blk,zR h.bown (Nat.zero_le _),zR h.cown (Nat.zero_le _),zR h.rown (Nat.zero_le _),h1,h2,h3,h4⟩
structure zl2 (fu gas f:Nat) (pre:List Nod) (n:Nod) (K:Cd):Prop where
 hK:zca fu gas f ⟨pre,n⟩ 0 ((hdM ⟨pre,n⟩).add 0 1)=K
 hgas:gas<=1000000
 hf:17*f<=100000
 gd:GdC fu gas f ⟨pre,n⟩
 b:K.bools.length<=1000000
 c:K.cells.length<=1000000
 r:K.row.length<=100000
 ops:∀i∈K.row,i.1<=20
theorem zlg (S:Nat->Addr)(src:ByteArray)(pre:List Nod)(n:Nod)(h:zlK src (pre++[n]))(fu gas f:Nat)(K:Cd)(hc:zl2 fu gas f pre n K)(w:World)(hG:Gl S w)(hop:zbt w)(hS:zbW w) :
 Calls Tryz.prog 12 #[.string src] w (λe w'=>∃v B,e=.returned (.tuple #[v,.int .i64 0,.int .i64 0])/\BR B w' v (zcw (zcx K))/\w.heap.size<=B/\Below w.heap.size w w'):=by
 obtain⟨hK,hgas,hf,hgd,hb,hcl,hr,ho⟩:=hc
 have HCk:=za (zlR S src (pre++[n]) h w hG)
 have h21:=hG.size
 have Hop:=za hop
 have HS:=za hS
 have HCm:=za (λN (hN:21<=N) gb W hP hNW hopW=>zjW (N:=N) fu gas f hgas hN hf pre n (.pointer (some ⟨gb,0,none⟩)) W hP hNW hopW hgd ⟨by rw[hK];omega,by rw[hK];exact hcl⟩)
 rw[hK] at HCm
 have HPk:=za (λB wb kb W (hW:KW B wb kb K W) (hS:zbW W) (hz:21<=W.heap.size)=>(by
  obtain⟨bv,cv,rv,hI⟩:=hW.pk hb hcl hr ho
  exact zpP kb bv cv rv K W hI hS hz:Calls Tryz.prog 17 #[.pointer (some ⟨kb,0,none⟩)] W (zhf W.heap.size (zcw (zcx K)) W)))
 clear hK hgd hb hcl hr ho h hG hop hS
 go_enter Tryz.func12,Tryz.ntmps12
 go_wp2_with (first
  | (go_at_call 17;revert HK2;intro HK2;refine (HPk.out _ _ _ w2 HK2.out (HS.out.old ((zm HB1.out (Nat.le_refl _)).trans (zm HB2.out hz1)) h21) (by omega)).mono ?_;rintro e w3 ⟨v3,rfl,hR3,hB3⟩;have HR3:=za hR3;have HB3:=za hB3;clear hR3 hB3)
  | (go_at_call 18;revert HP1;intro HP1;refine (HCm.out N (by omega) gb w1 HP1.out hN1 (Hop.out.old (zm HB1.out (Nat.le_refl _)) h21)).mono ?_;rintro e w2 ⟨B,wb,kb,rfl,hkb,hB,hKW,hB2⟩;have hz2:=hB2.size;have HK2:=za hKW;have HB2:=za hB2;clear hKW hB2)
  | (go_at_call 16;refine HCk.out.mono ?_;rintro e w1 ⟨gb,N,rfl,hP,hN0,hN1,hB⟩;have hz1:=hB.size;have HP1:=za hP;have HB1:=za hB;clear hP hB))
 exact bodyPost_ret (v:=.tuple #[v3,.int .i64 0,.int .i64 0]) (by simp[results,Tryz.results12,go_sem]) rfl ⟨v3,w2.heap.size,rfl,HR3.out,by omega,(HB1.out.trans (HB2.out.mono hz1)).trans (HB3.out.mono (by omega))⟩
structure zlx (c:Cd):Prop where
 outsB:c.bools.length+c.outs<=c.slots
 slotsB:c.slots<=255
 cellsB:c.cells.length<=255
 depthB:c.depth<=3145728
 rowB:c.row.length<=1048576
theorem UC.cb {B cb:Nat}{c:Cd}{w:World}(h:UC B cb c w)(hc:zlx c):∃bv cv rv,CB w w.heap.size cb bv cv rv c:=by
 obtain⟨bv,cv,rv,h⟩:=h
 exact⟨bv,cv,rv,h.blk,zR h.bown (Nat.zero_le _),zR h.cown (Nat.zero_le _),zR h.rown (Nat.zero_le _),ze h.blk,λk e=>(h.bown.lt k e).2,λk e=>(h.cown.lt k e).2,λk e=>(h.rown.lt k e).2,hc.outsB,hc.slotsB,hc.cellsB,hc.depthB,hc.rowB⟩
structure Ma where
 M:Nat
 N:Nat
 mb:Nat
 cb:Nat
 b1:Nat
 b2:Nat
 bv:Value
 cv:Value
 rv:Value
structure MM (w:World) (a:Ma) (sv:Value) (c:Cd) (cells slots:List Int):Prop where
 blk:w.heap[a.M]?=some (.cells #[.pointer (some ⟨a.mb,0,none⟩)] 47 (0,0))
 mc:Mc w a.N a.mb a.cb a.b1 a.b2 a.bv a.cv a.rv sv c cells slots []
 m0:¬a.M=a.mb
 m1:¬a.M=a.b1
 m2:¬a.M=a.b2
 ms:¬sv.ownBlock=some a.M
theorem Mc.keep {w w':World}{N mb cb b1 b2:Nat}{bv cv rv sv:Value}{c:Cd}{cells slots st:List Int}(h:Mc w N mb cb b1 b2 bv cv rv sv c cells slots st)(hB:Below w.heap.size w w'):Mc w' N mb cb b1 b2 bv cv rv sv c cells slots st :=
 ⟨h.code.old (zm hB h.mem.hB),h.mem.fr (λk hk=>hB.block k hk) hB.size,h.n0,h.n1,h.n2,h.lc,h.ls⟩
theorem MM.keep {w w':World}{a:Ma}{sv:Value}{c:Cd}{cells slots:List Int}(h:MM w a sv c cells slots)(hB:Below w.heap.size w w'):MM w' a sv c cells slots :=
 ⟨(hB.block _ (ze h.blk)).trans h.blk,h.mc.keep hB,h.m0,h.m1,h.m2,h.ms⟩
theorem zpJ (S:Nat->Addr)(a:Option Addr)(cp g:Nat)(l:List Nat)(c:Cd)(hc:zlx c)(hu:zcR l=some c)(w:World)(hG:Gl S w)(hS:zbW w)(hy:By w (.slice a l.length cp) g l)(hg:g<w.heap.size) :
 Calls Tryz.prog 13 #[.slice a l.length cp] w (λe w'=>∃(m:Ma) (sv:Value),e=.returned (.tuple #[.pointer (some ⟨m.M,0,none⟩),.int .i64 0])/\MM w' m sv c c.cells (List.replicate c.slots 0)/\w.heap.size<=m.N/\Below w.heap.size w w'):=by
 have HU:=za (zk9 S a cp g l w hG hS hy hg)
 rw[hu] at HU
 unfold zfJ at HU
 have Hc:=za hc
 clear hG hS hy hg hu hc
 go_enter Tryz.func13,Tryz.ntmps13
 go_wp2_with (first
  | (go_at_call 20;revert HB1;intro HB1;refine (zpK w1.heap.size cb bv cv rv c w1 HCB.out (Nat.le_refl _)).mono ?_;rintro e w2 ⟨mb,b1,b2,sv,rfl,hM,hB⟩;have hz2:=hB.size;have HM:=za hM;have HB2:=za hB;clear hM hB)
  | (go_at_call 19;refine HU.out.mono ?_;rintro e w1 ⟨hB,cb,B,rfl,hcb,hBB,hUC⟩;have hz1:=hB.size;obtain⟨bv,cv,rv,hCB⟩:=hUC.cb Hc.out;have HCB:=za hCB;have HB1:=za hB;clear hUC hB hCB))
 obtain⟨l0,l1,l2,ls⟩:=HM.out.mem.lt
 have hB3:=zq w2 (.cells #[.pointer (some ⟨mb,0,none⟩)] 47)
 exact bodyPost_ret (v:=.tuple #[.pointer (some ⟨w2.heap.size,0,none⟩),.int .i64 0]) (by simp[results,Tryz.results13,go_sem]) rfl
  ⟨⟨w2.heap.size,w1.heap.size,mb,cb,b1,b2,bv,cv,rv⟩,sv,rfl,⟨zc w2 _,HM.out.keep hB3,(by show ¬w2.heap.size=mb;omega),(by show ¬w2.heap.size=b1;omega),(by show ¬w2.heap.size=b2;omega),λe=>Nat.lt_irrefl w2.heap.size (ls w2.heap.size e)⟩,hz1,(HB1.out.trans (HB2.out.mono hz1)).trans (hB3.mono (by omega))⟩
structure zlL (src:ByteArray) (c:Cd):Prop where
 ex:∃pre n fu gas f K,zlK src (pre++[n])/\zl2 fu gas f pre n K/\zcR (zcw (zcx K))=some c
 ok:zlx c
 fit:zd9 c.slots c.cells.length 0 c.row=some 0
theorem znW (l:List Nat)(h:∀x∈l,x<256):∀x∈zcw l,x<256:=by
 intro x hx
 rcases List.mem_append.1 hx with hx|hx
 · exact h x hx
 · exact zgs _ x hx
theorem zkS (S:Nat->Addr)(src:ByteArray)(c:Cd)(h:zlL src c)(w:World)(hG:Gl S w)(hop:zbt w)(hS:zbW w) :
 Calls Tryz.prog 6 #[.string src] w (λe w'=>∃(m:Ma) (sv:Value),e=.returned (.pointer (some ⟨m.M,0,none⟩))/\MM w' m sv c c.cells (List.replicate c.slots 0)/\w.heap.size<=m.N/\Below w.heap.size w w'):=by
 obtain⟨pre,n,fu,gas,f,K,hF,hC,hU⟩:=h.ex
 have HCo:=za (zlg S src pre n hF fu gas f K hC w hG hop hS)
 have hlt:=znW _ (zjc K hC.ops)
 have hlen:(zcw (zcx K)).length=(zcx K).length+8:=by unfold zcw;rw[List.length_append,zgR]
 obtain⟨l,hl⟩:∃l,l=zcw (zcx K):=⟨_,rfl⟩
 rw[<- hl] at HCo hU hlt hlen
 have hne:l≠[]:=by intro e;rw[e] at hlen;simp at hlen
 have HLo:=za (λW (hB:Below w.heap.size w W) v B (hR:BR B W v l)=>(by
  obtain⟨g,hy⟩:=hR.by hlt
  obtain⟨x,cp,e,_⟩:=hy.ex
  subst e
  exact zpJ S x cp g l c h.ok hU W (hG.of (T:=λ_=>False) (Fr.of_below hB) (λ_ e=>e.elim)) (hS.old (zm hB (Nat.le_refl _)) hG.size) hy (hy.lt' hne) :
   Calls Tryz.prog 13 #[v] W (λe w'=>∃(m:Ma) (sv:Value),e=.returned (.tuple #[.pointer (some ⟨m.M,0,none⟩),.int .i64 0])/\MM w' m sv c c.cells (List.replicate c.slots 0)/\W.heap.size<=m.N/\Below W.heap.size W w')))
 clear hF hC hU hlt hlen hl hne h hG hop hS
 go_enter Tryz.func6,Tryz.ntmps6
 go_wp2_with (first
  | (go_at_call 13;revert HR1;intro HR1;refine (HLo.out w1 HB1.out _ _ HR1.out).mono ?_;rintro e w2 ⟨m,sv,rfl,hM,hN,hB2⟩;have HM:=za hM;have HB2:=za (HB1.out.trans (hB2.mono hz1));clear hM hB2)
  | (go_at_call 12;refine HCo.out.mono ?_;rintro e w1 ⟨v1,B,rfl,hR,hB0,hB⟩;have hz1:=hB.size;have HR1:=za hR;have HB1:=za hB;clear hR hB))
 go_ret
 exact⟨m,sv,rfl,HM.out,by omega,HB2.out⟩
theorem zpN {fu gas f:Nat}{src:ByteArray}{K c:Cd}(hg:gas<=1000000)(hf:17*f<=100000)(h:zju fu gas f src=some K)(hu:zcR (zcw (zcx K))=some c)(ok:zlx c)(fit:zd9 c.slots c.cells.length 0 c.row=some 0):zlL src c:=by
 refine⟨?_,ok,fit⟩
 unfold zju at h
 simp only at h
 split at h
 · rename_i hc
   split at h
   · cases h
   · rename_i ns hns
     unfold zo5 at h
     split at h
     · cases h
     · rename_i n hn
       simp only at h
       split at h
       · rename_i hb
         cases h
         simp only[Bool.and_eq_true,decide_eq_true_eq,List.all_eq_true] at hb
         obtain⟨⟨⟨⟨⟨⟨⟨b1,b2⟩,b3⟩,b4⟩,b5⟩,b6⟩,b7⟩,b8⟩:=hb
         have hne:ns.dropLast++[n]=ns:=by
          have hne':ns≠[]:=by intro e;subst e;cases hn
          have:=List.dropLast_concat_getLast hne'
          rw[List.getLast?_eq_some_getLast hne'] at hn
          rw[<- Option.some.inj hn]
          exact this
         refine⟨ns.dropLast,n,fu,gas,f,_,?_,⟨rfl,hg,hf,zqW b4,b7,b6,b5,b8⟩,hu⟩
         rw[hne]
         exact⟨hc.1,hc.2.1,hc.2.2,hns,λn hn=>zhT (b1 n hn),b2,b3⟩
       · cases h
 · cases h
def hdN:ByteArray:=⟨#[110,111,100,101,32,97,40,120,58,32,105,110,116,41,32,45,62,32,40,121,58,32,105,110,116,41,32,123,32,121,32,61,32,120,32,43,32,40,48,32,102,98,121,32,121,41,59,32,125]⟩
def p1N:ByteArray:=⟨#[110,111,100,101,32]⟩
def p2N:ByteArray:=⟨#[40,120,58,32,105,110,116,41,32,45,62,32,40,121,58,32,105,110,116,41,32,123,32,121,32,61,32]⟩
def p3N:ByteArray:=⟨#[40,120,41,32,45,32,40,49,32,102,98,121,32]⟩
def p4N:ByteArray:=⟨#[40,120,32,43,32,49,41,41,59,32,125]⟩
def lt1 (c i:Nat):ByteArray:=⟨#[UInt8.ofNat (c+i)]⟩
def txN:Nat->ByteArray
 | 0=>hdN
 | i+1=>((((((txN i++p1N)++lt1 98 i)++p2N)++lt1 97 i)++p3N)++lt1 97 i)++p4N
def cN:Nat->Cd
 | 0=>⟨[false],1,3,[0],2,[(0,1),(2,2),(1,0),(3,0),(16,0),(2,1),(1,2),(1,1),(4,0)]⟩
 | 1=>⟨[false],1,6,[0,1,0],3,[(0,1),(2,2),(1,0),(2,3),(1,2),(2,5),(1,3),(3,0),(16,0),(2,4),(1,5),(1,4),(4,0),(1,4),(3,1),(17,0),(2,1),(1,2),(1,0),(0,1),(16,0),(2,3),(1,2),(2,5),(1,3),(3,2),(16,0),(2,4),(1,5),(1,4),(4,2),(1,4),(4,1)]⟩
 | 2=>⟨[false],1,9,[0,1,0,1,0,1,0],4,[(0,1),(2,2),(1,0),(2,3),(1,2),(2,5),(1,3),(2,6),(1,5),(2,8),(1,6),(3,0),(16,0),(2,7),(1,8),(1,7),(4,0),(1,7),(3,1),(17,0),(2,4),(1,5),(1,3),(0,1),(16,0),(2,6),(1,5),(2,8),(1,6),(3,2),(16,0),(2,7),(1,8),(1,7),(4,2),(1,7),(4,1),(1,4),(3,3),(17,0),(2,1),(1,2),(1,0),(0,1),(16,0),(2,3),(1,2),(2,5),(1,3),(2,6),(1,5),(2,8),(1,6),(3,4),(16,0),(2,7),(1,8),(1,7),(4,4),(1,7),(3,5),(17,0),(2,4),(1,5),(1,3),(0,1),(16,0),(2,6),(1,5),(2,8),(1,6),(3,6),(16,0),(2,7),(1,8),(1,7),(4,6),(1,7),(4,5),(1,4),(4,3)]⟩
 | _=>⟨[false],1,12,[0,1,0,1,0,1,0,1,0,1,0,1,0,1,0],5,[(0,1),(2,2),(1,0),(2,3),(1,2),(2,5),(1,3),(2,6),(1,5),(2,8),(1,6),(2,9),(1,8),(2,11),(1,9),(3,0),(16,0),(2,10),(1,11),(1,10),(4,0),(1,10),(3,1),(17,0),(2,7),(1,8),(1,6),(0,1),(16,0),(2,9),(1,8),(2,11),(1,9),(3,2),(16,0),(2,10),(1,11),(1,10),(4,2),(1,10),(4,1),(1,7),(3,3),(17,0),(2,4),(1,5),(1,3),(0,1),(16,0),(2,6),(1,5),(2,8),(1,6),(2,9),(1,8),(2,11),(1,9),(3,4),(16,0),(2,10),(1,11),(1,10),(4,4),(1,10),(3,5),(17,0),(2,7),(1,8),(1,6),(0,1),(16,0),(2,9),(1,8),(2,11),(1,9),(3,6),(16,0),(2,10),(1,11),(1,10),(4,6),(1,10),(4,5),(1,7),(4,3),(1,4),(3,7),(17,0),(2,1),(1,2),(1,0),(0,1),(16,0),(2,3),(1,2),(2,5),(1,3),(2,6),(1,5),(2,8),(1,6),(2,9),(1,8),(2,11),(1,9),(3,8),(16,0),(2,10),(1,11),(1,10),(4,8),(1,10),(3,9),(17,0),(2,7),(1,8),(1,6),(0,1),(16,0),(2,9),(1,8),(2,11),(1,9),(3,10),(16,0),(2,10),(1,11),(1,10),(4,10),(1,10),(4,9),(1,7),(3,11),(17,0),(2,4),(1,5),(1,3),(0,1),(16,0),(2,6),(1,5),(2,8),(1,6),(2,9),(1,8),(2,11),(1,9),(3,12),(16,0),(2,10),(1,11),(1,10),(4,12),(1,10),(3,13),(17,0),(2,7),(1,8),(1,6),(0,1),(16,0),(2,9),(1,8),(2,11),(1,9),(3,14),(16,0),(2,10),(1,11),(1,10),(4,14),(1,10),(4,13),(1,7),(4,11),(1,4),(4,7)]⟩
def TyN:Nat->Type
 | 0=>Int
 | n+1=>TyN n×Int×TyN n
def unN (s:TyN 0):Int:=s
def ztJ:(n:Nat)->TyN n->List Int
 | 0,s=>[unN s]
 | n+1,(a,v,b)=>ztJ n a++v::ztJ n b
def ztM:(n:Nat)->TyN n
 | 0=>(0:Int)
 | n+1=>(ztM n,1,ztM n)
def ztE:(n:Nat)->TyN n->Int->TyN n×Int
 | 0,s,x=>(wrap64 (x+unN s),wrap64 (x+unN s))
 | n+1,(a,v,b),x=>(((ztE n a x).1,(ztE n b (wrap64 (x+1))).2,(ztE n b (wrap64 (x+1))).1),wrap64 ((ztE n a x).2-v))
def ztH (n:Nat):TyN n->List Int->List Int
 | _,[]=>[]
 | s,x::l=>(ztE n s x).2::ztH n (ztE n s x).1 l
def ztF:Int->List Int->List Int
 | _,[]=>[]
 | s,x::l=>wrap64 (s+x)::ztF (wrap64 (s+x)) l
def ztK (l:List Int):List Int:=l.map λx=>wrap64 (x+1)
def ztS (a b:List Int):List Int:=List.zipWith (λa v=>wrap64 (a-v)) a b
def ztD:Nat->List Int->List Int
 | 0,l=>ztF 0 l
 | n+1,l=>ztS (ztD n l) (1::ztD n (ztK l))
theorem ztW:∀(l:List Int) (s:TyN 0),ztH 0 s l=ztF (unN s) l
 | [],_=>rfl
 | x::l,s=>by
   show wrap64 (x+unN s)::ztH 0 (ztE 0 s x).1 l=wrap64 (unN s+x)::ztF (wrap64 (unN s+x)) l
   rw[ztW l,Int.add_comm (unN s) x]
   rfl
theorem zt4 (n:Nat):∀(l:List Int) (a:TyN n) (v:Int) (b:TyN n),ztH (n+1) (a,v,b) l=ztS (ztH n a l) (v::ztH n b (ztK l))
 | [],_,_,_=>rfl
 | x::l,a,v,b=>by
   show wrap64 ((ztE n a x).2-v)::ztH (n+1) ((ztE n a x).1,(ztE n b (wrap64 (x+1))).2,(ztE n b (wrap64 (x+1))).1) l=_
   rw[zt4 n l]
   rfl
theorem ztQ:∀(n:Nat) (l:List Int),ztH n (ztM n) l=ztD n l
 | 0,l=>ztW l (ztM 0)
 | n+1,l=>by
   show ztH (n+1) (ztM n,1,ztM n) l=_
   rw[zt4,ztQ n l,ztQ n (ztK l)]
   rfl
theorem ztZ:∀(l:List Int) (s:Int),(ztF s l).length=l.length
 | [],_=>rfl
 | _::l,s=>by rw[ztF,List.length_cons,ztZ l,List.length_cons]
theorem ztU (l:List Int):(ztK l).length=l.length:=List.length_map ..
theorem ztG:∀(n:Nat) (l:List Int),(ztD n l).length=l.length
 | 0,l=>ztZ l 0
 | n+1,l=>by
   show (List.zipWith _ (ztD n l) (1::ztD n (ztK l))).length=_
   rw[List.length_zipWith,ztG n l,List.length_cons,ztG n (ztK l),ztU]
   omega
theorem zum (n:Nat):zd9 (cN n).slots (cN n).cells.length 0 (cN n).row=some 0:=by
 rcases n with _|_|_|n
 · decide +kernel
 · decide +kernel
 · decide +kernel
 · show zd9 (cN 3).slots (cN 3).cells.length 0 (cN 3).row=some 0;decide +kernel
theorem zuu (n:Nat):(cN n).outs=1:=by
 rcases n with _|_|_|n <;> rfl
theorem zui (n:Nat)(a:Int):zdE (cN n).bools [a]=none:=by
 rcases n with _|_|_|n <;> rfl
theorem zur {n:Nat}(h:n<=3):(cN n).cells=ztJ n (ztM n):=by
 rcases n with _|_|_|_|n
 · rfl
 · rfl
 · rfl
 · rfl
 · omega
theorem zuh {n:Nat}(h:n<=3)(s:TyN n)(x:Int):(zbm (cN n) (ztJ n s) [x]).cells=ztJ n (ztE n s x).1/\zcX (cN n) (zbm (cN n) (ztJ n s) [x])=[(ztE n s x).2]:=by
 rcases n with _|_|_|_|n
 · exact⟨by kernel_rfl,by kernel_rfl⟩
 · obtain⟨a,v,b⟩:=s
   exact⟨by kernel_rfl,by kernel_rfl⟩
 · obtain⟨⟨a,v,b⟩,u,⟨c,w,d⟩⟩:=s
   exact⟨by kernel_rfl,by kernel_rfl⟩
 · obtain⟨⟨⟨a,v,b⟩,u,⟨c,w,d⟩⟩,z,⟨⟨e,f,g⟩,i,⟨j,k,l⟩⟩⟩:=s
   exact⟨by kernel_rfl,by kernel_rfl⟩
 · omega
theorem zuy:zlZ 20 100 6 (txN 0) (cN 0)=true:=by decide +kernel
theorem zuL:zlZ 20 100 6 (txN 1) (cN 1)=true:=by decide +kernel
theorem zuJ:zlZ 20 100 6 (txN 2) (cN 2)=true:=by decide +kernel
theorem zuD:zlZ 20 100 6 (txN 3) (cN 3)=true:=by decide +kernel
theorem zub {s:ByteArray}{n:Nat}(hn:n<=3)(h:zlZ 20 100 6 s (cN n)=true):zlL s (cN n):=by
 obtain⟨K,h1,h2⟩:=zpq h
 have hf:=zum n
 rcases n with _|_|_|_|n <;> first|omega|exact zpN (by decide) (by decide) h1 h2 ⟨by decide,by decide,by decide,by decide,by decide⟩ hf
theorem zuj {n:Nat}(hn:n<=3):zlL (txN n) (cN n):=by
 apply zub hn
 rcases n with _|_|_|_|n
 · exact zuy
 · exact zuL
 · exact zuJ
 · exact zuD
 · omega
structure Ar (w:World) (N:Nat) (v:Value) (l:List Int):Prop where
 ex:∃a c,v=.slice a l.length c/\l.length<=9223372036854775807/\(l≠[]->∃g o,a=some ⟨g,o,none⟩/\g<N/\∀j x,l[j]?=some x->w.cell? ⟨g,o+j,none⟩=some (.int .i64 x))
 wf:∀x∈l,-9223372036854775808<=x/\x<=9223372036854775807
theorem Ar.fr {w w':World}{N:Nat}{v:Value}{l:List Int}(h:Ar w N v l)(ho:Old N w w'):Ar w' N v l:=by
 obtain⟨a,c,h1,h2,h3⟩:=h.ex
 refine⟨⟨a,c,h1,h2,λhl=>?_⟩,h.wf⟩
 obtain⟨g,o,e1,e2,e3⟩:=h3 hl
 exact⟨g,o,e1,e2,λj x hj=>(World.cell?_of_block (w:=w) (ho g e2)).trans (e3 j x hj)⟩
theorem zsi (w:World)(a:Int)(t:TypeId):Nm (w.alloc (.cells #[.int .i64 a] t)) (.slice (some ⟨w.heap.size,0,none⟩) 1 1) w.heap.size [a]:=by
 refine⟨some ⟨w.heap.size,0,none⟩,1,rfl,Nat.le_refl _,by decide,λ_=>⟨0,rfl,λj x hj=>?_⟩⟩
 obtain⟨c0,_,_⟩:=zu (zc w (.cells #[.int .i64 a] t))
 rcases j with _|j
 · simp at hj;subst hj;exact c0
 · simp at hj
def ztI (x:Int):Prop:=-9223372036854775808<=x/\x<=9223372036854775807
theorem ztT (x:Int):ztI (wrap64 x):=by unfold ztI wrap64;omega
theorem zt7:∀(l:List Int) (s:Int),∀x∈ztF s l,ztI x
 | [],_,x,h=>by cases h
 | y::l,s,x,h=>by
   rcases List.mem_cons.1 h with rfl|h
   · exact ztT _
   · exact zt7 l _ x h
theorem zuc:∀(a b:List Int),∀x∈ztS a b,ztI x
 | [],_,x,h=>by cases h
 | _::_,[],x,h=>by cases h
 | y::a,z::b,x,h=>by
   rcases List.mem_cons.1 h with rfl|h
   · exact ztT _
   · exact zuc a b x h
theorem zt6 (n:Nat)(l:List Int):∀x∈ztD n l,ztI x:=by
 cases n with
 | zero=>exact zt7 l 0
 | succ n=>exact zuc _ _
theorem zup (l:List Int):∀x∈ztK l,ztI x:=by
 intro x h
 obtain⟨y,_,rfl⟩:=List.mem_map.1 h
 exact ztT _
theorem Ar.up {w:World}{N N':Nat}{v:Value}{l:List Int}(h:Ar w N v l)(hN:N<=N'):Ar w N' v l:=by
 obtain⟨a,c,h1,h2,h3⟩:=h.ex
 refine⟨⟨a,c,h1,h2,λhl=>?_⟩,h.wf⟩
 obtain⟨g,o,e1,e2,e3⟩:=h3 hl
 exact⟨g,o,e1,by omega,e3⟩
theorem ztX {w:World}{B:Nat}{v:Value}{d:List Int}(h:w.ownsRow B 2 1 v d.length (zK d))(hw:∀x∈d,ztI x):Ar w w.heap.size v d:=by
 obtain⟨a,cp,rfl⟩:=zB h
 refine⟨⟨a,cp,rfl,?_,λhne=>?_⟩,hw⟩
 · rcases h.2 with ⟨_,h0⟩|⟨g,cap,cur,e,_,_,h3,h4,_⟩
   · omega
   · unfold maxLen at h4;omega
 · obtain⟨g,cap,e,hb⟩:=zM h (by cases d with|nil=>exact absurd rfl hne|cons x d=>exact Nat.succ_pos _)
   cases e
   refine⟨g,0,rfl,(h.lt g rfl).2,λj x hj=>?_⟩
   have:=zhv h (j:=j) (u:=.int .i64 x) (by simp[zK,hj])
   rw[Nat.zero_add];exact this
theorem ztO {ops:Array Oper}{rest:List Oper}{o:Oper}{a:Act}{Q:Exit->Act->World->Prop}(W:World)(hgd:o.guard=none)(s x:Operand)(ho:o.op=.call { callee:=.builtin .append,args:=#[s,x],argTypes:=#[22,22] })
 (B:Nat) (xo:Option Addr) (co k:Nat) (xs:List Value) (y:Int) (hs:a.eval s=.slice xo k co) (hown:W.ownsRow B 2 1 (.slice xo k co) k xs) (hx:a.eval x=.slice (some ⟨W.heap.size,0,none⟩) 1 1) (mx:k+1<=maxLen) (by':(k+1)*8<=140737488355328) (hB:B<=W.heap.size)
 (h:∀g cap w',w'.ownsRow B 2 1 (.slice (some ⟨g,0,none⟩) (k+1) cap) (k+1) (xs++[.int .i64 y])->Fr (λj=>(Value.slice xo k co).ownBlock=some j) (W.alloc (.cells #[.int .i64 y] 2)) w'->wpList Tryz.prog ops Q rest (a.put o.dst (.slice (some ⟨g,0,none⟩) (k+1) cap)) w') :
 wpList Tryz.prog ops Q (o::rest) a (W.alloc (.cells #[.int .i64 y] 2)):=by
 obtain⟨i0,hi,hi0,hi1,hi2⟩:=info_parts Tryz.infoI64
 refine zbz _ hgd s x 22 ho B 2 i0 _ 1 8 Tryz.underlying22 hi hi0 hi1 hi2 rfl (by decide) (.slice xo k co) k xs hs (zD hown _) ⟨W.heap.size,0,none⟩ 1 1 [.int .i64 y] hx rfl (zN (zc W _) rfl) zr0 mx by' (by simp;omega) ?_
 intro v' w9 h9 hg _
 obtain⟨g9,cap9,rfl,_⟩:=zM h9 (by omega)
 exact h g9 cap9 w9 h9 (Fr.of_grown hg)
theorem zt3:∀(k:Nat) (l:List Int) (s0 s x:Int),(s0::ztF s0 l)[k]?=some s->l[k]?=some x->(ztF s0 l)[k]?=some (wrap64 (s+x))
 | 0,y::l,s0,s,x,h1,h2=>by simp at h1 h2;subst h1;subst h2;rfl
 | 0,[],_,_,_,_,h2=>by simp at h2
 | k+1,[],_,_,_,_,h2=>by simp at h2
 | k+1,y::l,s0,s,x,h1,h2=>by
   have:=zt3 k l (wrap64 (s0+y)) s x (by simpa [ztF] using h1) (by simpa using h2)
   simpa [ztF] using this
theorem zuo {l:List Int}{k:Nat}{x:Int}(h:l[k]?=some x):(ztK l)[k]?=some (wrap64 (x+1)):=by simp[ztK,h]
theorem zue {a b:List Int}{k:Nat}{x y:Int}(h1:a[k]?=some x)(h2:b[k]?=some y):(ztS a b)[k]?=some (wrap64 (x-y)):=by
 simp[ztS,List.getElem?_zipWith,h1,h2]
theorem ztL {F:List Int}{k:Nat}{x:Int}(h:F[k]?=some x):zK (F.take k)++[.int .i64 x]=zK (F.take (k+1)):=by
 rw[zeq h];simp[zK]
theorem zt9 (v:Value)(l:List Int)(w:World)(h8:l.length*8<=140737488355328)(h:Ar w w.heap.size v l) :
 Calls Tryz.prog 10 #[.int .i64 0,v] w (λe w'=>∃v',e=.returned v'/\Ar w' w'.heap.size v' (ztD 0 l)/\(∀k,v'.ownBlock=some k->w.heap.size<=k)/\Below w.heap.size w w'):=by
 obtain⟨a,cp,rfl,hl,hc⟩:=h.ex
 have H:=za h
 clear h hc
 obtain⟨F,hF⟩:∃F,ztD 0 l=F:=⟨_,rfl⟩
 have HF:=za hF
 have HFl:=za (show F.length=l.length by rw[<- hF];exact ztG 0 l)
 rw[hF]
 clear hF
 go_enter Tryz.func10,Tryz.ntmps10
 go_upto_region 5 with fail
 go_loopg [5,6,7] (l.length+1) (λj ov sv iv wr=>∃(k:Nat) (s:Int) (xo:Option Addr) (co:Nat),k+j=l.length+1/\k<=l.length/\iv=.int .i64 k/\sv=.int .i64 s/\ov=.slice xo k co/\Hid ((0::F)[k]?=some s)/\Hid (wr.ownsRow w.heap.size 2 1 (.slice xo k co) k (zK (F.take k)))/\Hid (Below w.heap.size w wr))
 case atStart=>exact⟨0,0,none,0,by omega,Nat.zero_le _,rfl,rfl,rfl,rfl,World.ownsRow_nil _ _ _ _,Below.refl _ _⟩
 case round =>
  obtain⟨k,s,xo,co,hk,hkl,rfl,rfl,rfl,HS,HO,HB⟩:=hrel
  have hzr:=HB.out.size
  by_cases hlt:k<l.length
  · obtain⟨x,hx⟩:∃x,l[k]?=some x:=⟨_,zsc hlt⟩
    obtain⟨_,_,ev1,_,hcell1⟩:=(H.out.fr (zm HB.out (Nat.le_refl _))).ex
    cases ev1
    obtain⟨g1,o1,rfl,hg1,hcl1⟩:=hcell1 (by intro e;rw[e] at hx;simp at hx)
    have hc1:=hcl1 k x hx
    have Hn:=za (show F[k]?=some (wrap64 (s+x)) by rw[<- HF.out];exact zt3 k l 0 s x (by rw[show ztF 0 l=F from HF.out];exact HS.out) hx)
    have mx:k+1<=maxLen:=by unfold maxLen;omega
    have by':(k+1)*8<=140737488355328:=by omega
    clear hcl1 hcell1 hx
    go_wp2_with (at_builtin;refine ztO _ rfl (.tmp 28) (.tmp 30) rfl w.heap.size xo co k _ (wrap64 (s+x)) rfl HO.out rfl mx by' (by omega) ?_;intro g9 cap9 w9 h9 f9;have HF9:=za f9;have Hown9:=za h9;clear h9 f9)
    go_roundg (gk-1)
    case measure=>omega
    refine⟨k+1,wrap64 (s+x),_,_,by omega,by omega,by go_num,rfl,rfl,?_,?_,?_⟩
    · exact Hn.out
    · have:=Hown9.out;rw[ztL Hn.out] at this;exact this
    · exact HB.out.trans ((((Fr.refl _ wr).alloc _).trans' HF9.out (λi _ e=>e)).below (B:=w.heap.size) (by omega) (λk e=>(HO.out.lt _ e).1))
  · obtain rfl:k=l.length:=by omega
    go_wp2_with fail
    go_ret
    refine⟨_,rfl,ztX (B:=w.heap.size) ?_ ?_,λk e=>(HO.out.lt k e).1,HB.out⟩
    · have:=HO.out;rw[<- HFl.out,List.take_length] at this;rw[HFl.out] at this ⊢;exact this
    · rw[<- HF.out];exact zt6 0 l
def zud (n:Nat):Prop:=∀(v:Value) (l:List Int) (w:World),l.length*8<=140737488355328->Ar w w.heap.size v l ->
    Calls Tryz.prog 10 #[.int .i64 (n:Nat),v] w (λe w'=>∃v',e=.returned v'/\Ar w' w'.heap.size v' (ztD n l)/\(∀k,v'.ownBlock=some k->w.heap.size<=k)/\Below w.heap.size w w')
theorem zua (n:Nat)(hn:n<=1000)(IH:zud n)(v:Value)(l:List Int)(w:World)(h8:l.length*8<=140737488355328)(h:Ar w w.heap.size v l) :
 Calls Tryz.prog 10 #[.int .i64 ((n+1:Nat):Int),v] w (λe w'=>∃v',e=.returned v'/\Ar w' w'.heap.size v' (ztD (n+1) l)/\(∀k,v'.ownBlock=some k->w.heap.size<=k)/\Below w.heap.size w w'):=by
 obtain⟨a,cp,rfl,hl,hc⟩:=h.ex
 have H:=za h
 have HIH:=za IH
 clear h hc IH
 obtain⟨F,hF⟩:∃F,ztD (n+1) l=F:=⟨_,rfl⟩
 obtain⟨A1,hA1⟩:∃A1,ztD n l=A1:=⟨_,rfl⟩
 obtain⟨A2,hA2⟩:∃A2,ztD n (ztK l)=A2:=⟨_,rfl⟩
 obtain⟨M,hM⟩:∃M,ztK l=M:=⟨_,rfl⟩
 have HFs:=za (show F=ztS A1 (1::A2) by rw[<- hF,<- hA1,<- hA2];rfl)
 have HFl:=za (show F.length=l.length by rw[<- hF];exact ztG (n+1) l)
 have HA1l:=za (show A1.length=l.length by rw[<- hA1];exact ztG n l)
 have HA2l:=za (show A2.length=l.length by rw[<- hA2,ztG,ztU])
 have HMl:=za (show M.length=l.length by rw[<- hM,ztU])
 have HFi:=za (show ∀x∈F,ztI x by rw[<- hF];exact zt6 (n+1) l)
 have HMi:=za (show ∀x∈M,ztI x by rw[<- hM];exact zup l)
 have HM:=za hM
 have HA1:=za hA1
 have HA2:=za (show ztD n M=A2 by rw[<- hM];exact hA2)
 rw[hF]
 clear hF hA1 hA2 hM
 have hn1:¬((n+1:Nat):Int)=0:=by omega
 obtain⟨m,hm⟩:∃m:Nat,n+1=m:=⟨_,rfl⟩
 rw[hm] at hn1 ⊢
 have hmn:(m:Int)-1=(n:Nat):=by omega
 have Hmn:=za hmn
 have hmb:((m:Int)==0)=false:=by simpa using hn1
 have hm1:1<=m:=by omega
 have hm2:m<=1001:=by omega
 clear hm hmn
 go_enter Tryz.func10,Tryz.ntmps10
 go_upto_region 12 with fail
 go_loopg [8,9] (l.length+1) (λj ov iv wr=>∃(k:Nat) (xo:Option Addr) (co:Nat),k+j=l.length+1/\k<=l.length/\iv=.int .i64 k/\ov=.slice xo k co/\Hid (wr.ownsRow w.heap.size 2 1 (.slice xo k co) k (zK (M.take k)))/\Hid (Below w.heap.size w wr))
 case atStart=>exact⟨0,none,0,by omega,Nat.zero_le _,rfl,rfl,World.ownsRow_nil _ _ _ _,Below.refl _ _⟩
 case round =>
  obtain⟨k,xo,co,hk,hkl,rfl,rfl,HO,HB⟩:=hrel
  have hzr:=HB.out.size
  by_cases hlt:k<l.length
  · obtain⟨x,hx⟩:∃x,l[k]?=some x:=⟨_,zsc hlt⟩
    obtain⟨_,_,ev1,_,hcell1⟩:=(H.out.fr (zm HB.out (Nat.le_refl _))).ex
    cases ev1
    obtain⟨g1,o1,rfl,hg1,hcl1⟩:=hcell1 (by intro e;rw[e] at hx;simp at hx)
    have hc1:=hcl1 k x hx
    have Hn:=za (show M[k]?=some (wrap64 (x+1)) by rw[<- HM.out];exact zuo hx)
    have mx:k+1<=maxLen:=by unfold maxLen;omega
    have by':(k+1)*8<=140737488355328:=by omega
    clear hcl1 hcell1 hx
    go_wp2_with (at_builtin;refine ztO _ rfl (.tmp 39) (.tmp 45) rfl w.heap.size xo co k _ (wrap64 (x+1)) rfl HO.out rfl mx by' (by omega) ?_;intro g9 cap9 w9 h9 f9;have HF9:=za f9;have Hown9:=za h9;clear h9 f9)
    go_roundg (gk-1)
    case measure=>omega
    refine⟨k+1,_,_,by omega,by omega,by go_num,rfl,?_,?_⟩
    · have:=Hown9.out;rw[ztL Hn.out] at this;exact this
    · exact HB.out.trans ((((Fr.refl _ wr).alloc _).trans' HF9.out (λi _ e=>e)).below (B:=w.heap.size) (by omega) (λk e=>(HO.out.lt _ e).1))
  · obtain rfl:k=l.length:=by omega
    have HAm:=za (ztX (B:=w.heap.size) (v:=.slice xo l.length co) (d:=M) (by have:=HO.out;rw[<- HMl.out,List.take_length] at this;rw[HMl.out] at this ⊢;exact this) HMi.out)
    have HAi:=za ((H.out.fr (zm HB.out (Nat.le_refl _))).up hzr)
    clear HO
    go_upto_region 18 with (first
     | (revert G1;intro G1;go_at_call 10;go_loud (rw[Hmn.out]);refine (HIH.out _ M _ (by rw[HMl.out];exact h8) ((HAm.out.fr (zm G1.out (Nat.le_refl _))).up G1.out.size)).mono ?_;rintro e w2 ⟨vb,rfl,hb2,_,hB2⟩;rw[HA2.out] at hb2;have G2:=za hb2;have G3:=za hB2;clear hb2 hB2)
     | (go_at_call 10;go_loud (rw[Hmn.out]);refine (HIH.out _ l _ h8 HAi.out).mono ?_;rintro e w1 ⟨va,rfl,ha1,_,hB1⟩;rw[HA1.out] at ha1;have G0:=za ha1;have G1:=za hB1;clear ha1 hB1))
    obtain⟨aA,cA,rfl,_,_⟩:=G0.out.ex
    obtain⟨aB,cB,rfl,_,_⟩:=G2.out.ex
    have HB2:=za ((HB.out.trans (G1.out.mono hzr)).trans (G3.out.mono (Nat.le_trans hzr G1.out.size)))
    have Ha:=za ((G0.out.fr (zm G3.out (Nat.le_refl _))).up G3.out.size)
    have Hb:=za G2.out
    have hz2:=HB2.out.size
    have HAi2:=za (H.out.fr (zm HB2.out (Nat.le_refl _)))
    clear HB HAm HAi G0 G1 G2 G3 HIH
    obtain⟨wo,rfl⟩:∃wo,wo=wr:=⟨_,rfl⟩
    go_loopg [5,12] (l.length+1) (λj ov iv wr=>∃(k:Nat) (xo:Option Addr) (co:Nat),k+j=l.length+1/\k<=l.length/\iv=.int .i64 k/\ov=.slice xo k co/\Hid (wr.ownsRow w2.heap.size 2 1 (.slice xo k co) k (zK (F.take k)))/\Hid (Below w2.heap.size w2 wr))
    case atStart=>exact⟨0,none,0,by omega,Nat.zero_le _,rfl,rfl,World.ownsRow_nil _ _ _ _,Below.refl _ _⟩
    case round =>
     obtain⟨k,xo,co,hk,hkl,rfl,rfl,HO,HB⟩:=hrel
     have hzr:=HB.out.size
     by_cases hlt:k<l.length
     · obtain⟨x,hx⟩:∃x,A1[k]?=some x:=⟨_,zsc (by rw[HA1l.out];exact hlt)⟩
       obtain⟨_,_,ev1,_,hcell1⟩:=(Ha.out.fr (zm HB.out (Nat.le_refl _))).ex
       cases ev1
       obtain⟨g1,o1,rfl,hg1,hcl1⟩:=hcell1 (by intro e;rw[e] at hx;simp at hx)
       have hc1:=hcl1 k x hx
       have hla:(k:Int)<(A1.length:Int):=by rw[HA1l.out];omega
       have mx:k+1<=maxLen:=by unfold maxLen;omega
       have by':(k+1)*8<=140737488355328:=by omega
       rcases Nat.eq_zero_or_pos k with hz|hz
       · have Hn:=za (show F[k]?=some (wrap64 (x-1)) by rw[HFs.out];exact zue hx (by rw[hz];rfl))
         subst hz
         have hc0:wr.cell? ⟨g1,o1,none⟩=some (.int .i64 x):=hc1
         clear hcl1 hcell1 hx
         go_wp2_with (at_builtin;refine ztO _ rfl (.tmp 68) (.tmp 75) rfl w2.heap.size xo co 0 _ (wrap64 (x-1)) rfl HO.out rfl mx by' (by omega) ?_;intro g9 cap9 w9 h9 f9;have HF9:=za f9;have Hown9:=za h9;clear h9 f9)
         go_roundg (gk-1)
         case measure=>omega
         refine⟨0+1,_,_,by omega,by omega,by go_num,rfl,?_,?_⟩
         · have:=Hown9.out;rw[ztL Hn.out] at this;exact this
         · exact HB.out.trans ((((Fr.refl _ wr).alloc _).trans' HF9.out (λi _ e=>e)).below (B:=w2.heap.size) (by omega) (λk e=>(HO.out.lt _ e).1))
       · obtain⟨y,hy⟩:∃y,A2[k-1]?=some y:=⟨_,zsc (by rw[HA2l.out];omega)⟩
         have Hn:=za (show F[k]?=some (wrap64 (x-y)) by rw[HFs.out];exact zue hx (by rw[List.getElem?_cons,if_neg (by omega)];exact hy))
         obtain⟨_,_,ev2,_,hcell2⟩:=(Hb.out.fr (zm HB.out (Nat.le_refl _))).ex
         cases ev2
         obtain⟨g2,o2,rfl,hg2,hcl2⟩:=hcell2 (by intro e;rw[e] at hy;simp at hy)
         obtain⟨q,rfl⟩:∃q,k=q+1:=⟨k-1,by omega⟩
         have hc2:=hcl2 q y (by simpa using hy)
         have hlb:(q:Int)<(A2.length:Int):=by rw[HA2l.out];omega
         clear hcl1 hcell1 hx hcl2 hcell2 hy
         go_wp2_with (at_builtin;refine ztO _ rfl (.tmp 68) (.tmp 75) rfl w2.heap.size xo co (q+1) _ (wrap64 (x-y)) rfl HO.out rfl mx by' (by omega) ?_;intro g9 cap9 w9 h9 f9;have HF9:=za f9;have Hown9:=za h9;clear h9 f9)
         go_roundg (gk-1)
         case measure=>omega
         refine⟨q+1+1,_,_,by omega,by omega,by go_num,rfl,?_,?_⟩
         · have:=Hown9.out;rw[ztL Hn.out] at this;exact this
         · exact HB.out.trans ((((Fr.refl _ wr).alloc _).trans' HF9.out (λi _ e=>e)).below (B:=w2.heap.size) (by omega) (λk e=>(HO.out.lt _ e).1))
     · obtain rfl:k=l.length:=by omega
       go_wp2_with fail
       go_ret
       refine⟨_,rfl,ztX (B:=w2.heap.size) ?_ HFi.out,λk e=>Nat.le_trans hz2 (HO.out.lt k e).1,HB2.out.trans (HB.out.mono hz2)⟩
       have:=HO.out;rw[<- HFl.out,List.take_length] at this;rw[HFl.out] at this ⊢;exact this
theorem zt5:∀n:Nat,n<=1000->zud n
 | 0,_=>λv l w h8 h=>zt9 v l w h8 h
 | n+1,hn=>λv l w h8 h=>zua n (by omega) (zt5 n (by omega)) v l w h8 h
theorem zug (S:Nat->Addr)(m:Ma)(sv:Value)(c:Cd)(cells slots:List Int)(w:World)(v:Value)(g:Nat)(l:List Int)(hG:Gl S w)(h:MM w m sv c cells slots)(hl:Nm w v g l)(hg2:l≠[]->g≠m.b2)(hr:zdE c.bools l=none)(hfit:zd9 c.slots c.cells.length 0 c.row=some 0) :
 Calls Tryz.prog 8 #[.pointer (some ⟨m.M,0,none⟩),v] w (λe w'=>∃ob sv',e=.returned (.tuple #[.slice (some ⟨ob,0,none⟩) c.outs c.outs,.int .i64 0])/\w.heap.size<=ob/\w'.heap[ob]?=some (.cells (zK (zcX c (zbm c cells l))).toArray 2 (0,0))/\MM w' m sv' c (zbm c cells l).cells (zbm c cells l).slots/\MFr m.mb m.b1 m.b2 w sv w' sv'):=by
 have HSt:=za (zjy S m.N m.mb m.cb m.b1 m.b2 m.bv m.cv m.rv sv c cells slots w v g l hG h.mc hl hg2 hr hfit)
 obtain⟨a0,af,az⟩:=zu h.blk
 have H:=za h
 clear hG h hl hg2 hr hfit
 go_enter Tryz.func8,Tryz.ntmps8
 go_wp2_with (first
  | (go_at_call 15;refine (zmA _).mono ?_;rintro e w3 ⟨rfl,rfl⟩)
  | (go_at_call 14;refine HSt.out.mono ?_;rintro e w1 ⟨ob,sv',rfl,h1,h2,h3,h4,h5⟩;have H1:=za h1;have H2:=za h2;have H4:=za h4;have H5:=za h5;clear h1 h2 h3 h4 h5))
 refine bodyPost_ret (v:=.tuple #[.slice (some ⟨ob,0,none⟩) c.outs c.outs,.int .i64 0]) (by simp[results,Tryz.results8,go_sem]) rfl ⟨ob,sv',rfl,H1.out,H2.out,⟨?_,H4.out,H.out.m0,H.out.m1,H.out.m2,?_⟩,?_⟩
 · refine (H5.out.fr.block _ az ?_).trans H.out.blk
   rintro (e|e|e|e)
   · exact H.out.m0 e
   · exact H.out.m1 e
   · exact H.out.m2 e
   · exact H.out.ms e
 · intro e
   rcases H5.out.new _ e with e|e
   · exact H.out.ms e
   · omega
 · exact H5.out
theorem zul (S:Nat->Addr)(m:Ma)(sv:Value)(c:Cd)(cells slots:List Int)(w:World)(v:Value)(g:Nat)(l:List Int)(y:Int)(hG:Gl S w)(h:MM w m sv c cells slots)(hl:Nm w v g l)(hg2:l≠[]->g≠m.b2)(hr:zdE c.bools l=none)(hfit:zd9 c.slots c.cells.length 0 c.row=some 0)(h1:c.outs=1)(hy:zcX c (zbm c cells l)=[y]) :
 Calls Tryz.prog 11 #[.pointer (some ⟨m.M,0,none⟩),v] w (λe w'=>∃sv',e=.returned (.tuple #[.int .i64 y,.bool true])/\MM w' m sv' c (zbm c cells l).cells (zbm c cells l).slots/\MFr m.mb m.b1 m.b2 w sv w' sv'):=by
 have HSt:=za (zug S m sv c cells slots w v g l hG h hl hg2 hr hfit)
 rw[h1,hy] at HSt
 clear hG h hl hg2 hr hfit h1 hy
 generalize zbm c cells l=R at *
 go_enter Tryz.func11,Tryz.ntmps11
 go_wp2_with (go_at_call 8;refine HSt.out.mono ?_;rintro e w1 ⟨ob,sv',rfl,q1,q2,q3,q4⟩;have q5:w1.heap[ob]?=some (.cells #[.int .i64 y] 2 (0,0)):=q2;obtain⟨o0,of,oz⟩:=zu q5;have Q3:=za q3;have Q4:=za q4;clear q2 q3 q4 q5)
 refine bodyPost_ret (v:=.tuple #[.int .i64 y,.bool true]) (by simp[results,Tryz.results11,go_sem]) rfl ⟨sv',rfl,Q3.out,Q4.out⟩
theorem zun (S:Nat->Addr)(m:Ma)(sv:Value)(n:Nat)(hn:n<=3)(s:TyN n)(a:Int)(slots:List Int)(w:World)(v:Value)(g:Nat)(hG:Gl S w)(h:MM w m sv (cN n) (ztJ n s) slots)(hl:Nm w v g [a])(hg2:g≠m.b2) :
 Calls Tryz.prog 11 #[.pointer (some ⟨m.M,0,none⟩),v] w (λe w'=>∃sv' slots',e=.returned (.tuple #[.int .i64 (ztE n s a).2,.bool true])/\MM w' m sv' (cN n) (ztJ n (ztE n s a).1) slots'/\MFr m.mb m.b1 m.b2 w sv w' sv'):=by
 have hs:=zul S m sv (cN n) (ztJ n s) slots w v g [a] _ hG h hl (λ_=>hg2) (zui n a) (zum n) (zuu n) (zuh hn s a).2
 have he:=(zuh hn s a).1
 obtain⟨R,hR⟩:∃R,zbm (cN n) (ztJ n s) [a]=R:=⟨_,rfl⟩
 rw[hR] at hs he
 refine hs.mono ?_
 rintro e w' ⟨sv',rfl,q3,q4⟩
 rw[he] at q3
 exact⟨sv',R.slots,rfl,q3,q4⟩
end
end Go.Proofs.YtedmpgjebafcjaaGreatDoor
