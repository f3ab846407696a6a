/- Part 50 of the proof: UpJ FixB SmA GlA GlB GlC GlD GlE ArB. -/
import Derived.Test.YtedmpgjebafcjaaGreatDoorK44
import Derived.Test.YtedmpgjebafcjaaGreatDoorK48
set_option maxRecDepth 100000
set_option maxHeartbeats 8000000
namespace Go.Proofs.YtedmpgjebafcjaaGreatDoor
section
open Go.RowKit
def ziO (l:List Nat) (s:Ir):Ir:=[99,100,110,50].foldl (λs m=>zbU ((zG l s).1==m) (zG l s).2) s
def cdM (b:List Nat):Option Cd :=
 let h:=zdL b (ziO b ⟨0,none⟩)
 let r:=zdw b h.1.slots h.1.cells.length (b.length+2) ⟨h.2,0,0,[]⟩
 if r.s.er=none then some { h.1 with depth:=r.mx,row:=r.row } else none
def zcR (l:List Nat):Option Cd:=(zdN l).bind cdM
def zg5:ByteArray:=⟨#[108,111,97,100,105,110,103]⟩
def zfJ (S:Nat->Addr) (w:World) (o:Option Cd) (e:Ending) (w':World):Prop :=
 match o with
 | none=>∃p,e=.returned (.tuple #[.pointer none,zeQ zg5 (zcE S p)])
 | some c=>∃cb B,e=.returned (.tuple #[.pointer (some ⟨cb,0,none⟩),.nilIface])/\w.heap.size<=cb/\w.heap.size<=B/\UC B cb c w'
theorem zl6 (l:List Nat) (s:Ir) (h:∀x∈l,x<256):(zdL l s).1.slots<=1000000/\(zdL l s).1.cells.length<=1000000/\(zdL l s).1.depth=0/\(zdL l s).1.row=[]:=by
 have hn:∀n t,(zcy l n t).1.length=n:=by
  intro n
  induction n with
  | zero=>intro t;rfl
  | succ n ih=>intro t;show (_::_).length=_;rw [List.length_cons,ih]
 refine ⟨?_,?_,rfl,rfl⟩
 · have:=zcI l (zG l (zbb l (zG l s).1 (zG l s).2).2).2 h
   show (zG l _).1<=_
   omega
 · show (zcy l _ _).1.length<=_
   rw [hn]
   have:=zeS l 61 (zbU (decide ((zbb l (zG l s).1 (zG l s).2).1.length+(zG l (zbb l (zG l s).1 (zG l s).2).2).1<=(zG l (zG l (zbb l (zG l s).1 (zG l s).2).2).2).1)) (zG l (zG l (zbb l (zG l s).1 (zG l s).2).2).2).2) h
   omega
theorem zgq (y m:Nat):((y:Int)==(m:Int))=(y==m):=by
 by_cases h:y=m
 · subst h;rw [beq_self_eq_true,beq_self_eq_true]
 · have h':¬(y:Int)=(m:Int):=by omega
   rw [beq_eq_false_iff_ne.2 h,beq_eq_false_iff_ne.2 h']
theorem zk9 (S:Nat->Addr) (a:Option Addr) (c g:Nat) (l:List Nat) (w:World) (hG:Gl S w) (hS:zbW w) (hy:By w (.slice a l.length c) g l) (hg:g<w.heap.size) :
 Calls Tryz.prog 19 #[.slice a l.length c] w (λe w'=>Below w.heap.size w w'/\zfJ S w (zcR l) e w'):=by
 have HO:=za (zjZ S a c g l w hG hS hy hg)
 obtain ⟨P,hP⟩:∃P,P=zfJ S w (zcR l):=⟨_,rfl⟩
 rw [<- hP]
 cases ho:zdN l with
 | none =>
   rw [ho] at HO
   unfold zgN at HO
   have HP:Hid (P=zfJ S w none):=by unfold Hid;rw [hP];unfold zcR;rw [ho];rfl
   clear ho hP hG hS hy hg
   go_enter Tryz.func19,Tryz.ntmps19
   go_wp2_with (first
    | (go_at_call 38;refine HO.out.mono ?_;rintro e w1 ⟨hB,p,rfl⟩;unfold zcE;have HB:=za hB;clear hB)
    | (go_at_call 22;refine (zdo _ _ _ _).mono ?_;rintro e w3 ⟨rfl,rfl⟩))
   exact bodyPost_ret (v:=.tuple #[.pointer none,zeQ zg5 (zcE S p)]) (by simp [results,Tryz.results19,go_sem,zg5,zcE]) rfl ⟨HB.out,by rw [HP.out];exact ⟨p,rfl⟩⟩
 | some b =>
   rw [ho] at HO
   unfold zgN at HO
   have hP2:P=zfJ S w (cdM b):=by rw [hP];unfold zcR;rw [ho];rfl
   obtain ⟨hb1,hb2⟩:b=l.take (l.length-8)/\b.length<=1048576:=by
    unfold zdN at ho
    split at ho
    · cases ho
    · split at ho
      · cases ho;exact ⟨rfl,by rw [List.length_take];omega⟩
      · cases ho
   have hyb:By w (.slice a b.length c) g b:=by
    have:=hy.take (n:=b.length) (by rw [hb1,List.length_take];omega)
    rwa [show l.take b.length=b by rw [hb1,List.length_take];congr 1;omega] at this
   have Hy:=za hyb
   have HG:=za hG
   have HS:=za hS
   obtain ⟨_,cc,hcc,hc1,hc2,_⟩:=hyb.ex
   cases hcc
   have hcm:c<=9223372036854775807:=by unfold maxLen at hc2;omega
   have h21:=hG.size
   have hi:=hG.image
   have HP:=za hP2
   clear hP hP2 ho hb1 hyb hy hG hS hc2
   go_enter Tryz.func19,Tryz.ntmps19
   go_wp2_with (go_at_call 38;refine HO.out.mono ?_;rintro e w1' ⟨hB,rfl,-,-⟩;have hz1:=hB.size;have HB:=za hB;clear hB)
   have HR0:Hid (RL S (w1'.alloc (.cells #[.slice a b.length c,.int .i64 0,.nilIface] 116)) w1'.heap.size (.slice a b.length c) g b ⟨0,none⟩):=RL.new (HG.out.of (T:=λ_=>False) (Fr.of_below HB.out) (λ_ e=>e.elim)) (HS.out.old (zm HB.out (Nat.le_refl _)) h21) (Hy.out.of (HB.out.block g hg)) (by omega) hb2 0 (Nat.zero_le _)
   have hB0:Below w.heap.size w (w1'.alloc (.cells #[.slice a b.length c,.int .i64 0,.nilIface] 116)):=HB.out.alloc (by omega) _
   have HB0:=za hB0
   clear hB0 HO
   obtain ⟨W0,hW0⟩:∃W,W=(w1'.alloc (.cells #[.slice a b.length c,.int .i64 0,.nilIface] 116)):=⟨_,rfl⟩
   obtain ⟨rb,hrb⟩:∃rb,rb=w1'.heap.size:=⟨_,rfl⟩
   have hz0:W0.heap.size=rb+1:=by rw [hW0,hrb];simp
   have hz0':rb<W0.heap.size:=by omega
   rw [<- hW0] at HR0 HB0 ⊢
   rw [<- hrb] at HR0 ⊢
   have hrw:w.heap.size<=rb:=by omega
   clear hW0 hrb HB hz0
   go_loopg [20] 5 (λj i wr=>∃(k:Nat) (t:Ir),k+j=5/\k<=4/\i=.int .i64 k/\Hid (ziO b ⟨0,none⟩=([99,100,110,50].drop k).foldl (λs m=>zbU ((zG b s).1==m) (zG b s).2) t)/\Hid (RL S wr rb (.slice a b.length c) g b t)/\Hid (Fr (·=rb) W0 wr))
   case atStart=>exact ⟨0,⟨0,none⟩,rfl,by omega,rfl,za rfl,HR0.out,Fr.refl _ _⟩
   case round =>
    obtain ⟨k,t,hk,hk4,rfl,HM,HR,HF⟩:=hrel
    by_cases hlt:k<4
    · have HB1:=za (zem S rb _ g b t wr.drew (HR.out.below (zo (Below.refl _ _))))
      have hy:=zcI b t HR.out.by'.lt
      have gi:=HR.out.gl.image
      rcases hR:zG b t with ⟨y,t1⟩
      rw [hR] at HB1 hy
      simp only at HB1 hy
      obtain ⟨q,hq⟩:∃q:Bool,q=(y==[99,100,110,50].getD k 0):=⟨_,rfl⟩
      have HM2:Hid (ziO b ⟨0,none⟩=([99,100,110,50].drop (k+1)).foldl (λs m=>zbU ((zG b s).1==m) (zG b s).2) (zbU q t1)):=by
       unfold Hid
       rw [HM.out,hq]
       have:k=0∨k=1∨k=2∨k=3:=by omega
       rcases this with rfl|rfl|rfl|rfl <;> simp [hR]
      have HQ:=za (λw1 (h1:RL S w1 rb (.slice a b.length c) g b t1)=>zeg S rb _ g b t1 q w1 h1)
      unfold sen at gi
      have hz21:=HR.out.gl.size
      clear hR HM
      have:k=0∨k=1∨k=2∨k=3:=by omega
      rcases this with rfl|rfl|rfl|rfl
      all_goals
       first
        | have hdec:((y:Int)==99)=q:=by rw [hq];exact zgq y 99
        | have hdec:((y:Int)==100)=q:=by rw [hq];exact zgq y 100
        | have hdec:((y:Int)==110)=q:=by rw [hq];exact zgq y 110
        | have hdec:((y:Int)==50)=q:=by rw [hq];exact zgq y 50
       have hx0:(⟨#[99,100,110,50]⟩:ByteArray)[0].toNat=99:=rfl
       have hx1:(⟨#[99,100,110,50]⟩:ByteArray)[1].toNat=100:=rfl
       have hx2:(⟨#[99,100,110,50]⟩:ByteArray)[2].toNat=110:=rfl
       have hx3:(⟨#[99,100,110,50]⟩:ByteArray)[3].toNat=50:=rfl
       clear hq
       go_wp2_with fail
       go_region_held3 (λw'=>w'.cell? ⟨11,0,none⟩=some (.iface 293 (.pointer (some (S 10)))))
        (repeat (first|with_reducible exact gi|with_reducible exact g2|with_reducible exact g1|with_reducible refine zg ?_))
        (first
          | (go_at_call 39;revert H1;intro H1;refine (HQ.out w1 H1.out).mono ?_;rintro e w2 ⟨rfl,h1,h2⟩;have g2:=h1.gl.image;unfold sen at g2;have H3:=za h1;have H4:=za (H2.out.trans h2);clear h1 h2)
          | (go_at_call 40;refine HB1.out.mono ?_;rintro e w1 ⟨rfl,h1,h2⟩;have g1:=h1.gl.image;unfold sen at g1;have H1:=za h1;have H2:=za (HF.out.trans h2.undrew);clear h1 h2))
       all_goals go_wp2_with fail
       all_goals go_roundg (gk-1)
       all_goals first
        | omega
        | exact ⟨_,_,by omega,by omega,by go_num,HM2,H3.out,H4.out⟩
    · have e4:k=4:=by omega
      subst e4
      have hM:ziO b ⟨0,none⟩=t:=HM.out
      obtain ⟨f1,f2,f3,f4⟩:=zl6 b t HR.out.by'.lt
      have HH:=za (zql S rb (.slice a b.length c) g b t wr HR.out)
      have hP3:=HP.out
      unfold cdM at hP3
      simp only [hM] at hP3
      rcases hhd:zdL b t with ⟨⟨bs,o,ns,cs,dpt,rw'⟩,t2⟩
      rw [hhd] at HH f1 f2 f3 f4 hP3
      simp only at HH f1 f2 f3 f4 hP3
      subst f3
      subst f4
      obtain ⟨R,hR⟩:∃R,R=zdw b ns cs.length (b.length+2) ⟨t2,0,0,[]⟩:=⟨_,rfl⟩
      rw [<- hR] at hP3
      have hzr:=HF.out.size
      have HRo:=za (λw2 (h1:RL S w2 rb (.slice a b.length c) g b t2) (h2:UC (wr.heap.size+1) wr.heap.size ⟨bs,o,ns,cs,0,[]⟩ w2)=>zrd S rb wr.heap.size (wr.heap.size+1) (.slice a b.length c) g b t2 bs o ns cs w2 h1 h2 (by omega) (λ_=>by omega) (by omega) f1 f2 R hR)
      have HBr:=za (HB0.out.trans (HF.out.below (B:=w.heap.size) (by have:=HB0.out.size;omega) (λk e=>e▸hrw)))
      have hcbw:w.heap.size<=wr.heap.size:=HBr.out.size
      clear hM HM hhd hR HP HR0 HB0
      obtain ⟨⟨rp,rer⟩,rdp,rmx,rrow⟩:=R
      simp only at HRo hP3
      cases rer with
      | none =>
        rw [if_pos rfl] at hP3
        have HP3:=za hP3
        clear hP3
        go_wp2_with (first
         | (go_at_call 42;revert H1;intro H1;refine (HRo.out w2 H1.out H2.out).mono ?_;rintro e w3 ⟨rfl,h1,h2,h3⟩;obtain ⟨a0,a1,a2,af,az⟩:=zL h1.blk;unfold erV at a2;simp only at a2;have K1:=za h1;have K2:=za h2;have K3:=za (H3.out.trans (h3.below (B:=w.heap.size) (by have:=H3.out.size;omega) (λk e=>by rcases e with e|e <;> omega)));clear h1 h2 h3)
         | (go_at_call 41;refine HH.out.mono ?_;rintro e w2 ⟨rfl,h1,h2,h3⟩;have H1:=za h1;have H2:=za h2;have H3:=za (HBr.out.trans (h3.below (B:=w.heap.size) hcbw (λk e=>e▸hrw)));clear h1 h2 h3))
        exact bodyPost_ret (v:=.tuple #[.pointer (some ⟨wr.heap.size,0,none⟩),.nilIface]) (by simp [results,Tryz.results19,go_sem]) rfl ⟨K3.out,by rw [HP3.out];exact ⟨_,_,rfl,hcbw,by omega,K2.out⟩⟩
      | some p =>
        rw [if_neg (by simp)] at hP3
        have HP3:=za hP3
        clear hP3
        go_wp2_with (first
         | (go_at_call 22;refine (zdo _ _ _ _).mono ?_;rintro e w4 ⟨rfl,rfl⟩)
         | (go_at_call 42;revert H1;intro H1;refine (HRo.out w2 H1.out H2.out).mono ?_;rintro e w3 ⟨rfl,h1,h2,h3⟩;obtain ⟨a0,a1,a2,af,az⟩:=zL h1.blk;unfold erV at a2;simp only at a2;have K1:=za h1;have K2:=za h2;have K3:=za (H3.out.trans (h3.below (B:=w.heap.size) (by have:=H3.out.size;omega) (λk e=>by rcases e with e|e <;> omega)));clear h1 h2 h3)
         | (go_at_call 41;refine HH.out.mono ?_;rintro e w2 ⟨rfl,h1,h2,h3⟩;have H1:=za h1;have H2:=za h2;have H3:=za (HBr.out.trans (h3.below (B:=w.heap.size) hcbw (λk e=>e▸hrw)));clear h1 h2 h3))
        exact bodyPost_ret (v:=.tuple #[.pointer none,zeQ zg5 (zcE S p)]) (by simp [results,Tryz.results19,go_sem,zg5,zcE]) rfl ⟨K3.out,by rw [HP3.out];exact ⟨p,rfl⟩⟩
def zo5 (fu gas f:Nat) (ns:List Nod):Option Cd :=
 match ns.getLast? with
 | none=>none
 | some n =>
   let c:Sc:=⟨ns.dropLast,n⟩
   let K:=zca fu gas f c 0 ((hdM c).add 0 1)
   if (ns.all zjC&&(ns.all λn=>decide (n.terms.length<=1000000))&&decide (zbc ns=none)&&gdB fu gas f c&&decide (K.row.length<=100000)&&decide (K.cells.length<=1000000)&&decide (K.bools.length<=1000000)&&K.row.all λi=>decide (i.1<=20))=true then some K else none
def zju (fu gas f:Nat) (src:ByteArray):Option Cd :=
 let R:=zgo (lev 17).ex (lev 18).ex 1300 src
 if src.size<=1200/\R.1.er=0/\R.2.length<=6 then
  match ziP R.2 with
  | none=>none
  | some ns=>zo5 fu gas f ns
 else none
def src1:ByteArray:=⟨#[110,111,100,101,32,110,40,99,58,32,98,111,111,108,44,32,100,58,32,98,111,111,108,41,32,45,62,32,40,107,58,32,105,110,116,44,32,122,58,32,98,111,111,108,44,32,102,58,32,105,110,116,41,32,118,97,114,32,120,58,32,105,110,116,32,111,110,32,99,59,32,121,58,32,105,110,116,32,111,110,32,110,111,116,32,99,59,32,101,58,32,98,111,111,108,32,111,110,32,99,59,32,119,58,32,105,110,116,32,111,110,32,101,59,32,117,58,32,105,110,116,32,111,110,32,99,59,123,32,122,32,61,32,109,101,114,103,101,32,99,32,40,100,32,119,104,101,110,32,99,41,32,40,100,32,119,104,101,110,111,116,32,99,41,59,32,120,32,61,32,49,32,43,32,40,48,32,102,98,121,32,120,41,59,32,121,32,61,32,40,48,32,102,98,121,32,121,41,32,45,32,49,59,32,107,32,61,32,109,101,114,103,101,32,99,32,120,32,121,59,32,101,32,61,32,100,32,119,104,101,110,32,99,59,32,119,32,61,32,40,49,48,32,102,98,121,32,119,41,32,43,32,49,59,32,117,32,61,32,109,101,114,103,101,32,101,32,119,32,40,48,32,119,104,101,110,111,116,32,101,41,59,32,102,32,61,32,109,101,114,103,101,32,99,32,117,32,40,40,55,32,102,98,121,32,102,41,32,119,104,101,110,111,116,32,99,41,59,32,125]⟩
def c1:Cd:=⟨[true,true],3,11,[0,0,10,7],2,[(0,1),(2,10),(1,1),(1,1),(6,0),(2,3),(0,1),(3,0),(16,0),(2,5),(3,1),(0,1),(17,0),(2,6),(1,5),(1,6),(6,0),(2,2),(1,1),(2,7),(3,2),(0,1),(16,0),(2,8),(1,8),(0,0),(6,7),(2,9),(1,9),(3,3),(6,0),(2,4),(1,10),(1,0),(9,0),(1,5),(4,0),(1,10),(1,0),(8,0),(9,0),(1,6),(4,1),(1,10),(1,0),(9,0),(1,7),(9,0),(1,8),(4,2),(1,10),(1,4),(4,3)]⟩
def zkM (a b:Cd):Bool:=decide (a.bools=b.bools)&&decide (a.outs=b.outs)&&decide (a.slots=b.slots)&&decide (a.cells=b.cells)&&decide (a.depth=b.depth)&&decide (a.row=b.row)
theorem znp {a b:Cd} (h:zkM a b=true):a=b:=by
 obtain ⟨a1,a2,a3,a4,a5,a6⟩:=a
 obtain ⟨b1,b2,b3,b4,b5,b6⟩:=b
 simp only [zkM,Bool.and_eq_true,decide_eq_true_eq] at h
 obtain ⟨⟨⟨⟨⟨rfl,rfl⟩,rfl⟩,rfl⟩,rfl⟩,rfl⟩:=h
 rfl
def zoX (fu gas f:Nat) (src:ByteArray):Option Cd:=(zju fu gas f src).bind λK=>zcR (zcw (zcx K))
def zlZ (fu gas f:Nat) (src:ByteArray) (c:Cd):Bool:=match zoX fu gas f src with
 | none=>false
 | some d=>zkM d c
theorem zpq {fu gas f:Nat} {src:ByteArray} {c:Cd} (h:zlZ fu gas f src c=true):∃K,zju fu gas f src=some K/\zcR (zcw (zcx K))=some c:=by
 unfold zlZ at h
 split at h
 · cases h
 · rename_i d hr
   have:=znp h
   subst this
   unfold zoX at hr
   cases hf:zju fu gas f src with
   | none=>rw [hf] at hr;cases hr
   | some K=>rw [hf] at hr;exact ⟨K,rfl,hr⟩
theorem zrq:zlZ 20 100 6 src1 c1=true:=by decide +kernel
theorem zqO:zd9 c1.slots c1.cells.length 0 c1.row=some 0:=by decide +kernel
theorem zou (x y w f:Int):(zbm c1 [x,y,w,f] [1,1]).cells=[wrap64 (1+x),y,wrap64 (w+1),wrap64 (w+1)]/\zcX c1 (zbm c1 [x,y,w,f] [1,1])=[wrap64 (1+x),1,wrap64 (w+1)]:=⟨by kernel_rfl,by kernel_rfl⟩
theorem zoC (x y w f:Int):(zbm c1 [x,y,w,f] [1,0]).cells=[wrap64 (1+x),y,w,0]/\zcX c1 (zbm c1 [x,y,w,f] [1,0])=[wrap64 (1+x),0,0]:=⟨by kernel_rfl,by kernel_rfl⟩
theorem znC (x y w f:Int):(zbm c1 [x,y,w,f] [0,1]).cells=[x,wrap64 (y-1),w,f]/\zcX c1 (zbm c1 [x,y,w,f] [0,1])=[wrap64 (y-1),1,f]:=⟨by kernel_rfl,by kernel_rfl⟩
theorem zoM (x y w f:Int):(zbm c1 [x,y,w,f] [0,0]).cells=[x,wrap64 (y-1),w,f]/\zcX c1 (zbm c1 [x,y,w,f] [0,0])=[wrap64 (y-1),0,f]:=⟨by kernel_rfl,by kernel_rfl⟩
theorem zmA (w:World):Calls Tryz.prog 15 #[.nilIface] w (λe w'=>e=.returned (.tuple #[.int .i64 0,.int .i64 0])/\w=w'):=by
 go_enter Tryz.func15,Tryz.ntmps15
 go_wp2_with fail
 exact bodyPost_ret (v:=.tuple #[.int .i64 0,.int .i64 0]) (by simp [results,Tryz.results15,go_sem]) rfl ⟨rfl,rfl⟩
structure zlK (src:ByteArray) (ns:List Nod):Prop where
 size:src.size<=1200
 er:(zgo (lev 17).ex (lev 18).ex 1300 src).1.er=0
 few:(zgo (lev 17).ex (lev 18).ex 1300 src).2.length<=6
 nods:ziP (zgo (lev 17).ex (lev 18).ex 1300 src).2=some ns
 wf:∀n∈ns,zeJ n
 tms:∀n∈ns,n.terms.length<=1000000
 chk:zbc ns=none
theorem zlR (S:Nat->Addr) (src:ByteArray) (ns:List Nod) (h:zlK src ns) (w:World) (hG:Gl S w) :
 Calls Tryz.prog 16 #[.string src] w (λe w'=>∃gb N,e=.returned (.tuple #[.pointer (some ⟨gb,0,none⟩),.nilIface])/\PT w' N ns (.pointer (some ⟨gb,0,none⟩))/\w.heap.size<=N/\N<=w'.heap.size/\Below w.heap.size w w'):=by
 obtain ⟨r17,r18,e17,e18,hX,hK,g17,g18⟩:=zk1
 obtain ⟨h1,h2,h3,h4,h5,h6,h7⟩:=h
 rw [<- e17,<- e18] at h2 h3 h4
 obtain ⟨R,hR⟩:∃R,R=zgo r17 r18 1300 src:=⟨_,rfl⟩
 have HRd:=za (zni hX hK g17 g18 S 1300 (by decide) (by decide) src w hG h1 (R:=R) hR.symm)
 rw [<- hR] at h2 h3 h4
 have hrd:Calls Tryz.prog 28 #[.string src] w (λe w'=>∃gb,e=.returned (.tuple #[.pointer (some ⟨gb,0,none⟩),.nilIface])/\PT w' w'.heap.size ns (.pointer (some ⟨gb,0,none⟩))/\Below w.heap.size w w'):=by
  refine HRd.out.mono ?_
  rintro e w' ⟨_,hok,hB⟩
  obtain ⟨a,rfl,hPG⟩:=hok h2
  obtain ⟨ns',hns,hPT⟩:=zpt hPG h3
  have:=znV hns h4
  subst this
  obtain ⟨gb,gv,xs,e0,rest⟩:=hPT
  cases e0
  exact ⟨gb,rfl,⟨gb,gv,xs,rfl,rest⟩,hB⟩
 have HRr:=za hrd
 have HG:=za hG
 have H5:=za h5
 have H6:=za h6
 have H7:=za h7
 clear hrd HRd hX hK g17 g18 e17 e18 hR h2 h3 h4 h5 h6 h7 hG h1
 go_enter Tryz.func16,Tryz.ntmps16
 go_wp2_with (first
  | (go_at_call 29;revert HP1;intro HP1;refine (zjO S w1.heap.size ns H5.out H6.out gb w1 (HG.out.of (T:=λ_=>False) (Fr.of_below HB1.out) (λ_ e=>e.elim)) HP1.out (Nat.le_refl _)).mono ?_;rw [H7.out];rintro e w2 ⟨rfl,hB⟩;unfold zq3;have hz2:=hB.size;have HB2:=za hB;clear hB)
  | (go_at_call 28;refine HRr.out.mono ?_;rintro e w1 ⟨gb,rfl,hP,hB⟩;have hz1:=hB.size;have HP1:=za hP;have HB1:=za hB;clear hP hB))
 exact bodyPost_ret (v:=.tuple #[.pointer (some ⟨gb,0,none⟩),.nilIface]) (by simp [results,Tryz.results16,go_sem]) rfl ⟨gb,w1.heap.size,rfl,HP1.out.old (zm HB2.out (Nat.le_refl _)),hz1,hz2,HB1.out.trans (HB2.out.mono hz1)⟩
theorem KW.pk {B wb kb:Nat} {K:Cd} {w:World} (h:KW B wb kb K w) (h1:K.bools.length<=1000000) (h2:K.cells.length<=1000000) (h3:K.row.length<=100000) (h4:∀i∈K.row,i.1<=20):∃bv cv rv,PkI w kb bv cv rv K:=by
 obtain ⟨bv,cv,rv,h⟩:=h
 exact ⟨bv,cv,rv,h.blk,zR h.bown (Nat.zero_le _),zR h.cown (Nat.zero_le _),zR h.rown (Nat.zero_le _),h1,h2,h3,h4⟩
structure zl2 (fu gas f:Nat) (pre:List Nod) (n:Nod) (K:Cd):Prop where
 hK:zca fu gas f ⟨pre,n⟩ 0 ((hdM ⟨pre,n⟩).add 0 1)=K
 hgas:gas<=1000000
 hf:17*f<=100000
 gd:GdC fu gas f ⟨pre,n⟩
 b:K.bools.length<=1000000
 c:K.cells.length<=1000000
 r:K.row.length<=100000
 ops:∀i∈K.row,i.1<=20
theorem zlg (S:Nat->Addr) (src:ByteArray) (pre:List Nod) (n:Nod) (h:zlK src (pre++[n])) (fu gas f:Nat) (K:Cd) (hc:zl2 fu gas f pre n K) (w:World) (hG:Gl S w) (hop:zbt w) (hS:zbW w) :
 Calls Tryz.prog 12 #[.string src] w (λe w'=>∃v B,e=.returned (.tuple #[v,.int .i64 0,.int .i64 0])/\BR B w' v (zcw (zcx K))/\w.heap.size<=B/\Below w.heap.size w w'):=by
 obtain ⟨hK,hgas,hf,hgd,hb,hcl,hr,ho⟩:=hc
 have HCk:=za (zlR S src (pre++[n]) h w hG)
 have h21:=hG.size
 have Hop:=za hop
 have HS:=za hS
 have HCm:=za (λN (hN:21<=N) gb W hP hNW hopW=>zjW (N:=N) fu gas f hgas hN hf pre n (.pointer (some ⟨gb,0,none⟩)) W hP hNW hopW hgd ⟨by rw [hK];omega,by rw [hK];exact hcl⟩)
 rw [hK] at HCm
 have HPk:=za (λB wb kb W (hW:KW B wb kb K W) (hS:zbW W) (hz:21<=W.heap.size)=>(by
  obtain ⟨bv,cv,rv,hI⟩:=hW.pk hb hcl hr ho
  exact zpP kb bv cv rv K W hI hS hz:Calls Tryz.prog 17 #[.pointer (some ⟨kb,0,none⟩)] W (zhf W.heap.size (zcw (zcx K)) W)))
 clear hK hgd hb hcl hr ho h hG hop hS
 go_enter Tryz.func12,Tryz.ntmps12
 go_wp2_with (first
  | (go_at_call 17;revert HK2;intro HK2;refine (HPk.out _ _ _ w2 HK2.out (HS.out.old ((zm HB1.out (Nat.le_refl _)).trans (zm HB2.out hz1)) h21) (by omega)).mono ?_;rintro e w3 ⟨v3,rfl,hR3,hB3⟩;have HR3:=za hR3;have HB3:=za hB3;clear hR3 hB3)
  | (go_at_call 18;revert HP1;intro HP1;refine (HCm.out N (by omega) gb w1 HP1.out hN1 (Hop.out.old (zm HB1.out (Nat.le_refl _)) h21)).mono ?_;rintro e w2 ⟨B,wb,kb,rfl,hkb,hB,hKW,hB2⟩;have hz2:=hB2.size;have HK2:=za hKW;have HB2:=za hB2;clear hKW hB2)
  | (go_at_call 16;refine HCk.out.mono ?_;rintro e w1 ⟨gb,N,rfl,hP,hN0,hN1,hB⟩;have hz1:=hB.size;have HP1:=za hP;have HB1:=za hB;clear hP hB))
 exact bodyPost_ret (v:=.tuple #[v3,.int .i64 0,.int .i64 0]) (by simp [results,Tryz.results12,go_sem]) rfl ⟨v3,w2.heap.size,rfl,HR3.out,by omega,(HB1.out.trans (HB2.out.mono hz1)).trans (HB3.out.mono (by omega))⟩
structure zlx (c:Cd):Prop where
 outsB:c.bools.length+c.outs<=c.slots
 slotsB:c.slots<=255
 cellsB:c.cells.length<=255
 depthB:c.depth<=3145728
 rowB:c.row.length<=1048576
theorem UC.cb {B cb:Nat} {c:Cd} {w:World} (h:UC B cb c w) (hc:zlx c):∃bv cv rv,CB w w.heap.size cb bv cv rv c:=by
 obtain ⟨bv,cv,rv,h⟩:=h
 exact ⟨bv,cv,rv,h.blk,zR h.bown (Nat.zero_le _),zR h.cown (Nat.zero_le _),zR h.rown (Nat.zero_le _),ze h.blk,λk e=>(h.bown.lt k e).2,λk e=>(h.cown.lt k e).2,λk e=>(h.rown.lt k e).2,hc.outsB,hc.slotsB,hc.cellsB,hc.depthB,hc.rowB⟩
structure Ma where
 M:Nat
 N:Nat
 mb:Nat
 cb:Nat
 b1:Nat
 b2:Nat
 bv:Value
 cv:Value
 rv:Value
structure MM (w:World) (a:Ma) (sv:Value) (c:Cd) (cells slots:List Int):Prop where
 blk:w.heap[a.M]?=some (.cells #[.pointer (some ⟨a.mb,0,none⟩)] 47 (0,0))
 mc:Mc w a.N a.mb a.cb a.b1 a.b2 a.bv a.cv a.rv sv c cells slots []
 m0:¬a.M=a.mb
 m1:¬a.M=a.b1
 m2:¬a.M=a.b2
 ms:¬sv.ownBlock=some a.M
theorem Mc.keep {w w':World} {N mb cb b1 b2:Nat} {bv cv rv sv:Value} {c:Cd} {cells slots st:List Int} (h:Mc w N mb cb b1 b2 bv cv rv sv c cells slots st) (hB:Below w.heap.size w w'):Mc w' N mb cb b1 b2 bv cv rv sv c cells slots st :=
 ⟨h.code.old (zm hB h.mem.hB),h.mem.fr (λk hk=>hB.block k hk) hB.size,h.n0,h.n1,h.n2,h.lc,h.ls⟩
theorem MM.keep {w w':World} {a:Ma} {sv:Value} {c:Cd} {cells slots:List Int} (h:MM w a sv c cells slots) (hB:Below w.heap.size w w'):MM w' a sv c cells slots :=
 ⟨(hB.block _ (ze h.blk)).trans h.blk,h.mc.keep hB,h.m0,h.m1,h.m2,h.ms⟩
theorem zpJ (S:Nat->Addr) (a:Option Addr) (cp g:Nat) (l:List Nat) (c:Cd) (hc:zlx c) (hu:zcR l=some c) (w:World) (hG:Gl S w) (hS:zbW w) (hy:By w (.slice a l.length cp) g l) (hg:g<w.heap.size) :
 Calls Tryz.prog 13 #[.slice a l.length cp] w (λe w'=>∃(m:Ma) (sv:Value),e=.returned (.tuple #[.pointer (some ⟨m.M,0,none⟩),.int .i64 0])/\MM w' m sv c c.cells (List.replicate c.slots 0)/\w.heap.size<=m.N/\Below w.heap.size w w'):=by
 have HU:=za (zk9 S a cp g l w hG hS hy hg)
 rw [hu] at HU
 unfold zfJ at HU
 have Hc:=za hc
 clear hG hS hy hg hu hc
 go_enter Tryz.func13,Tryz.ntmps13
 go_wp2_with (first
  | (go_at_call 20;revert HB1;intro HB1;refine (zpK w1.heap.size cb bv cv rv c w1 HCB.out (Nat.le_refl _)).mono ?_;rintro e w2 ⟨mb,b1,b2,sv,rfl,hM,hB⟩;have hz2:=hB.size;have HM:=za hM;have HB2:=za hB;clear hM hB)
  | (go_at_call 19;refine HU.out.mono ?_;rintro e w1 ⟨hB,cb,B,rfl,hcb,hBB,hUC⟩;have hz1:=hB.size;obtain ⟨bv,cv,rv,hCB⟩:=hUC.cb Hc.out;have HCB:=za hCB;have HB1:=za hB;clear hUC hB hCB))
 obtain ⟨l0,l1,l2,ls⟩:=HM.out.mem.lt
 have hB3:=zq w2 (.cells #[.pointer (some ⟨mb,0,none⟩)] 47)
 exact bodyPost_ret (v:=.tuple #[.pointer (some ⟨w2.heap.size,0,none⟩),.int .i64 0]) (by simp [results,Tryz.results13,go_sem]) rfl
  ⟨⟨w2.heap.size,w1.heap.size,mb,cb,b1,b2,bv,cv,rv⟩,sv,rfl,⟨zc w2 _,HM.out.keep hB3,(by show ¬w2.heap.size=mb;omega),(by show ¬w2.heap.size=b1;omega),(by show ¬w2.heap.size=b2;omega),λe=>Nat.lt_irrefl w2.heap.size (ls w2.heap.size e)⟩,hz1,(HB1.out.trans (HB2.out.mono hz1)).trans (hB3.mono (by omega))⟩
theorem zp7 (S:Nat->Addr) (m:Ma) (sv:Value) (c:Cd) (cells slots:List Int) (w:World) (v:Value) (g:Nat) (l:List Int) (hG:Gl S w) (h:MM w m sv c cells slots) (hl:Nm w v g l) (hg2:l≠[]->g≠m.b2) (hr:zdE c.bools l=none) (hfit:zd9 c.slots c.cells.length 0 c.row=some 0) :
 Calls Tryz.prog 8 #[.pointer (some ⟨m.M,0,none⟩),v] w (λe w'=>∃ob sv',e=.returned (.tuple #[.slice (some ⟨ob,0,none⟩) c.outs c.outs,.int .i64 0])/\w.heap.size<=ob/\w'.heap[ob]?=some (.cells (zK (zcX c (zbm c cells l))).toArray 2 (0,0))/\MM w' m sv' c (zbm c cells l).cells (zbm c cells l).slots/\Fr (λj=>m.N<=j) w w'):=by
 have HSt:=za (zjy S m.N m.mb m.cb m.b1 m.b2 m.bv m.cv m.rv sv c cells slots w v g l hG h.mc hl hg2 hr hfit)
 obtain ⟨a0,af,az⟩:=zu h.blk
 have H:=za h
 clear hG h hl hg2 hr hfit
 go_enter Tryz.func8,Tryz.ntmps8
 go_wp2_with (first
  | (go_at_call 15;refine (zmA _).mono ?_;rintro e w3 ⟨rfl,rfl⟩)
  | (go_at_call 14;refine HSt.out.mono ?_;rintro e w1 ⟨ob,sv',rfl,h1,h2,h3,h4,h5⟩;have H1:=za h1;have H2:=za h2;have H4:=za h4;have H5:=za h5;clear h1 h2 h3 h4 h5))
 refine bodyPost_ret (v:=.tuple #[.slice (some ⟨ob,0,none⟩) c.outs c.outs,.int .i64 0]) (by simp [results,Tryz.results8,go_sem]) rfl ⟨ob,sv',rfl,H1.out,H2.out,⟨?_,H4.out,H.out.m0,H.out.m1,H.out.m2,?_⟩,?_⟩
 · refine (H5.out.fr.block _ az ?_).trans H.out.blk
   rintro (e|e|e|e)
   · exact H.out.m0 e
   · exact H.out.m1 e
   · exact H.out.m2 e
   · exact H.out.ms e
 · intro e
   rcases H5.out.new _ e with e|e
   · exact H.out.ms e
   · omega
 · refine H5.out.fr.mono ?_
   rintro k _ (e|e|e|e)
   · exact e▸H.out.mc.n0
   · exact e▸H.out.mc.n1
   · exact e▸H.out.mc.n2
   · exact (H.out.mc.mem.own.lt _ e).1
structure zlL (src:ByteArray) (c:Cd):Prop where
 ex:∃pre n fu gas f K,zlK src (pre++[n])/\zl2 fu gas f pre n K/\zcR (zcw (zcx K))=some c
 ok:zlx c
 fit:zd9 c.slots c.cells.length 0 c.row=some 0
theorem znW (l:List Nat) (h:∀x∈l,x<256):∀x∈zcw l,x<256:=by
 intro x hx
 rcases List.mem_append.1 hx with hx|hx
 · exact h x hx
 · exact zgs _ x hx
theorem zkS (S:Nat->Addr) (src:ByteArray) (c:Cd) (h:zlL src c) (w:World) (hG:Gl S w) (hop:zbt w) (hS:zbW w) :
 Calls Tryz.prog 6 #[.string src] w (λe w'=>∃(m:Ma) (sv:Value),e=.returned (.pointer (some ⟨m.M,0,none⟩))/\MM w' m sv c c.cells (List.replicate c.slots 0)/\w.heap.size<=m.N/\Below w.heap.size w w'):=by
 obtain ⟨pre,n,fu,gas,f,K,hF,hC,hU⟩:=h.ex
 have HCo:=za (zlg S src pre n hF fu gas f K hC w hG hop hS)
 have hlt:=znW _ (zjc K hC.ops)
 have hlen:(zcw (zcx K)).length=(zcx K).length+8:=by unfold zcw;rw [List.length_append,zgR]
 obtain ⟨l,hl⟩:∃l,l=zcw (zcx K):=⟨_,rfl⟩
 rw [<- hl] at HCo hU hlt hlen
 have hne:l≠[]:=by intro e;rw [e] at hlen;simp at hlen
 have HLo:=za (λW (hB:Below w.heap.size w W) v B (hR:BR B W v l)=>(by
  obtain ⟨g,hy⟩:=hR.by hlt
  obtain ⟨x,cp,e,_⟩:=hy.ex
  subst e
  exact zpJ S x cp g l c h.ok hU W (hG.of (T:=λ_=>False) (Fr.of_below hB) (λ_ e=>e.elim)) (hS.old (zm hB (Nat.le_refl _)) hG.size) hy (hy.lt' hne) :
   Calls Tryz.prog 13 #[v] W (λe w'=>∃(m:Ma) (sv:Value),e=.returned (.tuple #[.pointer (some ⟨m.M,0,none⟩),.int .i64 0])/\MM w' m sv c c.cells (List.replicate c.slots 0)/\W.heap.size<=m.N/\Below W.heap.size W w')))
 clear hF hC hU hlt hlen hl hne h hG hop hS
 go_enter Tryz.func6,Tryz.ntmps6
 go_wp2_with (first
  | (go_at_call 13;revert HR1;intro HR1;refine (HLo.out w1 HB1.out _ _ HR1.out).mono ?_;rintro e w2 ⟨m,sv,rfl,hM,hN,hB2⟩;have HM:=za hM;have HB2:=za (HB1.out.trans (hB2.mono hz1));clear hM hB2)
  | (go_at_call 12;refine HCo.out.mono ?_;rintro e w1 ⟨v1,B,rfl,hR,hB0,hB⟩;have hz1:=hB.size;have HR1:=za hR;have HB1:=za hB;clear hR hB))
 go_ret
 exact ⟨m,sv,rfl,HM.out,by omega,HB2.out⟩
def odd (x:Int):Bool:=x.tmod 2 != 0
theorem zjr (x:Int) (_hx:-9223372036854775808<=x/\x<=9223372036854775807) (w:World):Calls Tryz.prog 7 #[.int .i64 x] w (λe w'=>e=.returned (.bool (odd x))/\w=w'):=by
 go_enter Tryz.func7,Tryz.ntmps7
 go_wp2_with fail
 go_ret
 exact ⟨rfl,rfl⟩
def zbV (b:Bool):Int:=if b then 1 else 0
theorem zcm (b:Bool) (w:World):Calls Tryz.prog 9 #[.bool b] w (λe w'=>e=.returned (.int .i64 (zbV b))/\w=w'):=by
 cases b
 all_goals
  go_enter Tryz.func9,Tryz.ntmps9
  go_wp2_with fail
  go_ret
  exact ⟨rfl,rfl⟩
theorem zpN {fu gas f:Nat} {src:ByteArray} {K c:Cd} (hg:gas<=1000000) (hf:17*f<=100000) (h:zju fu gas f src=some K) (hu:zcR (zcw (zcx K))=some c) (ok:zlx c) (fit:zd9 c.slots c.cells.length 0 c.row=some 0):zlL src c:=by
 refine ⟨?_,ok,fit⟩
 unfold zju at h
 simp only at h
 split at h
 · rename_i hc
   split at h
   · cases h
   · rename_i ns hns
     unfold zo5 at h
     split at h
     · cases h
     · rename_i n hn
       simp only at h
       split at h
       · rename_i hb
         cases h
         simp only [Bool.and_eq_true,decide_eq_true_eq,List.all_eq_true] at hb
         obtain ⟨⟨⟨⟨⟨⟨⟨b1,b2⟩,b3⟩,b4⟩,b5⟩,b6⟩,b7⟩,b8⟩:=hb
         have hne:ns.dropLast++[n]=ns:=by
          have hne':ns≠[]:=by intro e;subst e;cases hn
          have:=List.dropLast_concat_getLast hne'
          rw [List.getLast?_eq_some_getLast hne'] at hn
          rw [<- Option.some.inj hn]
          exact this
         refine ⟨ns.dropLast,n,fu,gas,f,_,?_,⟨rfl,hg,hf,zqW b4,b7,b6,b5,b8⟩,hu⟩
         rw [hne]
         exact ⟨hc.1,hc.2.1,hc.2.2,hns,λn hn=>zhT (b1 n hn),b2,b3⟩
       · cases h
 · cases h
structure Ar (w:World) (N:Nat) (v:Value) (l:List Int):Prop where
 ex:∃a c,v=.slice a l.length c/\l.length<=9223372036854775807/\(l≠[]->∃g o,a=some ⟨g,o,none⟩/\g<N/\∀j x,l[j]?=some x->w.cell? ⟨g,o+j,none⟩=some (.int .i64 x))
 wf:∀x∈l,-9223372036854775808<=x/\x<=9223372036854775807
theorem Ar.fr {w w':World} {N:Nat} {v:Value} {l:List Int} (h:Ar w N v l) (ho:Old N w w'):Ar w' N v l:=by
 obtain ⟨a,c,h1,h2,h3⟩:=h.ex
 refine ⟨⟨a,c,h1,h2,λhl=>?_⟩,h.wf⟩
 obtain ⟨g,o,e1,e2,e3⟩:=h3 hl
 exact ⟨g,o,e1,e2,λj x hj=>(World.cell?_of_block (w:=w) (ho g e2)).trans (e3 j x hj)⟩
end
end Go.Proofs.YtedmpgjebafcjaaGreatDoor
