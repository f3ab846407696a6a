/- Part 33 of the proof. -/
import Derived.Test.YtbicmofihhjgbaaGreatDoorK30
import Derived.Test.YtbicmofihhjgbaaGreatDoorK31
set_option maxRecDepth 100000
set_option maxHeartbeats 8000000
namespace Go.Proofs.YtbicmofihhjgbaaGreatDoor
open Go.Proofs.Tryz
open Go.RowKit
section
def N2 (l:Xn)(s:Ir):Ir:=[99,100,110,50].foldl (λs m=>MT ((zG l s).1==m) (zG l s).2) s
def Pa (b:Xn):Option Cd :=
 let h:=M2 b (N2 b ⟨0,none⟩)
 let r:=MX b h.1.al h.1.cells.length (b.length+2) ⟨h.2,0,0,[]⟩
 if r.s.er=none then some { h.1 with depth:=r.mx,row:=r.row } else none
def NY (l:Xn):Option Cd:=(NZ l).bind Pa
def Qh:ByteArray:=⟨#[108,111,97,100,105,110,103]⟩
def Qf (S:Xs)(w:Xw)(o:Option Cd)(e:Ending)(b:Xw):Prop :=
 match o with
 | none=>∃p,e=.returned (.tuple #[.pointer none,ew Qh (Oq S p)])
 | some c=>∃a B,e=.returned (.tuple #[xP a,.nilIface])/\w.heap.size<=a/\w.heap.size<=B/\UC B a c b
theorem V6 (l:Xn)(s:Ir)(h:∀x∈l,x<256):(M2 l s).1.al<=1000000/\(M2 l s).1.cells.length<=1000000/\(M2 l s).1.depth=0/\(M2 l s).1.row=[]:=by
 have a:∀n t,(Nj l n t).1.length=n:=by
  intro n;induction n with
  | zero=>intro t;rfl
  | succ n b=>intro t;show (_::_).length=_;rw[bJ,b]
 refine⟨?_,?_,rfl,rfl⟩
 . have:=OS l (zG l (M8 l (zG l s).1 (zG l s).2).2).2 h
   show (zG l _).1<=_;omega
 show (Nj l _ _).1.length<=_;rw[a];have:=QN l 61 (MT (decide ((M8 l (zG l s).1 (zG l s).2).1.length+(zG l (M8 l (zG l s).1 (zG l s).2).2).1<=(zG l (zG l (M8 l (zG l s).1 (zG l s).2).2).2).1)) (zG l (zG l (M8 l (zG l s).1 (zG l s).2).2).2).2) h;omega
theorem QU (y m:Nat):((y:Int)==(m:Int))=(y==m):=by
 by_cases h:y=m
 . subst h;rw[beq_self_eq_true,beq_self_eq_true]
 have a:¬(y:Int)=(m:Int):=by omega
 rw[bf.2 h,bf.2 a]
theorem VZ (S:Xs)(a:Xp)(c g:Nat)(l:Xn)(w:Xw)(a1:Gl S w)(bq:Nq w)(X:By w (.slice a l.length c) g l)(hg:g<w.heap.size) :
 xK 36 #[.slice a l.length c] w (λe w'=>(xB w w')/\Qf S w (NY l) e w'):=by
 have L:=za (VU S a c g l w a1 bq X hg);obtain⟨P,aL⟩:∃P,P=Qf S w (NY l):=⟨_,rfl⟩;rw[<- aL];cases u:NZ l with
 | none =>
   rw[u] at L;unfold RG at L;have a5:aa (P=Qf S w none):=(by unfold aa;rw[aL];unfold NY;rw[u];rfl);clear u aL X hg;go_enter func36,ntmps36
   go_wp2_with (first
    | (go_at_call 60;refine L.o.mono ?_;rintro e w1 ⟨Z,p,rfl⟩;unfold Oq;have I:=za Z;clear Z)
    | (go_at_call 41;refine (rm _ _ _ _).mono ?_;rintro e w3 ⟨rfl,rfl⟩))
   exact bodyPost_ret (v:=.tuple #[.pointer none,ew Qh (Oq S p)]) (by simp[results,results36,go_sem,Qh,Oq]) rfl ⟨I.o,by rw[a5.o];exact⟨p,rfl⟩⟩
 | some b =>
   rw[u] at L;unfold RG at L;have aV:P=Qf S w (Pa b):=(by rw[aL];unfold NY;rw[u];rfl);obtain⟨Q,bk⟩:b=l.take (l.length-8)/\b.length<=1048576:=by
    unfold NZ at u;split at u
    . cases u
    split at u
    . cases u;exact⟨rfl,by rw[List.length_take];omega⟩
    cases u
   have bs:By w (.slice a b.length c) g b:=(by have:=X.take (n:=b.length) (by rw[Q,List.length_take];omega);rwa [show l.take b.length=b by rw[Q,List.length_take];congr 1;omega] at this);obtain⟨_,cz,bl,ca,a0,_⟩:=bs.ex;cases bl;have cb:c<=9223372036854775807:=(by unfold maxLen at a0;omega);have bg:=a1.size;have hi:=a1.mS;have a5:=za aV;clear aL aV u Q X a0;go_enter func36,ntmps36;go_wp2_with (go_at_call 60;refine L.o.mono ?_;rintro e D ⟨Z,rfl,-,-⟩;have cm:=Z.size;have I:=za Z;clear Z);have F:aa (RL S (D.alloc (.cells #[.slice a b.length c,xI 0,.nilIface] 144)) D.heap.size (.slice a b.length c) g b ⟨0,none⟩):=RL.new (a1.of (T:=λ_=>False) (Fr.Mo I.o) (λ_ e=>e.elim)) (bq.am (zm I.o (an _)) bg) (bs.of (I.o.block g hg)) (by omega) bk 0 (aE _);have aA:xB w (D.alloc (.cells #[.slice a b.length c,xI 0,.nilIface] 144)):=I.o.alloc (by omega) _;have E:=za aA;clear aA L;obtain⟨be,O⟩:∃W,W=(D.alloc (.cells #[.slice a b.length c,xI 0,.nilIface] 144)):=⟨_,rfl⟩;obtain⟨r,U⟩:∃r,r=D.heap.size:=⟨_,rfl⟩;have bo:be.heap.size=r+1:=(by rw[O,U];simp);have bA:r<be.heap.size:=(by omega);rw[<- O] at F E ⊢;rw[<- U] at F ⊢;have V:w.heap.size<=r:=(by omega);clear O U I bo;go_loopg [20] 5 (λj i wr=>∃(k:Nat) (t:Ir),k+j=5/\k<=4/\i=xI k/\aa (N2 b ⟨0,none⟩=([99,100,110,50].drop k).foldl (λs m=>MT ((zG b s).1==m) (zG b s).2) t)/\aa (RL S wr r (.slice a b.length c) g b t)/\aa (Fr (·=r) be wr));case atStart=>exact⟨0,⟨0,none⟩,rfl,by omega,rfl,za rfl,F.o,Fr.refl _ _⟩
   case round =>
    obtain⟨k,t,cA,cd,rfl,a4,Y,a6⟩:=hrel;by_cases ce:k<4
    . have J:=za (PN S r _ g b t wr.drew (Y.o.below (zo (Below.refl _ _))));have X:=OS b t Y.o.fq.lt;have bx:=Y.o.gl.mS;rcases N:zG b t with ⟨y,t1⟩;rw[N] at J X;simp only at J X;obtain⟨q,ab⟩:∃q:Bool,q=(y==[99,100,110,50].getD k 0):=⟨_,rfl⟩;have a9:aa (N2 b ⟨0,none⟩=([99,100,110,50].drop (k+1)).foldl (λs m=>MT ((zG b s).1==m) (zG b s).2) (MT q t1)):=by
       unfold aa;rw[a4.o,ab];have:k=0∨k=1∨k=2∨k=3:=by omega
       rcases this with rfl|rfl|rfl|rfl <;> simp[N]
      have bK:=za (λw1 (d:RL S w1 r (.slice a b.length c) g b t1)=>QP S r _ g b t1 q w1 d);unfold aW at bx;have bB:=Y.o.gl.size;clear N a4;have:k=0∨k=1∨k=2∨k=3:=(by omega);rcases this with rfl|rfl|rfl|rfl
      all_goals
       first
        | have C:((y:Int)==99)=q:=by rw[ab];exact QU y 99
        | have C:((y:Int)==100)=q:=by rw[ab];exact QU y 100
        | have C:((y:Int)==110)=q:=by rw[ab];exact QU y 110
        | have C:((y:Int)==50)=q:=by rw[ab];exact QU y 50
       have cg:(⟨#[99,100,110,50]⟩:Xb)[0].toNat=99:=rfl;have ch:(⟨#[99,100,110,50]⟩:Xb)[1].toNat=100:=rfl;have ck:(⟨#[99,100,110,50]⟩:Xb)[2].toNat=110:=rfl;have cl:(⟨#[99,100,110,50]⟩:Xb)[3].toNat=50:=rfl;clear ab;go_wp2_with fail
       go_region_held3 (λw'=>w'.cell? (xD 10 0)=some (.iface 324 (.pointer (some (S 10)))))
        (repeat (first|with_reducible exact bx|with_reducible exact g2|with_reducible exact g1|with_reducible refine zg ?_))
        (first
          | (go_at_call 61;revert x;intro x;refine (bK.o w1 x.o).mono ?_;rintro e G ⟨rfl,d,h⟩;have g2:=d.gl.mS;unfold aW at g2;have H:=za d;have bE:=za (ar.o.trans h);clear d h)
          | (go_at_call 62;refine J.o.mono ?_;rintro e w1 ⟨rfl,d,h⟩;have g1:=d.gl.mS;unfold aW at g1;have x:=za d;have ar:=za (a6.o.trans h.cQ);clear d h))
       all_goals go_wp2_with fail
       all_goals go_roundg (gk-1)
       all_goals first
        | omega
        | exact⟨_,_,by omega,by omega,by go_num,a9,H.o,bE.o⟩
    have b4:k=4:=(by omega);subst b4;have hM:N2 b ⟨0,none⟩=t:=a4.o;obtain⟨f1,f2,f3,f4⟩:=V6 b t Y.o.fq.lt;have a3:=za (X5 S r (.slice a b.length c) g b t wr Y.o);have f:=a5.o;unfold Pa at f;simp only[hM] at f;rcases hhd:M2 b t with ⟨⟨bv,o,ns,cs,b3,cv⟩,t2⟩;rw[hhd] at a3 f1 f2 f3 f4 f;simp only at a3 f1 f2 f3 f4 f;subst f3;subst f4;obtain⟨R,N⟩:∃R,R=MX b ns cs.length (b.length+2) ⟨t2,0,0,[]⟩:=⟨_,rfl⟩;rw[<- N] at f;have cn:=a6.o.size;have M:=za (λG (d:RL S G r (.slice a b.length c) g b t2) (h:UC (wr.heap.size+1) wr.heap.size ⟨bv,o,ns,cs,0,[]⟩ G)=>Yz S r wr.heap.size (wr.heap.size+1) (.slice a b.length c) g b t2 bv o ns cs G d h (by omega) (λ_=>by omega) (by omega) f1 f2 R N);have K:=za (E.o.trans (a6.o.below (B:=w.heap.size) (by have:=E.o.size;omega) (λk e=>e▸V)));have A:w.heap.size<=wr.heap.size:=K.o.size;clear hM a4 hhd N a5 F E;obtain⟨⟨rp,bp⟩,co,ct,bC⟩:=R;simp only at M f;cases bp with
    | none =>
      rw[ag rfl] at f
      go_wp2_with (first
       | (go_at_call 64;revert x;intro x;refine (M.o G x.o ar.o).mono ?_;rintro e w3 ⟨rfl,d,h,z⟩;obtain⟨bY,b0,a2,b1,b2⟩:=zL d.aC;unfold Nb at a2;simp only at a2;have bL:=za d;have bt:=za h;have bb:=za (H.o.trans (z.below (B:=w.heap.size) (by have:=H.o.size;omega) (λk e=>by rcases e with e|e <;> omega)));clear d h z)
       | (go_at_call 63;refine a3.o.mono ?_;rintro e G ⟨rfl,d,h,z⟩;have x:=za d;have ar:=za h;have H:=za (K.o.trans (z.below (B:=w.heap.size) A (λk e=>e▸V)));clear d h z))
      exact bodyPost_ret (v:=.tuple #[xP wr.heap.size,.nilIface]) (by simp[results,results36,go_sem]) rfl ⟨bb.o,by rw[f];exact⟨_,_,rfl,A,by omega,bt.o⟩⟩
    | some p =>
      rw[ae (by simp)] at f
      go_wp2_with (first
       | (go_at_call 41;refine (rm _ _ _ _).mono ?_;rintro e w4 ⟨rfl,rfl⟩)
       | (go_at_call 64;revert x;intro x;refine (M.o G x.o ar.o).mono ?_;rintro e w3 ⟨rfl,d,h,z⟩;obtain⟨bY,b0,a2,b1,b2⟩:=zL d.aC;unfold Nb at a2;simp only at a2;have bL:=za d;have bt:=za h;have bb:=za (H.o.trans (z.below (B:=w.heap.size) (by have:=H.o.size;omega) (λk e=>by rcases e with e|e <;> omega)));clear d h z)
       | (go_at_call 63;refine a3.o.mono ?_;rintro e G ⟨rfl,d,h,z⟩;have x:=za d;have ar:=za h;have H:=za (K.o.trans (z.below (B:=w.heap.size) A (λk e=>e▸V)));clear d h z))
      exact bodyPost_ret (v:=.tuple #[.pointer none,ew Qh (Oq S p)]) (by simp[results,results36,go_sem,Qh,Oq]) rfl ⟨bb.o,by rw[f];exact⟨p,rfl⟩⟩
def Tp (d a f:Nat)(b:List ay):Option Cd :=
 match b.getLast? with
 | none=>none
 | some n =>
   let c:Sc:=⟨b.dropLast,n⟩
   let K:=MQ d a f c 0 ((Pb c).add 0 1)
   if (b.all Qo&&(b.all λn=>decide (n.Nh.length<=1000000))&&decide (dh b=none)&&QA d a f c&&decide (K.row.length<=1000000)&&decide (K.cells.length<=1000000)&&decide (K.dn.length<=1000000)&&K.row.all λi=>decide (i.1<=20))=true then some K else none
def Qp (b a f:Nat)(src:Xb):Option Cd :=
 let R:=dm (fx 17).ex (fx 18).ex 1300 src
 if src.size<=1200/\R.1.er=0/\R.2.length<=6 then
  match pA R.2 with
  | none=>none
  | some c=>Tp b a f c
 else none
theorem II (w:Xw):xK 27 #[.nilIface] w (λe a=>e=.returned (.tuple #[xI 0,xI 0])/\w=a):=by go_enter func27,ntmps27;go_wp2_with fail;exact bodyPost_ret (v:=.tuple #[xI 0,xI 0]) (by simp[results,results27,go_sem]) rfl ⟨rfl,rfl⟩
end
end Go.Proofs.YtbicmofihhjgbaaGreatDoor
