/- Part 10 of the proof. -/
import Derived.Test.YtbicmofihhjgbaaGreatDoorK01
set_option maxRecDepth 100000
set_option maxHeartbeats 8000000
namespace Go.Proofs.YtbicmofihhjgbaaGreatDoor
open Go.Proofs.Tryz
open Go.RowKit
section
variable {m p f y:List Int} {x:Xm} {B b c t r g a n:Nat} {e:Xy} {d q:Xv} {w:Xw}
theorem Tryz.Pz:(prog.info? 2).map (λi=>(i.zero,i.size,i.bytes))=some (some (xI 0),1,8):=by kernel_rfl
def zK (l:List Int):List Value:=l.map (.int .i64)
theorem N8 (l:List Int):(zK l).length=l.length:=by simp[zK]
structure MB (w:Xw) (a r b c B:Nat) (d:Xv) (m p f:List Int):Prop where
 aC:xH w a #[xP r,xS b m.length m.length,xS c p.length p.length,d] 138
 ce:w.heap[b]?=some (.cells (zK m).toArray 2 (0,0))
 sl:w.heap[c]?=some (.cells (zK p).toArray 2 (0,0))
 own:w.ownsRow B 2 1 d f.length (zK f.reverse)
 Nt:a≠b
 NU:a≠c
 NV:b≠c
 sm:¬d.ownBlock=some a
 s1:¬d.ownBlock=some b
 s2:¬d.ownBlock=some c
 hB:B<=w.heap.size
structure fV (a b c:Nat) (w:Xw) (d:Xv) (w':Xw) (q:Xv):Prop where
 fr:Fr (λj=>j=a∨j=b∨j=c∨d.ownBlock=some j) w w'
 new:∀j,q.ownBlock=some j->d.ownBlock=some j∨w.heap.size<=j
theorem fV.refl (a b c:Nat)(w:Xw)(d:Xv):fV a b c w d w d:=⟨Fr.refl _ w,λ_ h=>ao h⟩
theorem fV.trans {s u:Xw}{l o:Xv}(h:fV a b c w d s l)(k:fV a b c s l u o):fV a b c w d u o:=by
 have A:=h.fr.size;refine⟨h.fr.dr k.fr (λi z hs=>?_),λj v=>?_⟩
 . rcases hs with hs|hs|hs|hs
   . exact ao hs
   . exact ap (ao hs)
   . exact ap (ap (ao hs))
   rcases h.new i hs with h'|h'
   . exact ap (ap (ap h'))
   omega
 rcases k.new j v with h'|h'
 . exact h.new j h'
 right;omega
theorem r5 (h:w.ownsRow B e 1 (xS g n t) n x){j:Nat}{u:Xv}(k:x[j]?=some u):xC w g j u:=by
 have:=h.cells (g:=g) rfl j u k;have i:((xD g 0):Addr).add j=⟨g,j,none⟩:=by cases j <;> simp[Addr.add]
 rwa [i] at this
theorem WQ {v:Xv}(h:w.ownsRow B e 1 (xS g (n+1) t) (n+1) (x++[v])):w.ownsRow B e 1 (xS g n t) n x:=by
 obtain⟨l,j⟩:=h;have D:x.length=n:=by simpa using l
 refine⟨by simpa using D,?_⟩;rcases j with ⟨j,_⟩|⟨E,k,i,C,z,A,F,o,s,u⟩
 . cases j
 cases C;refine ap ⟨g,t,i,rfl,z,A,by omega,o,s,?_⟩;have:=congrArg (List.take n) u;rw[List.take_take,List.take_append_of_le_length (by omega),de (by omega:x.length<=n)] at this;simpa [Nat.min_eq_left (by omega:n<=(n+1)*1)] using this
theorem Xe (h:w.ownsRow B e 1 (xS g n t) n x):n<=t/\t<=9223372036854775807:=by
 rcases h.2 with ⟨k,_⟩|⟨u,i,j,s,A,C,l,o,v,z⟩
 . cases k
 cases s;unfold maxLen at o;exact⟨l,by omega⟩
theorem MB.stack (h:MB w a r b c B d m p f)(o:w.ownsRow B 2 1 q y.length (zK y.reverse))(i:∀j,q.ownBlock=some j->d.ownBlock=some j∨(j≠a/\j≠b/\j≠c)):MB (w.setCell (xD a 3) q) a r b c B q m p y:=by
 have k:¬q.ownBlock=some a:=λe=>by rcases i _ e with e|e;exact h.sm e;exact e.1 rfl
 refine⟨zh _ _ _ _ h.aC,(zr (λe=>h.Nt e.symm) rfl).trans h.ce,(zr (λe=>h.NU e.symm) rfl).trans h.sl,zi o (λj _ _ e=>zr (λl=>k (l▸e)) rfl),h.Nt,h.NU,h.NV,k,λe=>?_,λe=>?_,by simpa [World.setCell] using h.hB⟩
 . rcases i _ e with e|e
   . exact h.s1 e
   exact e.2.1 rfl
 rcases i _ e with e|e
 . exact h.s2 e
 exact e.2.2 rfl
theorem NG (a r b c B:Nat)(d:Xv)(m p f:List Int)(v:Int)(w:Xw)(i:MB w a r b c B d m p (v::f))(F:f.length+1<=9223372036854775807) :
 xK 110 #[xP a] w (λe l=>e=.returned (xI v)/\∃q,MB l a r b c B q m p f/\fV a b c w d l q):=by
 obtain⟨u,z,A,o,D,G⟩:=zU i.aC;have h:=i.own;obtain⟨g,t,s,E⟩:=zM h (by simp);subst s;simp only[bJ,List.reverse_cons,zK,List.map_append,List.map_cons,List.map_nil] at h;have C:xC w g f.length (xI v):=r5 h (by simp);rw[bJ] at o;have k:=(Xe h).1;go_enter func110,ntmps110;go_wp2_with fail;go_ret;refine⟨rfl,_,i.stack (WQ h) (λj e=>ao e),?_,λj e=>ao e⟩;exact (Fr.refl _ w).setCell (ao (ao rfl)) _
theorem MB.fr {l:Xw}(h:MB w a r b c B d m p f)(i:∀k,k<w.heap.size->l.heap[k]?=w.heap[k]?)(o:w.heap.size<=l.heap.size):MB l a r b c B d m p f :=
 ⟨(i _ (ze h.aC)).trans h.aC,(i _ (ze h.ce)).trans h.ce,(i _ (ze h.sl)).trans h.sl,zi h.own (λk _ j _=>i k j),h.Nt,h.NU,h.NV,h.sm,h.s1,h.s2,aJ h.hB o⟩
theorem MB.alloc (h:MB w a r b c B d m p f)(o:Obj):MB (w.alloc o) a r b c B d m p f :=
 h.fr (λk i=>Below.heap_alloc _ _ _ i) (by simp)
theorem Pk {l:List Int}:∀u∈zK l,u.oneCell'=true:=by intro u h;obtain⟨s,_,rfl⟩:=List.mem_map.1 h;rfl
theorem MB.grown {l:Xw}(h:MB w a r b c B d m p f)(hF:Fr (λk=>d.ownBlock=some k) w l)(u:l.ownsRow B 2 1 q y.length (zK y.reverse))(i:∀j,q.ownBlock=some j->d.ownBlock=some j∨w.heap.size<=j):MB (l.setCell (xD a 3) q) a r b c B q m p y:=by
 have v:=ze h.aC;have z:=ze h.ce;have A:=ze h.sl;have o:¬q.ownBlock=some a:=λe=>by rcases i _ e with e|e;exact h.sm e;omega
 refine⟨zh _ _ _ _ ((hF.block a v h.sm).trans h.aC),(zr (λe=>h.Nt e.symm) rfl).trans ((hF.block b z h.s1).trans h.ce),(zr (λe=>h.NU e.symm) rfl).trans ((hF.block c A h.s2).trans h.sl),zi u (λj _ _ e=>zr (λs=>o (s▸e)) rfl),h.Nt,h.NU,h.NV,o,λe=>?_,λe=>?_,by simpa [World.setCell] using aJ h.hB hF.size⟩
 . rcases i _ e with e|e
   . exact h.s1 e
   omega
 rcases i _ e with e|e
 . exact h.s2 e
 omega
theorem O7 (a r b c B:Nat)(d:Xv)(m p f:List Int)(v:Int)(w:Xw)(o:MB w a r b c B d m p f)(P:f.length+1<=10000000) :
 xK 109 #[xP a,xI v] w (λe E=>e=.returned (.tuple #[])/\∃q,MB E a r b c B q m p (v::f)/\fV a b c w d E q):=by
 obtain⟨K,L,M,N,O,Q⟩:=zU o.aC;obtain⟨I,H,A,C,D⟩:=info_parts Tryz.Pz;have J:f.length+1<=maxLen:=by unfold maxLen;omega
 have z:(f.length+1)*8<=140737488355328:=by omega
 have F:=o.hB;go_enter func109,ntmps109;go_wp2_with (at_builtin;refine o4 _ rfl (.tmp 8) (.tmp 10) 32 rfl B 2 I _ 1 8 underlying32 H A C D rfl (by decide) d f.length (zK f.reverse) rfl (o.alloc _).own (xD w.heap.size 0) 1 1 (zK [v]) rfl rfl (zN (zc w _) rfl) Pk J z (by rw[au];exact Nat.le_succ_of_le F) ?_;intro X Y k l h;have s:=Fr.gi l;have u:=(s.block a (by rw[au];omega) (o.sm)).trans (o.alloc _).aC;obtain⟨R,S,T,U,V,W⟩:=zU u;obtain⟨Z,G,rfl⟩:=kE k;clear l u);go_end0;refine⟨rfl,_,(o.alloc _).grown s (by simpa [zK] using k) (λj e=>h j e),?_,λj e=>?_⟩
 . refine Fr.setCell ?_ (ao (ao rfl)) _;exact ((Fr.refl _ w).alloc _).dr s (λi _ o=>ap (ap (ap o)))
 rcases h j e with e|e
 . exact ao e
 right;rw[au] at e;omega
end
section
def pk (a b c:Int):Int:=if a=0 then c else b
theorem PK (a b c:Int)(w:Xw):xK 111 #[xI a,xI b,xI c] w (λe f=>e=.returned (xI (pk a b c))/\w=f):=by
 by_cases h:a=0
 . subst h;go_enter func111,ntmps111;go_wp2_with fail;go_ret;exact⟨rfl,rfl⟩
 have g:(a==0)=false:=by simpa using h
 have d:(a != 0)=true:=by simpa using h
 rw[show pk a b c=b from ae h];clear h;go_enter func111,ntmps111;go_wp2_with fail;go_ret;exact⟨rfl,rfl⟩
def Ph (b:Bool):Int:=if b then 1 else 0
theorem P7 (b:Bool)(w:Xw):xK 112 #[.bool b] w (λe a=>e=.returned (xI (Ph b))/\w=a):=by
 cases b
 all_goals
  go_enter func112,ntmps112;go_wp2_with fail;go_ret;exact⟨rfl,rfl⟩
def MZ (c:Nat)(a b:Int):Int :=
 if c=9 then bits .and .i64 a b else if c=10 then bits .or .i64 a b else if c=11 then bits .xor .i64 a b
 else if c=12 then Ph (a==b) else if c=13 then Ph (a != b) else if c=14 then Ph (decide (a<b)) else if c=15 then Ph (decide (a<=b))
 else if c=16 then wrap64 (a+b) else if c=17 then wrap64 (a-b) else if c=18 then wrap64 (a*b)
 else if b=0 then 0 else if c=19 then wrap64 (a.tdiv b) else a.tmod b
theorem SN (c:Nat)(h:c=19∨c=20)(a b:Int)(w:Xw):xK 168 #[.int .u8 c,xI a,xI b] w (λe j=>e=.returned (xI (MZ c a b))/\w=j):=by
 by_cases d:b=0
 . subst d;have g:MZ c a 0=0:=by rcases h with rfl|rfl <;> simp[MZ]
   rw[g];clear h g;go_enter func168,ntmps168;go_wp2_with fail;go_ret;exact⟨rfl,rfl⟩
 have i:(b==0)=false:=by simpa using d
 rcases h with rfl|rfl
 . have f:aa (MZ 19 a b=wrap64 (a.tdiv b)):=by unfold aa;simp[MZ,d]
   go_enter func168,ntmps168;go_wp2_with fail;go_ret;exact⟨by rw[f.o];rfl,rfl⟩
 have f:aa (MZ 20 a b=a.tmod b):=by unfold aa;simp[MZ,d]
 go_enter func168,ntmps168;go_wp2_with fail;go_ret;exact⟨by rw[f.o];rfl,rfl⟩
theorem Xz (a b:Int)(w:Xw):xK 113 #[.int .u8 9,xI a,xI b] w (λe c=>e=.returned (xI (MZ 9 a b))/\w=c):=by go_enter func113,ntmps113;go_wp2_with fail;go_ret;exact⟨rfl,rfl⟩
theorem WN (a b:Int)(w:Xw):xK 113 #[.int .u8 10,xI a,xI b] w (λe c=>e=.returned (xI (MZ 10 a b))/\w=c):=by go_enter func113,ntmps113;go_wp2_with fail;go_ret;exact⟨rfl,rfl⟩
theorem Wz (a b:Int)(w:Xw):xK 113 #[.int .u8 11,xI a,xI b] w (λe c=>e=.returned (xI (MZ 11 a b))/\w=c):=by go_enter func113,ntmps113;go_wp2_with fail;go_ret;exact⟨rfl,rfl⟩
theorem WY (a b:Int)(w:Xw):xK 113 #[.int .u8 12,xI a,xI b] w (λe c=>e=.returned (xI (MZ 12 a b))/\w=c):=by go_enter func113,ntmps113;go_wp2_with (go_at_call 112;refine (P7 _ _).mono ?_;rintro e d ⟨rfl,rfl⟩);go_ret;exact⟨rfl,rfl⟩
theorem W2 (a b:Int)(w:Xw):xK 113 #[.int .u8 13,xI a,xI b] w (λe c=>e=.returned (xI (MZ 13 a b))/\w=c):=by go_enter func113,ntmps113;go_wp2_with (go_at_call 112;refine (P7 _ _).mono ?_;rintro e d ⟨rfl,rfl⟩);go_ret;exact⟨rfl,rfl⟩
theorem WP (a b:Int)(w:Xw):xK 113 #[.int .u8 14,xI a,xI b] w (λe c=>e=.returned (xI (MZ 14 a b))/\w=c):=by go_enter func113,ntmps113;go_wp2_with (go_at_call 112;refine (P7 _ _).mono ?_;rintro e d ⟨rfl,rfl⟩);go_ret;exact⟨rfl,rfl⟩
theorem WG (a b:Int)(w:Xw):xK 113 #[.int .u8 15,xI a,xI b] w (λe c=>e=.returned (xI (MZ 15 a b))/\w=c):=by go_enter func113,ntmps113;go_wp2_with (go_at_call 112;refine (P7 _ _).mono ?_;rintro e d ⟨rfl,rfl⟩);go_ret;exact⟨rfl,rfl⟩
theorem WW (a b:Int)(w:Xw):xK 113 #[.int .u8 16,xI a,xI b] w (λe c=>e=.returned (xI (MZ 16 a b))/\w=c):=by go_enter func113,ntmps113;go_wp2_with fail;go_ret;exact⟨rfl,rfl⟩
theorem WF (a b:Int)(w:Xw):xK 113 #[.int .u8 17,xI a,xI b] w (λe c=>e=.returned (xI (MZ 17 a b))/\w=c):=by go_enter func113,ntmps113;go_wp2_with fail;go_ret;exact⟨rfl,rfl⟩
theorem WR (a b:Int)(w:Xw):xK 113 #[.int .u8 18,xI a,xI b] w (λe c=>e=.returned (xI (MZ 18 a b))/\w=c):=by go_enter func113,ntmps113;go_wp2_with fail;go_ret;exact⟨rfl,rfl⟩
theorem W1 (a b:Int)(w:Xw):xK 113 #[.int .u8 19,xI a,xI b] w (λe c=>e=.returned (xI (MZ 19 a b))/\w=c):=by go_enter func113,ntmps113;go_wp2_with (go_at_call 168;refine (SN 19 (by decide) a b _).mono ?_;rintro e d ⟨rfl,rfl⟩);go_ret;exact⟨rfl,rfl⟩
theorem W5 (a b:Int)(w:Xw):xK 113 #[.int .u8 20,xI a,xI b] w (λe c=>e=.returned (xI (MZ 20 a b))/\w=c):=by go_enter func113,ntmps113;go_wp2_with (go_at_call 168;refine (SN 20 (by decide) a b _).mono ?_;rintro e d ⟨rfl,rfl⟩);go_ret;exact⟨rfl,rfl⟩
theorem We (c:Nat)(d:9<=c)(f:c<=20)(a b:Int)(w:Xw):xK 113 #[.int .u8 c,xI a,xI b] w (λe g=>e=.returned (xI (MZ c a b))/\w=g):=by
 match c,d,f with
 | 9,_,_=>exact Xz a b w
 | 10,_,_=>exact WN a b w
 | 11,_,_=>exact Wz a b w
 | 12,_,_=>exact WY a b w
 | 13,_,_=>exact W2 a b w
 | 14,_,_=>exact WP a b w
 | 15,_,_=>exact WG a b w
 | 16,_,_=>exact WW a b w
 | 17,_,_=>exact WF a b w
 | 18,_,_=>exact WR a b w
 | 19,_,_=>exact W1 a b w
 | 20,_,_=>exact W5 a b w
 | n+21,_,h=>omega
end
section
variable {m g i:List Int} {B b c d n a:Nat} {o:Obj} {e:Xy} {f p:Xv} {w q:Xw}
theorem OG {l:List Int}(h:w.heap[b]?=some (.cells (zK l).toArray e (0,0))){k:Nat}{v:Int}(j:l[k]?=some v):w.cell? (xD b k)=some (xI v):=by simp[World.cell?,h,zK,j]
theorem lh {l:Xa}(h:w.heap[b]?=some (.cells l e (0,0)))(k:Nat):w.frozen? (xD b k)=false:=by simp[World.frozen?,h]
def Ot (a n c d B:Nat)(w:Xw)(f:Xv)(m g i:List Int)(e:Ending)(q:Xw):Prop :=
 e=.returned (.tuple #[])/\∃p,MB q a n c d B p m g i/\fV a c d w f q p
theorem fV.Oi (h:fV a c d (w.alloc o) f q p):fV a c d w f q p :=
 fV.trans (⟨(Fr.refl _ w).alloc o,λ_ h=>ao h⟩:fV a c d w f (w.alloc o) f) h
theorem fV.cQ (h:fV a c d w.drew f q p):fV a c d w f q p:=⟨h.fr.cQ,h.new⟩
theorem MB.drew (h:MB w a n c d B f m g i):MB w.drew a n c d B f m g i:=h.fr (λ_ _=>rfl) (an _)
theorem SW (l:List Int)(k:Nat)(v:Int):(zK l).toArray.setIfInBounds k (xI v)=(zK (l.set k v)).toArray:=by simp[zK]
theorem MB.slot (h:MB w a n c d B f m g i)(k:Nat)(v:Int):MB (w.setCell (xD d k) (xI v)) a n c d B f m (g.set k v) i:=by
 refine⟨?_,(zr h.NV rfl).trans h.ce,?_,zi h.own (λj _ _ e=>zr (λl=>h.s2 (l▸e)) rfl),h.Nt,h.NU,h.NV,h.sm,h.s1,h.s2,by simpa [World.setCell] using h.hB⟩
 . rw[List.length_set];exact (zr h.NU rfl).trans h.aC
 rw[<- SW];exact zh _ _ _ _ h.sl
theorem MB.cell (h:MB w a n c d B f m g i)(k:Nat)(v:Int):MB (w.setCell (xD c k) (xI v)) a n c d B f (m.set k v) g i:=by
 refine⟨?_,?_,(zr (λe=>h.NV e.symm) rfl).trans h.sl,zi h.own (λj _ _ e=>zr (λl=>h.s1 (l▸e)) rfl),h.Nt,h.NU,h.NV,h.sm,h.s1,h.s2,by simpa [World.setCell] using h.hB⟩
 . rw[List.length_set];exact (zr h.Nt rfl).trans h.aC
 rw[<- SW];exact zh _ _ _ _ h.ce
theorem fV.slot (h:fV a c d w f q p)(k:Nat)(v:Xv):fV a c d w f (q.setCell (xD d k) v) p:=⟨h.fr.setCell (ao (ap (ap (ao rfl)))) v,h.new⟩
theorem fV.cell (h:fV a c d w f q p)(k:Nat)(v:Xv):fV a c d w f (q.setCell (xD c k) v) p:=⟨h.fr.setCell (ao (ap (ao rfl))) v,h.new⟩
theorem MB.lt (h:MB w a n c d B f m g i):a<w.heap.size/\c<w.heap.size/\d<w.heap.size/\∀j,f.ownBlock=some j->j<w.heap.size :=
 ⟨ze h.aC,ze h.ce,ze h.sl,λj e=>(h.own.lt j e).2⟩
theorem MB.box {k:Xw}{j:Xv}(h:MB w a n c d B f m g i)(hF:fV a c d (w.alloc o) f k j):k.heap[w.heap.size]?=some o:=by
 obtain⟨r,s,t,l⟩:=h.lt;refine (hF.fr.block w.heap.size (by simp) (λe=>?_)).trans (zc w o);rcases e with e|e|e|e
 . omega
 . omega
 . omega
 have:=l _ e;omega
theorem XU:zH 110:=λ_ _=>by kernel_rfl
theorem RM:zH 109:=λ_ _=>by kernel_rfl
theorem XF:zH 111:=λ_ _=>by kernel_rfl
theorem X0 (a n c d B:Nat)(f:Xv)(m g i:List Int)(x:Int)(w:Xw)(k:MB w a n c d B f m g i)(l:i.length+1<=10000000) :
 xK 59 #[xP a,.agg #[.int .u8 0,xI x]] w (Ot a n c d B w f m g (x::i)):=by
 go_enter func59,ntmps59;go_wp2_with (go_at_call 109;refine (O7 a n c d B f m g i x _ (k.alloc _) l).mono ?_;rintro e s ⟨rfl,r,j,h⟩);go_end0;exact⟨rfl,_,j,h.Oi⟩
theorem Xd (a n c d B:Nat)(f:Xv)(m g i:List Int)(k:Nat)(v:Int)(w:Xw)(l:MB w a n c d B f m g (v::i))(u:k<g.length)(E:i.length+1<=10000000) :
 xK 59 #[xP a,.agg #[.int .u8 2,xI k]] w (Ot a n c d B w f m (g.set k v) i):=by
 obtain⟨y,z,A,C,D,F⟩:=zU l.aC;go_enter func59,ntmps59;go_upto_region 9 with fail;have r:∀o,aa (MB (w.alloc o).drew a n c d B f m g (v::i)):=λo=>(l.alloc o).drew;obtain⟨t,s⟩:∃t,g[k]?=some t:=⟨_,av u⟩;go_region_law (refine kD rfl 110 (.tmp 50) 61 rfl XU (xP a) rfl (NG a n c d B f m g i v _ (r _).out (by omega)) ?_;rintro e Q ⟨rfl,x,h,j⟩;refine⟨_,rfl,?_⟩;obtain⟨G,H,I,J,K,L⟩:=zU h.aC;obtain⟨M,N,O,P⟩:=zp (l.box j.cQ);have t0:=lh h.sl;have t1:=OG h.sl s);all_goals go_wp2_with fail
 all_goals go_end0
 all_goals exact⟨rfl,_,h.slot k v,(j.slot k _).cQ.Oi⟩
end
section
theorem XJ (f k i j B:Nat)(r:Xv)(a b g:List Int)(v x:Int)(w:Xw)(h:MB w f k i j B r a b (v::g))(F:g.length+10<=10000000) :
 xK 59 #[xP f,.agg #[.int .u8 7,xI x]] w (Ot f k i j B w r a b (wrap64 (-v)::g)):=by
 have o:=za h;obtain⟨z,A,C,D,E,G⟩:=zU h.aC;obtain⟨_,t,u,_⟩:=h.lt;go_enter func59,ntmps59;go_wp2_with (first|(go_at_call 109;refine (O7 f k i j B s a b (g) (_) _ p.o (by simp;omega)).mono ?_;rintro e U ⟨rfl,y,d,hF⟩;obtain⟨I,K,M,O,f2,z2⟩:=zU d.aC;have m:=za (l.o.trans hF);have n:=za (c.o.trans hF);obtain⟨Q,S,Y,W⟩:=zp (o.o.box n.o);have q:=za d)|(go_at_call 110;refine (NG f k i j B r a b (g) v _ (o.o.alloc _) (by simp;omega)).mono ?_;rintro e T ⟨rfl,s,d,hF⟩;obtain⟨H,J,L,N,f1,Z⟩:=zU d.aC;have l:=za hF.Oi;have c:=za hF;obtain⟨P,R,X,V⟩:=zp (o.o.box c.o);have p:=za d));go_end0;exact⟨rfl,_,q.o,m.o⟩
theorem XE (f k i j B:Nat)(r:Xv)(a b g:List Int)(v x:Int)(w:Xw)(h:MB w f k i j B r a b (v::g))(F:g.length+10<=10000000) :
 xK 59 #[xP f,.agg #[.int .u8 8,xI x]] w (Ot f k i j B w r a b (Ph (v==0)::g)):=by
 have o:=za h;obtain⟨z,A,C,D,E,G⟩:=zU h.aC;obtain⟨_,t,u,_⟩:=h.lt;go_enter func59,ntmps59;go_wp2_with (first|(go_at_call 109;refine (O7 f k i j B s a b (g) (_) _ p.o (by simp;omega)).mono ?_;rintro e U ⟨rfl,y,d,hF⟩;obtain⟨I,K,M,O,f2,z2⟩:=zU d.aC;have m:=za (l.o.trans hF);have n:=za (c.o.trans hF);obtain⟨Q,S,Z,X⟩:=zp (o.o.box n.o);have q:=za d)|(go_at_call 112;refine (P7 _ _).mono ?_;rintro e V ⟨rfl,rfl⟩)|(go_at_call 110;refine (NG f k i j B r a b (g) v _ (o.o.alloc _) (by simp;omega)).mono ?_;rintro e T ⟨rfl,s,d,hF⟩;obtain⟨H,J,L,N,f1,ab⟩:=zU d.aC;have l:=za hF.Oi;have c:=za hF;obtain⟨P,R,Y,W⟩:=zp (o.o.box c.o);have p:=za d));go_end0;exact⟨rfl,_,q.o,m.o⟩
theorem Xt (g l j k B:Nat)(D:Xv)(a b i:List Int)(C f c x:Int)(w:Xw)(h:MB w g l j k B D a b (C::f::c::i))(P:i.length+10<=10000000) :
 xK 59 #[xP g,.agg #[.int .u8 5,xI x]] w (Ot g l j k B w D a b ((pk c f C)::i)):=by
 have p:=za h;obtain⟨K,L,M,N,O,Q⟩:=zU h.aC;obtain⟨_,H,I,_⟩:=h.lt;go_enter func59,ntmps59;go_wp2_with (first|(go_at_call 109;refine (O7 g l j k B G a b (i) (_) _ z.o (by simp;omega)).mono ?_;rintro e w4 ⟨rfl,J,d,hF⟩;obtain⟨U,Y,aA,aV,f4,z4⟩:=zU d.aC;have t:=za (s.o.trans hF);have u:=za (o.o.trans hF);obtain⟨u4,v4,a3,x4⟩:=zp (p.o.box u.o);have A:=za d)|(go_at_call 110;refine (NG g l j k B F a b (i) c _ y.o (by simp;omega)).mono ?_;rintro e w3 ⟨rfl,G,d,hF⟩;obtain⟨T,X,ar,aL,f3,z3⟩:=zU d.aC;have s:=za (r.o.trans hF);have o:=za (n.o.trans hF);obtain⟨u3,v3,a2,x3⟩:=zp (p.o.box o.o);have z:=za d)|(go_at_call 110;refine (NG g l j k B E a b (c::i) f _ v.o (by simp;omega)).mono ?_;rintro e w2 ⟨rfl,F,d,hF⟩;obtain⟨S,W,ab,s2,f2,z2⟩:=zU d.aC;have r:=za (q.o.trans hF);have n:=za (m.o.trans hF);obtain⟨u2,v2,a1,x2⟩:=zp (p.o.box n.o);have y:=za d)|(go_at_call 111;refine (PK _ _ _ _).mono ?_;rintro e w9 ⟨rfl,rfl⟩)|(go_at_call 110;refine (NG g l j k B D a b (f::c::i) C _ (p.o.alloc _) (by simp;omega)).mono ?_;rintro e w1 ⟨rfl,E,d,hF⟩;obtain⟨R,V,Z,s1,f1,a4⟩:=zU d.aC;have q:=za hF.Oi;have m:=za hF;obtain⟨u1,v1,a0,x1⟩:=zp (p.o.box m.o);have v:=za d));go_end0;exact⟨rfl,_,A.o,t.o⟩
theorem XK (c l i j B:Nat)(m:Xv)(b a f:List Int)(k:Nat)(v:Int)(n:a[k]?=some v)(w:Xw)(d:MB w c l i j B m b a (f))(z:f.length+10<=10000000) :
 xK 59 #[xP c,.agg #[.int .u8 1,xI k]] w (Ot c l i j B w m b a (v::f)):=by
 obtain⟨s,t,u,x,y,A⟩:=zU d.aC;obtain⟨_,o,p,_⟩:=d.lt;have t1:=OG d.sl n;have q:=(aB.1 n).1;go_enter func59,ntmps59;go_upto_region 7 with fail;go_region_law (refine rl rfl 109 (.tmp 32) (.tmp 40) 61 2 rfl RM (xP c) (xI v) rfl rfl (O7 c l i j B m b a f v _ (d.alloc _).drew (by omega)) ?_;rintro e C ⟨rfl,r,h,g⟩;refine⟨_,rfl,?_⟩);all_goals go_wp2_with fail
 all_goals go_end0
 all_goals exact⟨rfl,_,h,g.cQ.Oi⟩
theorem X4 (c l i j B:Nat)(m:Xv)(a b f:List Int)(k:Nat)(v:Int)(n:a[k]?=some v)(w:Xw)(d:MB w c l i j B m a b (f))(z:f.length+10<=10000000) :
 xK 59 #[xP c,.agg #[.int .u8 3,xI k]] w (Ot c l i j B w m a b (v::f)):=by
 obtain⟨s,t,u,x,y,A⟩:=zU d.aC;obtain⟨_,o,p,_⟩:=d.lt;have t1:=OG d.ce n;have q:=(aB.1 n).1;go_enter func59,ntmps59;go_upto_region 11 with fail;go_region_law (refine rl rfl 109 (.tmp 55) (.tmp 63) 61 2 rfl RM (xP c) (xI v) rfl rfl (O7 c l i j B m a b f v _ (d.alloc _).drew (by omega)) ?_;rintro e C ⟨rfl,r,h,g⟩;refine⟨_,rfl,?_⟩);all_goals go_wp2_with fail
 all_goals go_end0
 all_goals exact⟨rfl,_,h,g.cQ.Oi⟩
theorem Xf (f n l m B:Nat)(A:Xv)(b a g:List Int)(k:Nat)(c:Int)(E:a[k]?=some c)(p d:Int)(w:Xw)(h:MB w f n l m B A b a (p::d::g))(P:g.length+10<=10000000) :
 xK 59 #[xP f,.agg #[.int .u8 6,xI k]] w (Ot f n l m B w A b a ((pk c d p)::g)):=by
 have u:=za h;obtain⟨K,L,M,N,O,Q⟩:=zU h.aC;obtain⟨_,G,H,_⟩:=h.lt;have F:=za E;have I:=(aB.1 E).1;go_enter func59,ntmps59;go_upto_region 20 with (first|(go_at_call 110;refine (NG f n l m B C b a (g) d _ v.o (by simp;omega)).mono ?_;rintro e w2 ⟨rfl,D,o,hF⟩;obtain⟨S,U,W,Y,f2,z2⟩:=zU o.aC;have r:=za (q.o.trans hF);have t:=za (i.o.trans hF);obtain⟨u2,v2,ar,x2⟩:=zp (u.o.box t.o);have j:=za o)|(go_at_call 110;refine (NG f n l m B A b a (d::g) p _ (u.o.alloc _) (by simp;omega)).mono ?_;rintro e w1 ⟨rfl,C,o,hF⟩;obtain⟨R,T,V,X,f1,aA⟩:=zU o.aC;have q:=za hF.Oi;have i:=za hF;obtain⟨Z,v1,ab,x1⟩:=zp (u.o.box i.o);have v:=za o));have t1:=OG j.o.sl F.o;go_region_law (first|(refine rl rfl 109 (.tmp 107) (.tmp 118) 61 2 rfl RM (xP f) (xI (pk c d p)) rfl rfl (O7 f n l m B D b a g _ _ j.o.drew (by omega)) ?_;rintro e w3 ⟨rfl,J,z,y⟩;refine⟨_,rfl,?_⟩;have x:=za z;have s:=za y)|(refine V0 rfl 111 (.tmp 115) (.tmp 116) (.tmp 117) 2 2 2 rfl XF (xI c) (xI d) (xI p) rfl rfl rfl (PK _ _ _ _) ?_;rintro e w9 ⟨rfl,rfl⟩;refine⟨_,rfl,?_⟩));all_goals go_wp2_with fail
 all_goals go_end0
 all_goals exact⟨rfl,_,x.o,r.o.trans s.o.cQ⟩
theorem XO (i o m n B:Nat)(E:Xv)(c d j:List Int)(f:Nat)(C:9<=f)(D:f<=20)(a b x:Int)(w:Xw)(h:MB w i o m n B E c d (b::a::j))(P:j.length+10<=10000000) :
 xK 59 #[xP i,.agg #[.int .u8 f,xI x]] w (Ot i o m n B w E c d (MZ f a b::j)):=by
 have z:=za C;have A:=za D;have R:((f:Int)==0)=false:=by simp;omega
 have S:((f:Int)==1)=false:=by simp;omega
 have T:((f:Int)==2)=false:=by simp;omega
 have U:((f:Int)==3)=false:=by simp;omega
 have V:((f:Int)==4)=false:=by simp;omega
 have W:((f:Int)==5)=false:=by simp;omega
 have X:((f:Int)==6)=false:=by simp;omega
 have Y:((f:Int)==7)=false:=by simp;omega
 have Z:((f:Int)==8)=false:=by simp;omega
 have p:=za h;obtain⟨K,L,M,N,O,Q⟩:=zU h.aC;obtain⟨_,H,I,_⟩:=h.lt;go_enter func59,ntmps59;go_wp2_with (first|(go_at_call 109;refine (O7 i o m n B G c d (j) (_) _ v.o (by simp;omega)).mono ?_;rintro e w3 ⟨rfl,J,g,hF⟩;obtain⟨p3,q3,a0,a1,f3,z3⟩:=zU g.aC;have s:=za (r.o.trans hF);have t:=za (l.o.trans hF);obtain⟨u3,v3,a4,x3⟩:=zp (p.o.box t.o);have y:=za g)|(go_at_call 110;refine (NG i o m n B F c d (j) a _ u.o (by simp;omega)).mono ?_;rintro e w2 ⟨rfl,G,g,hF⟩;obtain⟨ar,q2,aV,s2,f2,z2⟩:=zU g.aC;have r:=za (q.o.trans hF);have l:=za (k.o.trans hF);obtain⟨u2,v2,a3,x2⟩:=zp (p.o.box l.o);have v:=za g)|(go_at_call 113;refine (We f z.o A.o _ _ _).mono ?_;rintro e w9 ⟨rfl,rfl⟩)|(go_at_call 110;refine (NG i o m n B E c d (a::j) b _ (p.o.alloc _) (by simp;omega)).mono ?_;rintro e w1 ⟨rfl,F,g,hF⟩;obtain⟨ab,aA,aL,s1,f1,a5⟩:=zU g.aC;have q:=za hF.Oi;have k:=za hF;obtain⟨u1,v1,a2,x1⟩:=zp (p.o.box k.o);have u:=za g));go_end0;exact⟨rfl,_,y.o,s.o⟩
end
end Go.Proofs.YtbicmofihhjgbaaGreatDoor
